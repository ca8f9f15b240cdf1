/- Contracts of package shape's functions of one shape (Good, Size, At, Where, Turned), and of the document's own Good. -/
import Derived.Test.YtobpjlgiefnmjaaDoorFits
import Derived.Deep.QuietTactic
import Derived.BigQuiet
import Derived.Lib.QuietBelow
import Derived.OwnWalk
set_option linter.unusedVariables false
namespace Go.Proofs.YtobpjlgiefnmjaaDoor
open Go.RowKit
namespace Sh
open Ft

/-- Two cells of a struct of two ints. -/
structure Tw (w : World) (b : Nat) (p q : Int) : Prop where
  c0 : w.cell? ⟨b, 0, none⟩ = some (.int .i64 p)
  c1 : w.cell? ⟨b, 1, none⟩ = some (.int .i64 q)
theorem Tw.lt {w : World} {b : Nat} {p q : Int} (h : Tw w b p q) : b < w.heap.size := World.block_lt_of_cell? w _ h.c0
theorem Tw.below {w w' : World} {b : Nat} {p q : Int} (h : Tw w b p q) (hb : Below w.heap.size w w') : Tw w' b p q :=
  ⟨(hb.cell (p := ⟨b, 0, none⟩) h.lt).trans h.c0, (hb.cell (p := ⟨b, 1, none⟩) h.lt).trans h.c1⟩
theorem Tw.fresh (w : World) (p q : Int) (t : TypeId) : Tw (w.alloc (.cells #[.int .i64 p, .int .i64 q] t)) w.heap.size p q := ⟨by simp [go_sem], by simp [go_sem]⟩
theorem Tw.alloc {w : World} {b : Nat} {p q : Int} (h : Tw w b p q) (o : Obj) : Tw (w.alloc o) b p q := h.below ((Below.refl _ _).alloc (Nat.le_refl _) _)
theorem below1 (w : World) (o : Obj) : Below w.heap.size w (w.alloc o) := (Below.refl _ _).alloc (Nat.le_refl _) _

theorem below_drewN {B : Nat} {a w : World} (h : Below B a w) (n : Nat) : Below B a (w.drewN n) := ⟨h.os, h.tape, h.output, h.size, h.block⟩

/-- A shape is right. -/
def Gd (a b : Int) : Prop := ∃ i j : Nat, i + j ≤ 32 ∧ a = ((2 ^ i : Nat) : Int) ∧ b = ((2 ^ j : Nat) : Int)
/-- What Fits answers of a number. -/
def Fit (n r : Int) (o : Bool) : Prop := (∃ j : Nat, j ≤ 32 ∧ n = ((2 ^ j : Nat) : Int) ∧ r = (j : Int) ∧ o = true) ∨ ((∀ j : Nat, j ≤ 32 → n ≠ ((2 ^ j : Nat) : Int)) ∧ r = 0 ∧ o = false)
theorem fit_ex (n : Int) : ∃ r o, Fit n r o := by
  by_cases h : ∃ j : Nat, j ≤ 32 ∧ n = ((2 ^ j : Nat) : Int)
  · obtain ⟨j, hj, e⟩ := h; exact ⟨_, _, Or.inl ⟨j, hj, e, rfl, rfl⟩⟩
  · exact ⟨0, false, Or.inr ⟨fun j hj e => h ⟨j, hj, e⟩, rfl, rfl⟩⟩
theorem Fit.calls {n r : Int} {o : Bool} (h : Fit n r o) (w : World) (hT : Tab w) :
    Calls Tryd.prog 40 #[.int .i64 n] w fun e w' => e = .returned (.tuple #[.int .i64 r, .bool o]) ∧ w = w' := by
  rcases h with ⟨j, hj, rfl, rfl, rfl⟩ | ⟨h, rfl, rfl⟩
  · exact fits_some j hj w hT
  · exact fits_none n h w
theorem Fit.ref {n r : Int} {o : Bool} (h : Fit n r o) (w : World) :
    Calls Tryd.prog 28 #[.int .i64 n] w fun e w' => e = .returned (.int .i64 (if o then r else -1)) ∧ w = w' := by
  rcases h with ⟨j, hj, rfl, rfl, rfl⟩ | ⟨h, rfl, rfl⟩
  · refine ref_any _ _ (fun i hi e => ?_) (fun h => absurd rfl (h j hj)) w
    have e2 : 2 ^ j = 2 ^ i := by omega
    rw [Nat.pow_right_inj (a := 2) (by decide) |>.mp e2]; rfl
  · exact ref_any n _ (fun i hi e => absurd e (h i hi)) (fun _ => rfl) w
theorem Fit.bound {n r : Int} {o : Bool} (h : Fit n r o) : 0 ≤ r ∧ r ≤ 32 := by
  rcases h with ⟨j, hj, rfl, rfl, rfl⟩ | ⟨h, rfl, rfl⟩ <;> omega
theorem Fit.gd {a b r1 r2 : Int} {o1 o2 : Bool} (h1 : Fit a r1 o1) (h2 : Fit b r2 o2) : Gd a b ↔ (o1 && o2 && decide (r1 + r2 ≤ 32)) = true := by
  constructor
  · rintro ⟨i, j, hij, rfl, rfl⟩
    rcases h1 with ⟨i', hi, e, rfl, rfl⟩ | ⟨h, _⟩
    · rcases h2 with ⟨j', hj, e', rfl, rfl⟩ | ⟨h, _⟩
      · have e2 : 2 ^ i = 2 ^ i' := by omega
        have e3 : 2 ^ j = 2 ^ j' := by omega
        have := Nat.pow_right_inj (a := 2) (by decide) |>.mp e2
        have := Nat.pow_right_inj (a := 2) (by decide) |>.mp e3
        simp; omega
      · exact absurd rfl (h j (by omega))
    · exact absurd rfl (h i (by omega))
  · intro h
    simp at h
    obtain ⟨⟨rfl, rfl⟩, h⟩ := h
    rcases h1 with ⟨i, hi, rfl, rfl, _⟩ | ⟨_, _, e⟩
    · rcases h2 with ⟨j, hj, rfl, rfl, _⟩ | ⟨_, _, e⟩
      · exact ⟨i, j, by omega, rfl, rfl⟩
      · cases e
    · cases e

set_option maxHeartbeats 400000 in
theorem good_core (a b r1 r2 : Int) (o1 o2 g : Bool) (hg : (o1 && o2 && decide (r1 + r2 ≤ 32)) = g) (b1 : 0 ≤ r1 ∧ r1 ≤ 32) (b2 : 0 ≤ r2 ∧ r2 ≤ 32)
    (h1 : ∀ W, Tab W → Calls Tryd.prog 40 #[.int .i64 a] W fun e w' => e = .returned (.tuple #[.int .i64 r1, .bool o1]) ∧ W = w')
    (h2 : ∀ W, Tab W → Calls Tryd.prog 40 #[.int .i64 b] W fun e w' => e = .returned (.tuple #[.int .i64 r2, .bool o2]) ∧ W = w') (w : World) (hT : Tab w) :
    Calls Tryd.prog 37 #[.agg #[.int .i64 a, .int .i64 b]] w fun e w' => e = .returned (.bool g) ∧ Below w.heap.size w w' := by
  have C1 := Lib.hid h1
  have C2 := Lib.hid h2
  have HT := Lib.hid (fun o => hT.below (below1 w o))
  have HB := Lib.hid (below1 w)
  clear h1 h2 hT
  go_enter Tryd.func37, Tryd.ntmps37
  go_wp2_with fail
  refine (C1.out _ (HT.out _)).mono ?_
  rintro e w1 ⟨rfl, rfl⟩
  go_wp2_with fail
  refine (C2.out _ (HT.out _)).mono ?_
  rintro e w1 ⟨rfl, rfl⟩
  cases o1
  · simp at hg; subst hg
    go_wp2
    go_ret
    exact ⟨by simp [go_sem], HB.out _⟩
  cases o2
  · simp at hg; subst hg
    go_wp2
    go_ret
    exact ⟨by simp [go_sem], HB.out _⟩
  by_cases h : r1 + r2 ≤ 32
  · simp [h] at hg; subst hg
    go_wp2
    go_ret
    exact ⟨by simp [go_sem], HB.out _⟩
  · simp [h] at hg; subst hg
    go_wp2
    go_ret
    exact ⟨by simp [go_sem]; omega, HB.out _⟩
theorem good (a b : Int) (g : Bool) (hg : g = true ↔ Gd a b) (w : World) (hT : Tab w) :
    Calls Tryd.prog 37 #[.agg #[.int .i64 a, .int .i64 b]] w fun e w' => e = .returned (.bool g) ∧ Below w.heap.size w w' := by
  obtain ⟨r1, o1, f1⟩ := fit_ex a
  obtain ⟨r2, o2, f2⟩ := fit_ex b
  refine good_core a b r1 r2 o1 o2 g ?_ f1.bound f2.bound f1.calls f2.calls w hT
  have := hg.trans (f1.gd f2)
  exact (Bool.eq_iff_iff.2 this).symm

set_option maxHeartbeats 400000 in
theorem ref_walk (a b x1 x2 : Int) (g : Bool) (hg : (decide (0 ≤ x1) && decide (0 ≤ x2) && decide (x1 + x2 ≤ 32)) = g) (b1 : -1 ≤ x1 ∧ x1 ≤ 32) (b2 : -1 ≤ x2 ∧ x2 ≤ 32)
    (h1 : ∀ W, Calls Tryd.prog 28 #[.int .i64 a] W fun e w' => e = .returned (.int .i64 x1) ∧ W = w')
    (h2 : ∀ W, Calls Tryd.prog 28 #[.int .i64 b] W fun e w' => e = .returned (.int .i64 x2) ∧ W = w') (w : World) :
    Calls Tryd.prog 10 #[.agg #[.int .i64 a, .int .i64 b]] w fun e w' => e = .returned (.bool g) ∧ Below w.heap.size w w' := by
  have C1 := Lib.hid h1
  have C2 := Lib.hid h2
  have HB := Lib.hid (below1 w)
  clear h1 h2
  go_enter Tryd.func10, Tryd.ntmps10
  go_wp2_with fail
  refine (C1.out _).mono ?_
  rintro e w1 ⟨rfl, rfl⟩
  go_wp2_with fail
  refine (C2.out _).mono ?_
  rintro e w1 ⟨rfl, rfl⟩
  by_cases h1 : 0 ≤ x1
  · by_cases h2 : 0 ≤ x2
    · by_cases h : x1 + x2 ≤ 32
      · simp [h1, h2, h] at hg; subst hg
        go_wp2
        go_ret
        exact ⟨by simp [go_sem], HB.out _⟩
      · simp [h1, h2, h] at hg; subst hg
        go_wp2
        go_ret
        exact ⟨by simp [go_sem]; omega, HB.out _⟩
    · simp [h2] at hg; subst hg
      go_wp2
      go_ret
      exact ⟨by simp [go_sem], HB.out _⟩
  · simp [h1] at hg; subst hg
    go_wp2
    go_ret
    exact ⟨by simp [go_sem], HB.out _⟩
theorem ref (a b : Int) (g : Bool) (hg : g = true ↔ Gd a b) (w : World) :
    Calls Tryd.prog 10 #[.agg #[.int .i64 a, .int .i64 b]] w fun e w' => e = .returned (.bool g) ∧ Below w.heap.size w w' := by
  obtain ⟨r1, o1, f1⟩ := fit_ex a
  obtain ⟨r2, o2, f2⟩ := fit_ex b
  have := hg.trans (f1.gd f2)
  have e := (Bool.eq_iff_iff.2 this).symm
  have c1 := f1.bound
  have c2 := f2.bound
  refine ref_walk a b _ _ g ?_ (by cases o1 <;> simp <;> omega) (by cases o2 <;> simp <;> omega) f1.ref f2.ref w
  rw [← e]
  cases o1 <;> cases o2 <;> simp <;> omega

theorem Gd.bound {a b : Int} (h : Gd a b) : 0 < a ∧ a ≤ 4294967296 ∧ 0 < b ∧ b ≤ 4294967296 ∧ a * b ≤ 4294967296 := by
  obtain ⟨i, j, hij, rfl, rfl⟩ := h
  have h1 : 0 < 2 ^ i := Nat.two_pow_pos i
  have h2 : 0 < 2 ^ j := Nat.two_pow_pos j
  have h3 : 2 ^ i ≤ 2 ^ 32 := Nat.pow_le_pow_right (by decide) (by omega)
  have h4 : 2 ^ j ≤ 2 ^ 32 := Nat.pow_le_pow_right (by decide) (by omega)
  have h5 : 2 ^ i * 2 ^ j ≤ 2 ^ 32 := by rw [← Nat.pow_add]; exact Nat.pow_le_pow_right (by decide) hij
  have h6 : ((2 ^ i : Nat) : Int) * ((2 ^ j : Nat) : Int) = ((2 ^ i * 2 ^ j : Nat) : Int) := by simp
  rw [h6]
  generalize 2 ^ i * 2 ^ j = z at *
  omega
theorem place_lt {a b r c : Int} (h0 : 0 ≤ r) (h1 : r < a) (h2 : 0 ≤ c) (h3 : c < b) : 0 ≤ r * b ∧ 0 ≤ r * b + c ∧ r * b + c < a * b := by
  have e1 : 0 ≤ r * b := Int.mul_nonneg h0 (by omega)
  have e2 : (r + 1) * b ≤ a * b := Int.mul_le_mul_of_nonneg_right (by omega) (by omega)
  have e3 : (r + 1) * b = r * b + b := by rw [Int.add_mul, Int.one_mul]
  omega

set_option maxHeartbeats 400000 in
theorem within (i n : Int) (o : Bool) (ho : (decide (0 ≤ i) && decide (i < n)) = o) (w : World) :
    Calls Tryd.prog 38 #[.int .i64 i, .int .i64 n] w fun e w' => e = .returned (.bool o) ∧ w = w' := by
  by_cases h1 : 0 ≤ i
  · by_cases h2 : i < n
    · simp [h1, h2] at ho; subst ho
      go_enter Tryd.func38, Tryd.ntmps38
      go_wp2
      go_ret
      exact ⟨by simp [go_sem]; try omega, rfl⟩
    · simp [h1, h2] at ho; subst ho
      go_enter Tryd.func38, Tryd.ntmps38
      go_wp2
      go_ret
      exact ⟨by simp [go_sem]; try omega, rfl⟩
  · simp [h1] at ho; subst ho
    go_enter Tryd.func38, Tryd.ntmps38
    go_wp2
    go_ret
    exact ⟨by simp [go_sem], rfl⟩

set_option maxHeartbeats 400000 in
theorem size_no (a b : Int) (h : ¬ Gd a b) (w : World) (hT : Tab w) :
    Calls Tryd.prog 26 #[.agg #[.int .i64 a, .int .i64 b]] w fun e w' => e = .returned (.int .i64 0) ∧ Below w.heap.size w w' := by
  have C1 := Lib.hid (fun o => good a b false (by simp [h]) (w.alloc o) (hT.below (below1 w o)))
  have HB := Lib.hid (below1 w)
  clear h hT
  go_enter Tryd.func26, Tryd.ntmps26
  go_wp2_with fail
  refine (C1.out _).mono ?_
  rintro e w1 ⟨rfl, d1⟩
  have c1 := (HB.out _).trans (d1.mono (HB.out _).size)
  go_wp2
  go_ret
  exact ⟨rfl, c1⟩
set_option maxHeartbeats 400000 in
theorem size_yes (a b n : Int) (h : Gd a b) (hn : a * b = n) (w : World) (hT : Tab w) :
    Calls Tryd.prog 26 #[.agg #[.int .i64 a, .int .i64 b]] w fun e w' => e = .returned (.int .i64 n) ∧ Below w.heap.size w w' := by
  have C1 := Lib.hid (fun o => good a b true (by simp [h]) (w.alloc o) (hT.below (below1 w o)))
  have HB := Lib.hid (below1 w)
  obtain ⟨g1, g2, g3, g4, g5⟩ := h.bound
  have g6 : 0 < a * b := Int.mul_pos g1 g3
  rw [hn] at g5 g6
  have HW : IntKind.i64.wrap (a * b) = n := by rw [hn]; exact IntWalk.i64_in _ (by omega)
  clear h hT hn
  go_enter Tryd.func26, Tryd.ntmps26
  go_wp2_with fail
  refine (C1.out _).mono ?_
  rintro e w1 ⟨rfl, d1⟩
  have T := (Tw.fresh w a b 23).below d1
  have t0 := T.c0
  have t1 := T.c1
  have c1 := (HB.out _).trans (d1.mono (HB.out _).size)
  go_wp2
  go_ret
  exact ⟨rfl, c1⟩

set_option maxHeartbeats 400000 in
theorem at_bad (a b r c : Int) (h : ¬ Gd a b) (w : World) (hT : Tab w) :
    Calls Tryd.prog 31 #[.agg #[.int .i64 a, .int .i64 b], .int .i64 r, .int .i64 c] w fun e w' => e = .returned (.tuple #[.int .i64 0, .int .i64 2]) ∧ Below w.heap.size w w' := by
  have C1 := Lib.hid (fun o => good a b false (by simp [h]) (w.alloc o) (hT.below (below1 w o)))
  have HB := Lib.hid (below1 w)
  clear h hT
  go_enter Tryd.func31, Tryd.ntmps31
  go_wp2_with fail
  refine (C1.out _).mono ?_
  rintro e w1 ⟨rfl, d1⟩
  have c1 := (HB.out _).trans (d1.mono (HB.out _).size)
  go_wp2
  go_ret2
  exact ⟨rfl, c1⟩
set_option maxHeartbeats 400000 in
theorem at_row (a b r c : Int) (h : Gd a b) (hr : r < 0 ∨ a ≤ r) (w : World) (hT : Tab w) :
    Calls Tryd.prog 31 #[.agg #[.int .i64 a, .int .i64 b], .int .i64 r, .int .i64 c] w fun e w' => e = .returned (.tuple #[.int .i64 0, .int .i64 2]) ∧ Below w.heap.size w w' := by
  have C1 := Lib.hid (fun o => good a b true (by simp [h]) (w.alloc o) (hT.below (below1 w o)))
  have C2 := Lib.hid (fun W => within r a false (by simp; omega) W)
  have HB := Lib.hid (below1 w)
  clear h hT hr
  go_enter Tryd.func31, Tryd.ntmps31
  go_wp2_with fail
  refine (C1.out _).mono ?_
  rintro e w1 ⟨rfl, d1⟩
  have T := (Tw.fresh w a b 23).below d1
  have t0 := T.c0
  have t1 := T.c1
  have c1 := (HB.out _).trans (d1.mono (HB.out _).size)
  go_wp2_with fail
  refine (C2.out _).mono ?_
  rintro e w2 ⟨rfl, rfl⟩
  go_wp2
  go_ret2
  exact ⟨rfl, c1⟩
set_option maxHeartbeats 400000 in
theorem at_col (a b r c : Int) (h : Gd a b) (r0 : 0 ≤ r) (r1 : r < a) (hc : c < 0 ∨ b ≤ c) (w : World) (hT : Tab w) :
    Calls Tryd.prog 31 #[.agg #[.int .i64 a, .int .i64 b], .int .i64 r, .int .i64 c] w fun e w' => e = .returned (.tuple #[.int .i64 0, .int .i64 2]) ∧ Below w.heap.size w w' := by
  have C1 := Lib.hid (fun o => good a b true (by simp [h]) (w.alloc o) (hT.below (below1 w o)))
  have C2 := Lib.hid (fun W => within r a true (by simp; omega) W)
  have C3 := Lib.hid (fun W => within c b false (by simp; omega) W)
  have HB := Lib.hid (below1 w)
  clear h hT hc
  go_enter Tryd.func31, Tryd.ntmps31
  go_wp2_with fail
  refine (C1.out _).mono ?_
  rintro e w1 ⟨rfl, d1⟩
  have T := (Tw.fresh w a b 23).below d1
  have t0 := T.c0
  have t1 := T.c1
  have c1 := (HB.out _).trans (d1.mono (HB.out _).size)
  go_wp2_with fail
  refine (C2.out _).mono ?_
  rintro e w2 ⟨rfl, rfl⟩
  go_wp2_with fail
  refine (C3.out _).mono ?_
  rintro e w2 ⟨rfl, rfl⟩
  go_wp2
  go_ret2
  exact ⟨rfl, c1⟩
set_option maxHeartbeats 400000 in
theorem at_in (a b r c n : Int) (h : Gd a b) (r0 : 0 ≤ r) (r1 : r < a) (c0 : 0 ≤ c) (c1 : c < b) (hn : r * b + c = n) (w : World) (hT : Tab w) :
    Calls Tryd.prog 31 #[.agg #[.int .i64 a, .int .i64 b], .int .i64 r, .int .i64 c] w fun e w' => e = .returned (.tuple #[.int .i64 n, .int .i64 0]) ∧ Below w.heap.size w w' := by
  have C1 := Lib.hid (fun o => good a b true (by simp [h]) (w.alloc o) (hT.below (below1 w o)))
  have C2 := Lib.hid (fun W => within r a true (by simp; omega) W)
  have C3 := Lib.hid (fun W => within c b true (by simp; omega) W)
  have HB := Lib.hid (below1 w)
  obtain ⟨g1, g2, g3, g4, g5⟩ := h.bound
  obtain ⟨p1, p2, p3⟩ := place_lt r0 r1 c0 c1
  obtain ⟨m, hm⟩ : ∃ m, m = r * b := ⟨_, rfl⟩
  rw [← hm] at p1 p2 p3 hn
  have W1 : IntKind.i64.wrap (r * b) = m := by rw [← hm]; exact IntWalk.i64_in _ (by omega)
  have W2 : IntKind.i64.wrap (m + c) = n := by rw [← hn]; exact IntWalk.i64_in _ (by omega)
  clear h hT hm hn p1 p2 p3 g5
  go_enter Tryd.func31, Tryd.ntmps31
  go_wp2_with fail
  refine (C1.out _).mono ?_
  rintro e w1 ⟨rfl, d1⟩
  have T := (Tw.fresh w a b 23).below d1
  have t0 := T.c0
  have t1 := T.c1
  have c1 := (HB.out _).trans (d1.mono (HB.out _).size)
  go_wp2_with fail
  refine (C2.out _).mono ?_
  rintro e w2 ⟨rfl, rfl⟩
  go_wp2_with fail
  refine (C3.out _).mono ?_
  rintro e w2 ⟨rfl, rfl⟩
  go_wp2
  go_ret2
  exact ⟨rfl, c1⟩



end Sh
end Go.Proofs.YtobpjlgiefnmjaaDoor
