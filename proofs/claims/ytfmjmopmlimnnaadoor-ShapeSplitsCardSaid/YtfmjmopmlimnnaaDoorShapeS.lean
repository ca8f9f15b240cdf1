/- Contracts of package shape's Splits and Even. -/
import Derived.Test.YtfmjmopmlimnnaaDoorShape
import Derived.Deep.OwnRows
set_option linter.unusedVariables false
namespace Go.Proofs.YtfmjmopmlimnnaaDoor
open Go.RowKit
namespace Sh
open Ft

/-- A block of one's own that holds n shapes, of f rows and g columns, and may be written. -/
structure Sk (w : World) (b n : Nat) (f g : Nat → Nat) : Prop where
  c0 : ∀ i, i < n → w.cell? ⟨b, i * 2, none⟩ = some (.int .i64 (f i : Nat))
  c1 : ∀ i, i < n → w.cell? ⟨b, i * 2 + 1, none⟩ = some (.int .i64 (g i : Nat))
  z0 : ∀ i, i < n → w.frozen? ⟨b, i * 2, none⟩ = false
  z1 : ∀ i, i < n → w.frozen? ⟨b, i * 2 + 1, none⟩ = false
def upd (f : Nat → Nat) (k v : Nat) : Nat → Nat := fun j => if j = k then v else f j
theorem upd_same (f : Nat → Nat) (k v : Nat) : upd f k v k = v := if_pos rfl
theorem upd_other (f : Nat → Nat) (k v : Nat) {j : Nat} (h : j ≠ k) : upd f k v j = f j := if_neg h
section
variable {w w' : World} {b n : Nat} {f g : Nat → Nat}
theorem Sk.lt (h : Sk w b n f g) (h0 : 0 < n) : b < w.heap.size := World.block_lt_of_cell? w _ (h.c0 0 h0)
theorem Sk.below {B : Nat} (h : Sk w b n f g) (hB : b < B) (hb : Below B w w') : Sk w' b n f g :=
  ⟨fun i hi => (hb.cell (p := ⟨b, i * 2, none⟩) hB).trans (h.c0 i hi), fun i hi => (hb.cell (p := ⟨b, i * 2 + 1, none⟩) hB).trans (h.c1 i hi),
   fun i hi => (hb.frozen (p := ⟨b, i * 2, none⟩) hB).trans (h.z0 i hi), fun i hi => (hb.frozen (p := ⟨b, i * 2 + 1, none⟩) hB).trans (h.z1 i hi)⟩
theorem Sk.step (h : Sk w b n f g) (hb : Below w.heap.size w w') : Sk w' b n f g := by
  rcases Nat.eq_zero_or_pos n with e | e
  · subst e; exact ⟨fun i hi => by omega, fun i hi => by omega, fun i hi => by omega, fun i hi => by omega⟩
  · exact h.below (h.lt e) hb
theorem Sk.put (h : Sk w b n f g) (k p q : Nat) (hk : k < n) : Sk ((w.setCell ⟨b, k * 2, none⟩ (.int .i64 (p : Nat))).setCell ⟨b, k * 2 + 1, none⟩ (.int .i64 (q : Nat))) b n (upd f k p) (upd g k q) := by
  refine ⟨fun i hi => ?_, fun i hi => ?_, fun i hi => ?_, fun i hi => ?_⟩
  · rw [World.cell?_setCell_other _ _ _ _ (by simp <;> omega)]
    by_cases e : i = k
    · subst e
      rw [World.cell?_setCell_same _ _ _ (h.c0 i hk), upd_same]
    · rw [World.cell?_setCell_other w _ _ _ (by simp <;> omega), h.c0 i hi, upd_other f k p e]
  · by_cases e : i = k
    · subst e
      rw [World.cell?_setCell_same _ _ _ ((World.cell?_setCell_other w _ _ _ (by simp)).trans (h.c1 i hk)), upd_same]
    · rw [World.cell?_setCell_other _ _ _ _ (by simp <;> omega), World.cell?_setCell_other w _ _ _ (by simp <;> omega), h.c1 i hi, upd_other g k q e]
  · simp only [World.frozen?_setCell]; exact h.z0 i hi
  · simp only [World.frozen?_setCell]; exact h.z1 i hi
end
theorem infoS : (Tryd.prog.info? 23).map (fun i => (i.zero, i.size, i.bytes)) = some (some (.agg #[.int .i64 0, .int .i64 0]), 2, 16) := by kernel_rfl
theorem make_shapes (n : Nat) (z : Int) (hz : z = n) (hn : n ≤ 65536) (w : World) :
    (Instr.makeSlice 34 (.int .i64 z) (.int .i64 z)).run Tryd.prog w = .ok (.slice (some ⟨w.heap.size, 0, none⟩) n n) (w.alloc (.cells (madeCells #[.int .i64 0, .int .i64 0] (n * 2)) 23)) := by
  subst hz
  obtain ⟨i, hi, hz, hs, hb⟩ := info_parts infoS
  have h := run_make (P := Tryd.prog) w _ _ i _ Tryd.underlying34 hi hz .i64 .i64 (n : Int) (n : Int) (by omega) (Int.le_refl _) (by rw [hb]; omega) (by omega)
  have hc : (Value.agg #[.int .i64 0, .int .i64 0]).cells = #[.int .i64 0, .int .i64 0] := by kernel_rfl
  rw [hs, hc] at h
  simpa using h
theorem Sk.made (w : World) (n : Nat) (e : TypeId) : Sk (w.alloc (.cells (madeCells #[.int .i64 0, .int .i64 0] (n * 2)) e)) w.heap.size n (fun _ => 0) (fun _ => 0) := by
  refine ⟨fun i hi => ?_, fun i hi => ?_, fun i hi => ?_, fun i hi => ?_⟩
  · have : i * 2 < n * 2 := by omega
    have : i * 2 % 2 = 0 := by omega
    simp [go_sem, madeCells, *]
  · have : i * 2 + 1 < n * 2 := by omega
    have : (i * 2 + 1) % 2 = 1 := by omega
    simp [go_sem, madeCells, *]
  · simp [go_sem]
  · simp [go_sem]

set_option maxHeartbeats 400000 in
theorem hasSplits (k : Int) (o : Bool) (ho : (decide (0 ≤ k) && decide (k ≤ 32)) = o) (w : World) :
    Calls Tryd.prog 19 #[.int .i64 k] w fun e w' => e = .returned (.bool o) ∧ w = w' := by
  by_cases h1 : 0 ≤ k
  · by_cases h2 : k ≤ 32
    · simp [h1, h2] at ho; subst ho
      go_enter Tryd.func19, Tryd.ntmps19
      go_wp2
      go_ret
      exact ⟨by simp [go_sem]; try omega, rfl⟩
    · simp [h1, h2] at ho; subst ho
      go_enter Tryd.func19, Tryd.ntmps19
      go_wp2
      go_ret
      exact ⟨by simp [go_sem]; try omega, rfl⟩
  · simp [h1] at ho; subst ho
    go_enter Tryd.func19, Tryd.ntmps19
    go_wp2
    go_ret
    exact ⟨by simp [go_sem], rfl⟩

set_option maxHeartbeats 400000 in
theorem split_core (k a d p q : Nat) (hk : k ≤ 32) (ha : a ≤ k) (hd : (k : Int) - a = d) (hd2 : d ≤ 32) (h1 : IntKind.i64.wrap ((2 : Int) ^ a) = (p : Int)) (h2 : IntKind.i64.wrap ((2 : Int) ^ d) = (q : Int)) (w : World) :
    Calls Tryd.prog 20 #[.int .i64 (k : Nat), .int .i64 (a : Nat)] w fun e w' => e = .returned (.agg #[.int .i64 (p : Nat), .int .i64 (q : Nat)]) ∧ Below w.heap.size w w' := by
  have a0 : ¬ (a : Int) < 0 := by omega
  have d0 : ¬ (d : Int) < 0 := by omega
  have w1 : IntKind.i64.wrap ((k : Int) - a) = d := by rw [hd]; exact IntWalk.i64_in _ (by omega)
  go_enter Tryd.func20, Tryd.ntmps20
  go_wp2_with fail
  go_region
  all_goals go_wp2
  all_goals exact bodyPost_ret (v := .agg #[.int .i64 (p : Nat), .int .i64 (q : Nat)]) (by simp [results, Tryd.results20, go_sem]) rfl ⟨rfl, ((Below.refl _ _).alloc (Nat.le_refl _) _).drew⟩
theorem split (k a : Nat) (hk : k ≤ 32) (ha : a ≤ k) (w : World) :
    Calls Tryd.prog 20 #[.int .i64 (k : Nat), .int .i64 (a : Nat)] w fun e w' => e = .returned (.agg #[.int .i64 ((2 ^ a : Nat) : Int), .int .i64 ((2 ^ (k - a) : Nat) : Int)]) ∧ Below w.heap.size w w' :=
  split_core k a (k - a) _ _ hk ha (by omega) (by omega) (Bt.pow_i64 a (by omega)) (Bt.pow_i64 (k - a) (by omega)) w

set_option maxHeartbeats 400000 in
theorem splits_bad (k : Int) (h : k < 0 ∨ 32 < k) (w : World) :
    Calls Tryd.prog 13 #[.int .i64 k] w fun e w' => e = .returned (.slice none 0 0) ∧ w = w' := by
  have C := Lib.hid (fun W => hasSplits k false (by simp; omega) W)
  clear h
  go_enter Tryd.func13, Tryd.ntmps13
  go_wp2_with fail
  refine (C.out _).mono ?_
  rintro e w1 ⟨rfl, rfl⟩
  go_wp2
  go_ret
  exact ⟨rfl, rfl⟩
set_option maxHeartbeats 400000 in
theorem even_bad (k : Int) (h : k < 0 ∨ 32 < k) (w : World) :
    Calls Tryd.prog 14 #[.int .i64 k] w fun e w' => e = .returned (.tuple #[.agg #[.int .i64 0, .int .i64 0], .int .i64 1]) ∧ Below w.heap.size w w' := by
  have C := Lib.hid (fun W => hasSplits k false (by simp; omega) W)
  clear h
  go_enter Tryd.func14, Tryd.ntmps14
  go_wp2_with fail
  refine (C.out _).mono ?_
  rintro e w1 ⟨rfl, rfl⟩
  go_wp2
  exact bodyPost_ret (v := .tuple #[.agg #[.int .i64 0, .int .i64 0], .int .i64 1]) (by simp [results, Tryd.results14, go_sem]) rfl ⟨rfl, (Below.refl _ _).alloc (Nat.le_refl _) _⟩
theorem Tw.zeros (w : World) (t : TypeId) : (w.alloc (.cells #[.int .i64 0, .int .i64 0] t)).frozen? ⟨w.heap.size, 0, none⟩ = false ∧ (w.alloc (.cells #[.int .i64 0, .int .i64 0] t)).frozen? ⟨w.heap.size, 1, none⟩ = false := by simp [go_sem]
set_option maxHeartbeats 400000 in
theorem even_core (k h p q : Nat) (hk : k ≤ 32) (hh : (k : Int).tdiv 2 = (h : Int)) (h32 : h ≤ 32)
    (hS : ∀ W, Calls Tryd.prog 20 #[.int .i64 (k : Nat), .int .i64 (h : Nat)] W fun e w' => e = .returned (.agg #[.int .i64 (p : Nat), .int .i64 (q : Nat)]) ∧ Below W.heap.size W w') (w : World) :
    Calls Tryd.prog 14 #[.int .i64 (k : Nat)] w fun e w' => e = .returned (.tuple #[.agg #[.int .i64 (p : Nat), .int .i64 (q : Nat)], .int .i64 0]) ∧ Below w.heap.size w w' := by
  have C := Lib.hid (fun W => hasSplits (k : Int) true (by simp; omega) W)
  have HS := Lib.hid hS
  have HB := Lib.hid (below1 w)
  have w1 : IntKind.i64.wrap (h : Int) = h := IntWalk.i64_in _ (by omega)
  clear hS
  go_enter Tryd.func14, Tryd.ntmps14
  go_wp2_with fail
  refine (C.out _).mono ?_
  rintro e w1 ⟨rfl, rfl⟩
  go_wp2_with fail
  refine (HS.out _).mono ?_
  rintro e w2 ⟨rfl, d2⟩
  have T := (Tw.fresh w 0 0 23).below d2
  have t0 := T.c0
  have t1 := T.c1
  have z0 := (d2.frozen (p := ⟨w.heap.size, 0, none⟩) (by simp)).trans (Tw.zeros w _).1
  have z1 := (d2.frozen (p := ⟨w.heap.size, 1, none⟩) (by simp)).trans (Tw.zeros w _).2
  have c2 := (HB.out _).trans (d2.mono (HB.out _).size)
  clear d2
  go_wp2
  exact bodyPost_ret (v := .tuple #[.agg #[.int .i64 (p : Nat), .int .i64 (q : Nat)], .int .i64 0]) (by simp [results, Tryd.results14, go_sem, t0, t1]) rfl ⟨rfl, (c2.setCell (by simp) _).setCell (by simp) _⟩
theorem even_in (k : Nat) (hk : k ≤ 32) (w : World) :
    Calls Tryd.prog 14 #[.int .i64 (k : Nat)] w fun e w' => e = .returned (.tuple #[.agg #[.int .i64 ((2 ^ (k / 2) : Nat) : Int), .int .i64 ((2 ^ (k - k / 2) : Nat) : Int)], .int .i64 0]) ∧ Below w.heap.size w w' :=
  even_core k (k / 2) _ _ hk rfl (by omega) (fun W => split k (k / 2) hk (by omega) W) w

/-- The loop's relation: the first i splits are laid down. -/
structure SRel (k : Nat) (w wr : World) (i : Nat) : Prop where
  hi : i ≤ k + 1
  k : ∃ f g, Sk wr w.heap.size (k + 1) f g ∧ ∀ j, j < i → f j = 2 ^ j ∧ g j = 2 ^ (k - j)
  s : w.heap.size < wr.heap.size
  b : Below w.heap.size w wr
theorem SRel.start (k : Nat) (w : World) (e : TypeId) : SRel k w (w.alloc (.cells (madeCells #[.int .i64 0, .int .i64 0] ((k + 1) * 2)) e)) 0 :=
  ⟨Nat.zero_le _, ⟨_, _, Sk.made w (k + 1) e, fun j hj => by omega⟩, by simp, (Below.refl _ _).alloc (Nat.le_refl _) _⟩
theorem SRel.step {k : Nat} {w wr w1 : World} {i p q : Nat} (h : SRel k w wr i) (hlt : i < k + 1) (hp : p = 2 ^ i) (hq : q = 2 ^ (k - i)) (hb : Below wr.heap.size wr w1) :
    SRel k w ((w1.setCell ⟨w.heap.size, i * 2, none⟩ (.int .i64 (p : Nat))).setCell ⟨w.heap.size, i * 2 + 1, none⟩ (.int .i64 (q : Nat))) (i + 1) := by
  obtain ⟨f, g, K, hf⟩ := h.k
  refine ⟨by omega, ⟨_, _, (K.step hb).put i p q hlt, fun j hj => ?_⟩, ?_, ((h.b.trans (hb.mono (Nat.le_of_lt h.s))).setCell (by simp) _).setCell (by simp) _⟩
  · by_cases e : j = i
    · subst e; rw [upd_same, upd_same]; exact ⟨hp, hq⟩
    · rw [upd_other _ _ _ e, upd_other _ _ _ e]; exact hf j (by omega)
  · have := h.s
    have := hb.size
    simp [World.setCell]; omega
/-- What Splits answers. -/
def SpOut (k : Nat) (w : World) (e : Ending) (w' : World) : Prop :=
  e = .returned (.slice (some ⟨w.heap.size, 0, none⟩) (k + 1) (k + 1)) ∧ Sk w' w.heap.size (k + 1) (fun i => 2 ^ i) (fun i => 2 ^ (k - i)) ∧ Below w.heap.size w w'
theorem spOut_mk {k : Nat} {w wr : World} (h : SRel k w wr (k + 1)) : SpOut k w (.returned (.slice (some ⟨w.heap.size, 0, none⟩) (k + 1) (k + 1))) wr := by
  obtain ⟨f, g, K, hf⟩ := h.k
  exact ⟨rfl, ⟨fun i hi => by rw [K.c0 i hi, (hf i hi).1], fun i hi => by rw [K.c1 i hi, (hf i hi).2], K.z0, K.z1⟩, h.b⟩

set_option maxHeartbeats 1000000 in
set_option maxRecDepth 100000 in
theorem splits_core (k n : Nat) (hk : k ≤ 32) (hn : n = k + 1) (w : World) (mk : ∀ W : World, (Instr.makeSlice 34 (.int .i64 ((k : Int) + 1)) (.int .i64 ((k : Int) + 1))).run Tryd.prog W = .ok (.slice (some ⟨W.heap.size, 0, none⟩) n n) (W.alloc (.cells (madeCells #[.int .i64 0, .int .i64 0] (n * 2)) 23))) :
    Calls Tryd.prog 13 #[.int .i64 (k : Nat)] w (SpOut k w) := by
  have C := Lib.hid (fun W => hasSplits (k : Int) true (by simp; omega) W)
  go_enter Tryd.func13, Tryd.ntmps13
  go_wp2_with fail
  refine (C.out _).mono ?_
  rintro e w1 ⟨rfl, rfl⟩
  clear C
  go_wp2_with fail
  go_loopw [13] (fun v13 wr => ∃ i : Nat, v13 = .int .i64 (i : Int) ∧ SRel k w wr i) (fun v13 _ => n - (Lib.intOf v13).toNat)
  case atStart => exact ⟨0, rfl, SRel.start k w _⟩
  case round =>
    obtain ⟨i, rfl, R⟩ := hrel
    clear mk
    have hi := R.hi
    by_cases hlt : i < n
    · have i1 : (i : Int) < n := by omega
      have SP := Lib.hid (fun W => split k i hk (by omega) W)
      obtain ⟨p, hp⟩ : ∃ p, p = 2 ^ i := ⟨_, rfl⟩
      obtain ⟨q, hq⟩ : ∃ q, q = 2 ^ (k - i) := ⟨_, rfl⟩
      rw [← hp, ← hq] at SP
      have HP := Lib.hid hp
      have HQ := Lib.hid hq
      clear hp hq
      go_wp2_with fail
      refine (SP.out _).mono ?_
      rintro e w1 ⟨rfl, b1⟩
      have R1 := R.step (by omega) HP.out HQ.out b1
      obtain ⟨f, g, K, _⟩ := R.k
      have K1 := K.step b1
      have k0 := K1.c0 i (by omega)
      have k1 := K1.c1 i (by omega)
      have k2 := K1.z0 i (by omega)
      have k3 := K1.z1 i (by omega)
      clear R b1 K K1 SP HP HQ
      go_wp2_with fail
      go_roundw
      case rel => exact ⟨i + 1, rfl, R1⟩
      case measure => simp [Lib.intOf]; omega
    · have i1 : ¬ (i : Int) < n := by omega
      obtain rfl : i = n := by omega
      subst hn
      go_wp2
      exact bodyPost_ret (v := .slice (some ⟨w.heap.size, 0, none⟩) (k + 1) (k + 1)) (by simp [results, Tryd.results13, go_sem]) rfl (spOut_mk R)
theorem splits_in (k : Nat) (hk : k ≤ 32) (w : World) : Calls Tryd.prog 13 #[.int .i64 (k : Nat)] w (SpOut k w) :=
  splits_core k (k + 1) hk rfl w (make_shapes (k + 1) _ rfl (by omega))
end Sh
end Go.Proofs.YtfmjmopmlimnnaaDoor
