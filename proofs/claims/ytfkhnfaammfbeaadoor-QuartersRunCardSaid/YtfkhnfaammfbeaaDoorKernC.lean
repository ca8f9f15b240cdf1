/- Contracts of package kern2: New, K, powers. -/
import Derived.Test.YtfkhnfaammfbeaaDoorKernB
import Derived.Test.YtfkhnfaammfbeaaDoorCells
set_option linter.unusedVariables false
namespace Go.Proofs.YtfkhnfaammfbeaaDoor
open Go.RowKit Go.Lib Go.Sort
namespace Kn
open Nm Ww Tn Pl Td

theorem Ce.but {w w' : World} {b p : Nat} {v0 v1 v2 v3 : Value} (h : Ce w p v0 v1 v2 v3) (hp : p ≠ b) (o : But b w w') : Ce w' p v0 v1 v2 v3 :=
  ⟨(o.cell ⟨p, 0, none⟩ hp h.lt).trans h.c0, (o.cell ⟨p, 1, none⟩ hp h.lt).trans h.c1, (o.cell ⟨p, 2, none⟩ hp h.lt).trans h.c2, (o.cell ⟨p, 3, none⟩ hp h.lt).trans h.c3,
   (o.frz ⟨p, 0, none⟩ hp h.lt).trans h.f0, (o.frz ⟨p, 1, none⟩ hp h.lt).trans h.f1, (o.frz ⟨p, 2, none⟩ hp h.lt).trans h.f2, (o.frz ⟨p, 3, none⟩ hp h.lt).trans h.f3⟩
/-- A kernel of an exponent, in memory, in other blocks than b. -/
structure Ka (w : World) (b k p bf bi : Nat) : Prop where
  c : Ce w p (.int .i64 (k : Int)) (.slice (some ⟨bf, 0, none⟩) (2 ^ (k - 1)) (2 ^ (k - 1))) (.slice (some ⟨bi, 0, none⟩) (2 ^ (k - 1)) (2 ^ (k - 1))) (.int .u64 (Nt.inv (2 ^ k) : Nat))
  p : p ≠ b
  rf : Wo w b (some ⟨bf, 0, none⟩) (rg (fun i => rd k 0 ^ i % 18446744069414584321) (2 ^ (k - 1)))
  ri : Wo w b (some ⟨bi, 0, none⟩) (rg (fun i => rd k 1 ^ i % 18446744069414584321) (2 ^ (k - 1)))
theorem Ka.but {w w' : World} {b k p bf bi : Nat} (h : Ka w b k p bf bi) (o : But b w w') : Ka w' b k p bf bi := ⟨h.c.but h.p o, h.p, h.rf.but o, h.ri.but o⟩
/-- A kernel of an exponent, in memory below block B. -/
structure Kr (w : World) (B k p bf bi : Nat) : Prop where
  c : Ce w p (.int .i64 (k : Int)) (.slice (some ⟨bf, 0, none⟩) (2 ^ (k - 1)) (2 ^ (k - 1))) (.slice (some ⟨bi, 0, none⟩) (2 ^ (k - 1)) (2 ^ (k - 1))) (.int .u64 (Nt.inv (2 ^ k) : Nat))
  p : p < B
  rf : Ws w B (some ⟨bf, 0, none⟩) (rg (fun i => rd k 0 ^ i % 18446744069414584321) (2 ^ (k - 1)))
  ri : Ws w B (some ⟨bi, 0, none⟩) (rg (fun i => rd k 1 ^ i % 18446744069414584321) (2 ^ (k - 1)))
theorem Kr.below {w w' : World} {B k p bf bi : Nat} (h : Kr w B k p bf bi) (hb : Below B w w') : Kr w' B k p bf bi := ⟨h.c.low h.p hb, h.p, h.rf.below hb, h.ri.below hb⟩
theorem Kr.more {w : World} {B B' k p bf bi : Nat} (h : Kr w B k p bf bi) (hb : B ≤ B') : Kr w B' k p bf bi := ⟨h.c, Nat.lt_of_lt_of_le h.p hb, h.rf.more hb, h.ri.more hb⟩
theorem Kr.step {w w' : World} {B k p bf bi : Nat} (h : Kr w w.heap.size k p bf bi) (hb : Below w.heap.size w w') : Kr w' w'.heap.size k p bf bi := (h.below hb).more hb.size
theorem Kr.aside {w : World} {b k p bf bi : Nat} (h : Kr w b k p bf bi) (hb : b ≤ w.heap.size) : Ka w b k p bf bi := ⟨h.c, Nat.ne_of_lt h.p, Wo.low h.rf hb, Wo.low h.ri hb⟩
/-- .. of which it is known that it lies in blocks from lo on. -/
structure Kb (w : World) (lo k p bf bi : Nat) : Prop where
  r : Kr w w.heap.size k p bf bi
  p : lo ≤ p
  f : lo ≤ bf
  i : lo ≤ bi
theorem Kb.step {w w' : World} {lo k p bf bi : Nat} (h : Kb w lo k p bf bi) (hb : Below w.heap.size w w') : Kb w' lo k p bf bi := ⟨(h.r.below hb).more hb.size, h.p, h.f, h.i⟩
theorem Kb.aside {w : World} {lo b k p bf bi : Nat} (h : Kb w lo k p bf bi) (hb : b < lo) : Ka w b k p bf bi :=
  ⟨h.r.c, by have := h.p; omega, Wo.of h.r.rf (Nat.le_refl _) (fun b2 off e _ => by injection e with e; injection e with e1 e2; have := h.f; omega), Wo.of h.r.ri (Nat.le_refl _) (fun b2 off e _ => by injection e with e; injection e with e1 e2; have := h.i; omega)⟩

set_option maxHeartbeats 400000 in
theorem new_bad (k : Int) (h : k < 0 ∨ 20 < k) (w : World) :
    Calls Tryd.prog 14 #[.int .i64 k] w fun e w' => e = .returned (.pointer none) ∧ w = w' := by
  have H := Lib.hid h
  clear h
  by_cases h0 : k < 0
  · go_enter Tryd.func14, Tryd.ntmps14
    go_wp2
    go_ret
    exact ⟨by simp, rfl⟩
  · have h1 : 20 < k := by have := H.out; omega
    go_enter Tryd.func14, Tryd.ntmps14
    go_wp2
    go_ret
    exact ⟨by simp, rfl⟩

set_option maxHeartbeats 1000000 in
theorem new_core (k m sh : Nat) (hk : k ≤ 20) (g0 g1 : Nat → Nat)
    (hT0 : ∀ W, Calls Tryd.prog 32 #[.int .i64 (k : Int), .int .i64 0] W (RwE g0 m W)) (hT1 : ∀ W, Calls Tryd.prog 32 #[.int .i64 (k : Int), .int .i64 1] W (RwE g1 m W))
    (hS : ∀ W, Calls Tryd.prog 20 #[.int .i64 (k : Int)] W fun e w' => e = .returned (.tuple #[.int .u64 (sh : Nat), .int .i64 0]) ∧ Below W.heap.size W w') (w : World) :
    Calls Tryd.prog 14 #[.int .i64 (k : Int)] w fun e w' => ∃ p bf bi, e = .returned (.pointer (some ⟨p, 0, none⟩)) ∧ Ce w' p (.int .i64 (k : Int)) (.slice (some ⟨bf, 0, none⟩) m m) (.slice (some ⟨bi, 0, none⟩) m m) (.int .u64 (sh : Nat)) ∧
      (w.heap.size ≤ p ∧ w.heap.size ≤ bf ∧ w.heap.size ≤ bi) ∧ p < w'.heap.size ∧ bf < w'.heap.size ∧ bi < w'.heap.size ∧ Wk w' bf 0 m g0 ∧ Wk w' bi 0 m g1 ∧ Below w.heap.size w w' := by
  have h0 : ¬ (k : Int) < 0 := by omega
  have h1 : ¬ 20 < (k : Int) := by omega
  have T0 := Lib.hid hT0
  have T1 := Lib.hid hT1
  have SH := Lib.hid hS
  have CF := Lib.hid (fun v0 v1 v2 v3 => Ce.fresh w v0 v1 v2 v3 32)
  have CB := Lib.hid (below_alloc w)
  have CS := Lib.hid (fun o => show (w.alloc o).heap.size = w.heap.size + 1 by simp)
  clear hT0 hT1 hS
  go_enter Tryd.func14, Tryd.ntmps14
  go_wp2_with fail
  refine (T0.out _).mono ?_
  rintro e w1 ⟨b1, rfl, s1, l1, K1, d1⟩
  have C1 := (CF.out _ _ _ _).below d1
  have B1 := (CB.out _).trans (d1.mono (CB.out _).size)
  rw [CS.out] at s1
  clear d1
  have c0 := C1.c1
  have f0 := C1.f1
  have C2 := C1.put1 (.slice (some ⟨b1, 0, none⟩) m m)
  have B2 := B1.setCell (p := ⟨w.heap.size, 1, none⟩) (Nat.le_refl _) (.slice (some ⟨b1, 0, none⟩) m m)
  have K2 := K1.other (a := ⟨w.heap.size, 1, none⟩) (by show w.heap.size ≠ b1; omega) (.slice (some ⟨b1, 0, none⟩) m m)
  have l2 : b1 < (w1.setCell ⟨w.heap.size, 1, none⟩ (.slice (some ⟨b1, 0, none⟩) m m)).heap.size := by simp [World.setCell]; exact l1
  clear C1 B1 K1 l1
  go_wp2_with fail
  clear c0 f0
  generalize w1.setCell ⟨w.heap.size, 1, none⟩ (.slice (some ⟨b1, 0, none⟩) m m) = wa at *
  refine (T1.out _).mono ?_
  rintro e w2 ⟨b2, rfl, s2, m1, L1, d2⟩
  have C3 := C2.below d2
  have B3 := B2.trans (d2.mono B2.size)
  have K3 := K2.below l2 d2
  have l3 := Nat.lt_of_lt_of_le l2 d2.size
  have z := C2.lt
  clear C2 B2 K2 d2 l2
  have c0 := C3.c2
  have f0 := C3.f2
  have C4 := C3.put2 (.slice (some ⟨b2, 0, none⟩) m m)
  have B4 := B3.setCell (p := ⟨w.heap.size, 2, none⟩) (Nat.le_refl _) (.slice (some ⟨b2, 0, none⟩) m m)
  have K4 := K3.other (a := ⟨w.heap.size, 2, none⟩) (by show w.heap.size ≠ b1; omega) (.slice (some ⟨b2, 0, none⟩) m m)
  have L4 := L1.other (a := ⟨w.heap.size, 2, none⟩) (by show w.heap.size ≠ b2; omega) (.slice (some ⟨b2, 0, none⟩) m m)
  have l4 : b1 < (w2.setCell ⟨w.heap.size, 2, none⟩ (.slice (some ⟨b2, 0, none⟩) m m)).heap.size := by simp [World.setCell]; exact l3
  have m4 : b2 < (w2.setCell ⟨w.heap.size, 2, none⟩ (.slice (some ⟨b2, 0, none⟩) m m)).heap.size := by simp [World.setCell]; exact m1
  clear C3 B3 K3 l3 L1 m1
  go_wp2_with fail
  clear c0 f0
  generalize w2.setCell ⟨w.heap.size, 2, none⟩ (.slice (some ⟨b2, 0, none⟩) m m) = wb at *
  refine (SH.out _).mono ?_
  rintro e w3 ⟨rfl, d3⟩
  have C5 := C4.below d3
  have B5 := B4.trans (d3.mono B4.size)
  have K5 := K4.below l4 d3
  have L5 := L4.below m4 d3
  have l5 := Nat.lt_of_lt_of_le l4 d3.size
  have m5 := Nat.lt_of_lt_of_le m4 d3.size
  clear C4 B4 K4 L4 d3 l4 m4
  have c0 := C5.c3
  have f0 := C5.f3
  have C6 := C5.put3 (.int .u64 (sh : Nat))
  have B6 := B5.setCell (p := ⟨w.heap.size, 3, none⟩) (Nat.le_refl _) (.int .u64 (sh : Nat))
  have K6 := K5.other (a := ⟨w.heap.size, 3, none⟩) (by show w.heap.size ≠ b1; omega) (.int .u64 (sh : Nat))
  have L6 := L5.other (a := ⟨w.heap.size, 3, none⟩) (by show w.heap.size ≠ b2; omega) (.int .u64 (sh : Nat))
  have l6 : b1 < (w3.setCell ⟨w.heap.size, 3, none⟩ (.int .u64 (sh : Nat))).heap.size := by simp [World.setCell]; exact l5
  have m6 : b2 < (w3.setCell ⟨w.heap.size, 3, none⟩ (.int .u64 (sh : Nat))).heap.size := by simp [World.setCell]; exact m5
  clear C5 B5 K5 L5 l5 m5
  have r0 := C6.c0
  have r1 := C6.c1
  have r2 := C6.c2
  have r3 := C6.c3
  have FR := Lib.hid (fun wx (hx : wx = w3.setCell ⟨w.heap.size, 3, none⟩ (.int .u64 (sh : Nat))) => show
      Ce (wx.alloc (.cells #[.int .i64 (k : Int), .slice (some ⟨b1, 0, none⟩) m m, .slice (some ⟨b2, 0, none⟩) m m, .int .u64 (sh : Nat)] 34)) wx.heap.size (.int .i64 (k : Int)) (.slice (some ⟨b1, 0, none⟩) m m) (.slice (some ⟨b2, 0, none⟩) m m) (.int .u64 (sh : Nat)) ∧
      wx.heap.size < (wx.alloc (.cells #[.int .i64 (k : Int), .slice (some ⟨b1, 0, none⟩) m m, .slice (some ⟨b2, 0, none⟩) m m, .int .u64 (sh : Nat)] 34)).heap.size ∧
      b1 < (wx.alloc (.cells #[.int .i64 (k : Int), .slice (some ⟨b1, 0, none⟩) m m, .slice (some ⟨b2, 0, none⟩) m m, .int .u64 (sh : Nat)] 34)).heap.size ∧
      b2 < (wx.alloc (.cells #[.int .i64 (k : Int), .slice (some ⟨b1, 0, none⟩) m m, .slice (some ⟨b2, 0, none⟩) m m, .int .u64 (sh : Nat)] 34)).heap.size ∧
      Wk (wx.alloc (.cells #[.int .i64 (k : Int), .slice (some ⟨b1, 0, none⟩) m m, .slice (some ⟨b2, 0, none⟩) m m, .int .u64 (sh : Nat)] 34)) b1 0 m g0 ∧
      Wk (wx.alloc (.cells #[.int .i64 (k : Int), .slice (some ⟨b1, 0, none⟩) m m, .slice (some ⟨b2, 0, none⟩) m m, .int .u64 (sh : Nat)] 34)) b2 0 m g1 ∧
      Below w.heap.size w (wx.alloc (.cells #[.int .i64 (k : Int), .slice (some ⟨b1, 0, none⟩) m m, .slice (some ⟨b2, 0, none⟩) m m, .int .u64 (sh : Nat)] 34)) by
    rw [← hx] at K6 L6 l6 m6 B6
    have bl := below_alloc wx (.cells #[.int .i64 (k : Int), .slice (some ⟨b1, 0, none⟩) m m, .slice (some ⟨b2, 0, none⟩) m m, .int .u64 (sh : Nat)] 34)
    exact ⟨Ce.fresh _ _ _ _ _ _, by simp, Nat.lt_of_lt_of_le l6 bl.size, Nat.lt_of_lt_of_le m6 bl.size, K6.below l6 bl, L6.below m6 bl, B6.trans (bl.mono B6.size)⟩)
  have SZ : (w3.setCell ⟨w.heap.size, 3, none⟩ (.int .u64 (sh : Nat))).heap.size = w3.heap.size := by simp [World.setCell]
  have LO := Lib.hid (show w.heap.size ≤ w3.heap.size ∧ w.heap.size ≤ b1 ∧ w.heap.size ≤ b2 from ⟨by have := B6.size; rw [SZ] at this; exact this, by omega, by omega⟩)
  have F2 := FR.out _ rfl
  rw [SZ] at F2
  have F3 := Lib.hid F2
  clear C6 B6 K6 L6 l6 m6 FR F2 SZ
  go_wp2
  exact bodyPost_ret (v := .pointer (some ⟨w3.heap.size, 0, none⟩)) (by simp [results, Tryd.results14, go_sem]) rfl ⟨_, b1, b2, rfl, F3.out.1, LO.out, F3.out.2⟩
theorem new_at (k : Nat) (hk : k ≤ 20) (w : World) :
    Calls Tryd.prog 14 #[.int .i64 (k : Int)] w fun e w' => ∃ p bf bi, e = .returned (.pointer (some ⟨p, 0, none⟩)) ∧ Kb w' w.heap.size k p bf bi ∧ Below w.heap.size w w' :=
  (new_core k _ _ hk _ _ (fun W => table k 0 hk (by decide) W) (fun W => table k 1 hk (by decide) W) (fun W => share k (by omega) W) w).mono fun e w' ⟨p, bf, bi, he, hc, ⟨o1, o2, o3⟩, h1, h2, h3, K0, K1, hb⟩ =>
    ⟨p, bf, bi, he, ⟨⟨hc, h1, wk_ws K0 (fun i => Nat.mod_lt _ (by decide)) h2, wk_ws K1 (fun i => Nat.mod_lt _ (by decide)) h3⟩, o1, o2, o3⟩, hb⟩
theorem new (k : Nat) (hk : k ≤ 20) (w : World) :
    Calls Tryd.prog 14 #[.int .i64 (k : Int)] w fun e w' => ∃ p bf bi, e = .returned (.pointer (some ⟨p, 0, none⟩)) ∧ Kr w' w'.heap.size k p bf bi ∧ Below w.heap.size w w' :=
  (new_at k hk w).mono fun e w' ⟨p, bf, bi, he, h, hb⟩ => ⟨p, bf, bi, he, h.r, hb⟩

set_option maxHeartbeats 400000 in
theorem kOf {w : World} {p : Nat} {v0 v1 v2 v3 : Value} (C : Ce w p v0 v1 v2 v3) :
    Calls Tryd.prog 7 #[.pointer (some ⟨p, 0, none⟩)] w fun e w' => e = .returned v0 ∧ w = w' := by
  have c0 := C.c0
  clear C
  go_enter Tryd.func7, Tryd.ntmps7
  go_wp2
  go_ret
  exact ⟨by simp, rfl⟩
set_option maxHeartbeats 400000 in
theorem powers_fwd {w : World} {p : Nat} {v0 v1 v2 v3 : Value} (C : Ce w p v0 v1 v2 v3) :
    Calls Tryd.prog 41 #[.pointer (some ⟨p, 0, none⟩), .int .i64 0] w fun e w' => e = .returned (.tuple #[v1, .int .i64 0]) ∧ w = w' := by
  have c1 := C.c1
  clear C
  go_enter Tryd.func41, Tryd.ntmps41
  go_wp2
  go_ret2
  exact ⟨rfl, rfl⟩
set_option maxHeartbeats 400000 in
theorem powers_inv {w : World} {p : Nat} {v0 v1 v2 v3 : Value} (C : Ce w p v0 v1 v2 v3) :
    Calls Tryd.prog 41 #[.pointer (some ⟨p, 0, none⟩), .int .i64 1] w fun e w' => e = .returned (.tuple #[v2, .int .i64 0]) ∧ w = w' := by
  have c1 := C.c2
  clear C
  go_enter Tryd.func41, Tryd.ntmps41
  go_wp2
  go_ret2
  exact ⟨rfl, rfl⟩
set_option maxHeartbeats 400000 in
theorem powers_kind (p : Option Addr) (d : Int) (h0 : d ≠ 0) (h1 : d ≠ 1) (w : World) :
    Calls Tryd.prog 41 #[.pointer p, .int .i64 d] w fun e w' => e = .returned (.tuple #[.slice none 0 0, .int .i64 18]) ∧ w = w' := by
  have d0 : (d == 0) = false := by simp [h0]
  have d1 : (d == 1) = false := by simp [h1]
  go_enter Tryd.func41, Tryd.ntmps41
  go_wp2
  go_ret2
  exact ⟨rfl, rfl⟩
end Kn
end Go.Proofs.YtfkhnfaammfbeaaDoor
