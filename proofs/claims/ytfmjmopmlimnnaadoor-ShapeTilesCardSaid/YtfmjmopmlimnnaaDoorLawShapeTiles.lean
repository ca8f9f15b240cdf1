/- ShapeTiles: of every shape, height and width the law of tiles answers true, and changes nothing, where the library's two tables are as their initialisers lay them (the card ties them to the program's text). -/
import Derived.Test.YtfmjmopmlimnnaaDoorFrame
import Derived.Test.YtfmjmopmlimnnaaDoorShapeI
import Derived.Deep.SlicePairs
import Derived.Deep.DeepCutAuto
import Derived.Test.YtfmjmopmlimnnaaDoorTie
import Derived.Test.YtfmjmopmlimnnaaDoorCards
import Derived.Lib.LaidTab
import Derived.LaidMore
import Derived.Stop.Joined
import Derived.SevenTiedAt
set_option linter.unusedVariables false
namespace Go.Proofs.YtfmjmopmlimnnaaDoor.shapeTiles
open Go.ChangeShapes Go.WideShapes Go.ChangeAt Go.RowKit
open Sh Tl Go.Sort

set_option maxHeartbeats 1000000 in
set_option maxRecDepth 100000 in
theorem bad_h (a b h k : Int) (h1 : h < 1)
    (hR : ∀ W, Ft.Tab W → Calls Tryd.prog 7 #[.agg #[.int .i64 a, .int .i64 b]] W fun e w' => e = .returned (.bool false) ∧ Below W.heap.size W w')
    (hTi : ∀ W, Ft.Tab W → Calls Tryd.prog 15 #[.agg #[.int .i64 a, .int .i64 b], .int .i64 h, .int .i64 k] W fun e w' => e = .returned (.tuple #[.slice none 0 0, .int .i64 1]) ∧ Below W.heap.size W w')
    (w : World) (hT : Ft.Tab w) :
    Calls Tryd.prog 5 #[.agg #[.int .i64 a, .int .i64 b], .int .i64 h, .int .i64 k] w fun e w' => e = .returned (.bool true) ∧ Below w.heap.size w w' := by
  have HT := Lib.hid hT
  have HB := Lib.hid (below1 w)
  have HR := Lib.hid hR
  clear hT hR
  have HTi := Lib.hid hTi
  clear hTi
  go_enter Tryd.func5, Tryd.ntmps5
  go_wp2_with fail
  refine (Sh.awake _ (HT.out.below (HB.out _))).mono ?_
  rintro e w1 ⟨rfl, d1⟩
  have T1 := (Tw.fresh w a b 23).below d1
  have c1 := (HB.out _).trans (d1.mono (HB.out _).size)
  clear d1
  have t0 := T1.c0
  have t1 := T1.c1
  go_wp2_with fail
  refine (HR.out _ (HT.out.below c1)).mono ?_
  rintro e w2 ⟨rfl, d2⟩
  have T2 := T1.below d2
  have c2 := c1.trans (d2.mono c1.size)
  clear d2 t0 t1 T1 c1
  have t0 := T2.c0
  have t1 := T2.c1
  go_wp2_with fail
  go_quiet (fail)
  have T3 : Tw (w2.drewN nq) w.heap.size a b := ⟨T2.c0, T2.c1⟩
  have c3 := below_drewN c2 nq
  clear t0 t1 T2 c2
  generalize w2.drewN nq = w3 at *
  have t0 := T3.c0
  have t1 := T3.c1
  go_wp2_with fail
  refine (HTi.out _ (HT.out.below c3)).mono ?_
  rintro e w4 ⟨rfl, d4⟩
  have c4 := c3.trans (d4.mono c3.size)
  go_wp2
  go_ret
  exact ⟨by simp [go_sem], c4⟩

set_option maxHeartbeats 1000000 in
set_option maxRecDepth 100000 in
theorem bad_k (a b h k : Int) (h1 : ¬ h < 1) (h2 : k < 1)
    (hR : ∀ W, Ft.Tab W → Calls Tryd.prog 7 #[.agg #[.int .i64 a, .int .i64 b]] W fun e w' => e = .returned (.bool false) ∧ Below W.heap.size W w')
    (hTi : ∀ W, Ft.Tab W → Calls Tryd.prog 15 #[.agg #[.int .i64 a, .int .i64 b], .int .i64 h, .int .i64 k] W fun e w' => e = .returned (.tuple #[.slice none 0 0, .int .i64 1]) ∧ Below W.heap.size W w')
    (w : World) (hT : Ft.Tab w) :
    Calls Tryd.prog 5 #[.agg #[.int .i64 a, .int .i64 b], .int .i64 h, .int .i64 k] w fun e w' => e = .returned (.bool true) ∧ Below w.heap.size w w' := by
  have HT := Lib.hid hT
  have HB := Lib.hid (below1 w)
  have HR := Lib.hid hR
  clear hT hR
  have HTi := Lib.hid hTi
  clear hTi
  go_enter Tryd.func5, Tryd.ntmps5
  go_wp2_with fail
  refine (Sh.awake _ (HT.out.below (HB.out _))).mono ?_
  rintro e w1 ⟨rfl, d1⟩
  have T1 := (Tw.fresh w a b 23).below d1
  have c1 := (HB.out _).trans (d1.mono (HB.out _).size)
  clear d1
  have t0 := T1.c0
  have t1 := T1.c1
  go_wp2_with fail
  refine (HR.out _ (HT.out.below c1)).mono ?_
  rintro e w2 ⟨rfl, d2⟩
  have T2 := T1.below d2
  have c2 := c1.trans (d2.mono c1.size)
  clear d2 t0 t1 T1 c1
  have t0 := T2.c0
  have t1 := T2.c1
  go_wp2_with fail
  go_quiet (fail)
  have T3 : Tw (w2.drewN nq) w.heap.size a b := ⟨T2.c0, T2.c1⟩
  have c3 := below_drewN c2 nq
  clear t0 t1 T2 c2
  generalize w2.drewN nq = w3 at *
  have t0 := T3.c0
  have t1 := T3.c1
  go_wp2_with fail
  refine (HTi.out _ (HT.out.below c3)).mono ?_
  rintro e w4 ⟨rfl, d4⟩
  have c4 := c3.trans (d4.mono c3.size)
  go_wp2
  go_ret
  exact ⟨by simp [go_sem], c4⟩

set_option maxHeartbeats 1000000 in
set_option maxRecDepth 100000 in
theorem bad (a b h k : Int) (h1 : ¬ h < 1) (h2 : ¬ k < 1)
    (hR : ∀ W, Ft.Tab W → Calls Tryd.prog 7 #[.agg #[.int .i64 a, .int .i64 b]] W fun e w' => e = .returned (.bool false) ∧ Below W.heap.size W w')
    (hTi : ∀ W, Ft.Tab W → Calls Tryd.prog 15 #[.agg #[.int .i64 a, .int .i64 b], .int .i64 h, .int .i64 k] W fun e w' => e = .returned (.tuple #[.slice none 0 0, .int .i64 2]) ∧ Below W.heap.size W w')
    (w : World) (hT : Ft.Tab w) :
    Calls Tryd.prog 5 #[.agg #[.int .i64 a, .int .i64 b], .int .i64 h, .int .i64 k] w fun e w' => e = .returned (.bool true) ∧ Below w.heap.size w w' := by
  have HT := Lib.hid hT
  have HB := Lib.hid (below1 w)
  have HR := Lib.hid hR
  clear hT hR
  have HTi := Lib.hid hTi
  clear hTi
  go_enter Tryd.func5, Tryd.ntmps5
  go_wp2_with fail
  refine (Sh.awake _ (HT.out.below (HB.out _))).mono ?_
  rintro e w1 ⟨rfl, d1⟩
  have T1 := (Tw.fresh w a b 23).below d1
  have c1 := (HB.out _).trans (d1.mono (HB.out _).size)
  clear d1
  have t0 := T1.c0
  have t1 := T1.c1
  go_wp2_with fail
  refine (HR.out _ (HT.out.below c1)).mono ?_
  rintro e w2 ⟨rfl, d2⟩
  have T2 := T1.below d2
  have c2 := c1.trans (d2.mono c1.size)
  clear d2 t0 t1 T1 c1
  have t0 := T2.c0
  have t1 := T2.c1
  go_wp2_with fail
  go_quiet (fail)
  have T3 : Tw (w2.drewN nq) w.heap.size a b := ⟨T2.c0, T2.c1⟩
  have c3 := below_drewN c2 nq
  clear t0 t1 T2 c2
  generalize w2.drewN nq = w3 at *
  have t0 := T3.c0
  have t1 := T3.c1
  go_wp2_with fail
  refine (HTi.out _ (HT.out.below c3)).mono ?_
  rintro e w4 ⟨rfl, d4⟩
  have c4 := c3.trans (d4.mono c3.size)
  go_wp2
  go_ret
  exact ⟨by simp [go_sem], c4⟩

set_option maxHeartbeats 1000000 in
set_option maxRecDepth 100000 in
theorem large_a (a b h k : Int) (ha : 256 < a)
    (hR : ∀ W, Ft.Tab W → Calls Tryd.prog 7 #[.agg #[.int .i64 a, .int .i64 b]] W fun e w' => e = .returned (.bool true) ∧ Below W.heap.size W w')
    (w : World) (hT : Ft.Tab w) :
    Calls Tryd.prog 5 #[.agg #[.int .i64 a, .int .i64 b], .int .i64 h, .int .i64 k] w fun e w' => e = .returned (.bool true) ∧ Below w.heap.size w w' := by
  have HT := Lib.hid hT
  have HB := Lib.hid (below1 w)
  have HR := Lib.hid hR
  clear hT hR
  go_enter Tryd.func5, Tryd.ntmps5
  go_wp2_with fail
  refine (Sh.awake _ (HT.out.below (HB.out _))).mono ?_
  rintro e w1 ⟨rfl, d1⟩
  have T1 := (Tw.fresh w a b 23).below d1
  have c1 := (HB.out _).trans (d1.mono (HB.out _).size)
  clear d1
  have t0 := T1.c0
  have t1 := T1.c1
  go_wp2_with fail
  refine (HR.out _ (HT.out.below c1)).mono ?_
  rintro e w2 ⟨rfl, d2⟩
  have T2 := T1.below d2
  have c2 := c1.trans (d2.mono c1.size)
  clear d2 t0 t1 T1 c1
  have t0 := T2.c0
  have t1 := T2.c1
  go_wp2_with fail
  go_quiet (fail)
  have T3 : Tw (w2.drewN nq) w.heap.size a b := ⟨T2.c0, T2.c1⟩
  have c3 := below_drewN c2 nq
  clear t0 t1 T2 c2
  generalize w2.drewN nq = w3 at *
  have t0 := T3.c0
  have t1 := T3.c1
  go_wp2
  go_ret
  exact ⟨by simp [go_sem], c3⟩

set_option maxHeartbeats 1000000 in
set_option maxRecDepth 100000 in
theorem large_b (a b h k : Int) (d : Nat) (a0 : 0 < a) (ha : ¬ 256 < a) (d1 : Int.tdiv 256 a = d) (d2 : 256 / a = (d : Int)) (d3 : d ≤ 256) (hb : (d : Int) < b)
    (hR : ∀ W, Ft.Tab W → Calls Tryd.prog 7 #[.agg #[.int .i64 a, .int .i64 b]] W fun e w' => e = .returned (.bool true) ∧ Below W.heap.size W w')
    (w : World) (hT : Ft.Tab w) :
    Calls Tryd.prog 5 #[.agg #[.int .i64 a, .int .i64 b], .int .i64 h, .int .i64 k] w fun e w' => e = .returned (.bool true) ∧ Below w.heap.size w w' := by
  have HT := Lib.hid hT
  have HB := Lib.hid (below1 w)
  have HR := Lib.hid hR
  clear hT hR
  have a1 : (a == 0) = false := by rw [beq_eq_false_iff_ne]; omega
  have d4 : IntKind.i64.wrap (d : Int) = d := IntWalk.i64_in _ (by omega)
  have dA : decide (256 < a) = false := by simp; omega
  go_enter Tryd.func5, Tryd.ntmps5
  go_wp2_with fail
  refine (Sh.awake _ (HT.out.below (HB.out _))).mono ?_
  rintro e w1 ⟨rfl, d1⟩
  have T1 := (Tw.fresh w a b 23).below d1
  have c1 := (HB.out _).trans (d1.mono (HB.out _).size)
  clear d1
  have t0 := T1.c0
  have t1 := T1.c1
  go_wp2_with fail
  refine (HR.out _ (HT.out.below c1)).mono ?_
  rintro e w2 ⟨rfl, d2⟩
  have T2 := T1.below d2
  have c2 := c1.trans (d2.mono c1.size)
  clear d2 t0 t1 T1 c1
  have t0 := T2.c0
  have t1 := T2.c1
  go_wp2_with fail
  go_quiet (fail)
  have T3 : Tw (w2.drewN nq) w.heap.size a b := ⟨T2.c0, T2.c1⟩
  have c3 := below_drewN c2 nq
  clear t0 t1 T2 c2
  generalize w2.drewN nq = w3 at *
  have t0 := T3.c0
  have t1 := T3.c1
  go_wp2
  go_ret
  exact ⟨by simp [go_sem], c3⟩

set_option maxHeartbeats 1000000 in
set_option maxRecDepth 100000 in
theorem arg_h (a b h k : Int) (d : Nat) (a0 : 0 < a) (ha : ¬ 256 < a) (d1 : Int.tdiv 256 a = d) (d2 : 256 / a = (d : Int)) (d3 : d ≤ 256) (hb : ¬ (d : Int) < b) (h1 : h < 1)
    (hR : ∀ W, Ft.Tab W → Calls Tryd.prog 7 #[.agg #[.int .i64 a, .int .i64 b]] W fun e w' => e = .returned (.bool true) ∧ Below W.heap.size W w')
    (hTi : ∀ W, Ft.Tab W → Calls Tryd.prog 15 #[.agg #[.int .i64 a, .int .i64 b], .int .i64 h, .int .i64 k] W fun e w' => e = .returned (.tuple #[.slice none 0 0, .int .i64 1]) ∧ Below W.heap.size W w')
    (w : World) (hT : Ft.Tab w) :
    Calls Tryd.prog 5 #[.agg #[.int .i64 a, .int .i64 b], .int .i64 h, .int .i64 k] w fun e w' => e = .returned (.bool true) ∧ Below w.heap.size w w' := by
  have HT := Lib.hid hT
  have HB := Lib.hid (below1 w)
  have HR := Lib.hid hR
  clear hT hR
  have a1 : (a == 0) = false := by rw [beq_eq_false_iff_ne]; omega
  have d4 : IntKind.i64.wrap (d : Int) = d := IntWalk.i64_in _ (by omega)
  have dA : decide (256 < a) = false := by simp; omega
  have HTi := Lib.hid hTi
  clear hTi
  go_enter Tryd.func5, Tryd.ntmps5
  go_wp2_with fail
  refine (Sh.awake _ (HT.out.below (HB.out _))).mono ?_
  rintro e w1 ⟨rfl, d1⟩
  have T1 := (Tw.fresh w a b 23).below d1
  have c1 := (HB.out _).trans (d1.mono (HB.out _).size)
  clear d1
  have t0 := T1.c0
  have t1 := T1.c1
  go_wp2_with fail
  refine (HR.out _ (HT.out.below c1)).mono ?_
  rintro e w2 ⟨rfl, d2⟩
  have T2 := T1.below d2
  have c2 := c1.trans (d2.mono c1.size)
  clear d2 t0 t1 T1 c1
  have t0 := T2.c0
  have t1 := T2.c1
  go_wp2_with fail
  go_quiet (fail)
  have T3 : Tw (w2.drewN nq) w.heap.size a b := ⟨T2.c0, T2.c1⟩
  have c3 := below_drewN c2 nq
  clear t0 t1 T2 c2
  generalize w2.drewN nq = w3 at *
  have t0 := T3.c0
  have t1 := T3.c1
  go_wp2_with fail
  refine (HTi.out _ (HT.out.below c3)).mono ?_
  rintro e w4 ⟨rfl, d4⟩
  have c4 := c3.trans (d4.mono c3.size)
  go_wp2
  go_ret
  exact ⟨by simp [go_sem], c4⟩

set_option maxHeartbeats 1000000 in
set_option maxRecDepth 100000 in
theorem arg_k (a b h k : Int) (d : Nat) (a0 : 0 < a) (ha : ¬ 256 < a) (d1 : Int.tdiv 256 a = d) (d2 : 256 / a = (d : Int)) (d3 : d ≤ 256) (hb : ¬ (d : Int) < b) (h1 : ¬ h < 1) (h2 : k < 1)
    (hR : ∀ W, Ft.Tab W → Calls Tryd.prog 7 #[.agg #[.int .i64 a, .int .i64 b]] W fun e w' => e = .returned (.bool true) ∧ Below W.heap.size W w')
    (hTi : ∀ W, Ft.Tab W → Calls Tryd.prog 15 #[.agg #[.int .i64 a, .int .i64 b], .int .i64 h, .int .i64 k] W fun e w' => e = .returned (.tuple #[.slice none 0 0, .int .i64 1]) ∧ Below W.heap.size W w')
    (w : World) (hT : Ft.Tab w) :
    Calls Tryd.prog 5 #[.agg #[.int .i64 a, .int .i64 b], .int .i64 h, .int .i64 k] w fun e w' => e = .returned (.bool true) ∧ Below w.heap.size w w' := by
  have HT := Lib.hid hT
  have HB := Lib.hid (below1 w)
  have HR := Lib.hid hR
  clear hT hR
  have a1 : (a == 0) = false := by rw [beq_eq_false_iff_ne]; omega
  have d4 : IntKind.i64.wrap (d : Int) = d := IntWalk.i64_in _ (by omega)
  have dA : decide (256 < a) = false := by simp; omega
  have HTi := Lib.hid hTi
  clear hTi
  go_enter Tryd.func5, Tryd.ntmps5
  go_wp2_with fail
  refine (Sh.awake _ (HT.out.below (HB.out _))).mono ?_
  rintro e w1 ⟨rfl, d1⟩
  have T1 := (Tw.fresh w a b 23).below d1
  have c1 := (HB.out _).trans (d1.mono (HB.out _).size)
  clear d1
  have t0 := T1.c0
  have t1 := T1.c1
  go_wp2_with fail
  refine (HR.out _ (HT.out.below c1)).mono ?_
  rintro e w2 ⟨rfl, d2⟩
  have T2 := T1.below d2
  have c2 := c1.trans (d2.mono c1.size)
  clear d2 t0 t1 T1 c1
  have t0 := T2.c0
  have t1 := T2.c1
  go_wp2_with fail
  go_quiet (fail)
  have T3 : Tw (w2.drewN nq) w.heap.size a b := ⟨T2.c0, T2.c1⟩
  have c3 := below_drewN c2 nq
  clear t0 t1 T2 c2
  generalize w2.drewN nq = w3 at *
  have t0 := T3.c0
  have t1 := T3.c1
  go_wp2_with fail
  refine (HTi.out _ (HT.out.below c3)).mono ?_
  rintro e w4 ⟨rfl, d4⟩
  have c4 := c3.trans (d4.mono c3.size)
  go_wp2
  go_ret
  exact ⟨by simp [go_sem], c4⟩

theorem walk (a b h k : Int) (hh : -9223372036854775808 ≤ h ∧ h ≤ 9223372036854775807) (hk : -9223372036854775808 ≤ k ∧ k ≤ 9223372036854775807) (w : World) (hT : Ft.Tab w) :
    Calls Tryd.prog 5 #[.agg #[.int .i64 a, .int .i64 b], .int .i64 h, .int .i64 k] w fun e w' => e = .returned (.bool true) ∧ Below w.heap.size w w' := by
  by_cases hg : Gd a b
  · have R := fun W (hW : Ft.Tab W) => Sh.ref a b true (by simp [hg]) W
    obtain ⟨g1, g2, g3, g4, _⟩ := hg.bound
    by_cases ha : 256 < a
    · exact large_a a b h k ha R w hT
    obtain ⟨p, rfl⟩ := Int.eq_ofNat_of_zero_le (show 0 ≤ a by omega)
    obtain ⟨q, rfl⟩ := Int.eq_ofNat_of_zero_le (show 0 ≤ b by omega)
    obtain ⟨d, hd⟩ : ∃ d, d = 256 / p := ⟨_, rfl⟩
    have d1 : Int.tdiv 256 (p : Int) = (d : Int) := by rw [hd]; rfl
    have d2 : 256 / (p : Int) = (d : Int) := by rw [hd]; rfl
    have d3 : d ≤ 256 := by rw [hd]; exact Nat.div_le_self _ _
    by_cases hb : (d : Int) < q
    · exact large_b p q h k d g1 ha d1 d2 d3 hb R w hT
    have hpq : p * q ≤ 256 := by
      rw [Nat.mul_comm]
      exact (Nat.le_div_iff_mul_le (by omega)).1 (by omega)
    by_cases h1 : h < 1
    · exact arg_h p q h k d g1 ha d1 d2 d3 hb h1 R (fun W hW => Sh.tiles_arg p q h k (Or.inl h1) W) w hT
    by_cases k1 : k < 1
    · exact arg_k p q h k d g1 ha d1 d2 d3 hb h1 k1 R (fun W hW => Sh.tiles_arg p q h k (Or.inr k1) W) w hT
    obtain ⟨h', rfl⟩ := Int.eq_ofNat_of_zero_le (show 0 ≤ h by omega)
    obtain ⟨k', rfl⟩ := Int.eq_ofNat_of_zero_le (show 0 ≤ k by omega)
    obtain ⟨zs, z1, z2, z3, z4⟩ := zeroM
    exact inner p q h' k' d _ (by omega) (by omega) d1 d2 d3 (by omega) (by omega) zs z1 z2 z3 z4 rfl hpq (by omega) (by omega) (by omega) (by omega) R
      (fun W hW => Sh.tiles_in p q h' k' hg hpq (by omega) (by omega) (by omega) (by omega) W hW) w hT
  · have R := fun W (hW : Ft.Tab W) => Sh.ref a b false (by simp [hg]) W
    by_cases h1 : h < 1
    · exact bad_h a b h k h1 R (fun W hW => Sh.tiles_arg a b h k (Or.inl h1) W) w hT
    by_cases k1 : k < 1
    · exact bad_k a b h k h1 k1 R (fun W hW => Sh.tiles_arg a b h k (Or.inr k1) W) w hT
    exact bad a b h k h1 k1 R (fun W hW => Sh.tiles_bad a b h k h1 k1 hg W hW) w hT

theorem g32 : Tryd.prog.globalNamed "math/bits.deBruijn32tab" = some 0 := by kernel_rfl
theorem g64 : Tryd.prog.globalNamed "math/bits.deBruijn64tab" = some 1 := by kernel_rfl
theorem t64 : (Tryd.prog.globals[1]?).map (·.type) = some 60 := by kernel_rfl
/-- What the row's condition gives the walk: the table's cells. -/
theorem of_laid {W : World} (h : laidMetH Tryd.prog Rows.shapeTilesRow.laid W) : Ft.Tab W := by
  rw [MakeChecks.laidMetH_plain _ _ _ (by kernel_rfl)] at h
  obtain ⟨ps, ⟨g0, t0, cs0, f0, p0, q0, hg0, ht0, hv0, hd0, ⟨g1, t1, cs1, f1, p1, q1, hg1, ht1, hv1, hd1, _, _⟩, _⟩, _, _⟩ := h
  obtain rfl := Option.some.inj (g64.symm.trans hg1)
  obtain rfl := Option.some.inj (t64.symm.trans ht1)
  have hd2 : DataW.trod _ Tryd.prog W 0 _ false f1 60 cs1.toList = some (Lib.tabData .u8 (Lib.deBruijn64tab.map Int.ofNat), p1) := hd1
  have hc := Lib.cells_of_tab Tryd.underlying60 Tryd.underlying5 (by kernel_rfl) (by kernel_rfl) hd2
  intro i hi
  have c := World.var?_cell hg1 hv1 i
  rw [c, ← Array.getElem?_toList, hc]
  have hl : Lib.deBruijn64tab.length = 64 := by decide
  simp [List.getD, hl, hi]

theorem cellsW : Tryd.prog.cellsOf 23 = 2 := by kernel_rfl

/-- The door's own heap meets the condition. -/
theorem door_met (os : Os) (args : Array Value) : laidMetH Tryd.prog Rows.shapeTilesRow.laid ((World.doorLaid Tryd.prog 400 os).forCall (fun _ _ => 0) ⟨#[], args, []⟩).memory :=
  laidMetH_of_parts3 (fuel := 8) (laidMet_of_run' 8 (by kernel_rfl) (by kernel_rfl)) (by kernel_rfl) (by kernel_rfl)
set_option maxRecDepth 100000 in
theorem lifted (os : Os) (started : os.Started) (H : Type) (enc : TypeId × Value → H) :
    ReturnsInHanded {} Tryd.checked os 5 .any (fun w args => (Rows.shapeTilesSpec.pre enc Tryd.prog Tryd.f5 [] false w args ∧ laidMetH Tryd.prog Rows.shapeTilesRow.laid w) ∧ sizedMet enc Tryd.prog Tryd.f5 (OpenSpec.ofChange Rows.shapeTilesSpec) false w args)
      (Rows.shapeTilesSpec.post enc Tryd.prog Tryd.f5 false true false false) := by
  refine returnsInHanded_of_change_and (C := Tryd.checked) (X := fun w _ => laidMetH Tryd.prog Rows.shapeTilesRow.laid w) (fun _ _ _ hh h => h.of_heap hh) Fr.own started (by kernel_rfl) Tryd.func5
    (ChangeSpec.witness_shaped (enc := enc) (C := Tryd.checked) (os := os) (X := fun w _ => laidMetH Tryd.prog Rows.shapeTilesRow.laid w) false (World.doorLaid Tryd.prog 400 os) #[.agg #[.int .i64 0, .int .i64 0], .int .i64 0, .int .i64 0] 8 rfl (World.shaped_of_RefB (by kernel_rfl) (by kernel_rfl)) (by kernel_rfl) (by kernel_rfl) (by kernel_rfl) (door_met os _)) ?_
  intro W base args ds gs before hval0 hW _ _ hL _
  have hval : ∀ (j : Nat) t v, Tryd.f5.params[j]? = some t → args[j]? = some v → Value.okWide Tryd.prog W .any base t v := hval0
  have hW' := hW
  obtain ⟨p, q, hA0, hV, rfl, hfz, hnd⟩ := hW
  have hA : DataW.TrodAll enc Tryd.prog W 0 (fun _ => true) true Tryd.f5.params.toList args.toList ds p := hA0
  obtain ⟨rfl, rfl⟩ := trodVars_none hV
  rw [Tryd.params5] at hA hval
  obtain ⟨v0, vs0, d0, ds0, p0, q0, hargs, rfl, rfl, h0, r0⟩ := trodAll_cons hA
  obtain ⟨v1, vs1, d1, ds1, p1, q1, rfl, rfl, rfl, h1, r1⟩ := trodAll_cons r0
  obtain ⟨v2, vs2, d2, ds2, p2, q2, rfl, rfl, rfl, h2, r2⟩ := trodAll_cons r1
  obtain ⟨rfl, rfl, rfl⟩ := trodAll_nil r2
  obtain rfl : args = #[v0, v1, v2] := by cases args; simp_all
  obtain ⟨c00, c01, y00, y01, m0, rfl, rfl, rfl, hy00, hy01⟩ := Joins.open_agg2 Tryd.underlying23 (by kernel_rfl) cellsW (hval 0 23 v0 rfl rfl) h0
  obtain ⟨a0, e00, rfl, wa0⟩ := DataW.trod_int Tryd.underlying3 hy00
  obtain ⟨b0, e01, rfl, wb0⟩ := DataW.trod_int Tryd.underlying3 hy01
  simp at e00 e01
  subst e00 e01
  have ba0 : -9223372036854775808 ≤ a0 ∧ a0 ≤ 9223372036854775807 := by simpa [Lit.wf, IntKind.min, IntKind.max, IntKind.signed, IntKind.bits] using wa0
  have bb0 : -9223372036854775808 ≤ b0 ∧ b0 ≤ 9223372036854775807 := by simpa [Lit.wf, IntKind.min, IntKind.max, IntKind.signed, IntKind.bits] using wb0
  obtain ⟨x1, rfl, rfl, rfl, w1⟩ := open_int Tryd.underlying3 (hval 1 3 v1 rfl rfl) h1
  have b1 : -9223372036854775808 ≤ x1 ∧ x1 ≤ 9223372036854775807 := by simpa [Lit.wf, IntKind.min, IntKind.max, IntKind.signed, IntKind.bits] using w1
  obtain ⟨x2, rfl, rfl, rfl, w2⟩ := open_int Tryd.underlying3 (hval 2 3 v2 rfl rfl) h2
  have b2 : -9223372036854775808 ≤ x2 ∧ x2 ≤ 9223372036854775807 := by simpa [Lit.wf, IntKind.min, IntKind.max, IntKind.signed, IntKind.bits] using w2
  simp only [List.append_nil] at hW'
  refine (walk a0 b0 x1 x2 b1 b2 W (of_laid hL)).mono fun e W' ⟨he, hb⟩ => ?_
  subst he
  exact ⟨_, rfl, Fr.law_post (tb := 4) hW' hA0 rfl rfl rfl Tryd.underlying4 (by rw [Tryd.params5]; intro t ht; simp at ht; rcases ht with rfl | rfl | rfl; all_goals exact ⟨by kernel_rfl, of_decide_eq_true (by kernel_rfl)⟩) hb⟩

theorem row_holds : Rows.ShapeTilesSaid :=
  OpenClaim.holds_of_wide 5 Tryd.f5 rfl rfl rfl rfl rfl rfl rfl ⟨rfl, rfl, rfl, rfl, rfl⟩ rfl rfl rfl rfl rfl (by kernel_rfl) Tryd.func5 (by kernel_rfl)
    (of_decide_eq_true (by kernel_rfl)) (by unfold Func.isWrapper; first | (rw [if_pos (by decide +kernel)]; kernel_rfl) | (rw [if_neg (by decide +kernel)]; exact ⟨rfl, rfl⟩))
    (fun os started H enc _ => lifted os started H enc)

theorem proved : Rows.ShapeTilesCardSaid :=
  Claim7.holds_tied_plain_at .later [] [.data, .data] true Rows.shapeTilesCard.stood.harness false
    row_holds (fun _ h => by cases h) (by kernel_rfl) (fun _ h => by cases h) shapeTiles_row_tie rfl ⟨rfl, rfl⟩ (by kernel_rfl) rfl
    (fun f fn hf hfn => by
      obtain rfl : f = 5 := Option.some.inj ((show Tryd.prog.funcNamed "abacist/abacistlaw06.ShapeTiles" = some 5 by kernel_rfl).symm.trans hf) |>.symm
      obtain rfl : fn = Tryd.f5 := (Option.some.inj (Tryd.func5.symm.trans hfn)).symm
      exact ⟨by kernel_rfl, fun j t ht => by
        rw [Tryd.params5] at ht
        have hm : t ∈ [23, 3] := by simpa using Array.mem_of_getElem? ht
        have hall : ([23, 3].all fun u => !Tryd.prog.wantsStandIn u) = true := by kernel_rfl
        exact (show Tryd.prog.wantsStandIn t = false by simpa using List.all_eq_true.1 hall t hm)⟩)
    (by kernel_rfl)
end Go.Proofs.YtfmjmopmlimnnaaDoor.shapeTiles
