/- RootTells: of every exponent and every number the law of roots, their inverses and powers of two answers true, and changes nothing, where the library's two tables are as their initialisers lay them (the card ties them to the program's text). -/
import Derived.Test.YtkocniimpdhogaaDoorFrame
import Derived.Test.YtkocniimpdhogaaDoorRoot
import Derived.Test.YtkocniimpdhogaaDoorRootR
import Derived.Test.YtkocniimpdhogaaDoorFits
import Derived.Test.YtkocniimpdhogaaDoorTie
import Derived.Test.YtkocniimpdhogaaDoorCards
import Derived.Lib.LaidTab
import Derived.LaidMore
import Derived.Stop.Joined
import Derived.SevenTiedAt
set_option linter.unusedVariables false
namespace Go.Proofs.YtkocniimpdhogaaDoor.rootTells
open Go.ChangeShapes Go.WideShapes Go.ChangeAt Go.RowKit
open Nm

set_option maxHeartbeats 1000000 in
set_option maxRecDepth 100000 in
theorem walk_low_some (k : Int) (hk : k < 0) (n j : Nat) (hj : j ≤ 32) (nf : ∀ W, Ft.Tab W → Calls Tryd.prog 7 #[.int .i64 (n : Int)] W fun e w' => e = .returned (.tuple #[.int .i64 (j : Int), .bool true]) ∧ W = w') (nr : ∀ W, Calls Tryd.prog 8 #[.int .i64 (n : Int)] W fun e w' => e = .returned (.int .i64 (j : Int)) ∧ W = w') (w : World) (hT : Ft.Tab w) :
    Calls Tryd.prog 3 #[.int .i64 k, .int .i64 (n : Int)] w fun e w' => e = .returned (.bool true) ∧ Below w.heap.size w w' := by
  have NF := Lib.hid nf
  have NR := Lib.hid nr
  clear nf nr
  have R1 := Lib.hid (fun W => Rt.root_low k hk W)
  have B1 := Lib.hid (fun W => Rt.back_low k hk W)
  go_enter Tryd.func3, Tryd.ntmps3
  go_wp2_with fail
  refine (Rt.awake _).mono ?_
  rintro e w1 ⟨rfl, c1⟩
  go_wp2_with fail
  refine (R1.out _).mono ?_
  rintro e w2 ⟨rfl, rfl⟩
  go_wp2_with fail
  refine (B1.out _).mono ?_
  rintro e w3 ⟨rfl, rfl⟩
  have T1 := hT.below c1
  go_wp2_with fail
  refine (NF.out _ T1).mono ?_
  rintro e w4 ⟨rfl, rfl⟩
  go_wp2_with fail
  refine (NR.out _).mono ?_
  rintro e w5 ⟨rfl, rfl⟩
  go_wp2
  go_ret
  exact ⟨by simp [go_sem], c1⟩

set_option maxHeartbeats 1000000 in
set_option maxRecDepth 100000 in
theorem walk_low_none (k : Int) (hk : k < 0) (n : Int) (nf : ∀ W, Calls Tryd.prog 7 #[.int .i64 n] W fun e w' => e = .returned (.tuple #[.int .i64 0, .bool false]) ∧ W = w') (nr : ∀ W, Calls Tryd.prog 8 #[.int .i64 n] W fun e w' => e = .returned (.int .i64 (-1)) ∧ W = w') (w : World) :
    Calls Tryd.prog 3 #[.int .i64 k, .int .i64 n] w fun e w' => e = .returned (.bool true) ∧ Below w.heap.size w w' := by
  have NF := Lib.hid nf
  have NR := Lib.hid nr
  clear nf nr
  have R1 := Lib.hid (fun W => Rt.root_low k hk W)
  have B1 := Lib.hid (fun W => Rt.back_low k hk W)
  go_enter Tryd.func3, Tryd.ntmps3
  go_wp2_with fail
  refine (Rt.awake _).mono ?_
  rintro e w1 ⟨rfl, c1⟩
  go_wp2_with fail
  refine (R1.out _).mono ?_
  rintro e w2 ⟨rfl, rfl⟩
  go_wp2_with fail
  refine (B1.out _).mono ?_
  rintro e w3 ⟨rfl, rfl⟩
  go_wp2_with fail
  refine (NF.out _).mono ?_
  rintro e w4 ⟨rfl, rfl⟩
  go_wp2_with fail
  refine (NR.out _).mono ?_
  rintro e w5 ⟨rfl, rfl⟩
  go_wp2
  go_ret
  exact ⟨by simp [go_sem], c1⟩

set_option maxHeartbeats 1000000 in
set_option maxRecDepth 100000 in
theorem walk_high_some (k : Int) (hk : 32 < k) (n j : Nat) (hj : j ≤ 32) (nf : ∀ W, Ft.Tab W → Calls Tryd.prog 7 #[.int .i64 (n : Int)] W fun e w' => e = .returned (.tuple #[.int .i64 (j : Int), .bool true]) ∧ W = w') (nr : ∀ W, Calls Tryd.prog 8 #[.int .i64 (n : Int)] W fun e w' => e = .returned (.int .i64 (j : Int)) ∧ W = w') (w : World) (hT : Ft.Tab w) :
    Calls Tryd.prog 3 #[.int .i64 k, .int .i64 (n : Int)] w fun e w' => e = .returned (.bool true) ∧ Below w.heap.size w w' := by
  have NF := Lib.hid nf
  have NR := Lib.hid nr
  clear nf nr
  have R1 := Lib.hid (fun W => Rt.root_high k hk W)
  have B1 := Lib.hid (fun W => Rt.back_high k hk W)
  have k1 : ¬ k < 0 := by omega
  go_enter Tryd.func3, Tryd.ntmps3
  go_wp2_with fail
  refine (Rt.awake _).mono ?_
  rintro e w1 ⟨rfl, c1⟩
  go_wp2_with fail
  refine (R1.out _).mono ?_
  rintro e w2 ⟨rfl, rfl⟩
  go_wp2_with fail
  refine (B1.out _).mono ?_
  rintro e w3 ⟨rfl, rfl⟩
  have T1 := hT.below c1
  go_wp2_with fail
  refine (NF.out _ T1).mono ?_
  rintro e w4 ⟨rfl, rfl⟩
  go_wp2_with fail
  refine (NR.out _).mono ?_
  rintro e w5 ⟨rfl, rfl⟩
  go_wp2
  go_ret
  exact ⟨by simp [go_sem], c1⟩

set_option maxHeartbeats 1000000 in
set_option maxRecDepth 100000 in
theorem walk_high_none (k : Int) (hk : 32 < k) (n : Int) (nf : ∀ W, Calls Tryd.prog 7 #[.int .i64 n] W fun e w' => e = .returned (.tuple #[.int .i64 0, .bool false]) ∧ W = w') (nr : ∀ W, Calls Tryd.prog 8 #[.int .i64 n] W fun e w' => e = .returned (.int .i64 (-1)) ∧ W = w') (w : World) :
    Calls Tryd.prog 3 #[.int .i64 k, .int .i64 n] w fun e w' => e = .returned (.bool true) ∧ Below w.heap.size w w' := by
  have NF := Lib.hid nf
  have NR := Lib.hid nr
  clear nf nr
  have R1 := Lib.hid (fun W => Rt.root_high k hk W)
  have B1 := Lib.hid (fun W => Rt.back_high k hk W)
  have k1 : ¬ k < 0 := by omega
  go_enter Tryd.func3, Tryd.ntmps3
  go_wp2_with fail
  refine (Rt.awake _).mono ?_
  rintro e w1 ⟨rfl, c1⟩
  go_wp2_with fail
  refine (R1.out _).mono ?_
  rintro e w2 ⟨rfl, rfl⟩
  go_wp2_with fail
  refine (B1.out _).mono ?_
  rintro e w3 ⟨rfl, rfl⟩
  go_wp2_with fail
  refine (NF.out _).mono ?_
  rintro e w4 ⟨rfl, rfl⟩
  go_wp2_with fail
  refine (NR.out _).mono ?_
  rintro e w5 ⟨rfl, rfl⟩
  go_wp2
  go_ret
  exact ⟨by simp [go_sem], c1⟩

set_option maxHeartbeats 1000000 in
set_option maxRecDepth 100000 in
theorem walk_in_some (k : Nat) (hk : k ≤ 32) (n j : Nat) (hj : j ≤ 32) (nf : ∀ W, Ft.Tab W → Calls Tryd.prog 7 #[.int .i64 (n : Int)] W fun e w' => e = .returned (.tuple #[.int .i64 (j : Int), .bool true]) ∧ W = w') (nr : ∀ W, Calls Tryd.prog 8 #[.int .i64 (n : Int)] W fun e w' => e = .returned (.int .i64 (j : Int)) ∧ W = w') (w : World) (hT : Ft.Tab w) :
    Calls Tryd.prog 3 #[.int .i64 (k : Int), .int .i64 (n : Int)] w fun e w' => e = .returned (.bool true) ∧ Below w.heap.size w w' := by
  have NF := Lib.hid nf
  have NR := Lib.hid nr
  clear nf nr
  have k1 : (k : Int) ≤ 32 := by omega
  have R1 := Lib.hid (fun W => Rt.root k hk W)
  have B1 := Lib.hid (fun W => Rt.back k hk W)
  have Q1 := Lib.hid (fun W => Rr.root k hk W)
  have bl := Nt.inv_lt (Nt.rt k)
  have M1 := Lib.hid (fun W => Gr.mul (Nt.rt k) (Nt.inv (Nt.rt k)) (Nat.lt_trans bl (by decide)) W)
  rw [Nat.mul_comm, Nt.inv_mul _ (Nt.rt_ne k hk)] at M1
  generalize Nt.inv (Nt.rt k) = b at *
  generalize Nt.rt k = r at *
  have BL := Lib.hid bl
  clear bl
  go_enter Tryd.func3, Tryd.ntmps3
  go_wp2_with fail
  refine (Rt.awake _).mono ?_
  rintro e w1 ⟨rfl, c1⟩
  go_wp2_with fail
  refine (R1.out _).mono ?_
  rintro e w2 ⟨rfl, d2⟩
  have c2 := c1.trans (d2.mono c1.size)
  clear d2 c1
  go_wp2_with fail
  refine (B1.out _).mono ?_
  rintro e w3 ⟨rfl, d3⟩
  have c3 := c2.trans (d3.mono c2.size)
  clear d3 c2
  have T1 := hT.below c3
  go_wp2_with fail
  refine (NF.out _ T1).mono ?_
  rintro e w4 ⟨rfl, rfl⟩
  go_wp2_with fail
  refine (NR.out _).mono ?_
  rintro e w5 ⟨rfl, rfl⟩
  go_wp2_with fail
  refine (Q1.out _).mono ?_
  rintro e w6 ⟨rfl, rfl⟩
  go_wp2_with fail
  refine (M1.out _).mono ?_
  rintro e w7 ⟨rfl, rfl⟩
  have b1 : decide ((b : Int) < 18446744069414584321) = true := decide_eq_true (by have := BL.out; omega)
  go_wp2
  go_ret
  exact ⟨by simp [go_sem], c3⟩

set_option maxHeartbeats 1000000 in
set_option maxRecDepth 100000 in
theorem walk_in_none (k : Nat) (hk : k ≤ 32) (n : Int) (nf : ∀ W, Calls Tryd.prog 7 #[.int .i64 n] W fun e w' => e = .returned (.tuple #[.int .i64 0, .bool false]) ∧ W = w') (nr : ∀ W, Calls Tryd.prog 8 #[.int .i64 n] W fun e w' => e = .returned (.int .i64 (-1)) ∧ W = w') (w : World) :
    Calls Tryd.prog 3 #[.int .i64 (k : Int), .int .i64 n] w fun e w' => e = .returned (.bool true) ∧ Below w.heap.size w w' := by
  have NF := Lib.hid nf
  have NR := Lib.hid nr
  clear nf nr
  have k1 : (k : Int) ≤ 32 := by omega
  have R1 := Lib.hid (fun W => Rt.root k hk W)
  have B1 := Lib.hid (fun W => Rt.back k hk W)
  have Q1 := Lib.hid (fun W => Rr.root k hk W)
  have bl := Nt.inv_lt (Nt.rt k)
  have M1 := Lib.hid (fun W => Gr.mul (Nt.rt k) (Nt.inv (Nt.rt k)) (Nat.lt_trans bl (by decide)) W)
  rw [Nat.mul_comm, Nt.inv_mul _ (Nt.rt_ne k hk)] at M1
  generalize Nt.inv (Nt.rt k) = b at *
  generalize Nt.rt k = r at *
  have BL := Lib.hid bl
  clear bl
  go_enter Tryd.func3, Tryd.ntmps3
  go_wp2_with fail
  refine (Rt.awake _).mono ?_
  rintro e w1 ⟨rfl, c1⟩
  go_wp2_with fail
  refine (R1.out _).mono ?_
  rintro e w2 ⟨rfl, d2⟩
  have c2 := c1.trans (d2.mono c1.size)
  clear d2 c1
  go_wp2_with fail
  refine (B1.out _).mono ?_
  rintro e w3 ⟨rfl, d3⟩
  have c3 := c2.trans (d3.mono c2.size)
  clear d3 c2
  go_wp2_with fail
  refine (NF.out _).mono ?_
  rintro e w4 ⟨rfl, rfl⟩
  go_wp2_with fail
  refine (NR.out _).mono ?_
  rintro e w5 ⟨rfl, rfl⟩
  go_wp2_with fail
  refine (Q1.out _).mono ?_
  rintro e w6 ⟨rfl, rfl⟩
  go_wp2_with fail
  refine (M1.out _).mono ?_
  rintro e w7 ⟨rfl, rfl⟩
  have b1 : decide ((b : Int) < 18446744069414584321) = true := decide_eq_true (by have := BL.out; omega)
  go_wp2
  go_ret
  exact ⟨by simp [go_sem], c3⟩

theorem walk (k n : Int) (w : World) (hT : Ft.Tab w) :
    Calls Tryd.prog 3 #[.int .i64 k, .int .i64 n] w fun e w' => e = .returned (.bool true) ∧ Below w.heap.size w w' := by
  by_cases h : ∃ j : Nat, j ≤ 32 ∧ n = ((2 ^ j : Nat) : Int)
  · obtain ⟨j, hj, rfl⟩ := h
    have nr := fun W => Ft.ref_any ((2 ^ j : Nat) : Int) (j : Int) (fun i hi e => by
      have e2 : 2 ^ j = 2 ^ i := by omega
      rw [Nat.pow_right_inj (a := 2) (by decide) |>.mp e2]) (fun h => absurd rfl (h j hj)) W
    have nf := fun W T => Ft.fits_some j hj W T
    by_cases k0 : k < 0
    · exact walk_low_some k k0 _ j hj nf nr w hT
    by_cases k3 : 32 < k
    · exact walk_high_some k k3 _ j hj nf nr w hT
    obtain ⟨i, rfl⟩ := Int.eq_ofNat_of_zero_le (show 0 ≤ k by omega)
    exact walk_in_some i (by omega) _ j hj nf nr w hT
  · have h' : ∀ j : Nat, j ≤ 32 → n ≠ ((2 ^ j : Nat) : Int) := fun j hj e => h ⟨j, hj, e⟩
    have nr := fun W => Ft.ref_any n (-1) (fun i hi e => absurd e (h' i hi)) (fun _ => rfl) W
    have nf := fun W => Ft.fits_none n h' W
    by_cases k0 : k < 0
    · exact walk_low_none k k0 n nf nr w
    by_cases k3 : 32 < k
    · exact walk_high_none k k3 n nf nr w
    obtain ⟨i, rfl⟩ := Int.eq_ofNat_of_zero_le (show 0 ≤ k by omega)
    exact walk_in_none i (by omega) n nf nr w

theorem g32 : Tryd.prog.globalNamed "math/bits.deBruijn32tab" = some 0 := by kernel_rfl
theorem g64 : Tryd.prog.globalNamed "math/bits.deBruijn64tab" = some 1 := by kernel_rfl
theorem t64 : (Tryd.prog.globals[1]?).map (·.type) = some 45 := by kernel_rfl
/-- What the row's condition gives the walk: the table's cells. -/
theorem of_laid {W : World} (h : laidMetH Tryd.prog Rows.rootTellsRow.laid W) : Ft.Tab W := by
  rw [MakeChecks.laidMetH_plain _ _ _ (by kernel_rfl)] at h
  obtain ⟨ps, ⟨g0, t0, cs0, f0, p0, q0, hg0, ht0, hv0, hd0, ⟨g1, t1, cs1, f1, p1, q1, hg1, ht1, hv1, hd1, _, _⟩, _⟩, _, _⟩ := h
  obtain rfl := Option.some.inj (g64.symm.trans hg1)
  obtain rfl := Option.some.inj (t64.symm.trans ht1)
  have hd2 : DataW.trod _ Tryd.prog W 0 _ false f1 45 cs1.toList = some (Lib.tabData .u8 (Lib.deBruijn64tab.map Int.ofNat), p1) := hd1
  have hc := Lib.cells_of_tab Tryd.underlying45 Tryd.underlying5 (by kernel_rfl) (by kernel_rfl) hd2
  intro i hi
  have c := World.var?_cell hg1 hv1 i
  rw [c, ← Array.getElem?_toList, hc]
  have hl : Lib.deBruijn64tab.length = 64 := by decide
  simp [List.getD, hl, hi]

/-- The door's own heap meets the condition. -/
theorem door_met (os : Os) (args : Array Value) : laidMetH Tryd.prog Rows.rootTellsRow.laid ((World.doorLaid Tryd.prog 400 os).forCall (fun _ _ => 0) ⟨#[], args, []⟩).memory :=
  laidMetH_of_parts3 (fuel := 8) (laidMet_of_run' 8 (by kernel_rfl) (by kernel_rfl)) (by kernel_rfl) (by kernel_rfl)
set_option maxRecDepth 100000 in
theorem lifted (os : Os) (started : os.Started) (H : Type) (enc : TypeId × Value → H) :
    ReturnsInHanded {} Tryd.checked os 3 .any (fun w args => (Rows.rootTellsSpec.pre enc Tryd.prog Tryd.f3 [] false w args ∧ laidMetH Tryd.prog Rows.rootTellsRow.laid w) ∧ sizedMet enc Tryd.prog Tryd.f3 (OpenSpec.ofChange Rows.rootTellsSpec) false w args)
      (Rows.rootTellsSpec.post enc Tryd.prog Tryd.f3 false true false false) := by
  refine returnsInHanded_of_change_and (C := Tryd.checked) (X := fun w _ => laidMetH Tryd.prog Rows.rootTellsRow.laid w) (fun _ _ _ hh h => h.of_heap hh) Fr.own started (by kernel_rfl) Tryd.func3
    (ChangeSpec.witness_shaped (enc := enc) (C := Tryd.checked) (os := os) (X := fun w _ => laidMetH Tryd.prog Rows.rootTellsRow.laid w) false (World.doorLaid Tryd.prog 400 os) #[.int .i64 0, .int .i64 0] 8 rfl (World.shaped_of_RefB (by kernel_rfl) (by kernel_rfl)) (by kernel_rfl) (by kernel_rfl) (by kernel_rfl) (door_met os _)) ?_
  intro W base args ds gs before hval0 hW _ _ hL _
  have hval : ∀ (j : Nat) t v, Tryd.f3.params[j]? = some t → args[j]? = some v → Value.okWide Tryd.prog W .any base t v := hval0
  have hW' := hW
  obtain ⟨p, q, hA0, hV, rfl, hfz, hnd⟩ := hW
  have hA : DataW.TrodAll enc Tryd.prog W 0 (fun _ => true) true Tryd.f3.params.toList args.toList ds p := hA0
  obtain ⟨rfl, rfl⟩ := trodVars_none hV
  rw [Tryd.params3] at hA hval
  obtain ⟨v0, vs0, d0, ds0, p0, q0, hargs, rfl, rfl, h0, r0⟩ := trodAll_cons hA
  obtain ⟨v1, vs1, d1, ds1, p1, q1, rfl, rfl, rfl, h1, r1⟩ := trodAll_cons r0
  obtain ⟨rfl, rfl, rfl⟩ := trodAll_nil r1
  obtain rfl : args = #[v0, v1] := by cases args; simp_all
  obtain ⟨x0, rfl, rfl, rfl, w0⟩ := open_int Tryd.underlying3 (hval 0 3 v0 rfl rfl) h0
  have b0 : -9223372036854775808 ≤ x0 ∧ x0 ≤ 9223372036854775807 := by simpa [Lit.wf, IntKind.min, IntKind.max, IntKind.signed, IntKind.bits] using w0
  obtain ⟨x1, rfl, rfl, rfl, w1⟩ := open_int Tryd.underlying3 (hval 1 3 v1 rfl rfl) h1
  have b1 : -9223372036854775808 ≤ x1 ∧ x1 ≤ 9223372036854775807 := by simpa [Lit.wf, IntKind.min, IntKind.max, IntKind.signed, IntKind.bits] using w1
  simp only [List.append_nil] at hW'
  refine (walk x0 x1  W (of_laid hL)).mono fun e W' ⟨he, hb⟩ => ?_
  subst he
  exact ⟨_, rfl, Fr.law_post (tb := 4) hW' hA0 rfl rfl rfl Tryd.underlying4 (by rw [Tryd.params3]; intro t ht; simp at ht; rcases ht with rfl | rfl; all_goals exact ⟨by kernel_rfl, of_decide_eq_true (by kernel_rfl)⟩) hb⟩

theorem row_holds : Rows.RootTellsSaid :=
  OpenClaim.holds_of_wide 3 Tryd.f3 rfl rfl rfl rfl rfl rfl rfl ⟨rfl, rfl, rfl, rfl, rfl⟩ rfl rfl rfl rfl rfl (by kernel_rfl) Tryd.func3 (by kernel_rfl)
    (of_decide_eq_true (by kernel_rfl)) (by unfold Func.isWrapper; first | (rw [if_pos (by decide +kernel)]; kernel_rfl) | (rw [if_neg (by decide +kernel)]; exact ⟨rfl, rfl⟩))
    (fun os started H enc _ => lifted os started H enc)

theorem proved : Rows.RootTellsCardSaid :=
  Claim7.holds_tied_plain_at .later [] [.data, .data] true Rows.rootTellsCard.stood.harness false
    row_holds (fun _ h => by cases h) (by kernel_rfl) (fun _ h => by cases h) rootTells_row_tie rfl ⟨rfl, rfl⟩ (by kernel_rfl) rfl
    (fun f fn hf hfn => by
      obtain rfl : f = 3 := Option.some.inj ((show Tryd.prog.funcNamed "abacist/abacistlaw03.RootTells" = some 3 by kernel_rfl).symm.trans hf) |>.symm
      obtain rfl : fn = Tryd.f3 := (Option.some.inj (Tryd.func3.symm.trans hfn)).symm
      exact ⟨by kernel_rfl, fun j t ht => by
        rw [Tryd.params3] at ht
        have hm : t ∈ [3] := by simpa using Array.mem_of_getElem? ht
        have hall : ([3].all fun u => !Tryd.prog.wantsStandIn u) = true := by kernel_rfl
        exact (show Tryd.prog.wantsStandIn t = false by simpa using List.all_eq_true.1 hall t hm)⟩)
    (by kernel_rfl)
end Go.Proofs.YtkocniimpdhogaaDoor.rootTells
