/- CrcTells: of all bytes and of all words the law of sums answers true, and changes nothing, where the table of half bytes' sums is as its initialiser lays it (the card ties it to the program's text). -/
import Derived.Test.YtinachlkaochdaaDoorFrame
import Derived.Test.YtinachlkaochdaaDoorCrcS
import Derived.Test.YtinachlkaochdaaDoorTie
import Derived.Test.YtinachlkaochdaaDoorCards
import Derived.Lib.QuietBelow
import Derived.Lib.LaidTab
import Derived.LaidMore
import Derived.Stop.Joined
import Derived.SevenTiedAt
set_option linter.unusedVariables false
namespace Go.Proofs.YtinachlkaochdaaDoor.crcTells
open Go.ChangeShapes Go.WideShapes Go.ChangeAt Go.RowKit
open Ww Cd Cr Cx
open Go.Sort (grow)
set_option maxHeartbeats 1000000 in
set_option maxRecDepth 100000 in
theorem walk_long (A B : Option Addr) (n m ca cb : Nat) (h : 300 < n ∨ 40 < m) (w : World) (hT : Tab w) :
    Calls Tryd.prog 3 #[.slice A n ca, .slice B m cb] w fun e w' => e = .returned (.bool true) ∧ Below w.heap.size w w' := by
  have AW := Lib.hid (awake w hT)
  clear hT
  by_cases h1 : 300 < n
  · have g1 : (300 : Int) < n := by omega
    clear h
    go_enter Tryd.func3, Tryd.ntmps3
    go_wp2_with fail
    refine AW.out.mono ?_
    rintro e w1 ⟨rfl, hb⟩
    go_wp2
    go_ret
    exact ⟨rfl, hb⟩
  · have g1 : decide ((300 : Int) < n) = false := decide_eq_false (by omega)
    have g2 : (40 : Int) < m := by omega
    clear h h1
    go_enter Tryd.func3, Tryd.ntmps3
    go_wp2_with fail
    refine AW.out.mono ?_
    rintro e w1 ⟨rfl, hb⟩
    go_wp2
    go_ret
    exact ⟨rfl, hb⟩
set_option maxHeartbeats 4000000 in
set_option maxRecDepth 100000 in
theorem walk_short (A B : Option Addr) (ca cb : Nat) (bs : List UInt8) (xs : List Nat) (hb : bs.length ≤ 300) (hx : xs.length ≤ 40) (w : World) (hT : Tab w) (R : Bs w w.heap.size A bs) (Q : Ws w w.heap.size B xs) :
    Calls Tryd.prog 3 #[.slice A bs.length ca, .slice B xs.length cb] w fun e w' => e = .returned (.bool true) ∧ Below w.heap.size w w' := by
  have g1 : decide ((300 : Int) < bs.length) = false := decide_eq_false (by omega)
  have g2 : decide ((40 : Int) < xs.length) = false := decide_eq_false (by omega)
  have AW := Lib.hid (awake w hT)
  have DB := Lib.hid (fun (W : World) (b : Below w.heap.size w W) d os => b.trans ((below_regrown W d os).mono b.size))
  have cv0 : ∀ W, Below w.heap.size w W → ∀ d os, (convert 22 9 (.slice A bs.length ca)).run Tryd.prog (grow (redrawn W d) os) = .ok (.string (sb bs)) (grow (redrawn W d) os) := fun W b d os => conv_bytes (R.below (DB.out W b d os)) ca
  have C1 := Lib.hid (fun (W : World) (b : Below w.heap.size w W) d os => Calls.regrown_of ((Cx.of A w.heap.size ca bs (grow (redrawn W d) os) (R.below (DB.out W b d os)) (hT.below (DB.out W b d os)) (by omega)).mono fun e w' ⟨h1, h2⟩ => (⟨h1, by rw [← h2]; exact Below.refl _ _⟩ : e = .returned (.int .u32 (sum bs : Nat)) ∧ Below (grow (redrawn W d) os).heap.size (grow (redrawn W d) os) w')))
  have C2 := Lib.hid (fun (W : World) (b : Below w.heap.size w W) d os => Calls.regrown_of ((rof (sb bs) (by rw [sb_size]; omega) (grow (redrawn W d) os)).mono fun e w' ⟨h1, h2⟩ => (⟨by rw [h1, sb_list], by rw [← h2]; exact Below.refl _ _⟩ : e = .returned (.int .u32 (sum bs : Nat)) ∧ Below (grow (redrawn W d) os).heap.size (grow (redrawn W d) os) w')))
  have C3 := Lib.hid (fun (W : World) (b : Below w.heap.size w W) d os => Calls.regrown_of (Cx.ofWords B w.heap.size cb xs (grow (redrawn W d) os) (DB.out W b d os).size (Q.below (DB.out W b d os)) (hT.below (DB.out W b d os)) (by omega)))
  have C4 := Lib.hid (fun (W : World) (b : Below w.heap.size w W) d os => Calls.regrown_of (rofWords B cb xs (by omega) (grow (redrawn W d) os) ((Q.below (DB.out W b d os)).more (DB.out W b d os).size)))
  clear hT R Q
  generalize sum bs = s1 at *
  generalize sum (form xs) = s2 at *
  go_enter Tryd.func3, Tryd.ntmps3
  go_wp2_with fail
  refine AW.out.mono ?_
  rintro e w1 ⟨rfl, b1⟩
  have cvf := cv0 w1 b1
  have K1 := Lib.hid (C1.out w1 b1)
  have K2 := Lib.hid (C2.out w1 b1)
  have K3 := Lib.hid (C3.out w1 b1)
  have K4 := Lib.hid (C4.out w1 b1)
  clear C1 C2 C3 C4 DB cv0 AW
  go_upto_region 5 with fail
  refine wp_region_quiet_below (by as_aux_lemma => kernel_rfl) (by as_aux_lemma => kernel_rfl) ?_
  repeat (go_big_quiet_step ((first
    | (go_at_call 8; with_reducible exact K1.out _ _)
    | (go_at_call 9; with_reducible exact K2.out _ _)
    | (go_at_call 10; with_reducible exact K3.out _ _)
    | (go_at_call 11; with_reducible exact K4.out _ _))))
  refine wpQuiet_nil ?_
  intro _ hw'
  obtain ⟨⟨dq, osq⟩, hw''⟩ := hw'
  subst hw''
  have hb := below_regrown w1 dq osq
  go_wp2
  go_ret
  exact ⟨rfl, b1.trans (hb.mono b1.size)⟩
theorem walk (A : Option Addr) (ca : Nat) (bs : List UInt8) (B : Option Addr) (cb : Nat) (xs : List Nat) (w : World) (hT : Tab w) (R : Bs w w.heap.size A bs) (Q : Ws w w.heap.size B xs) :
    Calls Tryd.prog 3 #[.slice A bs.length ca, .slice B xs.length cb] w fun e w' => e = .returned (.bool true) ∧ Below w.heap.size w w' := by
  by_cases h : 300 < bs.length ∨ 40 < xs.length
  · exact walk_long A B _ _ ca cb h w hT
  · exact walk_short A B ca cb bs xs (by omega) (by omega) w hT R Q
def tabZ : List Nat := [0, 274646895, 549293790, 820201905, 1098587580, 1361435347, 1640403810, 1905808397, 2197175160, 2460548119, 2722870694, 2987750089, 3280807620, 3553878443, 3811616794, 4084100981]
theorem tabZ_at : ∀ i, i < 16 → tabZ[i]? = some (steps 4 i) := by decide +kernel
theorem gh : Tryd.prog.globalNamed "abacist/crc.halves" = some 0 := by kernel_rfl
theorem th : (Tryd.prog.globals[0]?).map (·.type) = some 57 := by kernel_rfl
/-- What the row's condition gives the walk: the table's cells. -/
theorem of_laid {W : World} (h : laidMetH Tryd.prog Rows.crcTellsRow.laid W) : Cx.Tab W := by
  rw [MakeChecks.laidMetH_plain _ _ _ (by kernel_rfl)] at h
  obtain ⟨ps, ⟨g1, t1, cs1, f1, p1, q1, hg1, ht1, hv1, hd1, _, _⟩, _, _⟩ := h
  obtain rfl := Option.some.inj (gh.symm.trans hg1)
  obtain rfl := Option.some.inj (th.symm.trans ht1)
  have hd2 : DataW.trod _ Tryd.prog W 0 _ false f1 57 cs1.toList = some (Lib.tabData .u32 (tabZ.map Int.ofNat), p1) := hd1
  have hc := Lib.cells_of_tab Tryd.underlying57 Tryd.underlying25 (by kernel_rfl) (by kernel_rfl) hd2
  intro i hi
  have c := World.var?_cell hg1 hv1 i
  rw [c, ← Array.getElem?_toList, hc]
  simp [tabZ_at i hi]

/-- The door's own heap meets the condition. -/
theorem door_met (os : Os) (args : Array Value) : laidMetH Tryd.prog Rows.crcTellsRow.laid ((World.doorLaid Tryd.prog 400 os).forCall (fun _ _ => 0) ⟨#[], args, []⟩).memory :=
  laidMetH_of_parts3 (fuel := 8) (laidMet_of_run' 8 (by kernel_rfl) (by kernel_rfl)) (by kernel_rfl) (by kernel_rfl)
set_option maxRecDepth 100000 in
theorem lifted (os : Os) (started : os.Started) (H : Type) (enc : TypeId × Value → H) :
    ReturnsInHanded {} Tryd.checked os 3 .any (fun w args => (Rows.crcTellsSpec.pre enc Tryd.prog Tryd.f3 [] false w args ∧ laidMetH Tryd.prog Rows.crcTellsRow.laid w) ∧ sizedMet enc Tryd.prog Tryd.f3 (OpenSpec.ofChange Rows.crcTellsSpec) false w args)
      (Rows.crcTellsSpec.post enc Tryd.prog Tryd.f3 false true false false) := by
  refine returnsInHanded_of_change_and (C := Tryd.checked) (X := fun w _ => laidMetH Tryd.prog Rows.crcTellsRow.laid w) (fun _ _ _ hh h => h.of_heap hh) Fr.own started (by kernel_rfl) Tryd.func3
    (ChangeSpec.witness_shaped (enc := enc) (C := Tryd.checked) (os := os) (X := fun w _ => laidMetH Tryd.prog Rows.crcTellsRow.laid w) false (World.doorLaid Tryd.prog 400 os) #[.slice none 0 0, .slice none 0 0] 8 rfl (World.shaped_of_RefB (by kernel_rfl) (by kernel_rfl)) (by kernel_rfl) (by kernel_rfl) (by kernel_rfl) (door_met os _)) ?_
  intro W base args ds gs before hval0 hW _ _ hL _
  have hval : ∀ (j : Nat) t v, Tryd.f3.params[j]? = some t → args[j]? = some v → Value.okWide Tryd.prog W .any base t v := hval0
  have hW' := hW
  obtain ⟨p, q, hA0, hV, rfl, hfz, hnd⟩ := hW
  have hA : DataW.TrodAll enc Tryd.prog W 0 (fun _ => true) true Tryd.f3.params.toList args.toList ds p := hA0
  obtain ⟨rfl, rfl⟩ := trodVars_none hV
  rw [Tryd.params3] at hA hval
  obtain ⟨v0, vs0, d0, ds0, p0, q0, hargs, rfl, rfl, h0, r0⟩ := trodAll_cons hA
  obtain ⟨v1, vs1, d1, ds1, p1, q1, rfl, rfl, rfl, h1, r1⟩ := trodAll_cons r0
  obtain ⟨rfl, rfl, rfl⟩ := trodAll_nil r1
  obtain rfl : args = #[v0, v1] := by cases args; simp_all
  obtain ⟨A0, n0, c0, rfl⟩ := okWide_slice Tryd.underlying22 (hval 0 22 v0 rfl rfl)
  obtain ⟨fuel0, hf0⟩ := h0
  obtain ⟨xs0, rfl, lc0, lm0, R0⟩ := Ww.open_bytes hf0
  obtain ⟨A1, n1, c1, rfl⟩ := okWide_slice Tryd.underlying23 (hval 1 23 v1 rfl rfl)
  obtain ⟨fuel1, hf1⟩ := h1
  obtain ⟨xs1, rfl, lc1, lm1, R1⟩ := Ww.open_words hf1
  simp only [List.append_nil] at hW' hA0
  refine (walk A0 c0 xs0 A1 c1 xs1 W (of_laid hL) R0 R1).mono fun e W' ⟨he, hb⟩ => ?_
  subst he
  exact ⟨_, rfl, Fr.law_post (tb := 4) hW' hA0 rfl rfl rfl Tryd.underlying4 (by rw [Tryd.params3]; intro t ht; simp at ht; rcases ht with rfl | rfl; all_goals exact ⟨by kernel_rfl, of_decide_eq_true (by kernel_rfl)⟩) hb⟩

theorem row_holds : Rows.CrcTellsSaid :=
  OpenClaim.holds_of_wide 3 Tryd.f3 rfl rfl rfl rfl rfl rfl rfl ⟨rfl, rfl, rfl, rfl, rfl⟩ rfl rfl rfl rfl rfl (by kernel_rfl) Tryd.func3 (by kernel_rfl)
    (of_decide_eq_true (by kernel_rfl)) (by unfold Func.isWrapper; first | (rw [if_pos (by decide +kernel)]; kernel_rfl) | (rw [if_neg (by decide +kernel)]; exact ⟨rfl, rfl⟩))
    (fun os started H enc _ => lifted os started H enc)

theorem proved : Rows.CrcTellsCardSaid :=
  Claim7.holds_tied_plain_at .later [] [.data] true Rows.crcTellsCard.stood.harness false
    row_holds (fun _ h => by cases h) (by kernel_rfl) (fun _ h => by cases h) crcTells_row_tie rfl ⟨rfl, rfl⟩ (by kernel_rfl) rfl
    (fun f fn hf hfn => by
      obtain rfl : f = 3 := Option.some.inj ((show Tryd.prog.funcNamed "abacist/abacistlaw16.CrcTells" = some 3 by kernel_rfl).symm.trans hf) |>.symm
      obtain rfl : fn = Tryd.f3 := (Option.some.inj (Tryd.func3.symm.trans hfn)).symm
      exact ⟨by kernel_rfl, fun j t ht => by
        rw [Tryd.params3] at ht
        have hm : t ∈ [22, 23] := by simpa using Array.mem_of_getElem? ht
        have hall : ([22, 23].all fun u => !Tryd.prog.wantsStandIn u) = true := by kernel_rfl
        exact (show Tryd.prog.wantsStandIn t = false by simpa using List.all_eq_true.1 hall t hm)⟩)
    (by kernel_rfl)
end Go.Proofs.YtinachlkaochdaaDoor.crcTells
