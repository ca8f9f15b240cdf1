/- CrcJoins: of any two rows of bytes and any number the law of joined sums answers true, and changes nothing, where the table of half bytes' sums is as its initialiser lays it (the card ties it to the program's text). -/
import Derived.Test.YtinachlkaochdaaDoorFrame
import Derived.Test.YtinachlkaochdaaDoorCrcS
import Derived.Test.YtinachlkaochdaaDoorCrcQ
import Derived.Test.YtinachlkaochdaaDoorTie
import Derived.Test.YtinachlkaochdaaDoorCards
import Derived.Lib.QuietBelow
import Derived.Lib.LaidTab
import Derived.LaidMore
import Derived.Stop.Joined
import Derived.SevenTiedAt
set_option linter.unusedVariables false
namespace Go.Proofs.YtinachlkaochdaaDoor.crcJoins
open Go.ChangeShapes Go.WideShapes Go.ChangeAt Go.RowKit
open Ww Cd Cr Cx
open Go.Sort (grow)
set_option maxHeartbeats 1000000 in
set_option maxRecDepth 100000 in
theorem walk_long (A B : Option Addr) (n m ca cb : Nat) (x : Int) (h : 300 < n ∨ 300 < m) (w : World) (hT : Tab w) :
    Calls Tryd.prog 4 #[.slice A n ca, .slice B m cb, .int .i64 x] w fun e w' => e = .returned (.bool true) ∧ Below w.heap.size w w' := by
  have AW := Lib.hid (awake w hT)
  clear hT
  by_cases h1 : 300 < n
  · have g1 : (300 : Int) < n := by omega
    clear h
    go_enter Tryd.func4, Tryd.ntmps4
    go_wp2_with fail
    refine AW.out.mono ?_
    rintro e w1 ⟨rfl, hb⟩
    go_wp2
    go_ret
    exact ⟨rfl, hb⟩
  · have g1 : decide ((300 : Int) < n) = false := decide_eq_false (by omega)
    have g2 : (300 : Int) < m := by omega
    clear h h1
    go_enter Tryd.func4, Tryd.ntmps4
    go_wp2_with fail
    refine AW.out.mono ?_
    rintro e w1 ⟨rfl, hb⟩
    go_wp2
    go_ret
    exact ⟨rfl, hb⟩
/-- Join of the sums of bytes. -/
theorem join_len (zs bs : List UInt8) (hb : bs.length ≤ 300) (w : World) :
    Calls Tryd.prog 12 #[.int .u32 (sum zs : Nat), .int .u32 (sum bs : Nat), .int .i64 (bs.length : Nat)] w fun e w' => e = .returned (.int .u32 (sum (zs ++ bs) : Nat)) ∧ w = w' := by
  by_cases h0 : bs.length = 0
  · have hn : bs = [] := List.length_eq_zero_iff.1 h0
    subst hn
    rw [List.append_nil]
    exact join_no _ _ _ (by simp) w
  · rw [sum_join]
    exact join _ _ _ (by omega) (by omega) (sum_lt _) (sum_lt _) w
/-- Two parts. -/
def two (zs bs : List UInt8) (i : Nat) : List UInt8 := if i = 0 then zs else bs
theorem rb_two (A B : Option Addr) (ca cb : Nat) (zs bs : List UInt8) (w : World) (e : TypeId) (R : Bs w w.heap.size A zs) (Q : Bs w w.heap.size B bs) :
    Rb (w.alloc (.cells #[.slice A zs.length ca, .slice B bs.length cb] e)) (w.heap.size + 1) (some ⟨w.heap.size, 0, none⟩) 2 (two zs bs) := fun i hi => by
  have d := (Below.refl w.heap.size w).alloc (Nat.le_refl _) (.cells #[.slice A zs.length ca, .slice B bs.length cb] e)
  have : i = 0 ∨ i = 1 := by omega
  rcases this with rfl | rfl
  · exact ⟨w.heap.size, 0, A, ca, rfl, by omega, by rw [Nat.zero_add, World.cell?_alloc_mark]; rfl, (R.below d).more (by omega)⟩
  · exact ⟨w.heap.size, 0, B, cb, rfl, by omega, by rw [Nat.zero_add, World.cell?_alloc_mark]; rfl, (Q.below d).more (by omega)⟩
theorem cat_two (zs bs : List UInt8) : cat (two zs bs) 2 = zs ++ bs := by simp [cat, two]
set_option maxHeartbeats 4000000 in
set_option maxRecDepth 100000 in
theorem walk_short (A B : Option Addr) (ca cb : Nat) (zs bs : List UInt8) (x : Int) (ha : zs.length ≤ 300) (hb : bs.length ≤ 300) (w : World) (hT : Tab w) (R : Bs w w.heap.size A zs) (Q : Bs w w.heap.size B bs) :
    Calls Tryd.prog 4 #[.slice A zs.length ca, .slice B bs.length cb, .int .i64 x] w fun e w' => e = .returned (.bool true) ∧ Below w.heap.size w w' := by
  have g1 : decide ((300 : Int) < zs.length) = false := decide_eq_false (by omega)
  have g2 : decide ((300 : Int) < bs.length) = false := decide_eq_false (by omega)
  have AW := Lib.hid (awake w hT)
  have DB := Lib.hid (fun (W : World) (b : Below w.heap.size w W) d os => b.trans ((below_regrown W d os).mono b.size))
  have cva : ∀ W, Below w.heap.size w W → (convert 22 9 (.slice A zs.length ca)).run Tryd.prog W = .ok (.string (sb zs)) W := fun W b => conv_bytes (R.below b) ca
  have cvb : ∀ W, Below w.heap.size w W → (convert 22 9 (.slice B bs.length cb)).run Tryd.prog W = .ok (.string (sb bs)) W := fun W b => conv_bytes (Q.below b) cb
  have C1 := Lib.hid (fun (W : World) d os => Calls.regrown_of ((rof (sb zs) (by rw [sb_size]; omega) (grow (redrawn W d) os)).mono fun (e : Ending) (w' : World) ⟨h1, h2⟩ => (⟨by rw [h1, sb_list], by rw [← h2]; exact Below.refl _ _⟩ : e = Ending.returned (.int .u32 (sum zs : Nat)) ∧ Below (grow (redrawn W d) os).heap.size (grow (redrawn W d) os) w')))
  have C2 := Lib.hid (fun (W : World) d os => Calls.regrown_of ((rof (sb bs) (by rw [sb_size]; omega) (grow (redrawn W d) os)).mono fun (e : Ending) (w' : World) ⟨h1, h2⟩ => (⟨by rw [h1, sb_list], by rw [← h2]; exact Below.refl _ _⟩ : e = Ending.returned (.int .u32 (sum bs : Nat)) ∧ Below (grow (redrawn W d) os).heap.size (grow (redrawn W d) os) w')))
  have C3 := Lib.hid (fun W => rof (sb (zs ++ bs)) (by rw [sb_size, List.length_append]; omega) W)
  rw [sb_list, ← sb_append] at C3
  have J1 := Lib.hid (fun W => join_len zs bs hb W)
  have J2 := Lib.hid (fun W (h : x < 1) => join_no (sum zs) (sum bs) x h W)
  have M := Lib.hid (fun W (b : Below w.heap.size w W) => more B w.heap.size cb (sum zs) bs W (Q.below b) (hT.below b) (sum_lt _) (by omega))
  rw [← sum_more] at M
  have P := Lib.hid (fun W (b : Below w.heap.size w W) e => sums (some ⟨W.heap.size, 0, none⟩) (W.heap.size + 1) 2 2 (two zs bs) _ (rb_two A B ca cb zs bs W e ((R.below b).more b.size) ((Q.below b).more b.size)) (hT.below (b.alloc b.size _)) (by omega) (fun i hi => by unfold two; split <;> omega))
  rw [cat_two] at P
  have n1 : ¬ 9223372036854775807 < (sb zs).size + (sb bs).size := by rw [sb_size, sb_size]; omega
  have n2 : (sb zs).size + (sb bs).size ≤ 9223372036854775807 := by omega
  clear hT R Q
  generalize sb zs = za at *
  generalize sb bs = zb at *
  generalize sum (zs ++ bs) = s3 at *
  generalize sum zs = s1 at *
  generalize sum bs = s2 at *
  go_enter Tryd.func4, Tryd.ntmps4
  go_wp2_with fail
  refine AW.out.mono ?_
  rintro e w1 ⟨rfl, b1⟩
  have cvf := fun d os => cva _ (DB.out w1 b1 d os)
  have cvg := fun d os => cvb _ (DB.out w1 b1 d os)
  have K1 := Lib.hid (C1.out w1)
  have K2 := Lib.hid (C2.out w1)
  clear C1 C2 AW
  go_upto_region 5 with fail
  refine wp_region_quiet_below (by as_aux_lemma => kernel_rfl) (by as_aux_lemma => kernel_rfl) ?_
  repeat (go_big_quiet_step ((first
    | (go_at_call 9; with_reducible exact K1.out _ _)
    | (go_at_call 9; with_reducible exact K2.out _ _))))
  refine wpQuiet_nil ?_
  intro _ hw'
  obtain ⟨⟨dq, osq⟩, hw''⟩ := hw'
  subst hw''
  have hb2 := DB.out w1 b1 dq osq
  generalize grow (redrawn w1 dq) osq = w2 at *
  clear cvf cvg K1 K2 b1
  have cvf := cva w2 hb2
  have cvg := cvb w2 hb2
  have M2 := Lib.hid (M.out w2 hb2)
  have P2 := Lib.hid (P.out w2 hb2)
  clear M P cva cvb DB
  go_wp2_with fail
  refine (C3.out _).mono ?_
  rintro e w3 ⟨rfl, rfl⟩
  go_wp2_with fail
  refine (J1.out _).mono ?_
  rintro e w3 ⟨rfl, rfl⟩
  go_wp2_with fail
  refine M2.out.mono ?_
  rintro e w3 ⟨rfl, rfl⟩
  go_wp2_with fail
  refine (P2.out _).mono ?_
  rintro e w3 ⟨rfl, rfl⟩
  clear C3 J1 M2 P2 cvf cvg
  by_cases hx : 0 < x
  · clear J2
    go_wp2
    go_ret
    exact ⟨rfl, hb2.alloc hb2.size _⟩
  · have J3 := Lib.hid (fun W => J2.out W (by omega))
    clear J2
    go_wp2_with fail
    refine (J3.out _).mono ?_
    rintro e w3 ⟨rfl, rfl⟩
    go_wp2
    go_ret
    exact ⟨rfl, hb2.alloc hb2.size _⟩
theorem walk (A : Option Addr) (ca : Nat) (zs : List UInt8) (B : Option Addr) (cb : Nat) (bs : List UInt8) (x : Int) (w : World) (hT : Tab w) (R : Bs w w.heap.size A zs) (Q : Bs w w.heap.size B bs) :
    Calls Tryd.prog 4 #[.slice A zs.length ca, .slice B bs.length cb, .int .i64 x] w fun e w' => e = .returned (.bool true) ∧ Below w.heap.size w w' := by
  by_cases h : 300 < zs.length ∨ 300 < bs.length
  · exact walk_long A B _ _ ca cb x h w hT
  · exact walk_short A B ca cb zs bs x (by omega) (by omega) w hT R Q
def tabZ : List Nat := [0, 274646895, 549293790, 820201905, 1098587580, 1361435347, 1640403810, 1905808397, 2197175160, 2460548119, 2722870694, 2987750089, 3280807620, 3553878443, 3811616794, 4084100981]
theorem tabZ_at : ∀ i, i < 16 → tabZ[i]? = some (steps 4 i) := by decide +kernel
theorem gh : Tryd.prog.globalNamed "abacist/crc.halves" = some 0 := by kernel_rfl
theorem th : (Tryd.prog.globals[0]?).map (·.type) = some 57 := by kernel_rfl
/-- What the row's condition gives the walk: the table's cells. -/
theorem of_laid {W : World} (h : laidMetH Tryd.prog Rows.crcJoinsRow.laid W) : Cx.Tab W := by
  rw [MakeChecks.laidMetH_plain _ _ _ (by kernel_rfl)] at h
  obtain ⟨ps, ⟨g1, t1, cs1, f1, p1, q1, hg1, ht1, hv1, hd1, _, _⟩, _, _⟩ := h
  obtain rfl := Option.some.inj (gh.symm.trans hg1)
  obtain rfl := Option.some.inj (th.symm.trans ht1)
  have hd2 : DataW.trod _ Tryd.prog W 0 _ false f1 57 cs1.toList = some (Lib.tabData .u32 (tabZ.map Int.ofNat), p1) := hd1
  have hc := Lib.cells_of_tab Tryd.underlying57 Tryd.underlying25 (by kernel_rfl) (by kernel_rfl) hd2
  intro i hi
  have c := World.var?_cell hg1 hv1 i
  rw [c, ← Array.getElem?_toList, hc]
  simp [tabZ_at i hi]

/-- The door's own heap meets the condition. -/
theorem door_met (os : Os) (args : Array Value) : laidMetH Tryd.prog Rows.crcJoinsRow.laid ((World.doorLaid Tryd.prog 400 os).forCall (fun _ _ => 0) ⟨#[], args, []⟩).memory :=
  laidMetH_of_parts3 (fuel := 8) (laidMet_of_run' 8 (by kernel_rfl) (by kernel_rfl)) (by kernel_rfl) (by kernel_rfl)
set_option maxRecDepth 100000 in
theorem lifted (os : Os) (started : os.Started) (H : Type) (enc : TypeId × Value → H) :
    ReturnsInHanded {} Tryd.checked os 4 .any (fun w args => (Rows.crcJoinsSpec.pre enc Tryd.prog Tryd.f4 [] false w args ∧ laidMetH Tryd.prog Rows.crcJoinsRow.laid w) ∧ sizedMet enc Tryd.prog Tryd.f4 (OpenSpec.ofChange Rows.crcJoinsSpec) false w args)
      (Rows.crcJoinsSpec.post enc Tryd.prog Tryd.f4 false true false false) := by
  refine returnsInHanded_of_change_and (C := Tryd.checked) (X := fun w _ => laidMetH Tryd.prog Rows.crcJoinsRow.laid w) (fun _ _ _ hh h => h.of_heap hh) Fr.own started (by kernel_rfl) Tryd.func4
    (ChangeSpec.witness_shaped (enc := enc) (C := Tryd.checked) (os := os) (X := fun w _ => laidMetH Tryd.prog Rows.crcJoinsRow.laid w) false (World.doorLaid Tryd.prog 400 os) #[.slice none 0 0, .slice none 0 0, .int .i64 0] 8 rfl (World.shaped_of_RefB (by kernel_rfl) (by kernel_rfl)) (by kernel_rfl) (by kernel_rfl) (by kernel_rfl) (door_met os _)) ?_
  intro W base args ds gs before hval0 hW _ _ hL _
  have hval : ∀ (j : Nat) t v, Tryd.f4.params[j]? = some t → args[j]? = some v → Value.okWide Tryd.prog W .any base t v := hval0
  have hW' := hW
  obtain ⟨p, q, hA0, hV, rfl, hfz, hnd⟩ := hW
  have hA : DataW.TrodAll enc Tryd.prog W 0 (fun _ => true) true Tryd.f4.params.toList args.toList ds p := hA0
  obtain ⟨rfl, rfl⟩ := trodVars_none hV
  rw [Tryd.params4] at hA hval
  obtain ⟨v0, vs0, d0, ds0, p0, q0, hargs, rfl, rfl, h0, r0⟩ := trodAll_cons hA
  obtain ⟨v1, vs1, d1, ds1, p1, q1, rfl, rfl, rfl, h1, r1⟩ := trodAll_cons r0
  obtain ⟨v2, vs2, d2, ds2, p2, q2, rfl, rfl, rfl, h2, r2⟩ := trodAll_cons r1
  obtain ⟨rfl, rfl, rfl⟩ := trodAll_nil r2
  obtain rfl : args = #[v0, v1, v2] := by cases args; simp_all
  obtain ⟨A0, n0, c0, rfl⟩ := okWide_slice Tryd.underlying22 (hval 0 22 v0 rfl rfl)
  obtain ⟨fuel0, hf0⟩ := h0
  obtain ⟨xs0, rfl, lc0, lm0, R0⟩ := Ww.open_bytes hf0
  obtain ⟨A1, n1, c1, rfl⟩ := okWide_slice Tryd.underlying22 (hval 1 22 v1 rfl rfl)
  obtain ⟨fuel1, hf1⟩ := h1
  obtain ⟨xs1, rfl, lc1, lm1, R1⟩ := Ww.open_bytes hf1
  obtain ⟨x2, rfl, rfl, rfl, w2⟩ := open_int Tryd.underlying3 (hval 2 3 v2 rfl rfl) h2
  have b2 : -9223372036854775808 ≤ x2 ∧ x2 ≤ 9223372036854775807 := by simpa [Lit.wf, IntKind.min, IntKind.max, IntKind.signed, IntKind.bits] using w2
  simp only [List.append_nil] at hW' hA0
  refine (walk A0 c0 xs0 A1 c1 xs1 x2 W (of_laid hL) R0 R1).mono fun e W' ⟨he, hb⟩ => ?_
  subst he
  exact ⟨_, rfl, Fr.law_post (tb := 4) hW' hA0 rfl rfl rfl Tryd.underlying4 (by rw [Tryd.params4]; intro t ht; simp at ht; rcases ht with rfl | rfl | rfl; all_goals exact ⟨by kernel_rfl, of_decide_eq_true (by kernel_rfl)⟩) hb⟩

theorem row_holds : Rows.CrcJoinsSaid :=
  OpenClaim.holds_of_wide 4 Tryd.f4 rfl rfl rfl rfl rfl rfl rfl ⟨rfl, rfl, rfl, rfl, rfl⟩ rfl rfl rfl rfl rfl (by kernel_rfl) Tryd.func4 (by kernel_rfl)
    (of_decide_eq_true (by kernel_rfl)) (by unfold Func.isWrapper; first | (rw [if_pos (by decide +kernel)]; kernel_rfl) | (rw [if_neg (by decide +kernel)]; exact ⟨rfl, rfl⟩))
    (fun os started H enc _ => lifted os started H enc)

theorem proved : Rows.CrcJoinsCardSaid :=
  Claim7.holds_tied_plain_at .later [] [.data] true Rows.crcJoinsCard.stood.harness false
    row_holds (fun _ h => by cases h) (by kernel_rfl) (fun _ h => by cases h) crcJoins_row_tie rfl ⟨rfl, rfl⟩ (by kernel_rfl) rfl
    (fun f fn hf hfn => by
      obtain rfl : f = 4 := Option.some.inj ((show Tryd.prog.funcNamed "abacist/abacistlaw16.CrcJoins" = some 4 by kernel_rfl).symm.trans hf) |>.symm
      obtain rfl : fn = Tryd.f4 := (Option.some.inj (Tryd.func4.symm.trans hfn)).symm
      exact ⟨by kernel_rfl, fun j t ht => by
        rw [Tryd.params4] at ht
        have hm : t ∈ [22, 22, 3] := by simpa using Array.mem_of_getElem? ht
        have hall : ([22, 22, 3].all fun u => !Tryd.prog.wantsStandIn u) = true := by kernel_rfl
        exact (show Tryd.prog.wantsStandIn t = false by simpa using List.all_eq_true.1 hall t hm)⟩)
    (by kernel_rfl)
end Go.Proofs.YtinachlkaochdaaDoor.crcJoins
