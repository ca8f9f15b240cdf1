/- CodecForms: of every row of words and every bytes the law of forms answers true, and changes nothing, where the library's tables are as their initialisers lay them (the card ties them to the program's text). -/
import Derived.Test.YtggocbblpgaaoaaDoorFrame
import Derived.Test.YtggocbblpgaaoaaDoorCodF
import Derived.Test.YtggocbblpgaaoaaDoorTie
import Derived.Test.YtggocbblpgaaoaaDoorCards
import Derived.Deep.RegionHeld
import Derived.Deep.DeepCutAuto
import Derived.Lib.QuietBelow
import Derived.Lib.LaidTab
import Derived.LaidMore
import Derived.Stop.Joined
import Derived.SevenTiedAt
set_option linter.unusedVariables false
namespace Go.Proofs.YtggocbblpgaaoaaDoor.codecForms
open Go.ChangeShapes Go.WideShapes Go.ChangeAt Go.RowKit
open Ww Cd Cc Cr Cw
open Go.Sort (grow)

set_option maxHeartbeats 400000 in
theorem walk_long (A B : Option Addr) (n m ca cb : Nat) (h : 40 < n ∨ 300 < m) (w : World) (T : Tab w) :
    Calls Tryd.prog 3 #[.slice A n ca, .slice B m cb] w fun e w' => e = .returned (.bool true) ∧ Below w.heap.size w w' := by
  by_cases h1 : 40 < n
  · have g1 : (40 : Int) < n := by omega
    clear h
    go_enter Tryd.func3, Tryd.ntmps3
    go_wp2_with fail
    refine (awake _ T).mono ?_
    rintro e w1 ⟨rfl, hb⟩
    go_wp2
    go_ret
    exact ⟨rfl, hb⟩
  · have g1 : decide ((40 : Int) < n) = false := decide_eq_false (by omega)
    have g2 : (300 : Int) < m := by omega
    clear h h1
    go_enter Tryd.func3, Tryd.ntmps3
    go_wp2_with fail
    refine (awake _ T).mono ?_
    rintro e w1 ⟨rfl, hb⟩
    go_wp2
    go_ret
    exact ⟨rfl, hb⟩
/-- Put of what was taken. -/
def PutB (bs : List UInt8) (w : World) (e : Ending) (w' : World) : Prop :=
  e = .returned (.slice (some ⟨w.heap.size, 0, none⟩) bs.length bs.length) ∧ Bs w' w'.heap.size (some ⟨w.heap.size, 0, none⟩) bs ∧ Below w.heap.size w w'
theorem put_b (A : Option Addr) (cap : Nat) (l : List Nat) (bs : List UInt8) (hn : l.length ≤ 1048576) (hf : form l = bs) (w : World) (R : Ws w w.heap.size A l) : Calls Tryd.prog 7 #[.slice A l.length cap] w (PutB bs w) := by
  subst hf
  exact Cc.put A cap l hn w R
theorem same_below (A B : Option Addr) (ca cb : Nat) (xs : List Nat) (hn : xs.length ≤ 9223372036854775807) (w : World) (Ra : Ws w w.heap.size A xs) (Rb : Ws w w.heap.size B xs) :
    Calls Tryd.prog 11 #[.slice A xs.length ca, .slice B xs.length cb] w fun e w' => e = .returned (.bool true) ∧ Below w.heap.size w w' :=
  (Cr.same_yes A B ca cb _ xs hn w Ra Rb).mono fun _ _ ⟨h1, n, h2⟩ => ⟨h1, by rw [h2]; exact below_drewN (Below.refl _ _) n⟩
theorem Bs.drew {w : World} {B : Nat} {A : Option Addr} {bs : List UInt8} (h : Bs w B A bs) : Bs w.drew B A bs := ⟨h.at_⟩

set_option maxHeartbeats 4000000 in
set_option maxRecDepth 100000 in
theorem walk_short (A B : Option Addr) (ca cb : Nat) (xs : List Nat) (bs : List UInt8) (hx : xs.length ≤ 40) (hs : bs.length ≤ 300) (hcb : bs.length ≤ cb) (w : World) (R : Ws w w.heap.size A xs) (Q : Bs w w.heap.size B bs) (T : Tab w) :
    Calls Tryd.prog 3 #[.slice A xs.length ca, .slice B bs.length cb] w fun e w' => e = .returned (.bool true) ∧ Below w.heap.size w w' := by
  have g1 : decide ((40 : Int) < xs.length) = false := decide_eq_false (by omega)
  have g2 : decide ((300 : Int) < bs.length) = false := decide_eq_false (by omega)
  obtain ⟨l, a, m, ll, la, lm, hf, TC, TR⟩ := take_any bs (by omega)
  have HG := Lib.hid (first_bad xs)
  have HW := Lib.hid R.all
  have HR := Lib.hid R
  have HQ := Lib.hid Q
  have HF := Lib.hid hf
  have HC := Lib.hid TC
  have HTR := Lib.hid TR
  have AW := Lib.hid (awake w T)
  have FL := Lib.hid (form_len xs)
  clear R Q T hf TC TR
  go_enter Tryd.func3, Tryd.ntmps3
  go_wp2_with fail
  refine AW.out.mono ?_
  rintro e w1 ⟨rfl, b1⟩
  have C1 := Lib.hid (Cc.put A ca xs (by omega) w1 ((HR.out.below b1).more b1.size))
  clear AW
  go_wp2_with fail
  refine C1.out.mono ?_
  rintro e w2 ⟨rfl, f2, d2⟩
  have b2 := b1.trans (d2.mono b1.size)
  generalize (some ⟨w1.heap.size, 0, none⟩ : Option Addr) = Af at *
  clear d2 C1 b1
  have C2 := Lib.hid (HC.out B cb w2 hcb ((HQ.out.below b2).more b2.size))
  go_wp2_with fail
  refine C2.out.mono ?_
  rintro e w3 ⟨A3, c3, rfl, R3, d3⟩
  have b3 := b2.trans (d3.mono b2.size)
  have f3 := f2.step d3
  clear d3 C2 b2 f2
  have cv3 := conv_bytes ((HQ.out.below b3).more b3.size) cb
  have cv3' : (convert 23 9 (.slice B bs.length cb)).run Tryd.prog w3 = .ok (.string (sb bs)) w3 := cv3
  have C3 := Lib.hid (HTR.out w3)
  clear cv3
  go_wp2_with fail
  refine C3.out.mono ?_
  rintro e w4 ⟨A4, c4, rfl, R4, d4⟩
  have b4 := b3.trans (d4.mono b3.size)
  have f4 := f3.step d4
  have R3' := R3.step d4
  clear d4 C3 b3 f3 R3 cv3'
  have HM : m = 0 ∨ m ≠ 0 := by omega
  go_upto_region 8 with fail
  go_cut [74] (fun v74 wx => v74 = .bool false ∧ Below w.heap.size w wx ∧ Bs wx wx.heap.size Af (form xs))
  case first =>
    have bd := b4.drew
    have f5 : Bs w4.drew w4.drew.heap.size Af (form xs) := Bs.drew f4
    have R35 : Ws w4.drew w4.drew.heap.size A3 l := R3'.drew
    have R45 : Ws w4.drew w4.drew.heap.size A4 l := R4.drew
    have cvf0 : (convert 23 9 (.slice Af (form xs).length (form xs).length)).run Tryd.prog w4.drew = .ok (.string (sb (form xs))) w4.drew := conv_bytes f5 _
    have K1 := Lib.hid (Cr.put A ca xs (by omega) w4.drew ((HR.out.below bd).more bd.size))
    have s0 : (convert 23 9 (.slice Af (form xs).length (form xs).length)).run Tryd.prog w4.drew = .ok (.string (sb (form xs))) w4.drew ∧ (convert 23 9 (.slice B bs.length cb)).run Tryd.prog w4.drew = .ok (.string (sb bs)) w4.drew := ⟨conv_bytes f5 _, conv_bytes ((HQ.out.below bd).more bd.size) cb⟩
    clear cvf0
    rcases HM with hm | hm
    · have t1 : ((m : Int) == 0) = true := by simp; omega
      have HF2 := Lib.hid (HF.out hm)
      clear hm
      go_region_held (fun w' => (convert 23 9 (.slice Af (form xs).length (form xs).length)).run Tryd.prog w' = .ok (.string (sb (form xs))) w' ∧ (convert 23 9 (.slice B bs.length cb)).run Tryd.prog w' = .ok (.string (sb bs)) w')
        (first | with_reducible exact s0 | with_reducible exact s1 | with_reducible exact s2 | with_reducible exact s3)
        (first
        | (go_at_call 10; refine K1.out.mono ?_; rintro e w5 ⟨rfl, d5⟩; have b5 := bd.trans (d5.mono bd.size); have f6 := f5.step d5; have R36 := R35.step d5; have R46 := R45.step d5; have s1 : (convert 23 9 (.slice Af (form xs).length (form xs).length)).run Tryd.prog w5 = .ok (.string (sb (form xs))) w5 ∧ (convert 23 9 (.slice B bs.length cb)).run Tryd.prog w5 = .ok (.string (sb bs)) w5 := ⟨conv_bytes f6 _, conv_bytes ((HQ.out.below b5).more b5.size) cb⟩)
        | (go_at_call 11; refine (Cr.same_yes A3 A4 c3 c4 w5.heap.size l (by omega) w5 R36 R46).mono ?_; rintro e w6 ⟨rfl, n6, h6⟩; have b6 : Below w.heap.size w w6 := (by rw [h6]; exact below_drewN b5 n6); have f7 : Bs w6 w6.heap.size Af (form xs) := (by rw [h6]; exact f6.drewN n6); have R37 : Ws w6 w6.heap.size A3 l := (by rw [h6]; exact R36.drewN n6); clear h6; have s2 : (convert 23 9 (.slice Af (form xs).length (form xs).length)).run Tryd.prog w6 = .ok (.string (sb (form xs))) w6 ∧ (convert 23 9 (.slice B bs.length cb)).run Tryd.prog w6 = .ok (.string (sb bs)) w6 := ⟨conv_bytes f7 _, conv_bytes ((HQ.out.below b6).more b6.size) cb⟩)
        | (go_at_call 7; refine (put_b A3 c3 l bs (by omega) HF2.out w6 R37).mono ?_; rintro e w7 ⟨rfl, q7, d7⟩; have b7 := b6.trans (d7.mono b6.size); have f8 := f7.step d7; have s3 : (convert 23 9 (.slice Af (form xs).length (form xs).length)).run Tryd.prog w7 = .ok (.string (sb (form xs))) w7 ∧ (convert 23 9 (.slice B bs.length cb)).run Tryd.prog w7 = .ok (.string (sb bs)) w7 := ⟨conv_bytes f8 _, conv_bytes ((HQ.out.below b7).more b7.size) cb⟩; have cvr7 : (convert 23 9 (.slice (some ⟨w6.heap.size, 0, none⟩) bs.length bs.length)).run Tryd.prog w7 = .ok (.string (sb bs)) w7 := conv_bytes q7 _))
      all_goals (go_wp2_with fail; go_meet)
      all_goals exact ⟨rfl, b7, f8⟩
    · have t1 : ((m : Int) == 0) = false := by simp; omega
      clear hm s0 K1
      have cvf : ∀ d os, (convert 23 9 (.slice Af (form xs).length (form xs).length)).run Tryd.prog (grow (redrawn w4 d) os) = .ok (.string (sb (form xs))) (grow (redrawn w4 d) os) := fun d os => conv_bytes (f4.step (below_regrown w4 d os)) _
      have D1 := Lib.hid (fun d os => Calls.regrown_of (Cr.put A ca xs (by omega) (grow (redrawn w4 d) os) ((HR.out.below (b4.trans ((below_regrown w4 d os).mono b4.size))).more (b4.trans ((below_regrown w4 d os).mono b4.size)).size)))
      have D2 := Lib.hid (fun d os => Calls.regrown_of (same_below A3 A4 c3 c4 l (by omega) (grow (redrawn w4 d) os) (R3'.step (below_regrown w4 d os)) (R4.step (below_regrown w4 d os))))
      refine wp_region_quiet_below (by as_aux_lemma => kernel_rfl) (by as_aux_lemma => kernel_rfl) ?_
      repeat (go_big_quiet_step ((first
        | (go_at_call 10; with_reducible exact D1.out _ _)
        | (go_at_call 11; with_reducible exact D2.out _ _))))
      refine wpQuiet_nil ?_
      intro _ hw'
      obtain ⟨⟨dq, osq⟩, hw''⟩ := hw'
      subst hw''
      have hb := below_regrown w4 dq osq
      go_wp2_with fail
      go_meet
      exact ⟨rfl, b4.trans (hb.mono b4.size), f4.step hb⟩
  case rest =>
    obtain ⟨rfl, b5, f5⟩ := hcut
    clear HM
    rcases HG.out with hg | ⟨k, hk, hk2, hg⟩
    · have C7 := Lib.hid (take_form_ok xs (by omega) HW.out hg Af (form xs).length wc (Nat.le_refl _) f5)
      have H2 := Lib.hid hg
      clear hg
      go_wp2_with fail
      refine C7.out.mono ?_
      rintro e w8 ⟨A8, c8, rfl, R8, d8⟩
      have b8 := b5.trans (d8.mono b5.size)
      clear d8 C7 b5 f5
      have R9 := (HR.out.below b8).more b8.size
      have C9 := Lib.hid (check_ok A w8.heap.size ca xs (by omega) H2.out w8 R9)
      have C10 := Lib.hid (Cr.same_yes A8 A c8 ca w8.heap.size xs (by omega) w8 R8 R9)
      go_wp2_with fail
      refine C9.out.mono ?_
      rintro e w9 ⟨rfl, rfl⟩
      go_wp2_with fail
      refine C10.out.mono ?_
      rintro e w10 ⟨rfl, n10, h10⟩
      have b10 : Below w.heap.size w w10 := by rw [h10]; exact below_drewN b8 n10
      clear h10
      go_wp2
      go_ret
      exact ⟨rfl, b10⟩
    · have C7 := Lib.hid (take_form_bad xs k (by omega) HW.out hk hk2 hg Af (form xs).length wc (Nat.le_refl _) f5)
      have H2 := Lib.hid hg
      have H3 := Lib.hid hk2
      clear hg hk2
      go_wp2_with fail
      refine C7.out.mono ?_
      rintro e w8 ⟨A8, c8, rfl, R8, d8⟩
      have b8 := b5.trans (d8.mono b5.size)
      clear d8 C7 b5 f5
      have R9 := (HR.out.below b8).more b8.size
      have C9 := Lib.hid (check_bad A w8.heap.size ca k xs (by omega) hk H3.out H2.out w8 R9)
      have k1 : (k : Int) < xs.length := by omega
      obtain ⟨b, off, rfl, hB, c0⟩ := R9.at_ k hk
      go_wp2_with fail
      refine C9.out.mono ?_
      rintro e w9 ⟨rfl, rfl⟩
      have H4 : decide ((18446744069414584321 : Int) ≤ ((xs.getD k 0 : Nat) : Int)) = true := decide_eq_true (by have := H3.out; omega)
      generalize xs.getD k 0 = x at *
      go_wp2
      go_ret
      exact ⟨by simp [go_sem], b8⟩
theorem walk (A : Option Addr) (ca : Nat) (xs : List Nat) (B : Option Addr) (cb : Nat) (bs : List UInt8) (hcb : bs.length ≤ cb) (w : World) (R : Ws w w.heap.size A xs) (Q : Bs w w.heap.size B bs) (T : Tab w) :
    Calls Tryd.prog 3 #[.slice A xs.length ca, .slice B bs.length cb] w fun e w' => e = .returned (.bool true) ∧ Below w.heap.size w w' := by
  by_cases h : 40 < xs.length ∨ 300 < bs.length
  · exact walk_long A B xs.length bs.length ca cb h w T
  · exact walk_short A B ca cb xs bs (by omega) (by omega) hcb w R Q T

theorem gp : Tryd.prog.globalNamed "internal/strconv.uint64pow10" = some 0 := by kernel_rfl
theorem tp : (Tryd.prog.globals[0]?).map (·.type) = some 68 := by kernel_rfl
/-- What the row's condition gives the walk: the table's cells. -/
theorem of_laid {W : World} (h : laidMetH Tryd.prog Rows.codecFormsRow.laid W) : Tab W := by
  rw [MakeChecks.laidMetH_plain _ _ _ (by kernel_rfl)] at h
  obtain ⟨ps, ⟨g0, t0, cs0, f0, p0, q0, hg0, ht0, hv0, hd0, ⟨g1, t1, cs1, f1, p1, q1, hg1, ht1, hv1, hd1, ⟨g2, t2, cs2, f2, p2, q2, hg2, ht2, hv2, hd2, _, _⟩, _⟩, _⟩, _, _⟩ := h
  obtain rfl := Option.some.inj (gp.symm.trans hg2)
  obtain rfl := Option.some.inj (tp.symm.trans ht2)
  have hd3 : DataW.trod _ Tryd.prog W 0 _ false f2 68 cs2.toList = some (Lib.tabData .u64 Lib.pow10Tab, p2) := hd2
  have hc := Lib.cells_of_tab Tryd.underlying68 Tryd.underlying35 (by kernel_rfl) (by kernel_rfl) hd3
  show W.var? _ _ = _
  rw [hv2]
  congr 1
  apply Array.ext'
  rw [hc]

/-- The door's own heap meets the condition. -/
theorem door_met (os : Os) (args : Array Value) : laidMetH Tryd.prog Rows.codecFormsRow.laid ((World.doorLaid Tryd.prog 400 os).forCall (fun _ _ => 0) ⟨#[], args, []⟩).memory :=
  laidMetH_of_parts3 (fuel := 8) (laidMet_of_run' 8 (by kernel_rfl) (by kernel_rfl)) (by kernel_rfl) (by kernel_rfl)
set_option maxRecDepth 100000 in
theorem lifted (os : Os) (started : os.Started) (H : Type) (enc : TypeId × Value → H) :
    ReturnsInHanded {} Tryd.checked os 3 .any (fun w args => (Rows.codecFormsSpec.pre enc Tryd.prog Tryd.f3 [] false w args ∧ laidMetH Tryd.prog Rows.codecFormsRow.laid w) ∧ sizedMet enc Tryd.prog Tryd.f3 (OpenSpec.ofChange Rows.codecFormsSpec) false w args)
      (Rows.codecFormsSpec.post enc Tryd.prog Tryd.f3 false true false false) := by
  refine returnsInHanded_of_change_and (C := Tryd.checked) (X := fun w _ => laidMetH Tryd.prog Rows.codecFormsRow.laid w) (fun _ _ _ hh h => h.of_heap hh) Fr.own started (by kernel_rfl) Tryd.func3
    (ChangeSpec.witness_shaped (enc := enc) (C := Tryd.checked) (os := os) (X := fun w _ => laidMetH Tryd.prog Rows.codecFormsRow.laid w) false (World.doorLaid Tryd.prog 400 os) #[.slice none 0 0, .slice none 0 0] 8 rfl (World.shaped_of_RefB (by kernel_rfl) (by kernel_rfl)) (by kernel_rfl) (by kernel_rfl) (by kernel_rfl) (door_met os _)) ?_
  intro W base args ds gs before hval0 hW _ _ hL _
  have hval : ∀ (j : Nat) t v, Tryd.f3.params[j]? = some t → args[j]? = some v → Value.okWide Tryd.prog W .any base t v := hval0
  have hW' := hW
  obtain ⟨p, q, hA0, hV, rfl, hfz, hnd⟩ := hW
  have hA : DataW.TrodAll enc Tryd.prog W 0 (fun _ => true) true Tryd.f3.params.toList args.toList ds p := hA0
  obtain ⟨rfl, rfl⟩ := trodVars_none hV
  rw [Tryd.params3] at hA hval
  obtain ⟨v0, vs0, d0, ds0, p0, q0, hargs, rfl, rfl, h0, r0⟩ := trodAll_cons hA
  obtain ⟨v1, vs1, d1, ds1, p1, q1, rfl, rfl, rfl, h1, r1⟩ := trodAll_cons r0
  obtain ⟨rfl, rfl, rfl⟩ := trodAll_nil r1
  obtain rfl : args = #[v0, v1] := by cases args; simp_all
  obtain ⟨A0, n0, c0, rfl⟩ := okWide_slice Tryd.underlying22 (hval 0 22 v0 rfl rfl)
  obtain ⟨fuel0, hf0⟩ := h0
  obtain ⟨xs0, rfl, lc0, lm0, R0⟩ := Ww.open_words hf0
  obtain ⟨A1, n1, c1, rfl⟩ := okWide_slice Tryd.underlying23 (hval 1 23 v1 rfl rfl)
  obtain ⟨fuel1, hf1⟩ := h1
  obtain ⟨xs1, rfl, lc1, lm1, R1⟩ := Ww.open_bytes hf1
  simp only [List.append_nil] at hW' hA0
  refine (walk A0 c0 xs0 A1 c1 xs1 lc1 W R0 R1 (of_laid hL)).mono fun e W' ⟨he, hb⟩ => ?_
  subst he
  exact ⟨_, rfl, Fr.law_post (tb := 4) hW' hA0 rfl rfl rfl Tryd.underlying4 (by rw [Tryd.params3]; intro t ht; simp at ht; rcases ht with rfl | rfl; all_goals exact ⟨by kernel_rfl, of_decide_eq_true (by kernel_rfl)⟩) hb⟩

theorem row_holds : Rows.CodecFormsSaid :=
  OpenClaim.holds_of_wide 3 Tryd.f3 rfl rfl rfl rfl rfl rfl rfl ⟨rfl, rfl, rfl, rfl, rfl⟩ rfl rfl rfl rfl rfl (by kernel_rfl) Tryd.func3 (by kernel_rfl)
    (of_decide_eq_true (by kernel_rfl)) (by unfold Func.isWrapper; first | (rw [if_pos (by decide +kernel)]; kernel_rfl) | (rw [if_neg (by decide +kernel)]; exact ⟨rfl, rfl⟩))
    (fun os started H enc _ => lifted os started H enc)

theorem proved : Rows.CodecFormsCardSaid :=
  Claim7.holds_tied_plain_at .later [] [.data, .data, .data] true Rows.codecFormsCard.stood.harness false
    row_holds (fun _ h => by cases h) (by kernel_rfl) (fun _ h => by cases h) codecForms_row_tie rfl ⟨rfl, rfl⟩ (by kernel_rfl) rfl
    (fun f fn hf hfn => by
      obtain rfl : f = 3 := Option.some.inj ((show Tryd.prog.funcNamed "abacist/abacistlaw04.CodecForms" = some 3 by kernel_rfl).symm.trans hf) |>.symm
      obtain rfl : fn = Tryd.f3 := (Option.some.inj (Tryd.func3.symm.trans hfn)).symm
      exact ⟨by kernel_rfl, fun j t ht => by
        rw [Tryd.params3] at ht
        have hm : t ∈ [22, 23] := by simpa using Array.mem_of_getElem? ht
        have hall : ([22, 23].all fun u => !Tryd.prog.wantsStandIn u) = true := by kernel_rfl
        exact (show Tryd.prog.wantsStandIn t = false by simpa using List.all_eq_true.1 hall t hm)⟩)
    (by kernel_rfl)
end Go.Proofs.YtggocbblpgaaoaaDoor.codecForms
