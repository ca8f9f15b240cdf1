/- CodecTexts: of every row of words and every text the law of texts answers true, and changes nothing, where the library's tables are as their initialisers lay them (the card ties them to the program's text). -/
import Derived.Test.YtggocbblpgaaoaaDoorFrame
import Derived.Test.YtggocbblpgaaoaaDoorCodS
import Derived.Test.YtggocbblpgaaoaaDoorTie
import Derived.Test.YtggocbblpgaaoaaDoorCards
import Derived.Lib.LaidTab
import Derived.LaidMore
import Derived.Stop.Joined
import Derived.SevenTiedAt
set_option linter.unusedVariables false
namespace Go.Proofs.YtggocbblpgaaoaaDoor.codecTexts
open Go.ChangeShapes Go.WideShapes Go.ChangeAt Go.RowKit
open Ww Cd Cc Cr Cw

set_option maxHeartbeats 400000 in
theorem walk_long (A : Option Addr) (n ca : Nat) (s : ByteArray) (h : 40 < n ∨ 300 < s.size) (w : World) (T : Tab w) :
    Calls Tryd.prog 5 #[.slice A n ca, .string s] w fun e w' => e = .returned (.bool true) ∧ Below w.heap.size w w' := by
  by_cases h1 : 40 < n
  · have g1 : (40 : Int) < n := by omega
    clear h
    go_enter Tryd.func5, Tryd.ntmps5
    go_wp2_with fail
    refine (awake _ T).mono ?_
    rintro e w1 ⟨rfl, hb⟩
    go_wp2
    go_ret
    exact ⟨rfl, hb⟩
  · have g1 : decide ((40 : Int) < n) = false := decide_eq_false (by omega)
    have g2 : (300 : Int) < s.size := by omega
    clear h h1
    go_enter Tryd.func5, Tryd.ntmps5
    go_wp2_with fail
    refine (awake _ T).mono ?_
    rintro e w1 ⟨rfl, hb⟩
    go_wp2
    go_ret
    exact ⟨rfl, hb⟩
set_option maxHeartbeats 2000000 in
set_option maxRecDepth 100000 in
theorem walk_ok (A : Option Addr) (ca : Nat) (xs : List Nat) (s : ByteArray) (hx : xs.length ≤ 40) (hs : s.size ≤ 300) (hg : ∀ i, i < xs.length → xs.getD i 0 < 18446744069414584321) (w : World) (R : Ws w w.heap.size A xs) (T : Tab w) :
    Calls Tryd.prog 5 #[.slice A xs.length ca, .string s] w fun e w' => e = .returned (.bool true) ∧ Below w.heap.size w w' := by
  have g1 : decide ((40 : Int) < xs.length) = false := decide_eq_false (by omega)
  have g2 : decide ((300 : Int) < s.size) = false := decide_eq_false (by omega)
  have HG := Lib.hid hg
  have HW := Lib.hid R.all
  have HR := Lib.hid R
  have HT := Lib.hid T
  have AW := Lib.hid (awake w T)
  have hsl := Lib.hid (str_len s)
  obtain ⟨tt, htt⟩ : ∃ tt, tt = sb (txt xs) := ⟨_, rfl⟩
  have HTT := Lib.hid htt
  have hts : tt.size ≤ 840 := by
    rw [htt, sb_size]
    have := txt_len xs R.all
    omega
  clear hg R T htt
  go_enter Tryd.func5, Tryd.ntmps5
  go_wp2_with fail
  refine AW.out.mono ?_
  rintro e w1 ⟨rfl, b1⟩
  have R1 := HR.out.below b1
  have C1 := Lib.hid (Cc.text A ca xs (by omega) w1 (R1.more b1.size) (HT.out.below b1))
  rw [← HTT.out] at C1
  clear AW
  go_wp2_with fail
  refine C1.out.mono ?_
  rintro e w2 ⟨rfl, c2⟩
  have b2 := b1.trans (c2.mono b1.size)
  clear c2 C1 b1 R1
  have C2 := Lib.hid (Cw.read s (by omega) w2)
  go_wp2_with fail
  refine C2.out.mono ?_
  rintro e w3 ⟨A3, c3, l, a, m, rfl, S3, R3, d3⟩
  have b3 := b2.trans (d3.mono b2.size)
  clear d3 C2 b2
  have C3 := Lib.hid (Cw.read_ref s (by omega) w3)
  have HS3 := Lib.hid S3
  have hml := S3.count
  have hmp := S3.place
  rw [hsl.out] at hml hmp
  clear S3
  go_wp2_with fail
  refine C3.out.mono ?_
  rintro e w4 ⟨A4, c4, l4, a4, m4, rfl, S4, R4, d4⟩
  obtain ⟨rfl, rfl, rfl⟩ := HS3.out.det S4
  have b4 := b3.trans (d4.mono b3.size)
  have R3' := R3.step d4
  clear d4 C3 b3 S4 R3
  have C4 := Lib.hid (Cr.text A ca xs (by omega) w4 ((HR.out.below b4).more b4.size))
  rw [← HTT.out] at C4
  go_wp2_with fail
  refine C4.out.mono ?_
  rintro e w5 ⟨rfl, d5⟩
  have b5 := b4.trans (d5.mono b4.size)
  have R3 := R3'.step d5
  have R4 := R4.step d5
  clear d5 C4 b4 R3'
  have C5 := Lib.hid (Cr.same_yes A3 A4 c3 c4 w5.heap.size l (by omega) w5 R3 R4)
  go_wp2_with fail
  refine C5.out.mono ?_
  rintro e w6 ⟨rfl, n6, h6⟩
  have b6 : Below w.heap.size w w6 := by rw [h6]; exact below_drewN b5 n6
  have R6 : Ws w6 w6.heap.size A3 l := by rw [h6]; exact R3.drewN n6
  clear h6 C5 b5 R3 R4
  by_cases hm : m = 0
  · have t1 : ((m : Int) == 0) = true := by simp; omega
    have C6 := Lib.hid (Cc.text A3 c3 l (by omega) w6 R6 (HT.out.below b6))
    rw [HS3.out.text hm, sb_of] at C6
    clear hm
    go_wp2_with fail
    refine C6.out.mono ?_
    rintro e w7 ⟨rfl, d7⟩
    have b7 := b6.trans (d7.mono b6.size)
    clear d7 C6 b6 R6
    have C7 := Lib.hid (Cw.read tt (by omega) w7)
    go_wp2_with fail
    refine C7.out.mono ?_
    rintro e w8 ⟨A8, c8, l8, a8, m8, rfl, S8, R8, d8⟩
    have b8 := b7.trans (d8.mono b7.size)
    rw [HTT.out, sb_list] at S8
    obtain ⟨e1, e2⟩ := (S8.of_txt HW.out).1 (fun y hy => by
      obtain ⟨i, hi, rfl⟩ := List.getElem_of_mem hy
      have := HG.out i hi
      simpa only [List.getD, List.getElem?_eq_getElem hi, Option.getD_some] using this)
    have e1' := e1.symm
    have e2' := e2.symm
    subst e1' e2'
    have R9 := (HR.out.below b8).more b8.size
    have C9 := Lib.hid (check_ok A w8.heap.size ca xs (by omega) HG.out w8 R9)
    have C10 := Lib.hid (Cr.same_yes A8 A c8 ca w8.heap.size xs (by omega) w8 R8 R9)
    clear e1 e2 S8 d8 C7 b7
    go_wp2_with fail
    refine C9.out.mono ?_
    rintro e w9 ⟨rfl, rfl⟩
    go_wp2_with fail
    refine C10.out.mono ?_
    rintro e w10 ⟨rfl, n10, h10⟩
    have b10 : Below w.heap.size w w10 := by rw [h10]; exact below_drewN b8 n10
    clear h10
    go_wp2
    go_ret
    exact ⟨rfl, b10⟩
  · have t1 : ((m : Int) == 0) = false := by simp; omega
    have w7e := Lib.hid (rfl : w6 = w6)
    clear hm R6
    have C7 := Lib.hid (Cw.read tt (by omega) w6)
    go_wp2_with fail
    refine C7.out.mono ?_
    rintro e w8 ⟨A8, c8, l8, a8, m8, rfl, S8, R8, d8⟩
    have b8 := b6.trans (d8.mono b6.size)
    rw [HTT.out, sb_list] at S8
    obtain ⟨e1, e2⟩ := (S8.of_txt HW.out).1 (fun y hy => by
      obtain ⟨i, hi, rfl⟩ := List.getElem_of_mem hy
      have := HG.out i hi
      simpa only [List.getD, List.getElem?_eq_getElem hi, Option.getD_some] using this)
    have e1' := e1.symm
    have e2' := e2.symm
    subst e1' e2'
    have R9 := (HR.out.below b8).more b8.size
    have C9 := Lib.hid (check_ok A w8.heap.size ca xs (by omega) HG.out w8 R9)
    have C10 := Lib.hid (Cr.same_yes A8 A c8 ca w8.heap.size xs (by omega) w8 R8 R9)
    clear e1 e2 S8 d8 C7 b6
    go_wp2_with fail
    refine C9.out.mono ?_
    rintro e w9 ⟨rfl, rfl⟩
    go_wp2_with fail
    refine C10.out.mono ?_
    rintro e w10 ⟨rfl, n10, h10⟩
    have b10 : Below w.heap.size w w10 := by rw [h10]; exact below_drewN b8 n10
    clear h10
    go_wp2
    go_ret
    exact ⟨rfl, b10⟩
set_option maxHeartbeats 2000000 in
set_option maxRecDepth 100000 in
theorem walk_bad (A : Option Addr) (ca : Nat) (xs : List Nat) (s : ByteArray) (hx : xs.length ≤ 40) (hs : s.size ≤ 300) (k : Nat) (hk : k < xs.length) (hk2 : 18446744069414584321 ≤ xs.getD k 0) (hg : ∀ i, i < k → xs.getD i 0 < 18446744069414584321) (w : World) (R : Ws w w.heap.size A xs) (T : Tab w) :
    Calls Tryd.prog 5 #[.slice A xs.length ca, .string s] w fun e w' => e = .returned (.bool true) ∧ Below w.heap.size w w' := by
  have g1 : decide ((40 : Int) < xs.length) = false := decide_eq_false (by omega)
  have g2 : decide ((300 : Int) < s.size) = false := decide_eq_false (by omega)
  have HG := Lib.hid hg
  have HW := Lib.hid R.all
  have HR := Lib.hid R
  have HT := Lib.hid T
  have AW := Lib.hid (awake w T)
  have hsl := Lib.hid (str_len s)
  obtain ⟨tt, htt⟩ : ∃ tt, tt = sb (txt xs) := ⟨_, rfl⟩
  have HTT := Lib.hid htt
  have hts : tt.size ≤ 840 := by
    rw [htt, sb_size]
    have := txt_len xs R.all
    omega
  have HK2 := Lib.hid hk2
  clear hg R T htt hk2
  go_enter Tryd.func5, Tryd.ntmps5
  go_wp2_with fail
  refine AW.out.mono ?_
  rintro e w1 ⟨rfl, b1⟩
  have R1 := HR.out.below b1
  have C1 := Lib.hid (Cc.text A ca xs (by omega) w1 (R1.more b1.size) (HT.out.below b1))
  rw [← HTT.out] at C1
  clear AW
  go_wp2_with fail
  refine C1.out.mono ?_
  rintro e w2 ⟨rfl, c2⟩
  have b2 := b1.trans (c2.mono b1.size)
  clear c2 C1 b1 R1
  have C2 := Lib.hid (Cw.read s (by omega) w2)
  go_wp2_with fail
  refine C2.out.mono ?_
  rintro e w3 ⟨A3, c3, l, a, m, rfl, S3, R3, d3⟩
  have b3 := b2.trans (d3.mono b2.size)
  clear d3 C2 b2
  have C3 := Lib.hid (Cw.read_ref s (by omega) w3)
  have HS3 := Lib.hid S3
  have hml := S3.count
  have hmp := S3.place
  rw [hsl.out] at hml hmp
  clear S3
  go_wp2_with fail
  refine C3.out.mono ?_
  rintro e w4 ⟨A4, c4, l4, a4, m4, rfl, S4, R4, d4⟩
  obtain ⟨rfl, rfl, rfl⟩ := HS3.out.det S4
  have b4 := b3.trans (d4.mono b3.size)
  have R3' := R3.step d4
  clear d4 C3 b3 S4 R3
  have C4 := Lib.hid (Cr.text A ca xs (by omega) w4 ((HR.out.below b4).more b4.size))
  rw [← HTT.out] at C4
  go_wp2_with fail
  refine C4.out.mono ?_
  rintro e w5 ⟨rfl, d5⟩
  have b5 := b4.trans (d5.mono b4.size)
  have R3 := R3'.step d5
  have R4 := R4.step d5
  clear d5 C4 b4 R3'
  have C5 := Lib.hid (Cr.same_yes A3 A4 c3 c4 w5.heap.size l (by omega) w5 R3 R4)
  go_wp2_with fail
  refine C5.out.mono ?_
  rintro e w6 ⟨rfl, n6, h6⟩
  have b6 : Below w.heap.size w w6 := by rw [h6]; exact below_drewN b5 n6
  have R6 : Ws w6 w6.heap.size A3 l := by rw [h6]; exact R3.drewN n6
  clear h6 C5 b5 R3 R4
  by_cases hm : m = 0
  · have t1 : ((m : Int) == 0) = true := by simp; omega
    have C6 := Lib.hid (Cc.text A3 c3 l (by omega) w6 R6 (HT.out.below b6))
    rw [HS3.out.text hm, sb_of] at C6
    clear hm
    go_wp2_with fail
    refine C6.out.mono ?_
    rintro e w7 ⟨rfl, d7⟩
    have b7 := b6.trans (d7.mono b6.size)
    clear d7 C6 b6 R6
    have C7 := Lib.hid (Cw.read tt (by omega) w7)
    go_wp2_with fail
    refine C7.out.mono ?_
    rintro e w8 ⟨A8, c8, l8, a8, m8, rfl, S8, R8, d8⟩
    have b8 := b7.trans (d8.mono b7.size)
    rw [HTT.out, sb_list] at S8
    have e2 := (S8.of_txt HW.out).2 ⟨xs.getD k 0, by
      simp only [List.getD, List.getElem?_eq_getElem hk, Option.getD_some]
      exact List.getElem_mem _, HK2.out⟩
    have e2' := e2.symm
    subst e2'
    have R9 := (HR.out.below b8).more b8.size
    have C9 := Lib.hid (check_bad A w8.heap.size ca k xs (by omega) hk HK2.out HG.out w8 R9)
    clear e2 S8 d8 C7 b7
    go_wp2_with fail
    refine C9.out.mono ?_
    rintro e w9 ⟨rfl, rfl⟩
    go_wp2
    go_ret
    exact ⟨rfl, b8⟩
  · have t1 : ((m : Int) == 0) = false := by simp; omega
    have w7e := Lib.hid (rfl : w6 = w6)
    clear hm R6
    have C7 := Lib.hid (Cw.read tt (by omega) w6)
    go_wp2_with fail
    refine C7.out.mono ?_
    rintro e w8 ⟨A8, c8, l8, a8, m8, rfl, S8, R8, d8⟩
    have b8 := b6.trans (d8.mono b6.size)
    rw [HTT.out, sb_list] at S8
    have e2 := (S8.of_txt HW.out).2 ⟨xs.getD k 0, by
      simp only [List.getD, List.getElem?_eq_getElem hk, Option.getD_some]
      exact List.getElem_mem _, HK2.out⟩
    have e2' := e2.symm
    subst e2'
    have R9 := (HR.out.below b8).more b8.size
    have C9 := Lib.hid (check_bad A w8.heap.size ca k xs (by omega) hk HK2.out HG.out w8 R9)
    clear e2 S8 d8 C7 b6
    go_wp2_with fail
    refine C9.out.mono ?_
    rintro e w9 ⟨rfl, rfl⟩
    go_wp2
    go_ret
    exact ⟨rfl, b8⟩
theorem walk (A : Option Addr) (ca : Nat) (xs : List Nat) (s : ByteArray) (w : World) (R : Ws w w.heap.size A xs) (T : Tab w) :
    Calls Tryd.prog 5 #[.slice A xs.length ca, .string s] w fun e w' => e = .returned (.bool true) ∧ Below w.heap.size w w' := by
  by_cases h : 40 < xs.length ∨ 300 < s.size
  · exact walk_long A xs.length ca s h w T
  · rcases first_bad xs with hg | ⟨k, hk, hk2, hg⟩
    · exact walk_ok A ca xs s (by omega) (by omega) hg w R T
    · exact walk_bad A ca xs s (by omega) (by omega) k hk hk2 hg w R T

theorem gp : Tryd.prog.globalNamed "internal/strconv.uint64pow10" = some 0 := by kernel_rfl
theorem tp : (Tryd.prog.globals[0]?).map (·.type) = some 68 := by kernel_rfl
/-- What the row's condition gives the walk: the table's cells. -/
theorem of_laid {W : World} (h : laidMetH Tryd.prog Rows.codecTextsRow.laid W) : Tab W := by
  rw [MakeChecks.laidMetH_plain _ _ _ (by kernel_rfl)] at h
  obtain ⟨ps, ⟨g0, t0, cs0, f0, p0, q0, hg0, ht0, hv0, hd0, ⟨g1, t1, cs1, f1, p1, q1, hg1, ht1, hv1, hd1, ⟨g2, t2, cs2, f2, p2, q2, hg2, ht2, hv2, hd2, _, _⟩, _⟩, _⟩, _, _⟩ := h
  obtain rfl := Option.some.inj (gp.symm.trans hg2)
  obtain rfl := Option.some.inj (tp.symm.trans ht2)
  have hd3 : DataW.trod _ Tryd.prog W 0 _ false f2 68 cs2.toList = some (Lib.tabData .u64 Lib.pow10Tab, p2) := hd2
  have hc := Lib.cells_of_tab Tryd.underlying68 Tryd.underlying35 (by kernel_rfl) (by kernel_rfl) hd3
  show W.var? _ _ = _
  rw [hv2]
  congr 1
  apply Array.ext'
  rw [hc]

/-- The door's own heap meets the condition. -/
theorem door_met (os : Os) (args : Array Value) : laidMetH Tryd.prog Rows.codecTextsRow.laid ((World.doorLaid Tryd.prog 400 os).forCall (fun _ _ => 0) ⟨#[], args, []⟩).memory :=
  laidMetH_of_parts3 (fuel := 8) (laidMet_of_run' 8 (by kernel_rfl) (by kernel_rfl)) (by kernel_rfl) (by kernel_rfl)
set_option maxRecDepth 100000 in
theorem lifted (os : Os) (started : os.Started) (H : Type) (enc : TypeId × Value → H) :
    ReturnsInHanded {} Tryd.checked os 5 .any (fun w args => (Rows.codecTextsSpec.pre enc Tryd.prog Tryd.f5 [] false w args ∧ laidMetH Tryd.prog Rows.codecTextsRow.laid w) ∧ sizedMet enc Tryd.prog Tryd.f5 (OpenSpec.ofChange Rows.codecTextsSpec) false w args)
      (Rows.codecTextsSpec.post enc Tryd.prog Tryd.f5 false true false false) := by
  refine returnsInHanded_of_change_and (C := Tryd.checked) (X := fun w _ => laidMetH Tryd.prog Rows.codecTextsRow.laid w) (fun _ _ _ hh h => h.of_heap hh) Fr.own started (by kernel_rfl) Tryd.func5
    (ChangeSpec.witness_shaped (enc := enc) (C := Tryd.checked) (os := os) (X := fun w _ => laidMetH Tryd.prog Rows.codecTextsRow.laid w) false (World.doorLaid Tryd.prog 400 os) #[.slice none 0 0, .string ⟨#[]⟩] 8 rfl (World.shaped_of_RefB (by kernel_rfl) (by kernel_rfl)) (by kernel_rfl) (by kernel_rfl) (by kernel_rfl) (door_met os _)) ?_
  intro W base args ds gs before hval0 hW _ _ hL _
  have hval : ∀ (j : Nat) t v, Tryd.f5.params[j]? = some t → args[j]? = some v → Value.okWide Tryd.prog W .any base t v := hval0
  have hW' := hW
  obtain ⟨p, q, hA0, hV, rfl, hfz, hnd⟩ := hW
  have hA : DataW.TrodAll enc Tryd.prog W 0 (fun _ => true) true Tryd.f5.params.toList args.toList ds p := hA0
  obtain ⟨rfl, rfl⟩ := trodVars_none hV
  rw [Tryd.params5] at hA hval
  obtain ⟨v0, vs0, d0, ds0, p0, q0, hargs, rfl, rfl, h0, r0⟩ := trodAll_cons hA
  obtain ⟨v1, vs1, d1, ds1, p1, q1, rfl, rfl, rfl, h1, r1⟩ := trodAll_cons r0
  obtain ⟨rfl, rfl, rfl⟩ := trodAll_nil r1
  obtain rfl : args = #[v0, v1] := by cases args; simp_all
  obtain ⟨A0, n0, c0, rfl⟩ := okWide_slice Tryd.underlying22 (hval 0 22 v0 rfl rfl)
  obtain ⟨fuel0, hf0⟩ := h0
  obtain ⟨xs0, rfl, lc0, lm0, R0⟩ := Ww.open_words hf0
  obtain ⟨s1, rfl, rfl, rfl, w1⟩ := Go.ChangeMaps.open_string Tryd.underlying9 (hval 1 9 v1 rfl rfl) h1
  simp only [List.append_nil] at hW' hA0
  refine (walk A0 c0 xs0 s1 W R0 (of_laid hL)).mono fun e W' ⟨he, hb⟩ => ?_
  subst he
  exact ⟨_, rfl, Fr.law_post (tb := 4) hW' hA0 rfl rfl rfl Tryd.underlying4 (by rw [Tryd.params5]; intro t ht; simp at ht; rcases ht with rfl | rfl; all_goals exact ⟨by kernel_rfl, of_decide_eq_true (by kernel_rfl)⟩) hb⟩

theorem row_holds : Rows.CodecTextsSaid :=
  OpenClaim.holds_of_wide 5 Tryd.f5 rfl rfl rfl rfl rfl rfl rfl ⟨rfl, rfl, rfl, rfl, rfl⟩ rfl rfl rfl rfl rfl (by kernel_rfl) Tryd.func5 (by kernel_rfl)
    (of_decide_eq_true (by kernel_rfl)) (by unfold Func.isWrapper; first | (rw [if_pos (by decide +kernel)]; kernel_rfl) | (rw [if_neg (by decide +kernel)]; exact ⟨rfl, rfl⟩))
    (fun os started H enc _ => lifted os started H enc)

theorem proved : Rows.CodecTextsCardSaid :=
  Claim7.holds_tied_plain_at .later [] [.data, .data, .data] true Rows.codecTextsCard.stood.harness false
    row_holds (fun _ h => by cases h) (by kernel_rfl) (fun _ h => by cases h) codecTexts_row_tie rfl ⟨rfl, rfl⟩ (by kernel_rfl) rfl
    (fun f fn hf hfn => by
      obtain rfl : f = 5 := Option.some.inj ((show Tryd.prog.funcNamed "abacist/abacistlaw04.CodecTexts" = some 5 by kernel_rfl).symm.trans hf) |>.symm
      obtain rfl : fn = Tryd.f5 := (Option.some.inj (Tryd.func5.symm.trans hfn)).symm
      exact ⟨by kernel_rfl, fun j t ht => by
        rw [Tryd.params5] at ht
        have hm : t ∈ [22, 9] := by simpa using Array.mem_of_getElem? ht
        have hall : ([22, 9].all fun u => !Tryd.prog.wantsStandIn u) = true := by kernel_rfl
        exact (show Tryd.prog.wantsStandIn t = false by simpa using List.all_eq_true.1 hall t hm)⟩)
    (by kernel_rfl)
end Go.Proofs.YtggocbblpgaaoaaDoor.codecTexts
