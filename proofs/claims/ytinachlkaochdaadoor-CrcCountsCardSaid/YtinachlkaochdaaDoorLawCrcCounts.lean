/- CrcCounts: of any parts and any rows of words the law of counters answers true, and changes nothing, where the table of half bytes' sums is as its initialiser lays it (the card ties it to the program's text). -/
import Derived.Test.YtinachlkaochdaaDoorFrame
import Derived.Test.YtinachlkaochdaaDoorCrcS
import Derived.Test.YtinachlkaochdaaDoorCrcR
import Derived.Test.YtinachlkaochdaaDoorTie
import Derived.Test.YtinachlkaochdaaDoorCards
import Derived.Lib.LaidTab
import Derived.LaidMore
import Derived.Stop.Joined
import Derived.SevenTiedAt
set_option linter.unusedVariables false
namespace Go.Proofs.YtinachlkaochdaaDoor.crcCounts
open Go.ChangeShapes Go.WideShapes Go.ChangeAt Go.RowKit
open Ww Cd Cr Cx
theorem Rw.more {w : World} {B B' n : Nat} {A : Option Addr} {xs : Nat → List Nat} (h : Rw w B A n xs) (d : B ≤ B') : Rw w B' A n xs := fun i hi => by
  obtain ⟨b, off, Ai, ci, e, hb, c, R⟩ := h i hi
  exact ⟨b, off, Ai, ci, e, Nat.lt_of_lt_of_le hb d, c, R.more d⟩
set_option maxHeartbeats 1000000 in
set_option maxRecDepth 100000 in
theorem walk_long (A B : Option Addr) (n m ca cb : Nat) (h : 12 < n ∨ 12 < m) (w : World) (hT : Tab w) :
    Calls Tryd.prog 5 #[.slice A n ca, .slice B m cb] w fun e w' => e = .returned (.bool true) ∧ Below w.heap.size w w' := by
  have AW := Lib.hid (awake w hT)
  clear hT
  by_cases h1 : 12 < n
  · have g1 : (12 : Int) < n := by omega
    clear h
    go_enter Tryd.func5, Tryd.ntmps5
    go_wp2_with fail
    refine AW.out.mono ?_
    rintro e w1 ⟨rfl, hb⟩
    go_wp2
    go_ret
    exact ⟨rfl, hb⟩
  · have g1 : decide ((12 : Int) < n) = false := decide_eq_false (by omega)
    have g2 : (12 : Int) < m := by omega
    clear h h1
    go_enter Tryd.func5, Tryd.ntmps5
    go_wp2_with fail
    refine AW.out.mono ?_
    rintro e w1 ⟨rfl, hb⟩
    go_wp2
    go_ret
    exact ⟨rfl, hb⟩
set_option maxHeartbeats 8000000 in
set_option maxRecDepth 100000 in
theorem walk_short (A B : Option Addr) (n m ca cb : Nat) (bs : Nat → List UInt8) (xs : Nat → List Nat) (hn : n ≤ 12) (hm : m ≤ 12) (w : World) (hT : Tab w) (RP : Rb w w.heap.size A n bs) (RQ : Rw w w.heap.size B m xs) :
    Calls Tryd.prog 5 #[.slice A n ca, .slice B m cb] w fun e w' => e = .returned (.bool true) ∧ Below w.heap.size w w' := by
  have g1 : decide ((12 : Int) < n) = false := decide_eq_false (by omega)
  have g2 : decide ((12 : Int) < m) = false := decide_eq_false (by omega)
  have AW := Lib.hid (awake w hT)
  have HT := Lib.hid hT
  have HP := Lib.hid RP
  have HQ := Lib.hid RQ
  have HN := Lib.hid hn
  have HM := Lib.hid hm
  clear hT RP RQ hn hm
  go_enter Tryd.func5, Tryd.ntmps5
  go_wp2_with fail
  refine AW.out.mono ?_
  rintro e w1 ⟨rfl, b1⟩
  have NC := new_ct w1
  have b2 := b1.alloc b1.size (.cells #[.int .u32 0, .int .i64 0] 39)
  obtain ⟨p, hp⟩ : ∃ p, p = w1.heap.size := ⟨_, rfl⟩
  have hp0 := Lib.hid (show w.heap.size ≤ p by rw [hp]; exact b1.size)
  rw [← hp] at NC
  replace NC := Lib.hid NC
  replace b2 := Lib.hid b2
  have HPE := Lib.hid hp
  clear AW b1 hp
  go_wp2_with fail
  go_loopw [6, 7] (fun v6 v7 wr => ∃ (i : Nat) (s : ByteArray) (zs : List UInt8), v7 = .int .i64 (i : Int) ∧ i ≤ 12 ∧ v6 = .string s ∧ s = sb zs ∧ zs.length ≤ 124 * i ∧ Ct wr p zs ∧ Below w.heap.size w wr) (fun _ v7 _ => 12 - (Lib.intOf v7).toNat)
  case atStart => exact ⟨0, ⟨#[]⟩, [], rfl, by omega, rfl, rfl, by simp, NC.out, b2.out⟩
  case round =>
    obtain ⟨i, s0, z0, rfl, hi, rfl, hs0, hz0, hC0, hb0⟩ := hrel
    rw [← HPE.out]
    replace hs0 := Lib.hid hs0
    have sz0 := Lib.hid (show s0.size = z0.length by rw [hs0.out, sb_size])
    replace hC0 := Lib.hid hC0
    replace hb0 := Lib.hid hb0
    have HI := Lib.hid hi
    by_cases hn : i < n
    · have hi2 : i < 12 := by have := HN.out; omega
      obtain ⟨Ab, Ao, Ai, ci, rfl, hAb, cA, RA⟩ := HP.out i hn
      have cA0 := (hb0.out.cell (p := ⟨Ab, Ao + i, none⟩) hAb).trans cA
      have i1 : (i : Int) < n := by omega
      by_cases hlA : 60 < (bs i).length
      · have l1 : (60 : Int) < (bs i).length := by omega
        go_wp2
        go_ret
        exact ⟨rfl, hb0.out⟩
      have l1 : ¬ (60 : Int) < (bs i).length := by omega
      have AD := Lib.hid (add hC0.out (HT.out.below hb0.out) Ai w.heap.size ci (bs i) (RA.below hb0.out) (by omega))
      go_wp2_with fail
      refine AD.out.mono ?_
      rintro e w1 ⟨rfl, hC1, FA⟩
      have hb1 := Lib.hid (hb0.out.trans (FA.below hp0.out hb0.out.size))
      have cA1 := (hb1.out.cell (p := ⟨Ab, Ao + i, none⟩) hAb).trans cA
      have cvA : (convert 22 9 (.slice Ai (bs i).length ci)).run Tryd.prog w1 = .ok (.string (sb (bs i))) w1 := conv_bytes (RA.below hb1.out) ci
      have zA : (sb (bs i)).size = (bs i).length := sb_size _
      have n1 : ¬ 9223372036854775807 < s0.size + (sb (bs i)).size := by rw [zA, sz0.out]; omega
      have n2 : s0.size + (sb (bs i)).size ≤ 9223372036854775807 := by omega
      have hz1 : (z0 ++ bs i).length ≤ 124 * i + 60 := by rw [List.length_append]; omega
      have hs1 := Lib.hid (show s0 ++ sb (bs i) = sb (z0 ++ bs i) by rw [hs0.out, sb_append])
      have sz1 := Lib.hid (show (s0 ++ sb (bs i)).size = (z0 ++ bs i).length by rw [hs1.out, sb_size])
      replace hC1 := Lib.hid hC1
      clear FA AD cA0 zA hC0
      generalize hzq : z0 ++ bs i = z1 at *
      clear hzq
      generalize sb (bs i) = tA at *
      go_upto_region 15 with fail
      clear cvA n1 n2 cA cA1 RA
      generalize s0 ++ tA = s1 at *
      by_cases hm : i < m
      · obtain ⟨Bb, Bo, Bi, di, rfl, hBb, cB, RB⟩ := HQ.out i hm
        have cB0 := (hb1.out.cell (p := ⟨Bb, Bo + i, none⟩) hBb).trans cB
        have j1 : (i : Int) < m := by omega
        by_cases hlB : 8 < (xs i).length
        · have l2 : (8 : Int) < (xs i).length := by omega
          go_wp2
          go_ret
          exact ⟨rfl, hb1.out⟩
        have l2 : ¬ (8 : Int) < (xs i).length := by omega
        have AD := Lib.hid (addWords hC1.out (HT.out.below hb1.out) Bi w.heap.size di (xs i) hb1.out.size (RB.below hb1.out) (by omega))
        go_wp2_with fail
        refine AD.out.mono ?_
        rintro e w2' ⟨rfl, hC2', FA⟩
        have hb2' := Lib.hid (hb1.out.trans (FA.below hp0.out hb1.out.size))
        have cB1 := (hb2'.out.cell (p := ⟨Bb, Bo + i, none⟩) hBb).trans cB
        have PU := Lib.hid (Cr.put Bi di (xs i) (by omega) w2' ((RB.below hb2'.out).more hb2'.out.size))
        replace hC2' := Lib.hid hC2'
        clear FA AD cB0
        go_wp2_with fail
        refine PU.out.mono ?_
        rintro e w2 ⟨rfl, dB⟩
        have hC2 := Lib.hid (hC2'.out.below dB)
        have hb2 := Lib.hid (hb2'.out.trans (dB.mono hb2'.out.size))
        have zA : (sb (form (xs i))).size = 8 * (xs i).length := by rw [sb_size, form_len]
        have n1 : ¬ 9223372036854775807 < s1.size + (sb (form (xs i))).size := by rw [zA, sz1.out]; omega
        have n2 : s1.size + (sb (form (xs i))).size ≤ 9223372036854775807 := by omega
        have hz2 : (z1 ++ form (xs i)).length ≤ 124 * i + 124 := by rw [List.length_append, form_len]; omega
        have hs2 := Lib.hid (show s1 ++ sb (form (xs i)) = sb (z1 ++ form (xs i)) by rw [hs1.out, sb_append])
        have sz2 := Lib.hid (show (s1 ++ sb (form (xs i))).size = (z1 ++ form (xs i)).length by rw [hs2.out, sb_size])
        clear PU dB zA hC1 hC2' hb2' cB1 RB
        generalize hzq : z1 ++ form (xs i) = z2 at *
        clear hzq
        generalize sb (form (xs i)) = tB at *
        go_upto_region 20 with fail
        clear n1 n2
        generalize s1 ++ tB = s2 at *
        have LC := Lib.hid (lenC hC2.out)
        have SC := Lib.hid (sumC hC2.out)
        have q1 := sz2.out
        have OC := Lib.hid (fun W => rof s2 (by rw [q1]; omega) W)
        have q2 : s2.data.toList = z2 := by rw [hs2.out, sb_list]
        rw [q2] at OC
        clear q2
        rw [← q1] at LC
        clear q1
        generalize sum z2 = sm at *
        go_wp2_with fail
        refine LC.out.mono ?_
        rintro e w9 ⟨rfl, rfl⟩
        go_wp2_with fail
        refine SC.out.mono ?_
        rintro e w9 ⟨rfl, rfl⟩
        go_wp2_with fail
        refine (OC.out _).mono ?_
        rintro e w9 ⟨rfl, rfl⟩
        clear LC SC OC
        go_wp2_with fail
        go_roundw
        case rel => exact ⟨i + 1, s2, z2, rfl, by omega, rfl, hs2.out, by omega, hC2.out, hb2.out⟩
        case measure => simp [Lib.intOf]; omega
      · have j1 : ¬ (i : Int) < m := by omega
        have LC := Lib.hid (lenC hC1.out)
        have SC := Lib.hid (sumC hC1.out)
        have q1 := sz1.out
        have OC := Lib.hid (fun W => rof s1 (by rw [q1]; omega) W)
        have q2 : s1.data.toList = z1 := by rw [hs1.out, sb_list]
        rw [q2] at OC
        clear q2
        rw [← q1] at LC
        clear q1
        generalize sum z1 = sm at *
        go_wp2_with fail
        refine LC.out.mono ?_
        rintro e w9 ⟨rfl, rfl⟩
        go_wp2_with fail
        refine SC.out.mono ?_
        rintro e w9 ⟨rfl, rfl⟩
        go_wp2_with fail
        refine (OC.out _).mono ?_
        rintro e w9 ⟨rfl, rfl⟩
        clear LC SC OC
        go_wp2_with fail
        go_roundw
        case rel => exact ⟨i + 1, s1, z1, rfl, by omega, rfl, hs1.out, by omega, hC1.out, hb1.out⟩
        case measure => simp [Lib.intOf]; omega
    · have i1 : ¬ (i : Int) < n := by omega
      by_cases hm : i < m
      · have hi2 : i < 12 := by have := HM.out; omega
        obtain ⟨Bb, Bo, Bi, di, rfl, hBb, cB, RB⟩ := HQ.out i hm
        have cB0 := (hb0.out.cell (p := ⟨Bb, Bo + i, none⟩) hBb).trans cB
        have j1 : (i : Int) < m := by omega
        by_cases hlB : 8 < (xs i).length
        · have l2 : (8 : Int) < (xs i).length := by omega
          go_wp2
          go_ret
          exact ⟨rfl, hb0.out⟩
        have l2 : ¬ (8 : Int) < (xs i).length := by omega
        have AD := Lib.hid (addWords hC0.out (HT.out.below hb0.out) Bi w.heap.size di (xs i) hb0.out.size (RB.below hb0.out) (by omega))
        go_wp2_with fail
        refine AD.out.mono ?_
        rintro e w2' ⟨rfl, hC2', FA⟩
        have hb2' := Lib.hid (hb0.out.trans (FA.below hp0.out hb0.out.size))
        have cB1 := (hb2'.out.cell (p := ⟨Bb, Bo + i, none⟩) hBb).trans cB
        have PU := Lib.hid (Cr.put Bi di (xs i) (by omega) w2' ((RB.below hb2'.out).more hb2'.out.size))
        replace hC2' := Lib.hid hC2'
        clear FA AD cB0
        go_wp2_with fail
        refine PU.out.mono ?_
        rintro e w2 ⟨rfl, dB⟩
        have hC2 := Lib.hid (hC2'.out.below dB)
        have hb2 := Lib.hid (hb2'.out.trans (dB.mono hb2'.out.size))
        have zA : (sb (form (xs i))).size = 8 * (xs i).length := by rw [sb_size, form_len]
        have n1 : ¬ 9223372036854775807 < s0.size + (sb (form (xs i))).size := by rw [zA, sz0.out]; omega
        have n2 : s0.size + (sb (form (xs i))).size ≤ 9223372036854775807 := by omega
        have hz2 : (z0 ++ form (xs i)).length ≤ 124 * i + 64 := by rw [List.length_append, form_len]; omega
        have hs2 := Lib.hid (show s0 ++ sb (form (xs i)) = sb (z0 ++ form (xs i)) by rw [hs0.out, sb_append])
        have sz2 := Lib.hid (show (s0 ++ sb (form (xs i))).size = (z0 ++ form (xs i)).length by rw [hs2.out, sb_size])
        clear PU dB zA hC0 hC2' hb2' cB1 RB
        generalize hzq : z0 ++ form (xs i) = z2 at *
        clear hzq
        generalize sb (form (xs i)) = tB at *
        go_upto_region 20 with fail
        clear n1 n2
        generalize s0 ++ tB = s2 at *
        have LC := Lib.hid (lenC hC2.out)
        have SC := Lib.hid (sumC hC2.out)
        have q1 := sz2.out
        have OC := Lib.hid (fun W => rof s2 (by rw [q1]; omega) W)
        have q2 : s2.data.toList = z2 := by rw [hs2.out, sb_list]
        rw [q2] at OC
        clear q2
        rw [← q1] at LC
        clear q1
        generalize sum z2 = sm at *
        go_wp2_with fail
        refine LC.out.mono ?_
        rintro e w9 ⟨rfl, rfl⟩
        go_wp2_with fail
        refine SC.out.mono ?_
        rintro e w9 ⟨rfl, rfl⟩
        go_wp2_with fail
        refine (OC.out _).mono ?_
        rintro e w9 ⟨rfl, rfl⟩
        clear LC SC OC
        go_wp2_with fail
        go_roundw
        case rel => exact ⟨i + 1, s2, z2, rfl, by omega, rfl, hs2.out, by omega, hC2.out, hb2.out⟩
        case measure => simp [Lib.intOf]; omega
      · have j1 : ¬ (i : Int) < m := by omega
        have LC := Lib.hid (lenC hC0.out)
        have q1 := sz0.out
        rw [← q1] at LC
        clear q1
        go_wp2_with fail
        refine LC.out.mono ?_
        rintro e w9 ⟨rfl, rfl⟩
        go_wp2
        go_ret
        exact ⟨rfl, hb0.out⟩
theorem walk (A : Option Addr) (ca n : Nat) (bs : Nat → List UInt8) (B : Option Addr) (cb m : Nat) (xs : Nat → List Nat) (w : World) (hT : Tab w) (RP : Rb w w.heap.size A n bs) (RQ : Rw w w.heap.size B m xs) :
    Calls Tryd.prog 5 #[.slice A n ca, .slice B m cb] w fun e w' => e = .returned (.bool true) ∧ Below w.heap.size w w' := by
  by_cases h : 12 < n ∨ 12 < m
  · exact walk_long A B n m ca cb h w hT
  · exact walk_short A B n m ca cb bs xs (by omega) (by omega) w hT RP RQ
def tabZ : List Nat := [0, 274646895, 549293790, 820201905, 1098587580, 1361435347, 1640403810, 1905808397, 2197175160, 2460548119, 2722870694, 2987750089, 3280807620, 3553878443, 3811616794, 4084100981]
theorem tabZ_at : ∀ i, i < 16 → tabZ[i]? = some (steps 4 i) := by decide +kernel
theorem gh : Tryd.prog.globalNamed "abacist/crc.halves" = some 0 := by kernel_rfl
theorem th : (Tryd.prog.globals[0]?).map (·.type) = some 57 := by kernel_rfl
/-- What the row's condition gives the walk: the table's cells. -/
theorem of_laid {W : World} (h : laidMetH Tryd.prog Rows.crcCountsRow.laid W) : Cx.Tab W := by
  rw [MakeChecks.laidMetH_plain _ _ _ (by kernel_rfl)] at h
  obtain ⟨ps, ⟨g1, t1, cs1, f1, p1, q1, hg1, ht1, hv1, hd1, _, _⟩, _, _⟩ := h
  obtain rfl := Option.some.inj (gh.symm.trans hg1)
  obtain rfl := Option.some.inj (th.symm.trans ht1)
  have hd2 : DataW.trod _ Tryd.prog W 0 _ false f1 57 cs1.toList = some (Lib.tabData .u32 (tabZ.map Int.ofNat), p1) := hd1
  have hc := Lib.cells_of_tab Tryd.underlying57 Tryd.underlying25 (by kernel_rfl) (by kernel_rfl) hd2
  intro i hi
  have c := World.var?_cell hg1 hv1 i
  rw [c, ← Array.getElem?_toList, hc]
  simp [tabZ_at i hi]

/-- The door's own heap meets the condition. -/
theorem door_met (os : Os) (args : Array Value) : laidMetH Tryd.prog Rows.crcCountsRow.laid ((World.doorLaid Tryd.prog 400 os).forCall (fun _ _ => 0) ⟨#[], args, []⟩).memory :=
  laidMetH_of_parts3 (fuel := 8) (laidMet_of_run' 8 (by kernel_rfl) (by kernel_rfl)) (by kernel_rfl) (by kernel_rfl)
set_option maxRecDepth 100000 in
theorem lifted (os : Os) (started : os.Started) (H : Type) (enc : TypeId × Value → H) :
    ReturnsInHanded {} Tryd.checked os 5 .any (fun w args => (Rows.crcCountsSpec.pre enc Tryd.prog Tryd.f5 [] false w args ∧ laidMetH Tryd.prog Rows.crcCountsRow.laid w) ∧ sizedMet enc Tryd.prog Tryd.f5 (OpenSpec.ofChange Rows.crcCountsSpec) false w args)
      (Rows.crcCountsSpec.post enc Tryd.prog Tryd.f5 false true false false) := by
  refine returnsInHanded_of_change_and (C := Tryd.checked) (X := fun w _ => laidMetH Tryd.prog Rows.crcCountsRow.laid w) (fun _ _ _ hh h => h.of_heap hh) Fr.own started (by kernel_rfl) Tryd.func5
    (ChangeSpec.witness_shaped (enc := enc) (C := Tryd.checked) (os := os) (X := fun w _ => laidMetH Tryd.prog Rows.crcCountsRow.laid w) false (World.doorLaid Tryd.prog 400 os) #[.slice none 0 0, .slice none 0 0] 8 rfl (World.shaped_of_RefB (by kernel_rfl) (by kernel_rfl)) (by kernel_rfl) (by kernel_rfl) (by kernel_rfl) (door_met os _)) ?_
  intro W base args ds gs before hval0 hW _ _ hL _
  have hval : ∀ (j : Nat) t v, Tryd.f5.params[j]? = some t → args[j]? = some v → Value.okWide Tryd.prog W .any base t v := hval0
  have hW' := hW
  obtain ⟨p, q, hA0, hV, rfl, hfz, hnd⟩ := hW
  have hA : DataW.TrodAll enc Tryd.prog W 0 (fun _ => true) true Tryd.f5.params.toList args.toList ds p := hA0
  obtain ⟨rfl, rfl⟩ := trodVars_none hV
  rw [Tryd.params5] at hA hval
  obtain ⟨v0, vs0, d0, ds0, p0, q0, hargs, rfl, rfl, h0, r0⟩ := trodAll_cons hA
  obtain ⟨v1, vs1, d1, ds1, p1, q1, rfl, rfl, rfl, h1, r1⟩ := trodAll_cons r0
  obtain ⟨rfl, rfl, rfl⟩ := trodAll_nil r1
  obtain rfl : args = #[v0, v1] := by cases args; simp_all
  obtain ⟨A0, n0, c0, rfl⟩ := okWide_slice Tryd.underlying35 (hval 0 35 v0 rfl rfl)
  obtain ⟨fuel0, hf0⟩ := h0
  obtain ⟨bs0, lm0, R0⟩ := Cx.open_parts hf0
  obtain ⟨A1, n1, c1, rfl⟩ := okWide_slice Tryd.underlying36 (hval 1 36 v1 rfl rfl)
  obtain ⟨fuel1, hf1⟩ := h1
  obtain ⟨xs1, lm1, R1⟩ := Cx.open_rows hf1
  simp only [List.append_nil] at hW' hA0
  refine (walk A0 c0 n0 bs0 A1 c1 n1 xs1 W (of_laid hL) R0 R1).mono fun e W' ⟨he, hb⟩ => ?_
  subst he
  exact ⟨_, rfl, Fr.law_post (tb := 4) hW' hA0 rfl rfl rfl Tryd.underlying4 (by rw [Tryd.params5]; intro t ht; simp at ht; rcases ht with rfl | rfl; all_goals exact ⟨by kernel_rfl, of_decide_eq_true (by kernel_rfl)⟩) hb⟩

theorem row_holds : Rows.CrcCountsSaid :=
  OpenClaim.holds_of_wide 5 Tryd.f5 rfl rfl rfl rfl rfl rfl rfl ⟨rfl, rfl, rfl, rfl, rfl⟩ rfl rfl rfl rfl rfl (by kernel_rfl) Tryd.func5 (by kernel_rfl)
    (of_decide_eq_true (by kernel_rfl)) (by unfold Func.isWrapper; first | (rw [if_pos (by decide +kernel)]; kernel_rfl) | (rw [if_neg (by decide +kernel)]; exact ⟨rfl, rfl⟩))
    (fun os started H enc _ => lifted os started H enc)

theorem proved : Rows.CrcCountsCardSaid :=
  Claim7.holds_tied_plain_at .later [] [.data] true Rows.crcCountsCard.stood.harness false
    row_holds (fun _ h => by cases h) (by kernel_rfl) (fun _ h => by cases h) crcCounts_row_tie rfl ⟨rfl, rfl⟩ (by kernel_rfl) rfl
    (fun f fn hf hfn => by
      obtain rfl : f = 5 := Option.some.inj ((show Tryd.prog.funcNamed "abacist/abacistlaw16.CrcCounts" = some 5 by kernel_rfl).symm.trans hf) |>.symm
      obtain rfl : fn = Tryd.f5 := (Option.some.inj (Tryd.func5.symm.trans hfn)).symm
      exact ⟨by kernel_rfl, fun j t ht => by
        rw [Tryd.params5] at ht
        have hm : t ∈ [35, 36] := by simpa using Array.mem_of_getElem? ht
        have hall : ([35, 36].all fun u => !Tryd.prog.wantsStandIn u) = true := by kernel_rfl
        exact (show Tryd.prog.wantsStandIn t = false by simpa using List.all_eq_true.1 hall t hm)⟩)
    (by kernel_rfl)
end Go.Proofs.YtinachlkaochdaaDoor.crcCounts
