/- CrcBursts: of any bytes, any place and any 32 bits the law of bursts answers true, and changes nothing, where the table of half bytes' sums is as its initialiser lays it (the card ties it to the program's text). -/
import Derived.Test.YtinachlkaochdaaDoorFrame
import Derived.Test.YtinachlkaochdaaDoorCrcT
import Derived.Test.YtinachlkaochdaaDoorTie
import Derived.Test.YtinachlkaochdaaDoorCards
import Derived.Lib.QuietBelow
import Derived.Lib.LaidTab
import Derived.LaidMore
import Derived.Stop.Joined
import Derived.SevenTiedAt
set_option linter.unusedVariables false
namespace Go.Proofs.YtinachlkaochdaaDoor.crcBursts
open Go.ChangeShapes Go.WideShapes Go.ChangeAt Go.RowKit
open Ww Cd Cr Cx
set_option maxHeartbeats 1000000 in
set_option maxRecDepth 100000 in
theorem walk_no (A : Option Addr) (n ca x y : Nat) (h : 200 < n ∨ y = 0) (w : World) (hT : Tab w) :
    Calls Tryd.prog 6 #[.slice A n ca, .int .u16 (x : Nat), .int .u32 (y : Nat)] w fun e w' => e = .returned (.bool true) ∧ Below w.heap.size w w' := by
  have AW := Lib.hid (awake w hT)
  clear hT
  by_cases h1 : 200 < n
  · have g1 : (200 : Int) < n := by omega
    clear h
    go_enter Tryd.func6, Tryd.ntmps6
    go_wp2_with fail
    refine AW.out.mono ?_
    rintro e w1 ⟨rfl, hb⟩
    go_wp2
    go_ret
    exact ⟨rfl, hb⟩
  · have g1 : decide ((200 : Int) < n) = false := decide_eq_false (by omega)
    obtain rfl : y = 0 := by omega
    clear h h1
    go_enter Tryd.func6, Tryd.ntmps6
    go_wp2_with fail
    refine AW.out.mono ?_
    rintro e w1 ⟨rfl, hb⟩
    go_wp2
    go_ret
    exact ⟨rfl, hb⟩
set_option maxHeartbeats 4000000 in
set_option maxRecDepth 100000 in
theorem walk_yes (A : Option Addr) (ca x y : Nat) (bs : List UInt8) (hl : bs.length ≤ 200) (hy : y ≠ 0) (hx : x ≤ 65535) (hy2 : y < 4294967296) (w : World) (hT : Tab w) (R : Bs w w.heap.size A bs) (hA : A = none → ca = 0) :
    Calls Tryd.prog 6 #[.slice A bs.length ca, .int .u16 (x : Nat), .int .u32 (y : Nat)] w fun e w' => e = .returned (.bool true) ∧ Below w.heap.size w w' := by
  have g1 : decide ((200 : Int) < bs.length) = false := decide_eq_false (by omega)
  have g2 : ((y : Int) == 0) = false := by rw [beq_eq_false_iff_ne]; omega
  have g3 : ¬ (y : Int) = 0 := by omega
  have AW := Lib.hid (awake w hT)
  have HL := Lib.hid hl
  have HT := Lib.hid hT
  have HR := Lib.hid R
  have HA := Lib.hid hA
  have a1 : (x : Int).tmod 2000 = ((x % 2000 : Nat) : Int) := rfl
  have a2 : (x : Int) % 2000 = ((x % 2000 : Nat) : Int) := by omega
  clear hT R hA hy hl
  obtain ⟨n, hn⟩ : ∃ n, n = bs.length := ⟨_, rfl⟩
  have HN := Lib.hid hn
  rw [← hn] at g1 ⊢
  clear hn
  go_enter Tryd.func6, Tryd.ntmps6
  go_wp2_with fail
  refine AW.out.mono ?_
  rintro e w1 ⟨rfl, b1⟩
  have E := Lib.hid (show (w1.alloc (.cells #[] 5)).ownsRow w1.heap.size 5 1 (.slice (some ⟨w1.heap.size, 0, none⟩) 0 0) 0 [] from World.ownsRow_made w1 #[] 0 (Nat.le_refl _) (by simp [maxLen]) (by simp))
  have HB := Lib.hid ((Below.refl w1.heap.size w1).alloc (Nat.le_refl _) (.cells #[] 5))
  have R1 := Lib.hid (HR.out.below (b1.alloc b1.size (.cells #[] 5)))
  clear AW
  go_upto_region 6 with (at_builtin; (refine append_bytes (w1.alloc (.cells #[] 5)) ?hgd (.tmp 20) (.tmp 21) ?ho w1.heap.size _ ?hs E.out _ A ca bs ?hx R1.out HA.out ?c1 ?c2 (fun v7 w2 O hg => ?_)); (case hgd => rfl); (case ho => rfl); (case hs => rfl); (case hx => rw [← HN.out]; rfl); (case c1 => have := HL.out; omega); (case c2 => simp); (obtain ⟨Av, cv, rfl, CW, d2⟩ := copied HB.out O hg); clear O hg)
  have b2 := b1.trans (d2.mono b1.size)
  have CW2 : Cw w2 w.heap.size Av bs := fun h0 => by
    obtain ⟨g, e, h1, h2, h3⟩ := CW h0
    exact ⟨g, e, Nat.le_trans b1.size h1, h2, h3⟩
  rw [← HN.out]
  clear CW E HB R1 d2 b1
  generalize hxa : x % 2000 = a at *
  have ha : a < 2000 := by omega
  clear hxa
  go_wp2_with fail
  go_loopw [8, 9] (fun v8 v9 wr => ∃ (k : Nat) (t : Bool) (cs : List UInt8), v9 = .int .i64 (k : Int) ∧ k ≤ 32 ∧ v8 = .bool t ∧ (t = true ↔ bk y k (8 * n - a) ≠ 0) ∧ cs.length = n ∧ Cw wr w.heap.size Av cs ∧ val cs = val bs ^^^ 2 ^ a * bk y k (8 * n - a) ∧ Below w.heap.size w wr) (fun _ v9 _ => 32 - (Lib.intOf v9).toNat)
  case atStart => exact ⟨0, false, bs, rfl, by omega, rfl, by rw [bk_zero]; simp, HN.out.symm, CW2, by rw [bk_zero, Nat.mul_zero, Nat.xor_zero], b2⟩
  case round =>
    obtain ⟨k, t, cs, rfl, hk, rfl, ht, hc, hw, hv, hb⟩ := hrel
    replace ht := Lib.hid ht
    by_cases hlt : k < 32
    · have i1 : (k : Int) < 32 := by omega
      have d1 : (y : Int) / 2 ^ k = ((y / 2 ^ k : Nat) : Int) := by rw [Int.natCast_ediv, Int.natCast_pow]; rfl
      have d2 : (((y / 2 ^ k : Nat) : Nat) : Int).tmod 2 = ((y / 2 ^ k % 2 : Nat) : Int) := rfl
      have d3 : ((a : Int) + (k : Int)) / 8 = (((a + k) / 8 : Nat) : Int) := by omega
      have d4 : ((a : Int) + (k : Int)) % 8 = (((a + k) % 8 : Nat) : Int) := by omega
      by_cases hm : y / 2 ^ k % 2 = 1
      · by_cases hp : (a + k) / 8 < n
        · have hkl : k < 8 * n - a := by omega
          have ht2 := Lib.hid (bk_pos y k (8 * n - a) hkl hm)
          have hv2 := Lib.hid (turn_more hv hkl hm (by omega))
          have o1 : ((y / 2 ^ k % 2 : Nat) : Int) = 1 := by omega
          have o2 : (((a + k) / 8 : Nat) : Int) < (n : Int) := by omega
          have o3 : ((0 : Nat) : Int) ≤ (((a + k) / 8 : Nat) : Int) := by omega
          obtain ⟨g, rfl, h1, h2, K⟩ := hw (by omega)
          have c0 := K.c ((a + k) / 8) (by omega)
          have z0 := K.z ((a + k) / 8) (by omega)
          have CW3 := Lib.hid (Cw.turn (i := a + k) h1 h2 K (by omega))
          have hb2 := Lib.hid (hb.setCell h1 (p := ⟨g, (a + k) / 8, none⟩) (.int .u8 ((cs.getD ((a + k) / 8) 0).toNat ^^^ 2 ^ ((a + k) % 8) : Nat)))
          have yl : (cs.getD ((a + k) / 8) 0).toNat < 256 := UInt8.toNat_lt _
          have e8 := bit8 (a + k)
          have d5 : (2 : Int) ^ ((a + k) % 8) % 256 = ((2 ^ ((a + k) % 8) : Nat) : Int) := by rw [Int.natCast_pow, Int.emod_eq_of_lt (by exact_mod_cast Nat.zero_le _) (by exact_mod_cast e8)]; rfl
          have x1 := xor_u8 (cs.getD ((a + k) / 8) 0).toNat (2 ^ ((a + k) % 8)) yl e8
          replace hv := Lib.hid hv
          replace hb := Lib.hid hb
          clear hv hb hw K ht
          generalize (cs.getD ((a + k) / 8) 0).toNat = yv at *
          generalize yv ^^^ 2 ^ ((a + k) % 8) = yx at *
          generalize y / 2 ^ k % 2 = ym at *
          generalize y / 2 ^ k = yq at *
          generalize (a + k) / 8 = p at *
          generalize hr : (a + k) % 8 = r at *
          have hr8 : r < 8 := by omega
          generalize he : 2 ^ r = pe at *
          go_wp2_with fail
          go_roundw
          case rel => exact ⟨k + 1, true, turn cs (a + k), rfl, by omega, rfl, ⟨fun _ => ht2.out, fun _ => rfl⟩, by rw [turn_len]; exact hc, CW3.out, hv2.out, hb2.out⟩
          case measure => simp [Lib.intOf]; omega
        · have e := bk_out y k (8 * n - a) (by omega)
          have o1 : ((y / 2 ^ k % 2 : Nat) : Int) = 1 := by omega
          have o2 : ¬ (((a + k) / 8 : Nat) : Int) < (n : Int) := by omega
          rw [← e] at hv ht
          replace hv := Lib.hid hv
          clear e
          generalize y / 2 ^ k % 2 = ym at *
          generalize y / 2 ^ k = yq at *
          generalize (a + k) / 8 = p at *
          go_wp2_with fail
          go_roundw
          case rel => exact ⟨k + 1, t, cs, rfl, by omega, rfl, ht.out, hc, hw, hv.out, hb⟩
          case measure => simp [Lib.intOf]; omega
      · have e := bk_off y k (8 * n - a) hm
        have o1 : ¬ ((y / 2 ^ k % 2 : Nat) : Int) = 1 := by omega
        rw [← e] at hv ht
        replace hv := Lib.hid hv
        clear e
        generalize y / 2 ^ k % 2 = ym at *
        generalize y / 2 ^ k = yq at *
        go_wp2_with fail
        go_roundw
        case rel => exact ⟨k + 1, t, cs, rfl, by omega, rfl, ht.out, hc, hw, hv.out, hb⟩
        case measure => simp [Lib.intOf]; omega
    · have i1 : ¬ (k : Int) < 32 := by omega
      obtain rfl : k = 32 := by omega
      have hn := HN.out
      have C1 := Lib.hid (Cx.of A w.heap.size ca bs wr (HR.out.below hb) (HT.out.below hb) (by have := HL.out; omega))
      have C2 := Lib.hid (Cx.of Av wr.heap.size cv cs wr hw.reads (HT.out.below hb) (by have := HL.out; omega))
      rw [hn] at hv ht
      have T := Lib.hid (turned (by omega) hv)
      have ht := Lib.hid (ht.out.trans (not_congr T.out.symm))
      rw [← hn] at C1
      rw [hc] at C2
      clear hv T hw hn
      generalize sum bs = s1 at *
      generalize sum cs = s2 at *
      go_wp2_with fail
      refine C1.out.mono ?_
      rintro e w3 ⟨rfl, rfl⟩
      go_wp2_with fail
      refine C2.out.mono ?_
      rintro e w3 ⟨rfl, rfl⟩
      have hs : (t == ((s1 : Int) != (s2 : Int))) = true := by
        have h := ht.out
        cases t
        · simp at h ⊢
          omega
        · simp at h ⊢
          omega
      clear ht C1 C2
      go_wp2
      go_ret
      exact ⟨rfl, hb⟩
theorem walk (A : Option Addr) (ca : Nat) (bs : List UInt8) (x y : Nat) (w : World) (hT : Tab w) (hx : x ≤ 65535) (hy : y < 4294967296) (hA : A = none → ca = 0) (R : Bs w w.heap.size A bs) :
    Calls Tryd.prog 6 #[.slice A bs.length ca, .int .u16 (x : Nat), .int .u32 (y : Nat)] w fun e w' => e = .returned (.bool true) ∧ Below w.heap.size w w' := by
  by_cases h : 200 < bs.length ∨ y = 0
  · exact walk_no A _ ca x y h w hT
  · exact walk_yes A ca x y bs (by omega) (by omega) hx hy w hT R hA
def tabZ : List Nat := [0, 274646895, 549293790, 820201905, 1098587580, 1361435347, 1640403810, 1905808397, 2197175160, 2460548119, 2722870694, 2987750089, 3280807620, 3553878443, 3811616794, 4084100981]
theorem tabZ_at : ∀ i, i < 16 → tabZ[i]? = some (steps 4 i) := by decide +kernel
theorem gh : Tryd.prog.globalNamed "abacist/crc.halves" = some 0 := by kernel_rfl
theorem th : (Tryd.prog.globals[0]?).map (·.type) = some 57 := by kernel_rfl
/-- What the row's condition gives the walk: the table's cells. -/
theorem of_laid {W : World} (h : laidMetH Tryd.prog Rows.crcBurstsRow.laid W) : Cx.Tab W := by
  rw [MakeChecks.laidMetH_plain _ _ _ (by kernel_rfl)] at h
  obtain ⟨ps, ⟨g1, t1, cs1, f1, p1, q1, hg1, ht1, hv1, hd1, _, _⟩, _, _⟩ := h
  obtain rfl := Option.some.inj (gh.symm.trans hg1)
  obtain rfl := Option.some.inj (th.symm.trans ht1)
  have hd2 : DataW.trod _ Tryd.prog W 0 _ false f1 57 cs1.toList = some (Lib.tabData .u32 (tabZ.map Int.ofNat), p1) := hd1
  have hc := Lib.cells_of_tab Tryd.underlying57 Tryd.underlying25 (by kernel_rfl) (by kernel_rfl) hd2
  intro i hi
  have c := World.var?_cell hg1 hv1 i
  rw [c, ← Array.getElem?_toList, hc]
  simp [tabZ_at i hi]

/-- The door's own heap meets the condition. -/
theorem door_met (os : Os) (args : Array Value) : laidMetH Tryd.prog Rows.crcBurstsRow.laid ((World.doorLaid Tryd.prog 400 os).forCall (fun _ _ => 0) ⟨#[], args, []⟩).memory :=
  laidMetH_of_parts3 (fuel := 8) (laidMet_of_run' 8 (by kernel_rfl) (by kernel_rfl)) (by kernel_rfl) (by kernel_rfl)
set_option maxRecDepth 100000 in
theorem lifted (os : Os) (started : os.Started) (H : Type) (enc : TypeId × Value → H) :
    ReturnsInHanded {} Tryd.checked os 6 .any (fun w args => (Rows.crcBurstsSpec.pre enc Tryd.prog Tryd.f6 [] false w args ∧ laidMetH Tryd.prog Rows.crcBurstsRow.laid w) ∧ sizedMet enc Tryd.prog Tryd.f6 (OpenSpec.ofChange Rows.crcBurstsSpec) false w args)
      (Rows.crcBurstsSpec.post enc Tryd.prog Tryd.f6 false true false false) := by
  refine returnsInHanded_of_change_and (C := Tryd.checked) (X := fun w _ => laidMetH Tryd.prog Rows.crcBurstsRow.laid w) (fun _ _ _ hh h => h.of_heap hh) Fr.own started (by kernel_rfl) Tryd.func6
    (ChangeSpec.witness_shaped (enc := enc) (C := Tryd.checked) (os := os) (X := fun w _ => laidMetH Tryd.prog Rows.crcBurstsRow.laid w) false (World.doorLaid Tryd.prog 400 os) #[.slice none 0 0, .int .u16 0, .int .u32 0] 8 rfl (World.shaped_of_RefB (by kernel_rfl) (by kernel_rfl)) (by kernel_rfl) (by kernel_rfl) (by kernel_rfl) (door_met os _)) ?_
  intro W base args ds gs before hval0 hW _ _ hL _
  have hval : ∀ (j : Nat) t v, Tryd.f6.params[j]? = some t → args[j]? = some v → Value.okWide Tryd.prog W .any base t v := hval0
  have hW' := hW
  obtain ⟨p, q, hA0, hV, rfl, hfz, hnd⟩ := hW
  have hA : DataW.TrodAll enc Tryd.prog W 0 (fun _ => true) true Tryd.f6.params.toList args.toList ds p := hA0
  obtain ⟨rfl, rfl⟩ := trodVars_none hV
  rw [Tryd.params6] at hA hval
  obtain ⟨v0, vs0, d0, ds0, p0, q0, hargs, rfl, rfl, h0, r0⟩ := trodAll_cons hA
  obtain ⟨v1, vs1, d1, ds1, p1, q1, rfl, rfl, rfl, h1, r1⟩ := trodAll_cons r0
  obtain ⟨v2, vs2, d2, ds2, p2, q2, rfl, rfl, rfl, h2, r2⟩ := trodAll_cons r1
  obtain ⟨rfl, rfl, rfl⟩ := trodAll_nil r2
  obtain rfl : args = #[v0, v1, v2] := by cases args; simp_all
  obtain ⟨A0, n0, c0, rfl⟩ := okWide_slice Tryd.underlying22 (hval 0 22 v0 rfl rfl)
  obtain ⟨fuel0, hf0⟩ := h0
  have z0 := Cx.nil_cap hf0
  obtain ⟨xs0, rfl, lc0, lm0, R0⟩ := Ww.open_bytes hf0
  obtain ⟨a1, rfl, rfl, rfl, w1⟩ := open_int Tryd.underlying46 (hval 1 46 v1 rfl rfl) h1
  have b1 : 0 ≤ a1 ∧ a1 ≤ 65535 := by simpa [Lit.wf, IntKind.min, IntKind.max, IntKind.signed, IntKind.bits] using w1
  obtain ⟨x1, rfl⟩ := Int.eq_ofNat_of_zero_le b1.1
  obtain ⟨a2, rfl, rfl, rfl, w2⟩ := open_int Tryd.underlying25 (hval 2 25 v2 rfl rfl) h2
  have b2 : 0 ≤ a2 ∧ a2 ≤ 4294967295 := by simpa [Lit.wf, IntKind.min, IntKind.max, IntKind.signed, IntKind.bits] using w2
  obtain ⟨x2, rfl⟩ := Int.eq_ofNat_of_zero_le b2.1
  simp only [List.append_nil] at hW' hA0
  refine (walk A0 c0 xs0 x1 x2 W (of_laid hL) (by omega) (by omega) z0 R0).mono fun e W' ⟨he, hb⟩ => ?_
  subst he
  exact ⟨_, rfl, Fr.law_post (tb := 4) hW' hA0 rfl rfl rfl Tryd.underlying4 (by rw [Tryd.params6]; intro t ht; simp at ht; rcases ht with rfl | rfl | rfl; all_goals exact ⟨by kernel_rfl, of_decide_eq_true (by kernel_rfl)⟩) hb⟩

theorem row_holds : Rows.CrcBurstsSaid :=
  OpenClaim.holds_of_wide 6 Tryd.f6 rfl rfl rfl rfl rfl rfl rfl ⟨rfl, rfl, rfl, rfl, rfl⟩ rfl rfl rfl rfl rfl (by kernel_rfl) Tryd.func6 (by kernel_rfl)
    (of_decide_eq_true (by kernel_rfl)) (by unfold Func.isWrapper; first | (rw [if_pos (by decide +kernel)]; kernel_rfl) | (rw [if_neg (by decide +kernel)]; exact ⟨rfl, rfl⟩))
    (fun os started H enc _ => lifted os started H enc)

theorem proved : Rows.CrcBurstsCardSaid :=
  Claim7.holds_tied_plain_at .later [] [.data] true Rows.crcBurstsCard.stood.harness false
    row_holds (fun _ h => by cases h) (by kernel_rfl) (fun _ h => by cases h) crcBursts_row_tie rfl ⟨rfl, rfl⟩ (by kernel_rfl) rfl
    (fun f fn hf hfn => by
      obtain rfl : f = 6 := Option.some.inj ((show Tryd.prog.funcNamed "abacist/abacistlaw16.CrcBursts" = some 6 by kernel_rfl).symm.trans hf) |>.symm
      obtain rfl : fn = Tryd.f6 := (Option.some.inj (Tryd.func6.symm.trans hfn)).symm
      exact ⟨by kernel_rfl, fun j t ht => by
        rw [Tryd.params6] at ht
        have hm : t ∈ [22, 46, 25] := by simpa using Array.mem_of_getElem? ht
        have hall : ([22, 46, 25].all fun u => !Tryd.prog.wantsStandIn u) = true := by kernel_rfl
        exact (show Tryd.prog.wantsStandIn t = false by simpa using List.all_eq_true.1 hall t hm)⟩)
    (by kernel_rfl)
end Go.Proofs.YtinachlkaochdaaDoor.crcBursts
