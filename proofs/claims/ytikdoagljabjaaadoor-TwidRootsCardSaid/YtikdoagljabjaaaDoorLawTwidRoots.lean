/- TwidRoots: of every exponent and direction the law of roots, tables and shares answers true, and changes nothing, where the library's two tables are as their initialisers lay them (the card ties them to the program's text). -/
import Derived.Test.YtikdoagljabjaaaDoorFrame
import Derived.Test.YtikdoagljabjaaaDoorTwidE
import Derived.Test.YtikdoagljabjaaaDoorTie
import Derived.Test.YtikdoagljabjaaaDoorCards
import Derived.Lib.LaidTab
import Derived.LaidMore
import Derived.Stop.Joined
import Derived.SevenTiedAt
set_option linter.unusedVariables false
namespace Go.Proofs.YtikdoagljabjaaaDoor.twidRoots
open Go.ChangeShapes Go.WideShapes Go.ChangeAt Go.RowKit
open Td Tn Ww Pl

set_option maxHeartbeats 1000000 in
set_option maxRecDepth 100000 in
theorem walk_k (k d : Int) (h : k < 0 ∨ 32 < k) (w : World) (hT : Ft.Tab w) :
    Calls Tryd.prog 3 #[.int .i64 k, .int .i64 d] w fun e w' => e = .returned (.bool true) ∧ Below w.heap.size w w' := by
  have hR : Rs k d 0 1 := Or.inl ⟨h, rfl, rfl⟩
  have R := Lib.hid (fun W => root_bad k d h W)
  have H := Lib.hid (fun W => share_bad k h W)
  have G := Lib.hid (fun W => wrong_bad k d h W)
  have TB := Lib.hid (fun W => table_bad hR (by decide) W)
  clear hR
  go_enter Tryd.func3, Tryd.ntmps3
  go_wp2_with fail
  refine (Td.awake _ hT).mono ?_
  rintro e w1 ⟨rfl, c1⟩
  go_wp2_with fail
  refine (R.out _).mono ?_
  rintro e w' ⟨rfl, rfl⟩
  go_wp2_with fail
  refine (H.out _).mono ?_
  rintro e w' ⟨rfl, rfl⟩
  go_wp2_with fail
  refine (G.out _).mono ?_
  rintro e w' ⟨rfl, rfl⟩
  rcases h with h | h
  · have k0 : ¬ 0 ≤ k := by omega
    go_wp2_with fail
    refine (TB.out _).mono ?_
    rintro e w2 ⟨rfl, d2⟩
    have c2 := c1.trans (d2.mono c1.size)
    clear c1 d2
    go_wp2
    go_ret
    exact ⟨by simp [go_sem], c2⟩
  · have k0 : 0 ≤ k := by omega
    have k1 : ¬ k ≤ 32 := by omega
    go_wp2_with fail
    refine (TB.out _).mono ?_
    rintro e w2 ⟨rfl, d2⟩
    have c2 := c1.trans (d2.mono c1.size)
    clear c1 d2
    go_wp2
    go_ret
    exact ⟨by simp [go_sem], c2⟩

set_option maxHeartbeats 1000000 in
set_option maxRecDepth 100000 in
theorem walk_d (k : Nat) (d : Int) (hk : k ≤ 32) (h0 : d ≠ 0) (h1 : d ≠ 1) (w : World) (hT : Ft.Tab w) :
    Calls Tryd.prog 3 #[.int .i64 (k : Int), .int .i64 d] w fun e w' => e = .returned (.bool true) ∧ Below w.heap.size w w' := by
  have hR : Rs (k : Int) d 0 18 := Or.inr (Or.inl ⟨by omega, ⟨h0, h1⟩, rfl, rfl⟩)
  have R := Lib.hid (fun W => root_kind (k : Int) d (by omega) h0 h1 W)
  have H := Lib.hid (fun W => share k hk W)
  have HD := Lib.hid (fun W => rshare k hk W)
  have G := Lib.hid (fun W => wrong_kind (k : Int) d (by omega) h0 h1 W)
  have TB := Lib.hid (fun W => table_bad hR (by decide) W)
  have k1 : (k : Int) ≤ 32 := by omega
  generalize Nt.inv (2 ^ k) = s at *
  clear hR h0 h1 hk
  go_enter Tryd.func3, Tryd.ntmps3
  go_wp2_with fail
  refine (Td.awake _ hT).mono ?_
  rintro e w1 ⟨rfl, c1⟩
  go_wp2_with fail
  refine (R.out _).mono ?_
  rintro e w' ⟨rfl, rfl⟩
  go_wp2_with fail
  refine (H.out _).mono ?_
  rintro e w2 ⟨rfl, d2⟩
  have c2 := c1.trans (d2.mono c1.size)
  clear c1 d2
  go_wp2_with fail
  refine (G.out _).mono ?_
  rintro e w' ⟨rfl, rfl⟩
  go_wp2_with fail
  refine (HD.out _).mono ?_
  rintro e w' ⟨rfl, rfl⟩
  go_wp2_with fail
  refine (TB.out _).mono ?_
  rintro e w3 ⟨rfl, d3⟩
  have c3 := c2.trans (d3.mono c2.size)
  clear c2 d3
  go_wp2
  go_ret
  exact ⟨by simp [go_sem], c3⟩

set_option maxHeartbeats 1000000 in
set_option maxRecDepth 100000 in
theorem walk_mid (k d : Nat) (hk : k ≤ 32) (hd : d ≤ 1) (h6 : 6 < k) (h20 : k ≤ 20) (w : World) (hT : Ft.Tab w) :
    Calls Tryd.prog 3 #[.int .i64 (k : Int), .int .i64 (d : Int)] w fun e w' => e = .returned (.bool true) ∧ Below w.heap.size w w' := by
  have R := Lib.hid (fun W => root_in k d hk hd W)
  have RD := Lib.hid (fun W => rroot k d hk hd W)
  have H := Lib.hid (fun W => share k hk W)
  have HD := Lib.hid (fun W => rshare k hk W)
  have G := Lib.hid (fun W => wrong_in (k : Int) (d : Int) (by omega) (by omega) W)
  have k1 : (k : Int) ≤ 32 := by omega
  generalize Nt.inv (2 ^ k) = s at *
  have k6 : 6 < (k : Int) := by omega
  have k20 : (k : Int) ≤ 20 := by omega
  generalize rd k d = r at *
  clear hd hk
  go_enter Tryd.func3, Tryd.ntmps3
  go_wp2_with fail
  refine (Td.awake _ hT).mono ?_
  rintro e w1 ⟨rfl, c1⟩
  go_wp2_with fail
  refine (R.out _).mono ?_
  rintro e w2 ⟨rfl, d2⟩
  have c2 := c1.trans (d2.mono c1.size)
  clear c1 d2
  go_wp2_with fail
  refine (H.out _).mono ?_
  rintro e w3 ⟨rfl, d3⟩
  have c3 := c2.trans (d3.mono c2.size)
  clear c2 d3
  go_wp2_with fail
  refine (G.out _).mono ?_
  rintro e w' ⟨rfl, rfl⟩
  go_wp2_with fail
  refine (HD.out _).mono ?_
  rintro e w' ⟨rfl, rfl⟩
  go_wp2_with fail
  refine (RD.out _).mono ?_
  rintro e w' ⟨rfl, rfl⟩
  go_wp2
  go_ret
  exact ⟨by simp [go_sem], c3⟩

set_option maxHeartbeats 1000000 in
set_option maxRecDepth 100000 in
theorem walk_large (k d : Nat) (hk : k ≤ 32) (hd : d ≤ 1) (h20 : 20 < k) (w : World) (hT : Ft.Tab w) :
    Calls Tryd.prog 3 #[.int .i64 (k : Int), .int .i64 (d : Int)] w fun e w' => e = .returned (.bool true) ∧ Below w.heap.size w w' := by
  have R := Lib.hid (fun W => root_in k d hk hd W)
  have RD := Lib.hid (fun W => rroot k d hk hd W)
  have H := Lib.hid (fun W => share k hk W)
  have HD := Lib.hid (fun W => rshare k hk W)
  have G := Lib.hid (fun W => wrong_in (k : Int) (d : Int) (by omega) (by omega) W)
  have k1 : (k : Int) ≤ 32 := by omega
  generalize Nt.inv (2 ^ k) = s at *
  have k6 : 6 < (k : Int) := by omega
  have k20 : ¬ (k : Int) ≤ 20 := by omega
  have k21 : 20 < (k : Int) := by omega
  have TB := Lib.hid (fun W => table_large k d hk hd h20 W)
  generalize rd k d = r at *
  clear hd hk
  go_enter Tryd.func3, Tryd.ntmps3
  go_wp2_with fail
  refine (Td.awake _ hT).mono ?_
  rintro e w1 ⟨rfl, c1⟩
  go_wp2_with fail
  refine (R.out _).mono ?_
  rintro e w2 ⟨rfl, d2⟩
  have c2 := c1.trans (d2.mono c1.size)
  clear c1 d2
  go_wp2_with fail
  refine (H.out _).mono ?_
  rintro e w3 ⟨rfl, d3⟩
  have c3 := c2.trans (d3.mono c2.size)
  clear c2 d3
  go_wp2_with fail
  refine (G.out _).mono ?_
  rintro e w' ⟨rfl, rfl⟩
  go_wp2_with fail
  refine (HD.out _).mono ?_
  rintro e w' ⟨rfl, rfl⟩
  go_wp2_with fail
  refine (RD.out _).mono ?_
  rintro e w' ⟨rfl, rfl⟩
  go_wp2_with fail
  refine (TB.out _).mono ?_
  rintro e w4 ⟨rfl, d4⟩
  have c4 := c3.trans (d4.mono c3.size)
  clear c3 d4
  go_wp2
  go_ret
  exact ⟨by simp [go_sem], c4⟩

set_option maxHeartbeats 1000000 in
set_option maxRecDepth 100000 in
theorem walk_small (k d : Nat) (hk : k ≤ 32) (hd : d ≤ 1) (h6 : k ≤ 6) (w : World) (hT : Ft.Tab w) :
    Calls Tryd.prog 3 #[.int .i64 (k : Int), .int .i64 (d : Int)] w fun e w' => e = .returned (.bool true) ∧ Below w.heap.size w w' := by
  have R := Lib.hid (fun W => root_in k d hk hd W)
  have RD := Lib.hid (fun W => rroot k d hk hd W)
  have H := Lib.hid (fun W => share k hk W)
  have HD := Lib.hid (fun W => rshare k hk W)
  have G := Lib.hid (fun W => wrong_in (k : Int) (d : Int) (by omega) (by omega) W)
  have k1 : (k : Int) ≤ 32 := by omega
  generalize Nt.inv (2 ^ k) = s at *
  have k6 : ¬ 6 < (k : Int) := by omega
  have k21 : ¬ 20 < (k : Int) := by omega
  have hl : 2 ^ (k - 1) ≤ 2 ^ 6 := Nat.pow_le_pow_right (by decide) (by omega)
  have TB := Lib.hid (fun W => table k d (by omega) hd W)
  have PW := Lib.hid (fun W => rpowers (rd k d) (2 ^ (k - 1)) (by omega) W)
  have SM := Lib.hid (fun (g : Nat → Nat) (A B : Option Addr) (ca cb : Nat) W Ra Rb => same_rg (n := 2 ^ (k - 1)) (g := g) (h := g) (fun _ _ => rfl) (by omega) A B ca cb W Ra Rb)
  have GL := Lib.hid (fun i => show rd k d ^ i % 18446744069414584321 < 18446744069414584321 from Nat.mod_lt _ (by decide))
  obtain ⟨g, hg⟩ : ∃ g : Nat → Nat, g = fun i => rd k d ^ i % 18446744069414584321 := ⟨_, rfl⟩
  have Gi : ∀ i, rd k d ^ i % 18446744069414584321 = g i := fun i => by rw [hg]
  rw [← hg] at TB PW
  simp only [Gi] at GL
  obtain ⟨n, hn⟩ : ∃ n, n = 2 ^ (k - 1) := ⟨_, rfl⟩
  rw [← hn] at TB PW SM
  have HN := Lib.hid hn
  clear hg Gi hn hl
  generalize rd k d = r at *
  clear hd hk
  go_enter Tryd.func3, Tryd.ntmps3
  go_wp2_with fail
  refine (Td.awake _ hT).mono ?_
  rintro e w1 ⟨rfl, c1⟩
  go_wp2_with fail
  refine (R.out _).mono ?_
  rintro e w2 ⟨rfl, d2⟩
  have c2 := c1.trans (d2.mono c1.size)
  clear c1 d2
  go_wp2_with fail
  refine (H.out _).mono ?_
  rintro e w3 ⟨rfl, d3⟩
  have c3 := c2.trans (d3.mono c2.size)
  clear c2 d3
  go_wp2_with fail
  refine (G.out _).mono ?_
  rintro e w' ⟨rfl, rfl⟩
  go_wp2_with fail
  refine (HD.out _).mono ?_
  rintro e w' ⟨rfl, rfl⟩
  go_wp2_with fail
  refine (RD.out _).mono ?_
  rintro e w' ⟨rfl, rfl⟩
  go_wp2_with fail
  refine (TB.out _).mono ?_
  rintro e w4 ⟨b4, rfl, _, hb4, K4, d4⟩
  have Y4 := wk_ws K4 GL.out hb4
  have c4 := c3.trans (d4.mono c3.size)
  clear c3 d4 K4 hb4
  clear R RD H HD G TB GL
  go_wp2_with fail
  go_loop [13, 14] (fun v13 v14 => ∃ i m : Nat, v14 = .int .i64 (i : Int) ∧ v13 = .int .i64 (m : Int) ∧ 1 ≤ i ∧ (i ≤ k ∨ i = 1) ∧ m = 2 ^ (i - 1)) (fun _ v14 => k - (Lib.intOf v14).toNat)
  case atStart => exact ⟨1, 1, rfl, rfl, Nat.le_refl _, Or.inr rfl, rfl⟩
  case round =>
    obtain ⟨i, m, rfl, rfl, hi, hik, hm⟩ := hrel
    by_cases hlt : i < k
    · have i1 : (i : Int) < k := by omega
      have hs : 2 ^ (i + 1 - 1) = 2 * m := by rw [hm, show i + 1 - 1 = (i - 1) + 1 by omega, Nat.pow_succ, Nat.mul_comm]
      have hl : 2 * m ≤ 2 ^ 6 := by rw [← hs]; exact Nat.pow_le_pow_right (by decide) (by omega)
      obtain ⟨m2, hm2⟩ : ∃ m2, m2 = 2 * m := ⟨_, rfl⟩
      have q1 : IntKind.i64.wrap (2 * (m : Int)) = (m2 : Int) := by rw [IntKind.wrap_i64]; omega
      rw [← hm2] at hs
      have HS := Lib.hid hs
      clear hm hs hl hm2 PW SM HN hik
      go_wp2_with fail
      go_round
      case rel => exact ⟨i + 1, m2, rfl, rfl, by omega, Or.inl (by omega), HS.out.symm⟩
      case measure => simp [Lib.intOf]; omega
    · have i1 : ¬ (i : Int) < k := by omega
      obtain rfl : m = n := by
        rw [hm, HN.out]
        congr 1
        omega
      clear hm HN hik
      go_wp2_with fail
      refine (PW.out _).mono ?_
      rintro e w5 ⟨A5, k5, rfl, V5, d5⟩
      have c5 := c4.trans (d5.mono c4.size)
      have Y5 := Y4.step d5
      clear c4 d5 Y4
      go_wp2_with fail
      refine (SM.out _ _ _ _ _ _ Y5 V5).mono ?_
      rintro e w6 ⟨rfl, d6⟩
      have c6 := c5.trans (d6.mono c5.size)
      clear c5 d6 Y5 V5
      go_wp2
      go_ret
      exact ⟨by simp [go_sem], c6⟩

theorem walk (k d : Int) (w : World) (hT : Ft.Tab w) :
    Calls Tryd.prog 3 #[.int .i64 k, .int .i64 d] w fun e w' => e = .returned (.bool true) ∧ Below w.heap.size w w' := by
  by_cases hk : k < 0 ∨ 32 < k
  · exact walk_k k d hk w hT
  obtain ⟨kn, rfl⟩ := Int.eq_ofNat_of_zero_le (show 0 ≤ k by omega)
  by_cases hd : d ≠ 0 ∧ d ≠ 1
  · exact walk_d kn d (by omega) hd.1 hd.2 w hT
  obtain ⟨dn, rfl⟩ := Int.eq_ofNat_of_zero_le (show 0 ≤ d by omega)
  by_cases h6 : kn ≤ 6
  · exact walk_small kn dn (by omega) (by omega) h6 w hT
  by_cases h20 : kn ≤ 20
  · exact walk_mid kn dn (by omega) (by omega) (by omega) h20 w hT
  · exact walk_large kn dn (by omega) (by omega) (by omega) w hT

theorem g32 : Tryd.prog.globalNamed "math/bits.deBruijn32tab" = some 0 := by kernel_rfl
theorem g64 : Tryd.prog.globalNamed "math/bits.deBruijn64tab" = some 1 := by kernel_rfl
theorem t64 : (Tryd.prog.globals[1]?).map (·.type) = some 77 := by kernel_rfl
/-- What the row's condition gives the walk: the table's cells. -/
theorem of_laid {W : World} (h : laidMetH Tryd.prog Rows.twidRootsRow.laid W) : Ft.Tab W := by
  rw [MakeChecks.laidMetH_plain _ _ _ (by kernel_rfl)] at h
  obtain ⟨ps, ⟨g0, t0, cs0, f0, p0, q0, hg0, ht0, hv0, hd0, ⟨g1, t1, cs1, f1, p1, q1, hg1, ht1, hv1, hd1, _, _⟩, _⟩, _, _⟩ := h
  obtain rfl := Option.some.inj (g64.symm.trans hg1)
  obtain rfl := Option.some.inj (t64.symm.trans ht1)
  have hd2 : DataW.trod _ Tryd.prog W 0 _ false f1 77 cs1.toList = some (Lib.tabData .u8 (Lib.deBruijn64tab.map Int.ofNat), p1) := hd1
  have hc := Lib.cells_of_tab Tryd.underlying77 Tryd.underlying5 (by kernel_rfl) (by kernel_rfl) hd2
  intro i hi
  have c := World.var?_cell hg1 hv1 i
  rw [c, ← Array.getElem?_toList, hc]
  have hl : Lib.deBruijn64tab.length = 64 := by decide
  simp [List.getD, hl, hi]

/-- The door's own heap meets the condition. -/
theorem door_met (os : Os) (args : Array Value) : laidMetH Tryd.prog Rows.twidRootsRow.laid ((World.doorLaid Tryd.prog 400 os).forCall (fun _ _ => 0) ⟨#[], args, []⟩).memory :=
  laidMetH_of_parts3 (fuel := 8) (laidMet_of_run' 8 (by kernel_rfl) (by kernel_rfl)) (by kernel_rfl) (by kernel_rfl)
set_option maxRecDepth 100000 in
theorem lifted (os : Os) (started : os.Started) (H : Type) (enc : TypeId × Value → H) :
    ReturnsInHanded {} Tryd.checked os 3 .any (fun w args => (Rows.twidRootsSpec.pre enc Tryd.prog Tryd.f3 [] false w args ∧ laidMetH Tryd.prog Rows.twidRootsRow.laid w) ∧ sizedMet enc Tryd.prog Tryd.f3 (OpenSpec.ofChange Rows.twidRootsSpec) false w args)
      (Rows.twidRootsSpec.post enc Tryd.prog Tryd.f3 false true false false) := by
  refine returnsInHanded_of_change_and (C := Tryd.checked) (X := fun w _ => laidMetH Tryd.prog Rows.twidRootsRow.laid w) (fun _ _ _ hh h => h.of_heap hh) Fr.own started (by kernel_rfl) Tryd.func3
    (ChangeSpec.witness_shaped (enc := enc) (C := Tryd.checked) (os := os) (X := fun w _ => laidMetH Tryd.prog Rows.twidRootsRow.laid w) false (World.doorLaid Tryd.prog 400 os) #[.int .i64 0, .int .i64 0] 8 rfl (World.shaped_of_RefB (by kernel_rfl) (by kernel_rfl)) (by kernel_rfl) (by kernel_rfl) (by kernel_rfl) (door_met os _)) ?_
  intro W base args ds gs before hval0 hW _ _ hL _
  have hval : ∀ (j : Nat) t v, Tryd.f3.params[j]? = some t → args[j]? = some v → Value.okWide Tryd.prog W .any base t v := hval0
  have hW' := hW
  obtain ⟨p, q, hA0, hV, rfl, hfz, hnd⟩ := hW
  have hA : DataW.TrodAll enc Tryd.prog W 0 (fun _ => true) true Tryd.f3.params.toList args.toList ds p := hA0
  obtain ⟨rfl, rfl⟩ := trodVars_none hV
  rw [Tryd.params3] at hA hval
  obtain ⟨v0, vs0, d0, ds0, p0, q0, hargs, rfl, rfl, h0, r0⟩ := trodAll_cons hA
  obtain ⟨v1, vs1, d1, ds1, p1, q1, rfl, rfl, rfl, h1, r1⟩ := trodAll_cons r0
  obtain ⟨rfl, rfl, rfl⟩ := trodAll_nil r1
  obtain rfl : args = #[v0, v1] := by cases args; simp_all
  obtain ⟨x0, rfl, rfl, rfl, w0⟩ := open_int Tryd.underlying3 (hval 0 3 v0 rfl rfl) h0
  have b0 : -9223372036854775808 ≤ x0 ∧ x0 ≤ 9223372036854775807 := by simpa [Lit.wf, IntKind.min, IntKind.max, IntKind.signed, IntKind.bits] using w0
  obtain ⟨x1, rfl, rfl, rfl, w1⟩ := open_int Tryd.underlying3 (hval 1 3 v1 rfl rfl) h1
  have b1 : -9223372036854775808 ≤ x1 ∧ x1 ≤ 9223372036854775807 := by simpa [Lit.wf, IntKind.min, IntKind.max, IntKind.signed, IntKind.bits] using w1
  simp only [List.append_nil] at hW'
  refine (walk x0 x1  W (of_laid hL)).mono fun e W' ⟨he, hb⟩ => ?_
  subst he
  exact ⟨_, rfl, Fr.law_post (tb := 4) hW' hA0 rfl rfl rfl Tryd.underlying4 (by rw [Tryd.params3]; intro t ht; simp at ht; rcases ht with rfl | rfl; all_goals exact ⟨by kernel_rfl, of_decide_eq_true (by kernel_rfl)⟩) hb⟩

theorem row_holds : Rows.TwidRootsSaid :=
  OpenClaim.holds_of_wide 3 Tryd.f3 rfl rfl rfl rfl rfl rfl rfl ⟨rfl, rfl, rfl, rfl, rfl⟩ rfl rfl rfl rfl rfl (by kernel_rfl) Tryd.func3 (by kernel_rfl)
    (of_decide_eq_true (by kernel_rfl)) (by unfold Func.isWrapper; first | (rw [if_pos (by decide +kernel)]; kernel_rfl) | (rw [if_neg (by decide +kernel)]; exact ⟨rfl, rfl⟩))
    (fun os started H enc _ => lifted os started H enc)

theorem proved : Rows.TwidRootsCardSaid :=
  Claim7.holds_tied_plain_at .later [] [.data, .data] true Rows.twidRootsCard.stood.harness false
    row_holds (fun _ h => by cases h) (by kernel_rfl) (fun _ h => by cases h) twidRoots_row_tie rfl ⟨rfl, rfl⟩ (by kernel_rfl) rfl
    (fun f fn hf hfn => by
      obtain rfl : f = 3 := Option.some.inj ((show Tryd.prog.funcNamed "abacist/abacistlaw08.TwidRoots" = some 3 by kernel_rfl).symm.trans hf) |>.symm
      obtain rfl : fn = Tryd.f3 := (Option.some.inj (Tryd.func3.symm.trans hfn)).symm
      exact ⟨by kernel_rfl, fun j t ht => by
        rw [Tryd.params3] at ht
        have hm : t ∈ [3] := by simpa using Array.mem_of_getElem? ht
        have hall : ([3].all fun u => !Tryd.prog.wantsStandIn u) = true := by kernel_rfl
        exact (show Tryd.prog.wantsStandIn t = false by simpa using List.all_eq_true.1 hall t hm)⟩)
    (by kernel_rfl)
end Go.Proofs.YtikdoagljabjaaaDoor.twidRoots
