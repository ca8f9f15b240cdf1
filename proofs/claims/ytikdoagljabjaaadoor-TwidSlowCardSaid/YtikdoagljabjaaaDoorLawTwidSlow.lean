/- TwidSlow: of every row and direction the law of transforms by their sums answers true, and changes nothing, where the library's two tables are as their initialisers lay them (the card ties them to the program's text). -/
import Derived.Test.YtikdoagljabjaaaDoorFrame
import Derived.Test.YtikdoagljabjaaaDoorTwidE
import Derived.Test.YtikdoagljabjaaaDoorTie
import Derived.Test.YtikdoagljabjaaaDoorCards
import Derived.Lib.LaidTab
import Derived.LaidMore
import Derived.Stop.Joined
import Derived.SevenTiedAt
set_option linter.unusedVariables false
namespace Go.Proofs.YtikdoagljabjaaaDoor.twidSlow
open Go.ChangeShapes Go.WideShapes Go.ChangeAt Go.RowKit
open Td Tn Ww Pl

set_option maxHeartbeats 1000000 in
set_option maxRecDepth 100000 in
theorem walk_long (A : Option Addr) (ca n : Nat) (d : Int) (hl : 32 < n) (w : World) (hT : Ft.Tab w) :
    Calls Tryd.prog 6 #[.slice A n ca, .int .i64 d] w fun e w' => e = .returned (.bool true) ∧ Below w.heap.size w w' := by
  have h1 : 32 < (n : Int) := by omega
  go_enter Tryd.func6, Tryd.ntmps6
  go_wp2_with fail
  refine (Td.awake _ hT).mono ?_
  rintro e w1 ⟨rfl, c1⟩
  go_wp2
  go_ret
  exact ⟨by simp [go_sem], c1⟩

set_option maxHeartbeats 1000000 in
set_option maxRecDepth 100000 in
theorem walk_none (A : Option Addr) (ca n : Nat) (d : Int) (hl : n ≤ 32) (h : ∀ j : Nat, j ≤ 32 → (n : Int) ≠ ((2 ^ j : Nat) : Int)) (w : World) (hT : Ft.Tab w) :
    Calls Tryd.prog 6 #[.slice A n ca, .int .i64 d] w fun e w' => e = .returned (.bool true) ∧ Below w.heap.size w w' := by
  have h1 : ¬ 32 < (n : Int) := by omega
  have K := Lib.hid (fun W => Ft.ref_any (n : Int) (-1) (fun i hi e => absurd e (h i hi)) (fun _ => rfl) W)
  have S := Lib.hid (fun W => slow_len A n ca d h W)
  clear h
  go_enter Tryd.func6, Tryd.ntmps6
  go_wp2_with fail
  refine (Td.awake _ hT).mono ?_
  rintro e w1 ⟨rfl, c1⟩
  go_wp2_with fail
  refine (K.out _).mono ?_
  rintro e w' ⟨rfl, rfl⟩
  go_wp2_with fail
  refine (S.out _).mono ?_
  rintro e w' ⟨rfl, rfl⟩
  go_wp2
  go_ret
  exact ⟨by simp [go_sem], c1⟩

set_option maxHeartbeats 1000000 in
set_option maxRecDepth 100000 in
theorem walk_kind (A : Option Addr) (ca n k : Nat) (d : Int) (hl : n ≤ 32) (hk : k ≤ 32) (hn : n = 2 ^ k) (h0 : d ≠ 0) (h1 : d ≠ 1) (w : World) (hT : Ft.Tab w) :
    Calls Tryd.prog 6 #[.slice A n ca, .int .i64 d] w fun e w' => e = .returned (.bool true) ∧ Below w.heap.size w w' := by
  have h2 : ¬ 32 < (n : Int) := by omega
  have K := Lib.hid (fun W => fits_doc n k hk hn W)
  have S := Lib.hid (fun W T => slow_kind A n ca k d hk hn h0 h1 W T)
  have d0 : (d != 0) = true := by simp [h0]
  have d1 : (d != 1) = true := by simp [h1]
  have HT := Lib.hid hT
  clear h0 h1 hn
  go_enter Tryd.func6, Tryd.ntmps6
  go_wp2_with fail
  refine (Td.awake _ hT).mono ?_
  rintro e w1 ⟨rfl, c1⟩
  go_wp2_with fail
  refine (K.out _).mono ?_
  rintro e w' ⟨rfl, rfl⟩
  go_wp2_with fail
  refine (S.out _ (HT.out.below c1)).mono ?_
  rintro e w' ⟨rfl, rfl⟩
  go_wp2
  go_ret
  exact ⟨by simp [go_sem], c1⟩

/-- The inverse one of the forward one. -/
theorem back_eq (k d n d2 : Nat) (hk : k ≤ 32) (hd : d ≤ 1) (hd2 : d2 = 1 - d) (hn : n = 2 ^ k) (x : Nat → Nat) (i : Nat) (hi : i < n) : ft k d2 (Pn.pl (rg (ft k d x) n)) i = x i % 18446744069414584321 := by
  rw [hd2, ft_congr (y := ft k d x) (fun j hj => pl_rg _ _ _ (by omega)), ft_ft k d hk hd x i (by omega)]
set_option maxHeartbeats 1000000 in
set_option maxRecDepth 100000 in
theorem walk_in (A : Option Addr) (ca n k d : Nat) (xs : List Nat) (hl : n ≤ 32) (hk : k ≤ 10) (hd : d ≤ 1) (hn : n = 2 ^ k) (hx : xs.length = n) (w : World) (hT : Ft.Tab w) (R : Ws w w.heap.size A xs) :
    Calls Tryd.prog 6 #[.slice A n ca, .int .i64 (d : Int)] w fun e w' => e = .returned (.bool true) ∧ Below w.heap.size w w' := by
  have h2 : ¬ 32 < (n : Int) := by omega
  have K := Lib.hid (fun W => fits_doc n k (by omega) hn W)
  have S := Lib.hid (fun W T R => slow A n ca k d xs hk hd hn hx W T R)
  have DD : d = 0 ∨ d = 1 := by omega
  have dd : (((d : Int) != 0) && ((d : Int) != 1)) = false := by rcases DD with rfl | rfl <;> rfl
  obtain ⟨d2, hd2⟩ : ∃ d2 : Nat, d2 = 1 - d := ⟨_, rfl⟩
  have q1 : IntKind.i64.wrap (1 - (d : Int)) = (d2 : Int) := by rw [IntKind.wrap_i64]; omega
  have S2 := Lib.hid (fun (A1 : Option Addr) W T R => slow A1 n n k d2 (rg (ft k d (Pn.pl xs)) n) hk (by omega) hn (rg_len _ _) W T R)
  have BK := Lib.hid (fun i (hi : i < n) => back_eq k d n d2 (by omega) hd hd2 hn (Pn.pl xs) i hi)
  have G1 := Lib.hid (ft_lt k d (Pn.pl xs))
  have G2 := Lib.hid (ft_lt k d2 (Pn.pl (rg (ft k d (Pn.pl xs)) n)))
  have TR := Lib.hid (fun W R => rtransform A ca n k d xs hx (by omega) (by omega) hd hn W R)
  have CN := Lib.hid (fun W R => rcanon A ca n xs hx (by omega) W R)
  have SC := Lib.hid (fun W R => scale A ca n xs hx (by omega) 7 (by decide) W R)
  have RS := Lib.hid (fun W R => rscale A ca n xs hx (by omega) 7 (by decide) W R)
  have HT := Lib.hid hT
  generalize ft k d2 (Pn.pl (rg (ft k d (Pn.pl xs)) n)) = g2 at *
  generalize ft k d (Pn.pl xs) = g1 at *
  obtain ⟨g3, hg3⟩ : ∃ g : Nat → Nat, g = fun i => Pn.pl xs i % 18446744069414584321 := ⟨_, rfl⟩
  rw [← hg3] at CN
  have E3 := Lib.hid (show ∀ i, i < n → g2 i = g3 i by rw [hg3]; exact BK.out)
  have G4 := Lib.hid (fun i => show Pn.pl xs i * 7 % 18446744069414584321 < 18446744069414584321 from Nat.mod_lt _ (by decide))
  obtain ⟨g4, hg4⟩ : ∃ g : Nat → Nat, g = fun i => Pn.pl xs i * 7 % 18446744069414584321 := ⟨_, rfl⟩
  have Gi : ∀ i, Pn.pl xs i * 7 % 18446744069414584321 = g4 i := fun i => by rw [hg4]
  rw [← hg4] at SC RS
  simp only [Gi] at G4
  have SM := Lib.hid (fun (g h : Nat → Nat) (e : ∀ i, i < n → g i = h i) (A B : Option Addr) (ca cb : Nat) W Ra Rb => same_rg (n := n) e (by omega) A B ca cb W Ra Rb)
  have hdi : (d : Int) = 0 ∨ (d : Int) = 1 := by omega
  clear hd hn hx hk hl BK hg3 hg4 Gi
  have X0 := R
  clear R
  clear hdi dd q1
  rcases DD with rfl | rfl
  · obtain rfl : d2 = 1 := by omega
    clear hd2
    go_enter Tryd.func6, Tryd.ntmps6
    go_wp2_with fail
    refine (Td.awake _ hT).mono ?_
    rintro e w1 ⟨rfl, c1⟩
    have X1 := X0.step c1
    clear X0
    go_wp2_with fail
    refine (K.out _).mono ?_
    rintro e w' ⟨rfl, rfl⟩
    go_wp2_with fail
    refine (S.out _ (HT.out.below c1) X1).mono ?_
    rintro e w2 ⟨b2, rfl, _, hb2, K2, d2'⟩
    have Y2 := wk_ws K2 G1.out hb2
    have c2 := c1.trans (d2'.mono c1.size)
    have X2 := X1.step d2'
    clear c1 d2' X1 K2 hb2
    go_wp2_with fail
    refine (S2.out _ _ (HT.out.below c2) Y2).mono ?_
    rintro e w3 ⟨b3, rfl, _, hb3, K3, d3⟩
    have Z3 := wk_ws K3 G2.out hb3
    have c3 := c2.trans (d3.mono c2.size)
    have X3 := X2.step d3
    have Y3 := Y2.step d3
    clear c2 d3 X2 Y2 K3 hb3
    go_wp2_with fail
    refine (TR.out _ X3).mono ?_
    rintro e w4 ⟨A4, k4, rfl, V4, d4⟩
    have c4 := c3.trans (d4.mono c3.size)
    have X4 := X3.step d4
    have Y4 := Y3.step d4
    have Z4 := Z3.step d4
    clear c3 d4 X3 Y3 Z3
    go_wp2_with fail
    refine (SM.out _ _ (fun _ _ => rfl) _ _ _ _ _ Y4 V4).mono ?_
    rintro e w5 ⟨rfl, d5⟩
    have c5 := c4.trans (d5.mono c4.size)
    have X5 := X4.step d5
    have Z5 := Z4.step d5
    clear c4 d5 X4 Y4 Z4 V4
    go_wp2_with fail
    refine (CN.out _ X5).mono ?_
    rintro e w6 ⟨A6, k6, rfl, V6, d6⟩
    have c6 := c5.trans (d6.mono c5.size)
    have X6 := X5.step d6
    have Z6 := Z5.step d6
    clear c5 d6 X5 Z5
    go_wp2_with fail
    refine (SM.out _ _ E3.out _ _ _ _ _ Z6 V6).mono ?_
    rintro e w7 ⟨rfl, d7⟩
    have c7 := c6.trans (d7.mono c6.size)
    have X7 := X6.step d7
    clear c6 d7 X6 Z6 V6
    go_wp2_with fail
    refine (SC.out _ X7).mono ?_
    rintro e w8 ⟨b8, rfl, _, hb8, K8, d8⟩
    have Z8 := wk_ws K8 G4.out hb8
    have c8 := c7.trans (d8.mono c7.size)
    have X8 := X7.step d8
    clear c7 d8 X7 K8 hb8
    go_wp2_with fail
    refine (RS.out _ X8).mono ?_
    rintro e w9 ⟨A9, k9, rfl, V9, d9⟩
    have c9 := c8.trans (d9.mono c8.size)
    have Z9 := Z8.step d9
    clear c8 d9 X8 Z8
    go_wp2_with fail
    refine (SM.out _ _ (fun _ _ => rfl) _ _ _ _ _ Z9 V9).mono ?_
    rintro e w10 ⟨rfl, d10⟩
    have c10 := c9.trans (d10.mono c9.size)
    clear c9 d10 Z9 V9
    go_wp2
    go_ret
    exact ⟨by simp [go_sem], c10⟩
  · obtain rfl : d2 = 0 := by omega
    clear hd2
    go_enter Tryd.func6, Tryd.ntmps6
    go_wp2_with fail
    refine (Td.awake _ hT).mono ?_
    rintro e w1 ⟨rfl, c1⟩
    have X1 := X0.step c1
    clear X0
    go_wp2_with fail
    refine (K.out _).mono ?_
    rintro e w' ⟨rfl, rfl⟩
    go_wp2_with fail
    refine (S.out _ (HT.out.below c1) X1).mono ?_
    rintro e w2 ⟨b2, rfl, _, hb2, K2, d2'⟩
    have Y2 := wk_ws K2 G1.out hb2
    have c2 := c1.trans (d2'.mono c1.size)
    have X2 := X1.step d2'
    clear c1 d2' X1 K2 hb2
    go_wp2_with fail
    refine (S2.out _ _ (HT.out.below c2) Y2).mono ?_
    rintro e w3 ⟨b3, rfl, _, hb3, K3, d3⟩
    have Z3 := wk_ws K3 G2.out hb3
    have c3 := c2.trans (d3.mono c2.size)
    have X3 := X2.step d3
    have Y3 := Y2.step d3
    clear c2 d3 X2 Y2 K3 hb3
    go_wp2_with fail
    refine (TR.out _ X3).mono ?_
    rintro e w4 ⟨A4, k4, rfl, V4, d4⟩
    have c4 := c3.trans (d4.mono c3.size)
    have X4 := X3.step d4
    have Y4 := Y3.step d4
    have Z4 := Z3.step d4
    clear c3 d4 X3 Y3 Z3
    go_wp2_with fail
    refine (SM.out _ _ (fun _ _ => rfl) _ _ _ _ _ Y4 V4).mono ?_
    rintro e w5 ⟨rfl, d5⟩
    have c5 := c4.trans (d5.mono c4.size)
    have X5 := X4.step d5
    have Z5 := Z4.step d5
    clear c4 d5 X4 Y4 Z4 V4
    go_wp2_with fail
    refine (CN.out _ X5).mono ?_
    rintro e w6 ⟨A6, k6, rfl, V6, d6⟩
    have c6 := c5.trans (d6.mono c5.size)
    have X6 := X5.step d6
    have Z6 := Z5.step d6
    clear c5 d6 X5 Z5
    go_wp2_with fail
    refine (SM.out _ _ E3.out _ _ _ _ _ Z6 V6).mono ?_
    rintro e w7 ⟨rfl, d7⟩
    have c7 := c6.trans (d7.mono c6.size)
    have X7 := X6.step d7
    clear c6 d7 X6 Z6 V6
    go_wp2_with fail
    refine (SC.out _ X7).mono ?_
    rintro e w8 ⟨b8, rfl, _, hb8, K8, d8⟩
    have Z8 := wk_ws K8 G4.out hb8
    have c8 := c7.trans (d8.mono c7.size)
    have X8 := X7.step d8
    clear c7 d8 X7 K8 hb8
    go_wp2_with fail
    refine (RS.out _ X8).mono ?_
    rintro e w9 ⟨A9, k9, rfl, V9, d9⟩
    have c9 := c8.trans (d9.mono c8.size)
    have Z9 := Z8.step d9
    clear c8 d9 X8 Z8
    go_wp2_with fail
    refine (SM.out _ _ (fun _ _ => rfl) _ _ _ _ _ Z9 V9).mono ?_
    rintro e w10 ⟨rfl, d10⟩
    have c10 := c9.trans (d10.mono c9.size)
    clear c9 d10 Z9 V9
    go_wp2
    go_ret
    exact ⟨by simp [go_sem], c10⟩

theorem walk (A : Option Addr) (ca n : Nat) (xs : List Nat) (d : Int) (hx : xs.length = n) (w : World) (R : Ws w w.heap.size A xs) (hT : Ft.Tab w) :
    Calls Tryd.prog 6 #[.slice A n ca, .int .i64 d] w fun e w' => e = .returned (.bool true) ∧ Below w.heap.size w w' := by
  by_cases hl : 32 < n
  · exact walk_long A ca n d hl w hT
  by_cases h : ∃ j : Nat, j ≤ 32 ∧ (n : Int) = ((2 ^ j : Nat) : Int)
  · obtain ⟨k, hk, e⟩ := h
    have hn : n = 2 ^ k := by omega
    have hk5 : k ≤ 10 := Nat.le_of_not_lt fun c => by
      have := Nat.pow_le_pow_right (n := 2) (by decide) c
      have e11 : 2 ^ Nat.succ 10 = 2048 := by decide
      omega
    by_cases hd : d ≠ 0 ∧ d ≠ 1
    · exact walk_kind A ca n k d (by omega) hk hn hd.1 hd.2 w hT
    · obtain ⟨dn, rfl⟩ := Int.eq_ofNat_of_zero_le (show 0 ≤ d by omega)
      exact walk_in A ca n k dn xs (by omega) hk5 (by omega) hn hx w hT R
  · exact walk_none A ca n d (by omega) (fun j hj e => h ⟨j, hj, e⟩) w hT

theorem g32 : Tryd.prog.globalNamed "math/bits.deBruijn32tab" = some 0 := by kernel_rfl
theorem g64 : Tryd.prog.globalNamed "math/bits.deBruijn64tab" = some 1 := by kernel_rfl
theorem t64 : (Tryd.prog.globals[1]?).map (·.type) = some 77 := by kernel_rfl
/-- What the row's condition gives the walk: the table's cells. -/
theorem of_laid {W : World} (h : laidMetH Tryd.prog Rows.twidSlowRow.laid W) : Ft.Tab W := by
  rw [MakeChecks.laidMetH_plain _ _ _ (by kernel_rfl)] at h
  obtain ⟨ps, ⟨g0, t0, cs0, f0, p0, q0, hg0, ht0, hv0, hd0, ⟨g1, t1, cs1, f1, p1, q1, hg1, ht1, hv1, hd1, _, _⟩, _⟩, _, _⟩ := h
  obtain rfl := Option.some.inj (g64.symm.trans hg1)
  obtain rfl := Option.some.inj (t64.symm.trans ht1)
  have hd2 : DataW.trod _ Tryd.prog W 0 _ false f1 77 cs1.toList = some (Lib.tabData .u8 (Lib.deBruijn64tab.map Int.ofNat), p1) := hd1
  have hc := Lib.cells_of_tab Tryd.underlying77 Tryd.underlying5 (by kernel_rfl) (by kernel_rfl) hd2
  intro i hi
  have c := World.var?_cell hg1 hv1 i
  rw [c, ← Array.getElem?_toList, hc]
  have hl : Lib.deBruijn64tab.length = 64 := by decide
  simp [List.getD, hl, hi]

/-- The door's own heap meets the condition. -/
theorem door_met (os : Os) (args : Array Value) : laidMetH Tryd.prog Rows.twidSlowRow.laid ((World.doorLaid Tryd.prog 400 os).forCall (fun _ _ => 0) ⟨#[], args, []⟩).memory :=
  laidMetH_of_parts3 (fuel := 8) (laidMet_of_run' 8 (by kernel_rfl) (by kernel_rfl)) (by kernel_rfl) (by kernel_rfl)
set_option maxRecDepth 100000 in
theorem lifted (os : Os) (started : os.Started) (H : Type) (enc : TypeId × Value → H) :
    ReturnsInHanded {} Tryd.checked os 6 .any (fun w args => (Rows.twidSlowSpec.pre enc Tryd.prog Tryd.f6 [] false w args ∧ laidMetH Tryd.prog Rows.twidSlowRow.laid w) ∧ sizedMet enc Tryd.prog Tryd.f6 (OpenSpec.ofChange Rows.twidSlowSpec) false w args)
      (Rows.twidSlowSpec.post enc Tryd.prog Tryd.f6 false true false false) := by
  refine returnsInHanded_of_change_and (C := Tryd.checked) (X := fun w _ => laidMetH Tryd.prog Rows.twidSlowRow.laid w) (fun _ _ _ hh h => h.of_heap hh) Fr.own started (by kernel_rfl) Tryd.func6
    (ChangeSpec.witness_shaped (enc := enc) (C := Tryd.checked) (os := os) (X := fun w _ => laidMetH Tryd.prog Rows.twidSlowRow.laid w) false (World.doorLaid Tryd.prog 400 os) #[.slice none 0 0, .int .i64 0] 8 rfl (World.shaped_of_RefB (by kernel_rfl) (by kernel_rfl)) (by kernel_rfl) (by kernel_rfl) (by kernel_rfl) (door_met os _)) ?_
  intro W base args ds gs before hval0 hW _ _ hL _
  have hval : ∀ (j : Nat) t v, Tryd.f6.params[j]? = some t → args[j]? = some v → Value.okWide Tryd.prog W .any base t v := hval0
  have hW' := hW
  obtain ⟨p, q, hA0, hV, rfl, hfz, hnd⟩ := hW
  have hA : DataW.TrodAll enc Tryd.prog W 0 (fun _ => true) true Tryd.f6.params.toList args.toList ds p := hA0
  obtain ⟨rfl, rfl⟩ := trodVars_none hV
  rw [Tryd.params6] at hA hval
  obtain ⟨v0, vs0, d0, ds0, p0, q0, hargs, rfl, rfl, h0, r0⟩ := trodAll_cons hA
  obtain ⟨v1, vs1, d1, ds1, p1, q1, rfl, rfl, rfl, h1, r1⟩ := trodAll_cons r0
  obtain ⟨rfl, rfl, rfl⟩ := trodAll_nil r1
  obtain rfl : args = #[v0, v1] := by cases args; simp_all
  obtain ⟨A0, n0, c0, rfl⟩ := okWide_slice Tryd.underlying30 (hval 0 30 v0 rfl rfl)
  obtain ⟨fuel0, hf0⟩ := h0
  obtain ⟨xs0, rfl, lc0, lm0, R0⟩ := Ww.open_words hf0
  obtain ⟨x1, rfl, rfl, rfl, w1⟩ := open_int Tryd.underlying3 (hval 1 3 v1 rfl rfl) h1
  have b1 : -9223372036854775808 ≤ x1 ∧ x1 ≤ 9223372036854775807 := by simpa [Lit.wf, IntKind.min, IntKind.max, IntKind.signed, IntKind.bits] using w1
  simp only [List.append_nil] at hW' hA0
  refine (walk A0 c0 xs0.length xs0 x1 rfl W R0 (of_laid hL)).mono fun e W' ⟨he, hb⟩ => ?_
  subst he
  exact ⟨_, rfl, Fr.law_post (tb := 4) hW' hA0 rfl rfl rfl Tryd.underlying4 (by rw [Tryd.params6]; intro t ht; simp at ht; rcases ht with rfl | rfl; all_goals exact ⟨by kernel_rfl, of_decide_eq_true (by kernel_rfl)⟩) hb⟩

theorem row_holds : Rows.TwidSlowSaid :=
  OpenClaim.holds_of_wide 6 Tryd.f6 rfl rfl rfl rfl rfl rfl rfl ⟨rfl, rfl, rfl, rfl, rfl⟩ rfl rfl rfl rfl rfl (by kernel_rfl) Tryd.func6 (by kernel_rfl)
    (of_decide_eq_true (by kernel_rfl)) (by unfold Func.isWrapper; first | (rw [if_pos (by decide +kernel)]; kernel_rfl) | (rw [if_neg (by decide +kernel)]; exact ⟨rfl, rfl⟩))
    (fun os started H enc _ => lifted os started H enc)

theorem proved : Rows.TwidSlowCardSaid :=
  Claim7.holds_tied_plain_at .later [] [.data, .data] true Rows.twidSlowCard.stood.harness false
    row_holds (fun _ h => by cases h) (by kernel_rfl) (fun _ h => by cases h) twidSlow_row_tie rfl ⟨rfl, rfl⟩ (by kernel_rfl) rfl
    (fun f fn hf hfn => by
      obtain rfl : f = 6 := Option.some.inj ((show Tryd.prog.funcNamed "abacist/abacistlaw08.TwidSlow" = some 6 by kernel_rfl).symm.trans hf) |>.symm
      obtain rfl : fn = Tryd.f6 := (Option.some.inj (Tryd.func6.symm.trans hfn)).symm
      exact ⟨by kernel_rfl, fun j t ht => by
        rw [Tryd.params6] at ht
        have hm : t ∈ [30, 3] := by simpa using Array.mem_of_getElem? ht
        have hall : ([30, 3].all fun u => !Tryd.prog.wantsStandIn u) = true := by kernel_rfl
        exact (show Tryd.prog.wantsStandIn t = false by simpa using List.all_eq_true.1 hall t hm)⟩)
    (by kernel_rfl)
end Go.Proofs.YtikdoagljabjaaaDoor.twidSlow
