/- HalvesBack: of every row and direction the law of transforms of their own answers true, and changes nothing, where the library's two tables are as their initialisers lay them (the card ties them to the program's text). -/
import Derived.Test.YtkgclgjlohofbaaDoorFrame
import Derived.Test.YtkgclgjlohofbaaDoorKernG
import Derived.Test.YtkgclgjlohofbaaDoorTie
import Derived.Test.YtkgclgjlohofbaaDoorCards
import Derived.Lib.LaidTab
import Derived.LaidMore
import Derived.Stop.Joined
import Derived.SevenTiedAt
set_option linter.unusedVariables false
namespace Go.Proofs.YtkgclgjlohofbaaDoor.halvesBack
open Go.ChangeShapes Go.WideShapes Go.ChangeAt Go.RowKit
open Kn Td Tn Ww Pl

set_option maxHeartbeats 1000000 in
set_option maxRecDepth 100000 in
theorem walk_long (A : Option Addr) (ca n : Nat) (d : Int) (hl : 32 < n) (w : World) (hT : Ft.Tab w) :
    Calls Tryd.prog 4 #[.slice A n ca, .int .i64 d] w fun e w' => e = .returned (.bool true) ∧ Below w.heap.size w w' := by
  have h1 : 32 < (n : Int) := by omega
  go_enter Tryd.func4, Tryd.ntmps4
  go_wp2_with fail
  refine (Kn.awake _ hT).mono ?_
  rintro e w1 ⟨rfl, c1⟩
  go_wp2
  go_ret
  exact ⟨by simp [go_sem], c1⟩

set_option maxHeartbeats 1000000 in
set_option maxRecDepth 100000 in
theorem walk_none (A : Option Addr) (ca n : Nat) (xs : List Nat) (d : Int) (hl : n ≤ 32) (h : ∀ j : Nat, j ≤ 32 → (n : Int) ≠ ((2 ^ j : Nat) : Int)) (hx : xs.length = n) (hA : A = none → ca = 0) (w : World) (hT : Ft.Tab w) (R : Ws w w.heap.size A xs) :
    Calls Tryd.prog 4 #[.slice A n ca, .int .i64 d] w fun e w' => e = .returned (.bool true) ∧ Below w.heap.size w w' := by
  have h1 : ¬ 32 < (n : Int) := by omega
  have HXE := Lib.hid (show Value.slice A n ca = Value.slice A xs.length ca by rw [hx])
  have HX := Lib.hid hx
  have HA := Lib.hid hA
  have RL := Lib.hid R.lt
  have R := Lib.hid R
  have HT := Lib.hid hT
  have K := Lib.hid (fun W => Ft.ref_any (n : Int) (-1) (fun i hi e => absurd e (h i hi)) (fun _ => rfl) W)
  have S := Lib.hid (fun W => transform_len A n ca d h W)
  have SM := Lib.hid (fun (B : Option Addr) cb W Ra Rb => Sm.same A B n n ca cb xs hx.symm hx.symm (by omega) W Ra Rb)
  clear h hx hA hT
  go_enter Tryd.func4, Tryd.ntmps4
  go_wp2_with fail
  refine (Kn.awake _ HT.out).mono ?_
  rintro e w1 ⟨rfl, c1⟩
  have O2 := Lib.hid (Ow.fresh w1 w1.heap.size (Nat.le_refl _))
  have RA2 := Lib.hid ((R.out.step c1).alloc (Nat.le_refl _) (.cells #[] 27))
  have BA2 := Lib.hid (below_alloc w1 (.cells #[] 27))
  go_wp2_with (at_builtin; (refine append_all (w1.alloc (.cells #[] 27)) ?hgd (.tmp 16) (.tmp 17) ?ho w1.heap.size (.slice (some ⟨w1.heap.size, 0, none⟩) 0 0) [] ?hs O2.out w1.heap.size A ca xs ?hx RA2.out HA.out ?c1 ?c2 (fun v2 w2 OO hg => ?_)); (case hgd => rfl); (case ho => rfl); (case hs => rfl); (case hx => exact HXE.out))
  case c1 => have := HX.out; simp only [List.length_nil]; omega
  case c2 => simp
  obtain ⟨A2, k2, rfl, Y2, d2⟩ := copied HX.out RL.out O2.out BA2.out OO hg
  have c2 := c1.trans (d2.mono c1.size)
  clear O2 RA2 BA2 OO hg d2
  go_wp2_with fail
  refine (K.out _).mono ?_
  rintro e w' ⟨rfl, rfl⟩
  go_wp2_with fail
  refine (S.out _).mono ?_
  rintro e w' ⟨rfl, rfl⟩
  go_wp2_with fail
  refine (SM.out _ _ _ (R.out.step c2) Y2).mono ?_
  rintro e w3 ⟨rfl, d3⟩
  have c3 := c2.trans (d3.mono c2.size)
  clear c1 c2 d3 Y2
  go_wp2
  go_ret
  exact ⟨by simp [go_sem], c3⟩

set_option maxHeartbeats 1000000 in
set_option maxRecDepth 100000 in
theorem walk_kind (A : Option Addr) (ca n : Nat) (xs : List Nat) (k : Nat) (d : Int) (hl : n ≤ 32) (hk : k ≤ 32) (hn : n = 2 ^ k) (h0 : d ≠ 0) (h1 : d ≠ 1) (hx : xs.length = n) (hA : A = none → ca = 0) (w : World) (hT : Ft.Tab w) (R : Ws w w.heap.size A xs) :
    Calls Tryd.prog 4 #[.slice A n ca, .int .i64 d] w fun e w' => e = .returned (.bool true) ∧ Below w.heap.size w w' := by
  have h2 : ¬ 32 < (n : Int) := by omega
  have HXE := Lib.hid (show Value.slice A n ca = Value.slice A xs.length ca by rw [hx])
  have HX := Lib.hid hx
  have HA := Lib.hid hA
  have RL := Lib.hid R.lt
  have R := Lib.hid R
  have HT := Lib.hid hT
  have K := Lib.hid (fun W => fits_doc n k hk hn W)
  have S := Lib.hid (fun W T => transform_kind A n ca k d hk hn h0 h1 W T)
  have SM := Lib.hid (fun (B : Option Addr) cb W Ra Rb => Sm.same A B n n ca cb xs hx.symm hx.symm (by omega) W Ra Rb)
  have d0 : (d != 0) = true := by simp [h0]
  have d1 : (d != 1) = true := by simp [h1]
  clear h0 h1 hn hx hA hT
  go_enter Tryd.func4, Tryd.ntmps4
  go_wp2_with fail
  refine (Kn.awake _ HT.out).mono ?_
  rintro e w1 ⟨rfl, c1⟩
  have O2 := Lib.hid (Ow.fresh w1 w1.heap.size (Nat.le_refl _))
  have RA2 := Lib.hid ((R.out.step c1).alloc (Nat.le_refl _) (.cells #[] 27))
  have BA2 := Lib.hid (below_alloc w1 (.cells #[] 27))
  go_wp2_with (at_builtin; (refine append_all (w1.alloc (.cells #[] 27)) ?hgd (.tmp 16) (.tmp 17) ?ho w1.heap.size (.slice (some ⟨w1.heap.size, 0, none⟩) 0 0) [] ?hs O2.out w1.heap.size A ca xs ?hx RA2.out HA.out ?c1 ?c2 (fun v2 w2 OO hg => ?_)); (case hgd => rfl); (case ho => rfl); (case hs => rfl); (case hx => exact HXE.out))
  case c1 => have := HX.out; simp only [List.length_nil]; omega
  case c2 => simp
  obtain ⟨A2, k2, rfl, Y2, d2⟩ := copied HX.out RL.out O2.out BA2.out OO hg
  have c2 := c1.trans (d2.mono c1.size)
  clear O2 RA2 BA2 OO hg d2
  go_wp2_with fail
  refine (K.out _).mono ?_
  rintro e w' ⟨rfl, rfl⟩
  go_wp2_with fail
  refine (S.out _ (HT.out.below c2)).mono ?_
  rintro e w' ⟨rfl, rfl⟩
  go_wp2_with fail
  refine (SM.out _ _ _ (R.out.step c2) Y2).mono ?_
  rintro e w3 ⟨rfl, d3⟩
  have c3 := c2.trans (d3.mono c2.size)
  clear c1 c2 d3 Y2
  go_wp2
  go_ret
  exact ⟨by simp [go_sem], c3⟩

set_option maxHeartbeats 1000000 in
set_option maxRecDepth 100000 in
theorem walk_in (A : Option Addr) (ca n : Nat) (xs : List Nat) (k d : Nat) (hl : n ≤ 32) (hk : k ≤ 10) (hd : d ≤ 1) (hn : n = 2 ^ k) (hx : xs.length = n) (hA : A = none → ca = 0) (w : World) (hT : Ft.Tab w) (R : Ws w w.heap.size A xs) :
    Calls Tryd.prog 4 #[.slice A n ca, .int .i64 (d : Int)] w fun e w' => e = .returned (.bool true) ∧ Below w.heap.size w w' := by
  have h2 : ¬ 32 < (n : Int) := by omega
  have HXE := Lib.hid (show Value.slice A n ca = Value.slice A xs.length ca by rw [hx])
  have HX := Lib.hid hx
  have HA := Lib.hid hA
  have RL := Lib.hid R.lt
  have R := Lib.hid R
  have HT := Lib.hid hT
  have K := Lib.hid (fun W => fits_doc n k (by omega) hn W)
  have S := Lib.hid (fun W T R => transform A n ca k d xs (by omega) hd hn hx W T R)
  have SM := Lib.hid (fun (B : Option Addr) cb W Ra Rb => Sm.same A B n n ca cb xs hx.symm hx.symm (by omega) W Ra Rb)
  have DD : d = 0 ∨ d = 1 := by omega
  obtain ⟨d2, hd2⟩ : ∃ d2 : Nat, d2 = 1 - d := ⟨_, rfl⟩
  have S2 := Lib.hid (fun (A1 : Option Addr) c1 W T R => transform A1 n c1 k d2 (rg (ft k d (Pn.pl xs)) n) (by omega) (by omega) hn (rg_len _ _) W T R)
  have BK := Lib.hid (fun i (hi : i < n) => back_eq k d n d2 (by omega) hd hd2 hn (Pn.pl xs) i hi)
  have G1 := Lib.hid (ft_lt k d (Pn.pl xs))
  have G2 := Lib.hid (ft_lt k d2 (Pn.pl (rg (ft k d (Pn.pl xs)) n)))
  have TR := Lib.hid (fun W R => rtransform A ca n k d xs hx (by omega) (by omega) hd hn W R)
  have CN := Lib.hid (fun W R => rcanon A ca n xs hx (by omega) W R)
  generalize ft k d2 (Pn.pl (rg (ft k d (Pn.pl xs)) n)) = g2 at *
  generalize ft k d (Pn.pl xs) = g1 at *
  obtain ⟨g3, hg3⟩ : ∃ g : Nat → Nat, g = fun i => Pn.pl xs i % 18446744069414584321 := ⟨_, rfl⟩
  rw [← hg3] at CN
  have E3 := Lib.hid (show ∀ i, i < n → g2 i = g3 i by rw [hg3]; exact BK.out)
  have SG := Lib.hid (fun (g h : Nat → Nat) (e : ∀ i, i < n → g i = h i) (A B : Option Addr) (ca cb : Nat) W Ra Rb => same_rg (n := n) e (by omega) A B ca cb W Ra Rb)
  clear hd hn hx hk hl BK hg3 hA hT
  rcases DD with rfl | rfl
  · obtain rfl : d2 = 1 := by omega
    clear hd2
    go_enter Tryd.func4, Tryd.ntmps4
    go_wp2_with fail
    refine (Kn.awake _ HT.out).mono ?_
    rintro e w1 ⟨rfl, c1⟩
    have O2 := Lib.hid (Ow.fresh w1 w1.heap.size (Nat.le_refl _))
    have RA2 := Lib.hid ((R.out.step c1).alloc (Nat.le_refl _) (.cells #[] 27))
    have BA2 := Lib.hid (below_alloc w1 (.cells #[] 27))
    go_wp2_with (at_builtin; (refine append_all (w1.alloc (.cells #[] 27)) ?hgd (.tmp 16) (.tmp 17) ?ho w1.heap.size (.slice (some ⟨w1.heap.size, 0, none⟩) 0 0) [] ?hs O2.out w1.heap.size A ca xs ?hx RA2.out HA.out ?c1 ?c2 (fun v2 w2 OO hg => ?_)); (case hgd => rfl); (case ho => rfl); (case hs => rfl); (case hx => exact HXE.out))
    case c1 => have := HX.out; simp only [List.length_nil]; omega
    case c2 => simp
    obtain ⟨A2, k2, rfl, Y2, d2⟩ := copied HX.out RL.out O2.out BA2.out OO hg
    have c2 := c1.trans (d2.mono c1.size)
    clear O2 RA2 BA2 OO hg d2
    go_wp2_with fail
    refine (K.out _).mono ?_
    rintro e w' ⟨rfl, rfl⟩
    go_wp2_with fail
    refine (S.out _ (HT.out.below c2) (R.out.step c2)).mono ?_
    rintro e w3 ⟨b3, k3, rfl, _, _, hb3, K3, d3⟩
    have Y3 := wk_ws K3 G1.out hb3
    have c3 := c2.trans (d3.mono c2.size)
    have Z3 := Y2.step d3
    clear c1 c2 d3 Y2 K3 hb3
    go_wp2_with fail
    refine (SM.out _ _ _ (R.out.step c3) Z3).mono ?_
    rintro e w4 ⟨rfl, d4⟩
    have c4 := c3.trans (d4.mono c3.size)
    have Y4 := Y3.step d4
    clear c3 d4 Y3 Z3
    go_wp2_with fail
    refine (S2.out _ _ _ (HT.out.below c4) Y4).mono ?_
    rintro e w5 ⟨b5, k5, rfl, _, _, hb5, K5, d5⟩
    have Z5 := wk_ws K5 G2.out hb5
    have c5 := c4.trans (d5.mono c4.size)
    have Y5 := Y4.step d5
    clear c4 d5 Y4 K5 hb5
    go_wp2_with fail
    refine (TR.out _ (R.out.step c5)).mono ?_
    rintro e w6 ⟨A6, k6, rfl, V6, d6⟩
    have c6 := c5.trans (d6.mono c5.size)
    have Y6 := Y5.step d6
    have Z6 := Z5.step d6
    clear c5 d6 Y5 Z5
    go_wp2_with fail
    refine (SG.out _ _ (fun _ _ => rfl) _ _ _ _ _ Y6 V6).mono ?_
    rintro e w7 ⟨rfl, d7⟩
    have c7 := c6.trans (d7.mono c6.size)
    have Z7 := Z6.step d7
    clear c6 d7 Y6 Z6 V6
    go_wp2_with fail
    refine (CN.out _ (R.out.step c7)).mono ?_
    rintro e w8 ⟨A8, k8, rfl, V8, d8⟩
    have c8 := c7.trans (d8.mono c7.size)
    have Z8 := Z7.step d8
    clear c7 d8 Z7
    go_wp2_with fail
    refine (SG.out _ _ E3.out _ _ _ _ _ Z8 V8).mono ?_
    rintro e w9 ⟨rfl, d9⟩
    have c9 := c8.trans (d9.mono c8.size)
    clear c8 d9 Z8 V8
    go_wp2
    go_ret
    exact ⟨by simp [go_sem], c9⟩
  · obtain rfl : d2 = 0 := by omega
    clear hd2
    go_enter Tryd.func4, Tryd.ntmps4
    go_wp2_with fail
    refine (Kn.awake _ HT.out).mono ?_
    rintro e w1 ⟨rfl, c1⟩
    have O2 := Lib.hid (Ow.fresh w1 w1.heap.size (Nat.le_refl _))
    have RA2 := Lib.hid ((R.out.step c1).alloc (Nat.le_refl _) (.cells #[] 27))
    have BA2 := Lib.hid (below_alloc w1 (.cells #[] 27))
    go_wp2_with (at_builtin; (refine append_all (w1.alloc (.cells #[] 27)) ?hgd (.tmp 16) (.tmp 17) ?ho w1.heap.size (.slice (some ⟨w1.heap.size, 0, none⟩) 0 0) [] ?hs O2.out w1.heap.size A ca xs ?hx RA2.out HA.out ?c1 ?c2 (fun v2 w2 OO hg => ?_)); (case hgd => rfl); (case ho => rfl); (case hs => rfl); (case hx => exact HXE.out))
    case c1 => have := HX.out; simp only [List.length_nil]; omega
    case c2 => simp
    obtain ⟨A2, k2, rfl, Y2, d2⟩ := copied HX.out RL.out O2.out BA2.out OO hg
    have c2 := c1.trans (d2.mono c1.size)
    clear O2 RA2 BA2 OO hg d2
    go_wp2_with fail
    refine (K.out _).mono ?_
    rintro e w' ⟨rfl, rfl⟩
    go_wp2_with fail
    refine (S.out _ (HT.out.below c2) (R.out.step c2)).mono ?_
    rintro e w3 ⟨b3, k3, rfl, _, _, hb3, K3, d3⟩
    have Y3 := wk_ws K3 G1.out hb3
    have c3 := c2.trans (d3.mono c2.size)
    have Z3 := Y2.step d3
    clear c1 c2 d3 Y2 K3 hb3
    go_wp2_with fail
    refine (SM.out _ _ _ (R.out.step c3) Z3).mono ?_
    rintro e w4 ⟨rfl, d4⟩
    have c4 := c3.trans (d4.mono c3.size)
    have Y4 := Y3.step d4
    clear c3 d4 Y3 Z3
    go_wp2_with fail
    refine (S2.out _ _ _ (HT.out.below c4) Y4).mono ?_
    rintro e w5 ⟨b5, k5, rfl, _, _, hb5, K5, d5⟩
    have Z5 := wk_ws K5 G2.out hb5
    have c5 := c4.trans (d5.mono c4.size)
    have Y5 := Y4.step d5
    clear c4 d5 Y4 K5 hb5
    go_wp2_with fail
    refine (TR.out _ (R.out.step c5)).mono ?_
    rintro e w6 ⟨A6, k6, rfl, V6, d6⟩
    have c6 := c5.trans (d6.mono c5.size)
    have Y6 := Y5.step d6
    have Z6 := Z5.step d6
    clear c5 d6 Y5 Z5
    go_wp2_with fail
    refine (SG.out _ _ (fun _ _ => rfl) _ _ _ _ _ Y6 V6).mono ?_
    rintro e w7 ⟨rfl, d7⟩
    have c7 := c6.trans (d7.mono c6.size)
    have Z7 := Z6.step d7
    clear c6 d7 Y6 Z6 V6
    go_wp2_with fail
    refine (CN.out _ (R.out.step c7)).mono ?_
    rintro e w8 ⟨A8, k8, rfl, V8, d8⟩
    have c8 := c7.trans (d8.mono c7.size)
    have Z8 := Z7.step d8
    clear c7 d8 Z7
    go_wp2_with fail
    refine (SG.out _ _ E3.out _ _ _ _ _ Z8 V8).mono ?_
    rintro e w9 ⟨rfl, d9⟩
    have c9 := c8.trans (d9.mono c8.size)
    clear c8 d9 Z8 V8
    go_wp2
    go_ret
    exact ⟨by simp [go_sem], c9⟩

theorem walk (A : Option Addr) (ca n : Nat) (xs : List Nat) (d : Int) (hx : xs.length = n) (hA : A = none → ca = 0) (w : World) (hT : Ft.Tab w) (R : Ws w w.heap.size A xs) :
    Calls Tryd.prog 4 #[.slice A n ca, .int .i64 d] w fun e w' => e = .returned (.bool true) ∧ Below w.heap.size w w' := by
  by_cases hl : 32 < n
  · exact walk_long A ca n d hl w hT
  by_cases h : ∃ j : Nat, j ≤ 32 ∧ (n : Int) = ((2 ^ j : Nat) : Int)
  · obtain ⟨k, hk, e⟩ := h
    have hn : n = 2 ^ k := by omega
    have hk5 : k ≤ 10 := Nat.le_of_not_lt fun c => by
      have := Nat.pow_le_pow_right (n := 2) (by decide) c
      have e11 : 2 ^ Nat.succ 10 = 2048 := by decide
      omega
    by_cases hd : d ≠ 0 ∧ d ≠ 1
    · exact walk_kind A ca n xs k d (by omega) hk hn hd.1 hd.2 hx hA w hT R
    · obtain ⟨dn, rfl⟩ := Int.eq_ofNat_of_zero_le (show 0 ≤ d by omega)
      exact walk_in A ca n xs k dn (by omega) hk5 (by omega) hn hx hA w hT R
  · exact walk_none A ca n xs d (by omega) (fun j hj e => h ⟨j, hj, e⟩) hx hA w hT R

theorem g32 : Tryd.prog.globalNamed "math/bits.deBruijn32tab" = some 0 := by kernel_rfl
theorem g64 : Tryd.prog.globalNamed "math/bits.deBruijn64tab" = some 1 := by kernel_rfl
theorem t64 : (Tryd.prog.globals[1]?).map (·.type) = some 81 := by kernel_rfl
/-- What the row's condition gives the walk: the table's cells. -/
theorem of_laid {W : World} (h : laidMetH Tryd.prog Rows.halvesBackRow.laid W) : Ft.Tab W := by
  rw [MakeChecks.laidMetH_plain _ _ _ (by kernel_rfl)] at h
  obtain ⟨ps, ⟨g0, t0, cs0, f0, p0, q0, hg0, ht0, hv0, hd0, ⟨g1, t1, cs1, f1, p1, q1, hg1, ht1, hv1, hd1, _, _⟩, _⟩, _, _⟩ := h
  obtain rfl := Option.some.inj (g64.symm.trans hg1)
  obtain rfl := Option.some.inj (t64.symm.trans ht1)
  have hd2 : DataW.trod _ Tryd.prog W 0 _ false f1 81 cs1.toList = some (Lib.tabData .u8 (Lib.deBruijn64tab.map Int.ofNat), p1) := hd1
  have hc := Lib.cells_of_tab Tryd.underlying81 Tryd.underlying5 (by kernel_rfl) (by kernel_rfl) hd2
  intro i hi
  have c := World.var?_cell hg1 hv1 i
  rw [c, ← Array.getElem?_toList, hc]
  have hl : Lib.deBruijn64tab.length = 64 := by decide
  simp [List.getD, hl, hi]

/-- The door's own heap meets the condition. -/
theorem door_met (os : Os) (args : Array Value) : laidMetH Tryd.prog Rows.halvesBackRow.laid ((World.doorLaid Tryd.prog 400 os).forCall (fun _ _ => 0) ⟨#[], args, []⟩).memory :=
  laidMetH_of_parts3 (fuel := 8) (laidMet_of_run' 8 (by kernel_rfl) (by kernel_rfl)) (by kernel_rfl) (by kernel_rfl)
set_option maxRecDepth 100000 in
theorem lifted (os : Os) (started : os.Started) (H : Type) (enc : TypeId × Value → H) :
    ReturnsInHanded {} Tryd.checked os 4 .any (fun w args => (Rows.halvesBackSpec.pre enc Tryd.prog Tryd.f4 [] false w args ∧ laidMetH Tryd.prog Rows.halvesBackRow.laid w) ∧ sizedMet enc Tryd.prog Tryd.f4 (OpenSpec.ofChange Rows.halvesBackSpec) false w args)
      (Rows.halvesBackSpec.post enc Tryd.prog Tryd.f4 false true false false) := by
  refine returnsInHanded_of_change_and (C := Tryd.checked) (X := fun w _ => laidMetH Tryd.prog Rows.halvesBackRow.laid w) (fun _ _ _ hh h => h.of_heap hh) Fr.own started (by kernel_rfl) Tryd.func4
    (ChangeSpec.witness_shaped (enc := enc) (C := Tryd.checked) (os := os) (X := fun w _ => laidMetH Tryd.prog Rows.halvesBackRow.laid w) false (World.doorLaid Tryd.prog 400 os) #[.slice none 0 0, .int .i64 0] 8 rfl (World.shaped_of_RefB (by kernel_rfl) (by kernel_rfl)) (by kernel_rfl) (by kernel_rfl) (by kernel_rfl) (door_met os _)) ?_
  intro W base args ds gs before hval0 hW _ _ hL _
  have hval : ∀ (j : Nat) t v, Tryd.f4.params[j]? = some t → args[j]? = some v → Value.okWide Tryd.prog W .any base t v := hval0
  have hW' := hW
  obtain ⟨p, q, hA0, hV, rfl, hfz, hnd⟩ := hW
  have hA : DataW.TrodAll enc Tryd.prog W 0 (fun _ => true) true Tryd.f4.params.toList args.toList ds p := hA0
  obtain ⟨rfl, rfl⟩ := trodVars_none hV
  rw [Tryd.params4] at hA hval
  obtain ⟨v0, vs0, d0, ds0, p0, q0, hargs, rfl, rfl, h0, r0⟩ := trodAll_cons hA
  obtain ⟨v1, vs1, d1, ds1, p1, q1, rfl, rfl, rfl, h1, r1⟩ := trodAll_cons r0
  obtain ⟨rfl, rfl, rfl⟩ := trodAll_nil r1
  obtain rfl : args = #[v0, v1] := by cases args; simp_all
  obtain ⟨A0, n0, c0, rfl⟩ := okWide_slice Tryd.underlying22 (hval 0 22 v0 rfl rfl)
  obtain ⟨fuel0, hf0⟩ := h0
  obtain ⟨xs0, rfl, lc0, lm0, R0⟩ := Ww.open_words hf0
  obtain ⟨x1, rfl, rfl, rfl, w1⟩ := open_int Tryd.underlying3 (hval 1 3 v1 rfl rfl) h1
  have b1 : -9223372036854775808 ≤ x1 ∧ x1 ≤ 9223372036854775807 := by simpa [Lit.wf, IntKind.min, IntKind.max, IntKind.signed, IntKind.bits] using w1
  simp only [List.append_nil] at hW' hA0
  refine (walk A0 c0 xs0.length xs0 x1 rfl (nil_cap hf0) W (of_laid hL) R0).mono fun e W' ⟨he, hb⟩ => ?_
  subst he
  exact ⟨_, rfl, Fr.law_post (tb := 4) hW' hA0 rfl rfl rfl Tryd.underlying4 (by rw [Tryd.params4]; intro t ht; simp at ht; rcases ht with rfl | rfl; all_goals exact ⟨by kernel_rfl, of_decide_eq_true (by kernel_rfl)⟩) hb⟩

theorem row_holds : Rows.HalvesBackSaid :=
  OpenClaim.holds_of_wide 4 Tryd.f4 rfl rfl rfl rfl rfl rfl rfl ⟨rfl, rfl, rfl, rfl, rfl⟩ rfl rfl rfl rfl rfl (by kernel_rfl) Tryd.func4 (by kernel_rfl)
    (of_decide_eq_true (by kernel_rfl)) (by unfold Func.isWrapper; first | (rw [if_pos (by decide +kernel)]; kernel_rfl) | (rw [if_neg (by decide +kernel)]; exact ⟨rfl, rfl⟩))
    (fun os started H enc _ => lifted os started H enc)

theorem proved : Rows.HalvesBackCardSaid :=
  Claim7.holds_tied_plain_at .later [] [.data, .data] true Rows.halvesBackCard.stood.harness false
    row_holds (fun _ h => by cases h) (by kernel_rfl) (fun _ h => by cases h) halvesBack_row_tie rfl ⟨rfl, rfl⟩ (by kernel_rfl) rfl
    (fun f fn hf hfn => by
      obtain rfl : f = 4 := Option.some.inj ((show Tryd.prog.funcNamed "abacist/abacistlaw09.HalvesBack" = some 4 by kernel_rfl).symm.trans hf) |>.symm
      obtain rfl : fn = Tryd.f4 := (Option.some.inj (Tryd.func4.symm.trans hfn)).symm
      exact ⟨by kernel_rfl, fun j t ht => by
        rw [Tryd.params4] at ht
        have hm : t ∈ [22, 3] := by simpa using Array.mem_of_getElem? ht
        have hall : ([22, 3].all fun u => !Tryd.prog.wantsStandIn u) = true := by kernel_rfl
        exact (show Tryd.prog.wantsStandIn t = false by simpa using List.all_eq_true.1 hall t hm)⟩)
    (by kernel_rfl)
end Go.Proofs.YtkgclgjlohofbaaDoor.halvesBack
