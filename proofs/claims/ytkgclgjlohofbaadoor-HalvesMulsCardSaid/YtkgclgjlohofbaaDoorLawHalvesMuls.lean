/- HalvesMuls: of any two rows the law of products answers true, and changes nothing, where the library's two tables are as their initialisers lay them (the card ties them to the program's text). -/
import Derived.Test.YtkgclgjlohofbaaDoorFrame
import Derived.Test.YtkgclgjlohofbaaDoorKernH
import Derived.Test.YtkgclgjlohofbaaDoorTie
import Derived.Test.YtkgclgjlohofbaaDoorCards
import Derived.Lib.LaidTab
import Derived.LaidMore
import Derived.Stop.Joined
import Derived.SevenTiedAt
set_option linter.unusedVariables false
namespace Go.Proofs.YtkgclgjlohofbaaDoor.halvesMuls
open Go.ChangeShapes Go.WideShapes Go.ChangeAt Go.RowKit
open Kn Td Tn Ww Pl

set_option maxHeartbeats 1000000 in
set_option maxRecDepth 100000 in
theorem walk_x (A B : Option Addr) (ca cb n m : Nat) (hl : 16 < n) (w : World) (hT : Ft.Tab w) :
    Calls Tryd.prog 6 #[.slice A n ca, .slice B m cb] w fun e w' => e = .returned (.bool true) ∧ Below w.heap.size w w' := by
  have h1 : 16 < (n : Int) := by omega
  go_enter Tryd.func6, Tryd.ntmps6
  go_wp2_with fail
  refine (Kn.awake _ hT).mono ?_
  rintro e w1 ⟨rfl, c1⟩
  go_wp2
  go_ret
  exact ⟨by simp [go_sem], c1⟩

set_option maxHeartbeats 1000000 in
set_option maxRecDepth 100000 in
theorem walk_y (A B : Option Addr) (ca cb n m : Nat) (hl : ¬ 16 < n ∧ 16 < m) (w : World) (hT : Ft.Tab w) :
    Calls Tryd.prog 6 #[.slice A n ca, .slice B m cb] w fun e w' => e = .returned (.bool true) ∧ Below w.heap.size w w' := by
  have h1 : ¬ 16 < (n : Int) := by omega
  have h2 : 16 < (m : Int) := by omega
  go_enter Tryd.func6, Tryd.ntmps6
  go_wp2_with fail
  refine (Kn.awake _ hT).mono ?_
  rintro e w1 ⟨rfl, c1⟩
  go_wp2
  go_ret
  exact ⟨by simp [go_sem], c1⟩

/-- What the loop keeps: three rows of its own. -/
structure LI (w wr : World) (bx by_ bz : Nat) (gx gy gz : Nat → Nat) : Prop where
  x : Wk wr bx 0 32 gx
  y : Wk wr by_ 0 32 gy
  z : Wk wr bz 0 32 gz
  b : Below w.heap.size w wr
theorem LI.drewN {w wr : World} {bx by_ bz : Nat} {gx gy gz : Nat → Nat} (h : LI w wr bx by_ bz gx gy gz) (k : Nat) : LI w (wr.drewN k) bx by_ bz gx gy gz := ⟨h.x.drewN k, h.y.drewN k, h.z.drewN k, below_drewN h.b k⟩
set_option maxHeartbeats 1000000 in
set_option maxRecDepth 100000 in
theorem walk_in (A B : Option Addr) (ca cb n m k : Nat) (xs ys : List Nat) (hx : xs.length = n) (hy : ys.length = m) (hn : n ≤ 16) (hm : m ≤ 16) (hk : k = 5) (w : World) (hT : Ft.Tab w) (R : Ws w w.heap.size A xs) (S : Ws w w.heap.size B ys) :
    Calls Tryd.prog 6 #[.slice A n ca, .slice B m cb] w fun e w' => e = .returned (.bool true) ∧ Below w.heap.size w w' := by
  have h1 : ¬ 16 < (n : Int) := by omega
  have h2 : ¬ 16 < (m : Int) := by omega
  have h32 : 32 = 2 ^ k := by rw [hk]
  have QM := fun W R1 R2 => rmul A B ca cb xs ys (by omega) (by omega) W R1 R2
  rw [hx, hy] at QM
  have QM := Lib.hid QM
  have X64 := Lib.hid (fun i => pl64 R i)
  have Y64 := Lib.hid (fun i => pl64 S i)
  have PX := Lib.hid (fun W R => pad A ca n 32 xs hx (by omega) rfl W R)
  have PY := Lib.hid (fun W R => pad B cb m 32 ys hy (by omega) rfl W R)
  have TF := Lib.hid (fun (b c : Nat) (g : Nat → Nat) W T R => show Calls Tryd.prog 17 #[.slice (some ⟨b, 0, none⟩) 32 c, .int .i64 0] W (RwF (ft k 0 g) 32 W) from transform_rg _ 32 c k 0 g (by omega) (by decide) h32 W T R)
  have GY := Lib.hid (ft_lt k 0 (Pn.pl ys))
  have PR := Lib.hid (fun zs (hz : zs.length ≤ 32) h j => ft_product k j xs ys zs (by omega) (by omega) (by omega) h)
  have ZL := Lib.hid (fun zs (hz : Pn.Nf 18446744069414584321 zs) (hc : ∀ i, Pn.pl zs i = Pn.conv (Pn.pl xs) (Pn.pl ys) i % 18446744069414584321) => hz.short 32 fun i hi => by rw [hc i, Pn.conv_far xs ys i (by omega), Nat.zero_mod])
  have R := Lib.hid R
  have S := Lib.hid S
  have HT := Lib.hid hT
  clear hx hy hn hm hk h32 hT
  go_enter Tryd.func6, Tryd.ntmps6
  go_wp2_with fail
  refine (Kn.awake _ HT.out).mono ?_
  rintro e w1 ⟨rfl, c1⟩
  go_wp2_with fail
  refine (QM.out _ (R.out.step c1) (S.out.step c1)).mono ?_
  rintro e w2 ⟨zs, Az, kz, nf, hc, rfl, Z2, d2⟩
  have c2 := c1.trans (d2.mono c1.size)
  have hz := ZL.out zs nf hc
  have PZ := Lib.hid (PR.out zs hz hc)
  have PD := Lib.hid (fun W R => pad Az kz zs.length 32 zs rfl hz rfl W R)
  have Z64 := Lib.hid (fun i => pl64 Z2 i)
  clear c1 d2 nf hc hz PR ZL QM
  generalize zs.length = nz at *
  go_wp2_with fail
  refine (PX.out _ (R.out.step c2)).mono ?_
  rintro e w3 ⟨b3, rfl, _, hb3, K3, d3⟩
  have X3 := K3.ws (fun i _ => X64.out i) hb3
  have c3 := c2.trans (d3.mono c2.size)
  have Z3 := Z2.step d3
  clear c2 d3 Z2 K3 hb3
  go_wp2_with fail
  refine (PY.out _ (S.out.step c3)).mono ?_
  rintro e w4 ⟨b4, rfl, _, hb4, K4, d4⟩
  have Y4 := K4.ws (fun i _ => Y64.out i) hb4
  have c4 := c3.trans (d4.mono c3.size)
  have Z4 := Z3.step d4
  have X4 := X3.step d4
  clear c3 d4 Z3 X3 K4 hb4
  go_wp2_with fail
  refine (PD.out _ Z4).mono ?_
  rintro e w5 ⟨b5, rfl, _, hb5, K5, d5⟩
  have Z5 := K5.ws (fun i _ => Z64.out i) hb5
  have c5 := c4.trans (d5.mono c4.size)
  have X5 := X4.step d5
  have Y5 := Y4.step d5
  clear c4 d5 Z4 X4 Y4 K5 hb5
  have TX := Lib.hid (TF.out b3 32 (Pn.pl xs))
  have TY := Lib.hid (TF.out b4 32 (Pn.pl ys))
  have TZ := Lib.hid (TF.out b5 32 (Pn.pl zs))
  generalize ft k 0 (Pn.pl xs) = gx at *
  generalize ft k 0 (Pn.pl ys) = gy at *
  generalize ft k 0 (Pn.pl zs) = gz at *
  go_wp2_with fail
  refine (TX.out _ (HT.out.below c5) X5).mono ?_
  rintro e w6 ⟨b6, k6, rfl, _, _, hb6, K6, d6⟩
  have c6 := c5.trans (d6.mono c5.size)
  have Y6 := Y5.step d6
  have Z6 := Z5.step d6
  clear c5 d6 X5 Y5 Z5
  go_wp2_with fail
  refine (TY.out _ (HT.out.below c6) Y6).mono ?_
  rintro e w7 ⟨b7, k7, rfl, _, _, hb7, K7, d7⟩
  have c7 := c6.trans (d7.mono c6.size)
  have Z7 := Z6.step d7
  have U7 := K6.step d7
  clear c6 d7 Y6 Z6 K6 hb6
  go_wp2_with fail
  refine (TZ.out _ (HT.out.below c7) Z7).mono ?_
  rintro e w8 ⟨b8, k8, rfl, _, _, hb8, K8, d8⟩
  have ST := Lib.hid (show LI w w8 b6 b7 b8 gx gy gz from ⟨U7.step d8, K7.step d8, K8, c7.trans (d8.mono c7.size)⟩)
  clear c7 d8 Z7 U7 K7 K8 hb7 hb8 TX TY TZ TF PX PY PD X64 Y64 Z64 R S HT
  go_wp2_with fail
  go_loopw [15] (fun v15 wr => ∃ i : Nat, v15 = .int .i64 (i : Int) ∧ i ≤ 32 ∧ LI w wr b6 b7 b8 gx gy gz) (fun v15 _ => 32 - (Lib.intOf v15).toNat)
  case atStart => exact ⟨0, rfl, Nat.zero_le _, ST.out⟩
  case round =>
    obtain ⟨i, rfl, hi, L⟩ := hrel
    clear ST
    by_cases hlt : i < 32
    · have i1 : (i : Int) < 32 := by omega
      have x0 := L.x.c i hlt
      have y0 := L.y.c i hlt
      have z0 := L.z.c i hlt
      rw [Nat.zero_add] at x0 y0 z0
      have e := PZ.out i
      have M := Lib.hid (fun W => Gr.mul (gx i) (gy i) (by have := GY.out i; omega) W)
      rw [← e] at M
      clear e
      generalize gx i = a at *
      generalize gy i = b at *
      generalize gz i = c at *
      have L1 := Lib.hid L
      clear L
      go_wp2_with fail
      go_quiet ((go_at_call 20; exact qs (M.out _)))
      have L2 := L1.out.drewN nq
      clear L1
      go_wp2_with fail
      go_roundw
      case rel => exact ⟨i + 1, rfl, by omega, L2⟩
      case measure => simp [Lib.intOf]; omega
    · have i1 : ¬ (i : Int) < 32 := by omega
      have cf := L.b
      clear L
      go_wp2
      go_ret
      exact ⟨by simp [go_sem], cf⟩

theorem walk (A B : Option Addr) (ca cb n m : Nat) (xs ys : List Nat) (hx : xs.length = n) (hy : ys.length = m) (w : World) (hT : Ft.Tab w) (R : Ws w w.heap.size A xs) (S : Ws w w.heap.size B ys) :
    Calls Tryd.prog 6 #[.slice A n ca, .slice B m cb] w fun e w' => e = .returned (.bool true) ∧ Below w.heap.size w w' := by
  by_cases h1 : 16 < n
  · exact walk_x A B ca cb n m h1 w hT
  by_cases h2 : 16 < m
  · exact walk_y A B ca cb n m ⟨h1, h2⟩ w hT
  · exact walk_in A B ca cb n m 5 xs ys hx hy (by omega) (by omega) rfl w hT R S

theorem g32 : Tryd.prog.globalNamed "math/bits.deBruijn32tab" = some 0 := by kernel_rfl
theorem g64 : Tryd.prog.globalNamed "math/bits.deBruijn64tab" = some 1 := by kernel_rfl
theorem t64 : (Tryd.prog.globals[1]?).map (·.type) = some 81 := by kernel_rfl
/-- What the row's condition gives the walk: the table's cells. -/
theorem of_laid {W : World} (h : laidMetH Tryd.prog Rows.halvesMulsRow.laid W) : Ft.Tab W := by
  rw [MakeChecks.laidMetH_plain _ _ _ (by kernel_rfl)] at h
  obtain ⟨ps, ⟨g0, t0, cs0, f0, p0, q0, hg0, ht0, hv0, hd0, ⟨g1, t1, cs1, f1, p1, q1, hg1, ht1, hv1, hd1, _, _⟩, _⟩, _, _⟩ := h
  obtain rfl := Option.some.inj (g64.symm.trans hg1)
  obtain rfl := Option.some.inj (t64.symm.trans ht1)
  have hd2 : DataW.trod _ Tryd.prog W 0 _ false f1 81 cs1.toList = some (Lib.tabData .u8 (Lib.deBruijn64tab.map Int.ofNat), p1) := hd1
  have hc := Lib.cells_of_tab Tryd.underlying81 Tryd.underlying5 (by kernel_rfl) (by kernel_rfl) hd2
  intro i hi
  have c := World.var?_cell hg1 hv1 i
  rw [c, ← Array.getElem?_toList, hc]
  have hl : Lib.deBruijn64tab.length = 64 := by decide
  simp [List.getD, hl, hi]

/-- The door's own heap meets the condition. -/
theorem door_met (os : Os) (args : Array Value) : laidMetH Tryd.prog Rows.halvesMulsRow.laid ((World.doorLaid Tryd.prog 400 os).forCall (fun _ _ => 0) ⟨#[], args, []⟩).memory :=
  laidMetH_of_parts3 (fuel := 8) (laidMet_of_run' 8 (by kernel_rfl) (by kernel_rfl)) (by kernel_rfl) (by kernel_rfl)
set_option maxRecDepth 100000 in
theorem lifted (os : Os) (started : os.Started) (H : Type) (enc : TypeId × Value → H) :
    ReturnsInHanded {} Tryd.checked os 6 .any (fun w args => (Rows.halvesMulsSpec.pre enc Tryd.prog Tryd.f6 [] false w args ∧ laidMetH Tryd.prog Rows.halvesMulsRow.laid w) ∧ sizedMet enc Tryd.prog Tryd.f6 (OpenSpec.ofChange Rows.halvesMulsSpec) false w args)
      (Rows.halvesMulsSpec.post enc Tryd.prog Tryd.f6 false true false false) := by
  refine returnsInHanded_of_change_and (C := Tryd.checked) (X := fun w _ => laidMetH Tryd.prog Rows.halvesMulsRow.laid w) (fun _ _ _ hh h => h.of_heap hh) Fr.own started (by kernel_rfl) Tryd.func6
    (ChangeSpec.witness_shaped (enc := enc) (C := Tryd.checked) (os := os) (X := fun w _ => laidMetH Tryd.prog Rows.halvesMulsRow.laid w) false (World.doorLaid Tryd.prog 400 os) #[.slice none 0 0, .slice none 0 0] 8 rfl (World.shaped_of_RefB (by kernel_rfl) (by kernel_rfl)) (by kernel_rfl) (by kernel_rfl) (by kernel_rfl) (door_met os _)) ?_
  intro W base args ds gs before hval0 hW _ _ hL _
  have hval : ∀ (j : Nat) t v, Tryd.f6.params[j]? = some t → args[j]? = some v → Value.okWide Tryd.prog W .any base t v := hval0
  have hW' := hW
  obtain ⟨p, q, hA0, hV, rfl, hfz, hnd⟩ := hW
  have hA : DataW.TrodAll enc Tryd.prog W 0 (fun _ => true) true Tryd.f6.params.toList args.toList ds p := hA0
  obtain ⟨rfl, rfl⟩ := trodVars_none hV
  rw [Tryd.params6] at hA hval
  obtain ⟨v0, vs0, d0, ds0, p0, q0, hargs, rfl, rfl, h0, r0⟩ := trodAll_cons hA
  obtain ⟨v1, vs1, d1, ds1, p1, q1, rfl, rfl, rfl, h1, r1⟩ := trodAll_cons r0
  obtain ⟨rfl, rfl, rfl⟩ := trodAll_nil r1
  obtain rfl : args = #[v0, v1] := by cases args; simp_all
  obtain ⟨A0, n0, c0, rfl⟩ := okWide_slice Tryd.underlying22 (hval 0 22 v0 rfl rfl)
  obtain ⟨fuel0, hf0⟩ := h0
  obtain ⟨xs0, rfl, lc0, lm0, R0⟩ := Ww.open_words hf0
  obtain ⟨A1, n1, c1, rfl⟩ := okWide_slice Tryd.underlying22 (hval 1 22 v1 rfl rfl)
  obtain ⟨fuel1, hf1⟩ := h1
  obtain ⟨xs1, rfl, lc1, lm1, R1⟩ := Ww.open_words hf1
  simp only [List.append_nil] at hW' hA0
  refine (walk A0 A1 c0 c1 xs0.length xs1.length xs0 xs1 rfl rfl W (of_laid hL) R0 R1).mono fun e W' ⟨he, hb⟩ => ?_
  subst he
  exact ⟨_, rfl, Fr.law_post (tb := 4) hW' hA0 rfl rfl rfl Tryd.underlying4 (by rw [Tryd.params6]; intro t ht; simp at ht; rcases ht with rfl | rfl; all_goals exact ⟨by kernel_rfl, of_decide_eq_true (by kernel_rfl)⟩) hb⟩

theorem row_holds : Rows.HalvesMulsSaid :=
  OpenClaim.holds_of_wide 6 Tryd.f6 rfl rfl rfl rfl rfl rfl rfl ⟨rfl, rfl, rfl, rfl, rfl⟩ rfl rfl rfl rfl rfl (by kernel_rfl) Tryd.func6 (by kernel_rfl)
    (of_decide_eq_true (by kernel_rfl)) (by unfold Func.isWrapper; first | (rw [if_pos (by decide +kernel)]; kernel_rfl) | (rw [if_neg (by decide +kernel)]; exact ⟨rfl, rfl⟩))
    (fun os started H enc _ => lifted os started H enc)

theorem proved : Rows.HalvesMulsCardSaid :=
  Claim7.holds_tied_plain_at .later [] [.data, .data] true Rows.halvesMulsCard.stood.harness false
    row_holds (fun _ h => by cases h) (by kernel_rfl) (fun _ h => by cases h) halvesMuls_row_tie rfl ⟨rfl, rfl⟩ (by kernel_rfl) rfl
    (fun f fn hf hfn => by
      obtain rfl : f = 6 := Option.some.inj ((show Tryd.prog.funcNamed "abacist/abacistlaw09.HalvesMuls" = some 6 by kernel_rfl).symm.trans hf) |>.symm
      obtain rfl : fn = Tryd.f6 := (Option.some.inj (Tryd.func6.symm.trans hfn)).symm
      exact ⟨by kernel_rfl, fun j t ht => by
        rw [Tryd.params6] at ht
        have hm : t ∈ [22] := by simpa using Array.mem_of_getElem? ht
        have hall : ([22].all fun u => !Tryd.prog.wantsStandIn u) = true := by kernel_rfl
        exact (show Tryd.prog.wantsStandIn t = false by simpa using List.all_eq_true.1 hall t hm)⟩)
    (by kernel_rfl)
end Go.Proofs.YtkgclgjlohofbaaDoor.halvesMuls
