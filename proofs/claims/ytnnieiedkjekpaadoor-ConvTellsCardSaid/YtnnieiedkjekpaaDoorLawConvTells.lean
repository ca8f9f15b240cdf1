/- ConvTells: of every two rows of words the law of convolutions answers true, and changes nothing, where the library's two tables are as their initialisers lay them (the card ties them to the program's text). -/
import Derived.Test.YtnnieiedkjekpaaDoorFrame
import Derived.Test.YtnnieiedkjekpaaDoorConvD
import Derived.Test.YtnnieiedkjekpaaDoorTie
import Derived.Test.YtnnieiedkjekpaaDoorCards
import Derived.Lib.LaidTab
import Derived.LaidMore
import Derived.Stop.Joined
import Derived.SevenTiedAt
set_option linter.unusedVariables false
namespace Go.Proofs.YtnnieiedkjekpaaDoor.convTells
open Go.ChangeShapes Go.WideShapes Go.ChangeAt Go.RowKit
open Nm Ww Tn Pl Kn Td Cv Lib

set_option maxHeartbeats 400000 in
theorem walk_longa (A B : Option Addr) (ca cb n m : Nat) (h : 64 < n) (w : World) (hT : Ft.Tab w) : Calls Tryd.prog 3 #[.slice A n ca, .slice B m cb] w fun e w' => e = .returned (.bool true) ∧ Below w.heap.size w w' := by
  have AW := Lib.hid (awake w hT)
  have h1 : (64 : Int) < (n : Int) := by omega
  clear h hT
  go_enter Tryd.func3, Tryd.ntmps3
  go_wp2_with fail
  refine AW.out.mono ?_
  rintro e w1 ⟨rfl, c1⟩
  clear AW
  go_wp2
  go_ret
  exact ⟨by simp [go_sem], c1⟩
set_option maxHeartbeats 400000 in
theorem walk_longb (A B : Option Addr) (ca cb n m : Nat) (h0 : n ≤ 64) (h : 64 < m) (w : World) (hT : Ft.Tab w) : Calls Tryd.prog 3 #[.slice A n ca, .slice B m cb] w fun e w' => e = .returned (.bool true) ∧ Below w.heap.size w w' := by
  have AW := Lib.hid (awake w hT)
  have h1 : (64 : Int) < (m : Int) := by omega
  have h2 : ¬ (64 : Int) < (n : Int) := by omega
  clear h hT
  go_enter Tryd.func3, Tryd.ntmps3
  go_wp2_with fail
  refine AW.out.mono ?_
  rintro e w1 ⟨rfl, c1⟩
  clear AW
  go_wp2
  go_ret
  exact ⟨by simp [go_sem], c1⟩
set_option maxHeartbeats 400000 in
theorem walk_odd (A B : Option Addr) (ca cb n m : Nat) (h0 : n ≤ 64) (h1 : m ≤ 64) (h : n ≠ m) (w : World) (hT : Ft.Tab w) : Calls Tryd.prog 3 #[.slice A n ca, .slice B m cb] w fun e w' => e = .returned (.bool true) ∧ Below w.heap.size w w' := by
  have AW := Lib.hid (awake w hT)
  have EX := fun W => exponent_odd A B n m ca cb h W
  have C1 := Lib.hid (fun W => cyclic_err A B n m ca cb 19 (by decide) W (EX W))
  have C2 := Lib.hid (fun W => negacyclic_err A B n m ca cb 19 (by decide) W (EX W))
  have C3 := Lib.hid (fun W => correlate_err A B n m ca cb 19 (by decide) W (EX W))
  have n1 : ¬ (64 : Int) < (n : Int) := by omega
  have m1 : ¬ (64 : Int) < (m : Int) := by omega
  have ne : ((n : Int) != (m : Int)) = true := by simp; omega
  clear h h0 h1 hT EX
  go_enter Tryd.func3, Tryd.ntmps3
  go_wp2_with fail
  refine AW.out.mono ?_
  rintro e w1 ⟨rfl, c1⟩
  clear AW
  go_wp2_with fail
  refine (C1.out _).mono ?_
  rintro e w2 ⟨rfl, rfl⟩
  clear C1
  go_wp2_with fail
  refine (C2.out _).mono ?_
  rintro e w2 ⟨rfl, rfl⟩
  clear C2
  go_wp2_with fail
  refine (C3.out _).mono ?_
  rintro e w2 ⟨rfl, rfl⟩
  clear C3
  go_wp2
  go_ret
  exact ⟨by simp [go_sem], c1⟩
set_option maxHeartbeats 400000 in
theorem walk_len (A B : Option Addr) (ca cb n : Nat) (h0 : n ≤ 64) (h : ∀ j, j ≤ 32 → (n : Int) ≠ ((2 ^ j : Nat) : Int)) (w : World) (hT : Ft.Tab w) : Calls Tryd.prog 3 #[.slice A n ca, .slice B n cb] w fun e w' => e = .returned (.bool true) ∧ Below w.heap.size w w' := by
  have AW := Lib.hid (awake w hT)
  have EX := fun W => exponent_len A B n ca cb h W
  have C1 := Lib.hid (fun W => cyclic_err A B n n ca cb 4 (by decide) W (EX W))
  have C2 := Lib.hid (fun W => negacyclic_err A B n n ca cb 4 (by decide) W (EX W))
  have C3 := Lib.hid (fun W => correlate_err A B n n ca cb 4 (by decide) W (EX W))
  have FI := Lib.hid (fun W => Ft.ref_any (n : Int) (-1) (fun j hj e => absurd e (h j hj)) (fun _ => rfl) W)
  have n1 : ¬ (64 : Int) < (n : Int) := by omega
  clear h h0 hT EX
  go_enter Tryd.func3, Tryd.ntmps3
  go_wp2_with fail
  refine AW.out.mono ?_
  rintro e w1 ⟨rfl, c1⟩
  clear AW
  go_wp2_with fail
  refine (C1.out _).mono ?_
  rintro e w2 ⟨rfl, rfl⟩
  clear C1
  go_wp2_with fail
  refine (C2.out _).mono ?_
  rintro e w2 ⟨rfl, rfl⟩
  clear C2
  go_wp2_with fail
  refine (C3.out _).mono ?_
  rintro e w2 ⟨rfl, rfl⟩
  clear C3
  go_wp2_with fail
  refine (FI.out _).mono ?_
  rintro e w2 ⟨rfl, rfl⟩
  clear FI
  go_wp2
  go_ret
  exact ⟨by simp [go_sem], c1⟩
set_option maxHeartbeats 1000000 in
set_option maxRecDepth 100000 in
theorem walk_in (A B : Option Addr) (ca cb n k : Nat) (xs ys : List Nat) (hx : xs.length = n) (hy : ys.length = n) (hk : k ≤ 19) (hn : n = 2 ^ k) (h0 : n ≤ 64) (w : World) (hT : Ft.Tab w) (R : Ws w w.heap.size A xs) (S : Ws w w.heap.size B ys) :
    Calls Tryd.prog 3 #[.slice A n ca, .slice B n cb] w fun e w' => e = .returned (.bool true) ∧ Below w.heap.size w w' := by
  have AW := Lib.hid (awake w hT)
  obtain ⟨X, hX⟩ : ∃ X : Nat → Nat, X = fun j => cyc (Pn.pl xs) (Pn.pl ys) n j % 18446744069414584321 := ⟨_, rfl⟩
  obtain ⟨Y, hY⟩ : ∃ Y : Nat → Nat, Y = fun j => ngc (Pn.pl xs) (Pn.pl ys) n j % 18446744069414584321 := ⟨_, rfl⟩
  obtain ⟨Z, hZ⟩ : ∃ Z : Nat → Nat, Z = fun j => cor (Pn.pl xs) (Pn.pl ys) n j % 18446744069414584321 := ⟨_, rfl⟩
  have fX : ∀ i, X i < 18446744069414584321 := by rw [hX]; exact fun i => Nat.mod_lt _ (by decide)
  have fY : ∀ i, Y i < 18446744069414584321 := by rw [hY]; exact fun i => Nat.mod_lt _ (by decide)
  have fZ : ∀ i, Z i < 18446744069414584321 := by rw [hZ]; exact fun i => Nat.mod_lt _ (by decide)
  have C1 := Lib.hid (fun W (d : Below w.heap.size w W) => show Calls Tryd.prog 7 #[.slice A n ca, .slice B n cb] W (RwE X n W) from by
    rw [hX]; exact cyclic k n ca cb A B xs ys hk hn hx hy W (hT.below d) (R.step d) (S.step d))
  have C2 := Lib.hid (fun W (d : Below w.heap.size w W) => show Calls Tryd.prog 8 #[.slice A n ca, .slice B n cb] W (RwE Y n W) from by
    rw [hY]; exact negacyclic k n ca cb A B xs ys hk hn hx hy W (hT.below d) (R.step d) (S.step d))
  have C3 := Lib.hid (fun W (d : Below w.heap.size w W) => show Calls Tryd.prog 9 #[.slice A n ca, .slice B n cb] W (RwE Z n W) from by
    rw [hZ]; exact correlate k n ca cb A B xs ys hk hn hx hy W (hT.below d) (R.step d) (S.step d))
  have E1 := Lib.hid (fun W (d : Below w.heap.size w W) => show Calls Tryd.prog 12 #[.slice A n ca, .slice B n cb, .bool false] W (RwA X n W) from by
    rw [hX]; exact rcyc A B ca cb n xs ys hx hy (by omega) W (R.step d) (S.step d))
  have E2 := Lib.hid (fun W (d : Below w.heap.size w W) => show Calls Tryd.prog 12 #[.slice A n ca, .slice B n cb, .bool true] W (RwA Y n W) from by
    rw [hY]; exact rngc A B ca cb n xs ys hx hy (by omega) W (R.step d) (S.step d))
  have E3 := Lib.hid (fun W (d : Below w.heap.size w W) => show Calls Tryd.prog 13 #[.slice A n ca, .slice B n cb] W (RwA Z n W) from by
    rw [hZ]; exact rcor A B ca cb n xs ys hx hy (by omega) W (R.step d) (S.step d))
  have FI := Lib.hid (fun W => fits_doc n k (by omega) hn W)
  have SM := Lib.hid (fun (g : Nat → Nat) W A1 A2 c1 c2 (R1 : Ws W W.heap.size A1 (rg g n)) (R2 : Ws W W.heap.size A2 (rg g n)) => same_rg (fun _ _ => rfl) (by omega) A1 A2 c1 c2 W R1 R2)
  have n1 : ¬ (64 : Int) < (n : Int) := by omega
  have k1 : ¬ (k : Int) < 0 := by omega
  clear hX hY hZ hx hy hk hn h0 hT R S
  go_enter Tryd.func3, Tryd.ntmps3
  go_wp2_with fail
  refine AW.out.mono ?_
  rintro e w1 ⟨rfl, c1⟩
  clear AW
  go_wp2_with fail
  refine (C1.out _ c1).mono ?_
  rintro e w2 ⟨b1, rfl, o2, s2, K2, h2⟩
  have X2 := wk_ws K2 fX s2
  have c2 := c1.trans (h2.mono c1.size)
  clear h2 K2 s2 o2 c1 C1
  go_wp2_with fail
  refine (C2.out _ c2).mono ?_
  rintro e w3 ⟨b2, rfl, o3, s3, K3, h3⟩
  have Y3 := wk_ws K3 fY s3
  have c3 := c2.trans (h3.mono c2.size)
  have X3 := X2.step h3
  clear h3 K3 s3 o3 c2 X2 C2
  go_wp2_with fail
  refine (C3.out _ c3).mono ?_
  rintro e w4 ⟨b3, rfl, o4, s4, K4, h4⟩
  have Z4 := wk_ws K4 fZ s4
  have c4 := c3.trans (h4.mono c3.size)
  have X4 := X3.step h4
  have Y4 := Y3.step h4
  clear h4 K4 s4 o4 c3 X3 Y3 C3
  go_wp2_with fail
  refine (FI.out _).mono ?_
  rintro e w9 ⟨rfl, rfl⟩
  clear FI
  go_wp2_with fail
  refine (E1.out _ c4).mono ?_
  rintro e w5 ⟨AX, cX, rfl, TX5, h5⟩
  have c5 := c4.trans (h5.mono c4.size)
  have X5 := X4.step h5
  have Y5 := Y4.step h5
  have Z5 := Z4.step h5
  clear h5 c4 X4 Y4 Z4 E1
  go_wp2_with fail
  refine (SM.out X _ _ _ _ _ X5 TX5).mono ?_
  rintro e w6 ⟨rfl, h6⟩
  have c6 := c5.trans (h6.mono c5.size)
  have Y6 := Y5.step h6
  have Z6 := Z5.step h6
  clear h6 c5 Y5 Z5
  go_wp2_with fail
  refine (E2.out _ c6).mono ?_
  rintro e w7 ⟨AY, cY, rfl, TY7, h7⟩
  have c7 := c6.trans (h7.mono c6.size)
  have Y7 := Y6.step h7
  have Z7 := Z6.step h7
  clear h7 c6 Y6 Z6 E2
  go_wp2_with fail
  refine (SM.out Y _ _ _ _ _ Y7 TY7).mono ?_
  rintro e w8 ⟨rfl, h8⟩
  have c8 := c7.trans (h8.mono c7.size)
  have Z8 := Z7.step h8
  clear h8 c7 Z7
  go_wp2_with fail
  refine (E3.out _ c8).mono ?_
  rintro e w9 ⟨AZ, cZ, rfl, TZ9, h9⟩
  have c9 := c8.trans (h9.mono c8.size)
  have Z9 := Z8.step h9
  clear h9 c8 Z8 E3
  go_wp2_with fail
  refine (SM.out Z _ _ _ _ _ Z9 TZ9).mono ?_
  rintro e w10 ⟨rfl, h10⟩
  have c10 := c9.trans (h10.mono c9.size)
  clear h10 c9
  go_wp2
  go_ret
  exact ⟨by simp [go_sem], c10⟩
theorem walk (A B : Option Addr) (ca cb n m : Nat) (xs ys : List Nat) (hx : xs.length = n) (hy : ys.length = m) (w : World) (hT : Ft.Tab w) (R : Ws w w.heap.size A xs) (S : Ws w w.heap.size B ys) :
    Calls Tryd.prog 3 #[.slice A n ca, .slice B m cb] w fun e w' => e = .returned (.bool true) ∧ Below w.heap.size w w' := by
  by_cases h1 : 64 < n
  · exact walk_longa A B ca cb n m h1 w hT
  by_cases h2 : 64 < m
  · exact walk_longb A B ca cb n m (by omega) h2 w hT
  by_cases h3 : n = m
  · subst h3
    by_cases h : ∃ j, j ≤ 32 ∧ n = 2 ^ j
    · obtain ⟨k, hk, hn⟩ := h
      have : k ≤ 19 := Nat.le_of_not_lt fun c => by
        have := Nat.pow_le_pow_right (n := 2) (by decide) c
        have e20 : 2 ^ 20 = 1048576 := by decide
        omega
      exact walk_in A B ca cb n k xs ys hx hy this hn (by omega) w hT R S
    · exact walk_len A B ca cb n (by omega) (fun j hj e => h ⟨j, hj, by omega⟩) w hT
  · exact walk_odd A B ca cb n m (by omega) (by omega) h3 w hT

theorem g32 : Tryd.prog.globalNamed "math/bits.deBruijn32tab" = some 0 := by kernel_rfl
theorem g64 : Tryd.prog.globalNamed "math/bits.deBruijn64tab" = some 1 := by kernel_rfl
theorem t64 : (Tryd.prog.globals[1]?).map (·.type) = some 91 := by kernel_rfl
/-- What the row's condition gives the walk: the table's cells. -/
theorem of_laid {W : World} (h : laidMetH Tryd.prog Rows.convTellsRow.laid W) : Ft.Tab W := by
  rw [MakeChecks.laidMetH_plain _ _ _ (by kernel_rfl)] at h
  obtain ⟨ps, ⟨g0, t0, cs0, f0, p0, q0, hg0, ht0, hv0, hd0, ⟨g1, t1, cs1, f1, p1, q1, hg1, ht1, hv1, hd1, _, _⟩, _⟩, _, _⟩ := h
  obtain rfl := Option.some.inj (g64.symm.trans hg1)
  obtain rfl := Option.some.inj (t64.symm.trans ht1)
  have hd2 : DataW.trod _ Tryd.prog W 0 _ false f1 91 cs1.toList = some (Lib.tabData .u8 (Lib.deBruijn64tab.map Int.ofNat), p1) := hd1
  have hc := Lib.cells_of_tab Tryd.underlying91 Tryd.underlying5 (by kernel_rfl) (by kernel_rfl) hd2
  intro i hi
  have c := World.var?_cell hg1 hv1 i
  rw [c, ← Array.getElem?_toList, hc]
  have hl : Lib.deBruijn64tab.length = 64 := by decide
  simp [List.getD, hl, hi]

/-- The door's own heap meets the condition. -/
theorem door_met (os : Os) (args : Array Value) : laidMetH Tryd.prog Rows.convTellsRow.laid ((World.doorLaid Tryd.prog 400 os).forCall (fun _ _ => 0) ⟨#[], args, []⟩).memory :=
  laidMetH_of_parts3 (fuel := 8) (laidMet_of_run' 8 (by kernel_rfl) (by kernel_rfl)) (by kernel_rfl) (by kernel_rfl)
set_option maxRecDepth 100000 in
theorem lifted (os : Os) (started : os.Started) (H : Type) (enc : TypeId × Value → H) :
    ReturnsInHanded {} Tryd.checked os 3 .any (fun w args => (Rows.convTellsSpec.pre enc Tryd.prog Tryd.f3 [] false w args ∧ laidMetH Tryd.prog Rows.convTellsRow.laid w) ∧ sizedMet enc Tryd.prog Tryd.f3 (OpenSpec.ofChange Rows.convTellsSpec) false w args)
      (Rows.convTellsSpec.post enc Tryd.prog Tryd.f3 false true false false) := by
  refine returnsInHanded_of_change_and (C := Tryd.checked) (X := fun w _ => laidMetH Tryd.prog Rows.convTellsRow.laid w) (fun _ _ _ hh h => h.of_heap hh) Fr.own started (by kernel_rfl) Tryd.func3
    (ChangeSpec.witness_shaped (enc := enc) (C := Tryd.checked) (os := os) (X := fun w _ => laidMetH Tryd.prog Rows.convTellsRow.laid w) false (World.doorLaid Tryd.prog 400 os) #[.slice none 0 0, .slice none 0 0] 8 rfl (World.shaped_of_RefB (by kernel_rfl) (by kernel_rfl)) (by kernel_rfl) (by kernel_rfl) (by kernel_rfl) (door_met os _)) ?_
  intro W base args ds gs before hval0 hW _ _ hL _
  have hval : ∀ (j : Nat) t v, Tryd.f3.params[j]? = some t → args[j]? = some v → Value.okWide Tryd.prog W .any base t v := hval0
  have hW' := hW
  obtain ⟨p, q, hA0, hV, rfl, hfz, hnd⟩ := hW
  have hA : DataW.TrodAll enc Tryd.prog W 0 (fun _ => true) true Tryd.f3.params.toList args.toList ds p := hA0
  obtain ⟨rfl, rfl⟩ := trodVars_none hV
  rw [Tryd.params3] at hA hval
  obtain ⟨v0, vs0, d0, ds0, p0, q0, hargs, rfl, rfl, h0, r0⟩ := trodAll_cons hA
  obtain ⟨v1, vs1, d1, ds1, p1, q1, rfl, rfl, rfl, h1, r1⟩ := trodAll_cons r0
  obtain ⟨rfl, rfl, rfl⟩ := trodAll_nil r1
  obtain rfl : args = #[v0, v1] := by cases args; simp_all
  obtain ⟨A0, n0, c0, rfl⟩ := okWide_slice Tryd.underlying22 (hval 0 22 v0 rfl rfl)
  obtain ⟨fuel0, hf0⟩ := h0
  obtain ⟨xs0, rfl, lc0, lm0, R0⟩ := Ww.open_words hf0
  obtain ⟨A1, n1, c1, rfl⟩ := okWide_slice Tryd.underlying22 (hval 1 22 v1 rfl rfl)
  obtain ⟨fuel1, hf1⟩ := h1
  obtain ⟨xs1, rfl, lc1, lm1, R1⟩ := Ww.open_words hf1
  simp only [List.append_nil] at hW' hA0
  refine (walk A0 A1 c0 c1 xs0.length xs1.length xs0 xs1 rfl rfl W (of_laid hL) R0 R1).mono fun e W' ⟨he, hb⟩ => ?_
  subst he
  exact ⟨_, rfl, Fr.law_post (tb := 4) hW' hA0 rfl rfl rfl Tryd.underlying4 (by rw [Tryd.params3]; intro t ht; simp at ht; rcases ht with rfl | rfl; all_goals exact ⟨by kernel_rfl, of_decide_eq_true (by kernel_rfl)⟩) hb⟩

theorem row_holds : Rows.ConvTellsSaid :=
  OpenClaim.holds_of_wide 3 Tryd.f3 rfl rfl rfl rfl rfl rfl rfl ⟨rfl, rfl, rfl, rfl, rfl⟩ rfl rfl rfl rfl rfl (by kernel_rfl) Tryd.func3 (by kernel_rfl)
    (of_decide_eq_true (by kernel_rfl)) (by unfold Func.isWrapper; first | (rw [if_pos (by decide +kernel)]; kernel_rfl) | (rw [if_neg (by decide +kernel)]; exact ⟨rfl, rfl⟩))
    (fun os started H enc _ => lifted os started H enc)

theorem proved : Rows.ConvTellsCardSaid :=
  Claim7.holds_tied_plain_at .later [] [.data, .data] true Rows.convTellsCard.stood.harness false
    row_holds (fun _ h => by cases h) (by kernel_rfl) (fun _ h => by cases h) convTells_row_tie rfl ⟨rfl, rfl⟩ (by kernel_rfl) rfl
    (fun f fn hf hfn => by
      obtain rfl : f = 3 := Option.some.inj ((show Tryd.prog.funcNamed "abacist/abacistlaw13.ConvTells" = some 3 by kernel_rfl).symm.trans hf) |>.symm
      obtain rfl : fn = Tryd.f3 := (Option.some.inj (Tryd.func3.symm.trans hfn)).symm
      exact ⟨by kernel_rfl, fun j t ht => by
        rw [Tryd.params3] at ht
        have hm : t ∈ [22] := by simpa using Array.mem_of_getElem? ht
        have hall : ([22].all fun u => !Tryd.prog.wantsStandIn u) = true := by kernel_rfl
        exact (show Tryd.prog.wantsStandIn t = false by simpa using List.all_eq_true.1 hall t hm)⟩)
    (by kernel_rfl)
end Go.Proofs.YtnnieiedkjekpaaDoor.convTells
