/- ShapeSplits: of every exponent the law of splits answers true, and changes nothing, where the library's two tables are as their initialisers lay them (the card ties them to the program's text). -/
import Derived.Test.YtfmjmopmlimnnaaDoorFrame
import Derived.Test.YtfmjmopmlimnnaaDoorShapeS
import Derived.Deep.SlicePairs
import Derived.Deep.DeepCutAuto
import Derived.Test.YtfmjmopmlimnnaaDoorTie
import Derived.Test.YtfmjmopmlimnnaaDoorCards
import Derived.Lib.LaidTab
import Derived.LaidMore
import Derived.Stop.Joined
import Derived.SevenTiedAt
set_option linter.unusedVariables false
namespace Go.Proofs.YtfmjmopmlimnnaaDoor.shapeSplits
open Go.ChangeShapes Go.WideShapes Go.ChangeAt Go.RowKit
open Sh Go.Sort

set_option maxHeartbeats 1000000 in
set_option maxRecDepth 100000 in
theorem walk_low (k : Int) (h : k < 0) (w : World) (hT : Ft.Tab w) :
    Calls Tryd.prog 4 #[.int .i64 k] w fun e w' => e = .returned (.bool true) ∧ Below w.heap.size w w' := by
  have S1 := Lib.hid (fun W => splits_bad k (by omega) W)
  have S2 := Lib.hid (fun W => even_bad k (by omega) W)
  go_enter Tryd.func4, Tryd.ntmps4
  go_wp2_with fail
  refine (Sh.awake _ hT).mono ?_
  rintro e w1 ⟨rfl, c1⟩
  go_wp2_with fail
  refine (S1.out _).mono ?_
  rintro e w2 ⟨rfl, rfl⟩
  go_wp2_with fail
  refine (S2.out _).mono ?_
  rintro e w2 ⟨rfl, d2⟩
  have c2 := c1.trans (d2.mono c1.size)
  clear d2 c1
  go_wp2
  go_ret
  exact ⟨by simp [go_sem], c2.alloc c2.size _⟩

set_option maxHeartbeats 1000000 in
set_option maxRecDepth 100000 in
theorem walk_high (k : Int) (h : 32 < k) (w : World) (hT : Ft.Tab w) :
    Calls Tryd.prog 4 #[.int .i64 k] w fun e w' => e = .returned (.bool true) ∧ Below w.heap.size w w' := by
  have k0 : ¬ k < 0 := by omega
  have S1 := Lib.hid (fun W => splits_bad k (by omega) W)
  have S2 := Lib.hid (fun W => even_bad k (by omega) W)
  go_enter Tryd.func4, Tryd.ntmps4
  go_wp2_with fail
  refine (Sh.awake _ hT).mono ?_
  rintro e w1 ⟨rfl, c1⟩
  go_wp2_with fail
  refine (S1.out _).mono ?_
  rintro e w2 ⟨rfl, rfl⟩
  go_wp2_with fail
  refine (S2.out _).mono ?_
  rintro e w2 ⟨rfl, d2⟩
  have c2 := c1.trans (d2.mono c1.size)
  clear d2 c1
  go_wp2
  go_ret
  exact ⟨by simp [go_sem], c2.alloc c2.size _⟩

/-- What the loop of splits keeps. -/
structure LRel (k b : Nat) (w wr : World) (i : Nat) : Prop where
  hi : i ≤ k + 1
  k : Sk wr b (k + 1) (fun i => 2 ^ i) (fun i => 2 ^ (k - i))
  b : Below w.heap.size w wr
theorem LRel.step {k b : Nat} {w wr w1 : World} {i : Nat} (h : LRel k b w wr i) (hi : i < k + 1) (hb : Below wr.heap.size wr w1) : LRel k b w w1 (i + 1) :=
  ⟨by omega, h.k.step hb, h.b.trans (hb.mono h.b.size)⟩

set_option maxHeartbeats 1000000 in
set_option maxRecDepth 100000 in
theorem walk_in (k h p q z : Nat) (hk : k ≤ 32) (hh : h = k / 2) (hp : p = 2 ^ h) (hq : q = 2 ^ (k - h)) (hz : z = 2 ^ k) (w : World) (hT : Ft.Tab w) :
    Calls Tryd.prog 4 #[.int .i64 (k : Nat)] w fun e w' => e = .returned (.bool true) ∧ Below w.heap.size w w' := by
  have S1 := Lib.hid (fun W => splits_in k hk W)
  have S2 := Lib.hid (fun W => even_in k hk W)
  rw [← hh, ← hp, ← hq] at S2
  have hq2 : q = p ∨ q = 2 * p := by
    rcases Nat.mod_two_eq_zero_or_one k with e | e
    · exact Or.inl (by rw [hp, hq, show k - h = h by omega])
    · exact Or.inr (by rw [hp, hq, show k - h = h + 1 by omega, Nat.pow_succ, Nat.mul_comm])
  have p32 : p ≤ 2 ^ 32 := by rw [hp]; exact Nat.pow_le_pow_right (by decide) (by omega)
  have p0 : 0 < p := by rw [hp]; exact Nat.two_pow_pos h
  have k0 : ¬ (k : Int) < 0 := by omega
  have k1 : ¬ 32 < (k : Int) := by omega
  have h1 : (k : Int).tdiv 2 = (h : Int) := by rw [hh]; rfl
  have h2 : IntKind.i64.wrap (h : Int) = h := IntWalk.i64_in _ (by omega)
  have h3 : IntKind.i64.wrap ((k : Int) / 2) = h := by rw [show (k : Int) / 2 = h by omega]; exact h2
  have h4 : h < k + 1 := by omega
  have h5 : (k : Int) / 2 = (h : Int) := by omega
  clear hh
  have HP := Lib.hid hp
  have HQ := Lib.hid hq
  have HZ := Lib.hid hz
  clear hp hq hz
  go_enter Tryd.func4, Tryd.ntmps4
  go_wp2_with fail
  refine (Sh.awake _ hT).mono ?_
  rintro e w1 ⟨rfl, c1⟩
  go_wp2_with fail
  refine (S1.out _).mono ?_
  rintro e w2 ⟨rfl, K2, d2⟩
  have c2 := c1.trans (d2.mono c1.size)
  clear d2 c1 S1
  go_wp2_with fail
  refine (S2.out _).mono ?_
  rintro e w3 ⟨rfl, d3⟩
  have c3 := c2.trans (d3.mono c2.size)
  have K3 := K2.step d3
  have g3 : w1.heap.size < w3.heap.size := K3.lt (by omega)
  clear d3 c2 S2 K2
  generalize w1.heap.size = b at *
  go_upto_region 5 with fail
  have c4 := c3.alloc c3.size (.cells #[.int .i64 (p : Nat), .int .i64 (q : Nat)] 23)
  have K4 := K3.step (below1 w3 (.cells #[.int .i64 (p : Nat), .int .i64 (q : Nat)] 23))
  have T4 := Tw.fresh w3 p q 23
  generalize w3.alloc (.cells #[.int .i64 (p : Nat), .int .i64 (q : Nat)] 23) = w4 at *
  clear c3 K3
  generalize w3.heap.size = b4 at *
  have e0 := K4.c0 h (by omega)
  have e1 := K4.c1 h (by omega)
  rw [← HP.out] at e0
  rw [← HQ.out] at e1
  have t0 := T4.c0
  have t1 := T4.c1
  have l0 : IntKind.i64.wrap ((k : Int) + 1) = (k : Int) + 1 := IntWalk.i64_in _ (by omega)
  have l1 : ((k : Int) + 1 != IntKind.i64.wrap ((k : Int) + 1)) = false := by rw [l0]; simp
  rcases hq2 with e | e
  · have q1 : ((q : Int) != p) = false := by rw [e]; simp
    clear e
    go_wp2_with fail
    go_quiet (fail)
    go_wp2_with fail
    clear e0 e1 t0 t1 T4 h1 h2 p32 p0 HP HQ
    go_loopw [6] (fun v6 wr => ∃ i : Nat, v6 = .int .i64 (i : Int) ∧ LRel k b w wr i) (fun v6 _ => k + 1 - (Lib.intOf v6).toNat)
    case atStart => exact ⟨0, rfl, Nat.zero_le _, K4.step (below_drewN (Below.refl _ _) _), below_drewN c4 _⟩
    case round =>
      obtain ⟨i, rfl, R⟩ := hrel
      clear K4 c4
      have hi := R.hi
      by_cases hlt : i < k + 1
      · have i1 : (i : Int) ≤ k := by omega
        obtain ⟨u, hu⟩ : ∃ u, u = 2 ^ i := ⟨_, rfl⟩
        obtain ⟨v, hv⟩ : ∃ v, v = 2 ^ (k - i) := ⟨_, rfl⟩
        have x0 := R.k.c0 i hlt
        have x1 := R.k.c1 i hlt
        rw [← hu] at x0
        rw [← hv] at x1
        have y0 := cell_regrown x0
        have y1 := cell_regrown x1
        have gd : Gd (u : Int) (v : Int) := ⟨i, k - i, by omega, by rw [hu], by rw [hv]⟩
        have D1 := Lib.hid (fun d os => Calls.regrown_of (Sh.ref (u : Int) (v : Int) true (by simp [gd]) (grow (redrawn wr d) os)))
        have p1 := Bt.pow_i64 i (by omega)
        have p2 := Bt.pow_i64 k (by omega)
        rw [← hu] at p1
        rw [← HZ.out] at p2
        have uv : u * v = z := by rw [hu, hv, HZ.out, ← Nat.pow_add, show i + (k - i) = k by omega]
        have zl : z ≤ 2 ^ 32 := by rw [HZ.out]; exact Nat.pow_le_pow_right (by decide) hk
        have uv2 : (u : Int) * (v : Int) = (z : Int) := by rw [← uv]; simp
        have uv3 : IntKind.i64.wrap ((u : Int) * (v : Int)) = (z : Int) := by rw [uv2]; exact IntWalk.i64_in _ (by omega)
        have w1 : IntKind.u64.wrap (i : Int) = i := by rw [IntKind.wrap_u64]; omega
        have w2 : IntKind.u64.wrap (k : Int) = k := by rw [IntKind.wrap_u64]; omega
        clear gd hu hv uv uv2 zl x0 x1
        go_wp2_with fail
        refine wp_region_quiet_below (by as_aux_lemma => kernel_rfl) (by as_aux_lemma => kernel_rfl) ?_
        repeat (go_big_quiet_step ((go_at_call 7; with_reducible exact D1.out _ _)))
        refine wpQuiet_nil ?_
        intro _ hw'
        obtain ⟨⟨dq, osq⟩, hw''⟩ := hw'
        subst hw''
        have R1 := R.step hlt (below_regrown wr dq osq)
        clear R y0 y1 D1 uv3 p1 p2 w1 w2
        show Exit.then _ _ _ _ (grow (redrawn wr dq) osq)
        generalize grow (redrawn wr dq) osq = w5 at *
        go_wp2_with fail
        go_roundw
        case rel => exact ⟨i + 1, rfl, R1⟩
        case measure => simp [Lib.intOf]; omega
      · have i1 : ¬ (i : Int) ≤ k := by omega
        go_wp2
        go_ret
        exact ⟨by simp [go_sem], R.b⟩
  · have q1 : ((q : Int) != p) = true := by rw [bne_iff_ne]; omega
    have q2 : IntKind.i64.wrap (2 * (p : Int)) = (q : Int) := by rw [e]; rw [show (2 * (p : Int)) = ((2 * p : Nat) : Int) by simp]; exact IntWalk.i64_in _ (by omega)
    clear e
    go_wp2_with fail
    go_quiet (fail)
    go_wp2_with fail
    clear e0 e1 t0 t1 T4 h1 h2 p32 p0 HP HQ
    go_loopw [6] (fun v6 wr => ∃ i : Nat, v6 = .int .i64 (i : Int) ∧ LRel k b w wr i) (fun v6 _ => k + 1 - (Lib.intOf v6).toNat)
    case atStart => exact ⟨0, rfl, Nat.zero_le _, K4.step (below_drewN (Below.refl _ _) _), below_drewN c4 _⟩
    case round =>
      obtain ⟨i, rfl, R⟩ := hrel
      clear K4 c4
      have hi := R.hi
      by_cases hlt : i < k + 1
      · have i1 : (i : Int) ≤ k := by omega
        obtain ⟨u, hu⟩ : ∃ u, u = 2 ^ i := ⟨_, rfl⟩
        obtain ⟨v, hv⟩ : ∃ v, v = 2 ^ (k - i) := ⟨_, rfl⟩
        have x0 := R.k.c0 i hlt
        have x1 := R.k.c1 i hlt
        rw [← hu] at x0
        rw [← hv] at x1
        have y0 := cell_regrown x0
        have y1 := cell_regrown x1
        have gd : Gd (u : Int) (v : Int) := ⟨i, k - i, by omega, by rw [hu], by rw [hv]⟩
        have D1 := Lib.hid (fun d os => Calls.regrown_of (Sh.ref (u : Int) (v : Int) true (by simp [gd]) (grow (redrawn wr d) os)))
        have p1 := Bt.pow_i64 i (by omega)
        have p2 := Bt.pow_i64 k (by omega)
        rw [← hu] at p1
        rw [← HZ.out] at p2
        have uv : u * v = z := by rw [hu, hv, HZ.out, ← Nat.pow_add, show i + (k - i) = k by omega]
        have zl : z ≤ 2 ^ 32 := by rw [HZ.out]; exact Nat.pow_le_pow_right (by decide) hk
        have uv2 : (u : Int) * (v : Int) = (z : Int) := by rw [← uv]; simp
        have uv3 : IntKind.i64.wrap ((u : Int) * (v : Int)) = (z : Int) := by rw [uv2]; exact IntWalk.i64_in _ (by omega)
        have w1 : IntKind.u64.wrap (i : Int) = i := by rw [IntKind.wrap_u64]; omega
        have w2 : IntKind.u64.wrap (k : Int) = k := by rw [IntKind.wrap_u64]; omega
        clear gd hu hv uv uv2 zl x0 x1
        go_wp2_with fail
        refine wp_region_quiet_below (by as_aux_lemma => kernel_rfl) (by as_aux_lemma => kernel_rfl) ?_
        repeat (go_big_quiet_step ((go_at_call 7; with_reducible exact D1.out _ _)))
        refine wpQuiet_nil ?_
        intro _ hw'
        obtain ⟨⟨dq, osq⟩, hw''⟩ := hw'
        subst hw''
        have R1 := R.step hlt (below_regrown wr dq osq)
        clear R y0 y1 D1 uv3 p1 p2 w1 w2
        show Exit.then _ _ _ _ (grow (redrawn wr dq) osq)
        generalize grow (redrawn wr dq) osq = w5 at *
        go_wp2_with fail
        go_roundw
        case rel => exact ⟨i + 1, rfl, R1⟩
        case measure => simp [Lib.intOf]; omega
      · have i1 : ¬ (i : Int) ≤ k := by omega
        go_wp2
        go_ret
        exact ⟨by simp [go_sem], R.b⟩
theorem walk (k : Int) (w : World) (hT : Ft.Tab w) : Calls Tryd.prog 4 #[.int .i64 k] w fun e w' => e = .returned (.bool true) ∧ Below w.heap.size w w' := by
  by_cases h0 : k < 0
  · exact walk_low k h0 w hT
  by_cases h1 : 32 < k
  · exact walk_high k h1 w hT
  obtain ⟨n, rfl⟩ := Int.eq_ofNat_of_zero_le (show 0 ≤ k by omega)
  exact walk_in n _ _ _ _ (by omega) rfl rfl rfl rfl w hT

theorem g32 : Tryd.prog.globalNamed "math/bits.deBruijn32tab" = some 0 := by kernel_rfl
theorem g64 : Tryd.prog.globalNamed "math/bits.deBruijn64tab" = some 1 := by kernel_rfl
theorem t64 : (Tryd.prog.globals[1]?).map (·.type) = some 60 := by kernel_rfl
/-- What the row's condition gives the walk: the table's cells. -/
theorem of_laid {W : World} (h : laidMetH Tryd.prog Rows.shapeSplitsRow.laid W) : Ft.Tab W := by
  rw [MakeChecks.laidMetH_plain _ _ _ (by kernel_rfl)] at h
  obtain ⟨ps, ⟨g0, t0, cs0, f0, p0, q0, hg0, ht0, hv0, hd0, ⟨g1, t1, cs1, f1, p1, q1, hg1, ht1, hv1, hd1, _, _⟩, _⟩, _, _⟩ := h
  obtain rfl := Option.some.inj (g64.symm.trans hg1)
  obtain rfl := Option.some.inj (t64.symm.trans ht1)
  have hd2 : DataW.trod _ Tryd.prog W 0 _ false f1 60 cs1.toList = some (Lib.tabData .u8 (Lib.deBruijn64tab.map Int.ofNat), p1) := hd1
  have hc := Lib.cells_of_tab Tryd.underlying60 Tryd.underlying5 (by kernel_rfl) (by kernel_rfl) hd2
  intro i hi
  have c := World.var?_cell hg1 hv1 i
  rw [c, ← Array.getElem?_toList, hc]
  have hl : Lib.deBruijn64tab.length = 64 := by decide
  simp [List.getD, hl, hi]

/-- The door's own heap meets the condition. -/
theorem door_met (os : Os) (args : Array Value) : laidMetH Tryd.prog Rows.shapeSplitsRow.laid ((World.doorLaid Tryd.prog 400 os).forCall (fun _ _ => 0) ⟨#[], args, []⟩).memory :=
  laidMetH_of_parts3 (fuel := 8) (laidMet_of_run' 8 (by kernel_rfl) (by kernel_rfl)) (by kernel_rfl) (by kernel_rfl)
set_option maxRecDepth 100000 in
theorem lifted (os : Os) (started : os.Started) (H : Type) (enc : TypeId × Value → H) :
    ReturnsInHanded {} Tryd.checked os 4 .any (fun w args => (Rows.shapeSplitsSpec.pre enc Tryd.prog Tryd.f4 [] false w args ∧ laidMetH Tryd.prog Rows.shapeSplitsRow.laid w) ∧ sizedMet enc Tryd.prog Tryd.f4 (OpenSpec.ofChange Rows.shapeSplitsSpec) false w args)
      (Rows.shapeSplitsSpec.post enc Tryd.prog Tryd.f4 false true false false) := by
  refine returnsInHanded_of_change_and (C := Tryd.checked) (X := fun w _ => laidMetH Tryd.prog Rows.shapeSplitsRow.laid w) (fun _ _ _ hh h => h.of_heap hh) Fr.own started (by kernel_rfl) Tryd.func4
    (ChangeSpec.witness_shaped (enc := enc) (C := Tryd.checked) (os := os) (X := fun w _ => laidMetH Tryd.prog Rows.shapeSplitsRow.laid w) false (World.doorLaid Tryd.prog 400 os) #[.int .i64 0] 8 rfl (World.shaped_of_RefB (by kernel_rfl) (by kernel_rfl)) (by kernel_rfl) (by kernel_rfl) (by kernel_rfl) (door_met os _)) ?_
  intro W base args ds gs before hval0 hW _ _ hL _
  have hval : ∀ (j : Nat) t v, Tryd.f4.params[j]? = some t → args[j]? = some v → Value.okWide Tryd.prog W .any base t v := hval0
  have hW' := hW
  obtain ⟨p, q, hA0, hV, rfl, hfz, hnd⟩ := hW
  have hA : DataW.TrodAll enc Tryd.prog W 0 (fun _ => true) true Tryd.f4.params.toList args.toList ds p := hA0
  obtain ⟨rfl, rfl⟩ := trodVars_none hV
  rw [Tryd.params4] at hA hval
  obtain ⟨v0, vs0, d0, ds0, p0, q0, hargs, rfl, rfl, h0, r0⟩ := trodAll_cons hA
  obtain ⟨rfl, rfl, rfl⟩ := trodAll_nil r0
  obtain rfl : args = #[v0] := by cases args; simp_all
  obtain ⟨x0, rfl, rfl, rfl, w0⟩ := open_int Tryd.underlying3 (hval 0 3 v0 rfl rfl) h0
  have b0 : -9223372036854775808 ≤ x0 ∧ x0 ≤ 9223372036854775807 := by simpa [Lit.wf, IntKind.min, IntKind.max, IntKind.signed, IntKind.bits] using w0
  simp only [List.append_nil] at hW'
  refine (walk x0  W (of_laid hL)).mono fun e W' ⟨he, hb⟩ => ?_
  subst he
  exact ⟨_, rfl, Fr.law_post (tb := 4) hW' hA0 rfl rfl rfl Tryd.underlying4 (by rw [Tryd.params4]; intro t ht; simp at ht; rcases ht with rfl; all_goals exact ⟨by kernel_rfl, of_decide_eq_true (by kernel_rfl)⟩) hb⟩

theorem row_holds : Rows.ShapeSplitsSaid :=
  OpenClaim.holds_of_wide 4 Tryd.f4 rfl rfl rfl rfl rfl rfl rfl ⟨rfl, rfl, rfl, rfl, rfl⟩ rfl rfl rfl rfl rfl (by kernel_rfl) Tryd.func4 (by kernel_rfl)
    (of_decide_eq_true (by kernel_rfl)) (by unfold Func.isWrapper; first | (rw [if_pos (by decide +kernel)]; kernel_rfl) | (rw [if_neg (by decide +kernel)]; exact ⟨rfl, rfl⟩))
    (fun os started H enc _ => lifted os started H enc)

theorem proved : Rows.ShapeSplitsCardSaid :=
  Claim7.holds_tied_plain_at .later [] [.data, .data] true Rows.shapeSplitsCard.stood.harness false
    row_holds (fun _ h => by cases h) (by kernel_rfl) (fun _ h => by cases h) shapeSplits_row_tie rfl ⟨rfl, rfl⟩ (by kernel_rfl) rfl
    (fun f fn hf hfn => by
      obtain rfl : f = 4 := Option.some.inj ((show Tryd.prog.funcNamed "abacist/abacistlaw06.ShapeSplits" = some 4 by kernel_rfl).symm.trans hf) |>.symm
      obtain rfl : fn = Tryd.f4 := (Option.some.inj (Tryd.func4.symm.trans hfn)).symm
      exact ⟨by kernel_rfl, fun j t ht => by
        rw [Tryd.params4] at ht
        have hm : t ∈ [3] := by simpa using Array.mem_of_getElem? ht
        have hall : ([3].all fun u => !Tryd.prog.wantsStandIn u) = true := by kernel_rfl
        exact (show Tryd.prog.wantsStandIn t = false by simpa using List.all_eq_true.1 hall t hm)⟩)
    (by kernel_rfl)
end Go.Proofs.YtfmjmopmlimnnaaDoor.shapeSplits
