/- ShapePlaces: of every shape, row, column and place the law of places answers true, and changes nothing, where the library's two tables are as their initialisers lay them (the card ties them to the program's text). -/
import Derived.Test.YtfmjmopmlimnnaaDoorFrame
import Derived.Test.YtfmjmopmlimnnaaDoorShape
import Derived.Deep.SlicePairs
import Derived.Test.YtfmjmopmlimnnaaDoorTie
import Derived.Test.YtfmjmopmlimnnaaDoorCards
import Derived.Lib.LaidTab
import Derived.LaidMore
import Derived.Stop.Joined
import Derived.SevenTiedAt
set_option linter.unusedVariables false
namespace Go.Proofs.YtfmjmopmlimnnaaDoor.shapePlaces
open Go.ChangeShapes Go.WideShapes Go.ChangeAt Go.RowKit
open Sh Go.Sort

set_option maxHeartbeats 1000000 in
set_option maxRecDepth 100000 in
theorem bad (a b r c i n p ev x y f : Int) (hn : n = 0) (hp : p = 0) (he : ev = 2) (hx : x = 0) (hy : y = 0) (hf : f = 2)
    (hR : ∀ W, Ft.Tab W → Calls Tryd.prog 7 #[.agg #[.int .i64 a, .int .i64 b]] W fun e w' => e = .returned (.bool false) ∧ Below W.heap.size W w')
    (hG : ∀ W, Ft.Tab W → Calls Tryd.prog 10 #[.agg #[.int .i64 a, .int .i64 b]] W fun e w' => e = .returned (.bool false) ∧ Below W.heap.size W w')
    (hS : ∀ W, Ft.Tab W → Calls Tryd.prog 11 #[.agg #[.int .i64 a, .int .i64 b]] W fun e w' => e = .returned (.int .i64 n) ∧ Below W.heap.size W w')
    (hA : ∀ W, Ft.Tab W → Calls Tryd.prog 8 #[.agg #[.int .i64 a, .int .i64 b], .int .i64 r, .int .i64 c] W fun e w' => e = .returned (.tuple #[.int .i64 p, .int .i64 ev]) ∧ Below W.heap.size W w')
    (hW : ∀ W, Ft.Tab W → Calls Tryd.prog 9 #[.agg #[.int .i64 a, .int .i64 b], .int .i64 i] W fun e w' => e = .returned (.tuple #[.int .i64 x, .int .i64 y, .int .i64 f]) ∧ Below W.heap.size W w')
    (w : World) (hT : Ft.Tab w) :
    Calls Tryd.prog 3 #[.agg #[.int .i64 a, .int .i64 b], .int .i64 r, .int .i64 c, .int .i64 i] w fun e w' => e = .returned (.bool true) ∧ Below w.heap.size w w' := by
  have HR := Lib.hid hR
  have HG := Lib.hid hG
  have HS := Lib.hid hS
  have HA := Lib.hid hA
  have HW := Lib.hid hW
  have HT := Lib.hid hT
  have HB := Lib.hid (below1 w)
  clear hR hG hS hA hW hT
  subst hn hp he hx hy hf
  go_enter Tryd.func3, Tryd.ntmps3
  go_wp2_with fail
  refine (Sh.awake _ (HT.out.below (HB.out _))).mono ?_
  rintro e w1 ⟨rfl, d1⟩
  have T1 := (Tw.fresh w a b 23).below d1
  have c1 := (HB.out _).trans (d1.mono (HB.out _).size)
  clear d1
  have t0 := T1.c0
  have t1 := T1.c1
  go_wp2_with fail
  refine (HR.out _ (HT.out.below c1)).mono ?_
  rintro e w2 ⟨rfl, d2⟩
  have T2 := T1.below d2
  have c2 := c1.trans (d2.mono c1.size)
  clear d2 t0 t1 T1 c1
  have t0 := T2.c0
  have t1 := T2.c1
  go_wp2_with fail
  refine (HA.out _ (HT.out.below c2)).mono ?_
  rintro e w3 ⟨rfl, d3⟩
  have T3 := T2.below d3
  have c3 := c2.trans (d3.mono c2.size)
  clear d3 t0 t1 T2 c2
  have t0 := T3.c0
  have t1 := T3.c1
  go_wp2_with fail
  refine (HW.out _ (HT.out.below c3)).mono ?_
  rintro e w4 ⟨rfl, d4⟩
  have T4 := T3.below d4
  have c4 := c3.trans (d4.mono c3.size)
  clear d4 t0 t1 T3 c3
  have t0 := T4.c0
  have t1 := T4.c1
  have q0 := cell_regrown T4.c0
  have q1 := cell_regrown T4.c1
  have D1 := Lib.hid (fun d os => Calls.regrown_of (HG.out (grow (redrawn w4 d) os) (HT.out.below (c4.trans ((below_regrown w4 d os).mono c4.size)))))
  have D2 := Lib.hid (fun d os => Calls.regrown_of (HS.out (grow (redrawn w4 d) os) (HT.out.below (c4.trans ((below_regrown w4 d os).mono c4.size)))))
  have D3 := Lib.hid (fun d os => Calls.regrown_of (Sh.turned a b (grow (redrawn w4 d) os)))
  clear HR HG HS HA HW
  go_wp2_with fail
  refine wp_region_quiet_below (by as_aux_lemma => kernel_rfl) (by as_aux_lemma => kernel_rfl) ?_
  repeat (go_big_quiet_step ((first
    | (go_at_call 10; with_reducible exact D1.out _ _)
    | (go_at_call 11; with_reducible exact D2.out _ _)
    | (go_at_call 12; with_reducible exact D3.out _ _))))
  refine wpQuiet_nil ?_
  intro _ hw'
  obtain ⟨⟨dq, osq⟩, hw''⟩ := hw'
  subst hw''
  have hb := below_regrown w4 dq osq
  have T5 := T4.below hb
  have c5 := c4.trans (hb.mono c4.size)
  clear t0 t1 q0 q1 D1 D2 D3 T4 c4 hb
  show Exit.then _ _ _ _ (grow (redrawn w4 dq) osq)
  generalize grow (redrawn w4 dq) osq = w5 at *
  have t0 := T5.c0
  have t1 := T5.c1
  by_cases i0 : i < 0
  · go_wp2
    go_ret
    exact ⟨by simp [go_sem], c5⟩
  · have i1 : 0 ≤ i := by omega
    go_wp2
    go_ret
    exact ⟨by simp [go_sem], c5⟩

set_option maxHeartbeats 1000000 in
set_option maxRecDepth 100000 in
theorem right (a b r c i n p ev x y f : Int) (ga : 0 < a ∧ a ≤ 4294967296) (gb : 0 < b ∧ b ≤ 4294967296) (hn : IntKind.i64.wrap (a * b) = n) (n0 : 0 ≤ n ∧ n ≤ 4294967296)
    (hAt : (r < 0 ∨ a ≤ r ∨ c < 0 ∨ b ≤ c) ∧ p = 0 ∧ ev = 2 ∨ (0 ≤ r ∧ r < a ∧ 0 ≤ c ∧ c < b) ∧ ev = 0 ∧ ∃ m, IntKind.i64.wrap (r * b) = m ∧ 0 ≤ m ∧ m ≤ 4294967296 ∧ IntKind.i64.wrap (m + c) = p)
    (hWh : (i < 0 ∨ n ≤ i) ∧ x = 0 ∧ y = 0 ∧ f = 2 ∨ (0 ≤ i ∧ i < n) ∧ f = 0 ∧ i.tdiv b = x ∧ i.tmod b = y ∧ IntKind.i64.wrap x = x)
    (hR : ∀ W, Ft.Tab W → Calls Tryd.prog 7 #[.agg #[.int .i64 a, .int .i64 b]] W fun e w' => e = .returned (.bool true) ∧ Below W.heap.size W w')
    (hG : ∀ W, Ft.Tab W → Calls Tryd.prog 10 #[.agg #[.int .i64 a, .int .i64 b]] W fun e w' => e = .returned (.bool true) ∧ Below W.heap.size W w')
    (hS : ∀ W, Ft.Tab W → Calls Tryd.prog 11 #[.agg #[.int .i64 a, .int .i64 b]] W fun e w' => e = .returned (.int .i64 n) ∧ Below W.heap.size W w')
    (hA : ∀ W, Ft.Tab W → Calls Tryd.prog 8 #[.agg #[.int .i64 a, .int .i64 b], .int .i64 r, .int .i64 c] W fun e w' => e = .returned (.tuple #[.int .i64 p, .int .i64 ev]) ∧ Below W.heap.size W w')
    (hW : ∀ W, Ft.Tab W → Calls Tryd.prog 9 #[.agg #[.int .i64 a, .int .i64 b], .int .i64 i] W fun e w' => e = .returned (.tuple #[.int .i64 x, .int .i64 y, .int .i64 f]) ∧ Below W.heap.size W w')
    (w : World) (hT : Ft.Tab w) :
    Calls Tryd.prog 3 #[.agg #[.int .i64 a, .int .i64 b], .int .i64 r, .int .i64 c, .int .i64 i] w fun e w' => e = .returned (.bool true) ∧ Below w.heap.size w w' := by
  have HR := Lib.hid hR
  have HG := Lib.hid hG
  have HS := Lib.hid hS
  have HA := Lib.hid hA
  have HW := Lib.hid hW
  have HT := Lib.hid hT
  have HB := Lib.hid (below1 w)
  clear hR hG hS hA hW hT
  have HAt := Lib.hid hAt
  have HWh := Lib.hid hWh
  clear hAt hWh
  have b0 : (b == 0) = false := by rw [beq_eq_false_iff_ne]; omega
  go_enter Tryd.func3, Tryd.ntmps3
  go_wp2_with fail
  refine (Sh.awake _ (HT.out.below (HB.out _))).mono ?_
  rintro e w1 ⟨rfl, d1⟩
  have T1 := (Tw.fresh w a b 23).below d1
  have c1 := (HB.out _).trans (d1.mono (HB.out _).size)
  clear d1
  have t0 := T1.c0
  have t1 := T1.c1
  go_wp2_with fail
  refine (HR.out _ (HT.out.below c1)).mono ?_
  rintro e w2 ⟨rfl, d2⟩
  have T2 := T1.below d2
  have c2 := c1.trans (d2.mono c1.size)
  clear d2 t0 t1 T1 c1
  have t0 := T2.c0
  have t1 := T2.c1
  go_wp2_with fail
  refine (HA.out _ (HT.out.below c2)).mono ?_
  rintro e w3 ⟨rfl, d3⟩
  have T3 := T2.below d3
  have c3 := c2.trans (d3.mono c2.size)
  clear d3 t0 t1 T2 c2
  have t0 := T3.c0
  have t1 := T3.c1
  go_wp2_with fail
  refine (HW.out _ (HT.out.below c3)).mono ?_
  rintro e w4 ⟨rfl, d4⟩
  have T4 := T3.below d4
  have c4 := c3.trans (d4.mono c3.size)
  clear d4 t0 t1 T3 c3
  have t0 := T4.c0
  have t1 := T4.c1
  have q0 := cell_regrown T4.c0
  have q1 := cell_regrown T4.c1
  have D1 := Lib.hid (fun d os => Calls.regrown_of (HG.out (grow (redrawn w4 d) os) (HT.out.below (c4.trans ((below_regrown w4 d os).mono c4.size)))))
  have D2 := Lib.hid (fun d os => Calls.regrown_of (HS.out (grow (redrawn w4 d) os) (HT.out.below (c4.trans ((below_regrown w4 d os).mono c4.size)))))
  have D3 := Lib.hid (fun d os => Calls.regrown_of (Sh.turned a b (grow (redrawn w4 d) os)))
  clear HR HG HS HA HW
  go_wp2_with fail
  refine wp_region_quiet_below (by as_aux_lemma => kernel_rfl) (by as_aux_lemma => kernel_rfl) ?_
  repeat (go_big_quiet_step ((first
    | (go_at_call 10; with_reducible exact D1.out _ _)
    | (go_at_call 11; with_reducible exact D2.out _ _)
    | (go_at_call 12; with_reducible exact D3.out _ _))))
  refine wpQuiet_nil ?_
  intro _ hw'
  obtain ⟨⟨dq, osq⟩, hw''⟩ := hw'
  subst hw''
  have hb := below_regrown w4 dq osq
  have T5 := T4.below hb
  have c5 := c4.trans (hb.mono c4.size)
  clear t0 t1 q0 q1 D1 D2 D3 T4 c4 hb
  show Exit.then _ _ _ _ (grow (redrawn w4 dq) osq)
  generalize grow (redrawn w4 dq) osq = w5 at *
  have t0 := T5.c0
  have t1 := T5.c1
  rcases HAt.out with ⟨hr, rfl, rfl⟩ | ⟨hr, rfl, m, hm, m0, m1, hm2⟩
  · by_cases r0 : r < 0
    · have := hr
      clear hr
      rcases HWh.out with ⟨hi, rfl, rfl, rfl⟩ | ⟨hi, rfl, hx, hy, hz⟩
      · by_cases i0 : i < 0
        · as_aux_lemma =>
          go_wp2
          go_ret
          exact ⟨by simp [go_sem], c5⟩
        · have i1 : n ≤ i := by omega
          as_aux_lemma =>
          go_wp2
          go_ret
          exact ⟨by simp [go_sem], c5⟩
      · have i0 : ¬ i < 0 := by omega
        have i1 : ¬ n ≤ i := by omega
        as_aux_lemma =>
        go_wp2
        go_ret
        exact ⟨by simp [go_sem], c5⟩
    by_cases r1 : a ≤ r
    · rcases HWh.out with ⟨hi, rfl, rfl, rfl⟩ | ⟨hi, rfl, hx, hy, hz⟩
      · by_cases i0 : i < 0
        · as_aux_lemma =>
          go_wp2
          go_ret
          exact ⟨by simp [go_sem], c5⟩
        · have i1 : n ≤ i := by omega
          as_aux_lemma =>
          go_wp2
          go_ret
          exact ⟨by simp [go_sem], c5⟩
      · have i0 : ¬ i < 0 := by omega
        have i1 : ¬ n ≤ i := by omega
        as_aux_lemma =>
        go_wp2
        go_ret
        exact ⟨by simp [go_sem], c5⟩
    by_cases k0 : c < 0
    · rcases HWh.out with ⟨hi, rfl, rfl, rfl⟩ | ⟨hi, rfl, hx, hy, hz⟩
      · by_cases i0 : i < 0
        · as_aux_lemma =>
          go_wp2
          go_ret
          exact ⟨by simp [go_sem], c5⟩
        · have i1 : n ≤ i := by omega
          as_aux_lemma =>
          go_wp2
          go_ret
          exact ⟨by simp [go_sem], c5⟩
      · have i0 : ¬ i < 0 := by omega
        have i1 : ¬ n ≤ i := by omega
        as_aux_lemma =>
        go_wp2
        go_ret
        exact ⟨by simp [go_sem], c5⟩
    have k1 : b ≤ c := by omega
    rcases HWh.out with ⟨hi, rfl, rfl, rfl⟩ | ⟨hi, rfl, hx, hy, hz⟩
    · by_cases i0 : i < 0
      · as_aux_lemma =>
        go_wp2
        go_ret
        exact ⟨by simp [go_sem], c5⟩
      · have i1 : n ≤ i := by omega
        as_aux_lemma =>
        go_wp2
        go_ret
        exact ⟨by simp [go_sem], c5⟩
    · have i0 : ¬ i < 0 := by omega
      have i1 : ¬ n ≤ i := by omega
      as_aux_lemma =>
      go_wp2
      go_ret
      exact ⟨by simp [go_sem], c5⟩
  · have r0 : ¬ r < 0 := by omega
    have r1 : ¬ a ≤ r := by omega
    have k0 : ¬ c < 0 := by omega
    have k1 : ¬ b ≤ c := by omega
    clear hr
    rcases HWh.out with ⟨hi, rfl, rfl, rfl⟩ | ⟨hi, rfl, hx, hy, hz⟩
    · by_cases i0 : i < 0
      · as_aux_lemma =>
        go_wp2
        go_ret
        exact ⟨by simp [go_sem], c5⟩
      · have i1 : n ≤ i := by omega
        as_aux_lemma =>
        go_wp2
        go_ret
        exact ⟨by simp [go_sem], c5⟩
    · have i0 : ¬ i < 0 := by omega
      have i1 : ¬ n ≤ i := by omega
      as_aux_lemma =>
      go_wp2
      go_ret
      exact ⟨by simp [go_sem], c5⟩

theorem walk (a b r c i : Int) (ra : -9223372036854775808 ≤ r ∧ r ≤ 9223372036854775807) (ca : -9223372036854775808 ≤ c ∧ c ≤ 9223372036854775807) (ia : -9223372036854775808 ≤ i ∧ i ≤ 9223372036854775807) (w : World) (hT : Ft.Tab w) :
    Calls Tryd.prog 3 #[.agg #[.int .i64 a, .int .i64 b], .int .i64 r, .int .i64 c, .int .i64 i] w fun e w' => e = .returned (.bool true) ∧ Below w.heap.size w w' := by
  by_cases h : Gd a b
  · obtain ⟨g1, g2, g3, g4, g5⟩ := h.bound
    have g6 : 0 < a * b := Int.mul_pos g1 g3
    obtain ⟨n, hn⟩ : ∃ n, a * b = n := ⟨_, rfl⟩
    rw [hn] at g5 g6
    have hw : IntKind.i64.wrap (a * b) = n := by rw [hn]; exact IntWalk.i64_in _ (by omega)
    have K1 := fun W (hW : Ft.Tab W) => Sh.ref a b true (by simp [h]) W
    have K2 := fun W hW => Sh.good a b true (by simp [h]) W hW
    have K3 := fun W hW => Sh.size_yes a b n h hn W hW
    have A : ∃ p ev, ((r < 0 ∨ a ≤ r ∨ c < 0 ∨ b ≤ c) ∧ p = 0 ∧ ev = 2 ∨ (0 ≤ r ∧ r < a ∧ 0 ≤ c ∧ c < b) ∧ ev = 0 ∧ ∃ m, IntKind.i64.wrap (r * b) = m ∧ 0 ≤ m ∧ m ≤ 4294967296 ∧ IntKind.i64.wrap (m + c) = p) ∧
        (∀ W, Ft.Tab W → Calls Tryd.prog 8 #[.agg #[.int .i64 a, .int .i64 b], .int .i64 r, .int .i64 c] W fun e w' => e = .returned (.tuple #[.int .i64 p, .int .i64 ev]) ∧ Below W.heap.size W w') := by
      by_cases hr : r < 0 ∨ a ≤ r
      · exact ⟨0, 2, Or.inl ⟨by omega, rfl, rfl⟩, fun W hW => Sh.at_row a b r c h hr W hW⟩
      by_cases hc : c < 0 ∨ b ≤ c
      · exact ⟨0, 2, Or.inl ⟨by omega, rfl, rfl⟩, fun W hW => Sh.at_col a b r c h (by omega) (by omega) hc W hW⟩
      have r0 : 0 ≤ r := by omega
      have r1 : r < a := by omega
      have c0 : 0 ≤ c := by omega
      have c1 : c < b := by omega
      obtain ⟨p1, p2, p3⟩ := place_lt r0 r1 c0 c1
      refine ⟨_, 0, Or.inr ⟨⟨r0, r1, c0, c1⟩, rfl, r * b, IntWalk.i64_in _ (by omega), p1, by omega, IntWalk.i64_in _ (by omega)⟩, fun W hW => Sh.at_in a b r c _ h r0 r1 c0 c1 rfl W hW⟩
    have B : ∃ x y f, ((i < 0 ∨ n ≤ i) ∧ x = 0 ∧ y = 0 ∧ f = 2 ∨ (0 ≤ i ∧ i < n) ∧ f = 0 ∧ i.tdiv b = x ∧ i.tmod b = y ∧ IntKind.i64.wrap x = x) ∧
        (∀ W, Ft.Tab W → Calls Tryd.prog 9 #[.agg #[.int .i64 a, .int .i64 b], .int .i64 i] W fun e w' => e = .returned (.tuple #[.int .i64 x, .int .i64 y, .int .i64 f]) ∧ Below W.heap.size W w') := by
      by_cases hi : i < 0 ∨ n ≤ i
      · exact ⟨0, 0, 2, Or.inl ⟨hi, rfl, rfl, rfl⟩, fun W hW => Sh.where_bad a b i n (Or.inl ⟨h, hn⟩) hi W hW⟩
      have i0 : 0 ≤ i := by omega
      refine ⟨i.tdiv b, i.tmod b, 0, Or.inr ⟨by omega, rfl, rfl, rfl, ?_⟩, fun W hW => Sh.where_in a b i n _ _ h hn i0 (by omega) rfl rfl W hW⟩
      have e0 : 0 ≤ i.tdiv b ∧ i.tdiv b ≤ i := by
        rw [Int.tdiv_eq_ediv_of_nonneg i0]
        exact ⟨Int.ediv_nonneg i0 (by omega), Int.ediv_le_self _ i0⟩
      exact IntWalk.i64_in _ (by omega)
    obtain ⟨p, ev, hA, KA⟩ := A
    obtain ⟨x, y, f, hB, KB⟩ := B
    exact right a b r c i n p ev x y f ⟨g1, g2⟩ ⟨g3, g4⟩ hw (by omega) hA hB K1 K2 K3 KA KB w hT
  · have K1 := fun W (hW : Ft.Tab W) => Sh.ref a b false (by simp [h]) W
    have K2 := fun W hW => Sh.good a b false (by simp [h]) W hW
    have K3 := fun W hW => Sh.size_no a b h W hW
    have K4 := fun W hW => Sh.at_bad a b r c h W hW
    have K5 := fun W hW => Sh.where_bad a b i 0 (Or.inr ⟨h, rfl⟩) (by omega) W hW
    exact bad a b r c i 0 0 2 0 0 2 rfl rfl rfl rfl rfl rfl K1 K2 K3 K4 K5 w hT

theorem g32 : Tryd.prog.globalNamed "math/bits.deBruijn32tab" = some 0 := by kernel_rfl
theorem g64 : Tryd.prog.globalNamed "math/bits.deBruijn64tab" = some 1 := by kernel_rfl
theorem t64 : (Tryd.prog.globals[1]?).map (·.type) = some 60 := by kernel_rfl
/-- What the row's condition gives the walk: the table's cells. -/
theorem of_laid {W : World} (h : laidMetH Tryd.prog Rows.shapePlacesRow.laid W) : Ft.Tab W := by
  rw [MakeChecks.laidMetH_plain _ _ _ (by kernel_rfl)] at h
  obtain ⟨ps, ⟨g0, t0, cs0, f0, p0, q0, hg0, ht0, hv0, hd0, ⟨g1, t1, cs1, f1, p1, q1, hg1, ht1, hv1, hd1, _, _⟩, _⟩, _, _⟩ := h
  obtain rfl := Option.some.inj (g64.symm.trans hg1)
  obtain rfl := Option.some.inj (t64.symm.trans ht1)
  have hd2 : DataW.trod _ Tryd.prog W 0 _ false f1 60 cs1.toList = some (Lib.tabData .u8 (Lib.deBruijn64tab.map Int.ofNat), p1) := hd1
  have hc := Lib.cells_of_tab Tryd.underlying60 Tryd.underlying5 (by kernel_rfl) (by kernel_rfl) hd2
  intro i hi
  have c := World.var?_cell hg1 hv1 i
  rw [c, ← Array.getElem?_toList, hc]
  have hl : Lib.deBruijn64tab.length = 64 := by decide
  simp [List.getD, hl, hi]

theorem cellsW : Tryd.prog.cellsOf 23 = 2 := by kernel_rfl

/-- The door's own heap meets the condition. -/
theorem door_met (os : Os) (args : Array Value) : laidMetH Tryd.prog Rows.shapePlacesRow.laid ((World.doorLaid Tryd.prog 400 os).forCall (fun _ _ => 0) ⟨#[], args, []⟩).memory :=
  laidMetH_of_parts3 (fuel := 8) (laidMet_of_run' 8 (by kernel_rfl) (by kernel_rfl)) (by kernel_rfl) (by kernel_rfl)
set_option maxRecDepth 100000 in
theorem lifted (os : Os) (started : os.Started) (H : Type) (enc : TypeId × Value → H) :
    ReturnsInHanded {} Tryd.checked os 3 .any (fun w args => (Rows.shapePlacesSpec.pre enc Tryd.prog Tryd.f3 [] false w args ∧ laidMetH Tryd.prog Rows.shapePlacesRow.laid w) ∧ sizedMet enc Tryd.prog Tryd.f3 (OpenSpec.ofChange Rows.shapePlacesSpec) false w args)
      (Rows.shapePlacesSpec.post enc Tryd.prog Tryd.f3 false true false false) := by
  refine returnsInHanded_of_change_and (C := Tryd.checked) (X := fun w _ => laidMetH Tryd.prog Rows.shapePlacesRow.laid w) (fun _ _ _ hh h => h.of_heap hh) Fr.own started (by kernel_rfl) Tryd.func3
    (ChangeSpec.witness_shaped (enc := enc) (C := Tryd.checked) (os := os) (X := fun w _ => laidMetH Tryd.prog Rows.shapePlacesRow.laid w) false (World.doorLaid Tryd.prog 400 os) #[.agg #[.int .i64 0, .int .i64 0], .int .i64 0, .int .i64 0, .int .i64 0] 8 rfl (World.shaped_of_RefB (by kernel_rfl) (by kernel_rfl)) (by kernel_rfl) (by kernel_rfl) (by kernel_rfl) (door_met os _)) ?_
  intro W base args ds gs before hval0 hW _ _ hL _
  have hval : ∀ (j : Nat) t v, Tryd.f3.params[j]? = some t → args[j]? = some v → Value.okWide Tryd.prog W .any base t v := hval0
  have hW' := hW
  obtain ⟨p, q, hA0, hV, rfl, hfz, hnd⟩ := hW
  have hA : DataW.TrodAll enc Tryd.prog W 0 (fun _ => true) true Tryd.f3.params.toList args.toList ds p := hA0
  obtain ⟨rfl, rfl⟩ := trodVars_none hV
  rw [Tryd.params3] at hA hval
  obtain ⟨v0, vs0, d0, ds0, p0, q0, hargs, rfl, rfl, h0, r0⟩ := trodAll_cons hA
  obtain ⟨v1, vs1, d1, ds1, p1, q1, rfl, rfl, rfl, h1, r1⟩ := trodAll_cons r0
  obtain ⟨v2, vs2, d2, ds2, p2, q2, rfl, rfl, rfl, h2, r2⟩ := trodAll_cons r1
  obtain ⟨v3, vs3, d3, ds3, p3, q3, rfl, rfl, rfl, h3, r3⟩ := trodAll_cons r2
  obtain ⟨rfl, rfl, rfl⟩ := trodAll_nil r3
  obtain rfl : args = #[v0, v1, v2, v3] := by cases args; simp_all
  obtain ⟨c00, c01, y00, y01, m0, rfl, rfl, rfl, hy00, hy01⟩ := Joins.open_agg2 Tryd.underlying23 (by kernel_rfl) cellsW (hval 0 23 v0 rfl rfl) h0
  obtain ⟨a0, e00, rfl, wa0⟩ := DataW.trod_int Tryd.underlying3 hy00
  obtain ⟨b0, e01, rfl, wb0⟩ := DataW.trod_int Tryd.underlying3 hy01
  simp at e00 e01
  subst e00 e01
  have ba0 : -9223372036854775808 ≤ a0 ∧ a0 ≤ 9223372036854775807 := by simpa [Lit.wf, IntKind.min, IntKind.max, IntKind.signed, IntKind.bits] using wa0
  have bb0 : -9223372036854775808 ≤ b0 ∧ b0 ≤ 9223372036854775807 := by simpa [Lit.wf, IntKind.min, IntKind.max, IntKind.signed, IntKind.bits] using wb0
  obtain ⟨x1, rfl, rfl, rfl, w1⟩ := open_int Tryd.underlying3 (hval 1 3 v1 rfl rfl) h1
  have b1 : -9223372036854775808 ≤ x1 ∧ x1 ≤ 9223372036854775807 := by simpa [Lit.wf, IntKind.min, IntKind.max, IntKind.signed, IntKind.bits] using w1
  obtain ⟨x2, rfl, rfl, rfl, w2⟩ := open_int Tryd.underlying3 (hval 2 3 v2 rfl rfl) h2
  have b2 : -9223372036854775808 ≤ x2 ∧ x2 ≤ 9223372036854775807 := by simpa [Lit.wf, IntKind.min, IntKind.max, IntKind.signed, IntKind.bits] using w2
  obtain ⟨x3, rfl, rfl, rfl, w3⟩ := open_int Tryd.underlying3 (hval 3 3 v3 rfl rfl) h3
  have b3 : -9223372036854775808 ≤ x3 ∧ x3 ≤ 9223372036854775807 := by simpa [Lit.wf, IntKind.min, IntKind.max, IntKind.signed, IntKind.bits] using w3
  simp only [List.append_nil] at hW'
  refine (walk a0 b0 x1 x2 x3 b1 b2 b3 W (of_laid hL)).mono fun e W' ⟨he, hb⟩ => ?_
  subst he
  exact ⟨_, rfl, Fr.law_post (tb := 4) hW' hA0 rfl rfl rfl Tryd.underlying4 (by rw [Tryd.params3]; intro t ht; simp at ht; rcases ht with rfl | rfl | rfl | rfl; all_goals exact ⟨by kernel_rfl, of_decide_eq_true (by kernel_rfl)⟩) hb⟩

theorem row_holds : Rows.ShapePlacesSaid :=
  OpenClaim.holds_of_wide 3 Tryd.f3 rfl rfl rfl rfl rfl rfl rfl ⟨rfl, rfl, rfl, rfl, rfl⟩ rfl rfl rfl rfl rfl (by kernel_rfl) Tryd.func3 (by kernel_rfl)
    (of_decide_eq_true (by kernel_rfl)) (by unfold Func.isWrapper; first | (rw [if_pos (by decide +kernel)]; kernel_rfl) | (rw [if_neg (by decide +kernel)]; exact ⟨rfl, rfl⟩))
    (fun os started H enc _ => lifted os started H enc)

theorem proved : Rows.ShapePlacesCardSaid :=
  Claim7.holds_tied_plain_at .later [] [.data, .data] true Rows.shapePlacesCard.stood.harness false
    row_holds (fun _ h => by cases h) (by kernel_rfl) (fun _ h => by cases h) shapePlaces_row_tie rfl ⟨rfl, rfl⟩ (by kernel_rfl) rfl
    (fun f fn hf hfn => by
      obtain rfl : f = 3 := Option.some.inj ((show Tryd.prog.funcNamed "abacist/abacistlaw06.ShapePlaces" = some 3 by kernel_rfl).symm.trans hf) |>.symm
      obtain rfl : fn = Tryd.f3 := (Option.some.inj (Tryd.func3.symm.trans hfn)).symm
      exact ⟨by kernel_rfl, fun j t ht => by
        rw [Tryd.params3] at ht
        have hm : t ∈ [23, 3] := by simpa using Array.mem_of_getElem? ht
        have hall : ([23, 3].all fun u => !Tryd.prog.wantsStandIn u) = true := by kernel_rfl
        exact (show Tryd.prog.wantsStandIn t = false by simpa using List.all_eq_true.1 hall t hm)⟩)
    (by kernel_rfl)
end Go.Proofs.YtfmjmopmlimnnaaDoor.shapePlaces
