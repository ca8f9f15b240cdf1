/- Contract of package block's Turn. -/
import Derived.Test.YtobpjlgiefnmjaaDoorBlockC
set_option linter.unusedVariables false
namespace Go.Proofs.YtobpjlgiefnmjaaDoor
open Go.RowKit Go.Lib Go.Sort
namespace Bl
open Ww Pl

set_option maxHeartbeats 400000 in
theorem turn_bad (p : Option Addr) (d : Int) (h : d < 1) (w : World) :
    Calls Tryd.prog 14 #[.pointer p, .int .i64 d] w fun e w' => e = .returned (.int .i64 1) ∧ w = w' := by
  go_enter Tryd.func14, Tryd.ntmps14
  go_wp2
  go_ret
  exact ⟨by simp [go_sem], rfl⟩
theorem put_c (w : World) (b i : Nat) (v u : Value) (c : w.cell? ⟨b, i, none⟩ = some u) : (w.setCell ⟨b, i, none⟩ v).cell? ⟨b, i, none⟩ = some v := World.cell?_setCell_same _ _ _ c
theorem put_o (w : World) (b i j : Nat) (v u : Value) (hne : i ≠ j) (c : w.cell? ⟨b, j, none⟩ = some u) : (w.setCell ⟨b, i, none⟩ v).cell? ⟨b, j, none⟩ = some u := by
  rw [World.cell?_setCell_other w _ _ v (by simp)]; exact c
/-- A struct of three cells that was written whole. -/
theorem Sc.put {w : World} {p : Nat} {R C : Int} {s : Value} (h : Sc w p R C s) (R' C' : Int) (s' : Value) :
    Sc (((w.setCell ⟨p, 0, none⟩ (.int .i64 R')).setCell ⟨p, 1, none⟩ (.int .i64 C')).setCell ⟨p, 2, none⟩ s') p R' C' s' := by
  have z : ∀ i, i = 0 ∨ i = 1 ∨ i = 2 → (((w.setCell ⟨p, 0, none⟩ (.int .i64 R')).setCell ⟨p, 1, none⟩ (.int .i64 C')).setCell ⟨p, 2, none⟩ s').frozen? ⟨p, i, none⟩ = false := by
    intro i hi
    rw [World.frozen?_setCell, World.frozen?_setCell, World.frozen?_setCell]
    rcases hi with rfl | rfl | rfl
    · exact h.z0
    · exact h.z1
    · exact h.z2
  have a0 := put_c w p 0 (.int .i64 R') _ h.c0
  have a1 := put_o w p 0 1 (.int .i64 R') _ (by decide) h.c1
  have a2 := put_o w p 0 2 (.int .i64 R') _ (by decide) h.c2
  have b0 := put_o _ p 1 0 (.int .i64 C') _ (by decide) a0
  have b1 := put_c _ p 1 (.int .i64 C') _ a1
  have b2 := put_o _ p 1 2 (.int .i64 C') _ (by decide) a2
  exact ⟨put_o _ p 2 0 s' _ (by decide) b0, put_o _ p 2 1 s' _ (by decide) b1, put_c _ p 2 s' _ b2, z 0 (by simp), z 1 (by simp), z 2 (by simp)⟩
/-- Noughts, of which nothing is written yet. -/
theorem tr_made (w : World) (n R C : Nat) (f : Nat → Nat) (P : Nat → Nat → Prop) (h : ∀ r c, r < R → c < C → ¬ P r c) : Tr w.heap.size n R C f (w.alloc (.cells (madeCells #[.int .u64 0] n) 37)) (w.alloc (.cells (madeCells #[.int .u64 0] n) 37)) P :=
  ⟨_, ⟨Wk.made w n _, But.refl _ _⟩, Bk.Fl.none_ h⟩
set_option maxHeartbeats 1000000 in
set_option maxRecDepth 100000 in
theorem turn {w : World} {p b R C n cap : Nat} {f : Nat → Nat} (B : Bx w p b R C n cap f) (d : Nat) (d1 : 1 ≤ d) (d2 : d ≤ 9223372036854775807) :
    Calls Tryd.prog 14 #[.pointer (some ⟨p, 0, none⟩), .int .i64 (d : Int)] w fun e w' => e = .returned (.int .i64 0) ∧ ∃ b', Bx w' p b' C R n n (tr R C f) ∧ w.heap.size ≤ b' ∧ But p w w' := by
  have hl := B.l
  have hRC : R ≤ 1048576 ∧ C ≤ 1048576 := by have := B.pos; omega
  have mk := make_wordsB n (by omega) (by omega) w
  have np : p ≠ w.heap.size := by have := B.c.lt; omega
  have nb : b ≠ w.heap.size := by have := B.s; omega
  have t2 := B.c.c2
  have d3 : ¬ (d : Int) < 1 := by omega
  have B1 := B.below (below_alloc w (.cells (madeCells #[.int .u64 0] n) 37))
  have ST := Lib.hid (fun P h => tr_made w n R C f P h)
  have bb := below_alloc w (.cells (madeCells #[.int .u64 0] n) 37)
  obtain ⟨bt, hbt⟩ : ∃ bt, bt = w.heap.size := ⟨_, rfl⟩
  have BP := Lib.hid (fun wr (h : But bt (w.alloc (.cells (madeCells #[.int .u64 0] n) 37)) wr) => show But p w wr from But.of_below (But.new bb (Nat.le_of_eq hbt.symm) h) (Nat.le_of_lt B.c.lt))
  have WB := Lib.hid (Nat.le_of_eq hbt.symm)
  rw [← hbt] at np nb ST mk
  have FN := Lib.hid (fun wr (T : Ta bt n (tr R C f) (w.alloc (.cells (madeCells #[.int .u64 0] n) 37)) wr) => show ∃ b', Bx (((wr.setCell ⟨p, 0, none⟩ (.int .i64 C)).setCell ⟨p, 1, none⟩ (.int .i64 R)).setCell ⟨p, 2, none⟩ (.slice (some ⟨bt, 0, none⟩) n n)).drew p b' C R n n (tr R C f) ∧ w.heap.size ≤ b' ∧ But p w (((wr.setCell ⟨p, 0, none⟩ (.int .i64 C)).setCell ⟨p, 1, none⟩ (.int .i64 R)).setCell ⟨p, 2, none⟩ (.slice (some ⟨bt, 0, none⟩) n n)).drew by
    have o1 := (((But.refl p wr).put 0 (.int .i64 C)).put 1 (.int .i64 R)).put 2 (.slice (some ⟨bt, 0, none⟩) n n)
    have hs : bt < wr.heap.size := by
      have := T.o.bel.size
      have e : (w.alloc (.cells (madeCells #[.int .u64 0] n) 37)).heap.size = w.heap.size + 1 := by simp
      omega
    refine ⟨bt, Bx.drew ⟨((B1.c.but T.o np).put C R _), o1.wk (Ne.symm np) hs T.k, Nat.lt_of_lt_of_le hs o1.bel.size, np, Nat.le_refl _, by rw [Nat.mul_comm]; exact B.hn, gd_comm B.g, B.l, tr_lt B.hn B.pos.1 B.lt⟩, WB.out, (But.trans (BP.out _ T.o) o1).drew⟩)
  have TL := Lib.hid (fun wr (P : Nat → Nat → Prop) (row col re ce : Nat) rs cs h1 h2 h3 h4 h5 h6 (T : Tr bt n R C f (w.alloc (.cells (madeCells #[.int .u64 0] n) 37)) wr P) =>
    (turnTile (B1.but T.bel np nb) bt row col re ce n (d : Int) rs cs P h1 h2 h3 h4 h5 h6 T.self nb np).mono fun e w' ⟨he, h⟩ => show e = Ending.returned (.tuple #[]) ∧ Tr bt n R C f (w.alloc (.cells (madeCells #[.int .u64 0] n) 37)) w' _ from ⟨he, Tr.trans T.bel h⟩)
  have AL := Lib.hid (fun wr (T : Tr bt n R C f (w.alloc (.cells (madeCells #[.int .u64 0] n) 37)) wr (fun r' _ => r' < R)) => T.all B.hn B.pos.1 (fun r c h _ => h))
  have SC := Lib.hid (fun wr (P : Nat → Nat → Prop) (T : Tr bt n R C f (w.alloc (.cells (madeCells #[.int .u64 0] n) 37)) wr P) => B1.c.but T.bel np)
  clear B B1 bb WB BP
  go_enter Tryd.func14, Tryd.ntmps14
  go_wp2_with fail
  simp only [← hbt]
  clear hbt mk t2
  generalize w.alloc (.cells (madeCells #[.int .u64 0] n) 37) = w1 at *
  go_loopw [6] (fun v6 wr => ∃ r : Nat, v6 = .int .i64 (r : Int) ∧ (r = 0 ∨ d ≤ r) ∧ r ≤ 9223372036854775807 ∧ Tr bt n R C f w1 wr (fun r' _ => r' < r)) (fun v6 _ => R - (Lib.intOf v6).toNat)
  case atStart => exact ⟨0, rfl, Or.inl rfl, by omega, ST.out _ (fun _ _ _ _ => Nat.not_lt_zero _)⟩
  case round =>
    obtain ⟨r, rfl, hr0, hr1, T⟩ := hrel
    clear ST
    have S1 := SC.out _ _ T
    have t0 := S1.c0
    have t1 := S1.c1
    by_cases hrlt : r < R
    · have r1 : (r : Int) < R := by omega
      have T0 := Lib.hid (T.iff (Q := fun r' c' => r' < r ∨ r' < r + d ∧ c' < 0) fun r' c' _ _ h => by omega)
      obtain ⟨wo, rfl⟩ : ∃ wo : World, wo = wr := ⟨_, rfl⟩
      clear T S1
      go_wp2_with fail
      go_loopw [7] (fun v7 wr => ∃ c : Nat, v7 = .int .i64 (c : Int) ∧ (c = 0 ∨ d ≤ c) ∧ c ≤ 9223372036854775807 ∧ Tr bt n R C f w1 wr (fun r' c' => r' < r ∨ r' < r + d ∧ c' < c)) (fun v7 _ => C - (Lib.intOf v7).toNat)
      case atStart => exact ⟨0, rfl, Or.inl rfl, by omega, T0.out⟩
      case round =>
        obtain ⟨c, rfl, hc0, hc1, T⟩ := hrel
        clear T0 t0 t1
        have S1 := SC.out _ _ T
        have t0 := S1.c0
        have t1 := S1.c1
        by_cases hclt : c < C
        · have c1 : (c : Int) < C := by omega
          obtain ⟨x, hx⟩ : ∃ x, x = r + d := ⟨_, rfl⟩
          obtain ⟨y, hy⟩ : ∃ y, y = c + d := ⟨_, rfl⟩
          obtain ⟨re, hre⟩ : ∃ re, re = min x R := ⟨_, rfl⟩
          obtain ⟨ce, hce⟩ : ∃ ce, ce = min y C := ⟨_, rfl⟩
          have q1 : IntKind.i64.wrap ((r : Int) + (d : Int)) = (x : Int) := by rw [IntKind.wrap_i64]; omega
          have q2 : IntKind.i64.wrap ((c : Int) + (d : Int)) = (y : Int) := by rw [IntKind.wrap_i64]; omega
          have CT := Lib.hid (TL.out wr _ r c re ce _ _ q1 q2 (by omega) (by omega) (by omega) (by omega) T)
          have CV := Lib.hid (fun w' (h : Tr bt n R C f w1 w' (fun r' c' => (r' < r ∨ r' < r + d ∧ c' < c) ∨ (r ≤ r' ∧ r' < re) ∧ c ≤ c' ∧ c' < ce)) => show Tr bt n R C f w1 w' (fun r' c' => r' < r ∨ r' < r + d ∧ c' < y) from h.iff fun r' c' h1 h2 h => by omega)
          have y1 : (y = 0 ∨ d ≤ y) ∧ y ≤ 9223372036854775807 ∧ c < y := by omega
          clear hx hy hre hce T S1
          go_wp2_with fail
          refine CT.out.mono ?_
          rintro e w2 ⟨rfl, T2⟩
          have T2 := Lib.hid (CV.out _ T2)
          clear CT CV
          go_wp2_with fail
          go_roundw
          case rel => exact ⟨y, rfl, y1.1, y1.2.1, T2.out⟩
          case measure => simp [Lib.intOf]; omega
        · have c1 : ¬ (c : Int) < C := by omega
          obtain ⟨x, hx⟩ : ∃ x, x = r + d := ⟨_, rfl⟩
          have q1 : IntKind.i64.wrap ((r : Int) + (d : Int)) = (x : Int) := by rw [IntKind.wrap_i64]; omega
          have OK := Lib.hid (T.iff (Q := fun r' _ => r' < x) fun r' c' h1 h2 h => by omega)
          have x1 : (x = 0 ∨ d ≤ x) ∧ x ≤ 9223372036854775807 ∧ r < x := by omega
          clear T hx S1
          go_wp2_with fail
          go_roundw
          case rel => exact ⟨x, rfl, x1.1, x1.2.1, OK.out⟩
          case measure => simp [Lib.intOf]; omega
    · have r1 : ¬ (r : Int) < R := by omega
      have TA := Lib.hid (AL.out _ (T.iff fun r' c' h1 h2 h => by omega))
      clear T
      have t2 := S1.c2
      have z0 := S1.z0
      have z1 := S1.z1
      have z2 := S1.z2
      have l0 := S1.drew.c0
      have l1 := S1.drew.c1
      have l2 := S1.drew.c2
      have m0 := S1.drew.z0
      have m1 := S1.drew.z1
      have m2 := S1.drew.z2
      clear S1 SC TL AL
      go_upto_region 1 with fail
      go_region
      go_wp2
      go_ret
      exact ⟨by simp [go_sem], FN.out _ TA.out⟩
end Bl
end Go.Proofs.YtobpjlgiefnmjaaDoor
