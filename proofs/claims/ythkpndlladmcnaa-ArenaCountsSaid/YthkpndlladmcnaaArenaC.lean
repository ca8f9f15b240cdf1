/- Contracts of package arena: Take. -/
import Derived.Test.YthkpndlladmcnaaArenaB
import Derived.BigRegion
import Derived.Deep.RegionWith
import Derived.Deep.RegionHeld3
import Derived.Deep.DeepCutAuto
set_option linter.unusedVariables false
namespace Go.Proofs.Ythkpndlladmcnaa
open Go.RowKit Go.ChangeMaps
namespace Ar
open Ww

theorem take_arg (x : Int) (h : x < 1) (p : Addr) (w : World) : Calls Try.prog 8 #[.pointer (some p), .int .i64 x] w fun e w' => e = .returned (.tuple #[.pointer none, .int .i64 1]) ∧ w = w' := by
  go_enter Try.func8, Try.ntmps8
  go_wp2
  go_ret2
  exact ⟨by simp [go_sem], rfl⟩
section
variable {w : World} {p m cap peak k : Nat} {q n g : Nat → Nat}
theorem take_far (x : Int) (f : Nat) (h : Ab w p m cap peak k q n g) (hf : tot n k + f = cap) (h1 : 1 ≤ x) (hx : (f : Int) < x) :
    Calls Try.prog 8 #[.pointer (some ⟨p, 0, none⟩), .int .i64 x] w fun e w' => e = .returned (.tuple #[.pointer none, .int .i64 6]) ∧ ∃ j, w' = w.drewN j := by
  have F := Lib.hid (free f h hf)
  have h2 : ¬ x < 1 := by omega
  clear h hf h1
  go_enter Try.func8, Try.ntmps8
  go_wp2_with fail
  refine F.out.mono ?_
  rintro e w1 ⟨rfl, j, rfl⟩
  clear F
  go_wp2
  go_ret2
  exact ⟨by simp [go_sem], _, rfl⟩

theorem build_known (i : Int) (a : Option Addr) (n c : Nat) (W : World) : (Instr.build 46 #[(0, .int .i64 i), (1, .slice a n c)]).run Try.prog W = .ok (.agg #[.int .i64 i, .slice a n c]) W := by kernel_rfl
theorem build_buffer (i : Int) (a : Option Addr) (n c : Nat) (W : World) : (Instr.build 48 #[(0, .agg #[.int .i64 i, .slice a n c])]).run Try.prog W = .ok (.agg #[.int .i64 i, .slice a n c]) W := by kernel_rfl

/-- Behind the making of a buffer: its words, at the next block, and the buffer, behind it. -/
structure Nb (w1 w : World) (k x : Nat) : Prop where
  d : Below w1.heap.size w1 w
  hG : w.heap[w1.heap.size]? = some (.cells (madeCells #[.int .u64 0] x) 40)
  hQ : w.heap[w1.heap.size + 1]? = some (bo k (sl x w1.heap.size))
theorem nb_made (w1 : World) (k x : Nat) (h1 : 1 ≤ x) :
    Nb w1 ((w1.alloc (.cells (madeCells #[.int .u64 0] x) 40)).alloc (.cells #[.int .i64 (k : Nat), .slice (some ⟨w1.heap.size, 0, none⟩) x x] 48)).drew k x := by
  have e : (w1.alloc (.cells (madeCells #[.int .u64 0] x) 40)).heap.size = w1.heap.size + 1 := by simp
  refine ⟨(((Below.refl _ _).alloc (Nat.le_refl _) _).alloc (by omega) _).drew, ?_, ?_⟩
  · show ((w1.alloc _).alloc _).heap[w1.heap.size]? = _
    rw [Below.heap_alloc _ _ _ (by omega)]
    exact blk_new w1 _
  · show ((w1.alloc _).alloc _).heap[w1.heap.size + 1]? = _
    rw [← e, sl_pos (by omega)]
    exact blk_new _ _

/-- Behind the buffer's being laid into the map. -/
structure T5 (w w5 : World) (p m cap peak k : Nat) (q n g : Nat → Nat) (x : Nat) : Prop where
  hp : w5.heap[p]? = some (ao cap (tot n k) peak k m)
  hm : w5.heap[m]? = some (.map (ents (upd q k (w.heap.size + 1)) (upd n k x) (k + 1)) (k + 1))
  hq : ∀ i, i < k → w5.heap[q i]? = some (bo i (sl (n i) (g i)))
  hG : w5.heap[w.heap.size]? = some (.cells (madeCells #[.int .u64 0] x) 40)
  hQ : w5.heap[w.heap.size + 1]? = some (bo k (sl x w.heap.size))
  fr : Fr (fun b => b = p ∨ b = m) w w5
  pl : p < w.heap.size
  mp : m ≠ p
  qp : ∀ i, i < k → q i ≠ p
  lp : tot n k ≤ peak
  lc : peak ≤ cap
  l24 : cap ≤ 16777216
theorem t5_made {w w1 wc : World} {x : Nat} (es : w1.heap.size = w.heap.size) (H : Ab wc p m cap peak k q n g) (H1 : Ab w p m cap peak k q n g) (N : Nb w1 wc k x) (f : Fr (fun b => b = p ∨ b = m) w wc) :
    T5 w (setBlock wc.drew m (.map (ents (upd q k (w.heap.size + 1)) (upd n k x) (k + 1)) (k + 1))) p m cap peak k q n g x := by
  have hm : wc.drew.heap[m]? = some (.map (ents q n k) k) := H.hm
  have ml := H1.lt (Or.inr (Or.inl rfl))
  have ot : ∀ b, b ≠ m → (setBlock wc.drew m (.map (ents (upd q k (w.heap.size + 1)) (upd n k x) (k + 1)) (k + 1))).heap[b]? = wc.heap[b]? := fun b hb => heap_setBlock_other hm _ hb
  refine ⟨(ot _ H.pm).trans H.hp, heap_setBlock_same hm _, fun i hi => (ot _ (H.mq hi)).trans (H.hq i hi), ?_, ?_, (f.drew.map hm (Or.inl (Or.inr rfl))), H1.lt (Or.inl rfl), fun e => H.pm e.symm, fun i hi => H.pq hi, H.lp, H.lc, H.l24⟩
  · rw [ot _ (by omega), ← es]
    exact N.hG
  · rw [ot _ (by omega), ← es]
    exact N.hQ
section
variable {w5 : World} {x : Nat}
theorem T5.c1 (h : T5 w w5 p m cap peak k q n g x) : w5.cell? ⟨p, 1, none⟩ = some (.int .i64 (tot n k : Nat)) := blk_cell h.hp 1
theorem T5.c2 (h : T5 w w5 p m cap peak k q n g x) : w5.cell? ⟨p, 2, none⟩ = some (.int .i64 (peak : Nat)) := blk_cell h.hp 2
theorem T5.c3 (h : T5 w w5 p m cap peak k q n g x) : w5.cell? ⟨p, 3, none⟩ = some (.int .i64 (k : Nat)) := blk_cell h.hp 3
theorem T5.z (h : T5 w w5 p m cap peak k q n g x) (i : Nat) : w5.frozen? ⟨p, i, none⟩ = false := blk_frz h.hp i
/-- Behind the three stores. -/
theorem T5.end_ (h : T5 w w5 p m cap peak k q n g x) (h1 : 1 ≤ x) (hx : tot n k + x ≤ cap) :
    let w' := ((w5.setCell ⟨p, 3, none⟩ (.int .i64 ((k + 1 : Nat) : Int))).setCell ⟨p, 1, none⟩ (.int .i64 ((tot n k + x : Nat) : Int))).drew.setCell ⟨p, 2, none⟩ (.int .i64 ((max peak (tot n k + x) : Nat) : Int))
    Ab w' p m cap (max peak (tot n k + x)) (k + 1) (upd q k (w.heap.size + 1)) (upd n k x) (upd g k w.heap.size) ∧ Fr (fun b => b = p ∨ b = m) w w' ∧ w'.heap[w.heap.size]? = some (.cells (madeCells #[.int .u64 0] x) 40) := by
  intro w'
  have b1 := blk_put (blk_put (blk_put h.hp 3 (.int .i64 ((k + 1 : Nat) : Int))) 1 (.int .i64 ((tot n k + x : Nat) : Int))) 2 (.int .i64 ((max peak (tot n k + x) : Nat) : Int))
  have ot : ∀ b, b ≠ p → w'.heap[b]? = w5.heap[b]? := fun b hb => by
    show ((((w5.setCell _ _).setCell _ _).setCell _ _)).heap[b]? = _
    rw [Below.heap_setCell _ _ _ _ hb, Below.heap_setCell _ _ _ _ hb, Below.heap_setCell _ _ _ _ hb]
  have et : tot (upd n k x) (k + 1) = tot n k + x := by
    show tot (upd n k x) k + upd n k x k = _
    rw [tot_upd_far n k x k (Nat.le_refl _), upd_same]
  have pl := h.pl
  have G0 : w'.heap[w.heap.size]? = some (.cells (madeCells #[.int .u64 0] x) 40) := (ot _ (by omega)).trans h.hG
  refine ⟨⟨?_, (ot _ h.mp).trans h.hm, ?_, by rw [et]; exact Nat.le_max_right _ _, Nat.max_le.2 ⟨h.lc, hx⟩, h.l24⟩, ?_, G0⟩
  · rw [et]
    exact b1
  · intro i hi
    by_cases e : i = k
    · subst e
      rw [upd_same, upd_same, upd_same]
      exact (ot _ (by omega)).trans h.hQ
    · rw [upd_other _ _ _ e, upd_other _ _ _ e, upd_other _ _ _ e]
      exact (ot _ (h.qp i (by omega))).trans (h.hq i (by omega))
  · exact (((h.fr.put _ _ (Or.inl (Or.inl rfl))).put _ _ (Or.inl (Or.inl rfl))).drew).put _ _ (Or.inl (Or.inl rfl))
end

set_option maxHeartbeats 1000000 in
theorem take_ok (x : Nat) (h : Ab w p m cap peak k q n g) (h1 : 1 ≤ x) (hx : tot n k + x ≤ cap) (hk : k ≤ 1000000) :
    Calls Try.prog 8 #[.pointer (some ⟨p, 0, none⟩), .int .i64 (x : Nat)] w fun e w' => e = .returned (.tuple #[.pointer (some ⟨w.heap.size + 1, 0, none⟩), .int .i64 0]) ∧
      Ab w' p m cap (max peak (tot n k + x)) (k + 1) (upd q k (w.heap.size + 1)) (upd n k x) (upd g k w.heap.size) ∧ Fr (fun b => b = p ∨ b = m) w w' ∧ w'.heap[w.heap.size]? = some (.cells (madeCells #[.int .u64 0] x) 40) := by
  have F := Lib.hid (free (cap - tot n k) h (by omega))
  have h2 : ¬ (x : Int) < 1 := by omega
  have h3 : ¬ ((cap - tot n k : Nat) : Int) < (x : Int) := by omega
  have mk := make_words x (by have := h.l24; omega) (by have := h.l24; omega)
  have bk := build_known
  have bb := build_buffer
  have H := Lib.hid h
  have FR := Lib.hid (Fr.refl (fun b => b = p ∨ b = m) w)
  have HX := Lib.hid hx
  have H1 := Lib.hid h1
  have HK := Lib.hid hk
  clear h hx h1 hk
  go_enter Try.func8, Try.ntmps8
  go_wp2_with fail
  refine F.out.mono ?_
  rintro e w1 ⟨rfl, j, rfl⟩
  clear F
  have H2 := Lib.hid (show Ab (w.drewN j) p m cap peak k q n g from ⟨H.out.hp, H.out.hm, H.out.hq, H.out.lp, H.out.lc, H.out.l24⟩)
  have FR2 := Lib.hid (show Fr (fun b => b = p ∨ b = m) w (w.drewN j) from ⟨rfl, rfl, rfl, Nat.le_refl _, fun _ _ _ => rfl⟩)
  have es := Lib.hid (show (w.drewN j).heap.size = w.heap.size from rfl)
  clear FR
  generalize hw1 : w.drewN j = w1 at H2 FR2 es ⊢
  clear hw1
  have c3 := H2.out.c3
  have NB := Lib.hid (nb_made w1 k x H1.out)
  have c3b := (H2.out.below ((Below.refl _ _).alloc (Nat.le_refl _) (.cells (madeCells #[.int .u64 0] x) 40))).c3
  go_upto_region 5 with fail
  go_cut [6] (fun v6 wx => v6 = .pointer (some ⟨w1.heap.size + 1, 0, none⟩) ∧ Nb w1 wx k x)
  case first =>
    go_region
    all_goals (go_wp2_with fail; go_meet)
    all_goals exact ⟨rfl, NB.out⟩
  case rest =>
    obtain ⟨rfl, hcut⟩ := hcut
    have N := Lib.hid hcut
    have H3 := Lib.hid (H2.out.below hcut.d)
    have FR3 := Lib.hid (FR2.out.step (Fr.of_below hcut.d))
    rw [es.out]
    clear hcut NB c3 c3b mk bk bb
    have c4 := H3.out.c4
    have bQ := blk_cell N.out.hQ 0
    have lay := lay_in (w := wc.drew) (w.heap.size + 1) x (by have := H1.out; omega) H3.out.hm
    have T := Lib.hid (t5_made es.out H3.out H.out N.out FR3.out)
    rw [es.out] at bQ
    clear H3 N FR3
    go_upto_region 6 with fail
    go_still_tail 10, (by kernel_rfl)
    change wpList _ _ _ _ _ wc.drew
    generalize setBlock wc.drew m (Obj.map (ents (upd q k (w.heap.size + 1)) (upd n k x) (k + 1)) (k + 1)) = w5 at lay T
    generalize wc.drew = w4 at lay ⊢
    have c3 := T.out.c3
    have c1 := T.out.c1
    have c2 := T.out.c2
    have z1 := T.out.z 1
    have z2 := T.out.z 2
    have z3 := T.out.z 3
    obtain ⟨u, hu⟩ : ∃ u, u = tot n k := ⟨_, rfl⟩
    obtain ⟨U, hU⟩ : ∃ U, U = u + x := ⟨_, rfl⟩
    obtain ⟨K, hK⟩ : ∃ K, K = k + 1 := ⟨_, rfl⟩
    rw [← hu] at c1
    have e1 : IntKind.i64.wrap ((u : Int) + (x : Int)) = (U : Int) := by have := HX.out; have := H2.out.l24; rw [IntKind.wrap_i64]; omega
    have e2 : IntKind.i64.wrap ((k : Int) + 1) = (K : Int) := by have := HK.out; rw [IntKind.wrap_i64]; omega
    obtain ⟨w6, h6⟩ : ∃ w6, w6 = (w5.setCell ⟨p, 3, none⟩ (.int .i64 (K : Int))).setCell ⟨p, 1, none⟩ (.int .i64 (U : Int)) := ⟨_, rfl⟩
    have b6 := blk_put (blk_put T.out.hp 3 (.int .i64 (K : Int))) 1 (.int .i64 (U : Int))
    have EU := Lib.hid (show U = tot n k + x by omega)
    have E := Lib.hid (show Ab (w6.drew.setCell ⟨p, 2, none⟩ (.int .i64 ((max peak (tot n k + x) : Nat) : Int))) p m cap (max peak (tot n k + x)) (k + 1) (upd q k (w.heap.size + 1)) (upd n k x) (upd g k w.heap.size) ∧
      Fr (fun b => b = p ∨ b = m) w (w6.drew.setCell ⟨p, 2, none⟩ (.int .i64 ((max peak (tot n k + x) : Nat) : Int))) ∧ (w6.drew.setCell ⟨p, 2, none⟩ (.int .i64 ((max peak (tot n k + x) : Nat) : Int))).heap[w.heap.size]? = some (.cells (madeCells #[.int .u64 0] x) 40) from by
      rw [h6, hK, EU.out]
      exact T.out.end_ H1.out HX.out)
    rw [← h6] at b6
    have d1 : w6.cell? ⟨p, 1, none⟩ = some (.int .i64 (U : Int)) := blk_cell b6 1
    have d2 : w6.cell? ⟨p, 2, none⟩ = some (.int .i64 (peak : Nat)) := blk_cell b6 2
    have y2 : w6.frozen? ⟨p, 2, none⟩ = false := blk_frz b6 2
    clear T c4 bQ hu hU hK H2 HX HK H H1 b6 c2 z2
    go_upto_region 9 with fail
    rw [← h6]
    clear h6 c1 c3 z1 z3 lay e1 e2
    go_still_tail 12, (by kernel_rfl)
    change wpList _ _ _ _ _ w6.drew
    go_wp2
    · have e : max peak (tot n k + x) = U := by have := EU.out; omega
      rw [e] at E ⊢
      go_ret2
      exact ⟨by simp [go_sem], E.out⟩
    · have e : max peak (tot n k + x) = peak := by have := EU.out; omega
      rw [e] at E ⊢
      go_ret2
      exact ⟨by simp [go_sem], E.out⟩
end
end Ar
end Go.Proofs.Ythkpndlladmcnaa
