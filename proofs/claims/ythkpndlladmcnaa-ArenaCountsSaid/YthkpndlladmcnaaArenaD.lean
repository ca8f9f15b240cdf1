/- Contracts of package arena: release, Give, Reset. -/
import Derived.Test.YthkpndlladmcnaaArenaC
import Derived.Maps.RangeWalk
import Derived.Maps.OwnOps
import Derived.LoopTactic
set_option linter.unusedVariables false
namespace Go.Proofs.Ythkpndlladmcnaa
open Go.RowKit Go.ChangeMaps
namespace Ar
open Ww

/-- delete(m, k) at the operation, where its run is told. -/
theorem delete_at (w w' : World) {ops : Array Oper} {rest : List Oper} {o : Oper} {a : Act} {Q : Exit → Act → World → Prop} (hg : o.guard = none) (m x : Operand) (t k : TypeId)
    (hop : o.op = Op.call { callee := Callee.builtin Builtin.delete, args := #[m, x], argTypes := #[t, k] }) (u v : Value) (hm : a.eval m = u) (hx : a.eval x = v)
    (hrun : ∀ ty, (Builtin.delete_ #[t, k] ty #[u, v]).run Try.prog w = .ok (.tuple #[]) w') (hK : wpList Try.prog ops Q rest (a.put o.dst (.tuple #[])) w') : wpList Try.prog ops Q (o :: rest) a w := by
  refine wpList_plain hg fun K' hK' => ?_
  unfold Oper.wp
  simp [execOp, hop, resolve, invoke, builtin, hm, hx, hrun, Result.andThen]
  exact hK' _ _ hK

section
variable {w : World} {p m cap peak k : Nat} {q n g : Nat → Nat}
/-- Behind the deletion of buffer i's entry. -/
structure R2 (w w2 : World) (p m cap peak k : Nat) (q n g : Nat → Nat) (i : Nat) : Prop where
  a : Ab w p m cap peak k q n g
  hp : w2.heap[p]? = some (ao cap (tot n k) peak k m)
  hm : w2.heap[m]? = some (.map (ents q (upd n i 0) k) k)
  hq : ∀ j, j < k → w2.heap[q j]? = some (bo j (sl (n j) (g j)))
  fr : Fr (Mine p m k q) w w2
theorem r2_made (i : Nat) (h : Ab w p m cap peak k q n g) : R2 w (setBlock w.drew m (.map (ents q (upd n i 0) k) k)) p m cap peak k q n g i := by
  have ot : ∀ b, b ≠ m → (setBlock w.drew m (.map (ents q (upd n i 0) k) k)).heap[b]? = w.heap[b]? := fun b hb => heap_setBlock_other h.drew.hm _ hb
  exact ⟨h, (ot _ h.pm).trans h.hp, heap_setBlock_same h.drew.hm _, fun j hj => (ot _ (h.mq hj)).trans (h.hq j hj), ((Fr.refl _ w).drew).map h.drew.hm (Or.inl (Or.inr (Or.inl rfl)))⟩
theorem R2.end_ {w2 : World} {i : Nat} (h : R2 w w2 p m cap peak k q n g i) (hi : i < k) :
    let w' := (w2.drew.setCell ⟨p, 1, none⟩ (.int .i64 ((tot (upd n i 0) k : Nat) : Int))).setCell ⟨q i, 1, none⟩ (.slice none 0 0)
    Ab w' p m cap peak k q (upd n i 0) g ∧ Fr (Mine p m k q) w w' := by
  intro w'
  have e := tot_upd n i 0 k hi
  have ot : ∀ b, b ≠ p → b ≠ q i → w'.heap[b]? = w2.heap[b]? := fun b h1 h2 => by
    show ((w2.drew.setCell _ _).setCell _ _).heap[b]? = _
    rw [Below.heap_setCell _ _ _ _ h2, Below.heap_setCell _ _ _ _ h1]
    rfl
  refine ⟨⟨?_, (ot _ (fun e => h.a.pm e.symm) (fun e => h.a.mq hi e.symm)).trans h.hm, ?_, by have := h.a.lp; omega, h.a.lc, h.a.l24⟩, ?_⟩
  · show ((w2.drew.setCell _ _).setCell _ _).heap[p]? = _
    rw [Below.heap_setCell _ _ _ _ (fun e => h.a.pq hi e.symm)]
    exact blk_put (w := w2.drew) h.hp 1 _
  · intro j hj
    by_cases ej : j = i
    · subst ej
      rw [upd_same]
      have b1 : (w2.drew.setCell ⟨p, 1, none⟩ (.int .i64 ((tot (upd n j 0) k : Nat) : Int))).heap[q j]? = some (bo j (sl (n j) (g j))) := by
        rw [Below.heap_setCell _ _ _ _ (h.a.pq hj)]
        exact h.hq j hj
      exact blk_put b1 1 _
    · rw [upd_other _ _ _ ej]
      exact (ot _ (h.a.pq hj) (fun e => ej (h.a.inj hj hi e))).trans (h.hq j hj)
  · exact ((h.fr.drew).put _ _ (Or.inl (Or.inl rfl))).put _ _ (Or.inl (Or.inr (Or.inr ⟨i, hi, rfl⟩)))

set_option maxHeartbeats 1000000 in
theorem release (i : Nat) (h : Ab w p m cap peak k q n g) (hi : i < k) (h0 : n i ≠ 0) :
    Calls Try.prog 16 #[.pointer (some ⟨p, 0, none⟩), .pointer (some ⟨q i, 0, none⟩)] w fun e w' => e = .returned (.tuple #[]) ∧ Ab w' p m cap peak k q (upd n i 0) g ∧ Fr (Mine p m k q) w w' := by
  have H := Lib.hid h
  have HI := Lib.hid hi
  have c4 := h.c4
  have b0 := h.b0 hi
  have del := Lib.hid (fun ty => strike ty hi h0 h.drew.hm)
  have R := Lib.hid (r2_made i h)
  have E := Lib.hid (show ∃ T, T = tot (upd n i 0) k from ⟨_, rfl⟩)
  clear h hi h0
  go_enter Try.func16, Try.ntmps16
  go_upto_region 0 with fail
  go_still_tail 9, (by kernel_rfl)
  change wpList _ _ _ _ _ w.drew
  generalize setBlock w.drew m (.map (ents q (upd n i 0) k) k) = w2 at del R
  generalize w.drew = w1 at del ⊢
  go_upto_region 1 with (at_delete; refine delete_at w1 w2 rfl _ _ _ _ rfl _ _ rfl rfl del.out ?_)
  go_frame
  obtain ⟨T, hT⟩ := E.out
  have e1 : IntKind.i64.wrap ((tot n k : Int) - (n i : Int)) = (T : Int) := by
    have := tot_upd n i 0 k HI.out
    have := H.out.lp
    have := H.out.lc
    have := H.out.l24
    rw [IntKind.wrap_i64]
    omega
  have c1 : w2.drew.cell? ⟨p, 1, none⟩ = some (.int .i64 (tot n k : Nat)) := blk_cell (w := w2.drew) R.out.hp 1
  have z1 : w2.drew.frozen? ⟨p, 1, none⟩ = false := blk_frz (w := w2.drew) R.out.hp 1
  have LN := Lib.hid ((len (w := w2.drew) (R.out.hq i HI.out)).mono (R' := fun e w' => e = .returned (.int .i64 (n i : Nat)) ∧ w' = w2.drew) fun _ _ h => ⟨h.1, h.2.symm⟩)
  obtain ⟨w3, h3⟩ : ∃ w3, w3 = w2.drew.setCell ⟨p, 1, none⟩ (.int .i64 (T : Int)) := ⟨_, rfl⟩
  have q3 : w3.heap[q i]? = some (bo i (sl (n i) (g i))) := by
    rw [h3, Below.heap_setCell _ _ _ _ (H.out.pq HI.out)]
    exact R.out.hq i HI.out
  have x1 : w3.cell? ⟨q i, 1, none⟩ = some (sl (n i) (g i)) := blk_cell q3 1
  have y1 : w3.frozen? ⟨q i, 1, none⟩ = false := blk_frz q3 1
  have F := Lib.hid (show Ab (w3.setCell ⟨q i, 1, none⟩ (.slice none 0 0)) p m cap peak k q (upd n i 0) g ∧ Fr (Mine p m k q) w (w3.setCell ⟨q i, 1, none⟩ (.slice none 0 0)) from by
    rw [h3, hT]
    exact R.out.end_ HI.out)
  replace h3 := Lib.hid (show w3 = (w2.setCell ⟨p, 1, none⟩ (.int .i64 (T : Int))).drew from h3)
  clear hT R H HI E del q3 c4 b0
  go_still_tail 9, (by kernel_rfl)
  still_call LN.out
  repeat still_step
  refine wpStill_nil ?_
  change wpList _ _ _ _ _ w2.drew
  go_upto_region 2 with fail
  rw [← h3.out]
  clear h3 c1 z1 LN e1
  go_wp2
  go_end0
  exact ⟨rfl, F.out⟩
end
end Ar
end Go.Proofs.Ythkpndlladmcnaa
