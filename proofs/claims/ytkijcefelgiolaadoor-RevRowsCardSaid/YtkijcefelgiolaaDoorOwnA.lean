/- Rows of words that a call copies by append: all words of a slice onto a row of its own; such a row may be written. -/
import Derived.Test.YtkijcefelgiolaaDoorOwn
import Derived.Laws.AppendOwnNone
set_option linter.unusedVariables false
namespace Go.Proofs.YtkijcefelgiolaaDoor
open Go.RowKit
namespace Ww
theorem Ow.fresh (w : World) (base : Nat) (hb : base ≤ w.heap.size) : Ow (w.alloc (.cells #[] 42)) base (.slice (some ⟨w.heap.size, 0, none⟩) 0 0) [] :=
  ⟨rfl, Or.inr ⟨w.heap.size, 0, #[], rfl, hb, heap_alloc_new w _, Nat.le_refl _, by unfold maxLen; omega, rfl, rfl⟩⟩
/-- append of all words of a slice onto a row of one's own. -/
theorem append_all (w : World) {ops : Array Oper} {rest : List Oper} {o : Oper} {a : Act} {Q : Exit → Act → World → Prop} (hgd : o.guard = none) (s x : Operand)
    (ho : o.op = .call { callee := .builtin .append, args := #[s, x], argTypes := #[22, 22] })
    (base : Nat) (v : Value) (ys : List Nat) (hs : a.eval s = v) (hown : Ow w base v ys) (B : Nat) (A : Option Addr) (cap : Nat) (xs : List Nat) (hx : a.eval x = .slice A xs.length cap) (R : Ws w B A xs) (hA : A = none → cap = 0)
    (hlen : ys.length + xs.length ≤ 17592186044416) (hbase : base ≤ w.heap.size)
    (h : ∀ v' w', Ow w' base v' (ys ++ xs) → w.grownBy w' v.ownBlock → wpList Tryd.prog ops Q rest (a.put o.dst v') w') : wpList Tryd.prog ops Q (o :: rest) a w := by
  obtain ⟨i, hi⟩ : ∃ i, Tryd.prog.info? 42 = some i := by
    cases e : Tryd.prog.info? 42 with
    | none => have := infoU; rw [e] at this; cases this
    | some i => exact ⟨i, rfl⟩
  have hU := infoU
  rw [hi] at hU
  simp only [Option.map_some, Option.some.injEq, Prod.mk.injEq] at hU
  cases A with
  | none =>
    have hc := hA rfl
    subst hc
    have hb0 : xs = [] := by
      apply Classical.byContradiction
      intro hne
      obtain ⟨b, off, e, _⟩ := R.at_ 0 (List.length_pos_iff.2 hne)
      cases e
    subst hb0
    refine wpList_append_own_none hgd s x _ ho base _ i 1 Tryd.underlying22 hi v ys.length (ys.map cw) hs hown hx (h v w ?_ (World.grownBy.refl w _))
    rw [List.append_nil]
    exact hown
  | some ad =>
    refine wpList_append_own w hgd s x _ ho base _ i (.int .u64 0) 1 8 Tryd.underlying22 hi hU.1 hU.2.1 hU.2.2 rfl (by decide) v ys.length (ys.map cw) hs hown ad xs.length cap (xs.map cw) hx ?_ ?_ ?_ ?_ ?_ hbase fun v' w' h1 h2 _ => h v' w' ?_ h2
    · simp
    · intro j u hu
      have hj : j < xs.length := by
        have := (List.getElem?_eq_some_iff.1 hu).1
        simpa using this
      obtain ⟨b, off, e, _, c⟩ := R.at_ j hj
      injection e with e
      subst e
      rw [add_none, c]
      simp [hj] at hu
      rw [← hu]
      simp [cw, List.getD, hj]
    · intro u hu
      simp at hu
      obtain ⟨b, _, rfl⟩ := hu
      rfl
    · simp only [maxLen]; omega
    · omega
    · unfold Ow
      rw [List.map_append, List.length_append]
      exact h1
/-- A row of one's own that isn't empty may be written. -/
theorem Ow.wk {w : World} {base : Nat} {v : Value} {xs : List Nat} (h : Ow w base v xs) (h0 : 0 < xs.length) :
    ∃ g cap, v = .slice (some ⟨g, 0, none⟩) xs.length cap ∧ base ≤ g ∧ g < w.heap.size ∧ xs.length ≤ cap ∧ Wk w g 0 xs.length (fun i => xs.getD i 0) := by
  have hg := h.block
  rcases h.2 with ⟨rfl, h1⟩ | ⟨g, cap, cur, rfl, h1, h2, h3, h4⟩
  · omega
  · refine ⟨g, cap, rfl, h1, (hg g rfl).2, h3, ⟨fun i hi => ?_, fun i hi => ?_⟩⟩
    · have c := World.ownsRow.cells h (g := g) rfl i (cw (xs.getD i 0)) (by simp [List.getD, hi])
      rw [add_none] at c
      exact c
    · simp [World.frozen?, h2]
end Ww
end Go.Proofs.YtkijcefelgiolaaDoor
