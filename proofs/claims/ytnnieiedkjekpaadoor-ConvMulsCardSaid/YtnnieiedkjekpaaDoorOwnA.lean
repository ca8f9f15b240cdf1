/- Rows of words that a call copies by append: all words of a slice onto a row of its own; such a row may be written. -/
import Derived.Test.YtnnieiedkjekpaaDoorOwn
import Derived.Laws.AppendOwnNone
import Derived.Maps.AppendAt
set_option linter.unusedVariables false
namespace Go.Proofs.YtnnieiedkjekpaaDoor
open Go.RowKit
namespace Ww
theorem Ow.fresh (w : World) (base : Nat) (hb : base ≤ w.heap.size) : Ow (w.alloc (.cells #[] 32)) base (.slice (some ⟨w.heap.size, 0, none⟩) 0 0) [] :=
  ⟨rfl, Or.inr ⟨w.heap.size, 0, #[], rfl, hb, heap_alloc_new w _, Nat.le_refl _, by unfold maxLen; omega, rfl, rfl⟩⟩
/-- append of all words of a slice onto a row of one's own. -/
theorem append_all (w : World) {ops : Array Oper} {rest : List Oper} {o : Oper} {a : Act} {Q : Exit → Act → World → Prop} (hgd : o.guard = none) (s x : Operand)
    (ho : o.op = .call { callee := .builtin .append, args := #[s, x], argTypes := #[22, 22] })
    (base : Nat) (v : Value) (ys : List Nat) (hs : a.eval s = v) (hown : Ow w base v ys) (B : Nat) (A : Option Addr) (cap : Nat) (xs : List Nat) (hx : a.eval x = .slice A xs.length cap) (R : Ws w B A xs) (hA : A = none → cap = 0)
    (hlen : ys.length + xs.length ≤ 17592186044416) (hbase : base ≤ w.heap.size)
    (h : ∀ v' w', Ow w' base v' (ys ++ xs) → w.grownBy w' v.ownBlock → wpList Tryd.prog ops Q rest (a.put o.dst v') w') : wpList Tryd.prog ops Q (o :: rest) a w := by
  obtain ⟨i, hi⟩ : ∃ i, Tryd.prog.info? 32 = some i := by
    cases e : Tryd.prog.info? 32 with
    | none => have := infoU; rw [e] at this; cases this
    | some i => exact ⟨i, rfl⟩
  have hU := infoU
  rw [hi] at hU
  simp only [Option.map_some, Option.some.injEq, Prod.mk.injEq] at hU
  cases A with
  | none =>
    have hc := hA rfl
    subst hc
    have hb0 : xs = [] := by
      apply Classical.byContradiction
      intro hne
      obtain ⟨b, off, e, _⟩ := R.at_ 0 (List.length_pos_iff.2 hne)
      cases e
    subst hb0
    refine wpList_append_own_none hgd s x _ ho base _ i 1 Tryd.underlying22 hi v ys.length (ys.map cw) hs hown hx (h v w ?_ (World.grownBy.refl w _))
    rw [List.append_nil]
    exact hown
  | some ad =>
    refine wpList_append_own w hgd s x _ ho base _ i (.int .u64 0) 1 8 Tryd.underlying22 hi hU.1 hU.2.1 hU.2.2 rfl (by decide) v ys.length (ys.map cw) hs hown ad xs.length cap (xs.map cw) hx ?_ ?_ ?_ ?_ ?_ hbase fun v' w' h1 h2 _ => h v' w' ?_ h2
    · simp
    · intro j u hu
      have hj : j < xs.length := by
        have := (List.getElem?_eq_some_iff.1 hu).1
        simpa using this
      obtain ⟨b, off, e, _, c⟩ := R.at_ j hj
      replace e := Option.some.inj e
      subst e
      rw [add_none, c]
      simp [hj] at hu
      rw [← hu]
      simp [cw, List.getD, hj]
    · intro u hu
      simp at hu
      obtain ⟨b, _, rfl⟩ := hu
      rfl
    · simp only [maxLen]; omega
    · omega
    · unfold Ow
      rw [List.map_append, List.length_append]
      exact h1
/-- The same of a slice that isn't nil, where the operation stands behind '&&' or '||' and is done. -/
theorem append_some_g (w : World) {ops : Array Oper} {rest : List Oper} {o : Oper} {a : Act} {Q : Exit → Act → World → Prop} (hgd : Region.wanted o (yielded ops a.tmps) = true) (s x : Operand)
    (ho : o.op = .call { callee := .builtin .append, args := #[s, x], argTypes := #[22, 22] })
    (base : Nat) (v : Value) (ys : List Nat) (hs : a.eval s = v) (hown : Ow w base v ys) (B : Nat) (ad : Addr) (cap : Nat) (xs : List Nat) (hx : a.eval x = .slice (some ad) xs.length cap) (R : Ws w B (some ad) xs)
    (hlen : ys.length + xs.length ≤ 17592186044416) (hbase : base ≤ w.heap.size)
    (h : ∀ v' w', Ow w' base v' (ys ++ xs) → w.grownBy w' v.ownBlock → wpList Tryd.prog ops Q rest (a.put o.dst v') w') : wpList Tryd.prog ops Q (o :: rest) a w := by
  obtain ⟨i, hi⟩ : ∃ i, Tryd.prog.info? 32 = some i := by
    cases e : Tryd.prog.info? 32 with
    | none => have := infoU; rw [e] at this; cases this
    | some i => exact ⟨i, rfl⟩
  have hU := infoU
  rw [hi] at hU
  simp only [Option.map_some, Option.some.injEq, Prod.mk.injEq] at hU
  refine wpList_step fun K hK => ?_
  rw [if_pos hgd]
  refine wp_append_own w s x _ ho base _ i (.int .u64 0) 1 8 Tryd.underlying22 hi hU.1 hU.2.1 hU.2.2 rfl (by decide) v ys.length (ys.map cw) hs hown ad xs.length cap (xs.map cw) hx ?_ ?_ ?_ ?_ ?_ hbase fun v' w' h1 h2 _ => hK _ _ (h v' w' ?_ h2)
  · simp
  · intro j u hu
    have hj : j < xs.length := by
      have := (List.getElem?_eq_some_iff.1 hu).1
      simpa using this
    obtain ⟨b, off, e, _, c⟩ := R.at_ j hj
    replace e := Option.some.inj e
    subst e
    rw [add_none, c]
    simp [hj] at hu
    rw [← hu]
    simp [cw, List.getD, hj]
  · intro u hu
    simp at hu
    obtain ⟨b, _, rfl⟩ := hu
    rfl
  · simp only [maxLen]; omega
  · omega
  · unfold Ow
    rw [List.map_append, List.length_append]
    exact h1
/-- append of one word, with where the new row lies: for calls that build more than one row. -/
theorem append1_at (w : World) {ops : Array Oper} {rest : List Oper} {o : Oper} {a : Act} {Q : Exit → Act → World → Prop} (hgd : o.guard = none) (s x : Operand)
    (ho : o.op = .call { callee := .builtin .append, args := #[s, x], argTypes := #[22, 22] })
    (base : Nat) (v : Value) (xs : List Nat) (hs : a.eval s = v) (hown : Ow w base v xs) (b y : Nat) (hx : a.eval x = .slice (some ⟨b, 0, none⟩) 1 1) (hc : w.cell? ⟨b, 0, none⟩ = some (.int .u64 y))
    (hlen : xs.length + 1 ≤ 17592186044416) (hbase : base ≤ w.heap.size)
    (h : ∀ v' w', Ow w' base v' (xs ++ [y]) → w.grownBy w' v.ownBlock → (v'.ownBlock = v.ownBlock ∨ v'.ownBlock = some w.heap.size) → wpList Tryd.prog ops Q rest (a.put o.dst v') w') : wpList Tryd.prog ops Q (o :: rest) a w := by
  obtain ⟨i, hi⟩ : ∃ i, Tryd.prog.info? 32 = some i := by
    cases e : Tryd.prog.info? 32 with
    | none => have := infoU; rw [e] at this; cases this
    | some i => exact ⟨i, rfl⟩
  have hU := infoU
  rw [hi] at hU
  simp only [Option.map_some, Option.some.injEq, Prod.mk.injEq] at hU
  refine wpList_append_own_at w hgd s x _ ho base _ i (.int .u64 0) 1 8 Tryd.underlying22 hi hU.1 hU.2.1 hU.2.2 rfl (by decide) v xs.length (xs.map cw) hs hown ⟨b, 0, none⟩ 1 1 [.int .u64 y] hx rfl ?_ ?_ ?_ ?_ hbase fun v' w' h1 h2 _ h3 => h v' w' ?_ h2 h3
  · intro j u hu
    rcases j with _ | j
    · simp at hu; subst hu; exact hc
    · simp at hu
  · intro u hu; simp at hu; subst hu; rfl
  · simp only [maxLen]; omega
  · omega
  · unfold Ow
    rw [List.map_append, List.length_append]
    exact h1
/-- Two rows of the call's own don't lie in one block. -/
def Apart (v u : Value) : Prop := ∀ g, v.ownBlock = some g → u.ownBlock ≠ some g
theorem Apart.symm {v u : Value} (h : Apart v u) : Apart u v := fun g h1 h2 => h g h2 h1
theorem Ow.other {w w' : World} {base : Nat} {v u : Value} {xs : List Nat} (h : Ow w base u xs) (ha : Apart v u) (hg : w.grownBy w' v.ownBlock) : Ow w' base u xs := by
  have hl := h.block
  refine ⟨h.1, ?_⟩
  rcases h.2 with h0 | ⟨g, cap, cur, rfl, h1, h2, h3⟩
  · exact Or.inl h0
  · exact Or.inr ⟨g, cap, cur, rfl, h1, by rw [hg.block g (hl g rfl).2 (fun e => ha g e.symm rfl)]; exact h2, h3⟩
theorem Apart.grown {w : World} {base : Nat} {v v' u : Value} {xs : List Nat} (ha : Apart v u) (h : Ow w base u xs) (hat : v'.ownBlock = v.ownBlock ∨ v'.ownBlock = some w.heap.size) : Apart v' u := by
  intro g h1 h2
  have hl := (h.block g h2).2
  rcases hat with e | e
  · exact ha g (e.symm.trans h1) h2
  · rw [e] at h1; cases h1; omega
/-- A row of one's own that isn't empty may be written. -/
theorem Ow.wk {w : World} {base : Nat} {v : Value} {xs : List Nat} (h : Ow w base v xs) (h0 : 0 < xs.length) :
    ∃ g cap, v = .slice (some ⟨g, 0, none⟩) xs.length cap ∧ base ≤ g ∧ g < w.heap.size ∧ xs.length ≤ cap ∧ Wk w g 0 xs.length (fun i => xs.getD i 0) := by
  have hg := h.block
  rcases h.2 with ⟨rfl, h1⟩ | ⟨g, cap, cur, rfl, h1, h2, h3, h4⟩
  · omega
  · refine ⟨g, cap, rfl, h1, (hg g rfl).2, h3, ⟨fun i hi => ?_, fun i hi => ?_⟩⟩
    · have c := World.ownsRow.cells h (g := g) rfl i (cw (xs.getD i 0)) (by simp [List.getD, hi])
      rw [add_none] at c
      exact c
    · simp [World.frozen?, h2]
end Ww
end Go.Proofs.YtnnieiedkjekpaaDoor
