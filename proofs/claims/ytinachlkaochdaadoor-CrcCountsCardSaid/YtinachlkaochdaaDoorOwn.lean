/- Rows of words that a call builds by append: what holds of them, and the law of one word more. -/
import Derived.Test.YtinachlkaochdaaDoorWords
import Derived.OwnWalk
set_option linter.unusedVariables false
namespace Go.Proofs.YtinachlkaochdaaDoor
open Go.RowKit
namespace Ww

/-- A word's cell. -/
def cw (x : Nat) : Value := .int .u64 (x : Nat)
/-- The slice v is nil or a block of the call's own, from block base on, that holds the words xs. -/
def Ow (w : World) (base : Nat) (v : Value) (xs : List Nat) : Prop := w.ownsRow base 52 1 v xs.length (xs.map cw)
section
variable {w w' : World} {base : Nat} {v : Value} {xs : List Nat}
theorem Ow.nil_ (w : World) (base : Nat) : Ow w base (.slice none 0 0) [] := World.ownsRow_nil w base _ 1
theorem Ow.block (h : Ow w base v xs) : ∀ g, v.ownBlock = some g → base ≤ g ∧ g < w.heap.size := World.ownsRow.lt h
theorem Ow.below (h : Ow w base v xs) (hb : Below w.heap.size w w') : Ow w' base v xs := by
  have hg := h.block
  refine ⟨h.1, ?_⟩
  rcases h.2 with h0 | ⟨g, cap, cur, rfl, h1, h2, h3⟩
  · exact Or.inl h0
  · exact Or.inr ⟨g, cap, cur, rfl, h1, by rw [hb.block g (hg g rfl).2]; exact h2, h3⟩
theorem Ow.alloc (h : Ow w base v xs) (o : Obj) : Ow (w.alloc o) base v xs := World.ownsRow.alloc h o
theorem Ow.drewN (h : Ow w base v xs) (k : Nat) : Ow (w.drewN k) base v xs := h
theorem Ow.less {b' : Nat} (h : Ow w base v xs) (hb : b' ≤ base) : Ow w b' v xs := by
  refine ⟨h.1, ?_⟩
  rcases h.2 with h0 | ⟨g, cap, cur, rfl, h1, h3⟩
  · exact Or.inl h0
  · exact Or.inr ⟨g, cap, cur, rfl, by omega, h3⟩
/-- It is a slice that holds the words. -/
theorem Ow.ws (h : Ow w base v xs) (hx : ∀ i, i < xs.length → xs.getD i 0 < 18446744073709551616) : ∃ A cap, v = .slice A xs.length cap ∧ Ws w w.heap.size A xs := by
  have hg := h.block
  rcases h.2 with ⟨rfl, h0⟩ | ⟨g, cap, cur, rfl, h1, h2, h3⟩
  · have e : xs = [] := List.length_eq_zero_iff.1 h0
    subst e
    exact ⟨none, 0, rfl, Ws.nil_ _ _ _⟩
  · refine ⟨_, cap, rfl, ⟨fun i hi => ⟨g, 0, rfl, (hg g rfl).2, ?_⟩, hx⟩⟩
    have c := World.ownsRow.cells h (g := g) rfl i (cw (xs.getD i 0)) (by simp [List.getD, hi])
    rw [add_none] at c
    exact c
end
theorem cut1 (w : World) (y : Nat) (t : TypeId) : (w.alloc (.cells #[.int .u64 y] t)).cell? ⟨w.heap.size, 0, none⟩ = some (.int .u64 y) := by simp [go_sem]
/-- append of one word. -/
theorem append1 (w : World) {ops : Array Oper} {rest : List Oper} {o : Oper} {a : Act} {Q : Exit → Act → World → Prop} (hgd : o.guard = none) (s x : Operand)
    (ho : o.op = .call { callee := .builtin .append, args := #[s, x], argTypes := #[23, 23] })
    (base : Nat) (v : Value) (xs : List Nat) (hs : a.eval s = v) (hown : Ow w base v xs) (b y : Nat) (hx : a.eval x = .slice (some ⟨b, 0, none⟩) 1 1) (hc : w.cell? ⟨b, 0, none⟩ = some (.int .u64 y))
    (hlen : xs.length + 1 ≤ 17592186044416) (hbase : base ≤ w.heap.size)
    (h : ∀ v' w', Ow w' base v' (xs ++ [y]) → w.grownBy w' v.ownBlock → wpList Tryd.prog ops Q rest (a.put o.dst v') w') : wpList Tryd.prog ops Q (o :: rest) a w := by
  obtain ⟨i, hi⟩ : ∃ i, Tryd.prog.info? 52 = some i := by
    cases e : Tryd.prog.info? 52 with
    | none => have := infoU; rw [e] at this; cases this
    | some i => exact ⟨i, rfl⟩
  have hU := infoU
  rw [hi] at hU
  simp only [Option.map_some, Option.some.injEq, Prod.mk.injEq] at hU
  refine wpList_append_own w hgd s x _ ho base _ i (.int .u64 0) 1 8 Tryd.underlying23 hi hU.1 hU.2.1 hU.2.2 rfl (by decide) v xs.length (xs.map cw) hs hown ⟨b, 0, none⟩ 1 1 [.int .u64 y] hx rfl ?_ ?_ ?_ ?_ hbase fun v' w' h1 h2 _ => h v' w' ?_ h2
  · intro j u hu
    rcases j with _ | j
    · simp at hu; subst hu; exact hc
    · simp at hu
  · intro u hu; simp at hu; subst hu; rfl
  · simp only [maxLen]; omega
  · omega
  · unfold Ow
    rw [List.map_append, List.length_append]
    exact h1
theorem Ow.grow {w w' w0 : World} {base : Nat} {v : Value} {xs : List Nat} (h : Ow w base v xs) (hb : Below base w0 w) (hg : w.grownBy w' v.ownBlock) (hB : base ≤ w.heap.size) : Below base w0 w' :=
  hb.grown hg hB fun k hk => (h.block k hk).1
/-- What a call answers that builds a row. -/
def Out (xs : List Nat) (w : World) (e : Ending) (w' : World) : Prop := ∃ v, e = .returned v ∧ Ow w' w.heap.size v xs ∧ Below w.heap.size w w'
theorem Out.mk_ {xs : List Nat} {w w' : World} {v : Value} (h : Ow w' w.heap.size v xs) (hb : Below w.heap.size w w') : Out xs w (.returned v) w' := ⟨v, rfl, h, hb⟩
end Ww
end Go.Proofs.YtinachlkaochdaaDoor
