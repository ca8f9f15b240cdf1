/- Rows of pointers that a law builds by append, beside rows of words. -/
import Derived.Test.YtobpjlgiefnmjaaDoorBlockK
set_option linter.unusedVariables false
namespace Go.Proofs.YtobpjlgiefnmjaaDoor
open Go.RowKit Go.Lib Go.Sort
namespace Bl
open Ww Pl

theorem infoP : (Tryd.prog.info? 26).map (fun i => (i.zero, i.size, i.bytes)) = some (some (.pointer none), 1, 8) := by kernel_rfl
/-- A row of one's own of m pointers to the block at p. -/
def Po (w : World) (base : Nat) (v : Value) (m p : Nat) : Prop := w.ownsRow base 26 1 v m (List.replicate m (.pointer (some ⟨p, 0, none⟩)))
theorem Po.nil_ (w : World) (base p : Nat) : Po w base (.slice none 0 0) 0 p := World.ownsRow_nil w base _ 1
theorem owns_other {w w' : World} {base n : Nat} {e : TypeId} {v u : Value} {xs : List Value} (h : w.ownsRow base e 1 v n xs) (ha : ∀ g, v.ownBlock = some g → u.ownBlock ≠ some g) (hg : w.grownBy w' u.ownBlock) : w'.ownsRow base e 1 v n xs := by
  have hl := World.ownsRow.lt h
  refine ⟨h.1, ?_⟩
  rcases h.2 with h0 | ⟨g, cap, cur, rfl, h1, h2, h3⟩
  · exact Or.inl h0
  · exact Or.inr ⟨g, cap, cur, rfl, h1, by rw [hg.block g (hl g rfl).2 (fun e => ha g rfl e.symm)]; exact h2, h3⟩
/-- Rows of unlike types lie in unlike blocks. -/
theorem owns_apart {w : World} {b1 b2 n m : Nat} {e1 e2 : TypeId} {v u : Value} {xs ys : List Value} (h : w.ownsRow b1 e1 1 v n xs) (h2 : w.ownsRow b2 e2 1 u m ys) (hne : e1 ≠ e2) : ∀ g, v.ownBlock = some g → u.ownBlock ≠ some g := by
  intro g hv hu
  rcases h.2 with ⟨rfl, _⟩ | ⟨g1, cap, cur, rfl, _, c1, _⟩
  · cases hv
  · rcases h2.2 with ⟨rfl, _⟩ | ⟨g2, cap2, cur2, rfl, _, c2, _⟩
    · cases hu
    · cases hv
      cases hu
      rw [c1] at c2
      injection c2 with c2
      injection c2 with _ c2
      exact hne c2
theorem type_ne : 26 ≠ 37 := by decide
/-- append of one pointer. -/
theorem appendP (w : World) {ops : Array Oper} {rest : List Oper} {o : Oper} {a : Act} {Q : Exit → Act → World → Prop} (hgd : o.guard = none) (s x : Operand)
    (ho : o.op = .call { callee := .builtin .append, args := #[s, x], argTypes := #[53, 53] })
    (base : Nat) (v : Value) (m p : Nat) (hs : a.eval s = v) (hown : Po w base v m p) (b : Nat) (hx : a.eval x = .slice (some ⟨b, 0, none⟩) 1 1) (hc : w.cell? ⟨b, 0, none⟩ = some (.pointer (some ⟨p, 0, none⟩)))
    (hlen : m + 1 ≤ 17592186044416) (hbase : base ≤ w.heap.size)
    (h : ∀ v' w', Po w' base v' (m + 1) p → w.grownBy w' v.ownBlock → wpList Tryd.prog ops Q rest (a.put o.dst v') w') : wpList Tryd.prog ops Q (o :: rest) a w := by
  obtain ⟨i, hi⟩ : ∃ i, Tryd.prog.info? 26 = some i := by
    cases e : Tryd.prog.info? 26 with
    | none => have := infoP; rw [e] at this; cases this
    | some i => exact ⟨i, rfl⟩
  have hU := infoP
  rw [hi] at hU
  simp only [Option.map_some, Option.some.injEq, Prod.mk.injEq] at hU
  refine wpList_append_own w hgd s x _ ho base _ i (.pointer none) 1 8 Tryd.underlying53 hi hU.1 hU.2.1 hU.2.2 rfl (by decide) v m (List.replicate m (.pointer (some ⟨p, 0, none⟩))) hs hown ⟨b, 0, none⟩ 1 1 [(.pointer (some ⟨p, 0, none⟩))] hx rfl ?_ ?_ ?_ ?_ hbase fun v' w' h1 h2 _ => h v' w' ?_ h2
  · intro j u hu
    rcases j with _ | j
    · simp at hu; subst hu; exact hc
    · simp at hu
  · intro u hu; simp at hu; subst hu; rfl
  · simp only [maxLen]; omega
  · omega
  · unfold Po
    rw [List.replicate_succ']
    exact h1
/-- Such a row, as a slice. -/
theorem Po.pp {w : World} {base m p : Nat} {v : Value} (h : Po w base v m p) (h0 : 0 < m) : ∃ g cap, v = .slice (some ⟨g, 0, none⟩) m cap ∧ base ≤ g ∧ Pp w w.heap.size ⟨g, 0, none⟩ m p := by
  have hg := World.ownsRow.lt h
  rcases h.2 with ⟨rfl, h1⟩ | ⟨g, cap, cur, rfl, h1, h2, h3, h4⟩
  · omega
  · refine ⟨g, cap, rfl, h1, ⟨fun i hi => ?_, rfl, (hg g rfl).2⟩⟩
    have c := World.ownsRow.cells h (g := g) rfl i (.pointer (some ⟨p, 0, none⟩)) (by simp [hi])
    rw [add_none] at c
    exact c
theorem rep_step (n : Nat) (f : Nat → Nat) (xs : List Nat) (hx : rg f n = xs) (i : Nat) : rg (fun j => f (j % n)) (i * n) ++ xs = rg (fun j => f (j % n)) ((i + 1) * n) := by
  rw [Nat.succ_mul]
  unfold rg
  rw [List.range_add, List.map_append, List.map_map, ← hx]
  congr 1
  unfold rg
  refine List.map_congr_left fun j hj => ?_
  have : j < n := by simpa using hj
  show f j = f ((i * n + j) % n)
  rw [Nat.mul_comm, Nat.mul_add_mod, Nat.mod_eq_of_lt this]
theorem build_tile2 (p q r : Int) (W : World) : (Instr.build 45 #[(0, .agg #[.int .i64 p, .int .i64 q]), (1, .int .i64 r)]).run Tryd.prog W = .ok (.agg #[.int .i64 p, .int .i64 q, .int .i64 r, .int .i64 0]) W := by kernel_rfl
end Bl
end Go.Proofs.YtobpjlgiefnmjaaDoor
