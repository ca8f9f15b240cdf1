/- Layer 15: the document's own disk: a list of sectors in memory, and the contracts of abacistref15. -/
import Derived.Test.YtfjlhbamldgklaaBytes
import Derived.OwnWalk
import Derived.LoopTactic
import Derived.Lib.Walk
import Derived.BigRegion
import Derived.Deep.DeepCutAuto
set_option linter.unusedVariables false
namespace Go.Proofs.Ytfjlhbamldgklaa
open Go.RowKit Go.Lib
namespace Dk
open Ww

/-- A sector: what is safe, what is read, whether it is in the cache, whether it was ever written. -/
structure Sec where
  safe : ByteArray
  now : ByteArray
  dirty : Bool
  touched : Bool
def cs (s : Sec) : List Value := [.string s.safe, .string s.now, .bool s.dirty, .bool s.touched]
/-- The cells of n sectors. -/
def flat (f : Nat → Sec) : Nat → List Value
  | 0 => []
  | n + 1 => flat f n ++ cs (f n)
def put (f : Nat → Sec) (i : Nat) (s : Sec) : Nat → Sec := fun j => if j = i then s else f j
theorem put_same (f : Nat → Sec) (i : Nat) (s : Sec) : put f i s i = s := if_pos rfl
theorem put_other (f : Nat → Sec) (i : Nat) (s : Sec) {j : Nat} (h : j ≠ i) : put f i s j = f j := if_neg h
theorem put_put (f : Nat → Sec) (i : Nat) (s t : Sec) : put (put f i s) i t = put f i t := by
  funext j
  unfold put
  by_cases h : j = i
  · rw [if_pos h, if_pos h]
  · rw [if_neg h, if_neg h, if_neg h]
theorem flat_len (f : Nat → Sec) : ∀ n, (flat f n).length = n * 4
  | 0 => rfl
  | n + 1 => by
    show (flat f n ++ cs (f n)).length = _
    rw [List.length_append, flat_len f n]
    show n * 4 + 4 = _
    omega
theorem flat_at (f : Nat → Sec) : ∀ n i k, i < n → k < 4 → (flat f n)[i * 4 + k]? = (cs (f i))[k]?
  | 0, i, k, h, _ => absurd h (by omega)
  | n + 1, i, k, h, hk => by
    show (flat f n ++ cs (f n))[i * 4 + k]? = _
    by_cases e : i = n
    · subst e
      rw [List.getElem?_append_right (by rw [flat_len]; omega), flat_len, show i * 4 + k - i * 4 = k by omega]
    · rw [List.getElem?_append_left (by rw [flat_len]; omega), flat_at f n i k (by omega) hk]
theorem flat_congr {f g : Nat → Sec} : ∀ n, (∀ i, i < n → f i = g i) → flat f n = flat g n
  | 0, _ => rfl
  | n + 1, h => by
    show flat f n ++ cs (f n) = flat g n ++ cs (g n)
    rw [flat_congr n (fun i hi => h i (by omega)), h n (by omega)]
theorem flat_put (f : Nat → Sec) (n i k : Nat) (x : Value) (s : Sec) (hi : i < n) (hk : k < 4) (hs : cs s = (cs (f i)).set k x) : (flat f n).set (i * 4 + k) x = flat (put f i s) n := by
  apply List.ext_getElem?
  intro j
  by_cases hj : j < n * 4
  · have e : j = j / 4 * 4 + j % 4 := by omega
    have h1 : j / 4 < n := by omega
    have h2 : j % 4 < 4 := by omega
    rw [List.getElem?_set, e, flat_at _ n _ _ h1 h2, flat_at _ n _ _ h1 h2]
    by_cases e1 : j / 4 = i
    · rw [e1, put_same, hs, List.getElem?_set]
      by_cases e2 : k = j % 4
      · rw [if_pos (by omega), if_pos (by rw [flat_len]; omega), if_pos e2, if_pos (by show _ < 4; omega)]
      · rw [if_neg (by omega), if_neg e2]
    · rw [put_other _ _ _ e1, if_neg (by omega)]
  · rw [List.getElem?_eq_none (by rw [List.length_set, flat_len]; omega), List.getElem?_eq_none (by rw [flat_len]; omega)]

/-- The slice v, nil or a block of one's own from base on, holds n sectors. -/
def Sx (w : World) (base : Nat) (v : Value) (f : Nat → Sec) (n : Nat) : Prop := w.ownsRow base 71 4 v n (flat f n)
section
variable {w w' : World} {base n : Nat} {v : Value} {f g : Nat → Sec}
theorem Sx.nil_ (w : World) (base : Nat) (f : Nat → Sec) : Sx w base (.slice none 0 0) f 0 := World.ownsRow_nil w base _ 4
theorem Sx.congr (h : Sx w base v f n) (e : ∀ i, i < n → f i = g i) : Sx w base v g n := by
  unfold Sx at h ⊢
  rw [← flat_congr n e]
  exact h
theorem Sx.below (h : Sx w base v f n) (hb : Below w.heap.size w w') : Sx w' base v f n := by
  have hl := World.ownsRow.lt h
  refine ⟨h.1, ?_⟩
  rcases h.2 with h0 | ⟨g, cap, cur, rfl, h1, h2, h3⟩
  · exact Or.inl h0
  · exact Or.inr ⟨g, cap, cur, rfl, h1, by rw [hb.block g (hl g rfl).2]; exact h2, h3⟩
theorem Sx.less {b' : Nat} (h : Sx w base v f n) (hb : b' ≤ base) : Sx w b' v f n := by
  refine ⟨h.1, ?_⟩
  rcases h.2 with h0 | ⟨g, cap, cur, rfl, h1, h3⟩
  · exact Or.inl h0
  · exact Or.inr ⟨g, cap, cur, rfl, by omega, h3⟩
theorem Sx.slice (h : Sx w base v f n) : ∃ A c, v = .slice A n c := by
  rcases h.2 with ⟨rfl, rfl⟩ | ⟨g1, cap, cur, rfl, _⟩
  · exact ⟨none, 0, rfl⟩
  · exact ⟨_, cap, rfl⟩
/-- A cell of a sector. -/
theorem Sx.at_ {A : Option Addr} {c : Nat} (h : Sx w base (.slice A n c) f n) (h0 : 0 < n) : ∃ g, A = some ⟨g, 0, none⟩ ∧ base ≤ g ∧ g < w.heap.size ∧
    ∀ i, i < n → ∀ k, k < 4 → w.cell? ⟨g, i * 4 + k, none⟩ = (cs (f i))[k]? ∧ w.frozen? ⟨g, i * 4 + k, none⟩ = false := by
  rcases h.2 with ⟨_, rfl⟩ | ⟨g, cap, cur, e, hb, hg, hl, hm, hs, ht⟩
  · omega
  · cases e
    refine ⟨g, rfl, hb, (Array.getElem?_eq_some_iff.1 hg).1, fun i hi k hk => ⟨?_, by simp [World.frozen?, hg]⟩⟩
    rw [← flat_at f n i k hi hk, ← ht, List.getElem?_take, if_pos (by omega), Array.getElem?_toList]
    simp [World.cell?, hg]
/-- A cell of a sector is written. -/
theorem Sx.store {g0 c : Nat} (h : Sx w base (.slice (some ⟨g0, 0, none⟩) n c) f n) (i k : Nat) (x : Value) (s : Sec) (hi : i < n) (hk : k < 4) (hs : cs s = (cs (f i)).set k x) :
    Sx (w.setCell ⟨g0, i * 4 + k, none⟩ x) base (.slice (some ⟨g0, 0, none⟩) n c) (put f i s) n := by
  refine ⟨flat_len _ _, ?_⟩
  rcases h.2 with ⟨e, rfl⟩ | ⟨g', cap, cur, e, hb, hg, hl, hm, hz, ht⟩
  · cases e
  · cases e
    refine Or.inr ⟨g0, c, cur.setIfInBounds (i * 4 + k) x, rfl, hb, by simp [World.setCell, Array.getElem?_modify, hg], hl, hm, by rw [Array.size_setIfInBounds]; exact hz, ?_⟩
    rw [← flat_put f n i k x s hi hk hs, ← ht, Array.toList_setIfInBounds, List.take_set]
end
theorem infoS : (Try.prog.info? 71).map (fun i => (i.zero, i.size, i.bytes)) = some (some (.agg #[.string ⟨#[]⟩, .string ⟨#[]⟩, .bool false, .bool false]), 4, 40) := by kernel_rfl
theorem one_cell {f : Nat → Sec} : ∀ n, ∀ u ∈ flat f n, u.oneCell' = true
  | 0, u, h => by cases h
  | n + 1, u, h => by
    rcases List.mem_append.1 h with h | h
    · exact one_cell n u h
    · simp [cs] at h
      rcases h with rfl | rfl | rfl | rfl <;> rfl
/-- append of one sector. -/
theorem append1 (w : World) {ops : Array Oper} {rest : List Oper} {o : Oper} {a : Act} {Q : Exit → Act → World → Prop} (hgd : o.guard = none) (s x : Operand)
    (ho : o.op = .call { callee := .builtin .append, args := #[s, x], argTypes := #[41, 41] })
    (base : Nat) (v : Value) (f : Nat → Sec) (n : Nat) (hs : a.eval s = v) (hown : Sx w base v f n) (b : Nat) (t : Sec) (hx : a.eval x = .slice (some ⟨b, 0, none⟩) 1 1) (e : TypeId) (hc : w.heap[b]? = some (.cells (cs t).toArray e))
    (hlen : n + 1 ≤ 1099511627776) (hbase : base ≤ w.heap.size)
    (h : ∀ v' w', Sx w' base v' (put f n t) (n + 1) → w.grownBy w' v.ownBlock → wpList Try.prog ops Q rest (a.put o.dst v') w') : wpList Try.prog ops Q (o :: rest) a w := by
  obtain ⟨i, hi⟩ : ∃ i, Try.prog.info? 71 = some i := by
    cases e : Try.prog.info? 71 with
    | none => have := infoS; rw [e] at this; cases this
    | some i => exact ⟨i, rfl⟩
  have hU := infoS
  rw [hi] at hU
  simp only [Option.map_some, Option.some.injEq, Prod.mk.injEq] at hU
  refine wpList_append_own w hgd s x _ ho base _ i _ 4 40 Try.underlying41 hi hU.1 hU.2.1 hU.2.2 rfl (by decide) v n (flat f n) hs hown ⟨b, 0, none⟩ 1 1 (cs t) hx rfl ?_ ?_ ?_ ?_ hbase fun v' w' h1 h2 _ => h v' w' ?_ h2
  · intro j u hu
    rw [add_none, Nat.zero_add]
    simp only [World.cell?, hc]
    simpa using hu
  · intro u hu
    simp [cs] at hu
    rcases hu with rfl | rfl | rfl | rfl <;> rfl
  · simp only [maxLen]; omega
  · omega
  · unfold Sx
    show w'.ownsRow base _ 4 v' (n + 1) (flat (put f n t) n ++ cs (put f n t n))
    rw [put_same, flat_congr (g := f) n (fun i hi => put_other f n t (by omega))]
    exact h1
/-- append of all sectors onto none. -/
theorem append_all (w : World) {ops : Array Oper} {rest : List Oper} {o : Oper} {a : Act} {Q : Exit → Act → World → Prop} (hgd : o.guard = none) (s x : Operand)
    (ho : o.op = .call { callee := .builtin .append, args := #[s, x], argTypes := #[41, 41] })
    (base : Nat) (v : Value) (f : Nat → Sec) (n c : Nat) (hs : a.eval s = v) (hown : Sx w base v f 0) (B : Nat) (A : Option Addr) (hx : a.eval x = .slice A n c) (R : Sx w B (.slice A n c) f n) (h0 : 0 < n)
    (hlen : n ≤ 1099511627776) (hbase : base ≤ w.heap.size)
    (h : ∀ v' w', Sx w' base v' f n → w.grownBy w' v.ownBlock → wpList Try.prog ops Q rest (a.put o.dst v') w') : wpList Try.prog ops Q (o :: rest) a w := by
  obtain ⟨i, hi⟩ : ∃ i, Try.prog.info? 71 = some i := by
    cases e : Try.prog.info? 71 with
    | none => have := infoS; rw [e] at this; cases this
    | some i => exact ⟨i, rfl⟩
  have hU := infoS
  rw [hi] at hU
  simp only [Option.map_some, Option.some.injEq, Prod.mk.injEq] at hU
  obtain ⟨g, rfl, hg, hl, hc⟩ := R.at_ h0
  refine wpList_append_own w hgd s x _ ho base _ i _ 4 40 Try.underlying41 hi hU.1 hU.2.1 hU.2.2 rfl (by decide) v 0 [] hs hown ⟨g, 0, none⟩ n c (flat f n) hx (flat_len f n) ?_ (one_cell n) ?_ ?_ hbase fun v' w' h1 h2 _ => h v' w' ?_ h2
  · intro j u hu
    have hj : j < n * 4 := by
      have := (List.getElem?_eq_some_iff.1 hu).1
      rw [flat_len] at this
      exact this
    rw [add_none, Nat.zero_add, ← hu, show j = j / 4 * 4 + j % 4 by omega, (hc (j / 4) (by omega) (j % 4) (by omega)).1, flat_at f n _ _ (by omega) (by omega)]
  · simp only [maxLen]; omega
  · omega
  · unfold Sx
    rw [Nat.zero_add, List.nil_append] at h1
    exact h1
end Dk
end Go.Proofs.Ytfjlhbamldgklaa
