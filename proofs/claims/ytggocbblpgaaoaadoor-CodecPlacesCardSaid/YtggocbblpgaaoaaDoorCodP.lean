/- Bytes that a call copies by append, and may write; what layer 4's law of places asks of them. -/
import Derived.Test.YtggocbblpgaaoaaDoorCodW
import Derived.Laws.AppendOwnNone
set_option linter.unusedVariables false
namespace Go.Proofs.YtggocbblpgaaoaaDoor
open Go.RowKit
namespace Ww
theorem Ob.fresh (w : World) (base : Nat) (hb : base ≤ w.heap.size) : Ob (w.alloc (.cells #[] 5)) base (.slice (some ⟨w.heap.size, 0, none⟩) 0 0) [] :=
  ⟨rfl, Or.inr ⟨w.heap.size, 0, #[], rfl, hb, heap_alloc_new w _, Nat.le_refl _, by unfold maxLen; omega, rfl, rfl⟩⟩
/-- append of all bytes of a slice onto none. -/
theorem append_all (w : World) {ops : Array Oper} {rest : List Oper} {o : Oper} {a : Act} {Q : Exit → Act → World → Prop} (hgd : o.guard = none) (s x : Operand)
    (ho : o.op = .call { callee := .builtin .append, args := #[s, x], argTypes := #[23, 23] })
    (base : Nat) (v : Value) (hs : a.eval s = v) (hown : Ob w base v []) (B : Nat) (A : Option Addr) (cap : Nat) (bs : List UInt8) (hx : a.eval x = .slice A bs.length cap) (R : Bs w B A bs) (hA : A = none → cap = 0)
    (hlen : bs.length ≤ 17592186044416) (hbase : base ≤ w.heap.size)
    (h : ∀ v' w', Ob w' base v' bs → w.grownBy w' v.ownBlock → wpList Tryd.prog ops Q rest (a.put o.dst v') w') : wpList Tryd.prog ops Q (o :: rest) a w := by
  obtain ⟨i, hi⟩ : ∃ i, Tryd.prog.info? 5 = some i := by
    cases e : Tryd.prog.info? 5 with
    | none => have := infoB; rw [e] at this; cases this
    | some i => exact ⟨i, rfl⟩
  have hU := infoB
  rw [hi] at hU
  simp only [Option.map_some, Option.some.injEq, Prod.mk.injEq] at hU
  cases A with
  | none =>
    have hc := hA rfl
    subst hc
    have hb0 : bs = [] := by
      apply Classical.byContradiction
      intro hne
      obtain ⟨b, off, e, _⟩ := R.at_ 0 (List.length_pos_iff.2 hne)
      cases e
    subst hb0
    exact wpList_append_own_none hgd s x _ ho base _ i 1 Tryd.underlying23 hi v 0 [] hs hown hx (h v w hown (World.grownBy.refl w _))
  | some ad =>
    refine wpList_append_own w hgd s x _ ho base _ i (.int .u8 0) 1 1 Tryd.underlying23 hi hU.1 hU.2.1 hU.2.2 rfl (by decide) v 0 [] hs hown ad bs.length cap (Lib.byteCells bs) hx ?_ ?_ ?_ ?_ ?_ hbase fun v' w' h1 h2 _ => h v' w' ?_ h2
    · simp [Lib.byteCells]
    · intro j u hu
      have hj : j < bs.length := by
        have := (List.getElem?_eq_some_iff.1 hu).1
        simpa [Lib.byteCells] using this
      obtain ⟨b, off, e, _, c⟩ := R.at_ j hj
      injection e with e
      subst e
      rw [add_none, c]
      simp [Lib.byteCells, hj] at hu
      rw [← hu]
      simp [List.getD, hj]
    · intro u hu
      simp [Lib.byteCells] at hu
      obtain ⟨b, _, rfl⟩ := hu
      rfl
    · simp only [maxLen]; omega
    · omega
    · unfold Ob
      rw [Nat.zero_add, List.nil_append] at h1
      exact h1
/-- A row of one's own that isn't empty may be written. -/
theorem Ob.bk {w : World} {base : Nat} {v : Value} {bs : List UInt8} (h : Ob w base v bs) (h0 : 0 < bs.length) :
    ∃ g cap, v = .slice (some ⟨g, 0, none⟩) bs.length cap ∧ base ≤ g ∧ g < w.heap.size ∧ bs.length ≤ cap ∧ Bk w g bs.length (fun i => (bs.getD i 0).toNat) := by
  have hg := h.block
  rcases h.2 with ⟨rfl, h1⟩ | ⟨g, cap, cur, rfl, h1, h2, h3, h4⟩
  · omega
  · refine ⟨g, cap, rfl, h1, (hg g rfl).2, h3, ⟨fun i hi => ?_, fun i hi => ?_⟩⟩
    · have c := World.ownsRow.cells h (g := g) rfl i (.int .u8 ((bs.getD i 0).toNat : Nat)) (by simp [Lib.byteCells, List.getD, hi])
      rw [add_none, Nat.zero_add] at c
      exact c
    · simp [World.frozen?, h2]
end Ww
namespace Cw
open Ww Cd Cc Cr
theorem pf_lay (bs : List UInt8) (k x : Nat) (h : k + 8 ≤ bs.length) : ∀ j, j < bs.length → pf (fun i => (bs.getD i 0).toNat) k x 8 j = ((lay bs k x).getD j 0).toNat := by
  intro j hj
  unfold pf lay
  by_cases h1 : k ≤ j ∧ j < k + 8
  · rw [if_pos h1]
    have e : (bs.take k ++ (le 8 x ++ bs.drop (k + 8))).getD j 0 = (le 8 x).getD (j - k) 0 := by
      simp only [List.getD]
      rw [List.getElem?_append_right (by simp; omega), List.length_take, Nat.min_eq_left (by omega), List.getElem?_append_left (by rw [le_len]; omega)]
    rw [e, le_getD 8 x (j - k) (by omega), toNat_mod]
  · rw [if_neg h1]
    by_cases h2 : j < k
    · have e : (bs.take k ++ (le 8 x ++ bs.drop (k + 8))).getD j 0 = bs.getD j 0 := by
        simp only [List.getD]
        rw [List.getElem?_append_left (by simp; omega), List.getElem?_take, if_pos h2]
      rw [e]
    · have e : (bs.take k ++ (le 8 x ++ bs.drop (k + 8))).getD j 0 = bs.getD j 0 := by
        simp only [List.getD]
        rw [List.getElem?_append_right (by simp; omega), List.length_take, Nat.min_eq_left (by omega), List.getElem?_append_right (by rw [le_len]; omega), le_len, List.getElem?_drop, show k + 8 + (j - k - 8) = j from by omega]
      rw [e]
theorem form_one (x : Nat) : form [x] = le 8 x := by simp [form]
theorem ws_one (W : World) (x : Nat) (t : TypeId) (h : x < 18446744073709551616) : Ws (W.alloc (.cells #[.int .u64 (x : Nat)] t)) (W.alloc (.cells #[.int .u64 (x : Nat)] t)).heap.size (some ⟨W.heap.size, 0, none⟩) [x] :=
  ws_built W [x] t (by
    intro i hi
    have h2 : i < 1 := hi
    obtain rfl : i = 0 := by omega
    exact h)
end Cw
end Go.Proofs.YtggocbblpgaaoaaDoor
