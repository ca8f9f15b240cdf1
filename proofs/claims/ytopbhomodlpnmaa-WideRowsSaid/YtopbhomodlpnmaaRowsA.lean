/- Rows of wide numbers: parts of a row, a row that a loop has made; what is kept while calls make memory. -/
import Derived.Test.YtopbhomodlpnmaaSum
import Derived.Test.YtopbhomodlpnmaaKeep
import Derived.OwnWalk
set_option linter.unusedVariables false
namespace Go.Proofs.Ytopbhomodlpnmaa
open Go.RowKit
namespace Wd
open Nm Rf

theorem Row.take {w : World} {B : Nat} {A : Option Addr} {xs : List Nat} (h : Row w B A xs) (k : Nat) : Row w B A (xs.take k) :=
  ⟨fun i hi => by
    rw [List.length_take] at hi
    obtain ⟨b, off, e, hb, c0, c1⟩ := h.at_ i (by omega)
    refine ⟨b, off, e, hb, ?_, ?_⟩
    · rw [c0]; simp [List.getD, List.getElem?_take, show i < k from by omega]
    · rw [c1]; simp [List.getD, List.getElem?_take, show i < k from by omega]⟩
theorem Row.none_ (w : World) (B : Nat) (A : Option Addr) (xs : List Nat) (h : xs = []) : Row w B A xs := ⟨fun i hi => by subst h; simp at hi⟩
theorem Row.drop {w : World} {B b off : Nat} {xs : List Nat} (h : Row w B (some ⟨b, off, none⟩) xs) (k : Nat) : Row w B (some ⟨b, off + k * 2, none⟩) (xs.drop k) :=
  ⟨fun i hi => by
    rw [List.length_drop] at hi
    obtain ⟨b', off', e, hb, c0, c1⟩ := h.at_ (k + i) (by omega)
    injection e with e
    injection e with e1 e2
    subst e1 e2
    refine ⟨b, off + k * 2, rfl, hb, ?_, ?_⟩
    · rw [show off + k * 2 + i * 2 = off + (k + i) * 2 from by omega, c0]; simp [List.getD, List.getElem?_drop]
    · rw [show off + k * 2 + i * 2 + 1 = off + (k + i) * 2 + 1 from by omega, c1]; simp [List.getD, List.getElem?_drop]⟩

theorem sum_n (A : Option Addr) (cap n : Nat) (xs : List Nat) (hn : xs.length = n) (hlen : n ≤ 9223372036854775807) (w : World) (hr : Row w w.heap.size A xs) :
    Calls Try.prog 26 #[.slice A n cap] w fun e w' => e = .returned (.agg #[.int .u64 (Nm.hi xs.sum : Nat), .int .u64 (lo xs.sum : Nat)]) ∧ Below w.heap.size w w' := by
  subst hn
  exact sum A cap xs hlen w hr

/-- A number's two cells. -/
def cw (y : Nat) : List Value := [.int .u64 (Nm.hi y : Nat), .int .u64 (lo y : Nat)]
theorem cw_length (ys : List Nat) : (ys.flatMap cw).length = ys.length * 2 := by
  induction ys with
  | nil => rfl
  | cons y ys ih => simp [List.flatMap_cons, cw, ih]; omega
theorem cw_at : ∀ (ys : List Nat) (i : Nat), i < ys.length → (ys.flatMap cw)[i * 2]? = some (.int .u64 (Nm.hi (ys.getD i 0) : Nat)) ∧ (ys.flatMap cw)[i * 2 + 1]? = some (.int .u64 (lo (ys.getD i 0) : Nat))
  | [], i, h => by simp at h
  | y :: ys, 0, _ => by simp [List.flatMap_cons, cw]
  | y :: ys, i + 1, h => by
    have := cw_at ys i (by simpa using h)
    rw [show (i + 1) * 2 = i * 2 + 1 + 1 from by omega]
    simpa [List.flatMap_cons, cw] using this

theorem own_block {w : World} {base : Nat} {e : TypeId} {v : Value} {n : Nat} {cs : List Value} (h : w.ownsRow base e 2 v n cs) : ∀ g, v.ownBlock = some g → base ≤ g ∧ g < w.heap.size := by
  intro g hg
  rcases h.2 with ⟨rfl, _⟩ | ⟨g', cap, cur, rfl, hb, hh, _⟩
  · simp [Value.ownBlock] at hg
  · simp [Value.ownBlock] at hg
    subst hg
    refine ⟨hb, ?_⟩
    apply Nat.lt_of_not_le
    intro hle
    rw [Array.getElem?_eq_none hle] at hh
    cases hh
theorem own_below {w w' : World} {base : Nat} {e : TypeId} {v : Value} {n : Nat} {cs : List Value} (h : w.ownsRow base e 2 v n cs) (hb : Below w.heap.size w w') : w'.ownsRow base e 2 v n cs := by
  have hg := own_block h
  refine ⟨h.1, ?_⟩
  rcases h.2 with h0 | ⟨g, cap, cur, rfl, h1, h2, h3⟩
  · exact Or.inl h0
  · exact Or.inr ⟨g, cap, cur, rfl, h1, by rw [hb.block g (hg g rfl).2]; exact h2, h3⟩
theorem row_of_own {w : World} {base : Nat} {e : TypeId} {v : Value} {n : Nat} {ys : List Nat} (h : w.ownsRow base e 2 v n (ys.flatMap cw)) (hn : ys.length = n) :
    ∃ A cap, v = .slice A n cap ∧ Row w w.heap.size A ys := by
  have hg := own_block h
  rcases h.2 with ⟨rfl, h0⟩ | ⟨g, cap, cur, rfl, h1, h2, h3⟩
  · exact ⟨none, 0, by rw [h0], Row.none_ _ _ _ _ (List.length_eq_zero_iff.1 (by omega))⟩
  · refine ⟨_, cap, rfl, ⟨fun i hi => ⟨g, 0, rfl, (hg g rfl).2, ?_, ?_⟩⟩⟩
    · have c := h.cells (g := g) rfl (i * 2) _ (cw_at ys i hi).1
      rw [show ((⟨g, 0, none⟩ : Addr).add (i * 2)) = ⟨g, 0 + i * 2, none⟩ from by unfold Addr.add; split <;> simp_all] at c
      exact c
    · have c := h.cells (g := g) rfl (i * 2 + 1) _ (cw_at ys i hi).2
      rw [show ((⟨g, 0, none⟩ : Addr).add (i * 2 + 1)) = ⟨g, 0 + i * 2 + 1, none⟩ from by unfold Addr.add; split <;> simp_all] at c
      exact c

theorem rev_step (xs : List Nat) (k : Nat) (h : k < xs.length) : (xs.drop (k + 1)).reverse.flatMap cw ++ cw (xs.getD k 0) = (xs.drop k).reverse.flatMap cw := by
  rw [List.drop_eq_getElem_cons h, List.reverse_cons, List.flatMap_append]
  simp [List.getD, h]
end Wd
end Go.Proofs.Ytopbhomodlpnmaa
