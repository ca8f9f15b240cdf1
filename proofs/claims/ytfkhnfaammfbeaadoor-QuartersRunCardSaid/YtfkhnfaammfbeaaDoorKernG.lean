/- What the laws of layer 9 share: the capacity of a row that is nil; a row that was copied by append. -/
import Derived.Test.YtfkhnfaammfbeaaDoorKernF
set_option linter.unusedVariables false
namespace Go.Proofs.YtfkhnfaammfbeaaDoor
open Go.RowKit Go.Lib Go.Sort
namespace Kn
open Nm Ww Tn Pl Td
theorem nil_cap {H : Type} {enc : TypeId × Value → H} {fuel : Nat} {A : Option Addr} {n cap : Nat} {y : DataW H × List MemPlace} {W : World} (hf : DataW.trod enc Tryd.prog W 0 (fun _ => true) true fuel 22 [.slice A n cap] = some y) : A = none → cap = 0 := by
  intro hA
  rcases Deep.open_slice1 Tryd.underlying22 cellsU hf with ⟨hcs, _⟩ | ⟨a, len, cap', m, k, V, D, Pl, hcs, _⟩
  · have : A = none ∧ n = 0 ∧ cap = 0 := by simpa using hcs
    exact this.2.2
  · have : A = some a ∧ n = len ∧ cap = cap' := by simpa using hcs
    rw [hA] at this
    cases this.1
/-- A copied row: a new slice of the same words. -/
theorem copied {w w1 w' : World} {v : Value} {xs : List Nat} {n : Nat} (hx : xs.length = n) (hl : ∀ i, i < xs.length → xs.getD i 0 < 18446744073709551616) (O1 : Ow w1 w.heap.size (.slice (some ⟨w.heap.size, 0, none⟩) 0 0) []) (b1 : Below w.heap.size w w1) (O : Ow w' w.heap.size v ([] ++ xs)) (hg : w1.grownBy w' (Value.slice (some ⟨w.heap.size, 0, none⟩) 0 0).ownBlock) :
    ∃ A ca, v = .slice A n ca ∧ Ws w' w'.heap.size A xs ∧ Below w.heap.size w w' := by
  rw [List.nil_append] at O
  have b2 := O1.grow b1 hg b1.size
  obtain ⟨A, ca, rfl, R⟩ := O.ws hl
  exact ⟨A, ca, by rw [hx], R, b2⟩
/-- .. that may be written, if it has words. -/
theorem copied_wk {w w1 w' : World} {v : Value} {xs : List Nat} {n : Nat} (hx : xs.length = n) (h0 : 0 < n) (O1 : Ow w1 w.heap.size (.slice (some ⟨w.heap.size, 0, none⟩) 0 0) []) (b1 : Below w.heap.size w w1) (O : Ow w' w.heap.size v ([] ++ xs)) (hg : w1.grownBy w' (Value.slice (some ⟨w.heap.size, 0, none⟩) 0 0).ownBlock) :
    ∃ b ca, v = .slice (some ⟨b, 0, none⟩) n ca ∧ n ≤ ca ∧ w.heap.size ≤ b ∧ JR b n (Pn.pl xs) w' w' ∧ Below w.heap.size w w' := by
  rw [List.nil_append] at O
  have b2 := O1.grow b1 hg b1.size
  subst hx
  obtain ⟨b, ca, rfl, h1, h2, h3, K⟩ := O.wk h0
  exact ⟨b, ca, rfl, h3, h1, ⟨K, But.refl _ _, h2⟩, b2⟩
/-- The inverse one of the forward one. -/
theorem back_eq (k d n d2 : Nat) (hk : k ≤ 32) (hd : d ≤ 1) (hd2 : d2 = 1 - d) (hn : n = 2 ^ k) (x : Nat → Nat) (i : Nat) (hi : i < n) : ft k d2 (Pn.pl (rg (ft k d x) n)) i = x i % 18446744069414584321 := by
  rw [hd2, ft_congr (y := ft k d x) (fun j hj => pl_rg _ _ _ (by omega)), ft_ft k d hk hd x i (by omega)]
end Kn
end Go.Proofs.YtfkhnfaammfbeaaDoor
