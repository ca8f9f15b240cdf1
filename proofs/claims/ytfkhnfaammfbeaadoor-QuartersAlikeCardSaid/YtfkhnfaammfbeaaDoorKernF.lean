/- Contracts of slices.Clone of words, of package kern2's Transform, and of the laws' awake. -/
import Derived.Test.YtfkhnfaammfbeaaDoorKernE
import Derived.WalkSpells
set_option linter.unusedVariables false
namespace Go.Proofs.YtfkhnfaammfbeaaDoor
open Go.RowKit Go.Lib Go.Sort
namespace Kn
open Nm Ww Tn Pl Td

/-- A row in a new block, with a capacity. -/
def ClN (xs : List Nat) (n : Nat) (w : World) (e : Ending) (w' : World) : Prop :=
  ∃ b ca, e = .returned (.slice (some ⟨b, 0, none⟩) n ca) ∧ n ≤ ca ∧ w.heap.size ≤ b ∧ b < w'.heap.size ∧ Wk w' b 0 n (Pn.pl xs) ∧ Below w.heap.size w w'
theorem clN_of {xs : List Nat} {n : Nat} (hn : xs.length = n) (h0 : 0 < n) {w w' : World} {v : Value} (O : Ow w' w.heap.size v xs) (hb : Below w.heap.size w w') : ClN xs n w (.returned v) w' := by
  subst hn
  obtain ⟨g, cap, rfl, h1, h2, h3, K⟩ := O.wk h0
  exact ⟨g, cap, rfl, h3, h1, h2, K, hb⟩

/-- A row in a new block and OK. -/
def RwF (g : Nat → Nat) (n : Nat) (w : World) (e : Ending) (w' : World) : Prop :=
  ∃ b ca, e = .returned (.tuple #[.slice (some ⟨b, 0, none⟩) n ca, .int .i64 0]) ∧ n ≤ ca ∧ w.heap.size ≤ b ∧ b < w'.heap.size ∧ Wk w' b 0 n g ∧ Below w.heap.size w w'

theorem aw_four (k j : Nat) (hk : 2 ^ k = 4) : ft k 0 (Pn.pl [1, 0, 0, 0]) j = 1 := by
  rw [ft_zero, hk]
  generalize Nt.rt k = r
  show ((((0 + 1 * r ^ (0 * j)) + 0 * r ^ (1 * j)) + 0 * r ^ (2 * j)) + 0 * r ^ (3 * j)) % 18446744069414584321 = 1
  rw [Nat.zero_mul, Nat.zero_mul, Nat.zero_mul, Nat.zero_mul, Nat.pow_zero]
theorem ws_four (w : World) (t : TypeId) : Ws (w.alloc (.cells #[.int .u64 1, .int .u64 0, .int .u64 0, .int .u64 0] t)) (w.alloc (.cells #[.int .u64 1, .int .u64 0, .int .u64 0, .int .u64 0] t)).heap.size (some ⟨w.heap.size, 0, none⟩) [1, 0, 0, 0] := by
  refine ⟨fun i hi => ⟨w.heap.size, 0, rfl, by simp, ?_⟩, fun i hi => ?_⟩
  · rcases i with _ | _ | _ | _ | i
    · simp [go_sem]
    · simp [go_sem]
    · simp [go_sem]
    · simp [go_sem]
    · exact absurd hi (by simp)
  · rcases i with _ | _ | _ | _ | i
    · exact (by decide : (1 : Nat) < 18446744073709551616)
    · exact (by decide : (0 : Nat) < 18446744073709551616)
    · exact (by decide : (0 : Nat) < 18446744073709551616)
    · exact (by decide : (0 : Nat) < 18446744073709551616)
    · exact absurd hi (by simp)
end Kn
end Go.Proofs.YtfkhnfaammfbeaaDoor
