/- Contracts of package wide's functions: what each answers of every wide number, and that nothing that was there is written. -/
import Derived.Test.YtnnieiedkjekpaaDoorBits
import Derived.Test.YtnnieiedkjekpaaDoorNum
import Derived.Deep.QuietTactic
import Derived.BigQuiet
set_option linter.unusedVariables false
namespace Go.Proofs.YtnnieiedkjekpaaDoor
open Go.RowKit Go.Lib
namespace Wd
open Nm

set_option maxHeartbeats 400000 in
theorem mul (x y : Nat) (hx : x < 18446744073709551616) (hy : y < 18446744073709551616) (w : World) :
    Calls Tryd.prog 58 #[.int .u64 x, .int .u64 y] w fun e w' => e = .returned (.agg #[.int .u64 (hi (x * y) : Nat), .int .u64 (lo (x * y) : Nat)]) ∧ Below w.heap.size w w' := by
  have hh : x * y / 18446744073709551616 = hi (x * y) := by
    have : x * y < 18446744073709551616 * 18446744073709551616 := Nat.mul_lt_mul'' hx hy
    unfold hi; rw [Nat.mod_eq_of_lt]; omega
  have hl : x * y % 18446744073709551616 = lo (x * y) := rfl
  have C := Bt.mul64 x y hx hy
  rw [hh, hl] at C
  have HC := Lib.hid C
  clear hh hl C hx hy
  generalize hi (x * y) = a at HC ⊢
  generalize lo (x * y) = b at HC ⊢
  go_enter Tryd.func58, Tryd.ntmps58
  go_wp2_with fail
  refine (HC.out _).mono ?_
  rintro e w' ⟨rfl, rfl⟩
  go_wp2
  exact bodyPost_ret (v := .agg #[.int .u64 a, .int .u64 b]) (by simp [results, Tryd.results58, go_sem]) rfl ⟨rfl, (Below.refl _ _).alloc (Nat.le_refl _) _⟩


end Wd
end Go.Proofs.YtnnieiedkjekpaaDoor
