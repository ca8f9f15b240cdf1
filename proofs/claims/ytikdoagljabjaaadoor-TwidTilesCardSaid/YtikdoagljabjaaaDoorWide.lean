/- Contracts of package wide's functions: what each answers of every wide number, and that nothing that was there is written. -/
import Derived.Test.YtikdoagljabjaaaDoorBits
import Derived.Test.YtikdoagljabjaaaDoorNum
import Derived.Deep.QuietTactic
import Derived.BigQuiet
set_option linter.unusedVariables false
namespace Go.Proofs.YtikdoagljabjaaaDoor
open Go.RowKit Go.Lib
namespace Wd
open Nm

set_option maxHeartbeats 400000 in
theorem mul (x y : Nat) (hx : x < 18446744073709551616) (hy : y < 18446744073709551616) (w : World) :
    Calls Tryd.prog 46 #[.int .u64 x, .int .u64 y] w fun e w' => e = .returned (.agg #[.int .u64 (hi (x * y) : Nat), .int .u64 (lo (x * y) : Nat)]) ∧ Below w.heap.size w w' := by
  have hh : x * y / 18446744073709551616 = hi (x * y) := by
    have : x * y < 18446744073709551616 * 18446744073709551616 := Nat.mul_lt_mul'' hx hy
    unfold hi; rw [Nat.mod_eq_of_lt]; omega
  have hl : x * y % 18446744073709551616 = lo (x * y) := rfl
  have C := Bt.mul64 x y hx hy
  rw [hh, hl] at C
  have HC := Lib.hid C
  clear hh hl C hx hy
  generalize hi (x * y) = a at HC ⊢
  generalize lo (x * y) = b at HC ⊢
  go_enter Tryd.func46, Tryd.ntmps46
  go_wp2_with fail
  refine (HC.out _).mono ?_
  rintro e w' ⟨rfl, rfl⟩
  go_wp2
  exact bodyPost_ret (v := .agg #[.int .u64 a, .int .u64 b]) (by simp [results, Tryd.results46, go_sem]) rfl ⟨rfl, (Below.refl _ _).alloc (Nat.le_refl _) _⟩

set_option maxHeartbeats 400000 in
theorem add (h1 l1 h2 l2 : Nat) (a1 : h1 < 18446744073709551616) (b1 : l1 < 18446744073709551616) (a2 : h2 < 18446744073709551616) (b2 : l2 < 18446744073709551616) (w : World) :
    Calls Tryd.prog 54 #[.agg #[.int .u64 h1, .int .u64 l1], .agg #[.int .u64 h2, .int .u64 l2]] w fun e w' =>
      e = .returned (.tuple #[.agg #[.int .u64 (hi (vl h1 l1 + vl h2 l2) : Nat), .int .u64 (lo (vl h1 l1 + vl h2 l2) : Nat)], .int .u64 ((vl h1 l1 + vl h2 l2) / 340282366920938463463374607431768211456 : Nat)]) ∧ Below w.heap.size w w' := by
  have k1 := Bt.add64z l1 l2
  have k2 := Bt.add64 h1 h2 ((l1 + l2 + 0) / 18446744073709551616) (by omega)
  rw [add_lo h1 l1 h2 l2] at k1
  rw [add_hi h1 l1 h2 l2 b1 b2, add_carry h1 l1 h2 l2 b1 b2] at k2
  clear a1 b1 a2 b2
  generalize (l1 + l2 + 0) / 18446744073709551616 = c at k1 k2
  generalize hi (vl h1 l1 + vl h2 l2) = p at k1 k2 ⊢
  generalize lo (vl h1 l1 + vl h2 l2) = q at k1 k2 ⊢
  generalize (vl h1 l1 + vl h2 l2) / 340282366920938463463374607431768211456 = r at k1 k2 ⊢
  go_enter Tryd.func54, Tryd.ntmps54
  go_wp2
  exact bodyPost_ret (v := .tuple #[.agg #[.int .u64 p, .int .u64 q], .int .u64 r]) (by simp [results, Tryd.results54, go_sem]) rfl ⟨rfl, (((Below.refl _ _).alloc (Nat.le_refl _) _).alloc (by simp) _).alloc (by simp; omega) _⟩

end Wd
end Go.Proofs.YtikdoagljabjaaaDoor
