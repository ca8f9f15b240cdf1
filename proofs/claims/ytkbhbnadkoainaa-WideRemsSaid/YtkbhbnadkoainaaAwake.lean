/- The laws' own first test of package wide answers true; nothing that was there is written. -/
import Derived.Test.YtkbhbnadkoainaaText
set_option linter.unusedVariables false
namespace Go.Proofs.Ytkbhbnadkoainaa
open Go.RowKit
namespace Wd
open Nm
theorem mul_awake (w : World) : Calls Try.prog 14 #[.int .u64 9223372036854775808, .int .u64 4] w fun e w' => e = .returned (.agg #[.int .u64 2, .int .u64 0]) ∧ Below w.heap.size w w' :=
  mul 9223372036854775808 4 (by decide) (by decide) w
theorem text_awake (w : World) : Calls Try.prog 38 #[.agg #[.int .u64 1, .int .u64 0]] w fun e w' => e = .returned (.string ⟨#[49, 56, 52, 52, 54, 55, 52, 52, 48, 55, 51, 55, 48, 57, 53, 53, 49, 54, 49, 54]⟩) ∧ Below w.heap.size w w' := by
  have c := text 1 0 20 (by decide) (by decide) (by decide) (by decide) (by decide) (by
    have : ∀ i : Fin 20, vl 1 0 / 10 ^ i.val ≠ 0 := by decide
    intro i hi; exact this ⟨i, hi⟩) w
  rw [show strOfNums (dgs (vl 1 0) 20) = ⟨#[49, 56, 52, 52, 54, 55, 52, 52, 48, 55, 51, 55, 48, 57, 53, 53, 49, 54, 49, 54]⟩ from by decide +kernel] at c
  exact c
set_option maxHeartbeats 400000 in
theorem awake (w : World) : Calls Try.prog 11 #[] w fun e w' => e = .returned (.bool true) ∧ Below w.heap.size w w' := by
  go_enter Try.func11, Try.ntmps11
  go_wp2_with fail
  refine (mul_awake _).mono ?_
  rintro e w1 ⟨rfl, hb1⟩
  go_wp2_with fail
  refine (text_awake _).mono ?_
  rintro e w2 ⟨rfl, hb2⟩
  go_wp2
  go_ret
  exact ⟨by rfl, hb1.trans (hb2.mono hb1.size)⟩
end Wd
end Go.Proofs.Ytkbhbnadkoainaa
