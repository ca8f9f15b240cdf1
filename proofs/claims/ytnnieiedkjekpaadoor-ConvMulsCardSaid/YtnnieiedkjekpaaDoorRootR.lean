/- Contracts of the document's own answers for layer 3: Root, OrderOf; they leave the world as it is. -/
import Derived.Test.YtnnieiedkjekpaaDoorGoldR
import Derived.Test.YtnnieiedkjekpaaDoorPlain
set_option linter.unusedVariables false
namespace Go.Proofs.YtnnieiedkjekpaaDoor
open Go.RowKit Go.Lib
namespace Rr
open Nm

theorem rtE_two (k : Nat) (hk : k < 32) : Nt.rtE k / 2 = Nt.rtE (k + 1) := by have := Nt.rtE_next k hk; omega
theorem rtE_zero : (18446744069414584320 : Int) = ((Nt.rtE 0 : Nat) : Int) := by
  have := Nt.rtE_mul 0 (by decide)
  rw [Nat.pow_zero, Nat.mul_one] at this
  rw [this]; rfl



end Rr
end Go.Proofs.YtnnieiedkjekpaaDoor
