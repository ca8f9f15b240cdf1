/- Contract of package kern2's Butterfly. -/
import Derived.Test.YtnnieiedkjekpaaDoorTwidA
import Derived.Test.YtnnieiedkjekpaaDoorHalfM
set_option linter.unusedVariables false
namespace Go.Proofs.YtnnieiedkjekpaaDoor
open Go.RowKit Go.Lib
namespace Kn
open Nm Ww Tn

theorem m64 (a : Nat) : a % 18446744069414584321 < 18446744073709551616 := Nat.lt_trans (Nat.mod_lt _ (by decide)) (by decide)
set_option maxHeartbeats 400000 in
theorem butterfly (a b c : Nat) (ha : a < 18446744073709551616) (hb : b < 18446744073709551616) (hc : c < 18446744073709551616) (w : World) :
    Calls Tryd.prog 82 #[.int .u64 (a : Nat), .int .u64 (b : Nat), .int .u64 (c : Nat)] w fun e w' => e = .returned (.tuple #[.int .u64 (bs a b c : Nat), .int .u64 (bd a b c : Nat)]) ∧ Below w.heap.size w w' := by
  have M := Lib.hid (fun W => Gd.mul c b hc hb W)
  have P := Lib.hid (fun W => Gd.add a (c * b % 18446744069414584321) ha (m64 _) W)
  have Q := Lib.hid (fun W => Gd.sub a (c * b % 18446744069414584321) ha (m64 _) W)
  unfold bs bd
  generalize (a + c * b % 18446744069414584321) % 18446744069414584321 = s at *
  generalize (a + (18446744069414584321 - c * b % 18446744069414584321 % 18446744069414584321)) % 18446744069414584321 = d at *
  generalize c * b % 18446744069414584321 = m at *
  clear ha hb hc
  go_enter Tryd.func82, Tryd.ntmps82
  go_wp2_with fail
  refine (M.out _).mono ?_
  rintro e w1 ⟨rfl, h1⟩
  go_wp2_with fail
  refine (P.out _).mono ?_
  rintro e w2 ⟨rfl, rfl⟩
  go_wp2_with fail
  refine (Q.out _).mono ?_
  rintro e w2 ⟨rfl, rfl⟩
  go_wp2
  go_ret2
  exact ⟨rfl, h1⟩
end Kn
end Go.Proofs.YtnnieiedkjekpaaDoor
