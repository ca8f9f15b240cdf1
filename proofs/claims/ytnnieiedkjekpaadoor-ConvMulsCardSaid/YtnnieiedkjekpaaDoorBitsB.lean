/- Contracts of math/bits' Len64 and LeadingZeros64, of every uint64. -/
import Derived.Test.YtnnieiedkjekpaaDoorChecked
import Derived.Lib.Strings
import Derived.Lib.Slices
import Derived.Lib.Small
import Derived.Lib.Walk
import Derived.Lib.BitFns
set_option linter.unusedVariables false
namespace Go.Proofs.YtnnieiedkjekpaaDoor

namespace Bt

/-- The table's byte of what is left behind the shifts makes the number of bits. -/
theorem arm (x : Int) (s : Nat) (t b : Int) (ht : t = s) (hs : s ≤ 56) (hb : b = ((x.toNat / 2 ^ s : Nat) : Int)) (h8 : x.toNat / 2 ^ s < 256) (h : 2 ^ s ≤ x.toNat) (hx : x.toNat < 2 ^ 64) :
    (t + ((Lib.len8 b + 9223372036854775808) % 18446744073709551616 - 9223372036854775808) + 9223372036854775808) % 18446744073709551616 - 9223372036854775808 = (Lib.bitLen x.toNat : Int) := by
  generalize hq : x.toNat / 2 ^ s = q at hb h8
  subst hb
  have l := Lib.bitLen_le8' (q : Int) (by omega) (by omega)
  rw [Lib.len8_of (q : Int) (by omega) (by omega), Lib.bitLen_shift s x.toNat h hx, hq]
  rw [Int.toNat_natCast] at l ⊢
  omega
theorem arm0 (x : Int) (b : Int) (h0 : 0 ≤ x) (hb : b = x) (h8 : x < 256) : (Lib.len8 b + 9223372036854775808) % 18446744073709551616 - 9223372036854775808 = (Lib.bitLen x.toNat : Int) := by
  have l := Lib.bitLen_le8' x (by omega) (by omega)
  rw [hb, Lib.len8_of x h0 (by omega)]
  omega

set_option maxHeartbeats 4000000 in
set_option maxRecDepth 100000 in
theorem len64i (x : Int) (w : World) (h0 : 0 ≤ x) (h1 : x ≤ 18446744073709551615) :
    Calls Tryd.prog 65 #[.int .u64 x] w fun e w' => e = .returned (.int .i64 (Lib.bitLen x.toNat)) ∧ w = w' := by
  go_enter Tryd.func65, Tryd.ntmps65
  go_wp2
  all_goals (go_ret; refine ⟨congrArg Ending.returned (congrArg (Value.int IntKind.i64) ?_), rfl⟩)
  · exact arm x 56 56 _ rfl (by omega) (by omega) (by omega) (by omega) (by omega)
  · exact arm x 48 48 _ rfl (by omega) (by omega) (by omega) (by omega) (by omega)
  · exact arm x 40 40 _ rfl (by omega) (by omega) (by omega) (by omega) (by omega)
  · exact arm x 32 32 _ rfl (by omega) (by omega) (by omega) (by omega) (by omega)
  · exact arm x 24 24 _ rfl (by omega) (by omega) (by omega) (by omega) (by omega)
  · exact arm x 16 16 _ rfl (by omega) (by omega) (by omega) (by omega) (by omega)
  · exact arm x 8 8 _ rfl (by omega) (by omega) (by omega) (by omega) (by omega)
  · exact arm0 x _ h0 (by omega) (by omega)

theorem len64 (x : Nat) (hx : x < 18446744073709551616) (w : World) :
    Calls Tryd.prog 65 #[.int .u64 x] w fun e w' => e = .returned (.int .i64 (Lib.bitLen x : Nat)) ∧ w = w' :=
  len64i (x : Int) w (by omega) (by omega)

end Bt
end Go.Proofs.YtnnieiedkjekpaaDoor
