/- Plain arithmetic of numbers of 128 bits in two halves; it names no program. -/
import Derived.WalkKit
set_option linter.unusedVariables false
namespace Go.Proofs.YtinachlkaochdaaDoor
namespace Nm
/-- The upper half. -/
def hi (n : Nat) : Nat := n / 18446744073709551616 % 18446744073709551616
/-- The lower half. -/
def lo (n : Nat) : Nat := n % 18446744073709551616
/-- The number of two halves. -/
def vl (h l : Nat) : Nat := h * 18446744073709551616 + l
theorem hi_lt (n : Nat) : hi n < 18446744073709551616 := Nat.mod_lt _ (by decide)
theorem lo_lt (n : Nat) : lo n < 18446744073709551616 := Nat.mod_lt _ (by decide)
theorem hi_vl (h l : Nat) (hh : h < 18446744073709551616) (hl : l < 18446744073709551616) : hi (vl h l) = h := by unfold hi vl; omega
theorem lo_vl (h l : Nat) (hl : l < 18446744073709551616) : lo (vl h l) = l := by unfold lo vl; omega
theorem vl_hi_lo (n : Nat) : vl (hi n) (lo n) = n % 340282366920938463463374607431768211456 := by unfold vl hi lo; omega
theorem vl_lt (h l : Nat) (hh : h < 18446744073709551616) (hl : l < 18446744073709551616) : vl h l < 340282366920938463463374607431768211456 := by unfold vl; omega
theorem add_lo (h1 l1 h2 l2 : Nat) : (l1 + l2 + 0) % 18446744073709551616 = lo (vl h1 l1 + vl h2 l2) := by unfold lo vl; omega
theorem add_hi (h1 l1 h2 l2 : Nat) (b1 : l1 < 18446744073709551616) (b2 : l2 < 18446744073709551616) : (h1 + h2 + (l1 + l2 + 0) / 18446744073709551616) % 18446744073709551616 = hi (vl h1 l1 + vl h2 l2) := by unfold hi vl; omega
theorem add_carry (h1 l1 h2 l2 : Nat) (b1 : l1 < 18446744073709551616) (b2 : l2 < 18446744073709551616) : (h1 + h2 + (l1 + l2 + 0) / 18446744073709551616) / 18446744073709551616 = (vl h1 l1 + vl h2 l2) / 340282366920938463463374607431768211456 := by unfold vl; omega
theorem sub_lo (h1 l1 h2 l2 : Nat) (b2 : l2 < 18446744073709551616) (c2 : h2 < 18446744073709551616) : (l1 + 18446744073709551616 - l2 - 0) % 18446744073709551616 = lo (vl h1 l1 + 340282366920938463463374607431768211456 - vl h2 l2) := by unfold lo vl; omega
theorem sub_hi (h1 l1 h2 l2 : Nat) (b1 : l1 < 18446744073709551616) (b2 : l2 < 18446744073709551616) (c1 : h1 < 18446744073709551616) (c2 : h2 < 18446744073709551616) :
    (h1 + 18446744073709551616 - h2 - (if l1 < l2 + 0 then 1 else 0)) % 18446744073709551616 = hi (vl h1 l1 + 340282366920938463463374607431768211456 - vl h2 l2) := by unfold hi vl; split <;> omega
theorem sub_borrow (h1 l1 h2 l2 : Nat) (b1 : l1 < 18446744073709551616) (b2 : l2 < 18446744073709551616) (c1 : h1 < 18446744073709551616) (c2 : h2 < 18446744073709551616) :
    (if h1 < h2 + (if l1 < l2 + 0 then 1 else 0) then 1 else 0) = (if vl h1 l1 < vl h2 l2 then 1 else 0) := by unfold vl; split <;> split <;> split <;> omega
end Nm
end Go.Proofs.YtinachlkaochdaaDoor
