/- Plain arithmetic of shifts of numbers of 128 bits in two halves; it names no program. -/
import Derived.Test.YtinachlkaochdaaDoorNum
import Derived.Laws.Bits64b
set_option linter.unusedVariables false
namespace Go.Proofs.YtinachlkaochdaaDoor
namespace Nm
theorem p64 : (2 : Nat) ^ 64 = 18446744073709551616 := by decide
theorem pow_split (n : Nat) (h : n ≤ 64) : 2 ^ n * 2 ^ (64 - n) = 18446744073709551616 := by rw [← Nat.pow_add, show n + (64 - n) = 64 from by omega]

/-- A multiple of 2^n in a word, and what is below 2^n: their bits are apart. -/
theorem or_apart (a r n : Nat) (hn : n ≤ 64) (hr : r < 2 ^ n) : (a * 2 ^ n % 18446744073709551616) ||| r = a * 2 ^ n % 18446744073709551616 + r ∧ a * 2 ^ n % 18446744073709551616 + r < 18446744073709551616 := by
  have e : a * 2 ^ n % 18446744073709551616 = 2 ^ n * (a % 2 ^ (64 - n)) := by
    rw [← pow_split n hn, Nat.mul_comm a, Nat.mul_mod_mul_left]
  rw [e]
  refine ⟨(Nat.two_pow_add_eq_or_of_lt hr _).symm, ?_⟩
  have hm : a % 2 ^ (64 - n) < 2 ^ (64 - n) := Nat.mod_lt _ (Nat.two_pow_pos _)
  have := calc 2 ^ n * (a % 2 ^ (64 - n)) + r < 2 ^ n * (a % 2 ^ (64 - n)) + 2 ^ n := by omega
    _ = 2 ^ n * (a % 2 ^ (64 - n) + 1) := by rw [Nat.mul_add, Nat.mul_one]
    _ ≤ 2 ^ n * 2 ^ (64 - n) := Nat.mul_le_mul_left _ hm
    _ = 18446744073709551616 := pow_split n hn
  exact this

theorem wrap_shl (a n : Nat) : IntKind.u64.wrap ((a : Int) * 2 ^ n) = ((a * 2 ^ n % 18446744073709551616 : Nat) : Int) := by
  rw [IntKind.wrap_u64]; simp
theorem cast_shr (a n : Nat) : (a : Int) / 2 ^ n = ((a / 2 ^ n : Nat) : Int) := by simp

theorem or_bits (a r n : Nat) (hn : n ≤ 64) (hr : r < 2 ^ n) : bits .or .u64 ((a * 2 ^ n % 18446744073709551616 : Nat) : Int) (r : Int) = ((a * 2 ^ n % 18446744073709551616 + r : Nat) : Int) := by
  have ho := or_apart a r n hn hr
  rw [bits_or_u64_nat _ _ (Nat.mod_lt _ (by decide)) (by omega), ho.1]
theorem or_bits' (a r n : Nat) (hn : n ≤ 64) (hr : r < 2 ^ n) : bits .or .u64 (r : Int) ((a * 2 ^ n % 18446744073709551616 : Nat) : Int) = ((a * 2 ^ n % 18446744073709551616 + r : Nat) : Int) := by
  have ho := or_apart a r n hn hr
  rw [bits_or_u64_nat _ _ (by omega) (Nat.mod_lt _ (by decide)), Nat.or_comm, ho.1]

theorem div_small (l n : Nat) (hn : n ≤ 64) (hl : l < 18446744073709551616) : l / 2 ^ (64 - n) < 2 ^ n := by
  rw [Nat.div_lt_iff_lt_mul (Nat.two_pow_pos _), pow_split n hn]; exact hl
theorem div_small' (l n : Nat) (hn : n ≤ 64) (hl : l < 18446744073709551616) : l / 2 ^ n < 2 ^ (64 - n) := by
  rw [Nat.div_lt_iff_lt_mul (Nat.two_pow_pos _), Nat.mul_comm, pow_split n hn]; exact hl
theorem mul_div_64 (l n : Nat) (hn : n ≤ 64) : l * 2 ^ n / 18446744073709551616 = l / 2 ^ (64 - n) := by
  rw [← pow_split n hn, Nat.mul_comm l, Nat.mul_div_mul_left _ _ (Nat.two_pow_pos _)]

theorem shl_mid_hi (h l n : Nat) (hn : n ≤ 64) (hl : l < 18446744073709551616) : h * 2 ^ n % 18446744073709551616 + l / 2 ^ (64 - n) = hi (vl h l * 2 ^ n) := by
  unfold hi vl
  rw [Nat.add_mul, Nat.mul_right_comm, Nat.add_comm (h * 2 ^ n * _), Nat.add_mul_div_right _ _ (by decide), mul_div_64 l n hn, Nat.add_mod, Nat.mod_eq_of_lt (a := l / 2 ^ (64 - n)), Nat.add_comm (l / _), Nat.mod_eq_of_lt (a := _ + _)]
  · exact (or_apart h _ n hn (div_small l n hn hl)).2
  · exact Nat.lt_of_lt_of_le (div_small l n hn hl) (by rw [← p64]; exact Nat.pow_le_pow_right (by decide) hn)
theorem shl_lo (h l n : Nat) : l * 2 ^ n % 18446744073709551616 = lo (vl h l * 2 ^ n) := by
  unfold lo vl
  rw [Nat.add_mul, Nat.mul_right_comm, Nat.add_comm, Nat.add_mul_mod_self_right]
theorem shl_far_hi (h l n : Nat) (hn : 64 ≤ n) : l * 2 ^ (min (n - 64) 64) % 18446744073709551616 = hi (vl h l * 2 ^ n) := by
  have e : vl h l * 2 ^ n = (h * 2 ^ (n - 64) * 18446744073709551616 + l * 2 ^ (n - 64)) * 18446744073709551616 := by
    unfold vl
    rw [show n = 64 + (n - 64) from by omega, Nat.pow_add, p64, show 64 + (n - 64) - 64 = n - 64 from by omega]
    generalize 2 ^ (n - 64) = t
    rw [Nat.mul_comm 18446744073709551616 t, ← Nat.mul_assoc, Nat.add_mul, Nat.mul_right_comm]
  unfold hi
  rw [e, Nat.mul_div_cancel _ (by decide), Nat.add_comm, Nat.add_mul_mod_self_right]
  by_cases hk : n - 64 ≤ 64
  · rw [Nat.min_eq_left hk]
  · rw [Nat.min_eq_right (by omega), p64, Nat.mul_mod_left, show n - 64 = 64 + (n - 64 - 64) from by omega, Nat.pow_add, p64, ← Nat.mul_assoc, Nat.mul_right_comm, Nat.mul_mod_left]
theorem shl_far_lo (h l n : Nat) (hn : 64 ≤ n) : 0 = lo (vl h l * 2 ^ n) := by
  unfold lo
  rw [show n = 64 + (n - 64) from by omega, Nat.pow_add, p64, ← Nat.mul_assoc, Nat.mul_right_comm, Nat.mul_mod_left]
theorem vl_div_far (h l n : Nat) (hn : 64 ≤ n) (hl : l < 18446744073709551616) : vl h l / 2 ^ n = h / 2 ^ (n - 64) := by
  unfold vl
  rw [show n = 64 + (n - 64) from by omega, Nat.pow_add, p64, ← Nat.div_div_eq_div_mul, show (h * 18446744073709551616 + l) / 18446744073709551616 = h from by omega, show 64 + (n - 64) - 64 = n - 64 from by omega]
theorem shr_far_lo (h l n : Nat) (hn : 64 ≤ n) (hh : h < 18446744073709551616) (hl : l < 18446744073709551616) : h / 2 ^ (min (n - 64) 64) = lo (vl h l / 2 ^ n) := by
  unfold lo
  rw [vl_div_far h l n hn hl, Nat.mod_eq_of_lt (Nat.lt_of_le_of_lt (Nat.div_le_self _ _) hh)]
  by_cases hk : n - 64 ≤ 64
  · rw [Nat.min_eq_left hk]
  · rw [Nat.min_eq_right (by omega), p64, Nat.div_eq_of_lt hh, Nat.div_eq_of_lt]
    exact Nat.lt_of_lt_of_le hh (by rw [← p64]; exact Nat.pow_le_pow_right (by decide) (by omega))
theorem shr_far_hi (h l n : Nat) (hn : 64 ≤ n) (hh : h < 18446744073709551616) (hl : l < 18446744073709551616) : 0 = hi (vl h l / 2 ^ n) := by
  unfold hi
  rw [vl_div_far h l n hn hl, Nat.div_eq_of_lt (Nat.lt_of_le_of_lt (Nat.div_le_self _ _) hh)]
theorem vl_div_mid (h l n : Nat) (hn : n ≤ 64) : vl h l / 2 ^ n = h * 2 ^ (64 - n) + l / 2 ^ n := by
  unfold vl
  rw [← pow_split n hn, Nat.mul_comm (2 ^ n), ← Nat.mul_assoc, Nat.add_comm, Nat.add_mul_div_right _ _ (Nat.two_pow_pos _), Nat.add_comm]
theorem shr_mid_lo (h l n : Nat) (hn : n ≤ 64) (hl : l < 18446744073709551616) : h * 2 ^ (64 - n) % 18446744073709551616 + l / 2 ^ n = lo (vl h l / 2 ^ n) := by
  unfold lo
  rw [vl_div_mid h l n hn, Nat.add_mod, Nat.mod_eq_of_lt (a := l / 2 ^ n) (Nat.lt_of_le_of_lt (Nat.div_le_self _ _) hl), Nat.mod_eq_of_lt (a := _ + _)]
  exact (or_apart h _ (64 - n) (by omega) (div_small' l n hn hl)).2
theorem shr_mid_hi (h l n : Nat) (hh : h < 18446744073709551616) (hl : l < 18446744073709551616) : h / 2 ^ n = hi (vl h l / 2 ^ n) := by
  unfold hi vl
  rw [Nat.div_div_eq_div_mul, Nat.mul_comm (2 ^ n), ← Nat.div_div_eq_div_mul, show (h * 18446744073709551616 + l) / 18446744073709551616 = h from by omega, Nat.mod_eq_of_lt (Nat.lt_of_le_of_lt (Nat.div_le_self _ _) hh)]
end Nm
end Go.Proofs.YtinachlkaochdaaDoor
