/- Plain arithmetic of places whose digits are turned about; it names no program. -/
import Derived.WalkKit
set_option linter.unusedVariables false
namespace Go.Proofs.YtnnieiedkjekpaaDoor
namespace Rn
/-- The first n digits of i to the base b, the lowest one first. -/
def rv (b : Nat) : Nat → Nat → Nat
  | 0, _ => 0
  | n + 1, i => b * rv b n i + i / b ^ n % b
theorem rv_zero (b i : Nat) : rv b 0 i = 0 := rfl
theorem rv_succ (b n i : Nat) : rv b (n + 1) i = b * rv b n i + i / b ^ n % b := rfl
theorem rv_lt (b : Nat) (hb : 0 < b) : ∀ n i, rv b n i < b ^ n
  | 0, i => by simp [rv]
  | n + 1, i => by
    have h := rv_lt b hb n i
    have h2 := Nat.mod_lt (i / b ^ n) hb
    have h3 : b * (rv b n i + 1) ≤ b * b ^ n := Nat.mul_le_mul_left b h
    rw [rv_succ, Nat.pow_succ, Nat.mul_comm (b ^ n) b]
    rw [Nat.mul_add, Nat.mul_one] at h3
    omega
/-- What stands above the first n digits isn't read. -/
theorem rv_add (b : Nat) (hb : 0 < b) : ∀ n i a, rv b n (i + a * b ^ n) = rv b n i
  | 0, i, a => rfl
  | n + 1, i, a => by
    have hp : 0 < b ^ n := Nat.pow_pos hb
    have e : i + a * b ^ (n + 1) = i + (a * b) * b ^ n := by rw [Nat.pow_succ, Nat.mul_assoc, Nat.mul_comm b]
    rw [rv_succ, rv_succ, e, rv_add b hb n i (a * b), Nat.add_mul_div_right _ _ hp, Nat.add_mul_mod_self_right]
/-- By the lowest digit. -/
theorem rv_low (b : Nat) : ∀ n i, rv b (n + 1) i = i % b * b ^ n + rv b n (i / b)
  | 0, i => by simp [rv]
  | n + 1, i => by
    rw [rv_succ b (n + 1) i, rv_low b n i, rv_succ b n (i / b), Nat.div_div_eq_div_mul, ← Nat.pow_succ', Nat.mul_add, Nat.add_assoc]
    congr 1
    rw [Nat.pow_succ, Nat.mul_comm b, Nat.mul_assoc]
/-- By the highest digit. -/
theorem rv_top (b n a y : Nat) (ha : a < b) (hy : y < b ^ n) : rv b (n + 1) (a * b ^ n + y) = b * rv b n y + a := by
  have hb : 0 < b := by omega
  have hp : 0 < b ^ n := Nat.pow_pos hb
  rw [rv_succ, Nat.add_comm (a * b ^ n) y, rv_add b hb, Nat.add_mul_div_right _ _ hp, Nat.div_eq_of_lt hy, Nat.zero_add, Nat.mod_eq_of_lt ha]
/-- Turned about twice it is the same. -/
theorem rv_rv (b : Nat) (hb : 0 < b) : ∀ n i, i < b ^ n → rv b n (rv b n i) = i
  | 0, i, h => by simp at h; simp [rv, h]
  | n + 1, i, h => by
    have h1 : i / b < b ^ n := by
      rw [Nat.div_lt_iff_lt_mul hb]
      rw [Nat.pow_succ] at h
      exact h
    rw [rv_low b n i, rv_top b n (i % b) (rv b n (i / b)) (Nat.mod_lt _ hb) (rv_lt b hb n _), rv_rv b hb n (i / b) h1]
    exact Nat.div_add_mod i b
theorem rv_inj (b : Nat) (hb : 0 < b) (n i j : Nat) (hi : i < b ^ n) (hj : j < b ^ n) (h : rv b n i = rv b n j) : i = j := by
  rw [← rv_rv b hb n i hi, h, rv_rv b hb n j hj]
theorem pow_dvd (k r : Nat) (h : k % r = 0) : (2 ^ r) ^ (k / r) = 2 ^ k := by
  rw [← Nat.pow_mul, Nat.mul_comm, Nat.div_mul_cancel (Nat.dvd_of_mod_eq_zero h)]
/-- The place i of k bits turned about by digits of r. -/
def tn (k r i : Nat) : Nat := rv (2 ^ r) (k / r) i
theorem tn_lt (k r i : Nat) (h : k % r = 0) : tn k r i < 2 ^ k := by
  have := rv_lt (2 ^ r) (Nat.two_pow_pos r) (k / r) i
  rwa [pow_dvd k r h] at this
theorem tn_tn (k r i : Nat) (h : k % r = 0) (hi : i < 2 ^ k) : tn k r (tn k r i) = i :=
  rv_rv (2 ^ r) (Nat.two_pow_pos r) (k / r) i (by rwa [pow_dvd k r h])
/-- One bit more: a place of the even half, and of the odd one. -/
theorem tn_half (k a y : Nat) (ha : a < 2) (hy : y < 2 ^ k) : tn (k + 1) 1 (a * 2 ^ k + y) = 2 * tn k 1 y + a := by
  have := rv_top 2 k a y ha hy
  simpa [tn] using this
/-- A round of the loop: i's low digit behind what is turned. -/
theorem step_or (t r i : Nat) : t * 2 ^ r ||| i &&& (2 ^ r - 1) = 2 ^ r * t + i % 2 ^ r := by
  rw [Nat.and_two_pow_sub_one_eq_mod, Nat.mul_comm]
  exact (Nat.two_pow_add_eq_or_of_lt (Nat.mod_lt _ (Nat.two_pow_pos r)) t).symm
end Rn
end Go.Proofs.YtnnieiedkjekpaaDoor
