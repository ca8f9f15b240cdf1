/- Transforms by halves, plain: the sums of even and odd places, of the first and the second half; sums, multiples, rows turned by one place, products of polynomials. It names no program. -/
import Derived.Test.YtfkhnfaammfbeaaDoorTwidN
set_option linter.unusedVariables false
namespace Go.Proofs.YtfkhnfaammfbeaaDoor
namespace Tn
open Nt

theorem sg_pairs (f : Nat → Nat) : ∀ n, sg f (2 * n) = sg (fun i => f (2 * i)) n + sg (fun i => f (2 * i + 1)) n
  | 0 => rfl
  | n + 1 => by
    show sg f (2 * n) + f (2 * n) + f (2 * n + 1) = sg (fun i => f (2 * i)) n + f (2 * n) + (sg (fun i => f (2 * i + 1)) n + f (2 * n + 1))
    rw [sg_pairs f n]
    omega
theorem sg_split (f : Nat → Nat) (n : Nat) : ∀ m, sg f (n + m) = sg f n + sg (fun i => f (n + i)) m
  | 0 => rfl
  | m + 1 => by
    show sg f (n + m) + f (n + m) = sg f n + (sg (fun i => f (n + i)) m + f (n + m))
    rw [sg_split f n m, Nat.add_assoc]
theorem tf_root (x : Nat → Nat) (n j : Nat) {w v : Nat} (h : w % 18446744069414584321 = v % 18446744069414584321) : tf x n w j = tf x n v j :=
  Pn.sg_mod n fun i _ => by rw [Nat.mul_mod, ← pmod, h, pmod, ← Nat.mul_mod]
/-- Of one word. -/
theorem tf_one (x : Nat → Nat) (w j : Nat) : tf x 1 w j = x 0 % 18446744069414584321 := by
  show (0 + x 0 * w ^ (0 * j)) % _ = _
  rw [Nat.zero_mul, Nat.pow_zero, Nat.mul_one, Nat.zero_add]
theorem amm (a b c : Nat) : (a % 18446744069414584321 + b * (c % 18446744069414584321)) % 18446744069414584321 = (a + b * c) % 18446744069414584321 := by rw [Nat.mod_add_mod, Nat.add_mod, Nat.mul_mod_mod, ← Nat.add_mod]
theorem lin (a b c s : Nat) : (a + b * c) % 18446744069414584321 * s % 18446744069414584321 = (a * s % 18446744069414584321 + b * s % 18446744069414584321 * c) % 18446744069414584321 := by
  rw [Nat.mod_mul_mod, Nat.mod_add_mod, Nat.add_mod (a * s), Nat.mod_mul_mod, ← Nat.add_mod, Nat.add_mul, Nat.mul_right_comm]
/-- Even and odd places. -/
theorem tf_parts (x : Nat → Nat) (n w j : Nat) : tf x (2 * n) w j = (tf (fun i => x (2 * i)) n (w * w) j + w ^ j * tf (fun i => x (2 * i + 1)) n (w * w) j) % 18446744069414584321 := by
  unfold tf
  rw [sg_pairs, amm, ← Pn.sg_mul]
  congr 2
  · exact Pn.sg_congr n fun i _ => by rw [Nat.mul_pow, ← Nat.pow_add, ← Nat.two_mul, Nat.mul_assoc]
  · exact Pn.sg_congr n fun i _ => by rw [Nat.mul_pow, ← Nat.pow_add, ← Nat.two_mul, Nat.mul_left_comm, ← Nat.pow_add, Nat.add_mul, Nat.one_mul, Nat.mul_assoc, Nat.add_comm (2 * (i * j)) j]
/-- .. half of them on. -/
theorem tf_parts_far (x : Nat → Nat) (n w j : Nat) (hw : w ^ n % 18446744069414584321 = 18446744069414584320) :
    tf x (2 * n) w (j + n) = (tf (fun i => x (2 * i)) n (w * w) j + 18446744069414584320 * (w ^ j * tf (fun i => x (2 * i + 1)) n (w * w) j)) % 18446744069414584321 := by
  have h2 : (w * w) ^ n % 18446744069414584321 = 1 := by rw [Nat.mul_pow, Nat.mul_mod, hw]
  have e : ∀ y : Nat → Nat, tf y n (w * w) (j + n) = tf y n (w * w) j := fun y => Pn.sg_mod n fun i _ => by
    rw [Nat.mul_add, Nat.pow_add, ← Nat.mul_assoc, Nat.mul_comm i n, Nat.pow_mul (w * w) n i, Nat.mul_mod, ← pmod ((w * w) ^ n), h2, pow_one_mod, Nat.mul_one, Nat.mod_mod]
  rw [tf_parts, e, e, Nat.pow_add, Nat.add_mod, Nat.mul_mod, Nat.mul_mod (w ^ j), hw, Nat.add_mod (tf _ n (w * w) j) (18446744069414584320 * _)]
  congr 2
  rw [Nat.mul_mod_mod, Nat.mod_mul_mod, Nat.mul_comm (w ^ j % _) 18446744069414584320, Nat.mul_assoc, Nat.mul_mod 18446744069414584320, Nat.mod_mul_mod (w ^ j), ← Nat.mul_mod]
theorem sub_form (a b : Nat) : (a + 18446744069414584320 * b) % 18446744069414584321 = (a + (18446744069414584321 - b % 18446744069414584321)) % 18446744069414584321 := by
  have h := Nat.div_add_mod b 18446744069414584321
  have hl := Nat.mod_lt b (show 0 < 18446744069414584321 by decide)
  generalize b % 18446744069414584321 = r at *
  generalize b / 18446744069414584321 = q at *
  subst h
  omega
theorem rd_sq (k d : Nat) (hk : k < 32) : rd (k + 1) d * rd (k + 1) d % 18446744069414584321 = rd k d := by
  by_cases h : d = 0
  · subst h; rw [rd_zero, rd_zero]; exact rt_sq k hk
  · rw [rd_other _ d h, rd_other _ d h]
    have h1 := one_pow 2 (rd_mul (k + 1) (by omega))
    rw [Nat.pow_two, Nat.pow_two, Nat.mul_mod, rt_sq k hk] at h1
    have h2 : rt k * (inv (rt (k + 1)) * inv (rt (k + 1)) % 18446744069414584321) % 18446744069414584321 = rt k * inv (rt k) % 18446744069414584321 := by rw [h1, rd_mul k (by omega)]
    have := cancel (prime.cop (rt_ne k (by omega))) h2
    rwa [Nat.mod_mod, Nat.mod_eq_of_lt (inv_lt (rt k))] at this
theorem rd_half (k d : Nat) (hk : k < 32) : rd (k + 1) d ^ 2 ^ k % 18446744069414584321 = 18446744069414584320 := by
  by_cases h : d = 0
  · subst h; rw [rd_zero]; exact rt_half k hk
  · rw [rd_other _ d h]
    have h1 := one_pow (2 ^ k) (rd_mul (k + 1) (by omega))
    rw [Nat.mul_mod, rt_half k hk, Nat.mul_comm] at h1
    have := mul_half _ h1
    rwa [Nat.mod_mod] at this
/-- The first and the second half: the even words. -/
theorem tf_even (x : Nat → Nat) (n w j : Nat) (hw : w ^ (2 * n) % 18446744069414584321 = 1) : tf x (2 * n) w (2 * j) = tf (fun i => x i + x (n + i)) n (w * w) j := by
  unfold tf
  rw [Nat.two_mul n, sg_split, ← Pn.sg_add]
  refine Pn.sg_mod n fun i _ => ?_
  have e1 : w ^ (i * (2 * j)) = (w * w) ^ (i * j) := by rw [Nat.mul_pow, ← Nat.pow_add, ← Nat.two_mul, Nat.mul_left_comm]
  have e2 : w ^ ((n + i) * (2 * j)) % 18446744069414584321 = (w * w) ^ (i * j) % 18446744069414584321 := by
    rw [Nat.add_mul, Nat.pow_add, e1, show n * (2 * j) = 2 * n * j by rw [Nat.mul_left_comm, Nat.mul_assoc], Nat.pow_mul]
    exact one_mul_ (by rw [← pmod, hw, pow_one_mod])
  show (x i * w ^ (i * (2 * j)) + x (n + i) * w ^ ((n + i) * (2 * j))) % _ = (x i + x (n + i)) * (w * w) ^ (i * j) % _
  rw [Nat.add_mul (x i), Nat.add_mod, Nat.mul_mod (x (n + i)), e2, ← Nat.mul_mod, e1, ← Nat.add_mod]
/-- .. the odd words. -/
theorem tf_odd (x : Nat → Nat) (n w j : Nat) (hw : w ^ n % 18446744069414584321 = 18446744069414584320) : tf x (2 * n) w (2 * j + 1) = tf (fun i => (x i + 18446744069414584320 * x (n + i)) * w ^ i) n (w * w) j := by
  unfold tf
  rw [Nat.two_mul n, sg_split, ← Pn.sg_add]
  refine Pn.sg_mod n fun i _ => ?_
  have e1 : w ^ (i * (2 * j + 1)) = w ^ i * (w * w) ^ (i * j) := by rw [Nat.mul_pow, ← Nat.pow_add, ← Nat.two_mul, ← Nat.pow_add, Nat.mul_add, Nat.mul_one, Nat.mul_left_comm, Nat.add_comm]
  have e0 : w ^ (n * (2 * j + 1)) % 18446744069414584321 = 18446744069414584320 := by
    rw [Nat.pow_mul, ← pmod, hw]
    exact neg_odd 18446744069414584321 (2 * j + 1) (by decide) (by omega)
  have e2 : w ^ ((n + i) * (2 * j + 1)) % 18446744069414584321 = 18446744069414584320 * (w ^ i * (w * w) ^ (i * j)) % 18446744069414584321 := by
    rw [Nat.add_mul, Nat.pow_add, e1, Nat.mul_mod, e0, Nat.mul_mod_mod]
  show (x i * w ^ (i * (2 * j + 1)) + x (n + i) * w ^ ((n + i) * (2 * j + 1))) % _ = (x i + 18446744069414584320 * x (n + i)) * w ^ i * (w * w) ^ (i * j) % _
  rw [Nat.mul_assoc (x i + _), Nat.add_mul (x i), Nat.add_mod, Nat.mul_mod (x (n + i)), e2, ← Nat.mul_mod, e1, ← Nat.add_mod, Nat.mul_left_comm (x (n + i)), Nat.mul_assoc 18446744069414584320]

/-- P9.4: sums and multiples. -/
theorem ft_sum (k d c : Nat) (x y : Nat → Nat) (j : Nat) : ft k d (fun i => x i + y i * c) j = (ft k d x j + ft k d y j * c) % 18446744069414584321 := by
  have e : tf (fun i => x i + y i * c) (2 ^ k) (rd k d) j = (tf x (2 ^ k) (rd k d) j + tf y (2 ^ k) (rd k d) j * c) % 18446744069414584321 := by
    unfold tf
    rw [Nat.mod_add_mod, Nat.add_mod, Nat.mod_mul_mod, ← Nat.add_mod, Nat.mul_comm _ c, ← Pn.sg_mul, ← Pn.sg_add]
    exact congrArg (· % 18446744069414584321) (Pn.sg_congr _ fun i _ => by rw [Nat.add_mul, Nat.mul_comm (y i) c, Nat.mul_assoc])
  unfold ft
  rw [e]
  exact lin _ _ _ _
/-- P9.4: a row turned by one place. -/
theorem tf_turned (x : Nat → Nat) (n w j : Nat) (h0 : 0 < n) (hw : w ^ n % 18446744069414584321 = 1) : tf (fun i => x ((i + n - 1) % n)) n w j = tf x n w j * (w ^ j % 18446744069414584321) % 18446744069414584321 := by
  obtain ⟨m, rfl⟩ : ∃ m, n = m + 1 := ⟨n - 1, by omega⟩
  unfold tf
  rw [Nat.mul_mod_mod, Nat.mod_mul_mod, Nat.mul_comm _ (w ^ j), ← Pn.sg_mul, Pn.sg_first]
  show (x ((0 + (m + 1) - 1) % (m + 1)) * w ^ (0 * j) + sg (fun i => x ((i + 1 + (m + 1) - 1) % (m + 1)) * w ^ ((i + 1) * j)) m) % _ = (sg (fun i => w ^ j * (x i * w ^ (i * j))) m + w ^ j * (x m * w ^ (m * j))) % _
  have e1 : sg (fun i => x ((i + 1 + (m + 1) - 1) % (m + 1)) * w ^ ((i + 1) * j)) m = sg (fun i => w ^ j * (x i * w ^ (i * j))) m := Pn.sg_congr m fun i hi => by
    rw [show i + 1 + (m + 1) - 1 = i + (m + 1) by omega, Nat.add_mod_right, Nat.mod_eq_of_lt (by omega), Nat.succ_mul, Nat.pow_add, Nat.mul_comm (w ^ (i * j)), Nat.mul_left_comm]
  have e2 : w ^ j * (x m * w ^ (m * j)) % 18446744069414584321 = x m % 18446744069414584321 := by
    rw [Nat.mul_left_comm, ← Nat.pow_add, show j + m * j = (m + 1) * j by rw [Nat.succ_mul, Nat.add_comm], Nat.pow_mul]
    exact mul_one_ (by rw [← pmod, hw, pow_one_mod])
  rw [e1, show 0 + (m + 1) - 1 = m by omega, Nat.mod_eq_of_lt (by omega : m < m + 1), Nat.zero_mul, Nat.pow_zero, Nat.mul_one, Nat.add_comm, Nat.add_mod, ← e2, ← Nat.add_mod]
/-- A transform's words are a polynomial's values. -/
theorem tf_evl (xs : List Nat) (n w j : Nat) (hn : xs.length ≤ n) : tf (Pn.pl xs) n w j = Pn.evl (w ^ j) xs % 18446744069414584321 := by
  obtain ⟨e, rfl⟩ : ∃ e, n = xs.length + e := ⟨n - xs.length, by omega⟩
  rw [Pn.evl_any (w ^ j) xs e]
  unfold tf
  congr 1
  exact Pn.sg_congr _ fun i _ => by rw [← Nat.pow_mul, Nat.mul_comm i j]
end Tn
end Go.Proofs.YtfkhnfaammfbeaaDoor
