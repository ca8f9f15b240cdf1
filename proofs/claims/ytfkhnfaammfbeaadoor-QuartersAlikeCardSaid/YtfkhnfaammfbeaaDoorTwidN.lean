/- Transforms over the field: the roots of both directions, the defining sums, and that the inverse one of the forward one is the row. It names no program. -/
import Derived.Test.YtfkhnfaammfbeaaDoorRootN
import Derived.Test.YtfkhnfaammfbeaaDoorPolyN
set_option linter.unusedVariables false
namespace Go.Proofs.YtfkhnfaammfbeaaDoor
namespace Tn
open Nt

theorem sg_swap (f : Nat → Nat → Nat) (m : Nat) : ∀ n, sg (fun i => sg (f i) m) n = sg (fun j => sg (fun i => f i j) n) m
  | 0 => (Pn.sg_zero (f := fun j => sg (fun i => f i j) 0) m (fun i _ => rfl)).symm
  | n + 1 => by
    show sg (fun i => sg (f i) m) n + sg (f n) m = sg (fun j => sg (fun i => f i j) n + f n j) m
    rw [Pn.sg_add, sg_swap f m n]
theorem sg_const (c : Nat) : ∀ n, sg (fun _ => c) n = c * n
  | 0 => rfl
  | n + 1 => by show sg (fun _ => c) n + c = c * (n + 1); rw [sg_const c n, Nat.mul_succ]

theorem one_pow {a b : Nat} (n : Nat) (h : a * b % 18446744069414584321 = 1) : a ^ n * b ^ n % 18446744069414584321 = 1 := by rw [← Nat.mul_pow, ← pmod, h, pow_one_mod]
theorem one_mul_ {a b : Nat} (h : a % 18446744069414584321 = 1) : a * b % 18446744069414584321 = b % 18446744069414584321 := by rw [Nat.mul_mod, h, Nat.one_mul, Nat.mod_mod]
theorem mul_one_ {a b : Nat} (h : b % 18446744069414584321 = 1) : a * b % 18446744069414584321 = a % 18446744069414584321 := by rw [Nat.mul_comm]; exact one_mul_ h
/-- The root of a direction: 0 is forward. -/
def rd (k d : Nat) : Nat := if d = 0 then rt k else inv (rt k)
theorem rd_zero (k : Nat) : rd k 0 = rt k := if_pos rfl
theorem rd_other (k d : Nat) (h : d ≠ 0) : rd k d = inv (rt k) := if_neg h
theorem rd_lt (k d : Nat) : rd k d < 18446744069414584321 := by
  unfold rd
  split
  · exact rt_lt k
  · exact inv_lt _
theorem rd_mul (k : Nat) (hk : k ≤ 32) : rt k * inv (rt k) % 18446744069414584321 = 1 := by rw [Nat.mul_comm]; exact inv_mul _ (rt_ne k hk)
theorem rd_pair (k d : Nat) (hk : k ≤ 32) (hd : d ≤ 1) : rd k d * rd k (1 - d) % 18446744069414584321 = 1 := by
  rcases Nat.eq_zero_or_pos d with h | h
  · subst h; rw [rd_zero, rd_other k (1 - 0) (by decide)]; exact rd_mul k hk
  · obtain rfl : d = 1 := by omega
    rw [rd_other k 1 (by decide), Nat.sub_self, rd_zero, Nat.mul_comm]; exact rd_mul k hk
theorem rd_one (k d : Nat) (hk : k ≤ 32) : rd k d ^ 2 ^ k % 18446744069414584321 = 1 := by
  by_cases h : d = 0
  · subst h; rw [rd_zero]; exact rt_one k hk
  · rw [rd_other k d h]
    have := one_pow (2 ^ k) (rd_mul k hk)
    rwa [one_mul_ (rt_one k hk)] at this
theorem rd_order (k d m : Nat) (hk : k ≤ 32) (h0 : 0 < m) (hm : m < 2 ^ k) : rd k d ^ m % 18446744069414584321 ≠ 1 := by
  by_cases h : d = 0
  · subst h; rw [rd_zero]; exact rt_order k m hk h0 hm
  · rw [rd_other k d h]
    intro e
    have := one_pow m (rd_mul k hk)
    rw [mul_one_ e] at this
    exact rt_order k m hk h0 hm this
/-- The document's own inverse root. -/
theorem rd_doc (k : Nat) (hk : k ≤ 32) : rt k ^ (2 ^ k - 1) % 18446744069414584321 = inv (rt k) := by
  have hp : 0 < 2 ^ k := Nat.two_pow_pos k
  have e : rt k * rt k ^ (2 ^ k - 1) % 18446744069414584321 = rt k * inv (rt k) % 18446744069414584321 := by
    rw [rd_mul k hk, Nat.mul_comm, ← Nat.pow_succ, show Nat.succ (2 ^ k - 1) = 2 ^ k from by omega, rt_one k hk]
  have := cancel (prime.cop (rt_ne k hk)) e
  rwa [Nat.mod_eq_of_lt (inv_lt _)] at this
theorem two_ne (k : Nat) (hk : k ≤ 32) : 2 ^ k % 18446744069414584321 ≠ 0 := by
  have hp : 0 < 2 ^ k := Nat.two_pow_pos k
  have hl : 2 ^ k ≤ 2 ^ 32 := Nat.pow_le_pow_right (by decide) hk
  rw [Nat.mod_eq_of_lt (by omega)]; omega
/-- The document's own share. -/
theorem sh_doc (k : Nat) (hk : k ≤ 32) : 9223372034707292161 ^ k % 18446744069414584321 = inv (2 ^ k) := by
  have e : 2 ^ k * 9223372034707292161 ^ k % 18446744069414584321 = 2 ^ k * inv (2 ^ k) % 18446744069414584321 := by
    rw [Nat.mul_comm (2 ^ k) (inv (2 ^ k)), inv_mul _ (two_ne k hk)]
    exact one_pow k (by decide)
  have := cancel (prime.cop (two_ne k hk)) e
  rwa [Nat.mod_eq_of_lt (inv_lt _)] at this

/-- The defining sum: not divided. -/
def tf (x : Nat → Nat) (n w j : Nat) : Nat := sg (fun i => x i * w ^ (i * j)) n % 18446744069414584321
theorem tf_lt (x : Nat → Nat) (n w j : Nat) : tf x n w j < 18446744069414584321 := Nat.mod_lt _ (by decide)
theorem tf_mod {x y : Nat → Nat} {n : Nat} (h : ∀ i, i < n → x i % 18446744069414584321 = y i % 18446744069414584321) (w j : Nat) : tf x n w j = tf y n w j :=
  Pn.sg_mod n fun i hi => by rw [Nat.mul_mod, h i hi, ← Nat.mul_mod]
theorem tf_congr {x y : Nat → Nat} {n : Nat} (h : ∀ i, i < n → x i = y i) (w j : Nat) : tf x n w j = tf y n w j := tf_mod (fun i hi => by rw [h i hi]) w j
theorem tf_scale (x : Nat → Nat) (n w j s : Nat) : tf (fun i => x i * s % 18446744069414584321) n w j = tf x n w j * s % 18446744069414584321 := by
  unfold tf
  rw [Nat.mod_mul_mod, Nat.mul_comm _ s, ← Pn.sg_mul]
  exact Pn.sg_mod n fun i _ => by rw [Nat.mod_mul_mod, Nat.mul_comm (x i) s, Nat.mul_assoc]
theorem inj_one {w v i j : Nat} (hv : w * v % 18446744069414584321 = 1) (hij : i < j) (e : w ^ i % 18446744069414584321 = w ^ j % 18446744069414584321) : w ^ (j - i) % 18446744069414584321 = 1 := by
  have h1 := one_pow i hv
  rw [Nat.mul_mod, e, ← Nat.mul_mod, show j = (j - i) + i by omega, Nat.pow_add, Nat.mul_assoc, mul_one_ (one_pow i hv)] at h1
  exact h1
/-- Sums of powers of w to the i by v to the m. -/
theorem cross {n w v i m : Nat} (hw : w ^ n % 18446744069414584321 = 1) (hv : w * v % 18446744069414584321 = 1) (ho : ∀ d, 0 < d → d < n → w ^ d % 18446744069414584321 ≠ 1) (hi : i < n) (hm : m < n) :
    sg (fun j => w ^ (i * j) * v ^ (j * m)) n % 18446744069414584321 = if i = m then n % 18446744069414584321 else 0 := by
  have e : ∀ j, w ^ (i * j) * v ^ (j * m) = (w ^ i * v ^ m) ^ j := fun j => by rw [Nat.mul_pow, ← Nat.pow_mul, ← Nat.pow_mul, Nat.mul_comm m j]
  simp only [e]
  by_cases c : i = m
  · subst c
    rw [if_pos rfl]
    have := Pn.sg_mod (m := 18446744069414584321) (f := fun j => (w ^ i * v ^ i) ^ j) (g := fun _ => 1) n (fun j _ => by
      show (w ^ i * v ^ i) ^ j % _ = _
      rw [← pmod, one_pow i hv, pow_one_mod])
    rw [this, sg_const, Nat.one_mul]
  · rw [if_neg c]
    refine geo_zero _ n ?_ fun h => ?_
    · have hvn := one_pow n hv
      rw [one_mul_ hw] at hvn
      rw [Nat.mul_pow, ← Nat.pow_mul, ← Nat.pow_mul, Nat.mul_comm i n, Nat.mul_comm m n, Nat.pow_mul, Nat.pow_mul, Nat.mul_mod, ← pmod, hw, pow_one_mod, ← pmod (v ^ n), hvn, pow_one_mod]
    · have h2 : w ^ i % 18446744069414584321 = w ^ m % 18446744069414584321 := by
        have h3 : w ^ i * v ^ m * w ^ m % 18446744069414584321 = w ^ m % 18446744069414584321 := one_mul_ h
        rw [Nat.mul_assoc, Nat.mul_comm (v ^ m), mul_one_ (one_pow m hv)] at h3
        exact h3
      rcases Nat.lt_trichotomy i m with c' | c' | c'
      · exact ho (m - i) (by omega) (by omega) (inj_one hv c' h2)
      · exact c c'
      · exact ho (i - m) (by omega) (by omega) (inj_one hv c' h2.symm)
/-- The sums of the sums. -/
theorem tf_tf (x : Nat → Nat) {n w v m : Nat} (hw : w ^ n % 18446744069414584321 = 1) (hv : w * v % 18446744069414584321 = 1) (ho : ∀ d, 0 < d → d < n → w ^ d % 18446744069414584321 ≠ 1) (hm : m < n) :
    tf (tf x n w) n v m = x m * n % 18446744069414584321 := by
  have e1 : tf (tf x n w) n v m = sg (fun j => sg (fun i => x i * (w ^ (i * j) * v ^ (j * m))) n) n % 18446744069414584321 := by
    refine Pn.sg_mod n fun j _ => ?_
    show sg (fun i => x i * w ^ (i * j)) n % _ * v ^ (j * m) % _ = _
    rw [Nat.mod_mul_mod, Nat.mul_comm, ← Pn.sg_mul]
    congr 1
    exact Pn.sg_congr n fun i _ => by rw [Nat.mul_left_comm, Nat.mul_comm (v ^ (j * m))]
  rw [e1, sg_swap (fun j i => x i * (w ^ (i * j) * v ^ (j * m))) n n]
  have e2 := Pn.sg_mod (m := 18446744069414584321) (f := fun i => sg (fun j => x i * (w ^ (i * j) * v ^ (j * m))) n) (g := fun i => if i = m then x m * n else 0) n (fun i hi => by
    show sg (fun j => x i * (w ^ (i * j) * v ^ (j * m))) n % _ = _
    rw [Pn.sg_mul, Nat.mul_mod, cross hw hv ho hi hm]
    by_cases c : i = m
    · subst c; rw [if_pos rfl, if_pos rfl, ← Nat.mul_mod]
    · rw [if_neg c, if_neg c, Nat.mul_zero])
  rw [e2]
  have : ∀ c N, m < N → sg (fun i => if i = m then c else 0) N = c := fun c N => by
    intro hN
    induction N with
    | zero => omega
    | succ N ih =>
      show sg _ N + (if N = m then c else 0) = c
      by_cases h : N = m
      · rw [if_pos h, Pn.sg_zero N fun i hi => if_neg (by omega), Nat.zero_add]
      · rw [if_neg h, ih (by omega), Nat.add_zero]
  rw [this _ n hm]

/-- By what a direction's sums are multiplied. -/
def sc (k d : Nat) : Nat := if d = 0 then 1 else inv (2 ^ k)
theorem sc_zero (k : Nat) : sc k 0 = 1 := if_pos rfl
theorem sc_other (k d : Nat) (h : d ≠ 0) : sc k d = inv (2 ^ k) := if_neg h
theorem sc_pair (k d : Nat) (hk : k ≤ 32) (hd : d ≤ 1) : 2 ^ k * (sc k d * sc k (1 - d)) % 18446744069414584321 = 1 := by
  have h := inv_mul _ (two_ne k hk)
  rcases Nat.eq_zero_or_pos d with c | c
  · subst c; rw [sc_zero, sc_other k (1 - 0) (by decide), Nat.one_mul, Nat.mul_comm]; exact h
  · obtain rfl : d = 1 := by omega
    rw [sc_other k 1 (by decide), Nat.sub_self, sc_zero, Nat.mul_one, Nat.mul_comm]; exact h
/-- The transform of a direction. -/
def ft (k d : Nat) (x : Nat → Nat) (j : Nat) : Nat := tf x (2 ^ k) (rd k d) j * sc k d % 18446744069414584321
theorem ft_lt (k d : Nat) (x : Nat → Nat) (j : Nat) : ft k d x j < 18446744069414584321 := Nat.mod_lt _ (by decide)
theorem ft_zero (k : Nat) (x : Nat → Nat) (j : Nat) : ft k 0 x j = tf x (2 ^ k) (rt k) j := by
  unfold ft
  rw [sc_zero, Nat.mul_one, Nat.mod_eq_of_lt (tf_lt _ _ _ _), rd_zero]
theorem ft_mod {x y : Nat → Nat} {k : Nat} (h : ∀ i, i < 2 ^ k → x i % 18446744069414584321 = y i % 18446744069414584321) (d j : Nat) : ft k d x j = ft k d y j := by
  unfold ft; rw [tf_mod h]
theorem ft_congr {x y : Nat → Nat} {k : Nat} (h : ∀ i, i < 2 ^ k → x i = y i) (d j : Nat) : ft k d x j = ft k d y j := ft_mod (fun i hi => by rw [h i hi]) d j
/-- P8.4. -/
theorem ft_ft (k d : Nat) (hk : k ≤ 32) (hd : d ≤ 1) (x : Nat → Nat) (m : Nat) (hm : m < 2 ^ k) : ft k (1 - d) (ft k d x) m = x m % 18446744069414584321 := by
  show tf (fun j => tf x (2 ^ k) (rd k d) j * sc k d % 18446744069414584321) (2 ^ k) (rd k (1 - d)) m * sc k (1 - d) % _ = _
  rw [tf_scale, tf_tf x (rd_one k d hk) (rd_pair k d hk hd) (fun m h0 h1 => rd_order k d m hk h0 h1) hm, Nat.mod_mul_mod, Nat.mul_assoc (_ % _), Nat.mod_mul_mod, Nat.mul_assoc]
  exact mul_one_ (sc_pair k d hk hd)
end Tn
end Go.Proofs.YtfkhnfaammfbeaaDoor
