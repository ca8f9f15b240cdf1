/- Roots of unity of the field: powers of 7; the roots' orders; a word whose power of 2^k is 1 is a power of the root, found bit by bit; sums of powers. It names no program. -/
import Derived.Test.YtfkhnfaammfbeaaDoorPrime
namespace Go.Proofs.YtfkhnfaammfbeaaDoor
namespace Nt
/-- The odd part of P - 1. -/
def oddP : Nat := 4294967295
/-- (P - 1) / 2^k. -/
def rtE (k : Nat) : Nat := 2 ^ (32 - k) * oddP
/-- The root of order 2^k. -/
def rt (k : Nat) : Nat := 7 ^ rtE k % 18446744069414584321
theorem rt_lt (k : Nat) : rt k < 18446744069414584321 := Nat.mod_lt _ (by decide)
theorem rtE_mul (k : Nat) (hk : k ≤ 32) : rtE k * 2 ^ k = 18446744069414584320 := by
  unfold rtE
  rw [Nat.mul_assoc, Nat.mul_comm oddP, ← Nat.mul_assoc, ← Nat.pow_add, show 32 - k + k = 32 from by omega]
  rfl
theorem rtE_div (k : Nat) (hk : k ≤ 32) : 18446744069414584320 / 2 ^ k = rtE k := by
  rw [← rtE_mul k hk]
  exact Nat.mul_div_cancel _ (Nat.two_pow_pos k)
theorem rtE_half (k : Nat) (hk : k < 32) : rtE (k + 1) * 2 ^ k = 9223372034707292160 := by
  have := rtE_mul (k + 1) (by omega)
  rw [Nat.pow_succ, ← Nat.mul_assoc] at this
  omega
theorem rtE_le (k : Nat) (hk : k ≤ 32) : rtE k < 18446744073709551616 := by
  have := rtE_mul k hk
  have : rtE k * 1 ≤ rtE k * 2 ^ k := Nat.mul_le_mul_left _ (Nat.two_pow_pos k)
  omega
theorem rtE_next (k : Nat) (hk : k < 32) : rtE (k + 1) + rtE (k + 1) = rtE k := by
  have h1 := rtE_mul (k + 1) (by omega)
  have h2 := rtE_mul k (by omega)
  rw [Nat.pow_succ, Nat.mul_comm (2 ^ k), ← Nat.mul_assoc] at h1
  have := Nat.eq_of_mul_eq_mul_right (Nat.two_pow_pos k) (h1.trans h2.symm)
  omega
theorem pmod (a n : Nat) : (a % 18446744069414584321) ^ n % 18446744069414584321 = a ^ n % 18446744069414584321 := (Nat.pow_mod a n _).symm
theorem rt_pow (k i : Nat) : rt k ^ i % 18446744069414584321 = 7 ^ (rtE k * i) % 18446744069414584321 := by
  rw [rt, pmod, ← Nat.pow_mul]
theorem rt_sq (k : Nat) (hk : k < 32) : rt (k + 1) * rt (k + 1) % 18446744069414584321 = rt k := by
  rw [rt, ← Nat.mul_mod, ← Nat.pow_add, rtE_next k hk, rt]
theorem rt_half (k : Nat) (hk : k < 32) : rt (k + 1) ^ 2 ^ k % 18446744069414584321 = 18446744069414584320 := by
  rw [rt_pow]
  exact seven _ (rtE_half k hk)
theorem rt_one (k : Nat) (hk : k ≤ 32) : rt k ^ 2 ^ k % 18446744069414584321 = 1 := by
  rw [rt_pow]
  exact pow_all 7 _ (by decide) (rtE_mul k hk)
theorem rt_ne (k : Nat) (hk : k ≤ 32) : rt k % 18446744069414584321 ≠ 0 := by
  intro h
  have := pow_zero_mod (rt k) (2 ^ k) h (Nat.two_pow_pos k)
  rw [rt_one k hk] at this
  cases this
theorem rt0 (k : Nat) (hk : k = 0) : rt k = 1 := by
  have := rt_one k (by omega)
  have e : 2 ^ k = 1 := by rw [hk]
  rwa [e, Nat.pow_one, Nat.mod_eq_of_lt (rt_lt k)] at this
theorem rt1 (k : Nat) (hk : k = 0) : rt (k + 1) = 18446744069414584320 := by
  have := rt_half k (by omega)
  have e : 2 ^ k = 1 := by rw [hk]
  rwa [e, Nat.pow_one, Nat.mod_eq_of_lt (rt_lt (k + 1))] at this
theorem rt2_num (m : Nat) (hm : m = 4611686017353646080) : 7 ^ m % 18446744069414584321 = 281474976710656 := by
  have h := pm_eq 18446744069414584321 64 7 m 1 (by rw [hm]; decide)
  rw [Nat.one_mul] at h
  rw [← h, hm]
  decide +kernel
theorem rt2 (k : Nat) (hk : k = 2) : rt k = 281474976710656 := by
  have := rtE_mul k (by omega)
  exact rt2_num (rtE k) (by rw [hk] at *; omega)

theorem own_inverse (x : Nat) (h : x * x % 18446744069414584321 = 1) : x % 18446744069414584321 = 1 ∨ x % 18446744069414584321 = 18446744069414584320 := by
  have x0 : x ≠ 0 := fun e => by subst e; simp at h
  have e : (x - 1) * (x + 1) = x * x - 1 := by
    obtain ⟨y, rfl⟩ : ∃ y, x = y + 1 := ⟨x - 1, by omega⟩
    simp only [Nat.add_sub_cancel, Nat.add_mul, Nat.mul_add]
    omega
  have h0 : (x - 1) * (x + 1) % 18446744069414584321 = 0 := by rw [e]; generalize x * x = q at *; omega
  rcases prime.mul h0 with c | c
  · left; omega
  · right; omega
theorem minus_two : 18446744069414584320 * 18446744069414584320 % 18446744069414584321 = 1 := by decide
theorem pow_one_mod (n : Nat) : 1 ^ n % 18446744069414584321 = 1 := by rw [Nat.one_pow]
/-- No lesser power of a root is 1. -/
theorem rt_order (k d : Nat) (hk : k ≤ 32) (h0 : 0 < d) (hd : d < 2 ^ k) : rt k ^ d % 18446744069414584321 ≠ 1 := by
  intro h1
  obtain ⟨s, t, e, ht⟩ := two_odd d h0
  have hs : s < k := by
    apply Nat.lt_of_not_le
    intro hle
    have a1 : 2 ^ k ≤ 2 ^ s := Nat.pow_le_pow_right (by decide) hle
    have a2 : 2 ^ s * 1 ≤ 2 ^ s * t := Nat.mul_le_mul_left _ (by omega)
    omega
  obtain ⟨m, rfl⟩ : ∃ m, k = m + 1 := ⟨k - 1, by omega⟩
  have h2 : (rt (m + 1) ^ d) ^ 2 ^ (m - s) % 18446744069414584321 = 1 := by rw [← pmod, h1, pow_one_mod]
  rw [← Nat.pow_mul, e, show 2 ^ s * t * 2 ^ (m - s) = 2 ^ m * t from by rw [Nat.mul_right_comm, ← Nat.pow_add, show s + (m - s) = m from by omega], Nat.pow_mul, ← pmod, rt_half m (by omega)] at h2
  have h3 := neg_odd 18446744069414584321 t (by decide) ht
  rw [show (18446744069414584321 - 1 : Nat) = 18446744069414584320 from rfl] at h3
  rw [h3] at h2
  cases h2
theorem pow_cop (k i : Nat) (hk : k ≤ 32) : Nat.Coprime (rt k ^ i) 18446744069414584321 := Nat.Coprime.pow_left i (prime.cop (rt_ne k hk))
theorem rt_inj_lt (k i j : Nat) (hk : k ≤ 32) (hij : i < j) (hj : j < 2 ^ k) : rt k ^ i % 18446744069414584321 ≠ rt k ^ j % 18446744069414584321 := by
  intro e
  refine rt_order k (j - i) hk (by omega) (by omega) ?_
  have : rt k ^ i * 1 % 18446744069414584321 = rt k ^ i * rt k ^ (j - i) % 18446744069414584321 := by rw [Nat.mul_one, ← Nat.pow_add, show i + (j - i) = j from by omega, e]
  exact (cancel (pow_cop k i hk) this).symm
theorem rt_inj (k i j : Nat) (hk : k ≤ 32) (hi : i < 2 ^ k) (hj : j < 2 ^ k) (e : rt k ^ i % 18446744069414584321 = rt k ^ j % 18446744069414584321) : i = j := by
  rcases Nat.lt_trichotomy i j with c | c | c
  · exact absurd e (rt_inj_lt k i j hk c hj)
  · exact c
  · exact absurd e.symm (rt_inj_lt k j i hk c hi)
/-- Half of its order on, a root's powers are the negatives. -/
theorem rt_far (k i : Nat) (hk : k < 32) : (rt (k + 1) ^ (i + 2 ^ k) % 18446744069414584321 + rt (k + 1) ^ i % 18446744069414584321) % 18446744069414584321 = 0 := by
  rw [Nat.pow_add, Nat.mul_mod, rt_half k hk]
  generalize rt (k + 1) ^ i % 18446744069414584321 = x
  omega

theorem sg_mod (f : Nat → Nat) (q : Nat) : ∀ n, sg (fun j => f j % q) n % q = sg f n % q
  | 0 => rfl
  | n + 1 => by
    show (sg (fun j => f j % q) n + f n % q) % q = (sg f n + f n) % q
    rw [Nat.add_mod, sg_mod f q n, Nat.mod_mod, ← Nat.add_mod]
theorem geo (x : Nat) : ∀ n, x * sg (fun j => x ^ j) n + 1 = sg (fun j => x ^ j) n + x ^ n
  | 0 => rfl
  | n + 1 => by
    show x * (sg (fun j => x ^ j) n + x ^ n) + 1 = sg (fun j => x ^ j) n + x ^ n + x ^ (n + 1)
    have := geo x n
    rw [Nat.mul_add, Nat.pow_succ, Nat.mul_comm x (x ^ n)]
    omega
/-- The powers of a word whose power of n is 1 make 0, unless it is 1. -/
theorem geo_zero (x n : Nat) (h : x ^ n % 18446744069414584321 = 1) (h1 : x % 18446744069414584321 ≠ 1) : sg (fun j => x ^ j) n % 18446744069414584321 = 0 := by
  refine Classical.byContradiction fun hS => h1 ?_
  have g := geo x n
  generalize sg (fun j => x ^ j) n = S at *
  have e : S * x % 18446744069414584321 = S * 1 % 18446744069414584321 := by
    rw [Nat.mul_comm, Nat.mul_one]
    generalize x * S = q at *
    generalize x ^ n = r at *
    omega
  have := cancel (prime.cop hS) e
  rw [this]
theorem rt_sum (k : Nat) (h0 : 0 < k) (hk : k ≤ 32) : sg (fun j => rt k ^ j % 18446744069414584321) (2 ^ k) % 18446744069414584321 = 0 := by
  rw [sg_mod]
  refine geo_zero _ _ (rt_one k hk) ?_
  have := rt_order k 1 hk (by decide) (by have := Nat.pow_le_pow_right (n := 2) (by decide) h0; omega)
  rwa [Nat.pow_one] at this

/-- a's power of 2^k is 1. -/
def One (a k : Nat) : Prop := a ^ 2 ^ k % 18446744069414584321 = 1
theorem One.step {a k : Nat} (h : One a k) : One a (k + 1) := by
  unfold One at *
  rw [Nat.pow_succ, Nat.pow_mul, ← pmod, h, pow_one_mod]
theorem One.mono {a k : Nat} (h : One a k) : ∀ {m : Nat}, k ≤ m → One a m := by
  intro m hm
  obtain ⟨d, rfl⟩ : ∃ d, m = k + d := ⟨m - k, by omega⟩
  induction d with
  | zero => exact h
  | succ d ih => exact (ih (by omega)).step
theorem least (p : Nat → Prop) : ∀ n, (∃ m, m ≤ n ∧ p m ∧ ∀ j, j < m → ¬ p j) ∨ (∀ j, j ≤ n → ¬ p j)
  | 0 => by
    by_cases h : p 0
    · exact Or.inl ⟨0, Nat.le_refl _, h, fun j hj => by omega⟩
    · exact Or.inr fun j hj => by rwa [show j = 0 from by omega]
  | n + 1 => by
    rcases least p n with ⟨m, hm, h1, h2⟩ | h
    · exact Or.inl ⟨m, by omega, h1, h2⟩
    · by_cases hp : p (n + 1)
      · exact Or.inl ⟨n + 1, Nat.le_refl _, hp, fun j hj => h j (by omega)⟩
      · exact Or.inr fun j hj => by
          by_cases e : j = n + 1
          · rw [e]; exact hp
          · exact h j (by omega)
theorem one_sq (a i x : Nat) (h : x = a ^ 2 ^ i % 18446744069414584321) : x * x % 18446744069414584321 = a ^ 2 ^ (i + 1) % 18446744069414584321 := by
  rw [h, ← Nat.mul_mod, ← Nat.pow_add, Nat.pow_succ, Nat.mul_two]
theorem rt_pow_one (k n : Nat) (hk : k ≤ 32) : One (rt k ^ n % 18446744069414584321) k := by
  unfold One
  rw [pmod, ← Nat.pow_mul, Nat.mul_comm, Nat.pow_mul, ← pmod, rt_one k hk, pow_one_mod]
theorem one_mod {a b k : Nat} (h : One a k) (e : a % 18446744069414584321 = b % 18446744069414584321) : One b k := by
  unfold One at *
  rw [← pmod, ← e, pmod, h]

/-- What the search of a logarithm keeps. -/
structure LInv (a k i n r b : Nat) : Prop where
  e : r * rt k ^ n % 18446744069414584321 = a % 18446744069414584321
  rl : r < 18446744069414584321
  nl : n < 2 ^ i
  bk : b * rt k ^ 2 ^ i % 18446744069414584321 = 1
  bl : b < 18446744069414584321
  one : One a k → One r (k - i)
theorem linv_start (a k : Nat) (hk : k ≤ 32) : LInv a k 0 0 (a % 18446744069414584321) (inv (rt k)) :=
  ⟨by simp, Nat.mod_lt _ (by decide), by decide, by rw [Nat.pow_zero, Nat.pow_one]; exact inv_mul _ (rt_ne k hk), inv_lt _, fun h => one_mod h (by simp)⟩
theorem linv_bb {k i b : Nat} (h : b * rt k ^ 2 ^ i % 18446744069414584321 = 1) : b * b % 18446744069414584321 * rt k ^ 2 ^ (i + 1) % 18446744069414584321 = 1 := by
  rw [Nat.mod_mul_mod, Nat.pow_succ, Nat.mul_two, Nat.pow_add, Nat.mul_mul_mul_comm, Nat.mul_mod, h]
theorem linv_skip {a k i n r b : Nat} (h : LInv a k i n r b) (h1 : One r (k - 1 - i)) : LInv a k (i + 1) n r (b * b % 18446744069414584321) :=
  ⟨h.e, h.rl, Nat.lt_trans h.nl (Nat.pow_lt_pow_right (by decide) (Nat.lt_succ_self _)), linv_bb h.bk, Nat.mod_lt _ (by decide), fun _ => by rwa [show k - (i + 1) = k - 1 - i from by omega]⟩
theorem mul_half (x : Nat) (h : x * 18446744069414584320 % 18446744069414584321 = 1) : x % 18446744069414584321 = 18446744069414584320 := by
  have e : (x * 18446744069414584320 + x) % 18446744069414584321 = 0 := by
    rw [← Nat.mul_succ]
    exact Nat.mul_mod_left _ _
  rw [Nat.add_mod, h] at e
  have := Nat.mod_lt x (show 0 < 18446744069414584321 by decide)
  generalize x % 18446744069414584321 = r at *
  omega
theorem linv_take {a k i n r b : Nat} (h : LInv a k i n r b) (hi : i < k) (hk : k ≤ 32) (h1 : ¬ One r (k - 1 - i)) : LInv a k (i + 1) (n + 2 ^ i) (r * b % 18446744069414584321) (b * b % 18446744069414584321) := by
  refine ⟨?_, Nat.mod_lt _ (by decide), by have := h.nl; rw [Nat.pow_succ]; omega, linv_bb h.bk, Nat.mod_lt _ (by decide), fun ha => ?_⟩
  · rw [Nat.mod_mul_mod, Nat.pow_add, Nat.mul_mul_mul_comm, Nat.mul_mod, h.bk, Nat.mul_one, Nat.mod_mod, h.e]
  · have h2 := h.one ha
    unfold One at *
    rw [show k - (i + 1) = k - 1 - i from by omega, pmod, Nat.mul_pow]
    have e1 : r ^ 2 ^ (k - 1 - i) * r ^ 2 ^ (k - 1 - i) % 18446744069414584321 = 1 := by rw [← Nat.pow_add, ← Nat.mul_two, ← Nat.pow_succ, show (k - 1 - i).succ = k - i from by omega, h2]
    have c1 : r ^ 2 ^ (k - 1 - i) % 18446744069414584321 = 18446744069414584320 := by
      rcases own_inverse _ e1 with c | c
      · exact absurd c h1
      · exact c
    have e2 : (b * rt k ^ 2 ^ i) ^ 2 ^ (k - 1 - i) % 18446744069414584321 = 1 := by rw [← pmod, h.bk, pow_one_mod]
    obtain ⟨m, rfl⟩ : ∃ m, k = m + 1 := ⟨k - 1, by omega⟩
    rw [Nat.mul_pow, ← Nat.pow_mul, ← Nat.pow_add, show i + (m + 1 - 1 - i) = m from by omega, Nat.mul_mod, rt_half m (by omega), Nat.mod_mul_mod] at e2
    rw [Nat.mul_mod, c1, mul_half _ e2]
theorem linv_some : ∀ (a k i : Nat), k ≤ 32 → i ≤ k → ∃ n r b, LInv a k i n r b
  | a, k, 0, hk, _ => ⟨_, _, _, linv_start a k hk⟩
  | a, k, i + 1, hk, hi => by
    obtain ⟨n, r, b, h⟩ := linv_some a k i hk (by omega)
    by_cases h1 : One r (k - 1 - i)
    · exact ⟨_, _, _, linv_skip h h1⟩
    · exact ⟨_, _, _, linv_take h (by omega) hk h1⟩
theorem linv_one {a k n r b : Nat} (h : LInv a k k n r b) (ha : One a k) : r = 1 := by
  have := h.one ha
  unfold One at this
  rwa [Nat.sub_self, Nat.pow_zero, Nat.pow_one, Nat.mod_eq_of_lt h.rl] at this
theorem linv_end {a k n b : Nat} (h : LInv a k k n 1 b) : rt k ^ n % 18446744069414584321 = a % 18446744069414584321 := by
  have := h.e
  rwa [Nat.one_mul] at this
/-- A word whose power of 2^k is 1 is a power of the root. -/
theorem log_ex (a k : Nat) (hk : k ≤ 32) (ha : One a k) : ∃ n, n < 2 ^ k ∧ rt k ^ n % 18446744069414584321 = a % 18446744069414584321 := by
  obtain ⟨n, r, b, h⟩ := linv_some a k k hk (Nat.le_refl _)
  obtain rfl := linv_one h ha
  exact ⟨n, h.nl, linv_end h⟩
theorem one_of_log {a k n : Nat} (hk : k ≤ 32) (h : rt k ^ n % 18446744069414584321 = a % 18446744069414584321) : One a k :=
  one_mod (rt_pow_one k n hk) (by rw [Nat.mod_mod, h])
end Nt
end Go.Proofs.YtfkhnfaammfbeaaDoor
