/- Primes: Fermat's theorem, and that 2^64 - 2^32 + 1 is a prime (a power of 7 is -1); it names no program. / Roots of unity of the field: powers of 7; the roots' orders; a word whose power of 2^k is 1 is a power of the root, found bit by bit; sums of powers. It names no program. / Polynomials whose coefficients are naturals, looked at by a number m: products, values, derivatives, trimmed rows. It names no program. / Transforms over the field: the roots of both directions, the defining sums, and that the inverse one of the forward one is the row. It names no program. / Transforms by halves, plain: the sums of even and odd places, of the first and the second half; sums, multiples, rows turned by one place, products of polynomials. It names no program. -/
namespace Go.Proofs.YtnnieiedkjekpaaDoor
namespace Nt
/-- A number is prime: what divides it is 1 or it itself. -/
def Pr (p : Nat) : Prop := 2 ≤ p ∧ ∀ d, d ∣ p → d = 1 ∨ d = p

theorem Pr.cop {p : Nat} (h : Pr p) {a : Nat} (ha : a % p ≠ 0) : Nat.Coprime a p := by
  unfold Nat.Coprime
  rcases h.2 _ (Nat.gcd_dvd_right a p) with e | e
  · exact e
  · exfalso; apply ha; exact Nat.mod_eq_zero_of_dvd (e ▸ Nat.gcd_dvd_left a p)

theorem Pr.mul {p : Nat} (h : Pr p) {a b : Nat} (e : a * b % p = 0) : a % p = 0 ∨ b % p = 0 := by
  by_cases ha : a % p = 0
  · exact Or.inl ha
  · right
    exact Nat.mod_eq_zero_of_dvd ((h.cop ha).symm.dvd_of_dvd_mul_left (Nat.dvd_of_mod_eq_zero e))

theorem cancel {p a x y : Nat} (h : Nat.Coprime a p) (e : a * x % p = a * y % p) : x % p = y % p := by
  have key : ∀ x y, x ≤ y → a * x % p = a * y % p → x % p = y % p := by
    intro x y hxy e
    have d : p ∣ a * y - a * x := Nat.dvd_of_mod_eq_zero (Nat.sub_mod_eq_zero_of_mod_eq e.symm)
    rw [← Nat.mul_sub] at d
    obtain ⟨k, hk⟩ := h.symm.dvd_of_dvd_mul_left d
    have : y = x + p * k := by omega
    rw [this]; simp
  rcases Nat.le_total x y with c | c
  · exact key x y c e
  · exact (key y x c e.symm).symm

/-- Pigeons: a list without twins inside another one that is no longer is that one in another order. -/
theorem perm_of_sub {α : Type} [BEq α] [LawfulBEq α] : ∀ (l1 l2 : List α), l1.Nodup → (∀ x, x ∈ l1 → x ∈ l2) → l2.length ≤ l1.length → l1.Perm l2
  | [], l2, _, _, hl => by
    have : l2 = [] := List.length_eq_zero_iff.mp (by simpa using hl)
    rw [this]
  | a :: l, l2, hn, hs, hl => by
    have ha : a ∈ l2 := hs a (by simp)
    have hp := List.perm_cons_erase ha
    have hn' := List.nodup_cons.mp hn
    refine List.Perm.trans (List.Perm.cons a (perm_of_sub l (l2.erase a) hn'.2 ?_ ?_)) hp.symm
    · intro x hx
      have : x ≠ a := fun e => hn'.1 (e ▸ hx)
      exact (List.mem_erase_of_ne this).mpr (hs x (by simp [hx]))
    · rw [List.length_erase_of_mem ha]; simp at hl; omega

/-- The product of all. -/
def prod : List Nat → Nat
  | [] => 1
  | a :: l => a * prod l

theorem prod_perm {l1 l2 : List Nat} (h : l1.Perm l2) : prod l1 = prod l2 := by
  induction h with
  | nil => rfl
  | cons x _ ih => simp [prod, ih]
  | swap x y l => simp only [prod]; rw [← Nat.mul_assoc, ← Nat.mul_assoc, Nat.mul_comm y x]
  | trans _ _ i1 i2 => rw [i1, i2]

theorem prod_scale (a p : Nat) : ∀ l : List Nat, prod (l.map fun i => a * i % p) % p = a ^ l.length * prod l % p
  | [] => by simp [prod]
  | x :: l => by
    simp only [List.map, prod, List.length_cons]
    rw [Nat.mul_mod, prod_scale a p l, Nat.mod_mod, ← Nat.mul_mod]
    congr 1
    rw [Nat.pow_succ]
    simp only [Nat.mul_assoc, Nat.mul_comm, Nat.mul_left_comm]

theorem prod_cop {p : Nat} (h : Pr p) : ∀ l : List Nat, (∀ x, x ∈ l → x % p ≠ 0) → Nat.Coprime (prod l) p
  | [], _ => by simp [prod]
  | x :: l, hx => by
    simp only [prod]
    exact Nat.Coprime.mul_left (h.cop (hx x (by simp))) (prod_cop h l fun y hy => hx y (by simp [hy]))

theorem nodup_map_inj {α β : Type} (f : α → β) : ∀ l : List α, l.Nodup → (∀ x y, x ∈ l → y ∈ l → f x = f y → x = y) → (l.map f).Nodup
  | [], _, _ => by simp
  | a :: l, hn, hi => by
    have hn' := List.nodup_cons.mp hn
    rw [List.map_cons, List.nodup_cons]
    refine ⟨?_, nodup_map_inj f l hn'.2 fun x y hx hy => hi x y (by simp [hx]) (by simp [hy])⟩
    intro hm
    obtain ⟨x, hx, e⟩ := List.mem_map.mp hm
    have := hi x a (by simp [hx]) (by simp) e
    exact hn'.1 (this ▸ hx)

theorem fermat {p : Nat} (h : Pr p) {a : Nat} (ha : a % p ≠ 0) : a ^ (p - 1) % p = 1 := by
  have h2 := h.1
  let l := List.range' 1 (p - 1)
  have hl : ∀ x, x ∈ l ↔ 1 ≤ x ∧ x < p := by
    intro x; simp only [l, List.mem_range'_1]; omega
  have hm : ∀ x, x ∈ l → x % p = x := fun x hx => Nat.mod_eq_of_lt ((hl x).mp hx).2
  have hp : (l.map fun i => a * i % p).Perm l := by
    refine perm_of_sub _ _ (nodup_map_inj _ _ List.nodup_range' ?_) ?_ (by simp)
    · intro x y hx hy e
      have := cancel (h.cop ha) e
      rwa [hm x hx, hm y hy] at this
    · intro z hz
      obtain ⟨x, hx, rfl⟩ := List.mem_map.mp hz
      rw [hl]
      refine ⟨?_, Nat.mod_lt _ (by omega)⟩
      refine Nat.pos_of_ne_zero fun e => ?_
      rcases h.mul e with c | c
      · exact ha c
      · rw [hm x hx] at c; have := ((hl x).mp hx).1; omega
  have e1 := prod_scale a p l
  rw [prod_perm hp] at e1
  have hc := prod_cop h l (fun x hx => by rw [hm x hx]; have := ((hl x).mp hx).1; omega)
  have e2 : prod l * 1 % p = prod l * a ^ l.length % p := by rw [Nat.mul_one, e1, Nat.mul_comm]
  have e3 := cancel hc e2
  rw [show l.length = p - 1 from by simp [l]] at e3
  rw [← e3, Nat.mod_eq_of_lt (by omega)]
/-- Powers by squares, with what each leaves: for the kernel. -/
def pm (p : Nat) : Nat → Nat → Nat → Nat → Nat
  | 0, _, _, acc => acc
  | f + 1, b, n, acc => pm p f (b * b % p) (n / 2) (if n % 2 = 1 then acc * b % p else acc)
theorem pm_eq (p : Nat) : ∀ f b n acc, n < 2 ^ f → pm p f b n acc % p = acc * b ^ n % p
  | 0, b, n, acc, h => by
    have : n = 0 := by simpa using h
    subst this; simp [pm]
  | f + 1, b, n, acc, h => by
    rw [pm, pm_eq p f _ _ _ (by rw [Nat.pow_succ] at h; omega)]
    have e : b ^ n = (b * b) ^ (n / 2) * b ^ (n % 2) := by
      rw [← Nat.pow_two, ← Nat.pow_mul, ← Nat.pow_add]; congr 1; omega
    have c : (b * b % p) ^ (n / 2) % p = (b * b) ^ (n / 2) % p := (Nat.pow_mod (b * b) (n / 2) p).symm
    rw [Nat.mul_mod, c, ← Nat.mul_mod, e]
    split
    · next h1 => rw [h1, Nat.pow_one, Nat.mul_mod, Nat.mod_mod, ← Nat.mul_mod]; congr 1; simp only [Nat.mul_assoc, Nat.mul_comm, Nat.mul_left_comm]
    · next h1 => rw [show n % 2 = 0 from by omega]; simp
theorem seven (m : Nat) (hm : m = 9223372034707292160) : 7 ^ m % 18446744069414584321 = 18446744069414584320 := by
  have h := pm_eq 18446744069414584321 64 7 m 1 (by rw [hm]; decide)
  rw [Nat.one_mul] at h
  rw [← h, hm]
  decide +kernel

theorem has_prime : ∀ n, 2 ≤ n → ∃ q, Pr q ∧ q ∣ n := by
  intro n
  induction n using Nat.strongRecOn with
  | _ n ih =>
    intro h2
    by_cases hp : Pr n
    · exact ⟨n, hp, Nat.dvd_refl n⟩
    · have : ∃ d, d ∣ n ∧ d ≠ 1 ∧ d ≠ n := Classical.byContradiction fun hc => hp ⟨h2, fun d hd => Classical.byContradiction fun hx => hc ⟨d, hd, fun e => hx (Or.inl e), fun e => hx (Or.inr e)⟩⟩
      obtain ⟨d, hd, d1, dn⟩ := this
      have dl := Nat.le_of_dvd (by omega) hd
      have d0 : d ≠ 0 := fun e => by subst e; have := Nat.eq_zero_of_zero_dvd hd; omega
      obtain ⟨q, hq, hqd⟩ := ih d (by omega) (by omega)
      exact ⟨q, hq, Nat.dvd_trans hqd hd⟩

theorem small_prime (n : Nat) (h2 : 2 ≤ n) (hn : ¬ Pr n) : ∃ q, Pr q ∧ q ∣ n ∧ q * q ≤ n := by
  have : ∃ d, d ∣ n ∧ d ≠ 1 ∧ d ≠ n := Classical.byContradiction fun hc => hn ⟨h2, fun d hd => Classical.byContradiction fun hx => hc ⟨d, hd, fun e => hx (Or.inl e), fun e => hx (Or.inr e)⟩⟩
  obtain ⟨d, ⟨e, he⟩, d1, dn⟩ := this
  have key : ∀ d e, n = d * e → d ≠ 1 → d ≤ e → ∃ q, Pr q ∧ q ∣ n ∧ q * q ≤ n := by
    intro d e he d1 hde
    have d0 : d ≠ 0 := fun z => by subst z; simp at he; omega
    obtain ⟨q, hq, hqd⟩ := has_prime d (by omega)
    have ql := Nat.le_of_dvd (by omega) hqd
    exact ⟨q, hq, Nat.dvd_trans hqd ⟨e, he⟩, Nat.le_trans (Nat.mul_le_mul ql (Nat.le_trans ql hde)) (Nat.le_of_eq he.symm)⟩
  rcases Nat.le_total d e with c | c
  · exact key d e he d1 c
  · exact key e d (by rw [he, Nat.mul_comm]) (fun z => dn (by rw [he, z, Nat.mul_one])) c

theorem two_odd : ∀ n, 0 < n → ∃ s t, n = 2 ^ s * t ∧ t % 2 = 1 := by
  intro n
  induction n using Nat.strongRecOn with
  | _ n ih =>
    intro h
    by_cases ho : n % 2 = 1
    · exact ⟨0, n, by simp, ho⟩
    · obtain ⟨s, t, e, ht⟩ := ih (n / 2) (by omega) (by omega)
      refine ⟨s + 1, t, ?_, ht⟩
      rw [Nat.pow_succ, Nat.mul_comm (2 ^ s) 2, Nat.mul_assoc, ← e]; omega

theorem neg_odd (q t : Nat) (hq : 2 ≤ q) (ht : t % 2 = 1) : (q - 1) ^ t % q = q - 1 := by
  have e : t = 2 * (t / 2) + 1 := by omega
  have s : (q - 1) ^ 2 % q = 1 := by
    obtain ⟨r, rfl⟩ : ∃ r, q = r + 2 := ⟨q - 2, by omega⟩
    rw [Nat.pow_two, show (r + 2 - 1) * (r + 2 - 1) = 1 + (r + 2) * r from by rw [show r + 2 - 1 = r + 1 from rfl]; simp only [Nat.add_mul, Nat.mul_add]; omega]
    rw [Nat.add_mul_mod_self_left, Nat.mod_eq_of_lt (by omega)]
  rw [e, Nat.pow_succ, Nat.pow_mul, Nat.mul_mod, Nat.pow_mod, s, Nat.one_pow, Nat.mod_eq_of_lt (show 1 < q from by omega), Nat.one_mul, Nat.mod_mod, Nat.mod_eq_of_lt (by omega)]

theorem prime : Pr 18446744069414584321 := by
  refine Classical.byContradiction fun hn => ?_
  obtain ⟨q, hq, hd, hqq⟩ := small_prime 18446744069414584321 (by decide) hn
  have q2 := hq.1
  obtain ⟨s, t, e, ht⟩ := two_odd (q - 1) (by omega)
  have hM : ∀ m, m = 9223372034707292160 → 7 ^ m % q = q - 1 := by
    intro m hm
    have := seven m hm
    rw [← Nat.mod_mod_of_dvd (7 ^ m) hd, this]
    obtain ⟨c, hc⟩ := hd
    have : (18446744069414584320 : Nat) = (q - 1) + q * (c - 1) := by
      have c0 : c ≠ 0 := fun z => by subst z; simp at hc
      have := Nat.mul_sub q c 1
      have : q ≤ q * c := Nat.le_mul_of_pos_right q (by omega)
      rw [Nat.mul_sub]; omega
    rw [this, Nat.add_mul_mod_self_left, Nat.mod_eq_of_lt (by omega)]
  have h7 : 7 % q ≠ 0 := by
    intro z
    obtain ⟨m0, hm0⟩ : ∃ m : Nat, m = 9223372034707292160 := ⟨_, rfl⟩
    have h := hM m0 hm0
    have : ∀ m, 0 < m → 7 ^ m % q = 0 := by
      intro m hm
      obtain ⟨k, rfl⟩ : ∃ k, m = k + 1 := ⟨m - 1, by omega⟩
      rw [Nat.pow_succ, Nat.mul_mod, z, Nat.mul_zero, Nat.zero_mod]
    rw [this m0 (by omega)] at h; omega
  have hf := fermat hq h7
  by_cases hs : 32 ≤ s
  · have t1 : 1 ≤ t := by omega
    have : 2 ^ 32 ≤ 2 ^ s := Nat.pow_le_pow_right (by decide) hs
    have : 2 ^ 32 * 1 ≤ 2 ^ s * t := Nat.mul_le_mul this t1
    have : 4294967297 * 4294967297 ≤ q * q := Nat.mul_le_mul (by omega) (by omega)
    omega
  · have key : ∀ m, m = 9223372034707292160 → (7 ^ m) ^ t % q = 1 := by
      intro m hm
      have hx : m = 2 ^ s * (2 ^ (31 - s) * 4294967295) := by
        rw [← Nat.mul_assoc, ← Nat.pow_add, show s + (31 - s) = 31 from by omega, hm]
      rw [hx, ← Nat.pow_mul, show 2 ^ s * (2 ^ (31 - s) * 4294967295) * t = (q - 1) * (2 ^ (31 - s) * 4294967295) from by rw [e]; simp only [Nat.mul_assoc, Nat.mul_comm], Nat.pow_mul, Nat.pow_mod, hf, Nat.one_pow, Nat.mod_eq_of_lt (by omega)]
    obtain ⟨m0, hm0⟩ : ∃ m : Nat, m = 9223372034707292160 := ⟨_, rfl⟩
    have k1 := key m0 hm0
    rw [Nat.pow_mod, hM m0 hm0, neg_odd q t q2 ht] at k1
    have : q = 2 := by omega
    subst this
    revert hd; decide
/-- The exponent whose power is the inverse. -/
def expo : Nat := 18446744069414584319
/-- The inverse: a power. -/
def inv (b : Nat) : Nat := b ^ expo % 18446744069414584321
theorem inv_lt (b : Nat) : inv b < 18446744069414584321 := Nat.mod_lt _ (by decide)
theorem pow_all (b n : Nat) (h : b % 18446744069414584321 ≠ 0) (hn : n = 18446744069414584320) : b ^ n % 18446744069414584321 = 1 := by
  have := fermat prime h
  rwa [show 18446744069414584321 - 1 = n from by omega] at this
theorem pow_zero_mod (b n : Nat) (h : b % 18446744069414584321 = 0) (hn : 0 < n) : b ^ n % 18446744069414584321 = 0 := by
  obtain ⟨k, rfl⟩ : ∃ k, n = k + 1 := ⟨n - 1, by omega⟩
  rw [Nat.pow_succ, Nat.mul_mod, h, Nat.mul_zero, Nat.zero_mod]
theorem inv_pow (b m : Nat) (hm : m = 18446744069414584319) : inv b = b ^ m % 18446744069414584321 := by rw [show m = expo from hm]; rfl
theorem inv_mul (b : Nat) (h : b % 18446744069414584321 ≠ 0) : inv b * b % 18446744069414584321 = 1 := by
  obtain ⟨m, hm⟩ : ∃ m : Nat, m = 18446744069414584319 := ⟨_, rfl⟩
  rw [inv_pow b m hm, Nat.mod_mul_mod, ← Nat.pow_succ]
  exact pow_all b (m + 1) h (by omega)
theorem prod_append : ∀ a b : List Nat, prod (a ++ b) = prod a * prod b
  | [], b => by simp [prod]
  | x :: a, b => by rw [List.cons_append, prod, prod, prod_append a b, Nat.mul_assoc]
theorem prod_take (xs : List Nat) (k : Nat) (h : k < xs.length) : prod (xs.take (k + 1)) = prod (xs.take k) * xs.getD k 0 := by
  rw [List.take_succ_eq_append_getElem h, prod_append]
  simp [prod, List.getD, h]
/-- The sum of f at all places below n. -/
def sg (f : Nat → Nat) : Nat → Nat
  | 0 => 0
  | n + 1 => sg f n + f n
end Nt
end Go.Proofs.YtnnieiedkjekpaaDoor
namespace Go.Proofs.YtnnieiedkjekpaaDoor
namespace Nt
/-- The odd part of P - 1. -/
def oddP : Nat := 4294967295
/-- (P - 1) / 2^k. -/
def rtE (k : Nat) : Nat := 2 ^ (32 - k) * oddP
/-- The root of order 2^k. -/
def rt (k : Nat) : Nat := 7 ^ rtE k % 18446744069414584321
theorem rt_lt (k : Nat) : rt k < 18446744069414584321 := Nat.mod_lt _ (by decide)
theorem rtE_mul (k : Nat) (hk : k ≤ 32) : rtE k * 2 ^ k = 18446744069414584320 := by
  unfold rtE
  rw [Nat.mul_assoc, Nat.mul_comm oddP, ← Nat.mul_assoc, ← Nat.pow_add, show 32 - k + k = 32 from by omega]
  rfl
theorem rtE_div (k : Nat) (hk : k ≤ 32) : 18446744069414584320 / 2 ^ k = rtE k := by
  rw [← rtE_mul k hk]
  exact Nat.mul_div_cancel _ (Nat.two_pow_pos k)
theorem rtE_half (k : Nat) (hk : k < 32) : rtE (k + 1) * 2 ^ k = 9223372034707292160 := by
  have := rtE_mul (k + 1) (by omega)
  rw [Nat.pow_succ, ← Nat.mul_assoc] at this
  omega
theorem rtE_le (k : Nat) (hk : k ≤ 32) : rtE k < 18446744073709551616 := by
  have := rtE_mul k hk
  have : rtE k * 1 ≤ rtE k * 2 ^ k := Nat.mul_le_mul_left _ (Nat.two_pow_pos k)
  omega
theorem rtE_next (k : Nat) (hk : k < 32) : rtE (k + 1) + rtE (k + 1) = rtE k := by
  have h1 := rtE_mul (k + 1) (by omega)
  have h2 := rtE_mul k (by omega)
  rw [Nat.pow_succ, Nat.mul_comm (2 ^ k), ← Nat.mul_assoc] at h1
  have := Nat.eq_of_mul_eq_mul_right (Nat.two_pow_pos k) (h1.trans h2.symm)
  omega
theorem pmod (a n : Nat) : (a % 18446744069414584321) ^ n % 18446744069414584321 = a ^ n % 18446744069414584321 := (Nat.pow_mod a n _).symm
theorem rt_pow (k i : Nat) : rt k ^ i % 18446744069414584321 = 7 ^ (rtE k * i) % 18446744069414584321 := by
  rw [rt, pmod, ← Nat.pow_mul]
theorem rt_sq (k : Nat) (hk : k < 32) : rt (k + 1) * rt (k + 1) % 18446744069414584321 = rt k := by
  rw [rt, ← Nat.mul_mod, ← Nat.pow_add, rtE_next k hk, rt]
theorem rt_half (k : Nat) (hk : k < 32) : rt (k + 1) ^ 2 ^ k % 18446744069414584321 = 18446744069414584320 := by
  rw [rt_pow]
  exact seven _ (rtE_half k hk)
theorem rt_one (k : Nat) (hk : k ≤ 32) : rt k ^ 2 ^ k % 18446744069414584321 = 1 := by
  rw [rt_pow]
  exact pow_all 7 _ (by decide) (rtE_mul k hk)
theorem rt_ne (k : Nat) (hk : k ≤ 32) : rt k % 18446744069414584321 ≠ 0 := by
  intro h
  have := pow_zero_mod (rt k) (2 ^ k) h (Nat.two_pow_pos k)
  rw [rt_one k hk] at this
  cases this
theorem rt0 (k : Nat) (hk : k = 0) : rt k = 1 := by
  have := rt_one k (by omega)
  have e : 2 ^ k = 1 := by rw [hk]
  rwa [e, Nat.pow_one, Nat.mod_eq_of_lt (rt_lt k)] at this
theorem rt1 (k : Nat) (hk : k = 0) : rt (k + 1) = 18446744069414584320 := by
  have := rt_half k (by omega)
  have e : 2 ^ k = 1 := by rw [hk]
  rwa [e, Nat.pow_one, Nat.mod_eq_of_lt (rt_lt (k + 1))] at this
theorem rt2_num (m : Nat) (hm : m = 4611686017353646080) : 7 ^ m % 18446744069414584321 = 281474976710656 := by
  have h := pm_eq 18446744069414584321 64 7 m 1 (by rw [hm]; decide)
  rw [Nat.one_mul] at h
  rw [← h, hm]
  decide +kernel
theorem rt2 (k : Nat) (hk : k = 2) : rt k = 281474976710656 := by
  have := rtE_mul k (by omega)
  exact rt2_num (rtE k) (by rw [hk] at *; omega)

theorem own_inverse (x : Nat) (h : x * x % 18446744069414584321 = 1) : x % 18446744069414584321 = 1 ∨ x % 18446744069414584321 = 18446744069414584320 := by
  have x0 : x ≠ 0 := fun e => by subst e; simp at h
  have e : (x - 1) * (x + 1) = x * x - 1 := by
    obtain ⟨y, rfl⟩ : ∃ y, x = y + 1 := ⟨x - 1, by omega⟩
    simp only [Nat.add_sub_cancel, Nat.add_mul, Nat.mul_add]
    omega
  have h0 : (x - 1) * (x + 1) % 18446744069414584321 = 0 := by rw [e]; generalize x * x = q at *; omega
  rcases prime.mul h0 with c | c
  · left; omega
  · right; omega
theorem minus_two : 18446744069414584320 * 18446744069414584320 % 18446744069414584321 = 1 := by decide
theorem pow_one_mod (n : Nat) : 1 ^ n % 18446744069414584321 = 1 := by rw [Nat.one_pow]
/-- No lesser power of a root is 1. -/
theorem rt_order (k d : Nat) (hk : k ≤ 32) (h0 : 0 < d) (hd : d < 2 ^ k) : rt k ^ d % 18446744069414584321 ≠ 1 := by
  intro h1
  obtain ⟨s, t, e, ht⟩ := two_odd d h0
  have hs : s < k := by
    apply Nat.lt_of_not_le
    intro hle
    have a1 : 2 ^ k ≤ 2 ^ s := Nat.pow_le_pow_right (by decide) hle
    have a2 : 2 ^ s * 1 ≤ 2 ^ s * t := Nat.mul_le_mul_left _ (by omega)
    omega
  obtain ⟨m, rfl⟩ : ∃ m, k = m + 1 := ⟨k - 1, by omega⟩
  have h2 : (rt (m + 1) ^ d) ^ 2 ^ (m - s) % 18446744069414584321 = 1 := by rw [← pmod, h1, pow_one_mod]
  rw [← Nat.pow_mul, e, show 2 ^ s * t * 2 ^ (m - s) = 2 ^ m * t from by rw [Nat.mul_right_comm, ← Nat.pow_add, show s + (m - s) = m from by omega], Nat.pow_mul, ← pmod, rt_half m (by omega)] at h2
  have h3 := neg_odd 18446744069414584321 t (by decide) ht
  rw [show (18446744069414584321 - 1 : Nat) = 18446744069414584320 from rfl] at h3
  rw [h3] at h2
  cases h2
theorem pow_cop (k i : Nat) (hk : k ≤ 32) : Nat.Coprime (rt k ^ i) 18446744069414584321 := Nat.Coprime.pow_left i (prime.cop (rt_ne k hk))
theorem rt_inj_lt (k i j : Nat) (hk : k ≤ 32) (hij : i < j) (hj : j < 2 ^ k) : rt k ^ i % 18446744069414584321 ≠ rt k ^ j % 18446744069414584321 := by
  intro e
  refine rt_order k (j - i) hk (by omega) (by omega) ?_
  have : rt k ^ i * 1 % 18446744069414584321 = rt k ^ i * rt k ^ (j - i) % 18446744069414584321 := by rw [Nat.mul_one, ← Nat.pow_add, show i + (j - i) = j from by omega, e]
  exact (cancel (pow_cop k i hk) this).symm
theorem rt_inj (k i j : Nat) (hk : k ≤ 32) (hi : i < 2 ^ k) (hj : j < 2 ^ k) (e : rt k ^ i % 18446744069414584321 = rt k ^ j % 18446744069414584321) : i = j := by
  rcases Nat.lt_trichotomy i j with c | c | c
  · exact absurd e (rt_inj_lt k i j hk c hj)
  · exact c
  · exact absurd e.symm (rt_inj_lt k j i hk c hi)
/-- Half of its order on, a root's powers are the negatives. -/
theorem rt_far (k i : Nat) (hk : k < 32) : (rt (k + 1) ^ (i + 2 ^ k) % 18446744069414584321 + rt (k + 1) ^ i % 18446744069414584321) % 18446744069414584321 = 0 := by
  rw [Nat.pow_add, Nat.mul_mod, rt_half k hk]
  generalize rt (k + 1) ^ i % 18446744069414584321 = x
  omega

theorem sg_mod (f : Nat → Nat) (q : Nat) : ∀ n, sg (fun j => f j % q) n % q = sg f n % q
  | 0 => rfl
  | n + 1 => by
    show (sg (fun j => f j % q) n + f n % q) % q = (sg f n + f n) % q
    rw [Nat.add_mod, sg_mod f q n, Nat.mod_mod, ← Nat.add_mod]
theorem geo (x : Nat) : ∀ n, x * sg (fun j => x ^ j) n + 1 = sg (fun j => x ^ j) n + x ^ n
  | 0 => rfl
  | n + 1 => by
    show x * (sg (fun j => x ^ j) n + x ^ n) + 1 = sg (fun j => x ^ j) n + x ^ n + x ^ (n + 1)
    have := geo x n
    rw [Nat.mul_add, Nat.pow_succ, Nat.mul_comm x (x ^ n)]
    omega
/-- The powers of a word whose power of n is 1 make 0, unless it is 1. -/
theorem geo_zero (x n : Nat) (h : x ^ n % 18446744069414584321 = 1) (h1 : x % 18446744069414584321 ≠ 1) : sg (fun j => x ^ j) n % 18446744069414584321 = 0 := by
  refine Classical.byContradiction fun hS => h1 ?_
  have g := geo x n
  generalize sg (fun j => x ^ j) n = S at *
  have e : S * x % 18446744069414584321 = S * 1 % 18446744069414584321 := by
    rw [Nat.mul_comm, Nat.mul_one]
    generalize x * S = q at *
    generalize x ^ n = r at *
    omega
  have := cancel (prime.cop hS) e
  rw [this]
theorem rt_sum (k : Nat) (h0 : 0 < k) (hk : k ≤ 32) : sg (fun j => rt k ^ j % 18446744069414584321) (2 ^ k) % 18446744069414584321 = 0 := by
  rw [sg_mod]
  refine geo_zero _ _ (rt_one k hk) ?_
  have := rt_order k 1 hk (by decide) (by have := Nat.pow_le_pow_right (n := 2) (by decide) h0; omega)
  rwa [Nat.pow_one] at this

/-- a's power of 2^k is 1. -/
def One (a k : Nat) : Prop := a ^ 2 ^ k % 18446744069414584321 = 1
theorem One.step {a k : Nat} (h : One a k) : One a (k + 1) := by
  unfold One at *
  rw [Nat.pow_succ, Nat.pow_mul, ← pmod, h, pow_one_mod]
theorem One.mono {a k : Nat} (h : One a k) : ∀ {m : Nat}, k ≤ m → One a m := by
  intro m hm
  obtain ⟨d, rfl⟩ : ∃ d, m = k + d := ⟨m - k, by omega⟩
  induction d with
  | zero => exact h
  | succ d ih => exact (ih (by omega)).step
theorem least (p : Nat → Prop) : ∀ n, (∃ m, m ≤ n ∧ p m ∧ ∀ j, j < m → ¬ p j) ∨ (∀ j, j ≤ n → ¬ p j)
  | 0 => by
    by_cases h : p 0
    · exact Or.inl ⟨0, Nat.le_refl _, h, fun j hj => by omega⟩
    · exact Or.inr fun j hj => by rwa [show j = 0 from by omega]
  | n + 1 => by
    rcases least p n with ⟨m, hm, h1, h2⟩ | h
    · exact Or.inl ⟨m, by omega, h1, h2⟩
    · by_cases hp : p (n + 1)
      · exact Or.inl ⟨n + 1, Nat.le_refl _, hp, fun j hj => h j (by omega)⟩
      · exact Or.inr fun j hj => by
          by_cases e : j = n + 1
          · rw [e]; exact hp
          · exact h j (by omega)
theorem one_sq (a i x : Nat) (h : x = a ^ 2 ^ i % 18446744069414584321) : x * x % 18446744069414584321 = a ^ 2 ^ (i + 1) % 18446744069414584321 := by
  rw [h, ← Nat.mul_mod, ← Nat.pow_add, Nat.pow_succ, Nat.mul_two]
theorem rt_pow_one (k n : Nat) (hk : k ≤ 32) : One (rt k ^ n % 18446744069414584321) k := by
  unfold One
  rw [pmod, ← Nat.pow_mul, Nat.mul_comm, Nat.pow_mul, ← pmod, rt_one k hk, pow_one_mod]
theorem one_mod {a b k : Nat} (h : One a k) (e : a % 18446744069414584321 = b % 18446744069414584321) : One b k := by
  unfold One at *
  rw [← pmod, ← e, pmod, h]

/-- What the search of a logarithm keeps. -/
structure LInv (a k i n r b : Nat) : Prop where
  e : r * rt k ^ n % 18446744069414584321 = a % 18446744069414584321
  rl : r < 18446744069414584321
  nl : n < 2 ^ i
  bk : b * rt k ^ 2 ^ i % 18446744069414584321 = 1
  bl : b < 18446744069414584321
  one : One a k → One r (k - i)
theorem linv_start (a k : Nat) (hk : k ≤ 32) : LInv a k 0 0 (a % 18446744069414584321) (inv (rt k)) :=
  ⟨by simp, Nat.mod_lt _ (by decide), by decide, by rw [Nat.pow_zero, Nat.pow_one]; exact inv_mul _ (rt_ne k hk), inv_lt _, fun h => one_mod h (by simp)⟩
theorem linv_bb {k i b : Nat} (h : b * rt k ^ 2 ^ i % 18446744069414584321 = 1) : b * b % 18446744069414584321 * rt k ^ 2 ^ (i + 1) % 18446744069414584321 = 1 := by
  rw [Nat.mod_mul_mod, Nat.pow_succ, Nat.mul_two, Nat.pow_add, Nat.mul_mul_mul_comm, Nat.mul_mod, h]
theorem linv_skip {a k i n r b : Nat} (h : LInv a k i n r b) (h1 : One r (k - 1 - i)) : LInv a k (i + 1) n r (b * b % 18446744069414584321) :=
  ⟨h.e, h.rl, Nat.lt_trans h.nl (Nat.pow_lt_pow_right (by decide) (Nat.lt_succ_self _)), linv_bb h.bk, Nat.mod_lt _ (by decide), fun _ => by rwa [show k - (i + 1) = k - 1 - i from by omega]⟩
theorem mul_half (x : Nat) (h : x * 18446744069414584320 % 18446744069414584321 = 1) : x % 18446744069414584321 = 18446744069414584320 := by
  have e : (x * 18446744069414584320 + x) % 18446744069414584321 = 0 := by
    rw [← Nat.mul_succ]
    exact Nat.mul_mod_left _ _
  rw [Nat.add_mod, h] at e
  have := Nat.mod_lt x (show 0 < 18446744069414584321 by decide)
  generalize x % 18446744069414584321 = r at *
  omega
theorem linv_take {a k i n r b : Nat} (h : LInv a k i n r b) (hi : i < k) (hk : k ≤ 32) (h1 : ¬ One r (k - 1 - i)) : LInv a k (i + 1) (n + 2 ^ i) (r * b % 18446744069414584321) (b * b % 18446744069414584321) := by
  refine ⟨?_, Nat.mod_lt _ (by decide), by have := h.nl; rw [Nat.pow_succ]; omega, linv_bb h.bk, Nat.mod_lt _ (by decide), fun ha => ?_⟩
  · rw [Nat.mod_mul_mod, Nat.pow_add, Nat.mul_mul_mul_comm, Nat.mul_mod, h.bk, Nat.mul_one, Nat.mod_mod, h.e]
  · have h2 := h.one ha
    unfold One at *
    rw [show k - (i + 1) = k - 1 - i from by omega, pmod, Nat.mul_pow]
    have e1 : r ^ 2 ^ (k - 1 - i) * r ^ 2 ^ (k - 1 - i) % 18446744069414584321 = 1 := by rw [← Nat.pow_add, ← Nat.mul_two, ← Nat.pow_succ, show (k - 1 - i).succ = k - i from by omega, h2]
    have c1 : r ^ 2 ^ (k - 1 - i) % 18446744069414584321 = 18446744069414584320 := by
      rcases own_inverse _ e1 with c | c
      · exact absurd c h1
      · exact c
    have e2 : (b * rt k ^ 2 ^ i) ^ 2 ^ (k - 1 - i) % 18446744069414584321 = 1 := by rw [← pmod, h.bk, pow_one_mod]
    obtain ⟨m, rfl⟩ : ∃ m, k = m + 1 := ⟨k - 1, by omega⟩
    rw [Nat.mul_pow, ← Nat.pow_mul, ← Nat.pow_add, show i + (m + 1 - 1 - i) = m from by omega, Nat.mul_mod, rt_half m (by omega), Nat.mod_mul_mod] at e2
    rw [Nat.mul_mod, c1, mul_half _ e2]
theorem linv_some : ∀ (a k i : Nat), k ≤ 32 → i ≤ k → ∃ n r b, LInv a k i n r b
  | a, k, 0, hk, _ => ⟨_, _, _, linv_start a k hk⟩
  | a, k, i + 1, hk, hi => by
    obtain ⟨n, r, b, h⟩ := linv_some a k i hk (by omega)
    by_cases h1 : One r (k - 1 - i)
    · exact ⟨_, _, _, linv_skip h h1⟩
    · exact ⟨_, _, _, linv_take h (by omega) hk h1⟩
theorem linv_one {a k n r b : Nat} (h : LInv a k k n r b) (ha : One a k) : r = 1 := by
  have := h.one ha
  unfold One at this
  rwa [Nat.sub_self, Nat.pow_zero, Nat.pow_one, Nat.mod_eq_of_lt h.rl] at this
theorem linv_end {a k n b : Nat} (h : LInv a k k n 1 b) : rt k ^ n % 18446744069414584321 = a % 18446744069414584321 := by
  have := h.e
  rwa [Nat.one_mul] at this
/-- A word whose power of 2^k is 1 is a power of the root. -/
theorem log_ex (a k : Nat) (hk : k ≤ 32) (ha : One a k) : ∃ n, n < 2 ^ k ∧ rt k ^ n % 18446744069414584321 = a % 18446744069414584321 := by
  obtain ⟨n, r, b, h⟩ := linv_some a k k hk (Nat.le_refl _)
  obtain rfl := linv_one h ha
  exact ⟨n, h.nl, linv_end h⟩
theorem one_of_log {a k n : Nat} (hk : k ≤ 32) (h : rt k ^ n % 18446744069414584321 = a % 18446744069414584321) : One a k :=
  one_mod (rt_pow_one k n hk) (by rw [Nat.mod_mod, h])
end Nt
end Go.Proofs.YtnnieiedkjekpaaDoor
set_option linter.unusedVariables false
namespace Go.Proofs.YtnnieiedkjekpaaDoor
namespace Pn
open Nt

/- Sums. -/
theorem sg_congr {f g : Nat → Nat} : ∀ n, (∀ i, i < n → f i = g i) → sg f n = sg g n
  | 0, _ => rfl
  | n + 1, h => by show sg f n + f n = sg g n + g n; rw [sg_congr n (fun i hi => h i (by omega)), h n (by omega)]
theorem sg_zero {f : Nat → Nat} : ∀ n, (∀ i, i < n → f i = 0) → sg f n = 0
  | 0, _ => rfl
  | n + 1, h => by show sg f n + f n = 0; rw [sg_zero n (fun i hi => h i (by omega)), h n (by omega)]
theorem sg_add (f g : Nat → Nat) : ∀ n, sg (fun i => f i + g i) n = sg f n + sg g n
  | 0 => rfl
  | n + 1 => by show sg (fun i => f i + g i) n + (f n + g n) = sg f n + f n + (sg g n + g n); rw [sg_add f g n]; omega
theorem sg_mul (a : Nat) (f : Nat → Nat) : ∀ n, sg (fun i => a * f i) n = a * sg f n
  | 0 => rfl
  | n + 1 => by show sg (fun i => a * f i) n + a * f n = a * (sg f n + f n); rw [sg_mul a f n, Nat.mul_add]
theorem sg_first (f : Nat → Nat) : ∀ n, sg f (n + 1) = f 0 + sg (fun i => f (i + 1)) n
  | 0 => by show 0 + f 0 = f 0 + 0; omega
  | n + 1 => by
    have := sg_first f n
    show sg f (n + 1) + f (n + 1) = f 0 + (sg (fun i => f (i + 1)) n + f (n + 1))
    omega
theorem sg_rev (f : Nat → Nat) : ∀ n, sg (fun i => f (n - 1 - i)) n = sg f n
  | 0 => rfl
  | n + 1 => by
    rw [sg_first, show sg f (n + 1) = sg f n + f n from rfl, ← sg_rev f n, Nat.add_comm]
    congr 1
    exact sg_congr n fun i hi => by congr 1; omega
theorem sg_more {f : Nat → Nat} {n : Nat} (h : ∀ i, n ≤ i → f i = 0) : ∀ k, sg f (n + k) = sg f n
  | 0 => rfl
  | k + 1 => by show sg f (n + k) + f (n + k) = sg f n; rw [sg_more h k, h _ (by omega)]; rfl
theorem sg_mod {f g : Nat → Nat} {m : Nat} : ∀ n, (∀ i, i < n → f i % m = g i % m) → sg f n % m = sg g n % m
  | 0, _ => rfl
  | n + 1, h => by show (sg f n + f n) % m = (sg g n + g n) % m; rw [Nat.add_mod, sg_mod n (fun i hi => h i (by omega)), h n (by omega), ← Nat.add_mod]

/-- A row's coefficients. -/
def pl (xs : List Nat) (i : Nat) : Nat := xs.getD i 0
theorem pl_nil (i : Nat) : pl [] i = 0 := by simp [pl]
theorem pl_zero (a : Nat) (xs : List Nat) : pl (a :: xs) 0 = a := by simp [pl]
theorem pl_succ (a : Nat) (xs : List Nat) (i : Nat) : pl (a :: xs) (i + 1) = pl xs i := by simp [pl]
theorem pl_far (xs : List Nat) (i : Nat) (h : xs.length ≤ i) : pl xs i = 0 := by simp [pl, List.getD, List.getElem?_eq_none h]
theorem pl_map (xs : List Nat) (f : Nat → Nat) (h0 : f 0 = 0) (i : Nat) : pl (xs.map f) i = f (pl xs i) := by
  simp only [pl, List.getD, List.getElem?_map]
  cases xs[i]? <;> simp [h0]
theorem pl_take (xs : List Nat) (n i : Nat) (h : i < n) : pl (xs.take n) i = pl xs i := by simp [pl, List.getD, h]
theorem pl_range (f : Nat → Nat) (n i : Nat) (h : i < n) : pl ((List.range n).map f) i = f i := by simp [pl, List.getD, h]

/-- The product's coefficients. -/
def conv (f g : Nat → Nat) (i : Nat) : Nat := sg (fun k => f k * g (i - k)) (i + 1)
theorem conv_comm (f g : Nat → Nat) (i : Nat) : conv f g i = conv g f i := by
  unfold conv
  rw [← sg_rev (fun k => g k * f (i - k)) (i + 1)]
  exact sg_congr _ fun k hk => by
    show f k * g (i - k) = g (i + 1 - 1 - k) * f (i - (i + 1 - 1 - k))
    rw [show i - (i + 1 - 1 - k) = k by omega, show i + 1 - 1 - k = i - k by omega, Nat.mul_comm]
theorem conv_congr {f f' g g' : Nat → Nat} (hf : ∀ i, f i = f' i) (hg : ∀ i, g i = g' i) (i : Nat) : conv f g i = conv f' g' i :=
  sg_congr _ fun k _ => by rw [hf, hg]
theorem conv_mod {f f' g g' : Nat → Nat} {m : Nat} (hf : ∀ i, f i % m = f' i % m) (hg : ∀ i, g i % m = g' i % m) (i : Nat) : conv f g i % m = conv f' g' i % m :=
  sg_mod _ fun k _ => by rw [Nat.mul_mod, hf, hg, ← Nat.mul_mod]
theorem conv_add (f f' g : Nat → Nat) (i : Nat) : conv (fun j => f j + f' j) g i = conv f g i + conv f' g i := by
  unfold conv
  rw [← sg_add]
  exact sg_congr _ fun k _ => Nat.add_mul _ _ _
theorem conv_scale (a : Nat) (f g : Nat → Nat) (i : Nat) : conv (fun j => a * f j) g i = a * conv f g i := by
  unfold conv
  rw [← sg_mul]
  exact sg_congr _ fun k _ => Nat.mul_assoc _ _ _
theorem conv_nil (g : Nat → Nat) (i : Nat) : conv (pl []) g i = 0 := sg_zero _ fun k _ => by rw [pl_nil, Nat.zero_mul]
theorem conv_cons_zero (a : Nat) (xs : List Nat) (g : Nat → Nat) : conv (pl (a :: xs)) g 0 = a * g 0 := by
  show 0 + pl (a :: xs) 0 * g (0 - 0) = a * g 0
  rw [pl_zero, Nat.zero_add]
theorem conv_cons_succ (a : Nat) (xs : List Nat) (g : Nat → Nat) (i : Nat) : conv (pl (a :: xs)) g (i + 1) = a * g (i + 1) + conv (pl xs) g i := by
  unfold conv
  rw [sg_first, pl_zero]
  congr 1
  exact sg_congr _ fun k _ => by rw [pl_succ, show i + 1 - (k + 1) = i - k by omega]
/-- The document's own sum: over all places of the first row, of what the second has at i - k, if it has such a place. -/
theorem conv_long (xs : List Nat) (g : Nat → Nat) (i : Nat) : conv (pl xs) g i = sg (fun k => pl xs k * (if k ≤ i then g (i - k) else 0)) xs.length := by
  have e1 : conv (pl xs) g i = sg (fun k => pl xs k * (if k ≤ i then g (i - k) else 0)) (i + 1) := sg_congr _ fun k hk => by rw [if_pos (by omega)]
  rw [e1]
  have h1 : ∀ k, xs.length ≤ k → pl xs k * (if k ≤ i then g (i - k) else 0) = 0 := fun k hk => by rw [pl_far xs k hk, Nat.zero_mul]
  have h2 : ∀ k, i + 1 ≤ k → pl xs k * (if k ≤ i then g (i - k) else 0) = 0 := fun k hk => by rw [if_neg (by omega), Nat.mul_zero]
  rcases Nat.le_total xs.length (i + 1) with h | h
  · obtain ⟨d, hd⟩ := Nat.le.dest h
    rw [← hd]; exact sg_more h1 d
  · obtain ⟨d, hd⟩ := Nat.le.dest h
    rw [← hd]; exact (sg_more h2 d).symm
theorem conv_far (xs ys : List Nat) (i : Nat) (h : xs.length + ys.length ≤ i + 1) : conv (pl xs) (pl ys) i = 0 :=
  sg_zero _ fun k hk => by
    by_cases h1 : k < xs.length
    · rw [pl_far ys (i - k) (by omega), Nat.mul_zero]
    · rw [pl_far xs k (by omega), Nat.zero_mul]

/-- Sum and product of rows, coefficient by coefficient. -/
def addl : List Nat → List Nat → List Nat
  | [], q => q
  | p, [] => p
  | a :: p, b :: q => (a + b) :: addl p q
theorem pl_addl : ∀ (p q : List Nat) (i : Nat), pl (addl p q) i = pl p i + pl q i
  | [], q, i => by rw [pl_nil, Nat.zero_add]; cases q <;> rfl
  | a :: p, [], i => by rw [pl_nil]; rfl
  | a :: p, b :: q, 0 => by simp [addl, pl]
  | a :: p, b :: q, i + 1 => by
    show pl ((a + b) :: addl p q) (i + 1) = _
    rw [pl_succ, pl_succ, pl_succ, pl_addl p q i]
def mull : List Nat → List Nat → List Nat
  | [], _ => []
  | a :: p, q => addl (q.map (a * ·)) (0 :: mull p q)
theorem pl_mull : ∀ (p q : List Nat) (i : Nat), pl (mull p q) i = conv (pl p) (pl q) i
  | [], q, i => by rw [conv_nil]; exact pl_nil i
  | a :: p, q, 0 => by
    show pl (addl _ _) 0 = _
    rw [pl_addl, pl_map _ _ (Nat.mul_zero a), pl_zero, conv_cons_zero]; rfl
  | a :: p, q, i + 1 => by
    show pl (addl _ _) (i + 1) = _
    rw [pl_addl, pl_map _ _ (Nat.mul_zero a), pl_succ, conv_cons_succ, pl_mull p q i]

/-- A row's value. -/
def evl (x : Nat) : List Nat → Nat
  | [] => 0
  | a :: p => a + x * evl x p
theorem evl_map (x a : Nat) : ∀ q : List Nat, evl x (q.map (a * ·)) = a * evl x q
  | [] => rfl
  | b :: q => by
    show a * b + x * evl x (q.map (a * ·)) = a * (b + x * evl x q)
    rw [evl_map x a q, Nat.mul_add, Nat.mul_left_comm]
theorem evl_addl (x : Nat) : ∀ p q : List Nat, evl x (addl p q) = evl x p + evl x q
  | [], q => by cases q <;> simp [addl, evl]
  | a :: p, [] => rfl
  | a :: p, b :: q => by
    show a + b + x * evl x (addl p q) = a + x * evl x p + (b + x * evl x q)
    rw [evl_addl x p q, Nat.mul_add]; omega
theorem evl_mull (x : Nat) : ∀ p q : List Nat, evl x (mull p q) = evl x p * evl x q
  | [], q => by simp [mull, evl]
  | a :: p, q => by
    show evl x (addl _ _) = (a + x * evl x p) * evl x q
    rw [evl_addl, evl_map]
    show a * evl x q + (0 + x * evl x (mull p q)) = _
    rw [evl_mull x p q, Nat.zero_add, Nat.add_mul, Nat.mul_assoc]
/-- The value is the sum of coefficients times powers. -/
theorem evl_sg (x : Nat) : ∀ (xs : List Nat), evl x xs = sg (fun i => pl xs i * x ^ i) xs.length
  | [] => rfl
  | a :: p => by
    show a + x * evl x p = sg _ (p.length + 1)
    rw [sg_first, pl_zero, Nat.pow_zero, Nat.mul_one, evl_sg x p, ← sg_mul]
    congr 1
    exact sg_congr _ fun i _ => by rw [pl_succ, Nat.pow_succ, Nat.mul_left_comm, Nat.mul_comm x (x ^ i)]
theorem evl_any (x : Nat) (xs : List Nat) (d : Nat) : evl x xs = sg (fun i => pl xs i * x ^ i) (xs.length + d) := by
  rw [sg_more (fun i hi => by rw [pl_far xs i hi, Nat.zero_mul]), evl_sg]
/-- Values hang on the coefficients in the field alone. -/
theorem evl_mod {m : Nat} (x : Nat) (xs ys : List Nat) (h : ∀ i, pl xs i % m = pl ys i % m) : evl x xs % m = evl x ys % m := by
  rw [evl_any x xs ys.length, evl_any x ys xs.length, Nat.add_comm ys.length]
  exact sg_mod _ fun i _ => by rw [Nat.mul_mod, h, ← Nat.mul_mod]
theorem evl_drop (x : Nat) (xs : List Nat) (i : Nat) : evl x (xs.drop i) = pl xs i + x * evl x (xs.drop (i + 1)) := by
  by_cases h : i < xs.length
  · rw [List.drop_eq_getElem_cons h]
    show xs[i] + _ = _
    simp [pl, List.getD, h]
  · rw [List.drop_eq_nil_of_le (by omega), List.drop_eq_nil_of_le (by omega), pl_far xs i (by omega)]
    simp [evl]
/-- A value at a word is one at what it leaves. -/
theorem evl_at (m x : Nat) : ∀ xs : List Nat, evl (x % m) xs % m = evl x xs % m
  | [] => rfl
  | a :: p => by
    show (a + x % m * evl (x % m) p) % m = (a + x * evl x p) % m
    rw [Nat.add_mod, Nat.mul_mod, evl_at m x p, Nat.mod_mod, ← Nat.mul_mod, ← Nat.add_mod]

/-- The derivative's coefficients. -/
def dv (f : Nat → Nat) (i : Nat) : Nat := (i + 1) * f (i + 1)
/-- The rule of products. -/
theorem dv_conv (f g : Nat → Nat) (i : Nat) : dv (conv f g) i = conv (dv f) g i + conv f (dv g) i := by
  have e1 : conv (dv f) g i = sg (fun k => k * (f k * g (i + 1 - k))) (i + 2) := by
    rw [sg_first, Nat.zero_mul, Nat.zero_add]
    exact sg_congr _ fun k hk => by
      show (k + 1) * f (k + 1) * g (i - k) = (k + 1) * (f (k + 1) * g (i + 1 - (k + 1)))
      rw [show i + 1 - (k + 1) = i - k by omega, Nat.mul_assoc]
  have e2 : conv f (dv g) i = sg (fun k => (i + 1 - k) * (f k * g (i + 1 - k))) (i + 2) := by
    show sg _ (i + 1) = sg _ (i + 1) + (i + 1 - (i + 1)) * _
    rw [Nat.sub_self, Nat.zero_mul, Nat.add_zero]
    exact sg_congr _ fun k hk => by
      show f k * ((i - k + 1) * g (i - k + 1)) = _
      rw [show i + 1 - k = i - k + 1 by omega, Nat.mul_left_comm]
  rw [e1, e2, ← sg_add]
  show (i + 1) * sg _ (i + 2) = _
  rw [← sg_mul]
  exact sg_congr _ fun k hk => by rw [← Nat.add_mul, show k + (i + 1 - k) = i + 1 by omega]
theorem dv_mod {f g : Nat → Nat} {m : Nat} (h : ∀ i, f i % m = g i % m) (i : Nat) : dv f i % m = dv g i % m := by
  unfold dv; rw [Nat.mul_mod, h, ← Nat.mul_mod]

/-- Trimmed and canonical. -/
structure Nf (m : Nat) (zs : List Nat) : Prop where
  lt : ∀ i, pl zs i < m
  last : 0 < zs.length → pl zs (zs.length - 1) ≠ 0
theorem Nf.nil {m : Nat} (hm : 0 < m) : Nf m [] := ⟨fun i => by rw [pl_nil]; exact hm, fun h => absurd h (Nat.lt_irrefl 0)⟩
/-- A row is told by its coefficients. -/
theorem Nf.ext {m : Nat} {zs ys : List Nat} (hz : Nf m zs) (hy : Nf m ys) (h : ∀ i, pl zs i = pl ys i) : zs = ys := by
  have hl : zs.length = ys.length := by
    rcases Nat.lt_trichotomy zs.length ys.length with c | c | c
    · exact absurd ((h (ys.length - 1)).symm.trans (pl_far zs _ (by omega))) (hy.last (by omega))
    · exact c
    · exact absurd ((h (zs.length - 1)).trans (pl_far ys _ (by omega))) (hz.last (by omega))
  refine List.ext_getElem hl fun i h1 h2 => ?_
  have := h i
  simpa [pl, List.getD, h1, h2] using this
theorem Nf.ext_mod {m : Nat} {zs ys : List Nat} (hz : Nf m zs) (hy : Nf m ys) (h : ∀ i, pl zs i % m = pl ys i % m) : zs = ys :=
  hz.ext hy fun i => by have := h i; rwa [Nat.mod_eq_of_lt (hz.lt i), Nat.mod_eq_of_lt (hy.lt i)] at this
/-- How many coefficients are left of the first k. -/
def dg (m : Nat) (xs : List Nat) : Nat → Nat
  | 0 => 0
  | k + 1 => if pl xs k % m ≠ 0 then k + 1 else dg m xs k
theorem dg_le (m : Nat) (xs : List Nat) : ∀ k, dg m xs k ≤ k
  | 0 => Nat.le_refl _
  | k + 1 => by unfold dg; split; exact Nat.le_refl _; have := dg_le m xs k; omega
theorem dg_far (m : Nat) (xs : List Nat) : ∀ k j, dg m xs k ≤ j → j < k → pl xs j % m = 0
  | 0, j, _, h => absurd h (Nat.not_lt_zero j)
  | k + 1, j, h, hj => by
    unfold dg at h
    split at h
    · omega
    · rename_i c
      by_cases e : j = k
      · subst e; exact Classical.not_not.1 c
      · exact dg_far m xs k j h (by omega)
theorem dg_last (m : Nat) (xs : List Nat) : ∀ k, 0 < dg m xs k → pl xs (dg m xs k - 1) % m ≠ 0
  | 0, h => absurd h (Nat.lt_irrefl 0)
  | k + 1, h => by
    unfold dg at h ⊢
    split
    · rename_i c; exact c
    · rename_i c; rw [if_neg c] at h; exact dg_last m xs k h
/-- A row trimmed. -/
def tr (m : Nat) (xs : List Nat) : List Nat := (List.range (dg m xs xs.length)).map fun i => pl xs i % m
theorem tr_len (m : Nat) (xs : List Nat) : (tr m xs).length = dg m xs xs.length := by simp [tr]
theorem pl_tr (m : Nat) (xs : List Nat) (i : Nat) : pl (tr m xs) i = pl xs i % m := by
  by_cases h : i < dg m xs xs.length
  · exact pl_range _ _ _ h
  · rw [pl_far _ _ (by rw [tr_len]; omega)]
    by_cases h2 : i < xs.length
    · exact (dg_far m xs _ i (by omega) h2).symm
    · rw [pl_far xs i (by omega), Nat.zero_mod]
theorem tr_nf {m : Nat} (hm : 0 < m) (xs : List Nat) : Nf m (tr m xs) := by
  refine ⟨fun i => by rw [pl_tr]; exact Nat.mod_lt _ hm, fun h => ?_⟩
  rw [tr_len] at h
  rw [pl_tr, tr_len]
  exact dg_last m xs _ h
theorem tr_eq {m : Nat} (hm : 0 < m) {xs zs : List Nat} (hz : Nf m zs) (h : ∀ i, pl zs i = pl xs i % m) : tr m xs = zs :=
  (tr_nf hm xs).ext hz fun i => by rw [pl_tr, h]
theorem tr_congr {m : Nat} (hm : 0 < m) {xs ys : List Nat} (h : ∀ i, pl xs i % m = pl ys i % m) : tr m xs = tr m ys :=
  tr_eq hm (tr_nf hm ys) fun i => by rw [pl_tr, h]
theorem tr_self {m : Nat} (hm : 0 < m) {zs : List Nat} (hz : Nf m zs) : tr m zs = zs := tr_eq hm hz fun i => (Nat.mod_eq_of_lt (hz.lt i)).symm
theorem evl_tr {m : Nat} (x : Nat) (xs : List Nat) : evl x (tr m xs) % m = evl x xs % m := evl_mod x _ _ fun i => by rw [pl_tr, Nat.mod_mod]
theorem tr_len_le (m : Nat) (xs : List Nat) : (tr m xs).length ≤ xs.length := by rw [tr_len]; exact dg_le m xs _
/-- The zero polynomial. -/
theorem tr_nil_iff {m : Nat} (hm : 0 < m) (xs : List Nat) : tr m xs = [] ↔ ∀ i, pl xs i % m = 0 := by
  constructor
  · intro h i; rw [← pl_tr, h, pl_nil]
  · intro h; exact tr_eq hm (Nf.nil hm) fun i => by rw [h, pl_nil]
end Pn
end Go.Proofs.YtnnieiedkjekpaaDoor
set_option linter.unusedVariables false
namespace Go.Proofs.YtnnieiedkjekpaaDoor
namespace Tn
open Nt

theorem sg_swap (f : Nat → Nat → Nat) (m : Nat) : ∀ n, sg (fun i => sg (f i) m) n = sg (fun j => sg (fun i => f i j) n) m
  | 0 => (Pn.sg_zero (f := fun j => sg (fun i => f i j) 0) m (fun i _ => rfl)).symm
  | n + 1 => by
    show sg (fun i => sg (f i) m) n + sg (f n) m = sg (fun j => sg (fun i => f i j) n + f n j) m
    rw [Pn.sg_add, sg_swap f m n]
theorem sg_const (c : Nat) : ∀ n, sg (fun _ => c) n = c * n
  | 0 => rfl
  | n + 1 => by show sg (fun _ => c) n + c = c * (n + 1); rw [sg_const c n, Nat.mul_succ]

theorem one_pow {a b : Nat} (n : Nat) (h : a * b % 18446744069414584321 = 1) : a ^ n * b ^ n % 18446744069414584321 = 1 := by rw [← Nat.mul_pow, ← pmod, h, pow_one_mod]
theorem one_mul_ {a b : Nat} (h : a % 18446744069414584321 = 1) : a * b % 18446744069414584321 = b % 18446744069414584321 := by rw [Nat.mul_mod, h, Nat.one_mul, Nat.mod_mod]
theorem mul_one_ {a b : Nat} (h : b % 18446744069414584321 = 1) : a * b % 18446744069414584321 = a % 18446744069414584321 := by rw [Nat.mul_comm]; exact one_mul_ h
/-- The root of a direction: 0 is forward. -/
def rd (k d : Nat) : Nat := if d = 0 then rt k else inv (rt k)
theorem rd_zero (k : Nat) : rd k 0 = rt k := if_pos rfl
theorem rd_other (k d : Nat) (h : d ≠ 0) : rd k d = inv (rt k) := if_neg h
theorem rd_lt (k d : Nat) : rd k d < 18446744069414584321 := by
  unfold rd
  split
  · exact rt_lt k
  · exact inv_lt _
theorem rd_mul (k : Nat) (hk : k ≤ 32) : rt k * inv (rt k) % 18446744069414584321 = 1 := by rw [Nat.mul_comm]; exact inv_mul _ (rt_ne k hk)
theorem rd_pair (k d : Nat) (hk : k ≤ 32) (hd : d ≤ 1) : rd k d * rd k (1 - d) % 18446744069414584321 = 1 := by
  rcases Nat.eq_zero_or_pos d with h | h
  · subst h; rw [rd_zero, rd_other k (1 - 0) (by decide)]; exact rd_mul k hk
  · obtain rfl : d = 1 := by omega
    rw [rd_other k 1 (by decide), Nat.sub_self, rd_zero, Nat.mul_comm]; exact rd_mul k hk
theorem rd_one (k d : Nat) (hk : k ≤ 32) : rd k d ^ 2 ^ k % 18446744069414584321 = 1 := by
  by_cases h : d = 0
  · subst h; rw [rd_zero]; exact rt_one k hk
  · rw [rd_other k d h]
    have := one_pow (2 ^ k) (rd_mul k hk)
    rwa [one_mul_ (rt_one k hk)] at this
theorem rd_order (k d m : Nat) (hk : k ≤ 32) (h0 : 0 < m) (hm : m < 2 ^ k) : rd k d ^ m % 18446744069414584321 ≠ 1 := by
  by_cases h : d = 0
  · subst h; rw [rd_zero]; exact rt_order k m hk h0 hm
  · rw [rd_other k d h]
    intro e
    have := one_pow m (rd_mul k hk)
    rw [mul_one_ e] at this
    exact rt_order k m hk h0 hm this
/-- The document's own inverse root. -/
theorem rd_doc (k : Nat) (hk : k ≤ 32) : rt k ^ (2 ^ k - 1) % 18446744069414584321 = inv (rt k) := by
  have hp : 0 < 2 ^ k := Nat.two_pow_pos k
  have e : rt k * rt k ^ (2 ^ k - 1) % 18446744069414584321 = rt k * inv (rt k) % 18446744069414584321 := by
    rw [rd_mul k hk, Nat.mul_comm, ← Nat.pow_succ, show Nat.succ (2 ^ k - 1) = 2 ^ k from by omega, rt_one k hk]
  have := cancel (prime.cop (rt_ne k hk)) e
  rwa [Nat.mod_eq_of_lt (inv_lt _)] at this
theorem two_ne (k : Nat) (hk : k ≤ 32) : 2 ^ k % 18446744069414584321 ≠ 0 := by
  have hp : 0 < 2 ^ k := Nat.two_pow_pos k
  have hl : 2 ^ k ≤ 2 ^ 32 := Nat.pow_le_pow_right (by decide) hk
  rw [Nat.mod_eq_of_lt (by omega)]; omega
/-- The document's own share. -/
theorem sh_doc (k : Nat) (hk : k ≤ 32) : 9223372034707292161 ^ k % 18446744069414584321 = inv (2 ^ k) := by
  have e : 2 ^ k * 9223372034707292161 ^ k % 18446744069414584321 = 2 ^ k * inv (2 ^ k) % 18446744069414584321 := by
    rw [Nat.mul_comm (2 ^ k) (inv (2 ^ k)), inv_mul _ (two_ne k hk)]
    exact one_pow k (by decide)
  have := cancel (prime.cop (two_ne k hk)) e
  rwa [Nat.mod_eq_of_lt (inv_lt _)] at this

/-- The defining sum: not divided. -/
def tf (x : Nat → Nat) (n w j : Nat) : Nat := sg (fun i => x i * w ^ (i * j)) n % 18446744069414584321
theorem tf_lt (x : Nat → Nat) (n w j : Nat) : tf x n w j < 18446744069414584321 := Nat.mod_lt _ (by decide)
theorem tf_mod {x y : Nat → Nat} {n : Nat} (h : ∀ i, i < n → x i % 18446744069414584321 = y i % 18446744069414584321) (w j : Nat) : tf x n w j = tf y n w j :=
  Pn.sg_mod n fun i hi => by rw [Nat.mul_mod, h i hi, ← Nat.mul_mod]
theorem tf_congr {x y : Nat → Nat} {n : Nat} (h : ∀ i, i < n → x i = y i) (w j : Nat) : tf x n w j = tf y n w j := tf_mod (fun i hi => by rw [h i hi]) w j
theorem tf_scale (x : Nat → Nat) (n w j s : Nat) : tf (fun i => x i * s % 18446744069414584321) n w j = tf x n w j * s % 18446744069414584321 := by
  unfold tf
  rw [Nat.mod_mul_mod, Nat.mul_comm _ s, ← Pn.sg_mul]
  exact Pn.sg_mod n fun i _ => by rw [Nat.mod_mul_mod, Nat.mul_comm (x i) s, Nat.mul_assoc]
theorem inj_one {w v i j : Nat} (hv : w * v % 18446744069414584321 = 1) (hij : i < j) (e : w ^ i % 18446744069414584321 = w ^ j % 18446744069414584321) : w ^ (j - i) % 18446744069414584321 = 1 := by
  have h1 := one_pow i hv
  rw [Nat.mul_mod, e, ← Nat.mul_mod, show j = (j - i) + i by omega, Nat.pow_add, Nat.mul_assoc, mul_one_ (one_pow i hv)] at h1
  exact h1
/-- Sums of powers of w to the i by v to the m. -/
theorem cross {n w v i m : Nat} (hw : w ^ n % 18446744069414584321 = 1) (hv : w * v % 18446744069414584321 = 1) (ho : ∀ d, 0 < d → d < n → w ^ d % 18446744069414584321 ≠ 1) (hi : i < n) (hm : m < n) :
    sg (fun j => w ^ (i * j) * v ^ (j * m)) n % 18446744069414584321 = if i = m then n % 18446744069414584321 else 0 := by
  have e : ∀ j, w ^ (i * j) * v ^ (j * m) = (w ^ i * v ^ m) ^ j := fun j => by rw [Nat.mul_pow, ← Nat.pow_mul, ← Nat.pow_mul, Nat.mul_comm m j]
  simp only [e]
  by_cases c : i = m
  · subst c
    rw [if_pos rfl]
    have := Pn.sg_mod (m := 18446744069414584321) (f := fun j => (w ^ i * v ^ i) ^ j) (g := fun _ => 1) n (fun j _ => by
      show (w ^ i * v ^ i) ^ j % _ = _
      rw [← pmod, one_pow i hv, pow_one_mod])
    rw [this, sg_const, Nat.one_mul]
  · rw [if_neg c]
    refine geo_zero _ n ?_ fun h => ?_
    · have hvn := one_pow n hv
      rw [one_mul_ hw] at hvn
      rw [Nat.mul_pow, ← Nat.pow_mul, ← Nat.pow_mul, Nat.mul_comm i n, Nat.mul_comm m n, Nat.pow_mul, Nat.pow_mul, Nat.mul_mod, ← pmod, hw, pow_one_mod, ← pmod (v ^ n), hvn, pow_one_mod]
    · have h2 : w ^ i % 18446744069414584321 = w ^ m % 18446744069414584321 := by
        have h3 : w ^ i * v ^ m * w ^ m % 18446744069414584321 = w ^ m % 18446744069414584321 := one_mul_ h
        rw [Nat.mul_assoc, Nat.mul_comm (v ^ m), mul_one_ (one_pow m hv)] at h3
        exact h3
      rcases Nat.lt_trichotomy i m with c' | c' | c'
      · exact ho (m - i) (by omega) (by omega) (inj_one hv c' h2)
      · exact c c'
      · exact ho (i - m) (by omega) (by omega) (inj_one hv c' h2.symm)
/-- The sums of the sums. -/
theorem tf_tf (x : Nat → Nat) {n w v m : Nat} (hw : w ^ n % 18446744069414584321 = 1) (hv : w * v % 18446744069414584321 = 1) (ho : ∀ d, 0 < d → d < n → w ^ d % 18446744069414584321 ≠ 1) (hm : m < n) :
    tf (tf x n w) n v m = x m * n % 18446744069414584321 := by
  have e1 : tf (tf x n w) n v m = sg (fun j => sg (fun i => x i * (w ^ (i * j) * v ^ (j * m))) n) n % 18446744069414584321 := by
    refine Pn.sg_mod n fun j _ => ?_
    show sg (fun i => x i * w ^ (i * j)) n % _ * v ^ (j * m) % _ = _
    rw [Nat.mod_mul_mod, Nat.mul_comm, ← Pn.sg_mul]
    congr 1
    exact Pn.sg_congr n fun i _ => by rw [Nat.mul_left_comm, Nat.mul_comm (v ^ (j * m))]
  rw [e1, sg_swap (fun j i => x i * (w ^ (i * j) * v ^ (j * m))) n n]
  have e2 := Pn.sg_mod (m := 18446744069414584321) (f := fun i => sg (fun j => x i * (w ^ (i * j) * v ^ (j * m))) n) (g := fun i => if i = m then x m * n else 0) n (fun i hi => by
    show sg (fun j => x i * (w ^ (i * j) * v ^ (j * m))) n % _ = _
    rw [Pn.sg_mul, Nat.mul_mod, cross hw hv ho hi hm]
    by_cases c : i = m
    · subst c; rw [if_pos rfl, if_pos rfl, ← Nat.mul_mod]
    · rw [if_neg c, if_neg c, Nat.mul_zero])
  rw [e2]
  have : ∀ c N, m < N → sg (fun i => if i = m then c else 0) N = c := fun c N => by
    intro hN
    induction N with
    | zero => omega
    | succ N ih =>
      show sg _ N + (if N = m then c else 0) = c
      by_cases h : N = m
      · rw [if_pos h, Pn.sg_zero N fun i hi => if_neg (by omega), Nat.zero_add]
      · rw [if_neg h, ih (by omega), Nat.add_zero]
  rw [this _ n hm]

/-- By what a direction's sums are multiplied. -/
def sc (k d : Nat) : Nat := if d = 0 then 1 else inv (2 ^ k)
theorem sc_zero (k : Nat) : sc k 0 = 1 := if_pos rfl
theorem sc_other (k d : Nat) (h : d ≠ 0) : sc k d = inv (2 ^ k) := if_neg h
theorem sc_pair (k d : Nat) (hk : k ≤ 32) (hd : d ≤ 1) : 2 ^ k * (sc k d * sc k (1 - d)) % 18446744069414584321 = 1 := by
  have h := inv_mul _ (two_ne k hk)
  rcases Nat.eq_zero_or_pos d with c | c
  · subst c; rw [sc_zero, sc_other k (1 - 0) (by decide), Nat.one_mul, Nat.mul_comm]; exact h
  · obtain rfl : d = 1 := by omega
    rw [sc_other k 1 (by decide), Nat.sub_self, sc_zero, Nat.mul_one, Nat.mul_comm]; exact h
/-- The transform of a direction. -/
def ft (k d : Nat) (x : Nat → Nat) (j : Nat) : Nat := tf x (2 ^ k) (rd k d) j * sc k d % 18446744069414584321
theorem ft_lt (k d : Nat) (x : Nat → Nat) (j : Nat) : ft k d x j < 18446744069414584321 := Nat.mod_lt _ (by decide)
theorem ft_zero (k : Nat) (x : Nat → Nat) (j : Nat) : ft k 0 x j = tf x (2 ^ k) (rt k) j := by
  unfold ft
  rw [sc_zero, Nat.mul_one, Nat.mod_eq_of_lt (tf_lt _ _ _ _), rd_zero]
theorem ft_mod {x y : Nat → Nat} {k : Nat} (h : ∀ i, i < 2 ^ k → x i % 18446744069414584321 = y i % 18446744069414584321) (d j : Nat) : ft k d x j = ft k d y j := by
  unfold ft; rw [tf_mod h]
theorem ft_congr {x y : Nat → Nat} {k : Nat} (h : ∀ i, i < 2 ^ k → x i = y i) (d j : Nat) : ft k d x j = ft k d y j := ft_mod (fun i hi => by rw [h i hi]) d j
/-- P8.4. -/
theorem ft_ft (k d : Nat) (hk : k ≤ 32) (hd : d ≤ 1) (x : Nat → Nat) (m : Nat) (hm : m < 2 ^ k) : ft k (1 - d) (ft k d x) m = x m % 18446744069414584321 := by
  show tf (fun j => tf x (2 ^ k) (rd k d) j * sc k d % 18446744069414584321) (2 ^ k) (rd k (1 - d)) m * sc k (1 - d) % _ = _
  rw [tf_scale, tf_tf x (rd_one k d hk) (rd_pair k d hk hd) (fun m h0 h1 => rd_order k d m hk h0 h1) hm, Nat.mod_mul_mod, Nat.mul_assoc (_ % _), Nat.mod_mul_mod, Nat.mul_assoc]
  exact mul_one_ (sc_pair k d hk hd)
end Tn
end Go.Proofs.YtnnieiedkjekpaaDoor
set_option linter.unusedVariables false
namespace Go.Proofs.YtnnieiedkjekpaaDoor
namespace Tn
open Nt

theorem sg_pairs (f : Nat → Nat) : ∀ n, sg f (2 * n) = sg (fun i => f (2 * i)) n + sg (fun i => f (2 * i + 1)) n
  | 0 => rfl
  | n + 1 => by
    show sg f (2 * n) + f (2 * n) + f (2 * n + 1) = sg (fun i => f (2 * i)) n + f (2 * n) + (sg (fun i => f (2 * i + 1)) n + f (2 * n + 1))
    rw [sg_pairs f n]
    omega
theorem sg_split (f : Nat → Nat) (n : Nat) : ∀ m, sg f (n + m) = sg f n + sg (fun i => f (n + i)) m
  | 0 => rfl
  | m + 1 => by
    show sg f (n + m) + f (n + m) = sg f n + (sg (fun i => f (n + i)) m + f (n + m))
    rw [sg_split f n m, Nat.add_assoc]
theorem tf_root (x : Nat → Nat) (n j : Nat) {w v : Nat} (h : w % 18446744069414584321 = v % 18446744069414584321) : tf x n w j = tf x n v j :=
  Pn.sg_mod n fun i _ => by rw [Nat.mul_mod, ← pmod, h, pmod, ← Nat.mul_mod]
/-- Of one word. -/
theorem tf_one (x : Nat → Nat) (w j : Nat) : tf x 1 w j = x 0 % 18446744069414584321 := by
  show (0 + x 0 * w ^ (0 * j)) % _ = _
  rw [Nat.zero_mul, Nat.pow_zero, Nat.mul_one, Nat.zero_add]
theorem amm (a b c : Nat) : (a % 18446744069414584321 + b * (c % 18446744069414584321)) % 18446744069414584321 = (a + b * c) % 18446744069414584321 := by rw [Nat.mod_add_mod, Nat.add_mod, Nat.mul_mod_mod, ← Nat.add_mod]
theorem lin (a b c s : Nat) : (a + b * c) % 18446744069414584321 * s % 18446744069414584321 = (a * s % 18446744069414584321 + b * s % 18446744069414584321 * c) % 18446744069414584321 := by
  rw [Nat.mod_mul_mod, Nat.mod_add_mod, Nat.add_mod (a * s), Nat.mod_mul_mod, ← Nat.add_mod, Nat.add_mul, Nat.mul_right_comm]
/-- Even and odd places. -/
theorem tf_parts (x : Nat → Nat) (n w j : Nat) : tf x (2 * n) w j = (tf (fun i => x (2 * i)) n (w * w) j + w ^ j * tf (fun i => x (2 * i + 1)) n (w * w) j) % 18446744069414584321 := by
  unfold tf
  rw [sg_pairs, amm, ← Pn.sg_mul]
  congr 2
  · exact Pn.sg_congr n fun i _ => by rw [Nat.mul_pow, ← Nat.pow_add, ← Nat.two_mul, Nat.mul_assoc]
  · exact Pn.sg_congr n fun i _ => by rw [Nat.mul_pow, ← Nat.pow_add, ← Nat.two_mul, Nat.mul_left_comm, ← Nat.pow_add, Nat.add_mul, Nat.one_mul, Nat.mul_assoc, Nat.add_comm (2 * (i * j)) j]
/-- .. half of them on. -/
theorem tf_parts_far (x : Nat → Nat) (n w j : Nat) (hw : w ^ n % 18446744069414584321 = 18446744069414584320) :
    tf x (2 * n) w (j + n) = (tf (fun i => x (2 * i)) n (w * w) j + 18446744069414584320 * (w ^ j * tf (fun i => x (2 * i + 1)) n (w * w) j)) % 18446744069414584321 := by
  have h2 : (w * w) ^ n % 18446744069414584321 = 1 := by rw [Nat.mul_pow, Nat.mul_mod, hw]
  have e : ∀ y : Nat → Nat, tf y n (w * w) (j + n) = tf y n (w * w) j := fun y => Pn.sg_mod n fun i _ => by
    rw [Nat.mul_add, Nat.pow_add, ← Nat.mul_assoc, Nat.mul_comm i n, Nat.pow_mul (w * w) n i, Nat.mul_mod, ← pmod ((w * w) ^ n), h2, pow_one_mod, Nat.mul_one, Nat.mod_mod]
  rw [tf_parts, e, e, Nat.pow_add, Nat.add_mod, Nat.mul_mod, Nat.mul_mod (w ^ j), hw, Nat.add_mod (tf _ n (w * w) j) (18446744069414584320 * _)]
  congr 2
  rw [Nat.mul_mod_mod, Nat.mod_mul_mod, Nat.mul_comm (w ^ j % _) 18446744069414584320, Nat.mul_assoc, Nat.mul_mod 18446744069414584320, Nat.mod_mul_mod (w ^ j), ← Nat.mul_mod]
theorem sub_form (a b : Nat) : (a + 18446744069414584320 * b) % 18446744069414584321 = (a + (18446744069414584321 - b % 18446744069414584321)) % 18446744069414584321 := by
  have h := Nat.div_add_mod b 18446744069414584321
  have hl := Nat.mod_lt b (show 0 < 18446744069414584321 by decide)
  generalize b % 18446744069414584321 = r at *
  generalize b / 18446744069414584321 = q at *
  subst h
  omega
theorem rd_sq (k d : Nat) (hk : k < 32) : rd (k + 1) d * rd (k + 1) d % 18446744069414584321 = rd k d := by
  by_cases h : d = 0
  · subst h; rw [rd_zero, rd_zero]; exact rt_sq k hk
  · rw [rd_other _ d h, rd_other _ d h]
    have h1 := one_pow 2 (rd_mul (k + 1) (by omega))
    rw [Nat.pow_two, Nat.pow_two, Nat.mul_mod, rt_sq k hk] at h1
    have h2 : rt k * (inv (rt (k + 1)) * inv (rt (k + 1)) % 18446744069414584321) % 18446744069414584321 = rt k * inv (rt k) % 18446744069414584321 := by rw [h1, rd_mul k (by omega)]
    have := cancel (prime.cop (rt_ne k (by omega))) h2
    rwa [Nat.mod_mod, Nat.mod_eq_of_lt (inv_lt (rt k))] at this
theorem rd_half (k d : Nat) (hk : k < 32) : rd (k + 1) d ^ 2 ^ k % 18446744069414584321 = 18446744069414584320 := by
  by_cases h : d = 0
  · subst h; rw [rd_zero]; exact rt_half k hk
  · rw [rd_other _ d h]
    have h1 := one_pow (2 ^ k) (rd_mul (k + 1) (by omega))
    rw [Nat.mul_mod, rt_half k hk, Nat.mul_comm] at h1
    have := mul_half _ h1
    rwa [Nat.mod_mod] at this
/-- The first and the second half: the even words. -/
theorem tf_even (x : Nat → Nat) (n w j : Nat) (hw : w ^ (2 * n) % 18446744069414584321 = 1) : tf x (2 * n) w (2 * j) = tf (fun i => x i + x (n + i)) n (w * w) j := by
  unfold tf
  rw [Nat.two_mul n, sg_split, ← Pn.sg_add]
  refine Pn.sg_mod n fun i _ => ?_
  have e1 : w ^ (i * (2 * j)) = (w * w) ^ (i * j) := by rw [Nat.mul_pow, ← Nat.pow_add, ← Nat.two_mul, Nat.mul_left_comm]
  have e2 : w ^ ((n + i) * (2 * j)) % 18446744069414584321 = (w * w) ^ (i * j) % 18446744069414584321 := by
    rw [Nat.add_mul, Nat.pow_add, e1, show n * (2 * j) = 2 * n * j by rw [Nat.mul_left_comm, Nat.mul_assoc], Nat.pow_mul]
    exact one_mul_ (by rw [← pmod, hw, pow_one_mod])
  show (x i * w ^ (i * (2 * j)) + x (n + i) * w ^ ((n + i) * (2 * j))) % _ = (x i + x (n + i)) * (w * w) ^ (i * j) % _
  rw [Nat.add_mul (x i), Nat.add_mod, Nat.mul_mod (x (n + i)), e2, ← Nat.mul_mod, e1, ← Nat.add_mod]
/-- .. the odd words. -/
theorem tf_odd (x : Nat → Nat) (n w j : Nat) (hw : w ^ n % 18446744069414584321 = 18446744069414584320) : tf x (2 * n) w (2 * j + 1) = tf (fun i => (x i + 18446744069414584320 * x (n + i)) * w ^ i) n (w * w) j := by
  unfold tf
  rw [Nat.two_mul n, sg_split, ← Pn.sg_add]
  refine Pn.sg_mod n fun i _ => ?_
  have e1 : w ^ (i * (2 * j + 1)) = w ^ i * (w * w) ^ (i * j) := by rw [Nat.mul_pow, ← Nat.pow_add, ← Nat.two_mul, ← Nat.pow_add, Nat.mul_add, Nat.mul_one, Nat.mul_left_comm, Nat.add_comm]
  have e0 : w ^ (n * (2 * j + 1)) % 18446744069414584321 = 18446744069414584320 := by
    rw [Nat.pow_mul, ← pmod, hw]
    exact neg_odd 18446744069414584321 (2 * j + 1) (by decide) (by omega)
  have e2 : w ^ ((n + i) * (2 * j + 1)) % 18446744069414584321 = 18446744069414584320 * (w ^ i * (w * w) ^ (i * j)) % 18446744069414584321 := by
    rw [Nat.add_mul, Nat.pow_add, e1, Nat.mul_mod, e0, Nat.mul_mod_mod]
  show (x i * w ^ (i * (2 * j + 1)) + x (n + i) * w ^ ((n + i) * (2 * j + 1))) % _ = (x i + 18446744069414584320 * x (n + i)) * w ^ i * (w * w) ^ (i * j) % _
  rw [Nat.mul_assoc (x i + _), Nat.add_mul (x i), Nat.add_mod, Nat.mul_mod (x (n + i)), e2, ← Nat.mul_mod, e1, ← Nat.add_mod, Nat.mul_left_comm (x (n + i)), Nat.mul_assoc 18446744069414584320]

/-- P9.4: sums and multiples. -/
theorem ft_sum (k d c : Nat) (x y : Nat → Nat) (j : Nat) : ft k d (fun i => x i + y i * c) j = (ft k d x j + ft k d y j * c) % 18446744069414584321 := by
  have e : tf (fun i => x i + y i * c) (2 ^ k) (rd k d) j = (tf x (2 ^ k) (rd k d) j + tf y (2 ^ k) (rd k d) j * c) % 18446744069414584321 := by
    unfold tf
    rw [Nat.mod_add_mod, Nat.add_mod, Nat.mod_mul_mod, ← Nat.add_mod, Nat.mul_comm _ c, ← Pn.sg_mul, ← Pn.sg_add]
    exact congrArg (· % 18446744069414584321) (Pn.sg_congr _ fun i _ => by rw [Nat.add_mul, Nat.mul_comm (y i) c, Nat.mul_assoc])
  unfold ft
  rw [e]
  exact lin _ _ _ _
/-- P9.4: a row turned by one place. -/
theorem tf_turned (x : Nat → Nat) (n w j : Nat) (h0 : 0 < n) (hw : w ^ n % 18446744069414584321 = 1) : tf (fun i => x ((i + n - 1) % n)) n w j = tf x n w j * (w ^ j % 18446744069414584321) % 18446744069414584321 := by
  obtain ⟨m, rfl⟩ : ∃ m, n = m + 1 := ⟨n - 1, by omega⟩
  unfold tf
  rw [Nat.mul_mod_mod, Nat.mod_mul_mod, Nat.mul_comm _ (w ^ j), ← Pn.sg_mul, Pn.sg_first]
  show (x ((0 + (m + 1) - 1) % (m + 1)) * w ^ (0 * j) + sg (fun i => x ((i + 1 + (m + 1) - 1) % (m + 1)) * w ^ ((i + 1) * j)) m) % _ = (sg (fun i => w ^ j * (x i * w ^ (i * j))) m + w ^ j * (x m * w ^ (m * j))) % _
  have e1 : sg (fun i => x ((i + 1 + (m + 1) - 1) % (m + 1)) * w ^ ((i + 1) * j)) m = sg (fun i => w ^ j * (x i * w ^ (i * j))) m := Pn.sg_congr m fun i hi => by
    rw [show i + 1 + (m + 1) - 1 = i + (m + 1) by omega, Nat.add_mod_right, Nat.mod_eq_of_lt (by omega), Nat.succ_mul, Nat.pow_add, Nat.mul_comm (w ^ (i * j)), Nat.mul_left_comm]
  have e2 : w ^ j * (x m * w ^ (m * j)) % 18446744069414584321 = x m % 18446744069414584321 := by
    rw [Nat.mul_left_comm, ← Nat.pow_add, show j + m * j = (m + 1) * j by rw [Nat.succ_mul, Nat.add_comm], Nat.pow_mul]
    exact mul_one_ (by rw [← pmod, hw, pow_one_mod])
  rw [e1, show 0 + (m + 1) - 1 = m by omega, Nat.mod_eq_of_lt (by omega : m < m + 1), Nat.zero_mul, Nat.pow_zero, Nat.mul_one, Nat.add_comm, Nat.add_mod, ← e2, ← Nat.add_mod]
/-- A transform's words are a polynomial's values. -/
theorem tf_evl (xs : List Nat) (n w j : Nat) (hn : xs.length ≤ n) : tf (Pn.pl xs) n w j = Pn.evl (w ^ j) xs % 18446744069414584321 := by
  obtain ⟨e, rfl⟩ : ∃ e, n = xs.length + e := ⟨n - xs.length, by omega⟩
  rw [Pn.evl_any (w ^ j) xs e]
  unfold tf
  congr 1
  exact Pn.sg_congr _ fun i _ => by rw [← Nat.pow_mul, Nat.mul_comm i j]
end Tn
end Go.Proofs.YtnnieiedkjekpaaDoor
