/- Primes: Fermat's theorem, and that 2^64 - 2^32 + 1 is a prime (a power of 7 is -1); it names no program. -/
namespace Go.Proofs.YtfkhnfaammfbeaaDoor
namespace Nt
/-- A number is prime: what divides it is 1 or it itself. -/
def Pr (p : Nat) : Prop := 2 ≤ p ∧ ∀ d, d ∣ p → d = 1 ∨ d = p

theorem Pr.cop {p : Nat} (h : Pr p) {a : Nat} (ha : a % p ≠ 0) : Nat.Coprime a p := by
  unfold Nat.Coprime
  rcases h.2 _ (Nat.gcd_dvd_right a p) with e | e
  · exact e
  · exfalso; apply ha; exact Nat.mod_eq_zero_of_dvd (e ▸ Nat.gcd_dvd_left a p)

theorem Pr.mul {p : Nat} (h : Pr p) {a b : Nat} (e : a * b % p = 0) : a % p = 0 ∨ b % p = 0 := by
  by_cases ha : a % p = 0
  · exact Or.inl ha
  · right
    exact Nat.mod_eq_zero_of_dvd ((h.cop ha).symm.dvd_of_dvd_mul_left (Nat.dvd_of_mod_eq_zero e))

theorem cancel {p a x y : Nat} (h : Nat.Coprime a p) (e : a * x % p = a * y % p) : x % p = y % p := by
  have key : ∀ x y, x ≤ y → a * x % p = a * y % p → x % p = y % p := by
    intro x y hxy e
    have d : p ∣ a * y - a * x := Nat.dvd_of_mod_eq_zero (Nat.sub_mod_eq_zero_of_mod_eq e.symm)
    rw [← Nat.mul_sub] at d
    obtain ⟨k, hk⟩ := h.symm.dvd_of_dvd_mul_left d
    have : y = x + p * k := by omega
    rw [this]; simp
  rcases Nat.le_total x y with c | c
  · exact key x y c e
  · exact (key y x c e.symm).symm

/-- Pigeons: a list without twins inside another one that is no longer is that one in another order. -/
theorem perm_of_sub {α : Type} [BEq α] [LawfulBEq α] : ∀ (l1 l2 : List α), l1.Nodup → (∀ x, x ∈ l1 → x ∈ l2) → l2.length ≤ l1.length → l1.Perm l2
  | [], l2, _, _, hl => by
    have : l2 = [] := List.length_eq_zero_iff.mp (by simpa using hl)
    rw [this]
  | a :: l, l2, hn, hs, hl => by
    have ha : a ∈ l2 := hs a (by simp)
    have hp := List.perm_cons_erase ha
    have hn' := List.nodup_cons.mp hn
    refine List.Perm.trans (List.Perm.cons a (perm_of_sub l (l2.erase a) hn'.2 ?_ ?_)) hp.symm
    · intro x hx
      have : x ≠ a := fun e => hn'.1 (e ▸ hx)
      exact (List.mem_erase_of_ne this).mpr (hs x (by simp [hx]))
    · rw [List.length_erase_of_mem ha]; simp at hl; omega

/-- The product of all. -/
def prod : List Nat → Nat
  | [] => 1
  | a :: l => a * prod l

theorem prod_perm {l1 l2 : List Nat} (h : l1.Perm l2) : prod l1 = prod l2 := by
  induction h with
  | nil => rfl
  | cons x _ ih => simp [prod, ih]
  | swap x y l => simp only [prod]; rw [← Nat.mul_assoc, ← Nat.mul_assoc, Nat.mul_comm y x]
  | trans _ _ i1 i2 => rw [i1, i2]

theorem prod_scale (a p : Nat) : ∀ l : List Nat, prod (l.map fun i => a * i % p) % p = a ^ l.length * prod l % p
  | [] => by simp [prod]
  | x :: l => by
    simp only [List.map, prod, List.length_cons]
    rw [Nat.mul_mod, prod_scale a p l, Nat.mod_mod, ← Nat.mul_mod]
    congr 1
    rw [Nat.pow_succ]
    simp only [Nat.mul_assoc, Nat.mul_comm, Nat.mul_left_comm]

theorem prod_cop {p : Nat} (h : Pr p) : ∀ l : List Nat, (∀ x, x ∈ l → x % p ≠ 0) → Nat.Coprime (prod l) p
  | [], _ => by simp [prod]
  | x :: l, hx => by
    simp only [prod]
    exact Nat.Coprime.mul_left (h.cop (hx x (by simp))) (prod_cop h l fun y hy => hx y (by simp [hy]))

theorem nodup_map_inj {α β : Type} (f : α → β) : ∀ l : List α, l.Nodup → (∀ x y, x ∈ l → y ∈ l → f x = f y → x = y) → (l.map f).Nodup
  | [], _, _ => by simp
  | a :: l, hn, hi => by
    have hn' := List.nodup_cons.mp hn
    rw [List.map_cons, List.nodup_cons]
    refine ⟨?_, nodup_map_inj f l hn'.2 fun x y hx hy => hi x y (by simp [hx]) (by simp [hy])⟩
    intro hm
    obtain ⟨x, hx, e⟩ := List.mem_map.mp hm
    have := hi x a (by simp [hx]) (by simp) e
    exact hn'.1 (this ▸ hx)

theorem fermat {p : Nat} (h : Pr p) {a : Nat} (ha : a % p ≠ 0) : a ^ (p - 1) % p = 1 := by
  have h2 := h.1
  let l := List.range' 1 (p - 1)
  have hl : ∀ x, x ∈ l ↔ 1 ≤ x ∧ x < p := by
    intro x; simp only [l, List.mem_range'_1]; omega
  have hm : ∀ x, x ∈ l → x % p = x := fun x hx => Nat.mod_eq_of_lt ((hl x).mp hx).2
  have hp : (l.map fun i => a * i % p).Perm l := by
    refine perm_of_sub _ _ (nodup_map_inj _ _ List.nodup_range' ?_) ?_ (by simp)
    · intro x y hx hy e
      have := cancel (h.cop ha) e
      rwa [hm x hx, hm y hy] at this
    · intro z hz
      obtain ⟨x, hx, rfl⟩ := List.mem_map.mp hz
      rw [hl]
      refine ⟨?_, Nat.mod_lt _ (by omega)⟩
      refine Nat.pos_of_ne_zero fun e => ?_
      rcases h.mul e with c | c
      · exact ha c
      · rw [hm x hx] at c; have := ((hl x).mp hx).1; omega
  have e1 := prod_scale a p l
  rw [prod_perm hp] at e1
  have hc := prod_cop h l (fun x hx => by rw [hm x hx]; have := ((hl x).mp hx).1; omega)
  have e2 : prod l * 1 % p = prod l * a ^ l.length % p := by rw [Nat.mul_one, e1, Nat.mul_comm]
  have e3 := cancel hc e2
  rw [show l.length = p - 1 from by simp [l]] at e3
  rw [← e3, Nat.mod_eq_of_lt (by omega)]
/-- Powers by squares, with what each leaves: for the kernel. -/
def pm (p : Nat) : Nat → Nat → Nat → Nat → Nat
  | 0, _, _, acc => acc
  | f + 1, b, n, acc => pm p f (b * b % p) (n / 2) (if n % 2 = 1 then acc * b % p else acc)
theorem pm_eq (p : Nat) : ∀ f b n acc, n < 2 ^ f → pm p f b n acc % p = acc * b ^ n % p
  | 0, b, n, acc, h => by
    have : n = 0 := by simpa using h
    subst this; simp [pm]
  | f + 1, b, n, acc, h => by
    rw [pm, pm_eq p f _ _ _ (by rw [Nat.pow_succ] at h; omega)]
    have e : b ^ n = (b * b) ^ (n / 2) * b ^ (n % 2) := by
      rw [← Nat.pow_two, ← Nat.pow_mul, ← Nat.pow_add]; congr 1; omega
    have c : (b * b % p) ^ (n / 2) % p = (b * b) ^ (n / 2) % p := (Nat.pow_mod (b * b) (n / 2) p).symm
    rw [Nat.mul_mod, c, ← Nat.mul_mod, e]
    split
    · next h1 => rw [h1, Nat.pow_one, Nat.mul_mod, Nat.mod_mod, ← Nat.mul_mod]; congr 1; simp only [Nat.mul_assoc, Nat.mul_comm, Nat.mul_left_comm]
    · next h1 => rw [show n % 2 = 0 from by omega]; simp
theorem seven (m : Nat) (hm : m = 9223372034707292160) : 7 ^ m % 18446744069414584321 = 18446744069414584320 := by
  have h := pm_eq 18446744069414584321 64 7 m 1 (by rw [hm]; decide)
  rw [Nat.one_mul] at h
  rw [← h, hm]
  decide +kernel

theorem has_prime : ∀ n, 2 ≤ n → ∃ q, Pr q ∧ q ∣ n := by
  intro n
  induction n using Nat.strongRecOn with
  | _ n ih =>
    intro h2
    by_cases hp : Pr n
    · exact ⟨n, hp, Nat.dvd_refl n⟩
    · have : ∃ d, d ∣ n ∧ d ≠ 1 ∧ d ≠ n := Classical.byContradiction fun hc => hp ⟨h2, fun d hd => Classical.byContradiction fun hx => hc ⟨d, hd, fun e => hx (Or.inl e), fun e => hx (Or.inr e)⟩⟩
      obtain ⟨d, hd, d1, dn⟩ := this
      have dl := Nat.le_of_dvd (by omega) hd
      have d0 : d ≠ 0 := fun e => by subst e; have := Nat.eq_zero_of_zero_dvd hd; omega
      obtain ⟨q, hq, hqd⟩ := ih d (by omega) (by omega)
      exact ⟨q, hq, Nat.dvd_trans hqd hd⟩

theorem small_prime (n : Nat) (h2 : 2 ≤ n) (hn : ¬ Pr n) : ∃ q, Pr q ∧ q ∣ n ∧ q * q ≤ n := by
  have : ∃ d, d ∣ n ∧ d ≠ 1 ∧ d ≠ n := Classical.byContradiction fun hc => hn ⟨h2, fun d hd => Classical.byContradiction fun hx => hc ⟨d, hd, fun e => hx (Or.inl e), fun e => hx (Or.inr e)⟩⟩
  obtain ⟨d, ⟨e, he⟩, d1, dn⟩ := this
  have key : ∀ d e, n = d * e → d ≠ 1 → d ≤ e → ∃ q, Pr q ∧ q ∣ n ∧ q * q ≤ n := by
    intro d e he d1 hde
    have d0 : d ≠ 0 := fun z => by subst z; simp at he; omega
    obtain ⟨q, hq, hqd⟩ := has_prime d (by omega)
    have ql := Nat.le_of_dvd (by omega) hqd
    exact ⟨q, hq, Nat.dvd_trans hqd ⟨e, he⟩, Nat.le_trans (Nat.mul_le_mul ql (Nat.le_trans ql hde)) (Nat.le_of_eq he.symm)⟩
  rcases Nat.le_total d e with c | c
  · exact key d e he d1 c
  · exact key e d (by rw [he, Nat.mul_comm]) (fun z => dn (by rw [he, z, Nat.mul_one])) c

theorem two_odd : ∀ n, 0 < n → ∃ s t, n = 2 ^ s * t ∧ t % 2 = 1 := by
  intro n
  induction n using Nat.strongRecOn with
  | _ n ih =>
    intro h
    by_cases ho : n % 2 = 1
    · exact ⟨0, n, by simp, ho⟩
    · obtain ⟨s, t, e, ht⟩ := ih (n / 2) (by omega) (by omega)
      refine ⟨s + 1, t, ?_, ht⟩
      rw [Nat.pow_succ, Nat.mul_comm (2 ^ s) 2, Nat.mul_assoc, ← e]; omega

theorem neg_odd (q t : Nat) (hq : 2 ≤ q) (ht : t % 2 = 1) : (q - 1) ^ t % q = q - 1 := by
  have e : t = 2 * (t / 2) + 1 := by omega
  have s : (q - 1) ^ 2 % q = 1 := by
    obtain ⟨r, rfl⟩ : ∃ r, q = r + 2 := ⟨q - 2, by omega⟩
    rw [Nat.pow_two, show (r + 2 - 1) * (r + 2 - 1) = 1 + (r + 2) * r from by rw [show r + 2 - 1 = r + 1 from rfl]; simp only [Nat.add_mul, Nat.mul_add]; omega]
    rw [Nat.add_mul_mod_self_left, Nat.mod_eq_of_lt (by omega)]
  rw [e, Nat.pow_succ, Nat.pow_mul, Nat.mul_mod, Nat.pow_mod, s, Nat.one_pow, Nat.mod_eq_of_lt (show 1 < q from by omega), Nat.one_mul, Nat.mod_mod, Nat.mod_eq_of_lt (by omega)]

theorem prime : Pr 18446744069414584321 := by
  refine Classical.byContradiction fun hn => ?_
  obtain ⟨q, hq, hd, hqq⟩ := small_prime 18446744069414584321 (by decide) hn
  have q2 := hq.1
  obtain ⟨s, t, e, ht⟩ := two_odd (q - 1) (by omega)
  have hM : ∀ m, m = 9223372034707292160 → 7 ^ m % q = q - 1 := by
    intro m hm
    have := seven m hm
    rw [← Nat.mod_mod_of_dvd (7 ^ m) hd, this]
    obtain ⟨c, hc⟩ := hd
    have : (18446744069414584320 : Nat) = (q - 1) + q * (c - 1) := by
      have c0 : c ≠ 0 := fun z => by subst z; simp at hc
      have := Nat.mul_sub q c 1
      have : q ≤ q * c := Nat.le_mul_of_pos_right q (by omega)
      rw [Nat.mul_sub]; omega
    rw [this, Nat.add_mul_mod_self_left, Nat.mod_eq_of_lt (by omega)]
  have h7 : 7 % q ≠ 0 := by
    intro z
    obtain ⟨m0, hm0⟩ : ∃ m : Nat, m = 9223372034707292160 := ⟨_, rfl⟩
    have h := hM m0 hm0
    have : ∀ m, 0 < m → 7 ^ m % q = 0 := by
      intro m hm
      obtain ⟨k, rfl⟩ : ∃ k, m = k + 1 := ⟨m - 1, by omega⟩
      rw [Nat.pow_succ, Nat.mul_mod, z, Nat.mul_zero, Nat.zero_mod]
    rw [this m0 (by omega)] at h; omega
  have hf := fermat hq h7
  by_cases hs : 32 ≤ s
  · have t1 : 1 ≤ t := by omega
    have : 2 ^ 32 ≤ 2 ^ s := Nat.pow_le_pow_right (by decide) hs
    have : 2 ^ 32 * 1 ≤ 2 ^ s * t := Nat.mul_le_mul this t1
    have : 4294967297 * 4294967297 ≤ q * q := Nat.mul_le_mul (by omega) (by omega)
    omega
  · have key : ∀ m, m = 9223372034707292160 → (7 ^ m) ^ t % q = 1 := by
      intro m hm
      have hx : m = 2 ^ s * (2 ^ (31 - s) * 4294967295) := by
        rw [← Nat.mul_assoc, ← Nat.pow_add, show s + (31 - s) = 31 from by omega, hm]
      rw [hx, ← Nat.pow_mul, show 2 ^ s * (2 ^ (31 - s) * 4294967295) * t = (q - 1) * (2 ^ (31 - s) * 4294967295) from by rw [e]; simp only [Nat.mul_assoc, Nat.mul_comm], Nat.pow_mul, Nat.pow_mod, hf, Nat.one_pow, Nat.mod_eq_of_lt (by omega)]
    obtain ⟨m0, hm0⟩ : ∃ m : Nat, m = 9223372034707292160 := ⟨_, rfl⟩
    have k1 := key m0 hm0
    rw [Nat.pow_mod, hM m0 hm0, neg_odd q t q2 ht] at k1
    have : q = 2 := by omega
    subst this
    revert hd; decide
/-- The exponent whose power is the inverse. -/
def expo : Nat := 18446744069414584319
/-- The inverse: a power. -/
def inv (b : Nat) : Nat := b ^ expo % 18446744069414584321
theorem inv_lt (b : Nat) : inv b < 18446744069414584321 := Nat.mod_lt _ (by decide)
theorem pow_all (b n : Nat) (h : b % 18446744069414584321 ≠ 0) (hn : n = 18446744069414584320) : b ^ n % 18446744069414584321 = 1 := by
  have := fermat prime h
  rwa [show 18446744069414584321 - 1 = n from by omega] at this
theorem pow_zero_mod (b n : Nat) (h : b % 18446744069414584321 = 0) (hn : 0 < n) : b ^ n % 18446744069414584321 = 0 := by
  obtain ⟨k, rfl⟩ : ∃ k, n = k + 1 := ⟨n - 1, by omega⟩
  rw [Nat.pow_succ, Nat.mul_mod, h, Nat.mul_zero, Nat.zero_mod]
theorem inv_pow (b m : Nat) (hm : m = 18446744069414584319) : inv b = b ^ m % 18446744069414584321 := by rw [show m = expo from hm]; rfl
theorem inv_mul (b : Nat) (h : b % 18446744069414584321 ≠ 0) : inv b * b % 18446744069414584321 = 1 := by
  obtain ⟨m, hm⟩ : ∃ m : Nat, m = 18446744069414584319 := ⟨_, rfl⟩
  rw [inv_pow b m hm, Nat.mod_mul_mod, ← Nat.pow_succ]
  exact pow_all b (m + 1) h (by omega)
theorem prod_append : ∀ a b : List Nat, prod (a ++ b) = prod a * prod b
  | [], b => by simp [prod]
  | x :: a, b => by rw [List.cons_append, prod, prod, prod_append a b, Nat.mul_assoc]
theorem prod_take (xs : List Nat) (k : Nat) (h : k < xs.length) : prod (xs.take (k + 1)) = prod (xs.take k) * xs.getD k 0 := by
  rw [List.take_succ_eq_append_getElem h, prod_append]
  simp [prod, List.getD, h]
/-- The sum of f at all places below n. -/
def sg (f : Nat → Nat) : Nat → Nat
  | 0 => 0
  | n + 1 => sg f n + f n
end Nt
end Go.Proofs.YtfkhnfaammfbeaaDoor
