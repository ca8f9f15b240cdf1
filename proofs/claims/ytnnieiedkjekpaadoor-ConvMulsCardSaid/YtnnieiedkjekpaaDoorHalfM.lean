/- Transforms by halves, plain: what a round of butterflies makes of a row, and what all rounds make of a row that is turned about. It names no program. -/
import Derived.Test.YtnnieiedkjekpaaDoorPlain
import Derived.Test.YtnnieiedkjekpaaDoorRevN
import Derived.Test.YtnnieiedkjekpaaDoorWords
set_option linter.unusedVariables false
namespace Go.Proofs.YtnnieiedkjekpaaDoor
namespace Tn
open Nt Rn Ww

/-- A butterfly's sum and difference. -/
def bs (a b w : Nat) : Nat := (a + w * b % 18446744069414584321) % 18446744069414584321
def bd (a b w : Nat) : Nat := (a + (18446744069414584321 - w * b % 18446744069414584321 % 18446744069414584321)) % 18446744069414584321
theorem bs_lt (a b w : Nat) : bs a b w < 18446744069414584321 := Nat.mod_lt _ (by decide)
theorem bd_lt (a b w : Nat) : bd a b w < 18446744069414584321 := Nat.mod_lt _ (by decide)
/-- The row f, of which the first i words of two halves at p, of h words each, have become what they become by the factors t. -/
def jo (f t : Nat → Nat) (p h i j : Nat) : Nat :=
  if p ≤ j ∧ j < p + i then bs (f j) (f (j + h)) (t (j - p))
  else if p + h ≤ j ∧ j < p + h + i then bd (f (j - h)) (f j) (t (j - h - p))
  else f j
theorem jo_zero (f t : Nat → Nat) (p h : Nat) : jo f t p h 0 = f := by
  funext j
  unfold jo
  rw [if_neg (by omega), if_neg (by omega)]
theorem jo_even (f t : Nat → Nat) (p h i : Nat) (hi : i < h) : jo f t p h i (p + i) = f (p + i) := by
  unfold jo
  rw [if_neg (by omega), if_neg (by omega)]
theorem jo_odd (f t : Nat → Nat) (p h i : Nat) (hi : i < h) : jo f t p h i (p + h + i) = f (p + h + i) := by
  unfold jo
  rw [if_neg (by omega), if_neg (by omega)]
theorem jo_step (f t : Nat → Nat) (p h i : Nat) (hi : i < h) : upd (upd (jo f t p h i) (p + i) (bs (f (p + i)) (f (p + h + i)) (t i))) (p + h + i) (bd (f (p + i)) (f (p + h + i)) (t i)) = jo f t p h (i + 1) := by
  funext j
  by_cases e2 : j = p + h + i
  · subst e2
    rw [upd_same]
    unfold jo
    rw [if_neg (by omega), if_pos (by omega), show p + h + i - h = p + i by omega, show p + i - p = i by omega]
  · rw [upd_other _ _ _ e2]
    by_cases e1 : j = p + i
    · subst e1
      rw [upd_same]
      unfold jo
      rw [if_pos (by omega), show p + i + h = p + h + i by omega, show p + i - p = i by omega]
    · rw [upd_other _ _ _ e1]
      unfold jo
      by_cases c1 : p ≤ j ∧ j < p + i
      · rw [if_pos c1, if_pos (by omega)]
      · rw [if_neg c1, if_neg (show ¬ (p ≤ j ∧ j < p + (i + 1)) by omega)]
        by_cases c2 : p + h ≤ j ∧ j < p + h + i
        · rw [if_pos c2, if_pos (by omega)]
        · rw [if_neg c2, if_neg (by omega)]
/-- A whole round, of halves of h words. -/
def st (f t : Nat → Nat) (h j : Nat) : Nat := if j % (2 * h) < h then bs (f j) (f (j + h)) (t (j % (2 * h))) else bd (f (j - h)) (f j) (t (j % (2 * h) - h))
/-- .. of which the first m words are made. -/
def sb (f t : Nat → Nat) (h m j : Nat) : Nat := if j < m then st f t h j else f j
theorem sb_zero (f t : Nat → Nat) (h : Nat) : sb f t h 0 = f := by
  funext j
  unfold sb
  rw [if_neg (by omega)]
theorem sb_step (f t : Nat → Nat) (h c : Nat) (j : Nat) : jo (sb f t h (c * (2 * h))) t (c * (2 * h)) h h j = sb f t h ((c + 1) * (2 * h)) j := by
  obtain ⟨m, hm⟩ : ∃ m, m = c * (2 * h) := ⟨_, rfl⟩
  have em : (c + 1) * (2 * h) = m + 2 * h := by rw [Nat.succ_mul, hm]
  have er : ∀ r, r < 2 * h → (m + r) % (2 * h) = r := fun r hr => by rw [hm, Nat.add_comm, Nat.add_mul_mod_self_right, Nat.mod_eq_of_lt hr]
  rw [em, ← hm]
  unfold jo
  by_cases c1 : m ≤ j ∧ j < m + h
  · obtain ⟨r, rfl⟩ : ∃ r, j = m + r := ⟨j - m, by omega⟩
    rw [if_pos c1]
    unfold sb st
    rw [if_neg (by omega), if_neg (by omega), if_pos (by omega), er r (by omega), if_pos (by omega), show m + r - m = r by omega]
  · rw [if_neg c1]
    by_cases c2 : m + h ≤ j ∧ j < m + h + h
    · obtain ⟨r, rfl⟩ : ∃ r, j = m + h + r := ⟨j - m - h, by omega⟩
      rw [if_pos c2]
      unfold sb st
      rw [if_neg (by omega), if_neg (by omega), if_pos (by omega), show m + h + r = m + (h + r) by omega, er (h + r) (by omega), if_neg (by omega), show m + (h + r) - h - m = h + r - h by omega]
    · rw [if_neg c2]
      unfold sb
      by_cases c3 : j < m
      · rw [if_pos c3, if_pos (by omega)]
      · rw [if_neg c3, if_neg (by omega)]
theorem sb_all (f t : Nat → Nat) (h m j : Nat) (hj : j < m) : sb f t h m j = st f t h j := if_pos hj

/-- Roots of lower orders. -/
theorem rd_pow (d m : Nat) : ∀ e, m + e ≤ 32 → rd (m + e) d ^ 2 ^ e % 18446744069414584321 = rd m d
  | 0, _ => by rw [Nat.add_zero, Nat.pow_zero, Nat.pow_one]; exact Nat.mod_eq_of_lt (rd_lt m d)
  | e + 1, h => by
    rw [Nat.pow_succ', Nat.pow_mul, ← pmod, Nat.pow_two, show m + (e + 1) = m + e + 1 by omega, rd_sq (m + e) d (by omega)]
    exact rd_pow d m e (by omega)
theorem tn_even (m c : Nat) : tn (m + 1) 1 (2 * c) = tn m 1 c := by
  have := rv_low 2 m (2 * c)
  have e1 : 2 * c % 2 = 0 := by omega
  have e2 : 2 * c / 2 = c := by omega
  rw [e1, e2, Nat.zero_mul, Nat.zero_add] at this
  simpa [tn] using this
theorem tn_odd (m c : Nat) : tn (m + 1) 1 (2 * c + 1) = 2 ^ m + tn m 1 c := by
  have := rv_low 2 m (2 * c + 1)
  have e1 : (2 * c + 1) % 2 = 1 := by omega
  have e2 : (2 * c + 1) / 2 = c := by omega
  rw [e1, e2, Nat.one_mul] at this
  simpa [tn] using this
theorem tn_zero (c : Nat) : tn 0 1 c = 0 := by simp [tn, rv]
/-- What stands at j behind s rounds: a word of the transform of the words that are 2^(k-s) places apart. -/
def hv (x : Nat → Nat) (k d s j : Nat) : Nat := tf (fun i => x (i * 2 ^ (k - s) + tn (k - s) 1 (j / 2 ^ s))) (2 ^ s) (rd s d) (j % 2 ^ s)
theorem hv_lt (x : Nat → Nat) (k d s j : Nat) : hv x k d s j < 18446744069414584321 := Nat.mod_lt _ (by decide)
theorem hv_zero (x : Nat → Nat) (k d j : Nat) : hv x k d 0 j = x (tn k 1 j) % 18446744069414584321 := by
  unfold hv
  rw [show (2 : Nat) ^ 0 = 1 from rfl, tf_one, Nat.zero_mul, Nat.zero_add, Nat.sub_zero, Nat.div_one]
theorem hv_all (x : Nat → Nat) (k d j : Nat) (hj : j < 2 ^ k) : hv x k d k j = tf x (2 ^ k) (rd k d) j := by
  unfold hv
  rw [Nat.sub_self, tn_zero, Nat.mod_eq_of_lt hj]
  have e : (fun i => x (i * 2 ^ 0 + 0)) = x := by funext i; rw [Nat.pow_zero, Nat.mul_one, Nat.add_zero]
  rw [e]
theorem bs_form (a b w : Nat) : bs a b (w % 18446744069414584321) = (a + w * b) % 18446744069414584321 := by
  unfold bs
  rw [Nat.mod_mul_mod, Nat.add_mod_mod]
theorem bd_form (a b w : Nat) : bd a b (w % 18446744069414584321) = (a + 18446744069414584320 * (w * b)) % 18446744069414584321 := by
  unfold bd
  rw [sub_form, Nat.mod_mod, Nat.mod_mul_mod]
theorem parts_at (x : Nat → Nat) (m c h v : Nat) (r : Nat) :
    tf (fun i => (fun i => x (i * 2 ^ m + tn m 1 c)) (2 * i)) h v r = tf (fun i => x (i * 2 ^ (m + 1) + tn (m + 1) 1 (2 * c))) h v r ∧
    tf (fun i => (fun i => x (i * 2 ^ m + tn m 1 c)) (2 * i + 1)) h v r = tf (fun i => x (i * 2 ^ (m + 1) + tn (m + 1) 1 (2 * c + 1))) h v r := by
  have e : ∀ i, 2 * i * 2 ^ m = i * 2 ^ (m + 1) := fun i => by rw [Nat.pow_succ, Nat.mul_comm 2 i, Nat.mul_assoc, Nat.mul_comm 2]
  constructor
  · congr 1
    funext i
    show x (2 * i * 2 ^ m + tn m 1 c) = _
    rw [tn_even, e]
  · congr 1
    funext i
    show x ((2 * i + 1) * 2 ^ m + tn m 1 c) = _
    rw [tn_odd, Nat.succ_mul, e, Nat.add_assoc]
/-- A round more. -/
theorem hv_step (x : Nat → Nat) (k d s : Nat) (hs : s < k) (hk : k ≤ 32) (j : Nat) : st (hv x k d s) (fun i => rd (s + 1) d ^ i % 18446744069414584321) (2 ^ s) j = hv x k d (s + 1) j := by
  obtain ⟨m, hm⟩ : ∃ m, k = s + 1 + m := ⟨k - s - 1, by omega⟩
  obtain ⟨h, hh⟩ : ∃ h, h = 2 ^ s := ⟨_, rfl⟩
  have h0 : 0 < h := by rw [hh]; exact Nat.two_pow_pos s
  have e2 : 2 ^ (s + 1) = 2 * h := by rw [Nat.pow_succ, ← hh, Nat.mul_comm]
  have ew := rd_sq s d (by omega)
  have eh := rd_half s d (by omega)
  obtain ⟨c, hc⟩ : ∃ c, c = j / (2 * h) := ⟨_, rfl⟩
  obtain ⟨r, hr⟩ : ∃ r, r = j % (2 * h) := ⟨_, rfl⟩
  have hrl : r < 2 * h := by rw [hr]; exact Nat.mod_lt _ (by omega)
  have hj : j = h * (2 * c) + r := by
    have := Nat.div_add_mod j (2 * h)
    rw [← hc, ← hr] at this
    rw [← this]
    congr 1
    rw [Nat.mul_comm 2 h, Nat.mul_assoc]
  have q1 : ∀ a b, b < h → (h * a + b) / h = a ∧ (h * a + b) % h = b := fun a b hb => ⟨by rw [Nat.mul_add_div h0, Nat.div_eq_of_lt hb, Nat.add_zero], by rw [Nat.mul_add_mod, Nat.mod_eq_of_lt hb]⟩
  have P := parts_at x m c h (rd s d)
  have T : ∀ y : Nat → Nat, ∀ q, tf y h (rd (s + 1) d * rd (s + 1) d) q = tf y h (rd s d) q := fun y q => tf_root y h q (by rw [ew, Nat.mod_eq_of_lt (rd_lt s d)])
  have km : k - s = m + 1 := by omega
  have km2 : k - (s + 1) = m := by omega
  rw [← hh] at eh
  unfold st hv
  rw [← hh, e2, km, km2, ← hr, ← hc]
  by_cases hlt : r < h
  · rw [if_pos hlt]
    have a1 := q1 (2 * c) r hlt
    have a2 := q1 (2 * c + 1) r hlt
    have ej : j + h = h * (2 * c + 1) + r := by rw [hj, Nat.mul_add]; omega
    rw [ej, a2.1, a2.2, hj, a1.1, a1.2, bs_form, tf_parts, T, T, (P r).1, (P r).2]
  · obtain ⟨q, rfl⟩ : ∃ q, r = q + h := ⟨r - h, by omega⟩
    rw [if_neg hlt]
    have a1 := q1 (2 * c) q (by omega)
    have a2 := q1 (2 * c + 1) q (by omega)
    have ej : j = h * (2 * c + 1) + q := by rw [hj, Nat.mul_add]; omega
    have ej2 : j - h = h * (2 * c) + q := by omega
    rw [ej2, a1.1, a1.2, ej, a2.1, a2.2, show q + h - h = q by omega, bd_form, tf_parts_far _ _ _ _ eh, T, T, (P q).1, (P q).2]
end Tn
end Go.Proofs.YtnnieiedkjekpaaDoor
