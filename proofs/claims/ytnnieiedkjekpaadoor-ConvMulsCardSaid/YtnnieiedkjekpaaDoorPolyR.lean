/- Polynomials by a number m: x - a, quotients and rests by it, products of such, one coefficient more of a quotient, one point more of an interpolation. It names no program. -/
import Derived.Test.YtnnieiedkjekpaaDoorPlain
set_option linter.unusedVariables false
namespace Go.Proofs.YtnnieiedkjekpaaDoor
namespace Pn
open Nt

/-- x - a. -/
def ln (m a : Nat) : List Nat := [(m - a % m) % m, 1]
theorem neg_add {m : Nat} (hm : 0 < m) (a : Nat) : ((m - a % m) % m + a) % m = 0 := by
  have h := Nat.mod_lt a hm
  rw [Nat.add_mod, Nat.mod_mod, ← Nat.add_mod, Nat.add_mod, Nat.add_comm, ← Nat.add_mod_mod, Nat.mod_mod]
  by_cases h0 : a % m = 0
  · rw [h0]; simp
  · rw [Nat.mod_eq_of_lt (show m - a % m < m by omega), show a % m + (m - a % m) = m by omega, Nat.mod_self]
theorem neg_mul {m : Nat} (hm : 0 < m) (a y : Nat) : ((m - a % m) % m * y + a * y) % m = 0 := by
  rw [← Nat.add_mul, Nat.mul_mod, neg_add hm, Nat.zero_mul, Nat.zero_mod]
theorem ln_at (m a x : Nat) : evl x (ln m a) = (m - a % m) % m + x := by simp [ln, evl]
theorem ln_zero {m : Nat} (hm : 0 < m) (a : Nat) : evl a (ln m a) % m = 0 := by rw [ln_at]; exact neg_add hm a
/-- x - a is 0 in the field at a alone. -/
theorem ln_ne {m : Nat} (hm : 0 < m) (a x : Nat) (h : evl x (ln m a) % m = 0) : x % m = a % m := by
  rw [ln_at] at h
  have h1 := neg_add hm a
  generalize (m - a % m) % m = c at *
  have e : (c + x) % m = (c + a) % m := by rw [h, h1]
  have hx := Nat.mod_lt x hm
  have ha := Nat.mod_lt a hm
  have hc := Nat.mod_lt c hm
  rw [Nat.add_mod, Nat.add_mod c a] at e
  generalize x % m = u at *
  generalize a % m = v at *
  generalize c % m = z at *
  by_cases h2 : z + u < m
  · rw [Nat.mod_eq_of_lt h2] at e
    by_cases h3 : z + v < m
    · rw [Nat.mod_eq_of_lt h3] at e; omega
    · rw [Nat.mod_eq_sub_mod (by omega), Nat.mod_eq_of_lt (by omega)] at e; omega
  · rw [Nat.mod_eq_sub_mod (a := z + u) (by omega), Nat.mod_eq_of_lt (a := z + u - m) (by omega)] at e
    by_cases h3 : z + v < m
    · rw [Nat.mod_eq_of_lt h3] at e; omega
    · rw [Nat.mod_eq_sub_mod (by omega), Nat.mod_eq_of_lt (by omega)] at e; omega
theorem conv_one (g : Nat → Nat) (i : Nat) : conv (pl [1]) g i = g i := by
  cases i with
  | zero => rw [conv_cons_zero, Nat.one_mul]
  | succ i => rw [conv_cons_succ, conv_nil, Nat.one_mul, Nat.add_zero]
theorem conv_ln_zero (m a : Nat) (f : Nat → Nat) : conv f (pl (ln m a)) 0 = (m - a % m) % m * f 0 := by rw [conv_comm]; exact conv_cons_zero _ _ _
theorem conv_ln_succ (m a : Nat) (f : Nat → Nat) (i : Nat) : conv f (pl (ln m a)) (i + 1) = (m - a % m) % m * f (i + 1) + f i := by
  rw [conv_comm]
  show conv (pl ((m - a % m) % m :: [1])) f (i + 1) = _
  rw [conv_cons_succ, conv_one]
/-- Quotient and rest by x - a: the values of what is behind each place. -/
theorem syn {m : Nat} (hm : 0 < m) (a : Nat) (xs : List Nat) (l : Nat → Nat) (r : Nat) (hl : ∀ i, l i % m = evl a (xs.drop (i + 1)) % m) (hr : r % m = evl a xs % m) (i : Nat) :
    (conv l (pl (ln m a)) i + pl [r] i) % m = pl xs i % m := by
  cases i with
  | zero =>
    rw [conv_ln_zero, pl_zero]
    have e : evl a xs = pl xs 0 + a * evl a (xs.drop 1) := evl_drop a xs 0
    have h0 := hl 0
    have h1 := neg_mul hm a (l 0)
    generalize (m - a % m) % m = c at *
    rw [e] at hr
    rw [← Nat.add_mod_mod, hr, Nat.add_mod_mod, ← Nat.add_mod_mod, Nat.add_mod (pl xs 0), Nat.mul_mod, ← h0, ← Nat.mul_mod, ← Nat.add_mod, Nat.add_mod_mod,
      show c * l 0 + (pl xs 0 + a * l 0) = (c * l 0 + a * l 0) + pl xs 0 by omega, ← Nat.mod_add_mod, h1, Nat.zero_add]
  | succ i =>
    rw [conv_ln_succ, pl_succ, pl_nil, Nat.add_zero]
    have e := evl_drop a xs (i + 1)
    have h0 := hl (i + 1)
    have h2 := hl i
    have h1 := neg_mul hm a (l (i + 1))
    generalize (m - a % m) % m = c at *
    rw [e] at h2
    rw [← Nat.add_mod_mod, h2, Nat.add_mod (pl xs (i + 1)), Nat.mul_mod, ← h0, ← Nat.mul_mod, ← Nat.add_mod, Nat.add_mod_mod,
      show c * l (i + 1) + (pl xs (i + 1) + a * l (i + 1)) = (c * l (i + 1) + a * l (i + 1)) + pl xs (i + 1) by omega, ← Nat.mod_add_mod, h1, Nat.zero_add]

/-- How long a trimmed row is. -/
theorem Nf.len {m : Nat} {zs : List Nat} (hz : Nf m zs) (k : Nat) (h : pl zs k ≠ 0) (hf : ∀ i, k < i → pl zs i = 0) : zs.length = k + 1 := by
  have h1 : k < zs.length := Nat.lt_of_not_le fun c => h (pl_far zs k c)
  rcases Nat.lt_or_ge (k + 1) zs.length with c | c
  · exact absurd (hf (zs.length - 1) (by omega)) (hz.last (by omega))
  · omega
theorem Nf.short {m : Nat} {zs : List Nat} (hz : Nf m zs) (k : Nat) (hf : ∀ i, k ≤ i → pl zs i = 0) : zs.length ≤ k := by
  rcases Nat.lt_or_ge k zs.length with c | c
  · exact absurd (hf (zs.length - 1) (by omega)) (hz.last (by omega))
  · exact c
/-- A trimmed row of degree n whose last coefficient is 1. -/
structure Mo (m : Nat) (zs : List Nat) (n : Nat) : Prop where
  nf : Nf m zs
  len : zs.length = n + 1
  one : pl zs n = 1
theorem Mo.start {m : Nat} (hm : 1 < m) : Mo m [1] 0 :=
  ⟨⟨fun i => by cases i with
    | zero => exact hm
    | succ i => rw [pl_succ, pl_nil]; omega, fun _ => by simp [pl]⟩, rfl, rfl⟩
/-- One root more. -/
theorem Mo.step {m : Nat} (hm : 1 < m) {zs ys : List Nat} {n : Nat} (h : Mo m zs n) (a : Nat) (hy : Nf m ys) (hc : ∀ i, pl ys i = conv (pl zs) (pl (ln m a)) i % m) : Mo m ys (n + 1) := by
  have h1 : pl ys (n + 1) = 1 := by
    rw [hc, conv_ln_succ, pl_far zs (n + 1) (by rw [h.len]; omega), h.one, Nat.mul_zero, Nat.zero_add, Nat.mod_eq_of_lt hm]
  refine ⟨hy, hy.len (n + 1) (by rw [h1]; omega) fun i hi => ?_, h1⟩
  obtain ⟨j, rfl⟩ : ∃ j, i = j + 1 := ⟨i - 1, by omega⟩
  rw [hc, conv_ln_succ, pl_far zs (j + 1) (by rw [h.len]; omega), pl_far zs j (by rw [h.len]; omega), Nat.mul_zero, Nat.zero_mod]
/-- A product's value. -/
theorem evl_conv {m : Nat} (x : Nat) {xs ys zs : List Nat} (h : ∀ i, pl zs i % m = conv (pl xs) (pl ys) i % m) : evl x zs % m = evl x xs * evl x ys % m := by
  rw [← evl_mull]
  exact evl_mod x _ _ fun i => by rw [pl_mull, h]
theorem evl_sum {m : Nat} (x : Nat) {xs ys zs : List Nat} (h : ∀ i, pl zs i % m = (pl xs i + pl ys i) % m) : evl x zs % m = (evl x xs + evl x ys) % m := by
  rw [← evl_addl]
  exact evl_mod x _ _ fun i => by rw [pl_addl, h]
theorem evl_scaled {m : Nat} (x a : Nat) {xs zs : List Nat} (h : ∀ i, pl zs i % m = a * pl xs i % m) : evl x zs % m = a * evl x xs % m := by
  rw [← evl_map]
  exact evl_mod x _ _ fun i => by rw [pl_map _ _ (Nat.mul_zero a), h]

/-- A sum of which one part alone isn't 0. -/
theorem sg_single (v i : Nat) : ∀ n, sg (fun k => if k = i then v else 0) n = if i < n then v else 0
  | 0 => by rw [if_neg (by omega)]; rfl
  | n + 1 => by
    show sg _ n + (if n = i then v else 0) = _
    rw [sg_single v i n]
    by_cases h : n = i
    · subst h; rw [if_neg (by omega), if_pos rfl, if_pos (by omega), Nat.zero_add]
    · rw [if_neg h, Nat.add_zero]
      by_cases h2 : i < n
      · rw [if_pos h2, if_pos (by omega)]
      · rw [if_neg h2, if_neg (by omega)]
/-- One coefficient more of a quotient. -/
theorem conv_upd (f g : Nat → Nat) (i c j : Nat) (hf : f i = 0) : conv (fun k => if k = i then c else f k) g j = conv f g j + (if i ≤ j then c * g (j - i) else 0) := by
  have e : ∀ k, (if k = i then c else f k) = f k + (if k = i then c else 0) := fun k => by
    by_cases h : k = i
    · subst h; rw [if_pos rfl, if_pos rfl, hf, Nat.zero_add]
    · rw [if_neg h, if_neg h, Nat.add_zero]
  rw [conv_congr e (fun _ => rfl), conv_add]
  congr 1
  show sg (fun k => (if k = i then c else 0) * g (j - k)) (j + 1) = _
  rw [sg_congr (g := fun k => if k = i then c * g (j - i) else 0) (j + 1) fun k _ => by
    by_cases h : k = i
    · subst h; rw [if_pos rfl, if_pos rfl]
    · rw [if_neg h, if_neg h, Nat.zero_mul], sg_single]
  by_cases h : i ≤ j
  · rw [if_pos (by omega), if_pos h]
  · rw [if_neg (by omega), if_neg h]
/-- One point more of an interpolation: what is added is 0 at the points before. -/
theorem through_old {m x c : Nat} {out nd zs : List Nat} (h : ∀ i, pl zs i % m = (pl out i + c * pl nd i) % m) (h0 : evl x nd % m = 0) : evl x zs % m = evl x out % m := by
  have e := evl_sum (m := m) x (xs := out) (ys := nd.map (c * ·)) (zs := zs) fun i => by rw [pl_map _ _ (Nat.mul_zero c), h]
  rw [e, evl_map, Nat.add_mod, Nat.mul_mod, h0, Nat.mul_zero, Nat.zero_mod, Nat.add_zero, Nat.mod_mod]
theorem through_new {m x c y : Nat} {out nd zs : List Nat} (h : ∀ i, pl zs i % m = (pl out i + c * pl nd i) % m) (hc : (evl x out + c * evl x nd) % m = y % m) : evl x zs % m = y % m := by
  have e := evl_sum (m := m) x (xs := out) (ys := nd.map (c * ·)) (zs := zs) fun i => by rw [pl_map _ _ (Nat.mul_zero c), h]
  rw [e, evl_map, hc]
/-- A product isn't 0, if no factor is (m a prime). -/
theorem prod_ne {m : Nat} (hm : Pr m) {a b : Nat} (ha : a % m ≠ 0) (hb : b % m ≠ 0) : a * b % m ≠ 0 := fun h => (hm.mul h).elim ha hb
end Pn
end Go.Proofs.YtnnieiedkjekpaaDoor
