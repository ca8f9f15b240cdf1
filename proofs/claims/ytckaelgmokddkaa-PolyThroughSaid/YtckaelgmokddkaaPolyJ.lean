/- The polynomial through points, plain: the parts of a product of x - a, their values, and what their sum tells at each point. -/
import Derived.Test.YtckaelgmokddkaaPolyG
set_option linter.unusedVariables false
namespace Go.Proofs.Ytckaelgmokddkaa
namespace Pl
open Ww Pn Nt

/-- A derivative as a row. -/
def dl (xs : List Nat) : List Nat := rg (dv (pl xs)) xs.length
theorem pl_dl (xs : List Nat) (i : Nat) : pl (dl xs) i = dv (pl xs) i := by
  unfold dl
  by_cases h : i < xs.length
  · exact pl_rg _ _ _ h
  · rw [pl_far _ _ (by rw [rg_len]; omega)]
    unfold dv
    rw [pl_far xs (i + 1) (by omega), Nat.mul_zero]
/-- A product's derivative's value. -/
theorem evl_dl {m : Nat} (x : Nat) {xs ys zs : List Nat} (h : ∀ i, pl zs i % m = conv (pl xs) (pl ys) i % m) : evl x (dl zs) % m = (evl x (dl xs) * evl x ys + evl x xs * evl x (dl ys)) % m := by
  rw [← evl_mull, ← evl_mull, ← evl_addl]
  refine evl_mod x _ _ fun i => ?_
  rw [pl_dl, dv_mod h, dv_conv, pl_addl, pl_mull, pl_mull, conv_congr (fun i => (pl_dl xs i).symm) (fun _ => rfl), conv_congr (f := pl xs) (fun _ => rfl) (fun i => (pl_dl ys i).symm)]
theorem dl_ln (m a x : Nat) : evl x (dl (ln m a)) = 1 := by
  have e : dl (ln m a) = [1, 0] := rfl
  rw [e]
  simp [evl]
/-- The derivative of the product of x - a. -/
theorem dl_frl (xs : List Nat) (x n : Nat) : evl x (dl (frl xs (n + 1))) % 18446744069414584321 = (evl x (dl (frl xs n)) * evl x (ln 18446744069414584321 (pl xs n)) + evl x (frl xs n)) % 18446744069414584321 := by
  have h := evl_dl (m := 18446744069414584321) x (zs := frl xs (n + 1)) (xs := frl xs n) (ys := ln 18446744069414584321 (pl xs n)) fun i => by rw [pl_frl, Nat.mod_mod]
  rw [h, dl_ln, Nat.mul_one]
theorem frl_nil (xs : List Nat) (x : Nat) : evl x (frl xs 0) % 18446744069414584321 ≠ 0 := by
  show evl x [1] % _ ≠ 0
  simp [evl]
theorem frl_ne (xs : List Nat) (x : Nat) : ∀ n, (∀ r, r < n → pl xs r % 18446744069414584321 ≠ x % 18446744069414584321) → evl x (frl xs n) % 18446744069414584321 ≠ 0
  | 0, _ => frl_nil xs x
  | n + 1, h => by
    rw [frl_at]
    exact prod_ne Nt.prime (frl_ne xs x n (fun r hr => h r (by omega))) fun c => h n (by omega) (ln_ne (by decide) _ _ c).symm
theorem evl_cong {a b : Nat} (h : a % 18446744069414584321 = b % 18446744069414584321) (zs : List Nat) : evl a zs % 18446744069414584321 = evl b zs % 18446744069414584321 := by rw [← evl_at _ a, h, evl_at]
/-- All different: no part's value is 0. -/
theorem dl_ne (xs : List Nat) (i : Nat) : ∀ n, i < n → (∀ r, r < n → r ≠ i → pl xs r % 18446744069414584321 ≠ pl xs i % 18446744069414584321) → evl (pl xs i) (dl (frl xs n)) % 18446744069414584321 ≠ 0
  | 0, h, _ => absurd h (Nat.not_lt_zero i)
  | n + 1, h, hd => by
    rw [dl_frl]
    by_cases e : i = n
    · subst e
      rw [Nat.add_mod, Nat.mul_mod, ln_zero (by decide), Nat.mul_zero, Nat.zero_mod, Nat.zero_add, Nat.mod_mod]
      exact frl_ne xs _ i fun r hr => hd r (by omega) (by omega)
    · rw [Nat.add_mod, frl_root xs n i (by omega), Nat.add_zero, Nat.mod_mod]
      exact prod_ne Nt.prime (dl_ne xs i n (by omega) fun r hr hn => hd r (by omega) hn) fun c => hd n (by omega) (fun h => e h.symm) (ln_ne (by decide) _ _ c).symm
/-- Two are the same: the later one's part's value is 0. -/
theorem dl_zero (xs : List Nat) (i k : Nat) (hik : i < k) (hs : pl xs k % 18446744069414584321 = pl xs i % 18446744069414584321) : ∀ n, k < n → evl (pl xs k) (dl (frl xs n)) % 18446744069414584321 = 0
  | 0, h => absurd h (Nat.not_lt_zero k)
  | n + 1, h => by
    rw [dl_frl]
    by_cases e : k = n
    · subst e
      rw [Nat.add_mod, Nat.mul_mod, ln_zero (by decide), Nat.mul_zero, Nat.zero_mod, Nat.zero_add, Nat.mod_mod, evl_cong hs]
      exact frl_root xs k i hik
    · rw [Nat.add_mod, Nat.mul_mod, dl_zero xs i k hik hs n (by omega), Nat.zero_mul, Nat.zero_mod, Nat.zero_add, Nat.mod_mod]
      exact frl_root xs n k (by omega)

/-- The product of all x - a less the one at i: quotient by it. -/
def pt (xs : List Nat) (i : Nat) : List Nat := rg (fun j => evl (pl xs i) ((frl xs xs.length).drop (j + 1)) % 18446744069414584321) xs.length
theorem pt_len (xs : List Nat) (i : Nat) : (pt xs i).length = xs.length := rg_len _ _
theorem pt_conv (xs : List Nat) (i : Nat) (hi : i < xs.length) (j : Nat) : pl (frl xs xs.length) j % 18446744069414584321 = conv (pl (pt xs i)) (pl (ln 18446744069414584321 (pl xs i))) j % 18446744069414584321 := by
  have h := syn (m := 18446744069414584321) (by decide) (pl xs i) (frl xs xs.length) (pl (pt xs i)) 0 (fun j => by
    unfold pt
    by_cases hj : j < xs.length
    · rw [pl_rg _ _ _ hj, Nat.mod_mod]
    · rw [pl_far _ _ (by rw [rg_len]; omega), List.drop_eq_nil_of_le (by rw [frl_len]; omega)]; rfl) (by rw [frl_root xs _ i hi, Nat.zero_mod]) j
  rw [← h]
  cases j with
  | zero => rw [pl_zero, Nat.add_zero]
  | succ j => rw [pl_succ, pl_nil, Nat.add_zero]
/-- A part's value at its own word. -/
theorem pt_own (xs : List Nat) (i : Nat) (hi : i < xs.length) : evl (pl xs i) (pt xs i) % 18446744069414584321 = evl (pl xs i) (dl (frl xs xs.length)) % 18446744069414584321 := by
  rw [evl_dl (pl xs i) (pt_conv xs i hi), dl_ln, Nat.mul_one, Nat.add_mod, Nat.mul_mod, ln_zero (by decide), Nat.mul_zero, Nat.zero_mod, Nat.zero_add, Nat.mod_mod]
/-- At another word it is 0. -/
theorem pt_other (xs : List Nat) (i k : Nat) (hi : i < xs.length) (hk : k < xs.length) (hne : pl xs k % 18446744069414584321 ≠ pl xs i % 18446744069414584321) : evl (pl xs k) (pt xs i) % 18446744069414584321 = 0 := by
  have h := evl_conv (m := 18446744069414584321) (pl xs k) (pt_conv xs i hi)
  rw [frl_root xs _ k hk] at h
  exact (Nt.prime.mul h.symm).elim id fun c => absurd (ln_ne (by decide) _ _ c) hne
/-- The values of all parts. -/
def ptv (xs : List Nat) (i : Nat) : Nat := evl (pl xs i) (pt xs i) % 18446744069414584321
def Apart (xs : List Nat) : Prop := ∀ i k, i < xs.length → k < i → pl xs i % 18446744069414584321 ≠ pl xs k % 18446744069414584321
theorem Apart.ne {xs : List Nat} (h : Apart xs) {i k : Nat} (hi : i < xs.length) (hk : k < xs.length) (hne : i ≠ k) : pl xs i % 18446744069414584321 ≠ pl xs k % 18446744069414584321 := by
  rcases Nat.lt_or_gt_of_ne hne with c | c
  · exact (h k i hk c).symm
  · exact h i k hi c
theorem ptv_ne {xs : List Nat} (h : Apart xs) (i : Nat) (hi : i < xs.length) : ptv xs i % 18446744069414584321 ≠ 0 := by
  unfold ptv
  rw [Nat.mod_mod, pt_own xs i hi]
  exact dl_ne xs i _ hi fun r hr hne => h.ne hr hi hne
theorem ptv_zero (xs : List Nat) (i k : Nat) (hi : i < xs.length) (hk : k < i) (hs : pl xs i % 18446744069414584321 = pl xs k % 18446744069414584321) : ptv xs i % 18446744069414584321 = 0 := by
  unfold ptv
  rw [Nat.mod_mod, pt_own xs i hi]
  exact dl_zero xs k i hk hs _ hi
/-- The first place of a kind. -/
theorem first_of {p : Nat → Prop} : ∀ n, (∃ k, k < n ∧ p k) → ∃ k, k < n ∧ p k ∧ ∀ j, j < k → ¬ p j
  | 0, ⟨k, h, _⟩ => absurd h (Nat.not_lt_zero k)
  | n + 1, ⟨k, h, hp⟩ => by
    by_cases c : ∃ j, j < n ∧ p j
    · obtain ⟨j, h1, h2⟩ := first_of n c
      exact ⟨j, by omega, h2⟩
    · have hk : k = n := Classical.byContradiction fun e => c ⟨k, by omega, hp⟩
      subst hk
      exact ⟨k, by omega, hp, fun j hj hpj => c ⟨j, hj, hpj⟩⟩

/-- The sum of the first k rows, as a row. -/
def suml (ls : List (List Nat)) : Nat → List Nat
  | 0 => []
  | k + 1 => addl (suml ls k) (ls.getD k [])
theorem pl_suml (ls : List (List Nat)) (i : Nat) : ∀ k, pl (suml ls k) i = sm ls k i
  | 0 => pl_nil i
  | k + 1 => by
    show pl (addl _ _) i = _
    rw [pl_addl, pl_suml ls i k, sm_succ]
theorem evl_suml (x : Nat) (ls : List (List Nat)) : ∀ k, evl x (suml ls k) = sg (fun r => evl x (ls.getD r [])) k
  | 0 => rfl
  | k + 1 => by
    show evl x (addl _ _) = sg _ k + _
    rw [evl_addl, evl_suml x ls k]
/-- A part, scaled. -/
def ps (xs : List Nat) (c : Nat → Nat) (i : Nat) : List Nat := tr 18446744069414584321 ((pt xs i).map (c i * ·))
theorem ps_eq {xs : List Nat} {c : Nat → Nat} {i : Nat} {zs : List Nat} (h : Nf 18446744069414584321 zs) (hc : ∀ j, pl zs j = c i * pl (pt xs i) j % 18446744069414584321) : zs = ps xs c i :=
  (tr_eq (by decide) h fun j => by rw [hc, pl_map _ _ (Nat.mul_zero _)]).symm
theorem ps_len (xs : List Nat) (c : Nat → Nat) (i : Nat) : (ps xs c i).length ≤ xs.length := by
  have h := tr_len_le 18446744069414584321 ((pt xs i).map (c i * ·))
  rw [List.length_map, pt_len] at h
  exact h
theorem ps_at (xs : List Nat) (c : Nat → Nat) (i x : Nat) : evl x (ps xs c i) % 18446744069414584321 = c i * evl x (pt xs i) % 18446744069414584321 := by
  unfold ps
  rw [evl_tr, evl_map]
def psl (xs : List Nat) (c : Nat → Nat) : List (List Nat) := (List.range xs.length).map (ps xs c)
theorem psl_len (xs : List Nat) (c : Nat → Nat) : (psl xs c).length = xs.length := by simp [psl]
theorem psl_at (xs : List Nat) (c : Nat → Nat) (i : Nat) (h : i < xs.length) : (psl xs c).getD i [] = ps xs c i := by simp [psl, List.getD, h]
theorem psl_short (xs : List Nat) (c : Nat → Nat) (k : Nat) : ((psl xs c).getD k []).length ≤ xs.length := by
  by_cases h : k < xs.length
  · rw [psl_at xs c k h]; exact ps_len xs c k
  · have e : (psl xs c).getD k [] = [] := by simp [psl, List.getD, h]
    rw [e]; exact Nat.zero_le _
/-- The sum of the scaled parts goes through all points. -/
theorem through {xs : List Nat} (hA : Apart xs) (y f c : Nat → Nat) (hc : ∀ i, i < xs.length → c i = y i * f i % 18446744069414584321) (hf : ∀ i, i < xs.length → f i * ptv xs i % 18446744069414584321 = 1) {zs : List Nat}
    (hz : ∀ i, pl zs i = sm (psl xs c) xs.length i % 18446744069414584321) (k : Nat) (hk : k < xs.length) : evl (pl xs k) zs % 18446744069414584321 = y k % 18446744069414584321 := by
  rw [evl_mod (pl xs k) zs (suml (psl xs c) xs.length) (fun i => by rw [hz, pl_suml, Nat.mod_mod]), evl_suml]
  have e : ∀ r, r < xs.length → evl (pl xs k) ((psl xs c).getD r []) % 18446744069414584321 = (if r = k then y k else 0) % 18446744069414584321 := fun r hr => by
    rw [psl_at xs c r hr, ps_at]
    by_cases h : r = k
    · subst h
      rw [if_pos rfl, hc r hr, Nat.mod_mul_mod, ← Nat.mul_mod_mod]
      show y r * f r * ptv xs r % _ = _
      rw [Nat.mul_assoc, Nat.mul_mod, hf r hr, Nat.mul_one, Nat.mod_mod]
    · rw [if_neg h, Nat.mul_mod, pt_other xs r k hr hk (hA.ne hk hr (fun e => h e.symm)), Nat.mul_zero, Nat.zero_mod]
  rw [sg_mod (g := fun r => if r = k then y k else 0) xs.length e, sg_single, if_pos hk]
theorem through_len (xs : List Nat) (c : Nat → Nat) {zs : List Nat} (hn : Nf 18446744069414584321 zs) (hz : ∀ i, pl zs i = sm (psl xs c) xs.length i % 18446744069414584321) : zs.length ≤ xs.length :=
  Po.len hn hz xs.length fun i hi => sm_far _ _ _ (Nat.le_trans (mx_le (psl_short xs c) _) hi)
end Pl
end Go.Proofs.Ytckaelgmokddkaa
