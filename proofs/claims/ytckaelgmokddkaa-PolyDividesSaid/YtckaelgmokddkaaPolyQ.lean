/- Long division of polynomials, coefficient by coefficient: what is kept, by a prime m. It names no program. -/
import Derived.Test.YtckaelgmokddkaaPolyR
set_option linter.unusedVariables false
namespace Go.Proofs.Ytckaelgmokddkaa
namespace Pn
open Nt

/-- What is left of f less c times the row qs, laid at j. -/
def tk (m : Nat) (f : Nat → Nat) (qs : List Nat) (c j i : Nat) : Nat := if j ≤ i ∧ i < j + qs.length then (f i + (m - pl qs (i - j) * c % m % m)) % m else f i
theorem tk_in (m : Nat) (f : Nat → Nat) (qs : List Nat) (c j i : Nat) (h : i < qs.length) : tk m f qs c j (j + i) = (f (j + i) + (m - pl qs i * c % m % m)) % m := by
  unfold tk
  rw [if_pos (by omega), show j + i - j = i by omega]
theorem tk_low (m : Nat) (f : Nat → Nat) (qs : List Nat) (c j i : Nat) (h : i < j) : tk m f qs c j i = f i := if_neg (by omega)
theorem tk_high (m : Nat) (f : Nat → Nat) (qs : List Nat) (c j i : Nat) (h : j + qs.length ≤ i) : tk m f qs c j i = f i := if_neg (by omega)
theorem tk_lt {m : Nat} (hm : 0 < m) {f : Nat → Nat} (hf : ∀ i, f i < m) (qs : List Nat) (c j i : Nat) : tk m f qs c j i < m := by
  unfold tk
  split
  · exact Nat.mod_lt _ hm
  · exact hf i
theorem back_add {m : Nat} (hm : 0 < m) (a x v : Nat) : (a + v + (x + (m - v % m % m)) % m) % m = (a + x) % m := by
  have h := Nat.mod_lt v hm
  rw [Nat.mod_mod, Nat.add_mod_mod, show a + v + (x + (m - v % m)) = (a + x) + (v + (m - v % m)) by omega, Nat.add_mod (a + x), Nat.add_mod v, ← Nat.add_mod_mod,
    show (v % m + (m - v % m) % m) % m = 0 by rw [Nat.add_mod_mod, show v % m + (m - v % m) = m by omega, Nat.mod_self], Nat.zero_mod, Nat.add_zero, Nat.mod_mod]
theorem take_gone {m : Nat} (hm : 0 < m) (x v : Nat) (hv : v % m = x) : (x + (m - v % m % m)) % m = 0 := by
  have h := Nat.mod_lt v hm
  rw [Nat.mod_mod, hv, show x + (m - x) = m by omega, Nat.mod_self]

/-- X is g times Y and f; g is done from k on. -/
structure DI (m : Nat) (X Y : Nat → Nat) (d N k : Nat) (g f : Nat → Nat) : Prop where
  e : ∀ i, (conv g Y i + f i) % m = X i % m
  fz : ∀ i, k + d ≤ i → f i = 0
  gl : ∀ i, i < k → g i = 0
  gh : ∀ i, N ≤ i → g i = 0
  flt : ∀ i, f i < m
  glt : ∀ i, g i < m
  top : k < N → g (N - 1) ≠ 0
  ft : k = N → 0 < N → f (N - 1 + d) ≠ 0
theorem DI.start {m : Nat} (hm : 0 < m) (xs : List Nat) (Y : Nat → Nat) (d : Nat) : DI m (pl xs) Y d ((tr m xs).length - d) ((tr m xs).length - d) (fun _ => 0) (fun i => pl xs i % m) where
  e i := by rw [show conv (fun _ => 0) Y i = 0 from sg_zero _ fun k _ => Nat.zero_mul _, Nat.zero_add, Nat.mod_mod]
  fz i hi := by rw [← pl_tr, pl_far _ _ (by omega)]
  gl i _ := rfl
  gh i _ := rfl
  flt i := Nat.mod_lt _ hm
  glt i := hm
  top h := absurd h (Nat.lt_irrefl _)
  ft _ h := by
    have := (tr_nf hm xs).last (by omega)
    rw [pl_tr] at this
    rw [show (tr m xs).length - d - 1 + d = (tr m xs).length - 1 by omega]
    exact this
theorem DI.step {m : Nat} (hm : Pr m) (h1 : 1 < m) {X : Nat → Nat} {ys qs : List Nat} {d N k v : Nat} {g f : Nat → Nat} (h : DI m X (pl ys) d N (k + 1) g f) (hk : k < N) (hq : qs.length = d + 1) (hqs : ∀ i, i ≤ d → pl qs i = pl ys i)
    (hy : ∀ i, d < i → pl ys i % m = 0) (hv : v * pl ys d % m = 1) (g' : Nat → Nat) (hg' : ∀ i, g' i = if i = k then f (k + d) * v % m else g i) :
    DI m X (pl ys) d N k g' (tk m f qs (f (k + d) * v % m) k) := by
  have hm0 : 0 < m := by omega
  have hc : f (k + d) * v % m < m := Nat.mod_lt _ hm0
  have hgone : pl ys d * (f (k + d) * v % m) % m = f (k + d) := by
    rw [Nat.mul_mod_mod, Nat.mul_comm, Nat.mul_assoc, Nat.mul_mod, hv, Nat.mul_one, Nat.mod_mod, Nat.mod_eq_of_lt (h.flt _)]
  have hne : k + 1 = N → f (k + d) * v % m ≠ 0 := fun e => by
    have a := h.ft e (by omega)
    rw [show N - 1 + d = k + d by omega] at a
    refine prod_ne hm (by rw [Nat.mod_eq_of_lt (h.flt _)]; exact a) (fun hv0 => ?_)
    rw [Nat.mul_mod, hv0, Nat.zero_mul, Nat.zero_mod] at hv
    omega
  generalize f (k + d) * v % m = c at *
  refine ⟨fun i => ?_, fun i hi => ?_, fun i hi => ?_, fun i hi => ?_, fun i => tk_lt hm0 h.flt qs c k i, fun i => ?_, fun _ => ?_, fun e => absurd e (by omega)⟩
  · rw [conv_congr hg' (fun _ => rfl), conv_upd g (pl ys) k c i (h.gl k (by omega))]
    by_cases h2 : k ≤ i
    · rw [if_pos h2]
      by_cases h3 : i ≤ k + d
      · obtain ⟨j, rfl⟩ : ∃ j, i = k + j := ⟨i - k, by omega⟩
        rw [tk_in m f qs c k j (by omega), hqs j (by omega), show k + j - k = j by omega, Nat.mul_comm c, back_add hm0]
        exact h.e _
      · rw [tk_high m f qs c k i (by omega), Nat.add_assoc, Nat.add_comm (c * _), ← Nat.add_assoc, Nat.add_mod, Nat.mul_mod, hy (i - k) (by omega), Nat.mul_zero, Nat.zero_mod, Nat.add_zero, Nat.mod_mod]
        exact h.e i
    · rw [if_neg h2, tk_low m f qs c k i (by omega), Nat.add_zero]
      exact h.e i
  · by_cases h3 : i = k + d
    · subst h3
      rw [tk_in m f qs c k d (by omega), hqs d (Nat.le_refl _)]
      exact take_gone hm0 _ _ hgone
    · rw [tk_high m f qs c k i (by omega)]
      exact h.fz i (by omega)
  · rw [hg', if_neg (by omega)]; exact h.gl i (by omega)
  · rw [hg', if_neg (by omega)]; exact h.gh i hi
  · rw [hg']
    split
    · exact hc
    · exact h.glt i
  · rw [hg']
    by_cases h3 : N - 1 = k
    · rw [if_pos h3]; exact hne (by omega)
    · rw [if_neg h3]; exact h.top (by omega)
/-- When all is done: quotient and rest. -/
theorem DI.quo {m : Nat} {X Y : Nat → Nat} {d N : Nat} {g f : Nat → Nat} (h : DI m X Y d N 0 g f) {qs : List Nat} (hl : qs.length = N) (hq : ∀ i, i < N → pl qs i = g i) : Nf m qs ∧ ∀ i, pl qs i = g i := by
  have e : ∀ i, pl qs i = g i := fun i => by
    by_cases hi : i < N
    · exact hq i hi
    · rw [pl_far qs i (by omega), h.gh i (by omega)]
  exact ⟨⟨fun i => by rw [e]; exact h.glt i, fun h0 => by rw [e, hl]; exact h.top (by omega)⟩, e⟩
theorem DI.rest {m : Nat} (hm : 0 < m) {X Y : Nat → Nat} {d N : Nat} {g f : Nat → Nat} (h : DI m X Y d N 0 g f) {fs : List Nat} (hf : ∀ i, pl fs i = f i) : (tr m fs).length ≤ d ∧ ∀ i, pl (tr m fs) i = f i := by
  have e : ∀ i, pl (tr m fs) i = f i := fun i => by rw [pl_tr, hf, Nat.mod_eq_of_lt (h.flt i)]
  exact ⟨(tr_nf hm fs).short d fun i hi => by rw [e]; exact h.fz i (by omega), e⟩
end Pn
end Go.Proofs.Ytckaelgmokddkaa
