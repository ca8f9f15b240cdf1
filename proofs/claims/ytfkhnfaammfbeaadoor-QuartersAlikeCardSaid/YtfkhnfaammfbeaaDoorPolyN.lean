/- Polynomials whose coefficients are naturals, looked at by a number m: products, values, derivatives, trimmed rows. It names no program. -/
import Derived.Test.YtfkhnfaammfbeaaDoorPrime
set_option linter.unusedVariables false
namespace Go.Proofs.YtfkhnfaammfbeaaDoor
namespace Pn
open Nt

/- Sums. -/
theorem sg_congr {f g : Nat → Nat} : ∀ n, (∀ i, i < n → f i = g i) → sg f n = sg g n
  | 0, _ => rfl
  | n + 1, h => by show sg f n + f n = sg g n + g n; rw [sg_congr n (fun i hi => h i (by omega)), h n (by omega)]
theorem sg_zero {f : Nat → Nat} : ∀ n, (∀ i, i < n → f i = 0) → sg f n = 0
  | 0, _ => rfl
  | n + 1, h => by show sg f n + f n = 0; rw [sg_zero n (fun i hi => h i (by omega)), h n (by omega)]
theorem sg_add (f g : Nat → Nat) : ∀ n, sg (fun i => f i + g i) n = sg f n + sg g n
  | 0 => rfl
  | n + 1 => by show sg (fun i => f i + g i) n + (f n + g n) = sg f n + f n + (sg g n + g n); rw [sg_add f g n]; omega
theorem sg_mul (a : Nat) (f : Nat → Nat) : ∀ n, sg (fun i => a * f i) n = a * sg f n
  | 0 => rfl
  | n + 1 => by show sg (fun i => a * f i) n + a * f n = a * (sg f n + f n); rw [sg_mul a f n, Nat.mul_add]
theorem sg_first (f : Nat → Nat) : ∀ n, sg f (n + 1) = f 0 + sg (fun i => f (i + 1)) n
  | 0 => by show 0 + f 0 = f 0 + 0; omega
  | n + 1 => by
    have := sg_first f n
    show sg f (n + 1) + f (n + 1) = f 0 + (sg (fun i => f (i + 1)) n + f (n + 1))
    omega
theorem sg_rev (f : Nat → Nat) : ∀ n, sg (fun i => f (n - 1 - i)) n = sg f n
  | 0 => rfl
  | n + 1 => by
    rw [sg_first, show sg f (n + 1) = sg f n + f n from rfl, ← sg_rev f n, Nat.add_comm]
    congr 1
    exact sg_congr n fun i hi => by congr 1; omega
theorem sg_more {f : Nat → Nat} {n : Nat} (h : ∀ i, n ≤ i → f i = 0) : ∀ k, sg f (n + k) = sg f n
  | 0 => rfl
  | k + 1 => by show sg f (n + k) + f (n + k) = sg f n; rw [sg_more h k, h _ (by omega)]; rfl
theorem sg_mod {f g : Nat → Nat} {m : Nat} : ∀ n, (∀ i, i < n → f i % m = g i % m) → sg f n % m = sg g n % m
  | 0, _ => rfl
  | n + 1, h => by show (sg f n + f n) % m = (sg g n + g n) % m; rw [Nat.add_mod, sg_mod n (fun i hi => h i (by omega)), h n (by omega), ← Nat.add_mod]

/-- A row's coefficients. -/
def pl (xs : List Nat) (i : Nat) : Nat := xs.getD i 0
theorem pl_nil (i : Nat) : pl [] i = 0 := by simp [pl]
theorem pl_zero (a : Nat) (xs : List Nat) : pl (a :: xs) 0 = a := by simp [pl]
theorem pl_succ (a : Nat) (xs : List Nat) (i : Nat) : pl (a :: xs) (i + 1) = pl xs i := by simp [pl]
theorem pl_far (xs : List Nat) (i : Nat) (h : xs.length ≤ i) : pl xs i = 0 := by simp [pl, List.getD, List.getElem?_eq_none h]
theorem pl_map (xs : List Nat) (f : Nat → Nat) (h0 : f 0 = 0) (i : Nat) : pl (xs.map f) i = f (pl xs i) := by
  simp only [pl, List.getD, List.getElem?_map]
  cases xs[i]? <;> simp [h0]
theorem pl_take (xs : List Nat) (n i : Nat) (h : i < n) : pl (xs.take n) i = pl xs i := by simp [pl, List.getD, h]
theorem pl_range (f : Nat → Nat) (n i : Nat) (h : i < n) : pl ((List.range n).map f) i = f i := by simp [pl, List.getD, h]

/-- The product's coefficients. -/
def conv (f g : Nat → Nat) (i : Nat) : Nat := sg (fun k => f k * g (i - k)) (i + 1)
theorem conv_comm (f g : Nat → Nat) (i : Nat) : conv f g i = conv g f i := by
  unfold conv
  rw [← sg_rev (fun k => g k * f (i - k)) (i + 1)]
  exact sg_congr _ fun k hk => by
    show f k * g (i - k) = g (i + 1 - 1 - k) * f (i - (i + 1 - 1 - k))
    rw [show i - (i + 1 - 1 - k) = k by omega, show i + 1 - 1 - k = i - k by omega, Nat.mul_comm]
theorem conv_congr {f f' g g' : Nat → Nat} (hf : ∀ i, f i = f' i) (hg : ∀ i, g i = g' i) (i : Nat) : conv f g i = conv f' g' i :=
  sg_congr _ fun k _ => by rw [hf, hg]
theorem conv_mod {f f' g g' : Nat → Nat} {m : Nat} (hf : ∀ i, f i % m = f' i % m) (hg : ∀ i, g i % m = g' i % m) (i : Nat) : conv f g i % m = conv f' g' i % m :=
  sg_mod _ fun k _ => by rw [Nat.mul_mod, hf, hg, ← Nat.mul_mod]
theorem conv_add (f f' g : Nat → Nat) (i : Nat) : conv (fun j => f j + f' j) g i = conv f g i + conv f' g i := by
  unfold conv
  rw [← sg_add]
  exact sg_congr _ fun k _ => Nat.add_mul _ _ _
theorem conv_scale (a : Nat) (f g : Nat → Nat) (i : Nat) : conv (fun j => a * f j) g i = a * conv f g i := by
  unfold conv
  rw [← sg_mul]
  exact sg_congr _ fun k _ => Nat.mul_assoc _ _ _
theorem conv_nil (g : Nat → Nat) (i : Nat) : conv (pl []) g i = 0 := sg_zero _ fun k _ => by rw [pl_nil, Nat.zero_mul]
theorem conv_cons_zero (a : Nat) (xs : List Nat) (g : Nat → Nat) : conv (pl (a :: xs)) g 0 = a * g 0 := by
  show 0 + pl (a :: xs) 0 * g (0 - 0) = a * g 0
  rw [pl_zero, Nat.zero_add]
theorem conv_cons_succ (a : Nat) (xs : List Nat) (g : Nat → Nat) (i : Nat) : conv (pl (a :: xs)) g (i + 1) = a * g (i + 1) + conv (pl xs) g i := by
  unfold conv
  rw [sg_first, pl_zero]
  congr 1
  exact sg_congr _ fun k _ => by rw [pl_succ, show i + 1 - (k + 1) = i - k by omega]
/-- The document's own sum: over all places of the first row, of what the second has at i - k, if it has such a place. -/
theorem conv_long (xs : List Nat) (g : Nat → Nat) (i : Nat) : conv (pl xs) g i = sg (fun k => pl xs k * (if k ≤ i then g (i - k) else 0)) xs.length := by
  have e1 : conv (pl xs) g i = sg (fun k => pl xs k * (if k ≤ i then g (i - k) else 0)) (i + 1) := sg_congr _ fun k hk => by rw [if_pos (by omega)]
  rw [e1]
  have h1 : ∀ k, xs.length ≤ k → pl xs k * (if k ≤ i then g (i - k) else 0) = 0 := fun k hk => by rw [pl_far xs k hk, Nat.zero_mul]
  have h2 : ∀ k, i + 1 ≤ k → pl xs k * (if k ≤ i then g (i - k) else 0) = 0 := fun k hk => by rw [if_neg (by omega), Nat.mul_zero]
  rcases Nat.le_total xs.length (i + 1) with h | h
  · obtain ⟨d, hd⟩ := Nat.le.dest h
    rw [← hd]; exact sg_more h1 d
  · obtain ⟨d, hd⟩ := Nat.le.dest h
    rw [← hd]; exact (sg_more h2 d).symm
theorem conv_far (xs ys : List Nat) (i : Nat) (h : xs.length + ys.length ≤ i + 1) : conv (pl xs) (pl ys) i = 0 :=
  sg_zero _ fun k hk => by
    by_cases h1 : k < xs.length
    · rw [pl_far ys (i - k) (by omega), Nat.mul_zero]
    · rw [pl_far xs k (by omega), Nat.zero_mul]

/-- Sum and product of rows, coefficient by coefficient. -/
def addl : List Nat → List Nat → List Nat
  | [], q => q
  | p, [] => p
  | a :: p, b :: q => (a + b) :: addl p q
theorem pl_addl : ∀ (p q : List Nat) (i : Nat), pl (addl p q) i = pl p i + pl q i
  | [], q, i => by rw [pl_nil, Nat.zero_add]; cases q <;> rfl
  | a :: p, [], i => by rw [pl_nil]; rfl
  | a :: p, b :: q, 0 => by simp [addl, pl]
  | a :: p, b :: q, i + 1 => by
    show pl ((a + b) :: addl p q) (i + 1) = _
    rw [pl_succ, pl_succ, pl_succ, pl_addl p q i]
def mull : List Nat → List Nat → List Nat
  | [], _ => []
  | a :: p, q => addl (q.map (a * ·)) (0 :: mull p q)
theorem pl_mull : ∀ (p q : List Nat) (i : Nat), pl (mull p q) i = conv (pl p) (pl q) i
  | [], q, i => by rw [conv_nil]; exact pl_nil i
  | a :: p, q, 0 => by
    show pl (addl _ _) 0 = _
    rw [pl_addl, pl_map _ _ (Nat.mul_zero a), pl_zero, conv_cons_zero]; rfl
  | a :: p, q, i + 1 => by
    show pl (addl _ _) (i + 1) = _
    rw [pl_addl, pl_map _ _ (Nat.mul_zero a), pl_succ, conv_cons_succ, pl_mull p q i]

/-- A row's value. -/
def evl (x : Nat) : List Nat → Nat
  | [] => 0
  | a :: p => a + x * evl x p
theorem evl_map (x a : Nat) : ∀ q : List Nat, evl x (q.map (a * ·)) = a * evl x q
  | [] => rfl
  | b :: q => by
    show a * b + x * evl x (q.map (a * ·)) = a * (b + x * evl x q)
    rw [evl_map x a q, Nat.mul_add, Nat.mul_left_comm]
theorem evl_addl (x : Nat) : ∀ p q : List Nat, evl x (addl p q) = evl x p + evl x q
  | [], q => by cases q <;> simp [addl, evl]
  | a :: p, [] => rfl
  | a :: p, b :: q => by
    show a + b + x * evl x (addl p q) = a + x * evl x p + (b + x * evl x q)
    rw [evl_addl x p q, Nat.mul_add]; omega
theorem evl_mull (x : Nat) : ∀ p q : List Nat, evl x (mull p q) = evl x p * evl x q
  | [], q => by simp [mull, evl]
  | a :: p, q => by
    show evl x (addl _ _) = (a + x * evl x p) * evl x q
    rw [evl_addl, evl_map]
    show a * evl x q + (0 + x * evl x (mull p q)) = _
    rw [evl_mull x p q, Nat.zero_add, Nat.add_mul, Nat.mul_assoc]
/-- The value is the sum of coefficients times powers. -/
theorem evl_sg (x : Nat) : ∀ (xs : List Nat), evl x xs = sg (fun i => pl xs i * x ^ i) xs.length
  | [] => rfl
  | a :: p => by
    show a + x * evl x p = sg _ (p.length + 1)
    rw [sg_first, pl_zero, Nat.pow_zero, Nat.mul_one, evl_sg x p, ← sg_mul]
    congr 1
    exact sg_congr _ fun i _ => by rw [pl_succ, Nat.pow_succ, Nat.mul_left_comm, Nat.mul_comm x (x ^ i)]
theorem evl_any (x : Nat) (xs : List Nat) (d : Nat) : evl x xs = sg (fun i => pl xs i * x ^ i) (xs.length + d) := by
  rw [sg_more (fun i hi => by rw [pl_far xs i hi, Nat.zero_mul]), evl_sg]
/-- Values hang on the coefficients in the field alone. -/
theorem evl_mod {m : Nat} (x : Nat) (xs ys : List Nat) (h : ∀ i, pl xs i % m = pl ys i % m) : evl x xs % m = evl x ys % m := by
  rw [evl_any x xs ys.length, evl_any x ys xs.length, Nat.add_comm ys.length]
  exact sg_mod _ fun i _ => by rw [Nat.mul_mod, h, ← Nat.mul_mod]
theorem evl_drop (x : Nat) (xs : List Nat) (i : Nat) : evl x (xs.drop i) = pl xs i + x * evl x (xs.drop (i + 1)) := by
  by_cases h : i < xs.length
  · rw [List.drop_eq_getElem_cons h]
    show xs[i] + _ = _
    simp [pl, List.getD, h]
  · rw [List.drop_eq_nil_of_le (by omega), List.drop_eq_nil_of_le (by omega), pl_far xs i (by omega)]
    simp [evl]
/-- A value at a word is one at what it leaves. -/
theorem evl_at (m x : Nat) : ∀ xs : List Nat, evl (x % m) xs % m = evl x xs % m
  | [] => rfl
  | a :: p => by
    show (a + x % m * evl (x % m) p) % m = (a + x * evl x p) % m
    rw [Nat.add_mod, Nat.mul_mod, evl_at m x p, Nat.mod_mod, ← Nat.mul_mod, ← Nat.add_mod]

/-- The derivative's coefficients. -/
def dv (f : Nat → Nat) (i : Nat) : Nat := (i + 1) * f (i + 1)
/-- The rule of products. -/
theorem dv_conv (f g : Nat → Nat) (i : Nat) : dv (conv f g) i = conv (dv f) g i + conv f (dv g) i := by
  have e1 : conv (dv f) g i = sg (fun k => k * (f k * g (i + 1 - k))) (i + 2) := by
    rw [sg_first, Nat.zero_mul, Nat.zero_add]
    exact sg_congr _ fun k hk => by
      show (k + 1) * f (k + 1) * g (i - k) = (k + 1) * (f (k + 1) * g (i + 1 - (k + 1)))
      rw [show i + 1 - (k + 1) = i - k by omega, Nat.mul_assoc]
  have e2 : conv f (dv g) i = sg (fun k => (i + 1 - k) * (f k * g (i + 1 - k))) (i + 2) := by
    show sg _ (i + 1) = sg _ (i + 1) + (i + 1 - (i + 1)) * _
    rw [Nat.sub_self, Nat.zero_mul, Nat.add_zero]
    exact sg_congr _ fun k hk => by
      show f k * ((i - k + 1) * g (i - k + 1)) = _
      rw [show i + 1 - k = i - k + 1 by omega, Nat.mul_left_comm]
  rw [e1, e2, ← sg_add]
  show (i + 1) * sg _ (i + 2) = _
  rw [← sg_mul]
  exact sg_congr _ fun k hk => by rw [← Nat.add_mul, show k + (i + 1 - k) = i + 1 by omega]
theorem dv_mod {f g : Nat → Nat} {m : Nat} (h : ∀ i, f i % m = g i % m) (i : Nat) : dv f i % m = dv g i % m := by
  unfold dv; rw [Nat.mul_mod, h, ← Nat.mul_mod]

/-- Trimmed and canonical. -/
structure Nf (m : Nat) (zs : List Nat) : Prop where
  lt : ∀ i, pl zs i < m
  last : 0 < zs.length → pl zs (zs.length - 1) ≠ 0
theorem Nf.nil {m : Nat} (hm : 0 < m) : Nf m [] := ⟨fun i => by rw [pl_nil]; exact hm, fun h => absurd h (Nat.lt_irrefl 0)⟩
/-- A row is told by its coefficients. -/
theorem Nf.ext {m : Nat} {zs ys : List Nat} (hz : Nf m zs) (hy : Nf m ys) (h : ∀ i, pl zs i = pl ys i) : zs = ys := by
  have hl : zs.length = ys.length := by
    rcases Nat.lt_trichotomy zs.length ys.length with c | c | c
    · exact absurd ((h (ys.length - 1)).symm.trans (pl_far zs _ (by omega))) (hy.last (by omega))
    · exact c
    · exact absurd ((h (zs.length - 1)).trans (pl_far ys _ (by omega))) (hz.last (by omega))
  refine List.ext_getElem hl fun i h1 h2 => ?_
  have := h i
  simpa [pl, List.getD, h1, h2] using this
theorem Nf.ext_mod {m : Nat} {zs ys : List Nat} (hz : Nf m zs) (hy : Nf m ys) (h : ∀ i, pl zs i % m = pl ys i % m) : zs = ys :=
  hz.ext hy fun i => by have := h i; rwa [Nat.mod_eq_of_lt (hz.lt i), Nat.mod_eq_of_lt (hy.lt i)] at this
/-- How many coefficients are left of the first k. -/
def dg (m : Nat) (xs : List Nat) : Nat → Nat
  | 0 => 0
  | k + 1 => if pl xs k % m ≠ 0 then k + 1 else dg m xs k
theorem dg_le (m : Nat) (xs : List Nat) : ∀ k, dg m xs k ≤ k
  | 0 => Nat.le_refl _
  | k + 1 => by unfold dg; split; exact Nat.le_refl _; have := dg_le m xs k; omega
theorem dg_far (m : Nat) (xs : List Nat) : ∀ k j, dg m xs k ≤ j → j < k → pl xs j % m = 0
  | 0, j, _, h => absurd h (Nat.not_lt_zero j)
  | k + 1, j, h, hj => by
    unfold dg at h
    split at h
    · omega
    · rename_i c
      by_cases e : j = k
      · subst e; exact Classical.not_not.1 c
      · exact dg_far m xs k j h (by omega)
theorem dg_last (m : Nat) (xs : List Nat) : ∀ k, 0 < dg m xs k → pl xs (dg m xs k - 1) % m ≠ 0
  | 0, h => absurd h (Nat.lt_irrefl 0)
  | k + 1, h => by
    unfold dg at h ⊢
    split
    · rename_i c; exact c
    · rename_i c; rw [if_neg c] at h; exact dg_last m xs k h
/-- A row trimmed. -/
def tr (m : Nat) (xs : List Nat) : List Nat := (List.range (dg m xs xs.length)).map fun i => pl xs i % m
theorem tr_len (m : Nat) (xs : List Nat) : (tr m xs).length = dg m xs xs.length := by simp [tr]
theorem pl_tr (m : Nat) (xs : List Nat) (i : Nat) : pl (tr m xs) i = pl xs i % m := by
  by_cases h : i < dg m xs xs.length
  · exact pl_range _ _ _ h
  · rw [pl_far _ _ (by rw [tr_len]; omega)]
    by_cases h2 : i < xs.length
    · exact (dg_far m xs _ i (by omega) h2).symm
    · rw [pl_far xs i (by omega), Nat.zero_mod]
theorem tr_nf {m : Nat} (hm : 0 < m) (xs : List Nat) : Nf m (tr m xs) := by
  refine ⟨fun i => by rw [pl_tr]; exact Nat.mod_lt _ hm, fun h => ?_⟩
  rw [tr_len] at h
  rw [pl_tr, tr_len]
  exact dg_last m xs _ h
theorem tr_eq {m : Nat} (hm : 0 < m) {xs zs : List Nat} (hz : Nf m zs) (h : ∀ i, pl zs i = pl xs i % m) : tr m xs = zs :=
  (tr_nf hm xs).ext hz fun i => by rw [pl_tr, h]
theorem tr_congr {m : Nat} (hm : 0 < m) {xs ys : List Nat} (h : ∀ i, pl xs i % m = pl ys i % m) : tr m xs = tr m ys :=
  tr_eq hm (tr_nf hm ys) fun i => by rw [pl_tr, h]
theorem tr_self {m : Nat} (hm : 0 < m) {zs : List Nat} (hz : Nf m zs) : tr m zs = zs := tr_eq hm hz fun i => (Nat.mod_eq_of_lt (hz.lt i)).symm
theorem evl_tr {m : Nat} (x : Nat) (xs : List Nat) : evl x (tr m xs) % m = evl x xs % m := evl_mod x _ _ fun i => by rw [pl_tr, Nat.mod_mod]
theorem tr_len_le (m : Nat) (xs : List Nat) : (tr m xs).length ≤ xs.length := by rw [tr_len]; exact dg_le m xs _
/-- The zero polynomial. -/
theorem tr_nil_iff {m : Nat} (hm : 0 < m) (xs : List Nat) : tr m xs = [] ↔ ∀ i, pl xs i % m = 0 := by
  constructor
  · intro h i; rw [← pl_tr, h, pl_nil]
  · intro h; exact tr_eq hm (Nf.nil hm) fun i => by rw [h, pl_nil]
end Pn
end Go.Proofs.YtfkhnfaammfbeaaDoor
