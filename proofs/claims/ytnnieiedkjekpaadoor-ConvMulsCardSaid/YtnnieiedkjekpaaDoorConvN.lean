/- Convolutions, plain: cyclic, negacyclic, correlations, of any length; their transforms; what they have in common. It names no program. -/
import Derived.Test.YtnnieiedkjekpaaDoorPlain
set_option linter.unusedVariables false
namespace Go.Proofs.YtnnieiedkjekpaaDoor
namespace Cv
open Nt Pn Tn

/-- The cyclic convolution, as a sum of naturals. -/
def cyc (a b : Nat → Nat) (n j : Nat) : Nat := sg (fun i => a i * b ((j + n - i) % n)) n
/-- The negacyclic one (P - 1 stands for -1). -/
def ngc (a b : Nat → Nat) (n j : Nat) : Nat := sg (fun i => if i ≤ j then a i * b (j - i) else 18446744069414584320 * (a i * b (j + n - i))) n
/-- The correlation. -/
def cor (a b : Nat → Nat) (n j : Nat) : Nat := sg (fun m => a ((m + j) % n) * b m) n
/-- A row that is shifted by s, round about. -/
def sft (a : Nat → Nat) (n s j : Nat) : Nat := a ((j + n - s) % n)

theorem sg_shift (f : Nat → Nat) (n : Nat) : ∀ j, j ≤ n → sg (fun m => f ((m + j) % n)) n = sg f n := by
  intro j hj
  have e1 : sg (fun m => f ((m + j) % n)) n = sg (fun m => f ((m + j) % n)) (n - j) + sg (fun m => f ((n - j + m + j) % n)) j := by
    rw [← sg_split]
    congr 1
    omega
  have e2 : sg f n = sg f j + sg (fun m => f (j + m)) (n - j) := by
    rw [← sg_split]
    congr 1
    omega
  rw [e1, e2, Nat.add_comm]
  congr 1
  · exact sg_congr j fun m hm => by rw [show n - j + m + j = m + n by omega, Nat.add_mod_right, Nat.mod_eq_of_lt (by omega)]
  · exact sg_congr (n - j) fun m hm => by rw [Nat.mod_eq_of_lt (by omega), Nat.add_comm]
/-- The same sum, read from j back, round about. -/
theorem sg_back (f : Nat → Nat) (n j : Nat) (hj : j < n) : sg (fun i => f ((j + n - i) % n)) n = sg f n := by
  rw [← sg_shift f n (j + 1) hj, ← sg_rev (fun m => f ((m + (j + 1)) % n)) n]
  exact sg_congr n fun i hi => by
    show f ((j + n - i) % n) = f ((n - 1 - i + (j + 1)) % n)
    rw [show n - 1 - i + (j + 1) = j + n - i by omega]
theorem back_back {n i j : Nat} (hi : i < n) (hj : j < n) : (j + n - (j + n - i) % n) % n = i := by
  by_cases h : i ≤ j
  · rw [show j + n - i = (j - i) + n by omega, Nat.add_mod_right, Nat.mod_eq_of_lt (show j - i < n by omega), show j + n - (j - i) = i + n by omega, Nat.add_mod_right, Nat.mod_eq_of_lt hi]
  · rw [Nat.mod_eq_of_lt (show j + n - i < n by omega), show j + n - (j + n - i) = i by omega, Nat.mod_eq_of_lt hi]
theorem cyc_congr {a a' b b' : Nat → Nat} {n : Nat} (ha : ∀ i, i < n → a i = a' i) (hb : ∀ i, i < n → b i = b' i) (j : Nat) : cyc a b n j = cyc a' b' n j :=
  sg_congr n fun i hi => by rw [ha i hi, hb _ (Nat.mod_lt _ (by omega))]
theorem cyc_mod {a a' b b' : Nat → Nat} {n m : Nat} (ha : ∀ i, i < n → a i % m = a' i % m) (hb : ∀ i, i < n → b i % m = b' i % m) (j : Nat) : cyc a b n j % m = cyc a' b' n j % m :=
  sg_mod n fun i hi => by
    show a i * b ((j + n - i) % n) % m = a' i * b' ((j + n - i) % n) % m
    rw [Nat.mul_mod, ha i hi, hb _ (Nat.mod_lt _ (by omega)), ← Nat.mul_mod]
theorem cyc_comm (a b : Nat → Nat) (n j : Nat) (hj : j < n) : cyc a b n j = cyc b a n j := by
  unfold cyc
  rw [← sg_back (fun i => b i * a ((j + n - i) % n)) n j hj]
  exact sg_congr n fun i hi => by
    show a i * b ((j + n - i) % n) = b ((j + n - i) % n) * a ((j + n - (j + n - i) % n) % n)
    rw [back_back hi hj, Nat.mul_comm]
/-- What the document's sum adds at i: b at j - i, or at j - i + n. -/
theorem cyc_doc (a b : Nat → Nat) (n j : Nat) (hj : j < n) : cyc a b n j = sg (fun i => a i * b (if i ≤ j then j - i else j + n - i)) n :=
  sg_congr n fun i hi => by
    show a i * b ((j + n - i) % n) = a i * b (if i ≤ j then j - i else j + n - i)
    by_cases h : i ≤ j
    · rw [if_pos h, show j + n - i = (j - i) + n by omega, Nat.add_mod_right, Nat.mod_eq_of_lt (by omega)]
    · rw [if_neg h, Nat.mod_eq_of_lt (by omega)]
theorem ngc_comm (a b : Nat → Nat) (n j : Nat) (hj : j < n) : ngc a b n j = ngc b a n j := by
  unfold ngc
  rw [← sg_back (fun i => if i ≤ j then b i * a (j - i) else 18446744069414584320 * (b i * a (j + n - i))) n j hj]
  exact sg_congr n fun i hi => by
    show (if i ≤ j then a i * b (j - i) else 18446744069414584320 * (a i * b (j + n - i))) = (if (j + n - i) % n ≤ j then b ((j + n - i) % n) * a (j - (j + n - i) % n) else 18446744069414584320 * (b ((j + n - i) % n) * a (j + n - (j + n - i) % n)))
    by_cases h : i ≤ j
    · rw [show j + n - i = (j - i) + n by omega, Nat.add_mod_right, Nat.mod_eq_of_lt (show j - i < n by omega), if_pos h, if_pos (by omega), show j - (j - i) = i by omega, Nat.mul_comm]
    · rw [Nat.mod_eq_of_lt (show j + n - i < n by omega), if_neg h, if_neg (by omega), show j + n - (j + n - i) = i by omega, Nat.mul_comm (a i)]
/-- With the row 1, 0, 0, .. -/
theorem cyc_one (a b : Nat → Nat) (n j : Nat) (hj : j < n) (h0 : b 0 = 1) (h : ∀ i, 0 < i → i < n → b i = 0) : cyc a b n j = a j := by
  rw [cyc_comm a b n j hj]
  unfold cyc
  obtain ⟨m, rfl⟩ : ∃ m, n = m + 1 := ⟨n - 1, by omega⟩
  rw [sg_first, h0, Nat.one_mul, sg_zero m fun i hi => by rw [h (i + 1) (by omega) (by omega), Nat.zero_mul], Nat.add_zero, Nat.sub_zero, Nat.add_mod_right, Nat.mod_eq_of_lt hj]
/-- A row that is shifted. -/
theorem cyc_sft (a b : Nat → Nat) (n s j : Nat) (hs : s < n) (hj : j < n) : cyc (sft a n s) b n j = sft (cyc a b n) n s j := by
  unfold sft cyc
  rw [← sg_shift (fun i => a ((i + n - s) % n) * b ((j + n - i) % n)) n s (by omega)]
  exact sg_congr n fun l hl => by
    show a (((l + s) % n + n - s) % n) * b ((j + n - (l + s) % n) % n) = a l * b (((j + n - s) % n + n - l) % n)
    have e1 : ((l + s) % n + n - s) % n = l := by
      by_cases h : l + s < n
      · rw [Nat.mod_eq_of_lt h, show l + s + n - s = l + n by omega, Nat.add_mod_right, Nat.mod_eq_of_lt hl]
      · rw [show l + s = (l + s - n) + n by omega, Nat.add_mod_right, Nat.mod_eq_of_lt (show l + s - n < n by omega), show l + s - n + n - s = l by omega, Nat.mod_eq_of_lt hl]
    have e2 : (j + n - (l + s) % n) % n = ((j + n - s) % n + n - l) % n := by
      by_cases h : l + s < n
      · rw [Nat.mod_eq_of_lt h]
        by_cases h2 : s ≤ j
        · rw [show j + n - s = (j - s) + n by omega, Nat.add_mod_right, Nat.mod_eq_of_lt (show j - s < n by omega), show j + n - (l + s) = j - s + n - l by omega]
        · rw [Nat.mod_eq_of_lt (show j + n - s < n by omega), show j + n - s + n - l = (j + n - (l + s)) + n by omega, Nat.add_mod_right]
      · rw [show l + s = (l + s - n) + n by omega, Nat.add_mod_right, Nat.mod_eq_of_lt (show l + s - n < n by omega)]
        by_cases h2 : s ≤ j
        · rw [show j + n - s = (j - s) + n by omega, Nat.add_mod_right, Nat.mod_eq_of_lt (show j - s < n by omega), show j + n - (l + s - n) = (j - s + n - l) + n by omega, Nat.add_mod_right]
        · rw [Nat.mod_eq_of_lt (show j + n - s < n by omega), show j + n - s + n - l = j + n - (l + s - n) by omega]
    rw [e1, e2]
/-- A correlation is a convolution with the row read back. -/
theorem cor_cyc (a b : Nat → Nat) (n j : Nat) (hj : j < n) : cor a b n j = cyc a (fun m => b ((n - m) % n)) n j := by
  unfold cor cyc
  rw [← sg_shift (fun i => a i * b ((n - (j + n - i) % n) % n)) n j (by omega)]
  exact sg_congr n fun m hm => by
    show a ((m + j) % n) * b m = a ((m + j) % n) * b ((n - (j + n - (m + j) % n) % n) % n)
    have e : (n - (j + n - (m + j) % n) % n) % n = m := by
      by_cases h : m + j < n
      · rw [Nat.mod_eq_of_lt h]
        rcases Nat.eq_zero_or_pos m with h0 | h0
        · subst h0
          rw [show j + n - (0 + j) = n by omega, Nat.mod_self, Nat.sub_zero, Nat.mod_self]
        · rw [show j + n - (m + j) = n - m by omega, Nat.mod_eq_of_lt (show n - m < n by omega), show n - (n - m) = m by omega, Nat.mod_eq_of_lt hm]
      · rw [show m + j = (m + j - n) + n by omega, Nat.add_mod_right, Nat.mod_eq_of_lt (show m + j - n < n by omega), show j + n - (m + j - n) = (n - m) + n by omega, Nat.add_mod_right, Nat.mod_eq_of_lt (show n - m < n by omega), show n - (n - m) = m by omega, Nat.mod_eq_of_lt hm]
    rw [e]
/-- The product of polynomials is a cyclic convolution that is long enough. -/
theorem conv_cyc (xs ys : List Nat) (n j : Nat) (hl : xs.length + ys.length ≤ n + 1) (hj : j < n) : Pn.conv (pl xs) (pl ys) j = cyc (pl xs) (pl ys) n j := by
  rw [cyc_doc _ _ n j hj]
  unfold Pn.conv
  obtain ⟨d, hd⟩ : ∃ d, n = j + 1 + d := ⟨n - (j + 1), by omega⟩
  have e : sg (fun i => pl xs i * pl ys (if i ≤ j then j - i else j + n - i)) n = sg (fun i => pl xs i * pl ys (if i ≤ j then j - i else j + n - i)) (j + 1) + sg (fun m => pl xs (j + 1 + m) * pl ys (if j + 1 + m ≤ j then j - (j + 1 + m) else j + n - (j + 1 + m))) d := by
    rw [← sg_split, ← hd]
  rw [e, sg_zero d fun m hm => ?_, Nat.add_zero]
  · exact sg_congr (j + 1) fun i hi => by rw [if_pos (by omega)]
  · rw [if_neg (by omega)]
    by_cases h : j + 1 + m < xs.length
    · rw [pl_far ys _ (by omega), Nat.mul_zero]
    · rw [pl_far xs _ (by omega), Nat.zero_mul]

theorem tf_shift (x : Nat → Nat) (n w j : Nat) (h0 : 0 < n) (hw : w ^ n % 18446744069414584321 = 1) : ∀ i, i < n → tf (fun m => x ((m + n - i) % n)) n w j = tf x n w j * (w ^ (i * j) % 18446744069414584321) % 18446744069414584321
  | 0, _ => by
    rw [Nat.zero_mul, Nat.pow_zero, Nat.mod_eq_of_lt (show 1 < 18446744069414584321 by decide), Nat.mul_one, Nat.mod_eq_of_lt (tf_lt _ _ _ _)]
    exact tf_congr (fun m hm => by rw [Nat.sub_zero, Nat.add_mod_right, Nat.mod_eq_of_lt hm]) w j
  | i + 1, hi => by
    have e := tf_turned (fun m => x ((m + n - i) % n)) n w j h0 hw
    rw [tf_shift x n w j h0 hw i (by omega)] at e
    have c : ∀ m, m < n → x ((m + n - (i + 1)) % n) = (fun m => x ((m + n - i) % n)) ((m + n - 1) % n) := fun m hm => by
      show x ((m + n - (i + 1)) % n) = x (((m + n - 1) % n + n - i) % n)
      congr 1
      rcases Nat.eq_zero_or_pos m with h | h
      · subst h
        rw [Nat.mod_eq_of_lt (show 0 + n - 1 < n by omega), show 0 + n - 1 + n - i = (0 + n - (i + 1)) + n by omega, Nat.add_mod_right]
      · rw [show m + n - 1 = (m - 1) + n by omega, Nat.add_mod_right, Nat.mod_eq_of_lt (show m - 1 < n by omega), show m - 1 + n - i = m + n - (i + 1) by omega]
    rw [tf_congr c w j, e, Nat.succ_mul, Nat.pow_add]
    generalize w ^ (i * j) = u
    generalize w ^ j = v
    generalize tf x n w j = t
    rw [Nat.mod_mul_mod, Nat.mul_mod_mod, Nat.mul_mod_mod, Nat.mul_assoc, Nat.mul_mod t, Nat.mod_mul_mod u v, ← Nat.mul_mod]
/-- The transform of a convolution is the product of the transforms, word by word. -/
theorem tf_cyc (a b : Nat → Nat) (n w j : Nat) (h0 : 0 < n) (hw : w ^ n % 18446744069414584321 = 1) : tf (cyc a b n) n w j = tf a n w j * tf b n w j % 18446744069414584321 := by
  have e1 : tf (cyc a b n) n w j = sg (fun i => a i * sg (fun m => b ((m + n - i) % n) * w ^ (m * j)) n) n % 18446744069414584321 := by
    unfold tf cyc
    congr 1
    rw [sg_congr n (fun m hm => (show sg (fun i => a i * b ((m + n - i) % n)) n * w ^ (m * j) = sg (fun i => a i * (b ((m + n - i) % n) * w ^ (m * j))) n by
      rw [Nat.mul_comm, ← sg_mul]
      exact sg_congr n fun i hi => by rw [Nat.mul_comm, Nat.mul_assoc]))]
    rw [sg_swap (fun m i => a i * (b ((m + n - i) % n) * w ^ (m * j))) n n]
    exact sg_congr n fun i hi => by rw [sg_mul]
  rw [e1]
  have e2 : ∀ i, i < n → a i * sg (fun m => b ((m + n - i) % n) * w ^ (m * j)) n % 18446744069414584321 = tf b n w j * (a i * w ^ (i * j)) % 18446744069414584321 := fun i hi => by
    have s := tf_shift b n w j h0 hw i hi
    unfold tf at s ⊢
    rw [Nat.mul_mod, s, Nat.mul_mod_mod, Nat.mod_mul_mod]
    generalize sg (fun i => b i * w ^ (i * j)) n % 18446744069414584321 = t
    generalize w ^ (i * j) = u
    rw [Nat.mul_left_comm, Nat.mul_mod t, Nat.mul_mod_mod (a i) u, ← Nat.mul_mod]
  rw [sg_mod n e2, sg_mul, Nat.mul_comm, Nat.mul_mod, Nat.mul_mod (tf a n w j)]
  unfold tf
  simp only [Nat.mod_mod]
/-- P13.1 by transforms. -/
theorem cyc_ft (a b : Nat → Nat) (k : Nat) (hk : k ≤ 32) (j : Nat) (hj : j < 2 ^ k) : ft k 1 (fun m => ft k 0 a m * ft k 0 b m % 18446744069414584321) j = cyc a b (2 ^ k) j % 18446744069414584321 := by
  have e : ∀ m, m < 2 ^ k → (fun m => ft k 0 a m * ft k 0 b m % 18446744069414584321) m = ft k 0 (cyc a b (2 ^ k)) m := fun m _ => by
    show ft k 0 a m * ft k 0 b m % 18446744069414584321 = ft k 0 (cyc a b (2 ^ k)) m
    rw [ft_zero, ft_zero, ft_zero, tf_cyc a b (2 ^ k) (rt k) m (Nat.two_pow_pos k) (rt_one k hk)]
  rw [ft_congr e 1 j]
  exact ft_ft k 0 hk (by decide) (cyc a b (2 ^ k)) j hj
/-- A negacyclic convolution by a cyclic one: the words multiplied by the powers of a root whose n-th power is -1. -/
theorem ngc_cyc (a b : Nat → Nat) (n u j : Nat) (hj : j < n) (hu : u ^ n % 18446744069414584321 = 18446744069414584320) :
    cyc (fun i => a i * u ^ i) (fun i => b i * u ^ i) n j % 18446744069414584321 = u ^ j * ngc a b n j % 18446744069414584321 := by
  rw [cyc_doc _ _ n j hj]
  unfold ngc
  rw [← sg_mul]
  refine Pn.sg_mod n fun i hi => ?_
  show a i * u ^ i * (b (if i ≤ j then j - i else j + n - i) * u ^ (if i ≤ j then j - i else j + n - i)) % 18446744069414584321 = u ^ j * (if i ≤ j then a i * b (j - i) else 18446744069414584320 * (a i * b (j + n - i))) % 18446744069414584321
  by_cases h : i ≤ j
  · rw [if_pos h, if_pos h, Nat.mul_mul_mul_comm, ← Nat.pow_add, show i + (j - i) = j by omega, Nat.mul_comm]
  · rw [if_neg h, if_neg h, Nat.mul_mul_mul_comm, ← Nat.pow_add, show i + (j + n - i) = j + n by omega, Nat.pow_add]
    generalize a i * b (j + n - i) = t
    have e3 : u ^ n * t % 18446744069414584321 = 18446744069414584320 * t % 18446744069414584321 := by rw [← Nat.mod_mul_mod, hu]
    rw [Nat.mul_left_comm, Nat.mul_comm t, Nat.mul_mod, e3, ← Nat.mul_mod]
/-- A triangle of numbers, column by column. -/
theorem sg_tri (F : Nat → Nat → Nat) : ∀ n, sg (fun k => sg (fun j => F k j) (k + 1)) (n + 1) = sg (fun j => sg (fun l => F (j + l) j) (n - j + 1)) (n + 1)
  | 0 => by
    show 0 + (0 + F 0 0) = 0 + (0 + F (0 + 0) 0)
    rfl
  | n + 1 => by
    show sg (fun k => sg (fun j => F k j) (k + 1)) (n + 1) + sg (fun j => F (n + 1) j) (n + 1 + 1) = sg (fun j => sg (fun l => F (j + l) j) (n + 1 - j + 1)) (n + 1) + sg (fun l => F (n + 1 + l) (n + 1)) (n + 1 - (n + 1) + 1)
    rw [sg_tri F n, Nat.sub_self]
    have e : sg (fun j => sg (fun l => F (j + l) j) (n + 1 - j + 1)) (n + 1) = sg (fun j => sg (fun l => F (j + l) j) (n - j + 1) + F (n + 1) j) (n + 1) := sg_congr (n + 1) fun j hj => by
      rw [show n + 1 - j + 1 = (n - j + 1) + 1 by omega]
      show sg (fun l => F (j + l) j) (n - j + 1) + F (j + (n - j + 1)) j = _
      rw [show j + (n - j + 1) = n + 1 by omega]
    rw [e, sg_add]
    show _ + (sg (fun j => F (n + 1) j) (n + 1) + F (n + 1) (n + 1)) = _ + (0 + F (n + 1 + 0) (n + 1))
    rw [Nat.zero_add, Nat.add_assoc]
theorem conv_assoc (f g h : Nat → Nat) (i : Nat) : Pn.conv (Pn.conv f g) h i = Pn.conv f (Pn.conv g h) i := by
  have e1 : Pn.conv (Pn.conv f g) h i = sg (fun k => sg (fun j => f j * g (k - j) * h (i - k)) (k + 1)) (i + 1) := sg_congr (i + 1) fun k hk => by
    show sg (fun j => f j * g (k - j)) (k + 1) * h (i - k) = _
    rw [Nat.mul_comm, ← sg_mul]
    exact sg_congr (k + 1) fun j hj => Nat.mul_comm _ _
  rw [e1, sg_tri (fun k j => f j * g (k - j) * h (i - k)) i]
  exact sg_congr (i + 1) fun j hj => by
    show sg (fun l => f j * g (j + l - j) * h (i - (j + l))) (i - j + 1) = f j * sg (fun l => g l * h (i - j - l)) (i - j + 1)
    rw [← sg_mul]
    exact sg_congr _ fun l hl => by rw [Nat.add_sub_cancel_left, Nat.mul_assoc, Nat.sub_sub]
/-- The polynomial 1. -/
def dl (i : Nat) : Nat := if i = 0 then 1 else 0
theorem conv_dl (f : Nat → Nat) (i : Nat) : Pn.conv dl f i = f i := by
  show sg (fun k => dl k * f (i - k)) (i + 1) = f i
  rw [sg_first, sg_zero i fun k _ => by rw [show dl (k + 1) = 0 from if_neg (by omega), Nat.zero_mul]]
  show dl 0 * f (i - 0) + 0 = f i
  rw [show dl 0 = 1 from if_pos rfl, Nat.one_mul, Nat.sub_zero, Nat.add_zero]
theorem pl_one (i : Nat) : pl [1] i = dl i := by
  rcases i with _ | i
  · rfl
  · rfl
/-- Powers of a polynomial. -/
def pw (f : Nat → Nat) : Nat → Nat → Nat
  | 0 => dl
  | n + 1 => Pn.conv (pw f n) f
theorem pw_one (f : Nat → Nat) (i : Nat) : pw f 1 i = f i := conv_dl f i
theorem pw_add (f : Nat → Nat) (m : Nat) : ∀ n i, Pn.conv (pw f m) (pw f n) i = pw f (m + n) i
  | 0, i => by
    show Pn.conv (pw f m) dl i = pw f m i
    rw [Pn.conv_comm, conv_dl]
  | n + 1, i => by
    show Pn.conv (pw f m) (Pn.conv (pw f n) f) i = Pn.conv (pw f (m + n)) f i
    rw [← conv_assoc]
    exact Pn.conv_congr (fun j => pw_add f m n j) (fun _ => rfl) i
theorem pw_twice (f : Nat → Nat) (n i : Nat) : pw (Pn.conv f f) n i = pw f (n + n) i := by
  induction n generalizing i with
  | zero => rfl
  | succ n ih =>
    show Pn.conv (pw (Pn.conv f f) n) (Pn.conv f f) i = pw f (n + 1 + (n + 1)) i
    rw [show n + 1 + (n + 1) = n + n + 1 + 1 by omega]
    show _ = Pn.conv (Pn.conv (pw f (n + n)) f) f i
    rw [conv_assoc]
    exact Pn.conv_congr ih (fun _ => rfl) i
theorem pw_mod {f g : Nat → Nat} {m : Nat} (h : ∀ i, f i % m = g i % m) : ∀ n i, pw f n i % m = pw g n i % m
  | 0, i => rfl
  | n + 1, i => Pn.conv_mod (fun j => pw_mod h n j) h i
/-- Both halves of a product: the cyclic convolution is their sum, the negacyclic one their difference. -/
theorem conv_far_half (a b : Nat → Nat) (n j : Nat) (hj : j < n) (ha : ∀ i, n ≤ i → a i = 0) (hb : ∀ i, n ≤ i → b i = 0) : Pn.conv a b (j + n) = sg (fun i => if i ≤ j then 0 else a i * b (j + n - i)) n := by
  show sg (fun k => a k * b (j + n - k)) (j + n + 1) = _
  rw [show j + n + 1 = n + (j + 1) by omega, sg_split, sg_zero (j + 1) fun i _ => by rw [ha (n + i) (by omega), Nat.zero_mul], Nat.add_zero]
  exact sg_congr n fun i hi => by
    by_cases h : i ≤ j
    · rw [if_pos h, hb (j + n - i) (by omega), Nat.mul_zero]
    · rw [if_neg h]
theorem conv_near_half (a b : Nat → Nat) (n j : Nat) (hj : j < n) : Pn.conv a b j = sg (fun i => if i ≤ j then a i * b (j - i) else 0) n := by
  obtain ⟨d, hd⟩ : ∃ d, n = j + 1 + d := ⟨n - (j + 1), by omega⟩
  show sg (fun k => a k * b (j - k)) (j + 1) = _
  rw [hd, sg_split (fun i => if i ≤ j then a i * b (j - i) else 0) (j + 1) d, sg_zero (f := fun i => if j + 1 + i ≤ j then a (j + 1 + i) * b (j - (j + 1 + i)) else 0) d fun i _ => if_neg (by omega), Nat.add_zero]
  exact sg_congr (j + 1) fun i hi => (if_pos (by omega)).symm
theorem cyc_conv (a b : Nat → Nat) (n j : Nat) (hj : j < n) (ha : ∀ i, n ≤ i → a i = 0) (hb : ∀ i, n ≤ i → b i = 0) : cyc a b n j = Pn.conv a b j + Pn.conv a b (j + n) := by
  rw [cyc_doc a b n j hj, conv_near_half a b n j hj, conv_far_half a b n j hj ha hb, ← sg_add]
  exact sg_congr n fun i hi => by
    by_cases h : i ≤ j
    · rw [if_pos h, if_pos h, if_pos h, Nat.add_zero]
    · rw [if_neg h, if_neg h, if_neg h, Nat.zero_add]
theorem ngc_conv (a b : Nat → Nat) (n j : Nat) (hj : j < n) (ha : ∀ i, n ≤ i → a i = 0) (hb : ∀ i, n ≤ i → b i = 0) : ngc a b n j = Pn.conv a b j + 18446744069414584320 * Pn.conv a b (j + n) := by
  rw [conv_near_half a b n j hj, conv_far_half a b n j hj ha hb, ← sg_mul, ← sg_add]
  exact sg_congr n fun i hi => by
    show (if i ≤ j then a i * b (j - i) else 18446744069414584320 * (a i * b (j + n - i))) = _
    by_cases h : i ≤ j
    · rw [if_pos h, if_pos h, if_pos h, Nat.mul_zero, Nat.add_zero]
    · rw [if_neg h, if_neg h, if_neg h, Nat.zero_add]
/-- A shift of any whole number, round about, as the document's sum tells it: where the word at i comes to. -/
theorem sft_put (a : Nat → Nat) (n s i : Nat) (hs : s < n) (hi : i < n) : sft a n s ((i + s) % n) = a i := by
  unfold sft
  congr 1
  by_cases h : i + s < n
  · rw [Nat.mod_eq_of_lt h, show i + s + n - s = i + n by omega, Nat.add_mod_right, Nat.mod_eq_of_lt hi]
  · rw [show i + s = (i + s - n) + n by omega, Nat.add_mod_right, Nat.mod_eq_of_lt (show i + s - n < n by omega), show i + s - n + n - s = i by omega, Nat.mod_eq_of_lt hi]
theorem sft_inj {n s i j : Nat} (hs : s < n) (hi : i < n) (hj : j < n) (e : (i + s) % n = (j + s) % n) : i = j := by
  have c : ∀ i, i < n → (i + s) % n = if i + s < n then i + s else i + s - n := fun i hi => by
    by_cases h : i + s < n
    · rw [if_pos h, Nat.mod_eq_of_lt h]
    · rw [if_neg h, show i + s = (i + s - n) + n by omega, Nat.add_mod_right, Nat.mod_eq_of_lt (show i + s - n < n by omega)]
      omega
  rw [c i hi, c j hj] at e
  split at e <;> split at e <;> omega
/-- A power of a root goes round. -/
theorem pow_round (w n e : Nat) (hw : w ^ n % 18446744069414584321 = 1) : w ^ e % 18446744069414584321 = w ^ (e % n) % 18446744069414584321 := by
  have h : w ^ e = (w ^ n) ^ (e / n) * w ^ (e % n) := by rw [← Nat.pow_mul, ← Nat.pow_add, Nat.div_add_mod]
  rw [h]
  exact one_mul_ (by rw [← pmod, hw, pow_one_mod])
/-- The transform of a row that is read back is read back. -/
theorem tf_back (b : Nat → Nat) (n w j : Nat) (h0 : 0 < n) (hw : w ^ n % 18446744069414584321 = 1) (hj : j < n) : tf (fun m => b ((n - m) % n)) n w j = tf b n w ((n - j) % n) := by
  unfold tf
  have e : sg (fun i => b ((n - i) % n) * w ^ (i * j)) n = sg (fun i => b i * w ^ (((n - i) % n) * j)) n := by
    rw [← sg_back (fun i => b i * w ^ (((n - i) % n) * j)) n 0 h0]
    exact sg_congr n fun i hi => by
      have h := back_back hi h0
      rw [Nat.zero_add] at h ⊢
      rw [h]
  rw [e]
  refine Pn.sg_mod n fun i hi => ?_
  have m : (n - i) % n * j % n = i * ((n - j) % n) % n := by
    rw [Nat.mod_mul_mod, Nat.mul_mod_mod, ← Nat.add_mul_mod_self_left ((n - i) * j) n i, ← Nat.add_mul_mod_self_left (i * (n - j)) n j]
    congr 1
    have e1 : (n - i) * j + i * j = n * j := by rw [← Nat.add_mul, Nat.sub_add_cancel (Nat.le_of_lt hi)]
    have e2 : i * (n - j) + i * j = n * i := by rw [← Nat.mul_add, Nat.sub_add_cancel (Nat.le_of_lt hj), Nat.mul_comm]
    omega
  rw [Nat.mul_mod, pow_round w n _ hw, m, ← pow_round w n _ hw, ← Nat.mul_mod]
/-- A correlation by transforms, one of them read back. -/
theorem cor_ft (a b : Nat → Nat) (k : Nat) (hk : k ≤ 32) (j : Nat) (hj : j < 2 ^ k) : ft k 1 (fun m => ft k 0 a m * ft k 0 b ((2 ^ k - m) % 2 ^ k) % 18446744069414584321) j = cor a b (2 ^ k) j % 18446744069414584321 := by
  rw [cor_cyc a b (2 ^ k) j hj, ← cyc_ft a _ k hk j hj]
  refine ft_congr (fun m hm => ?_) 1 j
  show ft k 0 a m * ft k 0 b ((2 ^ k - m) % 2 ^ k) % 18446744069414584321 = ft k 0 a m * ft k 0 (fun m => b ((2 ^ k - m) % 2 ^ k)) m % 18446744069414584321
  rw [ft_zero k (fun m => b ((2 ^ k - m) % 2 ^ k)), tf_back b (2 ^ k) (rt k) m (Nat.two_pow_pos k) (rt_one k hk) hm, ← ft_zero]
/-- A negacyclic convolution by transforms of rows that are turned by a root of twice the order. -/
theorem ngc_ft (a b : Nat → Nat) (k : Nat) (hk : k < 32) (j : Nat) (hj : j < 2 ^ k) :
    ft k 1 (fun m => ft k 0 (fun i => a i * (rd (k + 1) 0 ^ i % 18446744069414584321) % 18446744069414584321) m * ft k 0 (fun i => b i * (rd (k + 1) 0 ^ i % 18446744069414584321) % 18446744069414584321) m % 18446744069414584321) j * (rd (k + 1) 1 ^ j % 18446744069414584321) % 18446744069414584321 = ngc a b (2 ^ k) j % 18446744069414584321 := by
  rw [cyc_ft _ _ k (by omega) j hj]
  have c : cyc (fun i => a i * (rd (k + 1) 0 ^ i % 18446744069414584321) % 18446744069414584321) (fun i => b i * (rd (k + 1) 0 ^ i % 18446744069414584321) % 18446744069414584321) (2 ^ k) j % 18446744069414584321 = cyc (fun i => a i * rd (k + 1) 0 ^ i) (fun i => b i * rd (k + 1) 0 ^ i) (2 ^ k) j % 18446744069414584321 :=
    cyc_mod (fun i _ => by show a i * (rd (k + 1) 0 ^ i % 18446744069414584321) % 18446744069414584321 % 18446744069414584321 = a i * rd (k + 1) 0 ^ i % 18446744069414584321; rw [Nat.mod_mod, Nat.mul_mod_mod]) (fun i _ => by show b i * (rd (k + 1) 0 ^ i % 18446744069414584321) % 18446744069414584321 % 18446744069414584321 = b i * rd (k + 1) 0 ^ i % 18446744069414584321; rw [Nat.mod_mod, Nat.mul_mod_mod]) j
  rw [c, ngc_cyc a b (2 ^ k) _ j hj (rd_half k 0 hk)]
  have o := one_pow j (rd_pair (k + 1) 0 (by omega) (by decide))
  generalize ngc a b (2 ^ k) j = X
  rw [show (1 : Nat) - 0 = 1 from rfl] at o
  generalize rd (k + 1) 0 ^ j = u at *
  generalize rd (k + 1) 1 ^ j = v at *
  rw [Nat.mod_mul_mod, Nat.mul_mod_mod, Nat.mul_right_comm, one_mul_ o]
theorem conv_zero (f g : Nat → Nat) (A B i : Nat) (hf : ∀ i, A < i → f i = 0) (hg : ∀ i, B < i → g i = 0) (h : A + B < i) : Pn.conv f g i = 0 :=
  sg_zero _ fun k hk => by
    by_cases hA : A < k
    · rw [hf k hA, Nat.zero_mul]
    · rw [hg (i - k) (by omega), Nat.mul_zero]
theorem conv_cyc2 (f g : Nat → Nat) (A B n j : Nat) (hf : ∀ i, A < i → f i = 0) (hg : ∀ i, B < i → g i = 0) (h : A + B < n) (hj : j < n) : Pn.conv f g j = cyc f g n j := by
  rw [cyc_conv f g n j hj (fun i hi => hf i (by omega)) (fun i hi => hg i (by omega)), conv_zero f g A B (j + n) hf hg (by omega), Nat.add_zero]
theorem pw_far (f : Nat → Nat) (d : Nat) (hf : ∀ i, d < i → f i = 0) : ∀ n i, n * d < i → pw f n i = 0
  | 0, i, h => if_neg (by omega)
  | n + 1, i, h => conv_zero _ _ (n * d) d i (pw_far f d hf n) hf (by rw [← Nat.succ_mul]; exact h)
/-- The transform of a power is the power of the transform, word by word. -/
theorem tf_pw (f : Nat → Nat) (d N w j : Nat) (hf : ∀ i, d < i → f i = 0) (hN : 0 < N) (hw : w ^ N % 18446744069414584321 = 1) : ∀ n, n * d < N → tf (pw f n) N w j = tf f N w j ^ n % 18446744069414584321
  | 0, _ => by
    obtain ⟨M, rfl⟩ : ∃ M, N = M + 1 := ⟨N - 1, by omega⟩
    show sg (fun i => dl i * w ^ (i * j)) (M + 1) % 18446744069414584321 = 1 % 18446744069414584321
    rw [sg_first, sg_zero M fun i _ => by rw [show dl (i + 1) = 0 from if_neg (by omega), Nat.zero_mul]]
    show (dl 0 * w ^ (0 * j) + 0) % 18446744069414584321 = 1 % 18446744069414584321
    rw [show dl 0 = 1 from if_pos rfl, Nat.zero_mul, Nat.pow_zero]
  | n + 1, h => by
    have h1 : n * d + d < N := by rw [← Nat.succ_mul]; exact h
    have e : ∀ i, i < N → pw f (n + 1) i = cyc (pw f n) f N i := fun i hi => conv_cyc2 (pw f n) f (n * d) d N i (pw_far f d hf n) hf h1 hi
    rw [tf_congr e w j, tf_cyc _ _ N w j hN hw, tf_pw f d N w j hf hN hw n (by omega), Nat.mod_mul_mod, ← Nat.pow_succ]
theorem pw_ft (f : Nat → Nat) (d k n j : Nat) (hf : ∀ i, d < i → f i = 0) (hk : k ≤ 32) (h : n * d < 2 ^ k) (hj : j < 2 ^ k) : ft k 1 (fun m => ft k 0 f m ^ n % 18446744069414584321) j = pw f n j % 18446744069414584321 := by
  rw [ft_congr (y := ft k 0 (pw f n)) (fun m _ => by
    show ft k 0 f m ^ n % 18446744069414584321 = ft k 0 (pw f n) m
    rw [ft_zero, ft_zero, tf_pw f d (2 ^ k) (rt k) m hf (Nat.two_pow_pos k) (rt_one k hk) n h]) 1 j]
  exact ft_ft k 0 hk (by decide) (pw f n) j hj
/-- Products of many polynomials. -/
def prd : List (List Nat) → Nat → Nat
  | [] => dl
  | x :: l => Pn.conv (pl x) (prd l)
theorem prd_append : ∀ (l m : List (List Nat)) (i : Nat), prd (l ++ m) i = Pn.conv (prd l) (prd m) i
  | [], m, i => (conv_dl (prd m) i).symm
  | x :: l, m, i => by
    show Pn.conv (pl x) (prd (l ++ m)) i = Pn.conv (Pn.conv (pl x) (prd l)) (prd m) i
    rw [conv_assoc]
    exact Pn.conv_congr (fun _ => rfl) (prd_append l m) i
theorem prd_one (x : List Nat) (i : Nat) : prd [x] i = pl x i := by
  show Pn.conv (pl x) dl i = pl x i
  rw [Pn.conv_comm, conv_dl]
theorem prd_far : ∀ (l : List (List Nat)) (i : Nat), l.flatten.length < i → prd l i = 0
  | [], i, h => if_neg (by simp at h; omega)
  | x :: l, i, h => by
    rw [List.flatten_cons, List.length_append] at h
    exact conv_zero _ _ x.length l.flatten.length i (fun i hi => pl_far x i (by omega)) (prd_far l) h
end Cv
end Go.Proofs.YtnnieiedkjekpaaDoor
