/- Transforms by quarters, plain: a crossing is two rounds of butterflies; the powers that a kernel by quarters goes by; rounds by quarters of which a part is made. It names no program. -/
import Derived.Test.YtnnieiedkjekpaaDoorHalfM
import Derived.Test.YtnnieiedkjekpaaDoorBitsI
set_option linter.unusedVariables false
namespace Go.Proofs.YtnnieiedkjekpaaDoor
open Go
namespace Bt
/-- The lowest bits of any int. -/
theorem mask_i64 (z : Int) (k m l : Nat) (hk : k ≤ 62) (hl : l + 1 = 2 ^ k) (hm : m < 2 ^ k) (hz : z % ((2 ^ k : Nat) : Int) = (m : Int)) : bits .and .i64 z (l : Int) = (m : Int) := by
  have hp : 2 ^ k ≤ 2 ^ 62 := Nat.pow_le_pow_right (by decide) hk
  have h2 : (BitVec.ofInt 64 (l : Int)).toNat = l := by
    rw [BitVec.ofInt_natCast, BitVec.toNat_ofNat]; exact Nat.mod_eq_of_lt (by omega)
  have hd : ((2 ^ k : Nat) : Int) ∣ ((2 ^ 64 : Nat) : Int) := Int.natCast_dvd_natCast.2 (Nat.pow_dvd_pow 2 (by omega))
  show IntKind.i64.wrap ((BitVec.ofInt 64 z &&& BitVec.ofInt 64 (l : Int)).toNat : Int) = _
  rw [BitVec.toNat_and, h2, BitVec.toNat_ofInt, show l = 2 ^ k - 1 by omega, Nat.and_two_pow_sub_one_eq_mod]
  have e : (z % ((2 ^ 64 : Nat) : Int)).toNat % 2 ^ k = m := by
    apply Int.ofNat_inj.1
    rw [Int.natCast_emod, Int.toNat_of_nonneg (Int.emod_nonneg _ (by decide)), Int.emod_emod_of_dvd _ hd]
    exact hz
  rw [e]
  exact IntWalk.i64_in _ (by omega)
end Bt
namespace Tn
open Nt Rn Ww

/-- A crossing's four words. -/
def cA (a b c d : Nat) : Nat := ((a + c) % 18446744069414584321 + (b + d) % 18446744069414584321) % 18446744069414584321
def cB (a b c d u : Nat) : Nat := bs ((a + (18446744069414584321 - c % 18446744069414584321)) % 18446744069414584321) ((b + (18446744069414584321 - d % 18446744069414584321)) % 18446744069414584321) u
def cC (a b c d : Nat) : Nat := ((a + c) % 18446744069414584321 + (18446744069414584321 - (b + d) % 18446744069414584321 % 18446744069414584321)) % 18446744069414584321
def cD (a b c d u : Nat) : Nat := bd ((a + (18446744069414584321 - c % 18446744069414584321)) % 18446744069414584321) ((b + (18446744069414584321 - d % 18446744069414584321)) % 18446744069414584321) u
theorem cA_lt (a b c d : Nat) : cA a b c d < 18446744069414584321 := Nat.mod_lt _ (by decide)
theorem cB_lt (a b c d u : Nat) : cB a b c d u < 18446744069414584321 := bs_lt _ _ _
theorem cC_lt (a b c d : Nat) : cC a b c d < 18446744069414584321 := Nat.mod_lt _ (by decide)
theorem cD_lt (a b c d u : Nat) : cD a b c d u < 18446744069414584321 := bd_lt _ _ _
theorem bs_any (a b w : Nat) : bs a b w = (a + w * b) % 18446744069414584321 := by unfold bs; rw [Nat.add_mod_mod]
theorem bd_any (a b w : Nat) : bd a b w = (a + 18446744069414584320 * (w * b)) % 18446744069414584321 := by unfold bd; rw [sub_form, Nat.mod_mod]
theorem bs_mod (a b w : Nat) : bs (a % 18446744069414584321) (b % 18446744069414584321) (w % 18446744069414584321) = (a + w * b) % 18446744069414584321 := by
  rw [bs_any, Nat.mod_add_mod, Nat.add_mod, ← Nat.mul_mod, ← Nat.add_mod]
theorem bd_mod (a b w : Nat) : bd (a % 18446744069414584321) (b % 18446744069414584321) (w % 18446744069414584321) = (a + 18446744069414584320 * (w * b)) % 18446744069414584321 := by
  rw [bd_any, Nat.mod_add_mod, Nat.add_mod, Nat.mul_mod, ← Nat.mul_mod w b, ← Nat.mul_mod, ← Nat.add_mod]
theorem cA_any (a b c d : Nat) : cA a b c d = (a + c + (b + d)) % 18446744069414584321 := by unfold cA; rw [← Nat.add_mod]
theorem cC_any (a b c d : Nat) : cC a b c d = (a + c + 18446744069414584320 * (b + d)) % 18446744069414584321 := by
  unfold cC; rw [← sub_form, Nat.mod_add_mod, Nat.add_mod, Nat.mul_mod_mod, ← Nat.add_mod]
theorem cB_any (a b c d u : Nat) : cB a b c d u = (a + 18446744069414584320 * c + u * (b + 18446744069414584320 * d)) % 18446744069414584321 := by
  unfold cB; rw [← sub_form, ← sub_form, bs_any, Nat.mod_add_mod, Nat.add_mod, Nat.mul_mod_mod, ← Nat.add_mod]
theorem sum2 {a b c d : Nat} (h1 : a % 18446744069414584321 = c % 18446744069414584321) (h2 : b % 18446744069414584321 = d % 18446744069414584321) : (a + b) % 18446744069414584321 = (c + d) % 18446744069414584321 := by
  rw [Nat.add_mod, h1, h2, ← Nat.add_mod]
theorem pro2 {a b c d : Nat} (h1 : a % 18446744069414584321 = c % 18446744069414584321) (h2 : b % 18446744069414584321 = d % 18446744069414584321) : a * b % 18446744069414584321 = c * d % 18446744069414584321 := by
  rw [Nat.mul_mod, h1, h2, ← Nat.mul_mod]
theorem cD_any (a b c d u : Nat) : cD a b c d u = (a + 18446744069414584320 * c + 18446744069414584320 * (u * (b + 18446744069414584320 * d))) % 18446744069414584321 := by
  unfold cD; rw [← sub_form, ← sub_form, bd_any]; exact sum2 (Nat.mod_mod _ _) (pro2 rfl (pro2 rfl (Nat.mod_mod _ _)))
/-- A crossing is two rounds of butterflies. v is the higher root's power, so v * v is the lower one's; u is the root of order 4. -/
theorem cross_bs (a b c d u v2 v1 : Nat) (N : Nat) (hN : N = 18446744069414584320) :
    cA a (b * (v1 % 18446744069414584321) % 18446744069414584321) (c * (v2 % 18446744069414584321) % 18446744069414584321) (d * (v1 * v2 % 18446744069414584321) % 18446744069414584321) = bs (bs a c (v2 % 18446744069414584321)) (bs b d (v2 % 18446744069414584321)) (v1 % 18446744069414584321) ∧
    cB a (b * (v1 % 18446744069414584321) % 18446744069414584321) (c * (v2 % 18446744069414584321) % 18446744069414584321) (d * (v1 * v2 % 18446744069414584321) % 18446744069414584321) u = bs (bd a c (v2 % 18446744069414584321)) (bd b d (v2 % 18446744069414584321)) (u * v1 % 18446744069414584321) ∧
    cC a (b * (v1 % 18446744069414584321) % 18446744069414584321) (c * (v2 % 18446744069414584321) % 18446744069414584321) (d * (v1 * v2 % 18446744069414584321) % 18446744069414584321) = bd (bs a c (v2 % 18446744069414584321)) (bs b d (v2 % 18446744069414584321)) (v1 % 18446744069414584321) ∧
    cD a (b * (v1 % 18446744069414584321) % 18446744069414584321) (c * (v2 % 18446744069414584321) % 18446744069414584321) (d * (v1 * v2 % 18446744069414584321) % 18446744069414584321) u = bd (bd a c (v2 % 18446744069414584321)) (bd b d (v2 % 18446744069414584321)) (u * v1 % 18446744069414584321) := by
  rw [Nat.mul_mod_mod, Nat.mul_mod_mod, Nat.mul_mod_mod]
  have m : ∀ x, x % 18446744069414584321 % 18446744069414584321 = x % 18446744069414584321 := fun x => Nat.mod_mod _ _
  refine ⟨?_, ?_, ?_, ?_⟩
  · rw [cA_any, bs_form a c, bs_form b d, bs_mod]
    refine (sum2 (sum2 rfl (m _)) (sum2 (m _) (m _))).trans (congrArg (· % 18446744069414584321) ?_)
    simp only [Nat.mul_add, Nat.mul_comm, Nat.mul_left_comm, Nat.add_assoc, Nat.add_left_comm]
  · rw [cB_any, bd_form a c, bd_form b d, bs_mod, ← hN]
    refine (sum2 (sum2 rfl (pro2 rfl (m _))) (pro2 rfl (sum2 (m _) (pro2 rfl (m _))))).trans (congrArg (· % 18446744069414584321) ?_)
    simp only [Nat.mul_add, Nat.mul_comm, Nat.mul_left_comm, Nat.add_assoc, Nat.add_left_comm]
  · rw [cC_any, bs_form a c, bs_form b d, bd_mod, ← hN]
    refine (sum2 (sum2 rfl (m _)) (pro2 rfl (sum2 (m _) (m _)))).trans (congrArg (· % 18446744069414584321) ?_)
    simp only [Nat.mul_add, Nat.mul_comm, Nat.mul_left_comm, Nat.add_assoc]
  · rw [cD_any, bd_form a c, bd_form b d, bd_mod, ← hN]
    refine (sum2 (sum2 rfl (pro2 rfl (m _))) (pro2 rfl (pro2 rfl (sum2 (m _) (pro2 rfl (m _)))))).trans (congrArg (· % 18446744069414584321) ?_)
    simp only [Nat.mul_add, Nat.mul_comm, Nat.mul_left_comm, Nat.add_assoc]

/-- The row F, of which the first i words of four quarters at o, of h words each, have become G's. -/
def qo (F G : Nat → Nat) (o h i j : Nat) : Nat :=
  if (o ≤ j ∧ j < o + i) ∨ (o + h ≤ j ∧ j < o + h + i) ∨ (o + 2 * h ≤ j ∧ j < o + 2 * h + i) ∨ (o + 3 * h ≤ j ∧ j < o + 3 * h + i) then G j else F j
theorem qo_zero (F G : Nat → Nat) (o h : Nat) : qo F G o h 0 = F := by
  funext j
  unfold qo
  rw [if_neg (by omega)]
theorem qo_at (F G : Nat → Nat) (o h i : Nat) (hi : i < h) : qo F G o h i (o + i) = F (o + i) ∧ qo F G o h i (o + h + i) = F (o + h + i) ∧ qo F G o h i (o + 2 * h + i) = F (o + 2 * h + i) ∧ qo F G o h i (o + 3 * h + i) = F (o + 3 * h + i) := by
  unfold qo
  refine ⟨?_, ?_, ?_, ?_⟩ <;> rw [if_neg (by omega)]
theorem qo_step (F G : Nat → Nat) (o h i : Nat) (hi : i < h) :
    upd (upd (upd (upd (qo F G o h i) (o + i) (G (o + i))) (o + h + i) (G (o + h + i))) (o + 2 * h + i) (G (o + 2 * h + i))) (o + 3 * h + i) (G (o + 3 * h + i)) = qo F G o h (i + 1) := by
  funext j
  by_cases e4 : j = o + 3 * h + i
  · subst e4; rw [upd_same]; unfold qo; rw [if_pos (by omega)]
  rw [upd_other _ _ _ e4]
  by_cases e3 : j = o + 2 * h + i
  · subst e3; rw [upd_same]; unfold qo; rw [if_pos (by omega)]
  rw [upd_other _ _ _ e3]
  by_cases e2 : j = o + h + i
  · subst e2; rw [upd_same]; unfold qo; rw [if_pos (by omega)]
  rw [upd_other _ _ _ e2]
  by_cases e1 : j = o + i
  · subst e1; rw [upd_same]; unfold qo; rw [if_pos (by omega)]
  rw [upd_other _ _ _ e1]
  unfold qo
  by_cases c : (o ≤ j ∧ j < o + i) ∨ (o + h ≤ j ∧ j < o + h + i) ∨ (o + 2 * h ≤ j ∧ j < o + 2 * h + i) ∨ (o + 3 * h ≤ j ∧ j < o + 3 * h + i)
  · rw [if_pos c, if_pos (by omega)]
  · rw [if_neg c, if_neg (by omega)]
/-- .. of which the first m words are made. -/
def qb (F G : Nat → Nat) (m j : Nat) : Nat := if j < m then G j else F j
theorem qb_zero (F G : Nat → Nat) : qb F G 0 = F := by
  funext j
  unfold qb
  rw [if_neg (by omega)]
theorem qb_step (F G : Nat → Nat) (m h j : Nat) : qo (qb F G m) G m h h j = qb F G (m + 4 * h) j := by
  unfold qo
  by_cases c : (m ≤ j ∧ j < m + h) ∨ (m + h ≤ j ∧ j < m + h + h) ∨ (m + 2 * h ≤ j ∧ j < m + 2 * h + h) ∨ (m + 3 * h ≤ j ∧ j < m + 3 * h + h)
  · rw [if_pos c]; unfold qb; rw [if_pos (by omega)]
  · rw [if_neg c]
    unfold qb
    by_cases c3 : j < m
    · rw [if_pos c3, if_pos (by omega)]
    · rw [if_neg c3, if_neg (by omega)]
theorem qb_all (F G : Nat → Nat) (m j : Nat) (hj : j < m) : qb F G m j = G j := if_pos hj
theorem qb_far (F G : Nat → Nat) (m j : Nat) (hj : m ≤ j) : qb F G m j = F j := if_neg (by omega)

/-- Two rounds of halves at once, of quarters of h words. -/
def qr (F t1 t2 : Nat → Nat) (h : Nat) : Nat → Nat := st (st F t1 h) t2 (2 * h)
theorem qr_at (F t1 t2 : Nat → Nat) (h c o i : Nat) (hi : i < h) (ho : o = c * (4 * h)) :
    qr F t1 t2 h (o + i) = bs (bs (F (o + i)) (F (o + h + i)) (t1 i)) (bs (F (o + 2 * h + i)) (F (o + 3 * h + i)) (t1 i)) (t2 i) ∧
    qr F t1 t2 h (o + h + i) = bs (bd (F (o + i)) (F (o + h + i)) (t1 i)) (bd (F (o + 2 * h + i)) (F (o + 3 * h + i)) (t1 i)) (t2 (h + i)) ∧
    qr F t1 t2 h (o + 2 * h + i) = bd (bs (F (o + i)) (F (o + h + i)) (t1 i)) (bs (F (o + 2 * h + i)) (F (o + 3 * h + i)) (t1 i)) (t2 i) ∧
    qr F t1 t2 h (o + 3 * h + i) = bd (bd (F (o + i)) (F (o + h + i)) (t1 i)) (bd (F (o + 2 * h + i)) (F (o + 3 * h + i)) (t1 i)) (t2 (h + i)) := by
  have m4 : ∀ r, r < 4 * h → (o + r) % (2 * (2 * h)) = r := fun r hr => by
    rw [ho, Nat.add_comm, show 2 * (2 * h) = 4 * h by omega, Nat.add_mul_mod_self_right, Nat.mod_eq_of_lt hr]
  have m2 : ∀ r, r < 2 * h → (o + r) % (2 * h) = r := fun r hr => by
    rw [ho, Nat.add_comm, show c * (4 * h) = (2 * c) * (2 * h) by rw [show 4 * h = 2 * (2 * h) by omega, ← Nat.mul_assoc, Nat.mul_comm c 2], Nat.add_mul_mod_self_right, Nat.mod_eq_of_lt hr]
  have m2' : ∀ r, r < 2 * h → (o + (2 * h + r)) % (2 * h) = r := fun r hr => by
    rw [← Nat.add_assoc, Nat.add_right_comm, Nat.add_mod_right, m2 r hr]
  have s0 : st F t1 h (o + i) = bs (F (o + i)) (F (o + h + i)) (t1 i) := by
    unfold st; rw [m2 i (by omega), if_pos hi, show o + i + h = o + h + i by omega]
  have s1 : st F t1 h (o + h + i) = bd (F (o + i)) (F (o + h + i)) (t1 i) := by
    unfold st; rw [show o + h + i = o + (h + i) by omega, m2 (h + i) (by omega), if_neg (by omega), show o + (h + i) - h = o + i by omega, show h + i - h = i by omega]
  have s2 : st F t1 h (o + 2 * h + i) = bs (F (o + 2 * h + i)) (F (o + 3 * h + i)) (t1 i) := by
    unfold st; rw [show o + 2 * h + i = o + (2 * h + i) by omega, m2' i (by omega), if_pos hi, show o + (2 * h + i) + h = o + 3 * h + i by omega]
  have s3 : st F t1 h (o + 3 * h + i) = bd (F (o + 2 * h + i)) (F (o + 3 * h + i)) (t1 i) := by
    unfold st; rw [show o + 3 * h + i = o + (2 * h + (h + i)) by omega, m2' (h + i) (by omega), if_neg (by omega), show o + (2 * h + (h + i)) - h = o + 2 * h + i by omega, show h + i - h = i by omega]
  unfold qr
  rw [← s0, ← s1, ← s2, ← s3]
  generalize st F t1 h = S at *
  clear s0 s1 s2 s3
  unfold st
  refine ⟨?_, ?_, ?_, ?_⟩
  · rw [m4 i (by omega), if_pos (by omega), show o + i + 2 * h = o + 2 * h + i by omega]
  · rw [show o + h + i = o + (h + i) by omega, m4 (h + i) (by omega), if_pos (by omega), show o + (h + i) + 2 * h = o + 3 * h + i by omega]
  · rw [show o + 2 * h + i = o + (2 * h + i) by omega, m4 (2 * h + i) (by omega), if_neg (by omega), show o + (2 * h + i) - 2 * h = o + i by omega, show 2 * h + i - 2 * h = i by omega]
  · rw [show o + 3 * h + i = o + (3 * h + i) by omega, m4 (3 * h + i) (by omega), if_neg (by omega), show o + (3 * h + i) - 2 * h = o + h + i by omega, show 3 * h + i - 2 * h = h + i by omega]
theorem st_mod {f g : Nat → Nat} (e : ∀ j, f j % 18446744069414584321 = g j % 18446744069414584321) (t : Nat → Nat) (h j : Nat) : st f t h j = st g t h j := by
  unfold st
  rw [bs_any, bs_any, bd_any, bd_any, sum2 (e j) (pro2 rfl (e (j + h))), sum2 (e (j - h)) (pro2 rfl (pro2 rfl (e j)))]
/-- The row that is turned about, or what stands there behind s rounds. -/
def hq (x : Nat → Nat) (k d s : Nat) : Nat → Nat := if s = 0 then fun j => x (tn k 1 j) else hv x k d s
theorem hq_zero (x : Nat → Nat) (k d : Nat) : hq x k d 0 = fun j => x (tn k 1 j) := if_pos rfl
theorem hq_pos (x : Nat → Nat) (k d s : Nat) (h : 0 < s) : hq x k d s = hv x k d s := if_neg (by omega)
theorem hq_mod (x : Nat → Nat) (k d s j : Nat) : hq x k d s j % 18446744069414584321 = hv x k d s j % 18446744069414584321 := by
  by_cases h : s = 0
  · subst h; rw [hq_zero, hv_zero, Nat.mod_mod]
  · rw [hq_pos _ _ _ _ (by omega)]
theorem hq_lt (x : Nat → Nat) (k d s : Nat) (hx : ∀ j, x j < 18446744073709551616) (j : Nat) : hq x k d s j < 18446744073709551616 := by
  by_cases h : s = 0
  · subst h; rw [hq_zero]; exact hx _
  · rw [hq_pos _ _ _ _ (by omega)]; exact Nat.lt_trans (hv_lt _ _ _ _ _) (by decide)
theorem hq_one (x : Nat → Nat) (k d s : Nat) (hs : s < k) (hk : k ≤ 32) (h : Nat) (hh : h = 2 ^ s) : st (hq x k d s) (fun i => rd (s + 1) d ^ i % 18446744069414584321) h = hv x k d (s + 1) := by
  funext j
  rw [hh, st_mod (hq_mod x k d s), hv_step x k d s hs hk j]
/-- Two rounds more. -/
theorem hq_two (x : Nat → Nat) (k d s : Nat) (hs : s + 2 ≤ k) (hk : k ≤ 32) (h : Nat) (hh : h = 2 ^ s) : qr (hq x k d s) (fun i => rd (s + 1) d ^ i % 18446744069414584321) (fun i => rd (s + 2) d ^ i % 18446744069414584321) h = hq x k d (s + 2) := by
  unfold qr
  rw [hq_one x k d s (by omega) hk h hh, hq_pos x k d (s + 2) (by omega)]
  funext j
  rw [show 2 * h = 2 ^ (s + 1) by rw [hh, Nat.pow_succ, Nat.mul_comm]]
  exact hv_step x k d (s + 1) (by omega) hk j
/-- A round of a row of pairs. -/
theorem hq_first (x : Nat → Nat) (k d : Nat) (hs : 0 < k) (hk : k ≤ 32) : st (hq x k d 0) (fun _ => 1) 1 = hq x k d 1 := by
  rw [hq_pos x k d 1 (by decide), ← hq_one x k d 0 hs hk 1 rfl]
  funext j
  unfold st
  have h1 : j % (2 * 1) = 0 ∨ j % (2 * 1) = 1 := by omega
  have t0 : ∀ w : Nat, w ^ 0 % 18446744069414584321 = 1 := fun w => by rw [Nat.pow_zero]
  rcases h1 with h1 | h1
  · rw [h1, if_pos (by decide), if_pos (by decide)]; exact congrArg (bs _ _) (t0 _).symm
  · rw [h1, if_neg (by decide), if_neg (by decide), show 1 - 1 = 0 from rfl]; exact congrArg (bd _ _) (t0 _).symm

/-- The powers of a direction's root out of those of the forward one. -/
theorem pw_dir (k d x m : Nat) (hk : k ≤ 32) (hd : d ≤ 1) (hx : x ≤ 2 ^ k) (hm : (d = 0 ∧ m = x) ∨ (d = 1 ∧ (m + x = 2 ^ k ∨ (x = 0 ∧ m = 0)))) : rt k ^ m % 18446744069414584321 = rd k d ^ x % 18446744069414584321 := by
  rcases hm with ⟨rfl, rfl⟩ | ⟨rfl, hm⟩
  · rw [rd_zero]
  · rw [rd_other k 1 (by decide)]
    rcases hm with hm | ⟨rfl, rfl⟩
    · have h1 := one_pow x (rd_mul k hk)
      have h2 : rt k ^ m * rt k ^ x % 18446744069414584321 = 1 := by rw [← Nat.pow_add, hm, rt_one k hk]
      have e : rt k ^ m * (rt k ^ x * inv (rt k) ^ x) % 18446744069414584321 = rt k ^ m % 18446744069414584321 := mul_one_ h1
      rw [← Nat.mul_assoc, one_mul_ h2] at e
      exact e.symm
    · rw [Nat.pow_zero, Nat.pow_zero]
/-- .. in a round. -/
theorem pw_round (k d s x : Nat) (hs : s + 2 ≤ k) (hk : k ≤ 32) : rd k d ^ (2 ^ (k - s - 2) * x) % 18446744069414584321 = rd (s + 2) d ^ x % 18446744069414584321 := by
  have h := rd_pow d (s + 2) (k - s - 2) (by omega)
  rw [show s + 2 + (k - s - 2) = k by omega] at h
  rw [Nat.pow_mul, ← pmod, h]
/-- The crossings of a round are two rounds of halves. -/
theorem qr_cross (F : Nat → Nat) (s d c o h i : Nat) (hs : s + 2 ≤ 32) (hh : h = 2 ^ s) (hi : i < h) (ho : o = c * (4 * h)) (P1 P2 P3 : Nat) (h1 : P1 = rd (s + 2) d ^ i % 18446744069414584321) (h2 : P2 = rd (s + 2) d ^ (2 * i) % 18446744069414584321) (h3 : P3 = rd (s + 2) d ^ (3 * i) % 18446744069414584321)
    (G : Nat → Nat) (hG : G = qr F (fun i => rd (s + 1) d ^ i % 18446744069414584321) (fun i => rd (s + 2) d ^ i % 18446744069414584321) h) :
    cA (F (o + i)) (F (o + 2 * h + i) * P1 % 18446744069414584321) (F (o + h + i) * P2 % 18446744069414584321) (F (o + 3 * h + i) * P3 % 18446744069414584321) = G (o + i) ∧
    cB (F (o + i)) (F (o + 2 * h + i) * P1 % 18446744069414584321) (F (o + h + i) * P2 % 18446744069414584321) (F (o + 3 * h + i) * P3 % 18446744069414584321) (rd 2 d) = G (o + h + i) ∧
    cC (F (o + i)) (F (o + 2 * h + i) * P1 % 18446744069414584321) (F (o + h + i) * P2 % 18446744069414584321) (F (o + 3 * h + i) * P3 % 18446744069414584321) = G (o + 2 * h + i) ∧
    cD (F (o + i)) (F (o + 2 * h + i) * P1 % 18446744069414584321) (F (o + h + i) * P2 % 18446744069414584321) (F (o + 3 * h + i) * P3 % 18446744069414584321) (rd 2 d) = G (o + 3 * h + i) := by
  obtain ⟨g0, g1, g2, g3⟩ := qr_at F (fun i => rd (s + 1) d ^ i % 18446744069414584321) (fun i => rd (s + 2) d ^ i % 18446744069414584321) h c o i hi ho
  rw [hG, g0, g1, g2, g3]
  clear g0 g1 g2 g3 hG
  have hr : rd (s + 1) d ^ i % 18446744069414584321 = rd (s + 2) d ^ (2 * i) % 18446744069414584321 := by
    rw [Nat.pow_mul, ← pmod (rd (s + 2) d ^ 2), Nat.pow_two, rd_sq (s + 1) d (by omega)]
  have hu : rd (s + 2) d ^ (h + i) % 18446744069414584321 = rd 2 d * rd (s + 2) d ^ i % 18446744069414584321 := by
    have := rd_pow d 2 s (by omega)
    rw [Nat.add_comm 2 s, ← hh] at this
    rw [Nat.pow_add, Nat.mul_mod, this, Nat.mul_mod_mod]
  have h3' : P3 = rd (s + 2) d ^ i * rd (s + 2) d ^ (2 * i) % 18446744069414584321 := by rw [h3, ← Nat.pow_add, show i + 2 * i = 3 * i by omega]
  show _ = bs (bs _ _ (rd (s + 1) d ^ i % 18446744069414584321)) (bs _ _ (rd (s + 1) d ^ i % 18446744069414584321)) (rd (s + 2) d ^ i % 18446744069414584321) ∧ _ = bs (bd _ _ (rd (s + 1) d ^ i % 18446744069414584321)) (bd _ _ (rd (s + 1) d ^ i % 18446744069414584321)) (rd (s + 2) d ^ (h + i) % 18446744069414584321) ∧ _ = bd (bs _ _ (rd (s + 1) d ^ i % 18446744069414584321)) (bs _ _ (rd (s + 1) d ^ i % 18446744069414584321)) (rd (s + 2) d ^ i % 18446744069414584321) ∧ _ = bd (bd _ _ (rd (s + 1) d ^ i % 18446744069414584321)) (bd _ _ (rd (s + 1) d ^ i % 18446744069414584321)) (rd (s + 2) d ^ (h + i) % 18446744069414584321)
  rw [h1, h2, h3', hr, hu]
  exact cross_bs _ _ _ _ _ _ _ _ rfl
end Tn
end Go.Proofs.YtnnieiedkjekpaaDoor
