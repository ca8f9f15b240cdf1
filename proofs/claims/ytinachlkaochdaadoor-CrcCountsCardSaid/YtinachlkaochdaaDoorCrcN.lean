/- Plain mathematics of layer 16: sums of bits over the field of two elements, a step a bit, as functions of natural numbers. It names no program. -/
set_option linter.unusedVariables false
namespace Go.Proofs.YtinachlkaochdaaDoor
namespace Cx

/-- What is put to the number where a 1 went out. -/
def gen : Nat := 2197175160
theorem xor_swap (a b c d : Nat) : (a ^^^ b) ^^^ (c ^^^ d) = (a ^^^ c) ^^^ (b ^^^ d) := by
  rw [Nat.xor_assoc, Nat.xor_assoc, ← Nat.xor_assoc b c d, Nat.xor_comm b c, Nat.xor_assoc c b d]
theorem xor_back (a b : Nat) : (a ^^^ b) ^^^ b = a := by rw [Nat.xor_assoc, Nat.xor_self, Nat.xor_zero]
theorem xor_eq_zero {a b : Nat} (h : a ^^^ b = 0) : a = b := by
  have := congrArg (· ^^^ b) h
  simpa [xor_back] using this
/-- A step, of no bit. -/
def step (v : Nat) : Nat := v / 2 ^^^ (if v % 2 = 1 then gen else 0)
theorem xor_mod_two (a b : Nat) : (a ^^^ b) % 2 = (a % 2 + b % 2) % 2 := by
  have h := @Nat.xor_mod_two_pow a b 1
  simp only [Nat.pow_one] at h
  rw [h]
  rcases Nat.mod_two_eq_zero_or_one a with ea | ea <;> rcases Nat.mod_two_eq_zero_or_one b with eb | eb <;> rw [ea, eb] <;> rfl
theorem step_zero : step 0 = 0 := by decide
theorem step_xor (a b : Nat) : step (a ^^^ b) = step a ^^^ step b := by
  unfold step
  rw [Nat.xor_div_two, xor_mod_two, xor_swap]
  congr 1
  rcases Nat.mod_two_eq_zero_or_one a with ea | ea <;> rcases Nat.mod_two_eq_zero_or_one b with eb | eb <;> rw [ea, eb] <;> simp [Nat.xor_self]
theorem step_even (a : Nat) : step (2 * a) = a := by
  unfold step
  rw [Nat.mul_div_cancel_left a (by omega), if_neg (by omega), Nat.xor_zero]
theorem step_lt {a : Nat} (h : a < 2 ^ 32) : step a < 2 ^ 32 := by
  unfold step
  refine Nat.xor_lt_two_pow (by omega) ?_
  split <;> decide
/-- n steps. -/
def steps : Nat → Nat → Nat
  | 0, v => v
  | n + 1, v => steps n (step v)
theorem steps_zero : ∀ n, steps n 0 = 0
  | 0 => rfl
  | n + 1 => by show steps n (step 0) = 0; rw [step_zero, steps_zero n]
theorem steps_xor : ∀ n a b, steps n (a ^^^ b) = steps n a ^^^ steps n b
  | 0, _, _ => rfl
  | n + 1, a, b => by show steps n (step (a ^^^ b)) = _; rw [step_xor, steps_xor n]; rfl
theorem steps_add : ∀ n m v, steps (n + m) v = steps m (steps n v)
  | 0, m, v => by rw [Nat.zero_add]; rfl
  | n + 1, m, v => by rw [Nat.add_right_comm]; show steps (n + m) (step v) = _; rw [steps_add n m]; rfl
theorem steps_step (n v : Nat) : step (steps n v) = steps n (step v) := by
  have h1 := steps_add n 1 v
  have h2 := steps_add 1 n v
  rw [Nat.add_comm] at h1
  exact h1.symm.trans h2
theorem steps_lt {a : Nat} (h : a < 2 ^ 32) : ∀ n, steps n a < 2 ^ 32
  | 0 => h
  | n + 1 => by
    rw [Nat.add_comm, steps_add 1 n]
    exact steps_lt (step_lt h) n
theorem steps_pow : ∀ n a, steps n (2 ^ n * a) = a
  | 0, a => by show 2 ^ 0 * a = a; simp
  | n + 1, a => by
    show steps n (step (2 ^ (n + 1) * a)) = a
    rw [Nat.pow_succ, Nat.mul_comm (2 ^ n) 2, Nat.mul_assoc, step_even, steps_pow n]
/-- From what lies above, and what lies below. -/
theorem split_xor (n a : Nat) : a = (2 ^ n * (a / 2 ^ n)) ^^^ (a % 2 ^ n) := by
  apply Nat.eq_of_testBit_eq
  intro i
  rw [Nat.testBit_xor, Nat.testBit_two_pow_mul, Nat.testBit_mod_two_pow, Nat.testBit_div_two_pow]
  by_cases h : i < n
  · have : ¬ i ≥ n := by omega
    simp [h, this]
  · have h1 : i ≥ n := by omega
    have h2 : i - n + n = i := by omega
    simp [h, h1, h2]
theorem steps_split (n v : Nat) : steps n v = v / 2 ^ n ^^^ steps n (v % 2 ^ n) := by
  conv => lhs; rw [split_xor n v]
  rw [steps_xor, steps_pow]
/-- A step of a number below 2^32 tells it. -/
theorem step_eq_zero {a : Nat} (h : a < 2 ^ 32) (e : step a = 0) : a = 0 := by
  unfold step at e
  have e1 := xor_eq_zero e
  split at e1
  · unfold gen at e1
    omega
  · omega
theorem steps_eq_zero : ∀ n a, a < 2 ^ 32 → steps n a = 0 → a = 0
  | 0, a, _, e => e
  | n + 1, a, h, e => step_eq_zero h (steps_eq_zero n _ (step_lt h) e)

/-- The bits of N one by one, the lowest first, k of them. -/
def run : Nat → Nat → Nat → Nat
  | 0, v, _ => v
  | k + 1, v, N => run k (step (v ^^^ N % 2)) (N / 2)
theorem run_steps : ∀ k v N, run k v N = steps k (v ^^^ N % 2 ^ k)
  | 0, v, N => by simp [run, steps, Nat.mod_one]
  | k + 1, v, N => by
    show run k (step (v ^^^ N % 2)) (N / 2) = steps k (step (v ^^^ N % 2 ^ (k + 1)))
    rw [run_steps k]
    congr 1
    have e : N % 2 ^ (k + 1) = (2 * (N / 2 % 2 ^ k)) ^^^ (N % 2) := by
      have h := split_xor 1 (N % 2 ^ (k + 1))
      rw [Nat.pow_one, Nat.mod_mod_of_dvd _ (Nat.dvd_of_pow_dvd (Nat.succ_le_succ (Nat.zero_le k)) (Nat.dvd_refl _)), Nat.pow_succ, Nat.mul_comm (2 ^ k) 2, Nat.mod_mul_right_div_self] at h
      rw [Nat.pow_succ, Nat.mul_comm (2 ^ k) 2]
      exact h
    rw [e, Nat.xor_comm (2 * _), ← Nat.xor_assoc, step_xor (v ^^^ N % 2), step_even]
/-- A step of the document's: the bit that goes out is that of both. -/
theorem step_doc (v c : Nat) : step (v ^^^ c % 2) = v / 2 ^^^ (if (v ^^^ c) % 2 = 1 then gen else 0) := by
  unfold step
  rw [Nat.xor_div_two, xor_mod_two, xor_mod_two, Nat.mod_mod]
  have : c % 2 / 2 = 0 := by omega
  rw [this, Nat.xor_zero]
/-- A byte. -/
def byte (v c : Nat) : Nat := steps 8 (v ^^^ c)
theorem byte_run (v c : Nat) (h : c < 256) : run 8 v c = byte v c := by rw [run_steps, Nat.mod_eq_of_lt (by omega)]; rfl
theorem byte_lt {v c : Nat} (h : v < 2 ^ 32) (hc : c < 256) : byte v c < 2 ^ 32 := steps_lt (Nat.xor_lt_two_pow h (by omega)) 8
/-- .. by half bytes. -/
theorem half (v c : Nat) : steps 4 (v ^^^ c) = (v ^^^ c) / 16 ^^^ steps 4 ((v ^^^ c) % 16) := steps_split 4 _
theorem half_low (v c : Nat) : (v ^^^ c) % 16 = v % 16 ^^^ c % 16 := @Nat.xor_mod_two_pow v c 4
theorem half_high (v c : Nat) : (v ^^^ c) / 16 = v / 16 ^^^ c / 16 := @Nat.xor_div_two_pow v c 4
/-- Two half bytes: the sums t of the sixteen half bytes, as a table has them. -/
theorem byte_half (t : Nat → Nat) (ht : ∀ i, i < 16 → t i = steps 4 i) (v c : Nat) (hc : c < 256) :
    byte v c = (((v / 16) ^^^ t ((v ^^^ c) % 16)) / 16) ^^^ t (((v / 16 ^^^ t ((v ^^^ c) % 16)) ^^^ c / 16) % 16) := by
  have e1 : steps 4 (v ^^^ c) = (v / 16 ^^^ t ((v ^^^ c) % 16)) ^^^ c / 16 := by
    rw [half, half_high, ht _ (Nat.mod_lt _ (by omega)), Nat.xor_assoc, Nat.xor_comm (c / 16), ← Nat.xor_assoc]
  unfold byte
  rw [show (8 : Nat) = 4 + 4 from rfl, steps_add 4 4, e1]
  generalize v / 16 ^^^ t ((v ^^^ c) % 16) = u
  have : c / 16 / 16 = 0 := by omega
  rw [half, half_high, this, Nat.xor_zero, ht _ (Nat.mod_lt _ (by omega))]

/-- The bytes one by one. -/
def fold (v : Nat) : List UInt8 → Nat
  | [] => v
  | b :: r => fold (byte v b.toNat) r
theorem fold_append (v : Nat) : ∀ xs ys : List UInt8, fold v (xs ++ ys) = fold (fold v xs) ys
  | [], _ => rfl
  | x :: xs, ys => fold_append _ xs ys
theorem fold_lt {v : Nat} (h : v < 2 ^ 32) : ∀ bs : List UInt8, fold v bs < 2 ^ 32
  | [] => h
  | b :: r => fold_lt (byte_lt h b.toNat_lt) r
/-- The number whose bytes they are, the lowest first. -/
def val : List UInt8 → Nat
  | [] => 0
  | b :: r => b.toNat ^^^ 2 ^ 8 * val r
/-- All at once: the sum is so many steps of one great number. -/
theorem fold_val : ∀ (bs : List UInt8) (v : Nat), fold v bs = steps (8 * bs.length) (v ^^^ val bs)
  | [], v => by simp [fold, val, steps]
  | b :: r, v => by
    show fold (byte v b.toNat) r = steps (8 * (r.length + 1)) (v ^^^ (b.toNat ^^^ 2 ^ 8 * val r))
    rw [fold_val r, show 8 * (r.length + 1) = 8 + 8 * r.length by omega, steps_add, ← Nat.xor_assoc, steps_xor 8, steps_pow]
    rfl
/-- From another beginning: so many steps of what both beginnings have apart. -/
theorem fold_xor (bs : List UInt8) (v w : Nat) : fold (v ^^^ w) bs = fold v bs ^^^ steps (8 * bs.length) w := by
  rw [fold_val, fold_val, ← steps_xor]
  congr 1
  rw [Nat.xor_assoc, Nat.xor_assoc, Nat.xor_comm w]
def all1 : Nat := 4294967295
/-- The sum. -/
def sum (bs : List UInt8) : Nat := fold all1 bs ^^^ all1
theorem sum_lt (bs : List UInt8) : sum bs < 2 ^ 32 := Nat.xor_lt_two_pow (fold_lt (by decide) bs) (by decide)
theorem sum_nil : sum [] = 0 := Nat.xor_self _
/-- More bytes behind those of a sum. -/
theorem sum_more (xs ys : List UInt8) : sum (xs ++ ys) = fold (sum xs ^^^ all1) ys ^^^ all1 := by
  unfold sum
  rw [fold_append, xor_back]
/-- P16.2. -/
theorem sum_join (xs ys : List UInt8) : sum (xs ++ ys) = sum ys ^^^ steps (8 * ys.length) (sum xs) := by
  rw [sum_more, Nat.xor_comm (sum xs), fold_xor]
  unfold sum
  rw [Nat.xor_assoc, Nat.xor_comm (steps _ _), ← Nat.xor_assoc]
/-- Bytes of one length: their sums are alike just where they are so many steps apart of nought. -/
theorem sum_apart {xs ys : List UInt8} (h : xs.length = ys.length) : sum xs ^^^ sum ys = steps (8 * xs.length) (val xs ^^^ val ys) := by
  unfold sum
  rw [xor_swap, Nat.xor_self, Nat.xor_zero, fold_val, fold_val, h, ← steps_xor, xor_swap, Nat.xor_self, Nat.zero_xor]
/-- P16.4: up to 32 bits side by side turn the sum. -/
theorem burst {xs ys : List UInt8} (h : xs.length = ys.length) (at_ w : Nat) (hw : w < 2 ^ 32) (ha : at_ ≤ 8 * xs.length) (e : val xs ^^^ val ys = 2 ^ at_ * w) : sum xs = sum ys ↔ w = 0 := by
  have ha2 := sum_apart h
  rw [e, show 8 * xs.length = at_ + (8 * xs.length - at_) by omega, steps_add, steps_pow] at ha2
  constructor
  · intro hs
    rw [hs, Nat.xor_self] at ha2
    exact steps_eq_zero _ _ hw ha2.symm
  · intro hs
    rw [hs, steps_zero] at ha2
    exact xor_eq_zero ha2

/-- One byte is turned. -/
theorem val_set : ∀ (bs : List UInt8) (i : Nat) (x : UInt8), i < bs.length → val (bs.set i (bs.getD i 0 ^^^ x)) = val bs ^^^ 2 ^ (8 * i) * x.toNat
  | [], i, x, h => absurd h (by simp)
  | b :: r, 0, x, _ => by
    show (b ^^^ x).toNat ^^^ 2 ^ 8 * val r = (b.toNat ^^^ 2 ^ 8 * val r) ^^^ 2 ^ (8 * 0) * x.toNat
    rw [UInt8.toNat_xor, Nat.mul_zero, Nat.pow_zero, Nat.one_mul, Nat.xor_assoc, Nat.xor_comm x.toNat, ← Nat.xor_assoc]
  | b :: r, i + 1, x, h => by
    have e := val_set r i x (by simpa using h)
    show b.toNat ^^^ 2 ^ 8 * val (r.set i (r.getD i 0 ^^^ x)) = (b.toNat ^^^ 2 ^ 8 * val r) ^^^ 2 ^ (8 * (i + 1)) * x.toNat
    have m : ∀ a b n : Nat, 2 ^ n * (a ^^^ b) = 2 ^ n * a ^^^ 2 ^ n * b := fun a b n => by
      rw [Nat.mul_comm, Nat.mul_comm _ a, Nat.mul_comm _ b, ← Nat.shiftLeft_eq, ← Nat.shiftLeft_eq, ← Nat.shiftLeft_eq, Nat.shiftLeft_xor_distrib]
    rw [e, m, ← Nat.xor_assoc, show 8 * (i + 1) = 8 + 8 * i by omega, Nat.pow_add, Nat.mul_assoc]
theorem mul_xor (n a b : Nat) : 2 ^ n * (a ^^^ b) = 2 ^ n * a ^^^ 2 ^ n * b := by
  rw [Nat.mul_comm, Nat.mul_comm _ a, Nat.mul_comm _ b, ← Nat.shiftLeft_eq, ← Nat.shiftLeft_eq, ← Nat.shiftLeft_eq, Nat.shiftLeft_xor_distrib]
/-- One bit more of a number. -/
theorem mod_more (w k : Nat) : w % 2 ^ (k + 1) = w % 2 ^ k ^^^ (if w / 2 ^ k % 2 = 1 then 2 ^ k else 0) := by
  have h := split_xor k (w % 2 ^ (k + 1))
  rw [Nat.mod_mod_of_dvd _ (Nat.pow_dvd_pow 2 (by omega)), Nat.pow_succ, Nat.mod_mul_right_div_self] at h
  rw [Nat.pow_succ]
  rw [h, Nat.xor_comm]
  congr 1
  rcases Nat.mod_two_eq_zero_or_one (w / 2 ^ k) with e | e <;> rw [e] <;> simp

/-- Functions that keep sums of bits are alike where they are alike at single bits. -/
theorem lin_ext {L M : Nat → Nat} (hL : ∀ a b, L (a ^^^ b) = L a ^^^ L b) (hM : ∀ a b, M (a ^^^ b) = M a ^^^ M b) : ∀ n, (∀ j, j < n → L (2 ^ j) = M (2 ^ j)) → ∀ a, a < 2 ^ n → L a = M a
  | 0, _, a, ha => by
    have z : ∀ {F : Nat → Nat}, (∀ a b, F (a ^^^ b) = F a ^^^ F b) → F 0 = 0 := fun h => by
      have := h 0 0
      rw [Nat.xor_self, Nat.xor_self] at this
      exact this
    obtain rfl : a = 0 := by simpa using ha
    rw [z hL, z hM]
  | n + 1, h, a, ha => by
    have z : ∀ {F : Nat → Nat}, (∀ a b, F (a ^^^ b) = F a ^^^ F b) → F 0 = 0 := fun h => by
      have := h 0 0
      rw [Nat.xor_self, Nat.xor_self] at this
      exact this
    have e := mod_more a n
    rw [Nat.mod_eq_of_lt ha] at e
    rw [e, hL, hM, lin_ext hL hM n (fun j hj => h j (by omega)) _ (Nat.mod_lt _ (Nat.two_pow_pos n))]
    congr 1
    split
    · exact h n (by omega)
    · rw [z hL, z hM]
/-- What a function's columns make: the sum of those at the bits of v. -/
def app (f : Nat → Nat) : Nat → Nat → Nat
  | 0, _ => 0
  | k + 1, v => app f k v ^^^ (if v / 2 ^ k % 2 = 1 then f k else 0)
theorem bit_xor (a b k : Nat) : (a ^^^ b) / 2 ^ k % 2 = (a / 2 ^ k % 2 + b / 2 ^ k % 2) % 2 := by rw [Nat.xor_div_two_pow, xor_mod_two]
theorem pick_xor (a b k x : Nat) : (if (a ^^^ b) / 2 ^ k % 2 = 1 then x else 0) = (if a / 2 ^ k % 2 = 1 then x else 0) ^^^ (if b / 2 ^ k % 2 = 1 then x else 0) := by
  rw [bit_xor]
  rcases Nat.mod_two_eq_zero_or_one (a / 2 ^ k) with ea | ea <;> rcases Nat.mod_two_eq_zero_or_one (b / 2 ^ k) with eb | eb <;> rw [ea, eb] <;> simp [Nat.xor_self]
theorem app_xor (f : Nat → Nat) : ∀ n a b, app f n (a ^^^ b) = app f n a ^^^ app f n b
  | 0, _, _ => by simp [app]
  | n + 1, a, b => by
    show app f n (a ^^^ b) ^^^ _ = (app f n a ^^^ _) ^^^ (app f n b ^^^ _)
    rw [app_xor f n, pick_xor, xor_swap]
theorem app_bit (f : Nat → Nat) (j : Nat) : ∀ n, app f n (2 ^ j) = if j < n then f j else 0
  | 0 => by simp [app]
  | n + 1 => by
    show app f n (2 ^ j) ^^^ _ = _
    rw [app_bit f j n]
    by_cases h : j = n
    · subst h
      simp [Nat.div_self (Nat.two_pow_pos j)]
    · have e : ¬ 2 ^ j / 2 ^ n % 2 = 1 := by
        rcases Nat.lt_or_gt_of_ne h with h1 | h1
        · rw [Nat.div_eq_of_lt (Nat.pow_lt_pow_right (by omega) h1)]
          omega
        · rw [Nat.pow_div (by omega) (by omega), show j - n = (j - n - 1) + 1 by omega, Nat.pow_succ]
          omega
      rw [if_neg e, Nat.xor_zero]
      by_cases h2 : j < n
      · rw [if_pos h2, if_pos (by omega)]
      · rw [if_neg h2, if_neg (by omega)]
/-- A function that keeps sums is what its columns make. -/
theorem app_lin {L : Nat → Nat} (hL : ∀ a b, L (a ^^^ b) = L a ^^^ L b) (f : Nat → Nat) (n : Nat) (hf : ∀ j, j < n → f j = L (2 ^ j)) (v : Nat) (hv : v < 2 ^ n) : app f n v = L v :=
  lin_ext (app_xor f n) hL n (fun j hj => by rw [app_bit, if_pos hj]; exact hf j hj) v hv

/-- A product: the sum of so many steps of b, at the bits of a from the highest on. -/
def mul (a b : Nat) : Nat := app (fun j => steps (31 - j) b) 32 a
theorem mul_xor_left (a a' b : Nat) : mul (a ^^^ a') b = mul a b ^^^ mul a' b := app_xor _ _ _ _
theorem app_add (f g : Nat → Nat) : ∀ n v, app (fun j => f j ^^^ g j) n v = app f n v ^^^ app g n v
  | 0, _ => by simp [app]
  | n + 1, v => by
    show app _ n v ^^^ _ = (app f n v ^^^ _) ^^^ (app g n v ^^^ _)
    rw [app_add f g n, xor_swap]
    congr 1
    split
    · rfl
    · rfl
theorem mul_xor_right (a b b' : Nat) : mul a (b ^^^ b') = mul a b ^^^ mul a b' := by
  unfold mul
  rw [← app_add]
  congr 1
  funext j
  exact steps_xor _ _ _
theorem mul_bit (j b : Nat) (hj : j < 32) : mul (2 ^ j) b = steps (31 - j) b := by
  unfold mul
  rw [app_bit, if_pos hj]
/-- 2 ^ 31 is the one of products. -/
theorem one_mul (b : Nat) : mul 2147483648 b = b := mul_bit 31 b (by decide)
theorem step_bit (j : Nat) : step (2 ^ (j + 1)) = 2 ^ j := by rw [Nat.pow_succ, Nat.mul_comm]; exact step_even _
theorem steps_one : ∀ i, i ≤ 31 → steps i 2147483648 = 2 ^ (31 - i)
  | 0, _ => by decide
  | i + 1, h => by
    rw [steps_add i 1, steps_one i (by omega)]
    show step (2 ^ (31 - i)) = _
    rw [show 31 - i = (31 - (i + 1)) + 1 by omega]
    exact step_bit _
theorem mul_one (a : Nat) (ha : a < 2 ^ 32) : mul a 2147483648 = a :=
  lin_ext (L := fun a => mul a 2147483648) (M := fun a => a) (fun a b => mul_xor_left a b _) (fun _ _ => rfl) 32 (fun j hj => by
    show mul (2 ^ j) _ = _
    rw [mul_bit j _ hj, steps_one (31 - j) (by omega)]
    congr 1
    omega) a ha
theorem app_step (f : Nat → Nat) (n v : Nat) : step (app f n v) = app (fun j => step (f j)) n v := by
  induction n with
  | zero => exact step_zero
  | succ n ih =>
    show step (app f n v ^^^ _) = app _ n v ^^^ _
    rw [step_xor, ih]
    congr 1
    split
    · rfl
    · exact step_zero
theorem mul_step_right (a b : Nat) : mul a (step b) = step (mul a b) := by
  unfold mul
  rw [app_step]
  congr 1
  funext j
  exact (steps_step _ _).symm
theorem mul_steps_right (a b : Nat) : ∀ n, mul a (steps n b) = steps n (mul a b)
  | 0 => rfl
  | n + 1 => by
    rw [steps_add n 1, steps_add n 1]
    show mul a (step (steps n b)) = step (steps n (mul a b))
    rw [mul_step_right, mul_steps_right a b n]
/-- gen is what 32 steps make of the one. -/
theorem mul_gen (b : Nat) (hb : b < 2 ^ 32) : mul gen b = steps 32 b :=
  lin_ext (L := mul gen) (M := steps 32) (fun a b => mul_xor_right gen a b) (steps_xor 32) 32 (fun j hj => by
    have e : 2 ^ j = steps (31 - j) 2147483648 := by
      rw [steps_one (31 - j) (by omega)]
      congr 1
      omega
    rw [e, mul_steps_right, mul_one gen (by decide), ← steps_add, Nat.add_comm, steps_add 32]
    congr 1) b hb
theorem mul_step_left (a b : Nat) (ha : a < 2 ^ 32) (hb : b < 2 ^ 32) : mul (step a) b = step (mul a b) :=
  lin_ext (L := fun a => mul (step a) b) (M := fun a => step (mul a b)) (fun x y => by show mul (step (x ^^^ y)) b = _; rw [step_xor, mul_xor_left]) (fun x y => by show step (mul (x ^^^ y) b) = _; rw [mul_xor_left, step_xor]) 32 (fun j hj => by
    show mul (step (2 ^ j)) b = step (mul (2 ^ j) b)
    rw [mul_bit j b hj]
    cases j with
    | zero =>
      rw [show step (2 ^ 0) = gen by decide, mul_gen b hb]
      exact steps_add 31 1 b
    | succ j =>
      rw [step_bit, mul_bit j b (by omega), show 31 - j = (31 - (j + 1)) + 1 by omega]
      exact steps_add _ 1 b) a ha
/-- So many steps, told by what they make of the one. -/
theorem mul_steps (b : Nat) (hb : b < 2 ^ 32) : ∀ n, mul (steps n 2147483648) b = steps n b
  | 0 => one_mul b
  | n + 1 => by
    rw [steps_add n 1, steps_add n 1]
    show mul (step (steps n 2147483648)) b = step (steps n b)
    rw [mul_step_left _ _ (steps_lt (by decide) n) hb, mul_steps b hb n]
end Cx
end Go.Proofs.YtinachlkaochdaaDoor
