/- Six steps, plain: a row's transform by the transforms of its columns, twiddles, and the transforms of its rows, of any shape. It names no program. -/
import Derived.Test.YtfjoacopnkceoaaDoorHalfM
set_option linter.unusedVariables false
namespace Go.Proofs.YtfjoacopnkceoaaDoor
namespace Tn
open Nt Rn Ww

/-- A sum row by row. -/
theorem sg_rows (f : Nat → Nat) (n : Nat) : ∀ m, sg f (m * n) = sg (fun r => sg (fun c => f (r * n + c)) n) m
  | 0 => by rw [Nat.zero_mul]; rfl
  | m + 1 => by rw [Nat.succ_mul, sg_split, sg_rows f n m]; rfl
theorem mulm {a b c d : Nat} (h1 : a % 18446744069414584321 = c % 18446744069414584321) (h2 : b % 18446744069414584321 = d % 18446744069414584321) : a * b % 18446744069414584321 = c * d % 18446744069414584321 := by
  rw [Nat.mul_mod, h1, h2, ← Nat.mul_mod]
theorem powm {a b : Nat} (n : Nat) (h : a % 18446744069414584321 = b % 18446744069414584321) : a ^ n % 18446744069414584321 = b ^ n % 18446744069414584321 := by
  rw [← pmod a, h, pmod]
/-- w, u, v: the roots of orders R * C, R and C. -/
theorem tf_six (x : Nat → Nat) (R C w u v q s : Nat) (h1 : w ^ (R * C) % 18446744069414584321 = 1) (hu : w ^ C % 18446744069414584321 = u % 18446744069414584321) (hv : w ^ R % 18446744069414584321 = v % 18446744069414584321) :
    tf x (R * C) w (s * R + q) = tf (fun c => tf (fun r => x (r * C + c)) R u q * w ^ (q * c) % 18446744069414584321) C v s := by
  unfold tf
  rw [sg_rows, sg_swap (fun r c => x (r * C + c) * w ^ ((r * C + c) * (s * R + q))) C R]
  refine Pn.sg_mod C fun c _ => ?_
  rw [Nat.mod_mul_mod, Nat.mul_assoc, Nat.mod_mul_mod, Nat.mul_comm (sg _ R), ← Pn.sg_mul]
  refine Pn.sg_mod R fun r _ => ?_
  have e : (r * C + c) * (s * R + q) = R * C * (r * s) + (C * (r * q) + (R * (c * s) + q * c)) := by
    rw [Nat.add_mul, Nat.mul_add, Nat.mul_add, show r * C * (s * R) = R * C * (r * s) by rw [Nat.mul_comm s R, Nat.mul_comm r C, Nat.mul_mul_mul_comm, Nat.mul_comm C R], show r * C * q = C * (r * q) by rw [Nat.mul_comm r C, Nat.mul_assoc], show c * (s * R) = R * (c * s) by rw [← Nat.mul_assoc, Nat.mul_comm (c * s)], Nat.mul_comm c q, Nat.add_assoc]
  have e2 : w ^ (R * C * (r * s) + (C * (r * q) + (R * (c * s) + q * c))) = (w ^ (R * C)) ^ (r * s) * ((w ^ C) ^ (r * q) * ((w ^ R) ^ (c * s) * w ^ (q * c))) := by
    rw [Nat.pow_add, Nat.pow_add, Nat.pow_add, ← Nat.pow_mul, ← Nat.pow_mul, ← Nat.pow_mul]
  rw [e, e2]
  have p1 : (w ^ (R * C)) ^ (r * s) % 18446744069414584321 = 1 := by rw [← pmod, h1, pow_one_mod]
  have p2 := powm (r * q) hu
  have p3 := powm (c * s) hv
  have z : (w ^ (R * C)) ^ (r * s) * ((w ^ C) ^ (r * q) * ((w ^ R) ^ (c * s) * w ^ (q * c))) % 18446744069414584321 = u ^ (r * q) * (v ^ (c * s) * w ^ (q * c)) % 18446744069414584321 := by
    rw [one_mul_ p1]
    exact mulm p2 (mulm p3 rfl)
  show x (r * C + c) * ((w ^ (R * C)) ^ (r * s) * ((w ^ C) ^ (r * q) * ((w ^ R) ^ (c * s) * w ^ (q * c)))) % 18446744069414584321 = w ^ (q * c) * v ^ (c * s) * (x (r * C + c) * u ^ (r * q)) % 18446744069414584321
  refine (mulm (Eq.refl (x (r * C + c) % 18446744069414584321)) z).trans (congrArg (· % 18446744069414584321) ?_)
  show x (r * C + c) * (u ^ (r * q) * (v ^ (c * s) * w ^ (q * c))) = w ^ (q * c) * v ^ (c * s) * (x (r * C + c) * u ^ (r * q))
  rw [← Nat.mul_assoc, Nat.mul_comm (v ^ (c * s)), Nat.mul_comm (x _ * _)]
theorem sc_add (a b d : Nat) (h : a + b ≤ 32) (hd : d ≤ 1) : sc a d * sc b d % 18446744069414584321 = sc (a + b) d % 18446744069414584321 := by
  rcases Nat.eq_zero_or_pos d with c | c
  · subst c; rw [sc_zero, sc_zero, sc_zero]
  · obtain rfl : d = 1 := by omega
    rw [sc_other a 1 (by decide), sc_other b 1 (by decide), sc_other (a + b) 1 (by decide)]
    have h1 := inv_mul _ (two_ne a (by omega))
    have h2 := inv_mul _ (two_ne b (by omega))
    have h3 := inv_mul _ (two_ne (a + b) h)
    have e : 2 ^ (a + b) * (inv (2 ^ a) * inv (2 ^ b)) % 18446744069414584321 = 2 ^ (a + b) * inv (2 ^ (a + b)) % 18446744069414584321 := by
      rw [Nat.mul_comm (2 ^ (a + b)) (inv (2 ^ (a + b))), h3, Nat.pow_add, Nat.mul_mul_mul_comm, Nat.mul_comm (2 ^ a), Nat.mul_comm (2 ^ b), Nat.mul_mod, h1, h2]
    exact cancel (prime.cop (two_ne (a + b) h)) e
/-- P11.3: of a shape of 2^a rows and 2^b columns. -/
theorem ft_six (a b d : Nat) (h : a + b ≤ 32) (hd : d ≤ 1) (x : Nat → Nat) (q s : Nat) :
    ft (a + b) d x (s * 2 ^ a + q) = ft b d (fun c => ft a d (fun r => x (r * 2 ^ b + c)) q * (rd (a + b) d ^ (q * c) % 18446744069414584321) % 18446744069414584321) s := by
  have h1 : rd (a + b) d ^ (2 ^ a * 2 ^ b) % 18446744069414584321 = 1 := by rw [← Nat.pow_add]; exact rd_one (a + b) d h
  have hu : rd (a + b) d ^ 2 ^ b % 18446744069414584321 = rd a d % 18446744069414584321 := by rw [rd_pow d a b h, Nat.mod_eq_of_lt (rd_lt a d)]
  have hv : rd (a + b) d ^ 2 ^ a % 18446744069414584321 = rd b d % 18446744069414584321 := by rw [Nat.add_comm a b, rd_pow d b a (by omega), Nat.mod_eq_of_lt (rd_lt b d)]
  have e := tf_six x (2 ^ a) (2 ^ b) (rd (a + b) d) (rd a d) (rd b d) q s h1 hu hv
  unfold ft
  rw [Nat.pow_add, e]
  have f : ∀ c, tf (fun r => x (r * 2 ^ b + c)) (2 ^ a) (rd a d) q * sc a d % 18446744069414584321 * (rd (a + b) d ^ (q * c) % 18446744069414584321) % 18446744069414584321 = tf (fun r => x (r * 2 ^ b + c)) (2 ^ a) (rd a d) q * rd (a + b) d ^ (q * c) % 18446744069414584321 * sc a d % 18446744069414584321 := fun c => by
    rw [Nat.mul_mod_mod, Nat.mod_mul_mod, Nat.mod_mul_mod, Nat.mul_right_comm]
  simp only [f]
  rw [tf_scale, Nat.mod_mul_mod, Nat.mul_assoc]
  exact mulm rfl (sc_add a b d h hd).symm
end Tn
end Go.Proofs.YtfjoacopnkceoaaDoor
