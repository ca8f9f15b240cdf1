/- Plain arithmetic: a number of 128 bits divided by one of 64, digit by digit of 32 bits (Knuth's way); it names no program. -/
import Derived.Test.YtkbhbnadkoainaaNumB
set_option linter.unusedVariables false
namespace Go.Proofs.Ytkbhbnadkoainaa
namespace Dv
open Nm
/-- What holds of a guess q and its rest r ahead of each round: U the upper part, d the next digit, y = yh * 2^32 + yl. -/
structure Guess (yh yl U d q r : Nat) : Prop where
  sum : q * yh + r = U
  top : U * 4294967296 + d < (q + 1) * (yh * 4294967296 + yl)
  r_lt : r < 4294967296
  q_le : q ≤ 4294967297

theorem guess_init (yh yl U d : Nat) (h1 : yh < 4294967296) (h2 : 2147483648 ≤ yh) (h3 : yl < 4294967296) (hd : d < 4294967296) (hU : U < yh * 4294967296 + yl) :
    Guess yh yl U d (U / yh) (U - U / yh * yh) := by
  have e := Nat.div_add_mod U yh
  rw [Nat.mul_comm] at e
  have m : U % yh < yh := Nat.mod_lt _ (by omega)
  generalize U / yh = q at *
  generalize U % yh = r at *
  have er : U - q * yh = r := by omega
  rw [er]
  refine ⟨e, ?_, by omega, ?_⟩
  · rw [Nat.mul_add, Nat.add_mul q 1 yl, ← Nat.mul_assoc, Nat.add_mul q 1 yh]
    generalize q * yh = P at *
    generalize q * yl = R at *
    omega
  · apply Nat.le_of_not_lt
    intro hq
    have : 4294967298 * yh ≤ q * yh := Nat.mul_le_mul_right _ hq
    omega

theorem guess_next (yh yl U d q r : Nat) (g : Guess yh yl U d (q + 1) r) (hr : r + yh < 4294967296) (ht : U * 4294967296 + d < (q + 1) * (yh * 4294967296 + yl)) :
    Guess yh yl U d q (r + yh) := by
  refine ⟨?_, ht, hr, ?_⟩
  · have := g.sum
    rw [Nat.add_mul] at this
    omega
  · have := g.q_le
    omega

theorem top_big (yh yl U d q : Nat) (hd : d < 4294967296) (hU : U < yh * 4294967296 + yl) (hq : 4294967296 ≤ q) : U * 4294967296 + d < q * (yh * 4294967296 + yl) := by
  have : 4294967296 * (yh * 4294967296 + yl) ≤ q * (yh * 4294967296 + yl) := Nat.mul_le_mul_right _ hq
  omega
theorem top_test (yh yl U d q r : Nat) (hs : q * yh + r = U) (ht : 4294967296 * r + d < q * yl) : U * 4294967296 + d < q * (yh * 4294967296 + yl) := by
  rw [Nat.mul_add, ← Nat.mul_assoc]
  generalize q * yh = P at *
  generalize q * yl = R at *
  omega
theorem low_test (yh yl U d q r : Nat) (hs : q * yh + r = U) (ht : q * yl ≤ 4294967296 * r + d) : q * (yh * 4294967296 + yl) ≤ U * 4294967296 + d := by
  rw [Nat.mul_add, ← Nat.mul_assoc]
  generalize q * yh = P at *
  generalize q * yl = R at *
  omega
theorem low_break (yh yl U d q r : Nat) (h3 : yl < 4294967296) (hs : q * yh + r = U) (hq : q ≤ 4294967296) (hr : 4294967296 ≤ r) : q * (yh * 4294967296 + yl) ≤ U * 4294967296 + d := by
  apply low_test yh yl U d q r hs
  have : q * yl ≤ 4294967296 * yl := Nat.mul_le_mul_right _ hq
  omega
theorem quot_of (y X q : Nat) (h1 : q * y ≤ X) (h2 : X < (q + 1) * y) : q = X / y := by
  have hy : 0 < y := by
    apply Nat.pos_of_ne_zero; intro h; rw [h] at h2; omega
  apply Nat.le_antisymm
  · exact (Nat.le_div_iff_mul_le hy).2 h1
  · exact Nat.le_of_lt_succ ((Nat.div_lt_iff_lt_mul hy).2 h2)
theorem next_sum (q yh r U g r' : Nat) (hg : g = q + 1) (hr : r' = r + yh) (h : g * yh + r = U) : q * yh + r' = U := by
  rw [hg, Nat.add_mul] at h
  omega
theorem quot_break (yh yl U d q r Y : Nat) (hY : yh * 4294967296 + yl = Y) (h3 : yl < 4294967296) (hs : q * yh + r = U) (hq : q ≤ 4294967296) (hr : 4294967296 ≤ r) (ht : U * 4294967296 + d < (q + 1) * (yh * 4294967296 + yl)) :
    q = (U * 4294967296 + d) / Y := by
  rw [← hY]
  exact quot_of _ _ q (low_break yh yl U d q r h3 hs hq hr) ht
theorem quot_test (yh yl U d q r Y X Z : Nat) (hY : yh * 4294967296 + yl = Y) (g : Guess yh yl U d q r) (hX : X = q * yl) (hZ : Z = 4294967296 * r + d) (ht : ¬ Z < X) : q = (U * 4294967296 + d) / Y := by
  rw [← hY]
  exact quot_of _ _ q (low_test yh yl U d q r g.sum (by omega)) g.top
theorem digit_lt (yh yl U d : Nat) (hd : d < 4294967296) (hU : U < yh * 4294967296 + yl) : (U * 4294967296 + d) / (yh * 4294967296 + yl) < 4294967296 := by
  rw [Nat.div_lt_iff_lt_mul (by omega)]
  omega

/-- The rest of a digit, as the program reckons it modulo 2^64. -/
theorem rest_wrap (y U d : Nat) (hy : y < 18446744073709551616) (h0 : 0 < y) : (U * 4294967296 + d + 18446744073709551616 - (U * 4294967296 + d) / y * y % 18446744073709551616) % 18446744073709551616 = (U * 4294967296 + d) % y := by
  have e := Nat.div_add_mod (U * 4294967296 + d) y
  have m : (U * 4294967296 + d) % y < y := Nat.mod_lt _ h0
  rw [Nat.mul_comm] at e
  generalize (U * 4294967296 + d) / y * y = P at *
  generalize (U * 4294967296 + d) % y = R at *
  omega

/-- Two digits make the quotient; the rest is shifted back. -/
theorem two_digits_of (N y s U u1 u0 y' q1 r1 q0 r0 : Nat) (hy' : y' = y * 2 ^ s) (hU : U * 18446744073709551616 + (u1 * 4294967296 + u0) = N * 2 ^ s)
    (e1 : y' * q1 + r1 = U * 4294967296 + u1) (e0 : y' * q0 + r0 = r1 * 4294967296 + u0) (m0 : r0 < y') : q1 * 4294967296 + q0 = N / y ∧ r0 / 2 ^ s = N % y := by
  have p2 : 0 < 2 ^ s := Nat.two_pow_pos s
  have key : N * 2 ^ s = (q1 * 4294967296 + q0) * y' + r0 := by
    rw [← hU, Nat.add_mul, Nat.mul_right_comm, Nat.mul_comm q1 y', Nat.mul_comm q0 y']
    generalize y' * q1 = A at e1 ⊢
    generalize y' * q0 = C at e0 ⊢
    omega
  constructor
  · rw [← Nat.mul_div_mul_right _ y p2, ← hy']
    exact quot_of y' _ _ (by omega) (by rw [Nat.add_mul (q1 * 4294967296 + q0) 1]; omega)
  · have k2 : r0 = N * 2 ^ s % y' := by
      rw [key, Nat.mul_comm (q1 * 4294967296 + q0), Nat.mul_add_mod, Nat.mod_eq_of_lt m0]
    rw [k2, hy', Nat.mul_mod_mul_right, Nat.mul_div_cancel _ p2]
theorem two_digits (N y s U u1 u0 y' : Nat) (hp : 0 < y') (hy' : y' = y * 2 ^ s) (hU : U * 18446744073709551616 + (u1 * 4294967296 + u0) = N * 2 ^ s) :
    (U * 4294967296 + u1) / y' * 4294967296 + ((U * 4294967296 + u1) % y' * 4294967296 + u0) / y' = N / y ∧
    ((U * 4294967296 + u1) % y' * 4294967296 + u0) % y' / 2 ^ s = N % y :=
  two_digits_of N y s U u1 u0 y' _ _ _ _ hy' hU (Nat.div_add_mod (U * 4294967296 + u1) y') (Nat.div_add_mod _ y') (Nat.mod_lt _ hp)
end Dv
end Go.Proofs.Ytkbhbnadkoainaa
