/- Layer 16: contracts of package crc's products, and of Join. -/
import Derived.Test.YtinachlkaochdaaDoorCrcP
set_option linter.unusedVariables false
namespace Go.Proofs.YtinachlkaochdaaDoor
open Go.RowKit Go.Lib
namespace Cx
theorem mul_dbl (x b : Nat) (hx : x < 2 ^ 31) (hb : b < 2 ^ 32) : mul (2 * x) (step b) = mul x b := by
  rw [mul_step_right, ← mul_step_left (2 * x) b (by omega) hb, step_even]
theorem mul_zero (b : Nat) : mul 0 b = 0 := by
  have h := mul_xor_left 0 0 b
  rw [Nat.xor_self, Nat.xor_self] at h
  exact h
/-- A bit of a product. -/
theorem mul_bit1 (a b : Nat) (ha : a < 2 ^ 32) (hb : b < 2 ^ 32) : mul a b = (if a / 2 ^ 31 % 2 = 1 then b else 0) ^^^ mul (2 * a % 2 ^ 32) (step b) := by
  have e := mod_more a 31
  rw [Nat.mod_eq_of_lt ha] at e
  have e2 : 2 * a % 2 ^ 32 = 2 * (a % 2 ^ 31) := by omega
  rw [e2, mul_dbl _ b (Nat.mod_lt _ (by omega)) hb]
  conv => lhs; rw [e]
  rw [mul_xor_left, Nat.xor_comm]
  congr 1
  split
  · exact one_mul b
  · exact mul_zero b
/-- How many doublings make nought. -/
def ms : Nat → Nat → Nat
  | 0, _ => 0
  | n + 1, a => if a = 0 then 0 else ms n (2 * a % 4294967296) + 1
theorem ms_more : ∀ n x, x < 4294967296 → x * 2 ^ n % 4294967296 = 0 → ms n x = ms (n + 1) x
  | 0, x, hx, h => by
    have : x = 0 := by simpa [Nat.mod_eq_of_lt hx] using h
    subst this
    rfl
  | n + 1, x, hx, h => by
    show (if x = 0 then 0 else ms n (2 * x % 4294967296) + 1) = (if x = 0 then 0 else ms (n + 1) (2 * x % 4294967296) + 1)
    rw [ms_more n (2 * x % 4294967296) (Nat.mod_lt _ (by omega)) (by
      rw [Nat.mod_mul_mod, Nat.mul_comm 2 x, Nat.mul_assoc, ← Nat.pow_succ']
      exact h)]
theorem ms_lt (a : Nat) (h0 : a ≠ 0) : ms 32 (2 * a % 4294967296) < ms 32 a := by
  have e : ms 32 a = ms 31 (2 * a % 4294967296) + 1 := if_neg h0
  have e2 : ms 31 (2 * a % 4294967296) = ms 32 (2 * a % 4294967296) := ms_more 31 _ (Nat.mod_lt _ (by omega)) (by
    rw [Nat.mod_mul_mod, Nat.mul_comm 2 a, Nat.mul_assoc]
    omega)
  omega
theorem shl1_u32 (a : Nat) : IntKind.u32.wrap ((a : Int) * 2 ^ 1) = ((2 * a % 4294967296 : Nat) : Int) := by
  rw [IntKind.wrap_u32]
  omega
theorem shr1_u32 (y : Nat) : (y : Int).fdiv (2 ^ min (Int.toNat 1) IntKind.u32.bits) = ((y / 2 : Nat) : Int) := by
  rw [show (2 : Int) ^ min (Int.toNat 1) IntKind.u32.bits = 2 from by decide, Int.fdiv_eq_ediv_of_nonneg _ (by omega)]
  omega
theorem timesX (b : Nat) (hb : b < 4294967296) (w : World) :
    Calls Tryd.prog 25 #[.int .u32 (b : Nat)] w fun e w' => e = .returned (.int .u32 (step b : Nat)) ∧ w = w' := by
  have m1 := and1 b hb
  have g1 := xor_gen (b / 2) (by omega)
  have q2 : (b : Int) / 2 = ((b / 2 : Nat) : Int) := by omega
  have e : step b = if b % 2 = 1 then b / 2 ^^^ gen else b / 2 := by unfold step; split <;> simp
  by_cases h : b % 2 = 1
  · have h1 : ((b % 2 : Nat) : Int) = 1 := by omega
    rw [if_pos h] at e
    rw [e]
    generalize b / 2 ^^^ gen = r at *
    generalize b / 2 = b2 at *
    generalize b % 2 = bl at *
    clear e
    go_enter Tryd.func25, Tryd.ntmps25
    go_wp2
    go_ret
    exact ⟨rfl, rfl⟩
  · have h1 : ¬ ((b % 2 : Nat) : Int) = 1 := by omega
    rw [if_neg h] at e
    rw [e]
    generalize b / 2 ^^^ gen = r at *
    generalize b / 2 = b2 at *
    generalize b % 2 = bl at *
    clear e
    go_enter Tryd.func25, Tryd.ntmps25
    go_wp2
    go_ret
    exact ⟨rfl, rfl⟩
set_option maxHeartbeats 1000000 in
set_option maxRecDepth 100000 in
theorem times (a0 b0 : Nat) (ha0 : a0 < 4294967296) (hb0 : b0 < 4294967296) (w : World) :
    Calls Tryd.prog 21 #[.int .u32 (a0 : Nat), .int .u32 (b0 : Nat)] w fun e w' => e = .returned (.int .u32 (mul a0 b0 : Nat)) ∧ w = w' := by
  generalize hm : mul a0 b0 = m
  go_enter Tryd.func21, Tryd.ntmps21
  go_wp2_with fail
  go_loop [4, 0, 1] (fun v4 v0 v1 => ∃ q a b : Nat, v4 = .int .u32 (q : Nat) ∧ q < 4294967296 ∧ v0 = .int .u32 (a : Nat) ∧ a < 4294967296 ∧ v1 = .int .u32 (b : Nat) ∧ b < 4294967296 ∧ q ^^^ mul a b = m) (fun _ v0 _ => ms 32 (Lib.intOf v0).toNat)
  case atStart => exact ⟨0, a0, b0, rfl, by omega, rfl, ha0, rfl, hb0, by rw [Nat.zero_xor, hm]⟩
  case round =>
    obtain ⟨q, a, b, rfl, hq, rfl, ha, rfl, hb, hr⟩ := hrel
    by_cases h0 : a = 0
    · subst h0
      rw [mul_zero, Nat.xor_zero] at hr
      subst hr
      go_wp2
      go_ret
      exact ⟨rfl, rfl⟩
    · have i1 : ((a : Int) != 0) = true := by simp; omega
      have i2 : ¬ (a : Int) = 0 := by omega
      have hlt := ms_lt a h0
      have hm1 := mul_bit1 a b ha hb
      have sb : step b < 4294967296 := step_lt hb
      have T := Lib.hid (fun w => timesX b hb w)
      have s1 := shl1_u32 a
      have d1 : (a : Int) * 2 % 4294967296 = ((2 * a % 4294967296 : Nat) : Int) := by omega
      have t1 := and_top a ha
      have x1 := xor_u32 q b hq hb
      have xl : q ^^^ b < 4294967296 := Nat.xor_lt_two_pow (n := 32) (by omega) (by omega)
      have dl : 2 * a % 4294967296 < 4294967296 := Nat.mod_lt _ (by omega)
      rw [hm1, show (2 ^ 32 : Nat) = 4294967296 from rfl] at hr
      by_cases ht : a / 2 ^ 31 % 2 = 1
      · rw [if_pos ht] at hr t1
        rw [← Nat.xor_assoc] at hr
        generalize step b = b' at *
        generalize 2 * a % 4294967296 = a' at *
        generalize q ^^^ b = q' at *
        replace hr := Lib.hid hr
        replace hlt := Lib.hid hlt
        clear hm1 ht h0 hm
        go_wp2_with (go_at_call 25; refine (T.out _).mono ?_; rintro e w1 ⟨rfl, rfl⟩)
        go_round
        case rel => exact ⟨q', a', b', rfl, xl, by rw [d1], dl, rfl, sb, hr.out⟩
        case measure => rw [d1]; exact hlt.out
      · rw [if_neg ht] at hr t1
        rw [Nat.zero_xor] at hr
        generalize step b = b' at *
        generalize 2 * a % 4294967296 = a' at *
        generalize q ^^^ b = q' at *
        replace hr := Lib.hid hr
        replace hlt := Lib.hid hlt
        clear hm1 ht h0 hm
        go_wp2_with (go_at_call 25; refine (T.out _).mono ?_; rintro e w1 ⟨rfl, rfl⟩)
        go_round
        case rel => exact ⟨q, a', b', rfl, hq, by rw [d1], dl, rfl, sb, hr.out⟩
        case measure => rw [d1]; exact hlt.out
/-- The one of products. -/
def on (n : Nat) : Nat := steps (8 * n) 2147483648
theorem on_lt (n : Nat) : on n < 4294967296 := steps_lt (by decide) _
theorem on_mul (a b : Nat) : mul (on a) (on b) = on (b + a) := by
  unfold on
  rw [mul_steps _ (steps_lt (by decide) _), ← steps_add, Nat.mul_add]
theorem on_one : on 1 = 8388608 := by decide
theorem on_zero : on 0 = 2147483648 := rfl
theorem on_act (a n : Nat) (ha : a < 4294967296) : mul a (on n) = steps (8 * n) a := by
  unfold on
  rw [mul_steps_right, mul_one a ha]
theorem half_add (q r n : Nat) : r + q * n = (if n % 2 = 1 then q + r else r) + (q + q) * (n / 2) := by
  have e : n = 2 * (n / 2) + n % 2 := by omega
  generalize n / 2 = h at *
  have e2 : q * (2 * h) = (q + q) * h := by rw [← Nat.mul_assoc, Nat.mul_two]
  split
  · rename_i h1
    rw [h1] at e
    rw [e, Nat.mul_add, e2]
    omega
  · rename_i h1
    have h0 : n % 2 = 0 := by omega
    rw [h0, Nat.add_zero] at e
    rw [e, e2]
theorem and1_i64 (y : Nat) (hy : y ≤ 9223372036854775807) : bits .and .i64 (y : Int) 1 = ((y % 2 : Nat) : Int) := by
  have hx : y &&& 1 < 2 ^ 63 := Nat.and_lt_two_pow y (by omega)
  have h1 : (BitVec.ofInt 64 (y : Int)).toNat = y := by
    rw [BitVec.ofInt_natCast, BitVec.toNat_ofNat]; exact Nat.mod_eq_of_lt (by omega)
  have h2 : (BitVec.ofInt 64 (1 : Int)).toNat = 1 := by decide
  show IntKind.i64.wrap ((BitVec.ofInt 64 (y : Int) &&& BitVec.ofInt 64 (1 : Int)).toNat : Int) = _
  rw [BitVec.toNat_and, h1, h2, IntKind.wrap_i64, show y &&& 1 = y % 2 from Nat.and_two_pow_sub_one_eq_mod y 1]
  omega
set_option maxHeartbeats 1000000 in
set_option maxRecDepth 100000 in
theorem bytesOn (n : Nat) (hn : n ≤ 9223372036854775807) (w : World) :
    Calls Tryd.prog 22 #[.int .i64 (n : Nat)] w fun e w' => e = .returned (.int .u32 (on n : Nat)) ∧ w = w' := by
  go_enter Tryd.func22, Tryd.ntmps22
  go_wp2_with fail
  go_loop [3, 4, 0] (fun v3 v4 v0 => ∃ r q m : Nat, v3 = .int .u32 (on r : Nat) ∧ v4 = .int .u32 (on q : Nat) ∧ v0 = .int .i64 (m : Nat) ∧ m ≤ 9223372036854775807 ∧ r + q * m = n) (fun _ _ v0 => (Lib.intOf v0).toNat)
  case atStart => exact ⟨0, 1, n, by rw [on_zero]; rfl, by rw [on_one]; rfl, rfl, hn, by rw [Nat.zero_add, Nat.one_mul]⟩
  case round =>
    obtain ⟨r, q, m, rfl, rfl, rfl, hm, hr⟩ := hrel
    by_cases h0 : m = 0
    · subst h0
      rw [Nat.mul_zero, Nat.add_zero] at hr
      subst hr
      go_wp2
      go_ret
      exact ⟨rfl, rfl⟩
    · have i1 : (0 : Int) < (m : Int) := by omega
      have T1 := Lib.hid (fun w => times (on r) (on q) (on_lt r) (on_lt q) w)
      have T2 := Lib.hid (fun w => times (on q) (on q) (on_lt q) (on_lt q) w)
      rw [on_mul] at T1 T2
      rw [half_add] at hr
      have a1 := and1_i64 m hm
      have d1 : (m : Int) / 2 = ((m / 2 : Nat) : Int) := by omega
      have hlt : m / 2 < m := by omega
      have hm2 : m / 2 ≤ 9223372036854775807 := by omega
      replace hlt := Lib.hid hlt
      by_cases ho : m % 2 = 1
      · have o1 : ((m % 2 : Nat) : Int) = 1 := by omega
        rw [if_pos ho] at hr
        replace hr := Lib.hid hr
        clear ho h0 hn
        generalize m % 2 = ml at *
        generalize m / 2 = mh at *
        generalize hR : on r = R at *
        generalize hQ : on q = Q at *
        generalize hS : on (q + r) = S at *
        generalize hD : on (q + q) = D at *
        replace hR := Lib.hid hR
        replace hQ := Lib.hid hQ
        replace hS := Lib.hid hS
        replace hD := Lib.hid hD
        go_wp2_with fail
        refine (T1.out _).mono ?_
        rintro e w1 ⟨rfl, rfl⟩
        go_wp2_with fail
        refine (T2.out _).mono ?_
        rintro e w1 ⟨rfl, rfl⟩
        go_wp2_with fail
        go_round
        case rel => exact ⟨q + r, q + q, mh, by rw [hS.out], by rw [hD.out], rfl, hm2, hr.out⟩
        case measure => exact hlt.out
      · have o1 : ¬ ((m % 2 : Nat) : Int) = 1 := by omega
        rw [if_neg ho] at hr
        replace hr := Lib.hid hr
        clear ho h0 hn T1
        generalize m % 2 = ml at *
        generalize m / 2 = mh at *
        generalize hR : on r = R at *
        generalize hQ : on q = Q at *
        generalize hD : on (q + q) = D at *
        replace hR := Lib.hid hR
        replace hQ := Lib.hid hQ
        replace hD := Lib.hid hD
        go_wp2_with fail
        refine (T2.out _).mono ?_
        rintro e w1 ⟨rfl, rfl⟩
        go_wp2_with fail
        go_round
        case rel => exact ⟨r, q + q, mh, by rw [hR.out], by rw [hD.out], rfl, hm2, hr.out⟩
        case measure => exact hlt.out
theorem join_no (a b : Nat) (n : Int) (hn : n < 1) (w : World) :
    Calls Tryd.prog 12 #[.int .u32 (a : Nat), .int .u32 (b : Nat), .int .i64 n] w fun e w' => e = .returned (.int .u32 (a : Nat)) ∧ w = w' := by
  go_enter Tryd.func12, Tryd.ntmps12
  go_wp2
  go_ret
  exact ⟨rfl, rfl⟩
theorem join (a b n : Nat) (h0 : 0 < n) (hn : n ≤ 9223372036854775807) (ha : a < 4294967296) (hb : b < 4294967296) (w : World) :
    Calls Tryd.prog 12 #[.int .u32 (a : Nat), .int .u32 (b : Nat), .int .i64 (n : Nat)] w fun e w' => e = .returned (.int .u32 (b ^^^ steps (8 * n) a : Nat)) ∧ w = w' := by
  have i1 : ¬ (n : Int) < 1 := by omega
  have T1 := Lib.hid (fun w => bytesOn n hn w)
  have T2 := Lib.hid (fun w => times a (on n) ha (on_lt n) w)
  rw [on_act a n ha] at T2
  have x1 := xor_u32 (steps (8 * n) a) b (steps_lt (by omega) _) hb
  rw [Nat.xor_comm] at x1
  generalize b ^^^ steps (8 * n) a = r at *
  generalize steps (8 * n) a = s at *
  generalize on n = o at *
  clear h0 ha hb hn
  go_enter Tryd.func12, Tryd.ntmps12
  go_wp2_with fail
  refine (T1.out _).mono ?_
  rintro e w1 ⟨rfl, rfl⟩
  go_wp2_with fail
  refine (T2.out _).mono ?_
  rintro e w1 ⟨rfl, rfl⟩
  go_wp2
  go_ret
  exact ⟨rfl, rfl⟩
end Cx
end Go.Proofs.YtinachlkaochdaaDoor
