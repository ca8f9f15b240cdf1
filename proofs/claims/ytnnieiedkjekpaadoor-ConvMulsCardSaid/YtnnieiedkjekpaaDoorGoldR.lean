/- Contracts of the document's own answers for layer 2: Of, Add, Sub, Mul, Pow, Reduce, of every word. -/
import Derived.Test.YtnnieiedkjekpaaDoorGold
import Derived.Deep.LoopGhost
set_option linter.unusedVariables false
namespace Go.Proofs.YtnnieiedkjekpaaDoor
open Go.RowKit Go.Lib
namespace Gr
open Nm

set_option maxHeartbeats 400000 in
theorem of (a : Nat) (w : World) :
    Calls Tryd.prog 47 #[.int .u64 a] w fun e w' => e = .returned (.int .u64 ((a % 18446744069414584321 : Nat) : Int)) ∧ w = w' := by
  go_enter Tryd.func47, Tryd.ntmps47
  go_wp2
  go_ret
  exact ⟨rfl, rfl⟩

set_option maxHeartbeats 400000 in
set_option maxRecDepth 100000 in
theorem add (a b : Nat) (w : World) :
    Calls Tryd.prog 28 #[.int .u64 a, .int .u64 b] w fun e w' => e = .returned (.int .u64 (((a + b) % 18446744069414584321 : Nat) : Int)) ∧ w = w' := by
  have A := Lib.hid (fun W => of a W)
  have B := Lib.hid (fun W => of b W)
  rw [Nat.add_mod]
  have la : a % 18446744069414584321 < 18446744069414584321 := Nat.mod_lt _ (by decide)
  have lb : b % 18446744069414584321 < 18446744069414584321 := Nat.mod_lt _ (by decide)
  generalize a % 18446744069414584321 = x at *
  generalize b % 18446744069414584321 = y at *
  obtain ⟨r, hr⟩ : ∃ r, r = (x + y) % 18446744069414584321 := ⟨_, rfl⟩
  obtain ⟨d, hd⟩ : ∃ d, d = 18446744069414584321 - y := ⟨_, rfl⟩
  rw [← hr]
  have k1 : IntKind.u64.wrap (18446744069414584321 - (y : Int)) = (d : Int) := by rw [IntKind.wrap_u64]; omega
  by_cases h : x + y < 18446744069414584321
  · have c1 : ¬ (d : Int) ≤ x := by omega
    have c1' : ¬ d ≤ x := by omega
    have c2 : IntKind.u64.wrap ((x : Int) + (y : Int)) = (r : Int) := by rw [IntKind.wrap_u64]; omega
    clear hr hd la lb h
    go_enter Tryd.func28, Tryd.ntmps28
    go_wp2_with fail
    refine (A.out _).mono ?_
    rintro e w1 ⟨rfl, rfl⟩
    go_wp2_with fail
    refine (B.out _).mono ?_
    rintro e w1 ⟨rfl, rfl⟩
    go_wp2
    go_ret
    exact ⟨rfl, rfl⟩
  · have c1 : (d : Int) ≤ x := by omega
    have c1' : d ≤ x := by omega
    have c2 : IntKind.u64.wrap ((x : Int) - (d : Int)) = (r : Int) := by rw [IntKind.wrap_u64]; omega
    clear hr hd la lb h
    go_enter Tryd.func28, Tryd.ntmps28
    go_wp2_with fail
    refine (A.out _).mono ?_
    rintro e w1 ⟨rfl, rfl⟩
    go_wp2_with fail
    refine (B.out _).mono ?_
    rintro e w1 ⟨rfl, rfl⟩
    go_wp2
    go_ret
    exact ⟨rfl, rfl⟩

set_option maxHeartbeats 400000 in
set_option maxRecDepth 100000 in
theorem sub (a b : Nat) (w : World) :
    Calls Tryd.prog 30 #[.int .u64 a, .int .u64 b] w fun e w' => e = .returned (.int .u64 (((a + (18446744069414584321 - b % 18446744069414584321)) % 18446744069414584321 : Nat) : Int)) ∧ w = w' := by
  have A := Lib.hid (fun W => of a W)
  have B := Lib.hid (fun W => of b W)
  have la : a % 18446744069414584321 < 18446744069414584321 := Nat.mod_lt _ (by decide)
  have lb : b % 18446744069414584321 < 18446744069414584321 := Nat.mod_lt _ (by decide)
  rw [show (a + (18446744069414584321 - b % 18446744069414584321)) % 18446744069414584321 = (a % 18446744069414584321 + (18446744069414584321 - b % 18446744069414584321)) % 18446744069414584321 by omega]
  generalize a % 18446744069414584321 = x at *
  generalize b % 18446744069414584321 = y at *
  obtain ⟨r, hr⟩ : ∃ r, r = (x + (18446744069414584321 - y)) % 18446744069414584321 := ⟨_, rfl⟩
  rw [← hr]
  by_cases h : y ≤ x
  · have c1 : (y : Int) ≤ x := by omega
    have c2 : IntKind.u64.wrap ((x : Int) - (y : Int)) = (r : Int) := by rw [IntKind.wrap_u64]; omega
    clear hr la lb
    go_enter Tryd.func30, Tryd.ntmps30
    go_wp2_with fail
    refine (A.out _).mono ?_
    rintro e w1 ⟨rfl, rfl⟩
    go_wp2_with fail
    refine (B.out _).mono ?_
    rintro e w1 ⟨rfl, rfl⟩
    go_wp2
    go_ret
    exact ⟨rfl, rfl⟩
  · have c1 : ¬ (y : Int) ≤ x := by omega
    obtain ⟨d, hd⟩ : ∃ d, d = y - x := ⟨_, rfl⟩
    have c3 : IntKind.u64.wrap ((y : Int) - (x : Int)) = (d : Int) := by rw [IntKind.wrap_u64]; omega
    have c2 : IntKind.u64.wrap (18446744069414584321 - (d : Int)) = (r : Int) := by rw [IntKind.wrap_u64]; omega
    clear hr hd la lb
    go_enter Tryd.func30, Tryd.ntmps30
    go_wp2_with fail
    refine (A.out _).mono ?_
    rintro e w1 ⟨rfl, rfl⟩
    go_wp2_with fail
    refine (B.out _).mono ?_
    rintro e w1 ⟨rfl, rfl⟩
    go_wp2
    go_ret
    exact ⟨rfl, rfl⟩

/-- What a doubling keeps. -/
structure MInv (a b x y o : Nat) : Prop where
  e : (o + x * y) % 18446744069414584321 = a * b % 18446744069414584321
  ho : o < 18446744069414584321
theorem minv_start (a b : Nat) : MInv a b (a % 18446744069414584321) b 0 := ⟨by rw [Nat.zero_add, Nat.mod_mul_mod], by decide⟩
theorem minv_odd {a b x y o : Nat} (h : MInv a b x y o) (hy : y % 2 = 1) : MInv a b ((x + x) % 18446744069414584321) (y / 2) ((o + x) % 18446744069414584321) := by
  refine ⟨?_, Nat.mod_lt _ (by decide)⟩
  rw [← h.e, Nat.mod_add_mod, Nat.add_mod, Nat.mod_mul_mod, ← Nat.add_mod]
  congr 1
  conv => rhs; rw [show y = 2 * (y / 2) + 1 by omega]
  rw [Nat.mul_add, ← Nat.mul_assoc, Nat.mul_two, Nat.mul_one]; omega
theorem minv_even {a b x y o : Nat} (h : MInv a b x y o) (hy : ¬ y % 2 = 1) : MInv a b ((x + x) % 18446744069414584321) (y / 2) o := by
  refine ⟨?_, h.ho⟩
  rw [← h.e, Nat.add_mod, Nat.mod_mul_mod, ← Nat.add_mod]
  congr 1
  conv => rhs; rw [show y = 2 * (y / 2) by omega]
  rw [← Nat.mul_assoc, Nat.mul_two]
theorem minv_end {a b x o : Nat} (h : MInv a b x 0 o) : o = a * b % 18446744069414584321 := by
  rw [← h.e, Nat.mul_zero, Nat.add_zero, Nat.mod_eq_of_lt h.ho]

set_option maxHeartbeats 1000000 in
set_option maxRecDepth 100000 in
theorem mul (a b : Nat) (hb : b < 18446744073709551616) (w : World) :
    Calls Tryd.prog 29 #[.int .u64 a, .int .u64 b] w fun e w' => e = .returned (.int .u64 ((a * b % 18446744069414584321 : Nat) : Int)) ∧ w = w' := by
  have A := Lib.hid (fun W => of a W)
  have I := minv_start a b
  generalize a % 18446744069414584321 = a0 at A I
  obtain ⟨r, hr⟩ : ∃ r, r = a * b % 18446744069414584321 := ⟨_, rfl⟩
  rw [← hr]
  have HR := Lib.hid hr
  clear hr
  go_enter Tryd.func29, Tryd.ntmps29
  go_wp2_with fail
  refine (A.out _).mono ?_
  rintro e w1 ⟨rfl, rfl⟩
  go_wp2_with fail
  go_loop [0, 1, 5] (fun v0 v1 v5 => ∃ x y o : Nat, v0 = .int .u64 x ∧ v1 = .int .u64 y ∧ v5 = .int .u64 o ∧ y < 18446744073709551616 ∧ MInv a b x y o) (fun _ v1 _ => (intOf v1).toNat)
  case atStart => exact ⟨_, _, 0, rfl, rfl, rfl, hb, I⟩
  case round =>
    obtain ⟨x, y, o, rfl, rfl, rfl, hy, J⟩ := hrel
    clear I A hb
    by_cases h0 : 0 < y
    · have y1 : (0 : Int) < y := by omega
      by_cases ho : y % 2 = 1
      · have J2 := minv_odd J ho
        have o1 : (((y : Int) % 2) == 1) = true := by simp; omega
        have B := Lib.hid (fun W => add o x W)
        have C := Lib.hid (fun W => add x x W)
        generalize (x + x) % 18446744069414584321 = x' at *
        generalize (o + x) % 18446744069414584321 = o' at *
        go_wp2_with fail
        refine (B.out _).mono ?_
        rintro e w1 ⟨rfl, rfl⟩
        go_wp2_with fail
        refine (C.out _).mono ?_
        rintro e w1 ⟨rfl, rfl⟩
        go_wp2_with fail
        go_round
        case rel => exact ⟨x', y / 2, o', rfl, by simp, rfl, by omega, J2⟩
        case measure => simp [intOf]; omega
      · have J2 := minv_even J ho
        have o1 : (((y : Int) % 2) == 1) = false := by simp; omega
        have C := Lib.hid (fun W => add x x W)
        generalize (x + x) % 18446744069414584321 = x' at *
        go_wp2_with fail
        refine (C.out _).mono ?_
        rintro e w1 ⟨rfl, rfl⟩
        go_wp2_with fail
        go_round
        case rel => exact ⟨x', y / 2, o, rfl, by simp, rfl, by omega, J2⟩
        case measure => simp [intOf]; omega
    · have y1 : ¬ (0 : Int) < y := by omega
      obtain rfl : y = 0 := by omega
      have E := Lib.hid (minv_end J)
      clear J h0 y1
      go_wp2
      go_ret
      exact ⟨by rw [show r = o from HR.out.trans E.out.symm]; rfl, rfl⟩

/-- What a squaring keeps. -/
structure PInv (a n x y o : Nat) : Prop where
  e : o * x ^ y % 18446744069414584321 = a ^ n % 18446744069414584321
  ho : o < 18446744069414584321
theorem pinv_start (a n : Nat) : PInv a n (a % 18446744069414584321) n 1 := ⟨by rw [Nat.one_mul, ← Nat.pow_mod], by decide⟩
theorem pinv_start' (a n : Nat) : PInv a n a n 1 := ⟨by rw [Nat.one_mul], by decide⟩
theorem pow_half (x y : Nat) : (x * x % 18446744069414584321) ^ (y / 2) % 18446744069414584321 = x ^ (2 * (y / 2)) % 18446744069414584321 := by
  rw [← Nat.pow_mod, ← Nat.pow_two, ← Nat.pow_mul]
theorem pinv_odd {a n x y o : Nat} (h : PInv a n x y o) (hy : y % 2 = 1) : PInv a n (x * x % 18446744069414584321) (y / 2) (o * x % 18446744069414584321) := by
  refine ⟨?_, Nat.mod_lt _ (by decide)⟩
  rw [← h.e, Nat.mod_mul_mod, Nat.mul_mod, pow_half, ← Nat.mul_mod]
  congr 1
  conv => rhs; rw [show y = 2 * (y / 2) + 1 by omega]
  rw [Nat.pow_succ, Nat.mul_assoc, Nat.mul_comm x]
theorem pinv_even {a n x y o : Nat} (h : PInv a n x y o) (hy : ¬ y % 2 = 1) : PInv a n (x * x % 18446744069414584321) (y / 2) o := by
  refine ⟨?_, h.ho⟩
  rw [← h.e, Nat.mul_mod, pow_half, ← Nat.mul_mod]
  congr 1
  conv => rhs; rw [show y = 2 * (y / 2) by omega]
theorem pinv_end {a n x o : Nat} (h : PInv a n x 0 o) : o = a ^ n % 18446744069414584321 := by
  rw [← h.e, Nat.pow_zero, Nat.mul_one, Nat.mod_eq_of_lt h.ho]


end Gr
end Go.Proofs.YtnnieiedkjekpaaDoor
