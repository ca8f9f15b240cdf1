/- Contracts of package gold's Pow, Inv, Div, of every word. -/
import Derived.Test.YtnnieiedkjekpaaDoorGoldR
import Derived.Test.YtnnieiedkjekpaaDoorPlain
set_option linter.unusedVariables false
namespace Go.Proofs.YtnnieiedkjekpaaDoor
open Go.RowKit Go.Lib
namespace Gd
open Nm Gr
theorem and_one (y : Nat) (hy : y < 18446744073709551616) : bits .and .u64 (y : Int) 1 = ((y % 2 : Nat) : Int) :=
  (bits_and_u64_nat y 1 hy (by omega)).trans (congrArg Int.ofNat (Nat.and_two_pow_sub_one_eq_mod y 1))

set_option maxHeartbeats 1000000 in
set_option maxRecDepth 100000 in
theorem pow (a n : Nat) (ha : a < 18446744073709551616) (hn : n < 18446744073709551616) (w : World) :
    Calls Tryd.prog 36 #[.int .u64 a, .int .u64 n] w fun e w' => e = .returned (.int .u64 ((a ^ n % 18446744069414584321 : Nat) : Int)) ∧ Below w.heap.size w w' := by
  have I := pinv_start' a n
  obtain ⟨r, hr⟩ : ∃ r, r = a ^ n % 18446744069414584321 := ⟨_, rfl⟩
  rw [← hr]
  have HR := Lib.hid hr
  clear hr
  go_enter Tryd.func36, Tryd.ntmps36
  go_wp2_with fail
  go_loopw [0, 1, 5] (fun v0 v1 v5 wr => ∃ x y o : Nat, v0 = .int .u64 x ∧ v1 = .int .u64 y ∧ v5 = .int .u64 o ∧ y < 18446744073709551616 ∧ x < 18446744073709551616 ∧ PInv a n x y o ∧ Below w.heap.size w wr) (fun _ v1 _ _ => (intOf v1).toNat)
  case atStart => exact ⟨_, _, 1, rfl, rfl, rfl, hn, ha, I, Below.refl _ _⟩
  case round =>
    obtain ⟨x, y, o, rfl, rfl, rfl, hy, hx', J, hbl⟩ := hrel
    clear I hn ha
    have a1 := and_one y hy
    by_cases h0 : 0 < y
    · have y1 : (0 : Int) < y := by omega
      have C := Lib.hid (fun W => mul x x hx' hx' W)
      have hx2 : x * x % 18446744069414584321 < 18446744073709551616 := Nat.lt_trans (Nat.mod_lt _ (by decide)) (by decide)
      by_cases ho : y % 2 = 1
      · have J2 := pinv_odd J ho
        rw [ho] at a1
        have B := Lib.hid (fun W => mul o x (Nat.lt_trans J.ho (by decide)) hx' W)
        generalize x * x % 18446744069414584321 = x' at *
        generalize o * x % 18446744069414584321 = o' at *
        go_wp2_with fail
        refine (B.out _).mono ?_
        rintro e w1 ⟨rfl, h1⟩
        go_wp2_with fail
        refine (C.out _).mono ?_
        rintro e w2 ⟨rfl, h2⟩
        go_wp2_with fail
        go_roundw
        case rel => exact ⟨x', y / 2, o', rfl, by simp, rfl, by omega, hx2, J2, (hbl.trans (h1.mono hbl.size)).trans (h2.mono (Nat.le_trans hbl.size h1.size))⟩
        case measure => simp [intOf]; omega
      · have J2 := pinv_even J ho
        rw [show y % 2 = 0 by omega] at a1
        generalize x * x % 18446744069414584321 = x' at *
        go_wp2_with fail
        refine (C.out _).mono ?_
        rintro e w2 ⟨rfl, h2⟩
        go_wp2_with fail
        go_roundw
        case rel => exact ⟨x', y / 2, o, rfl, by simp, rfl, by omega, hx2, J2, hbl.trans (h2.mono hbl.size)⟩
        case measure => simp [intOf]; omega
    · have y1 : ¬ (0 : Int) < y := by omega
      obtain rfl : y = 0 := by omega
      have E := Lib.hid (pinv_end J)
      clear J h0 y1 a1
      go_wp2
      go_ret
      exact ⟨by rw [show r = o from HR.out.trans E.out.symm]; rfl, hbl⟩

set_option maxHeartbeats 400000 in
theorem inv_none (b : Nat) (hb : b < 18446744073709551616) (h : b % 18446744069414584321 = 0) (w : World) :
    Calls Tryd.prog 60 #[.int .u64 b] w fun e w' => e = .returned (.tuple #[.int .u64 0, .int .i64 13]) ∧ w = w' := by
  have O := Lib.hid (fun W => of b hb W)
  rw [h] at O
  clear h hb
  go_enter Tryd.func60, Tryd.ntmps60
  go_wp2_with fail
  refine (O.out _).mono ?_
  rintro e w1 ⟨rfl, rfl⟩
  go_wp2
  go_ret2
  exact ⟨rfl, rfl⟩
theorem pow_inv (b : Nat) (hb : b < 18446744073709551616) (w : World) :
    Calls Tryd.prog 36 #[.int .u64 b, .int .u64 18446744069414584319] w fun e w' => e = .returned (.int .u64 ((Nt.inv b : Nat) : Int)) ∧ Below w.heap.size w w' := by
  obtain ⟨m, hm⟩ : ∃ m : Nat, m = 18446744069414584319 := ⟨_, rfl⟩
  have c := pow b m hb (by omega) w
  rw [← Nt.inv_pow b m hm] at c
  rw [show (18446744069414584319 : Int) = ((m : Nat) : Int) by omega]
  exact c
set_option maxHeartbeats 400000 in
theorem inv_some (b : Nat) (hb : b < 18446744073709551616) (h : b % 18446744069414584321 ≠ 0) (w : World) :
    Calls Tryd.prog 60 #[.int .u64 b] w fun e w' => e = .returned (.tuple #[.int .u64 ((Nt.inv b : Nat) : Int), .int .i64 0]) ∧ Below w.heap.size w w' := by
  have O := Lib.hid (fun W => of b hb W)
  have I := Lib.hid (fun W => pow_inv b hb W)
  generalize b % 18446744069414584321 = x at *
  generalize Nt.inv b = y at *
  have x0 : ((x : Int) == 0) = false := by simp; omega
  clear h hb
  go_enter Tryd.func60, Tryd.ntmps60
  go_wp2_with fail
  refine (O.out _).mono ?_
  rintro e w1 ⟨rfl, rfl⟩
  go_wp2_with fail
  refine (I.out _).mono ?_
  rintro e w1 ⟨rfl, h1⟩
  go_wp2
  go_ret2
  exact ⟨rfl, h1⟩

end Gd
end Go.Proofs.YtnnieiedkjekpaaDoor
