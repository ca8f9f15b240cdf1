/- Contracts of package root's functions: Root, Back, OrderOf, Log, of every word and number; nothing that was there is written. -/
import Derived.Test.YtkocniimpdhogaaGoldP
import Derived.Test.YtkocniimpdhogaaRootN
set_option linter.unusedVariables false
namespace Go.Proofs.Ytkocniimpdhogaa
open Go.RowKit Go.Lib
namespace Rt
open Nm

set_option maxHeartbeats 400000 in
theorem root_low (k : Int) (h : k < 0) (w : World) :
    Calls Try.prog 15 #[.int .i64 k] w fun e w' => e = .returned (.tuple #[.int .u64 0, .int .i64 1]) ∧ w = w' := by
  go_enter Try.func15, Try.ntmps15
  go_wp2
  go_ret2
  exact ⟨rfl, rfl⟩
set_option maxHeartbeats 400000 in
theorem root_high (k : Int) (h : 32 < k) (w : World) :
    Calls Try.prog 15 #[.int .i64 k] w fun e w' => e = .returned (.tuple #[.int .u64 0, .int .i64 1]) ∧ w = w' := by
  have h1 : ¬ k < 0 := by omega
  go_enter Try.func15, Try.ntmps15
  go_wp2
  go_ret2
  exact ⟨rfl, rfl⟩
theorem pow7 (n : Nat) (hn : n < 18446744073709551616) (w : World) :
    Calls Try.prog 21 #[.int .u64 7, .int .u64 n] w fun e w' => e = .returned (.int .u64 ((7 ^ n % 18446744069414584321 : Nat) : Int)) ∧ Below w.heap.size w w' := Gd.pow 7 n (by decide) hn w
theorem pow_rt (k : Nat) (hk : k ≤ 32) (w : World) :
    Calls Try.prog 21 #[.int .u64 7, .int .u64 (Nt.rtE k : Nat)] w fun e w' => e = .returned (.int .u64 (Nt.rt k : Nat)) ∧ Below w.heap.size w w' := pow7 _ (Nt.rtE_le k hk) w
theorem shr_cast (k : Nat) (hk : k ≤ 32) : (18446744069414584320 : Int) / 2 ^ k = ((Nt.rtE k : Nat) : Int) := by
  rw [← Nt.rtE_div k hk]; simp
set_option maxHeartbeats 400000 in
theorem root (k : Nat) (hk : k ≤ 32) (w : World) :
    Calls Try.prog 15 #[.int .i64 (k : Int)] w fun e w' => e = .returned (.tuple #[.int .u64 (Nt.rt k : Nat), .int .i64 0]) ∧ Below w.heap.size w w' := by
  have h1 : (k : Int) ≤ 32 := by omega
  have C := Lib.hid (fun W => pow_rt k hk W)
  have s1 := shr_cast k hk
  generalize Nt.rt k = r at *
  generalize Nt.rtE k = e at *
  go_enter Try.func15, Try.ntmps15
  go_wp2_with fail
  refine (C.out _).mono ?_
  rintro e w1 ⟨rfl, h1⟩
  go_wp2
  go_ret2
  exact ⟨rfl, h1⟩

theorem root_a (w : World) : Calls Try.prog 15 #[.int .i64 1] w fun e w' => e = .returned (.tuple #[.int .u64 18446744069414584320, .int .i64 0]) ∧ Below w.heap.size w w' := by
  obtain ⟨m, hm⟩ : ∃ m : Nat, m = 0 := ⟨_, rfl⟩
  have c := root (m + 1) (by omega) w
  rw [Nt.rt1 m hm] at c
  rw [show (1 : Int) = ((m + 1 : Nat) : Int) by omega]
  exact c
theorem root_b (w : World) : Calls Try.prog 15 #[.int .i64 2] w fun e w' => e = .returned (.tuple #[.int .u64 281474976710656, .int .i64 0]) ∧ Below w.heap.size w w' := by
  obtain ⟨m, hm⟩ : ∃ m : Nat, m = 2 := ⟨_, rfl⟩
  have c := root m (by omega) w
  rw [Nt.rt2 m hm] at c
  rw [show (2 : Int) = ((m : Nat) : Int) by omega]
  exact c
set_option maxHeartbeats 400000 in
theorem awake (w : World) : Calls Try.prog 6 #[] w fun e w' => e = .returned (.bool true) ∧ Below w.heap.size w w' := by
  go_enter Try.func6, Try.ntmps6
  go_wp2_with fail
  refine (root_a _).mono ?_
  rintro e w1 ⟨rfl, h1⟩
  go_wp2_with fail
  refine (root_b _).mono ?_
  rintro e w2 ⟨rfl, h2⟩
  go_wp2
  go_ret
  exact ⟨by rfl, h1.trans (h2.mono h1.size)⟩

set_option maxHeartbeats 400000 in
theorem back_low (k : Int) (h : k < 0) (w : World) :
    Calls Try.prog 20 #[.int .i64 k] w fun e w' => e = .returned (.tuple #[.int .u64 0, .int .i64 1]) ∧ w = w' := by
  have C := Lib.hid (fun W => root_low k h W)
  clear h
  go_enter Try.func20, Try.ntmps20
  go_wp2_with fail
  refine (C.out _).mono ?_
  rintro e w1 ⟨rfl, rfl⟩
  go_wp2
  go_ret2
  exact ⟨rfl, rfl⟩
set_option maxHeartbeats 400000 in
theorem back_high (k : Int) (h : 32 < k) (w : World) :
    Calls Try.prog 20 #[.int .i64 k] w fun e w' => e = .returned (.tuple #[.int .u64 0, .int .i64 1]) ∧ w = w' := by
  have C := Lib.hid (fun W => root_high k h W)
  clear h
  go_enter Try.func20, Try.ntmps20
  go_wp2_with fail
  refine (C.out _).mono ?_
  rintro e w1 ⟨rfl, rfl⟩
  go_wp2
  go_ret2
  exact ⟨rfl, rfl⟩
set_option maxHeartbeats 400000 in
theorem back (k : Nat) (hk : k ≤ 32) (w : World) :
    Calls Try.prog 20 #[.int .i64 (k : Int)] w fun e w' => e = .returned (.tuple #[.int .u64 (Nt.inv (Nt.rt k) : Nat), .int .i64 0]) ∧ Below w.heap.size w w' := by
  have C := Lib.hid (fun W => root k hk W)
  have D := Lib.hid (fun W => Gd.inv_some (Nt.rt k) (Nat.lt_trans (Nt.rt_lt k) (by decide)) (Nt.rt_ne k hk) W)
  generalize Nt.inv (Nt.rt k) = q at *
  generalize Nt.rt k = r at *
  clear hk
  go_enter Try.func20, Try.ntmps20
  go_wp2_with fail
  refine (C.out _).mono ?_
  rintro e w1 ⟨rfl, h1⟩
  go_wp2_with fail
  refine (D.out _).mono ?_
  rintro e w2 ⟨rfl, h2⟩
  go_wp2
  go_ret2
  exact ⟨rfl, h1.trans (h2.mono h1.size)⟩

set_option maxHeartbeats 1000000 in
set_option maxRecDepth 100000 in
theorem order_some (a m : Nat) (ha : a < 18446744073709551616) (hm : m ≤ 32) (h1 : Nt.One a m) (h2 : ∀ j, j < m → ¬ Nt.One a j) (w : World) :
    Calls Try.prog 9 #[.int .u64 a] w fun e w' => e = .returned (.tuple #[.int .i64 (m : Int), .bool true]) ∧ Below w.heap.size w w' := by
  have A := Lib.hid (fun W => Gd.of a ha W)
  have I : a % 18446744069414584321 = a ^ 2 ^ 0 % 18446744069414584321 := by rw [Nat.pow_zero, Nat.pow_one]
  have HI := Lib.hid I
  clear I
  have H1 := Lib.hid h1
  have H2 := Lib.hid h2
  clear h1 h2 ha
  generalize a % 18446744069414584321 = a0 at *
  go_enter Try.func9, Try.ntmps9
  go_wp2_with fail
  refine (A.out _).mono ?_
  rintro e w1 ⟨rfl, rfl⟩
  go_wp2_with fail
  go_loopw [0, 7] (fun v0 v7 wr => ∃ x i : Nat, v0 = .int .u64 x ∧ v7 = .int .i64 (i : Int) ∧ i ≤ m ∧ x = a ^ 2 ^ i % 18446744069414584321 ∧ Below w.heap.size w wr) (fun _ v7 _ => 32 - (intOf v7).toNat)
  case atStart => exact ⟨a0, 0, rfl, rfl, Nat.zero_le _, HI.out, Below.refl _ _⟩
  case round =>
    obtain ⟨x, i, rfl, rfl, hi, hx, hbl⟩ := hrel
    have hxl : x < 18446744069414584321 := by rw [hx]; exact Nat.mod_lt _ (by decide)
    have i1 : (i : Int) < 33 := by omega
    have X := Lib.hid hx
    have X2 := Lib.hid (Nt.one_sq a i x hx)
    clear hx A
    by_cases e : i = m
    · subst e
      obtain rfl : x = 1 := X.out.trans H1.out
      clear X2 hxl hi
      go_wp2
      go_ret2
      exact ⟨rfl, hbl⟩
    · have x1 : ((x : Int) == 1) = false := by
        have := H2.out i (by omega)
        unfold Nt.One at this
        rw [← X.out] at this
        simp; omega
      have C := Lib.hid (fun W => Gd.mul x x (by omega) (by omega) W)
      generalize x * x % 18446744069414584321 = x' at *
      clear hxl
      go_wp2_with fail
      refine (C.out _).mono ?_
      rintro e w2 ⟨rfl, h2⟩
      go_wp2_with fail
      go_roundw
      case rel => exact ⟨x', i + 1, rfl, rfl, by omega, X2.out, hbl.trans (h2.mono hbl.size)⟩
      case measure => simp [intOf]; omega
set_option maxHeartbeats 1000000 in
set_option maxRecDepth 100000 in
theorem order_none (a : Nat) (ha : a < 18446744073709551616) (h2 : ∀ j, j ≤ 32 → ¬ Nt.One a j) (w : World) :
    Calls Try.prog 9 #[.int .u64 a] w fun e w' => e = .returned (.tuple #[.int .i64 0, .bool false]) ∧ Below w.heap.size w w' := by
  have A := Lib.hid (fun W => Gd.of a ha W)
  have I : a % 18446744069414584321 = a ^ 2 ^ 0 % 18446744069414584321 := by rw [Nat.pow_zero, Nat.pow_one]
  have HI := Lib.hid I
  clear I
  have H2 := Lib.hid h2
  clear h2 ha
  generalize a % 18446744069414584321 = a0 at *
  go_enter Try.func9, Try.ntmps9
  go_wp2_with fail
  refine (A.out _).mono ?_
  rintro e w1 ⟨rfl, rfl⟩
  go_wp2_with fail
  go_loopw [0, 7] (fun v0 v7 wr => ∃ x i : Nat, v0 = .int .u64 x ∧ v7 = .int .i64 (i : Int) ∧ i ≤ 33 ∧ x = a ^ 2 ^ i % 18446744069414584321 ∧ Below w.heap.size w wr) (fun _ v7 _ => 33 - (intOf v7).toNat)
  case atStart => exact ⟨a0, 0, rfl, rfl, Nat.zero_le _, HI.out, Below.refl _ _⟩
  case round =>
    obtain ⟨x, i, rfl, rfl, hi, hx, hbl⟩ := hrel
    have hxl : x < 18446744069414584321 := by rw [hx]; exact Nat.mod_lt _ (by decide)
    have X := Lib.hid hx
    have X2 := Lib.hid (Nt.one_sq a i x hx)
    clear hx A
    by_cases e : i < 33
    · have i1 : (i : Int) < 33 := by omega
      have x1 : ((x : Int) == 1) = false := by
        have := H2.out i (by omega)
        unfold Nt.One at this
        rw [← X.out] at this
        simp; omega
      have C := Lib.hid (fun W => Gd.mul x x (by omega) (by omega) W)
      generalize x * x % 18446744069414584321 = x' at *
      clear hxl
      go_wp2_with fail
      refine (C.out _).mono ?_
      rintro e w2 ⟨rfl, h2⟩
      go_wp2_with fail
      go_roundw
      case rel => exact ⟨x', i + 1, rfl, rfl, by omega, X2.out, hbl.trans (h2.mono hbl.size)⟩
      case measure => simp [intOf]; omega
    · have i1 : ¬ (i : Int) < 33 := by omega
      clear X X2 hxl
      go_wp2
      go_ret2
      exact ⟨rfl, hbl⟩
end Rt
end Go.Proofs.Ytkocniimpdhogaa
