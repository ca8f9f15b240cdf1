/- Contracts of package root's functions: Root, Back, OrderOf, Log, of every word and number; nothing that was there is written. -/
import Derived.Test.YtnnieiedkjekpaaDoorGoldP
import Derived.Test.YtnnieiedkjekpaaDoorPlain
set_option linter.unusedVariables false
namespace Go.Proofs.YtnnieiedkjekpaaDoor
open Go.RowKit Go.Lib
namespace Rt
open Nm

set_option maxHeartbeats 400000 in
theorem root_low (k : Int) (h : k < 0) (w : World) :
    Calls Tryd.prog 55 #[.int .i64 k] w fun e w' => e = .returned (.tuple #[.int .u64 0, .int .i64 1]) ∧ w = w' := by
  go_enter Tryd.func55, Tryd.ntmps55
  go_wp2
  go_ret2
  exact ⟨rfl, rfl⟩
set_option maxHeartbeats 400000 in
theorem root_high (k : Int) (h : 32 < k) (w : World) :
    Calls Tryd.prog 55 #[.int .i64 k] w fun e w' => e = .returned (.tuple #[.int .u64 0, .int .i64 1]) ∧ w = w' := by
  have h1 : ¬ k < 0 := by omega
  go_enter Tryd.func55, Tryd.ntmps55
  go_wp2
  go_ret2
  exact ⟨rfl, rfl⟩
theorem pow7 (n : Nat) (hn : n < 18446744073709551616) (w : World) :
    Calls Tryd.prog 36 #[.int .u64 7, .int .u64 n] w fun e w' => e = .returned (.int .u64 ((7 ^ n % 18446744069414584321 : Nat) : Int)) ∧ Below w.heap.size w w' := Gd.pow 7 n (by decide) hn w
theorem pow_rt (k : Nat) (hk : k ≤ 32) (w : World) :
    Calls Tryd.prog 36 #[.int .u64 7, .int .u64 (Nt.rtE k : Nat)] w fun e w' => e = .returned (.int .u64 (Nt.rt k : Nat)) ∧ Below w.heap.size w w' := pow7 _ (Nt.rtE_le k hk) w
theorem shr_cast (k : Nat) (hk : k ≤ 32) : (18446744069414584320 : Int) / 2 ^ k = ((Nt.rtE k : Nat) : Int) := by
  rw [← Nt.rtE_div k hk]; simp
set_option maxHeartbeats 400000 in
theorem root (k : Nat) (hk : k ≤ 32) (w : World) :
    Calls Tryd.prog 55 #[.int .i64 (k : Int)] w fun e w' => e = .returned (.tuple #[.int .u64 (Nt.rt k : Nat), .int .i64 0]) ∧ Below w.heap.size w w' := by
  have h1 : (k : Int) ≤ 32 := by omega
  have C := Lib.hid (fun W => pow_rt k hk W)
  have s1 := shr_cast k hk
  generalize Nt.rt k = r at *
  generalize Nt.rtE k = e at *
  go_enter Tryd.func55, Tryd.ntmps55
  go_wp2_with fail
  refine (C.out _).mono ?_
  rintro e w1 ⟨rfl, h1⟩
  go_wp2
  go_ret2
  exact ⟨rfl, h1⟩

theorem root_a (w : World) : Calls Tryd.prog 55 #[.int .i64 1] w fun e w' => e = .returned (.tuple #[.int .u64 18446744069414584320, .int .i64 0]) ∧ Below w.heap.size w w' := by
  obtain ⟨m, hm⟩ : ∃ m : Nat, m = 0 := ⟨_, rfl⟩
  have c := root (m + 1) (by omega) w
  rw [Nt.rt1 m hm] at c
  rw [show (1 : Int) = ((m + 1 : Nat) : Int) by omega]
  exact c
theorem root_b (w : World) : Calls Tryd.prog 55 #[.int .i64 2] w fun e w' => e = .returned (.tuple #[.int .u64 281474976710656, .int .i64 0]) ∧ Below w.heap.size w w' := by
  obtain ⟨m, hm⟩ : ∃ m : Nat, m = 2 := ⟨_, rfl⟩
  have c := root m (by omega) w
  rw [Nt.rt2 m hm] at c
  rw [show (2 : Int) = ((m : Nat) : Int) by omega]
  exact c

set_option maxHeartbeats 400000 in
theorem back_low (k : Int) (h : k < 0) (w : World) :
    Calls Tryd.prog 56 #[.int .i64 k] w fun e w' => e = .returned (.tuple #[.int .u64 0, .int .i64 1]) ∧ w = w' := by
  have C := Lib.hid (fun W => root_low k h W)
  clear h
  go_enter Tryd.func56, Tryd.ntmps56
  go_wp2_with fail
  refine (C.out _).mono ?_
  rintro e w1 ⟨rfl, rfl⟩
  go_wp2
  go_ret2
  exact ⟨rfl, rfl⟩
set_option maxHeartbeats 400000 in
theorem back_high (k : Int) (h : 32 < k) (w : World) :
    Calls Tryd.prog 56 #[.int .i64 k] w fun e w' => e = .returned (.tuple #[.int .u64 0, .int .i64 1]) ∧ w = w' := by
  have C := Lib.hid (fun W => root_high k h W)
  clear h
  go_enter Tryd.func56, Tryd.ntmps56
  go_wp2_with fail
  refine (C.out _).mono ?_
  rintro e w1 ⟨rfl, rfl⟩
  go_wp2
  go_ret2
  exact ⟨rfl, rfl⟩
set_option maxHeartbeats 400000 in
theorem back (k : Nat) (hk : k ≤ 32) (w : World) :
    Calls Tryd.prog 56 #[.int .i64 (k : Int)] w fun e w' => e = .returned (.tuple #[.int .u64 (Nt.inv (Nt.rt k) : Nat), .int .i64 0]) ∧ Below w.heap.size w w' := by
  have C := Lib.hid (fun W => root k hk W)
  have D := Lib.hid (fun W => Gd.inv_some (Nt.rt k) (Nat.lt_trans (Nt.rt_lt k) (by decide)) (Nt.rt_ne k hk) W)
  generalize Nt.inv (Nt.rt k) = q at *
  generalize Nt.rt k = r at *
  clear hk
  go_enter Tryd.func56, Tryd.ntmps56
  go_wp2_with fail
  refine (C.out _).mono ?_
  rintro e w1 ⟨rfl, h1⟩
  go_wp2_with fail
  refine (D.out _).mono ?_
  rintro e w2 ⟨rfl, h2⟩
  go_wp2
  go_ret2
  exact ⟨rfl, h1.trans (h2.mono h1.size)⟩

end Rt
end Go.Proofs.YtnnieiedkjekpaaDoor
