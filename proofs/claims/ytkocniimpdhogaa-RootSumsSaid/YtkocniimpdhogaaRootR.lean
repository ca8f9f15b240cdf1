/- Contracts of the document's own answers for layer 3: Root, OrderOf; they leave the world as it is. -/
import Derived.Test.YtkocniimpdhogaaGoldR
import Derived.Test.YtkocniimpdhogaaRootN
set_option linter.unusedVariables false
namespace Go.Proofs.Ytkocniimpdhogaa
open Go.RowKit Go.Lib
namespace Rr
open Nm

theorem pow7 (n : Nat) (hn : n < 18446744073709551616) (w : World) :
    Calls Try.prog 12 #[.int .u64 7, .int .u64 n] w fun e w' => e = .returned (.int .u64 ((7 ^ n % 18446744069414584321 : Nat) : Int)) ∧ w = w' := Gr.pow 7 n hn w
theorem pow_rt (k : Nat) (hk : k ≤ 32) (w : World) :
    Calls Try.prog 12 #[.int .u64 7, .int .u64 (Nt.rtE k : Nat)] w fun e w' => e = .returned (.int .u64 (Nt.rt k : Nat)) ∧ w = w' := pow7 _ (Nt.rtE_le k hk) w
theorem rtE_two (k : Nat) (hk : k < 32) : Nt.rtE k / 2 = Nt.rtE (k + 1) := by have := Nt.rtE_next k hk; omega
theorem rtE_zero : (18446744069414584320 : Int) = ((Nt.rtE 0 : Nat) : Int) := by
  have := Nt.rtE_mul 0 (by decide)
  rw [Nat.pow_zero, Nat.mul_one] at this
  rw [this]; rfl

set_option maxHeartbeats 1000000 in
set_option maxRecDepth 100000 in
theorem root (k : Nat) (hk : k ≤ 32) (w : World) :
    Calls Try.prog 13 #[.int .i64 (k : Int)] w fun e w' => e = .returned (.int .u64 (Nt.rt k : Nat)) ∧ w = w' := by
  have C := Lib.hid (fun W => pow_rt k hk W)
  have Z := Lib.hid rtE_zero
  generalize Nt.rt k = r at *
  go_enter Try.func13, Try.ntmps13
  go_wp2_with fail
  go_loop [3, 4] (fun v3 v4 => ∃ i : Nat, v3 = .int .u64 (Nt.rtE i : Nat) ∧ v4 = .int .i64 (i : Int) ∧ i ≤ k) (fun _ v4 => k - (intOf v4).toNat)
  case atStart => exact ⟨0, by rw [Z.out], rfl, Nat.zero_le _⟩
  case round =>
    obtain ⟨i, rfl, rfl, hi⟩ := hrel
    clear Z
    by_cases hlt : i < k
    · have i1 : (i : Int) < k := by omega
      have E := rtE_two i (by omega)
      have E2 := Nt.rtE_le (i + 1) (by omega)
      generalize Nt.rtE i = x at *
      generalize hy : Nt.rtE (i + 1) = y at *
      have Y := Lib.hid hy
      have q1 : (x : Int) / 2 = (y : Int) := by omega
      have q2 := Bt.wrapN y E2
      clear hy E E2
      go_wp2_with fail
      go_round
      case rel => exact ⟨i + 1, by rw [Y.out], rfl, by omega⟩
      case measure => simp [intOf]; omega
    · have i1 : ¬ (i : Int) < k := by omega
      obtain rfl : k = i := by omega
      generalize Nt.rtE k = x at *
      go_wp2_with fail
      refine (C.out _).mono ?_
      rintro e w1 ⟨rfl, rfl⟩
      go_wp2
      go_ret
      exact ⟨rfl, rfl⟩

set_option maxHeartbeats 1000000 in
set_option maxRecDepth 100000 in
theorem order_some (a m : Nat) (hm : m ≤ 32) (h1 : Nt.One a m) (h2 : ∀ j, j < m → ¬ Nt.One a j) (w : World) :
    Calls Try.prog 10 #[.int .u64 a] w fun e w' => e = .returned (.int .i64 (m : Int)) ∧ w = w' := by
  have O := Lib.hid (fun W => Gr.of a W)
  have a0 : a % 18446744069414584321 ≠ 0 := fun h => by
    have := Nt.pow_zero_mod a (2 ^ m) h (Nat.two_pow_pos m)
    unfold Nt.One at h1
    omega
  have P := Lib.hid (fun i (hi : i < 64) W => Gr.pow a (2 ^ i) (Nat.pow_lt_pow_right (by decide) hi : 2 ^ i < 2 ^ 64) W)
  have H1 := Lib.hid h1
  have H2 := Lib.hid h2
  generalize a % 18446744069414584321 = a1 at *
  have x0 : ((a1 : Int) != 0) = true := by simp; omega
  clear h1 h2 a0
  go_enter Try.func10, Try.ntmps10
  go_wp2_with fail
  go_loop [3, 4] (fun v3 v4 => ∃ i n : Nat, v3 = .int .u64 n ∧ v4 = .int .i64 (i : Int) ∧ i ≤ m ∧ n = 2 ^ i) (fun _ v4 => 33 - (intOf v4).toNat)
  case atStart => exact ⟨0, 1, rfl, rfl, Nat.zero_le _, rfl⟩
  case round =>
    obtain ⟨i, n, rfl, rfl, hi, hn⟩ := hrel
    have i1 : (i : Int) ≤ 32 := by omega
    have Q := Lib.hid (P.out i (by omega))
    have hs : 2 ^ (i + 1) = 2 * n := by rw [hn, Nat.pow_succ, Nat.mul_comm]
    have hl : 2 * n ≤ 2 ^ 33 := by rw [← hs]; exact Nat.pow_le_pow_right (by decide) (by omega)
    have HS := Lib.hid hs
    rw [← hn] at Q
    clear hs P
    by_cases e : i = m
    · subst e
      have h := H1.out
      unfold Nt.One at h
      rw [← hn] at h
      rw [h] at Q
      clear hn h hl hi H1 H2
      go_wp2_with fail
      refine (Q.out _).mono ?_
      rintro e w1 ⟨rfl, rfl⟩
      go_wp2_with fail
      refine (O.out _).mono ?_
      rintro e w1 ⟨rfl, rfl⟩
      go_wp2
      go_ret
      exact ⟨rfl, rfl⟩
    · have h := H2.out i (by omega)
      unfold Nt.One at h
      rw [← hn] at h
      generalize a ^ n % 18446744069414584321 = x at *
      have x1 : ((x : Int) == 1) = false := by simp; omega
      have q1 : IntKind.u64.wrap (2 * (n : Int)) = ((2 * n : Nat) : Int) := by rw [IntKind.wrap_u64]; omega
      obtain ⟨n2, hn2⟩ : ∃ n2, n2 = 2 * n := ⟨_, rfl⟩
      rw [← hn2] at q1 HS
      clear hn h hl hn2 H1 H2
      go_wp2_with fail
      refine (Q.out _).mono ?_
      rintro e w1 ⟨rfl, rfl⟩
      go_wp2_with fail
      go_round
      case rel => exact ⟨i + 1, n2, rfl, rfl, by omega, HS.out.symm⟩
      case measure => simp [intOf]; omega

set_option maxHeartbeats 1000000 in
set_option maxRecDepth 100000 in
theorem order_none (a : Nat) (h2 : ∀ j, j ≤ 32 → ¬ Nt.One a j) (w : World) :
    Calls Try.prog 10 #[.int .u64 a] w fun e w' => e = .returned (.int .i64 (-1)) ∧ w = w' := by
  have P := Lib.hid (fun i (hi : i < 64) W => Gr.pow a (2 ^ i) (Nat.pow_lt_pow_right (by decide) hi : 2 ^ i < 2 ^ 64) W)
  have H2 := Lib.hid h2
  clear h2
  go_enter Try.func10, Try.ntmps10
  go_wp2_with fail
  go_loop [3, 4] (fun v3 v4 => ∃ i n : Nat, v3 = .int .u64 n ∧ v4 = .int .i64 (i : Int) ∧ i ≤ 33 ∧ n = 2 ^ i) (fun _ v4 => 33 - (intOf v4).toNat)
  case atStart => exact ⟨0, 1, rfl, rfl, Nat.zero_le _, rfl⟩
  case round =>
    obtain ⟨i, n, rfl, rfl, hi, hn⟩ := hrel
    have Q := Lib.hid (P.out i (by omega))
    have hs : 2 ^ (i + 1) = 2 * n := by rw [hn, Nat.pow_succ, Nat.mul_comm]
    have hl : 2 * n ≤ 2 ^ 34 := by rw [← hs]; exact Nat.pow_le_pow_right (by decide) (by omega)
    have HS := Lib.hid hs
    rw [← hn] at Q
    clear hs P
    by_cases e : i ≤ 32
    · have i1 : (i : Int) ≤ 32 := by omega
      have h := H2.out i (by omega)
      unfold Nt.One at h
      rw [← hn] at h
      generalize a ^ n % 18446744069414584321 = x at *
      have x1 : ((x : Int) == 1) = false := by simp; omega
      have q1 : IntKind.u64.wrap (2 * (n : Int)) = ((2 * n : Nat) : Int) := by rw [IntKind.wrap_u64]; omega
      obtain ⟨n2, hn2⟩ : ∃ n2, n2 = 2 * n := ⟨_, rfl⟩
      rw [← hn2] at q1 HS
      clear hn h hl hn2 H2
      go_wp2_with fail
      refine (Q.out _).mono ?_
      rintro e w1 ⟨rfl, rfl⟩
      go_wp2_with fail
      go_round
      case rel => exact ⟨i + 1, n2, rfl, rfl, by omega, HS.out.symm⟩
      case measure => simp [intOf]; omega
    · have i1 : ¬ (i : Int) ≤ 32 := by omega
      clear hn hl HS H2
      go_wp2
      go_ret
      exact ⟨rfl, rfl⟩
end Rr
end Go.Proofs.Ytkocniimpdhogaa
