/- Contracts of Fits, the program's and the document's own, and of math/bits.TrailingZeros at powers of two, where the library's table is as its initialiser lays it. -/
import Derived.Test.YtnnieiedkjekpaaDoorChecked
import Derived.Test.YtnnieiedkjekpaaDoorBitsI
import Derived.Test.YtnnieiedkjekpaaDoorPlain
import Derived.Lib.TrailingZeros
import Derived.WalkKit
import Derived.ProofKit
import Derived.Below
import Derived.Lib.Hide
import Derived.Lib.Walk
set_option linter.unusedVariables false
namespace Go.Proofs.YtnnieiedkjekpaaDoor
open Go.RowKit Go.Lib
namespace Ft

/-- The library's table is there. -/
def Tab (w : World) : Prop := ∀ i, i < 64 → w.cell? ⟨1, i, none⟩ = some (.int .u8 (Lib.deBruijn64tab.getD i 0 : Nat))
theorem Tab.below {w w' : World} (h : Tab w) (hb : Below w.heap.size w w') : Tab w' := fun i hi =>
  (hb.cell (p := ⟨1, i, none⟩) (World.block_lt_of_cell? w _ (h i hi))).trans (h i hi)

theorem pow_and (j : Nat) : 2 ^ j &&& (2 ^ j - 1) = 0 := by rw [Nat.and_two_pow_sub_one_eq_mod, Nat.mod_self]
theorem pow_of_and (n : Nat) (h0 : 0 < n) (h : n &&& (n - 1) = 0) : ∃ j, n = 2 ^ j := by
  refine Classical.byContradiction fun hne => ?_
  have n0 : n ≠ 0 := by omega
  have h1 := Nat.log2_self_le n0
  have h2 := Nat.lt_log2_self (n := n)
  have h3 : n ≠ 2 ^ n.log2 := fun e => hne ⟨_, e⟩
  have b1 := Nat.testBit_of_two_pow_le_and_two_pow_add_one_gt h1 h2
  have b2 := Nat.testBit_of_two_pow_le_and_two_pow_add_one_gt (n := n - 1) (i := n.log2) (by omega) (by omega)
  have := congrArg (fun x => x.testBit n.log2) h
  simp [b1, b2] at this

theorem tz_key (j : Nat) (hj : j < 63) : IntKind.u64.wrap (bits BinOp.and IntKind.u64 ((2 ^ j : Nat) : Int) (IntKind.u64.wrap (-((2 ^ j : Nat) : Int))) * 285870213051353865) / 288230376151711744 = ((2 ^ j * 285870213051353865 % 18446744073709551616 / 288230376151711744 : Nat) : Int) := by
  have hp : 0 < 2 ^ j := Nat.two_pow_pos j
  have hl : 2 ^ j < 2 ^ 63 := Nat.pow_lt_pow_right (by decide) hj
  have ha := Lib.and_neg 64 j 0 (by omega)
  rw [Nat.mul_zero, Nat.zero_add, Nat.mul_one] at ha
  generalize 2 ^ j = x at *
  have e1 : IntKind.u64.wrap (-(x : Int)) = ((18446744073709551616 - x : Nat) : Int) := by rw [IntKind.wrap_u64]; omega
  rw [e1, bits_and_u64_nat x _ (by omega) (by omega), show x &&& (18446744073709551616 - x) = x from ha, IntKind.wrap_u64]
  omega

set_option maxHeartbeats 1000000 in
theorem tz64_core (x idx k : Nat) (w : World) (x0 : ((x : Int) == 0) = false)
    (key : IntKind.u64.wrap (bits BinOp.and IntKind.u64 (x : Int) (IntKind.u64.wrap (-(x : Int))) * 285870213051353865) / 288230376151711744 = (idx : Int))
    (hi : idx < 64) (hk : k < 64) (hc : w.cell? ⟨1, idx, none⟩ = some (.int .u8 (k : Int))) :
    Calls Tryd.prog 67 #[.int .u64 (x : Int)] w fun e w' => e = .returned (.int .i64 (k : Int)) ∧ w = w' := by
  go_enter Tryd.func67, Tryd.ntmps67
  go_wp2_with (simp only [key])
  go_ret
  exact ⟨rfl, rfl⟩
theorem tz64 (j : Nat) (hj : j < 63) (w : World) (hT : Tab w) :
    Calls Tryd.prog 67 #[.int .u64 ((2 ^ j : Nat) : Int)] w fun e w' => e = .returned (.int .i64 (j : Int)) ∧ w = w' := by
  obtain ⟨hi, ht⟩ := Lib.deBruijn64_at j (by omega)
  have hc := hT _ hi
  rw [ht] at hc
  have hp : 0 < 2 ^ j := Nat.two_pow_pos j
  exact tz64_core (2 ^ j) _ j w (by rw [beq_eq_false_iff_ne]; omega) (tz_key j hj) hi (by omega) hc

set_option maxHeartbeats 1000000 in
theorem tz_core (x j : Nat) (w : World) (hx : x < 9223372036854775808)
    (C : Hid (Calls Tryd.prog 67 #[.int .u64 (x : Int)] w fun e w' => e = .returned (.int .i64 (j : Int)) ∧ w = w')) :
    Calls Tryd.prog 53 #[.int .u64 (x : Int)] w fun e w' => e = .returned (.int .i64 (j : Int)) ∧ w = w' := by
  go_enter Tryd.func53, Tryd.ntmps53
  go_wp2_with fail
  refine C.out.mono ?_
  rintro e w1 ⟨rfl, rfl⟩
  go_wp2
  go_ret
  exact ⟨rfl, rfl⟩
theorem tz (j : Nat) (hj : j < 63) (w : World) (hT : Tab w) :
    Calls Tryd.prog 53 #[.int .u64 ((2 ^ j : Nat) : Int)] w fun e w' => e = .returned (.int .i64 (j : Int)) ∧ w = w' :=
  tz_core _ j w (Nat.pow_lt_pow_right (by decide) hj : 2 ^ j < 2 ^ 63) (Lib.hid (tz64 j hj w hT))

set_option maxHeartbeats 400000 in
theorem fits_low (n : Int) (h : n ≤ 0) (w : World) :
    Calls Tryd.prog 39 #[.int .i64 n] w fun e w' => e = .returned (.tuple #[.int .i64 0, .bool false]) ∧ w = w' := by
  go_enter Tryd.func39, Tryd.ntmps39
  go_wp2
  go_ret2
  exact ⟨rfl, rfl⟩
set_option maxHeartbeats 400000 in
theorem fits_high (n : Int) (h : 4294967296 < n) (w : World) :
    Calls Tryd.prog 39 #[.int .i64 n] w fun e w' => e = .returned (.tuple #[.int .i64 0, .bool false]) ∧ w = w' := by
  have h1 : ¬ n ≤ 0 := by omega
  go_enter Tryd.func39, Tryd.ntmps39
  go_wp2
  go_ret2
  exact ⟨rfl, rfl⟩
set_option maxHeartbeats 400000 in
theorem fits_odd_core (n m a : Nat) (h0 : 0 < n) (h : n ≤ 4294967296) (hm : (n : Int) - 1 = (m : Int)) (ha : bits .and .i64 (n : Int) (m : Int) = (a : Int)) (a0 : ((a : Int) != 0) = true) (w : World) :
    Calls Tryd.prog 39 #[.int .i64 (n : Int)] w fun e w' => e = .returned (.tuple #[.int .i64 0, .bool false]) ∧ w = w' := by
  have h1 : ¬ (n : Int) ≤ 0 := by omega
  have h2 : ¬ (4294967296 : Int) < n := by omega
  go_enter Tryd.func39, Tryd.ntmps39
  go_wp2
  go_ret2
  exact ⟨rfl, rfl⟩
set_option maxHeartbeats 400000 in
theorem fits_core (n m j : Nat) (h0 : 0 < n) (h : n ≤ 4294967296) (hm : (n : Int) - 1 = (m : Int)) (ha : bits .and .i64 (n : Int) (m : Int) = 0) (w : World)
    (C : Hid (Calls Tryd.prog 53 #[.int .u64 (n : Int)] w fun e w' => e = .returned (.int .i64 (j : Int)) ∧ w = w')) :
    Calls Tryd.prog 39 #[.int .i64 (n : Int)] w fun e w' => e = .returned (.tuple #[.int .i64 (j : Int), .bool true]) ∧ w = w' := by
  have h1 : ¬ (n : Int) ≤ 0 := by omega
  have h2 : ¬ (4294967296 : Int) < n := by omega
  go_enter Tryd.func39, Tryd.ntmps39
  go_wp2_with fail
  refine C.out.mono ?_
  rintro e w1 ⟨rfl, rfl⟩
  go_wp2
  go_ret2
  exact ⟨rfl, rfl⟩
theorem fits_none (n : Int) (h : ∀ j, j ≤ 32 → n ≠ ((2 ^ j : Nat) : Int)) (w : World) :
    Calls Tryd.prog 39 #[.int .i64 n] w fun e w' => e = .returned (.tuple #[.int .i64 0, .bool false]) ∧ w = w' := by
  by_cases h0 : n ≤ 0
  · exact fits_low n h0 w
  by_cases h1 : 4294967296 < n
  · exact fits_high n h1 w
  obtain ⟨x, rfl⟩ := Int.eq_ofNat_of_zero_le (show 0 ≤ n by omega)
  refine fits_odd_core x (x - 1) (x &&& (x - 1)) (by omega) (by omega) (by omega) (Bt.and_i64 x (x - 1) (by omega) (by omega)) ?_ w
  simp only [bne_iff_ne, ne_eq]
  intro e
  obtain ⟨j, rfl⟩ := pow_of_and x (by omega) (by omega)
  have : j ≤ 32 := Nat.le_of_not_lt fun c => by
    have := Nat.pow_le_pow_right (n := 2) (by decide) c
    have e33 : 2 ^ 33 = 8589934592 := by decide
    omega
  exact h j this rfl
theorem fits_some (j : Nat) (hj : j ≤ 32) (w : World) (hT : Tab w) :
    Calls Tryd.prog 39 #[.int .i64 ((2 ^ j : Nat) : Int)] w fun e w' => e = .returned (.tuple #[.int .i64 (j : Int), .bool true]) ∧ w = w' := by
  have hp : 0 < 2 ^ j := Nat.two_pow_pos j
  have hl : 2 ^ j ≤ 2 ^ 32 := Nat.pow_le_pow_right (by decide) hj
  refine fits_core (2 ^ j) (2 ^ j - 1) j hp hl (by omega) ?_ w (Lib.hid (tz j (by omega) w hT))
  rw [Bt.and_i64 _ _ (by omega) (by omega), pow_and]
  rfl

set_option maxHeartbeats 1000000 in
set_option maxRecDepth 100000 in
theorem ref_any (n : Int) (r : Int) (hs : ∀ j : Nat, j ≤ 32 → n = ((2 ^ j : Nat) : Int) → r = (j : Int)) (hn : (∀ j : Nat, j ≤ 32 → n ≠ ((2 ^ j : Nat) : Int)) → r = -1) (w : World) :
    Calls Tryd.prog 10 #[.int .i64 n] w fun e w' => e = .returned (.int .i64 r) ∧ w = w' := by
  have HS := Lib.hid hs
  have HN := Lib.hid hn
  clear hs hn
  go_enter Tryd.func10, Tryd.ntmps10
  go_wp2_with fail
  go_loop [3, 4] (fun v3 v4 => ∃ i p : Nat, v3 = .int .i64 (p : Int) ∧ v4 = .int .i64 (i : Int) ∧ i ≤ 33 ∧ p = 2 ^ i ∧ ∀ j, j < i → n ≠ ((2 ^ j : Nat) : Int)) (fun _ v4 => 33 - (Lib.intOf v4).toNat)
  case atStart => exact ⟨0, 1, rfl, rfl, Nat.zero_le _, rfl, fun j hj => absurd hj (Nat.not_lt_zero j)⟩
  case round =>
    obtain ⟨i, p, rfl, rfl, hi, hp, hne⟩ := hrel
    have NE := Lib.hid hne
    have hl : 2 * p ≤ 2 ^ 34 := by rw [hp, Nat.mul_comm, ← Nat.pow_succ]; exact Nat.pow_le_pow_right (by decide) (by omega)
    have HP := Lib.hid hp
    clear hp hne
    by_cases h3 : i ≤ 32
    · have i1 : (i : Int) ≤ 32 := by omega
      by_cases e : n = (p : Int)
      · subst e
        have := HS.out i h3 (by rw [HP.out])
        subst this
        clear HS HN NE HP
        go_wp2
        go_ret
        exact ⟨rfl, rfl⟩
      · have e1 : (n == (p : Int)) = false := by rw [beq_eq_false_iff_ne]; exact e
        obtain ⟨p2, hp2⟩ : ∃ p2, p2 = 2 * p := ⟨_, rfl⟩
        have q1 : 2 * (p : Int) = (p2 : Int) := by omega
        have q2 : IntKind.i64.wrap (2 * (p : Int)) = (p2 : Int) := by rw [q1]; exact IntWalk.i64_in _ (by omega)
        have HP2 := Lib.hid (show p2 = 2 ^ (i + 1) by rw [hp2, HP.out, Nat.mul_comm, ← Nat.pow_succ])
        have NE2 := Lib.hid (show ∀ j, j < i + 1 → n ≠ ((2 ^ j : Nat) : Int) from fun j hj c => by
          by_cases ej : j = i
          · subst ej; rw [← HP.out] at c; exact e c
          · exact NE.out j (by omega) c)
        clear hp2 NE HS HN HP e
        go_wp2_with fail
        go_round
        case rel => exact ⟨i + 1, p2, rfl, rfl, by omega, HP2.out, NE2.out⟩
        case measure => simp [Lib.intOf]; omega
    · have i1 : ¬ (i : Int) ≤ 32 := by omega
      have := HN.out (fun j hj => NE.out j (by omega))
      subst this
      clear HS HN NE HP
      go_wp2
      go_ret
      exact ⟨rfl, rfl⟩
end Ft
end Go.Proofs.YtnnieiedkjekpaaDoor
