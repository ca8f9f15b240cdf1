/- Contracts of the document's own answers for layer 3: Root, OrderOf; they leave the world as it is. -/
import Derived.Test.YtfjoacopnkceoaaDoorGoldR
import Derived.Test.YtfjoacopnkceoaaDoorPlain
set_option linter.unusedVariables false
namespace Go.Proofs.YtfjoacopnkceoaaDoor
open Go.RowKit Go.Lib
namespace Rr
open Nm

theorem pow7 (n : Nat) (hn : n < 18446744073709551616) (w : World) :
    Calls Tryd.prog 63 #[.int .u64 7, .int .u64 n] w fun e w' => e = .returned (.int .u64 ((7 ^ n % 18446744069414584321 : Nat) : Int)) ∧ w = w' := Gr.pow 7 n hn w
theorem pow_rt (k : Nat) (hk : k ≤ 32) (w : World) :
    Calls Tryd.prog 63 #[.int .u64 7, .int .u64 (Nt.rtE k : Nat)] w fun e w' => e = .returned (.int .u64 (Nt.rt k : Nat)) ∧ w = w' := pow7 _ (Nt.rtE_le k hk) w
theorem rtE_two (k : Nat) (hk : k < 32) : Nt.rtE k / 2 = Nt.rtE (k + 1) := by have := Nt.rtE_next k hk; omega
theorem rtE_zero : (18446744069414584320 : Int) = ((Nt.rtE 0 : Nat) : Int) := by
  have := Nt.rtE_mul 0 (by decide)
  rw [Nat.pow_zero, Nat.mul_one] at this
  rw [this]; rfl

set_option maxHeartbeats 1000000 in
set_option maxRecDepth 100000 in
theorem root (k : Nat) (hk : k ≤ 32) (w : World) :
    Calls Tryd.prog 77 #[.int .i64 (k : Int)] w fun e w' => e = .returned (.int .u64 (Nt.rt k : Nat)) ∧ w = w' := by
  have C := Lib.hid (fun W => pow_rt k hk W)
  have Z := Lib.hid rtE_zero
  generalize Nt.rt k = r at *
  go_enter Tryd.func77, Tryd.ntmps77
  go_wp2_with fail
  go_loop [3, 4] (fun v3 v4 => ∃ i : Nat, v3 = .int .u64 (Nt.rtE i : Nat) ∧ v4 = .int .i64 (i : Int) ∧ i ≤ k) (fun _ v4 => k - (intOf v4).toNat)
  case atStart => exact ⟨0, by rw [Z.out], rfl, Nat.zero_le _⟩
  case round =>
    obtain ⟨i, rfl, rfl, hi⟩ := hrel
    clear Z
    by_cases hlt : i < k
    · have i1 : (i : Int) < k := by omega
      have E := rtE_two i (by omega)
      have E2 := Nt.rtE_le (i + 1) (by omega)
      generalize Nt.rtE i = x at *
      generalize hy : Nt.rtE (i + 1) = y at *
      have Y := Lib.hid hy
      have q1 : (x : Int) / 2 = (y : Int) := by omega
      have q2 := Bt.wrapN y E2
      clear hy E E2
      go_wp2_with fail
      go_round
      case rel => exact ⟨i + 1, by rw [Y.out], rfl, by omega⟩
      case measure => simp [intOf]; omega
    · have i1 : ¬ (i : Int) < k := by omega
      obtain rfl : k = i := by omega
      generalize Nt.rtE k = x at *
      go_wp2_with fail
      refine (C.out _).mono ?_
      rintro e w1 ⟨rfl, rfl⟩
      go_wp2
      go_ret
      exact ⟨rfl, rfl⟩


end Rr
end Go.Proofs.YtfjoacopnkceoaaDoor
