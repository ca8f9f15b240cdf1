/- Contracts of the document's own answer for layer 1: a number's bit, a number with one bit more. -/
import Derived.Test.YtkbhbnadkoainaaWide
import Derived.Test.YtkbhbnadkoainaaNumB
import Derived.Lib.QuietBelow
set_option linter.unusedVariables false
namespace Go.Proofs.Ytkbhbnadkoainaa
open Go.RowKit
namespace Rf
open Nm

theorem bit_hi (h l i : Nat) (hi : 64 ≤ i) (hl : l < 18446744073709551616) : h / 2 ^ (i - 64) % 2 = vl h l / 2 ^ i % 2 := by rw [vl_div_far h l i hi hl]
theorem bit_lo (h l i : Nat) (hi : i < 64) : l / 2 ^ i % 2 = vl h l / 2 ^ i % 2 := by
  rw [vl_div_mid h l i (by omega), show 64 - i = (63 - i) + 1 from by omega, Nat.pow_succ, ← Nat.mul_assoc]
  omega

theorem tmod2 (a n : Nat) : ((a : Int) / 2 ^ n).tmod 2 = ((a / 2 ^ n % 2 : Nat) : Int) := by rw [cast_shr]; rfl
set_option maxHeartbeats 400000 in
theorem bit (h l i : Nat) (hl : l < 18446744073709551616) (hi : i < 128) (w : World) :
    Calls Try.prog 41 #[.agg #[.int .u64 h, .int .u64 l], .int .i64 i] w fun e w' => e = .returned (.int .u64 ((vl h l / 2 ^ i % 2 : Nat) : Int)) ∧ Below w.heap.size w w' := by
  by_cases h64 : i < 64
  · rw [← bit_lo h l i h64]
    have i1 : (i : Int) < 64 := by omega
    clear hl hi
    go_enter Try.func41, Try.ntmps41
    go_wp2
    go_ret
    exact ⟨congrArg (fun z => Ending.returned (.int .u64 z)) (tmod2 l i), (Below.refl _ _).alloc (Nat.le_refl _) _⟩
  · rw [← bit_hi h l i (by omega) hl]
    have i1 : (64 : Int) ≤ i := by omega
    have i2 : i - 64 < 64 := by omega
    clear hl
    go_enter Try.func41, Try.ntmps41
    go_wp2
    go_ret
    exact ⟨congrArg (fun z => Ending.returned (.int .u64 z)) (tmod2 h (i - 64)), (Below.refl _ _).alloc (Nat.le_refl _) _⟩

theorem room (l i : Nat) (hi : i < 64) (hl : l < 18446744073709551616) (h0 : l / 2 ^ i % 2 = 0) : l + 2 ^ i < 18446744073709551616 := by
  have p := pow_split i (by omega)
  have q : l / 2 ^ i < 2 ^ (64 - i) := div_small' l i (by omega) hl
  have e : 2 ^ (64 - i) = 2 * 2 ^ (63 - i) := by rw [show 64 - i = (63 - i) + 1 from by omega, Nat.pow_succ, Nat.mul_comm]
  have d := Nat.div_add_mod l (2 ^ i)
  have m : l % 2 ^ i < 2 ^ i := Nat.mod_lt _ (Nat.two_pow_pos i)
  have k : 2 ^ i * (l / 2 ^ i + 2) ≤ 2 ^ i * 2 ^ (64 - i) := Nat.mul_le_mul_left _ (by omega)
  rw [Nat.mul_add] at k
  omega
theorem wrap_one (a n : Nat) (h : a + 2 ^ n < 18446744073709551616) : IntKind.u64.wrap ((a : Int) + IntKind.u64.wrap (2 ^ n)) = ((a + 2 ^ n : Nat) : Int) := by
  rw [show ((2 : Int) ^ n) = ((2 ^ n : Nat) : Int) from by simp, Bt.wrapN _ (by omega), Bt.addN, Bt.wrapN _ h]

set_option maxHeartbeats 400000 in
theorem set_lo (h l i : Nat) (hi : i < 64) (hr : l + 2 ^ i < 18446744073709551616) (w : World) :
    Calls Try.prog 44 #[.agg #[.int .u64 h, .int .u64 l], .int .i64 i] w fun e w' => e = .returned (.agg #[.int .u64 h, .int .u64 ((l + 2 ^ i : Nat) : Int)]) ∧ Below w.heap.size w w' := by
  have i1 : (i : Int) < 64 := by omega
  have r := wrap_one l i hr
  generalize l + 2 ^ i = t at r ⊢
  clear hr
  go_enter Try.func44, Try.ntmps44
  go_wp2
  exact bodyPost_ret (v := .agg #[.int .u64 h, .int .u64 t]) (by simp [results, Try.results44, go_sem]) rfl ⟨rfl, ((Below.refl _ _).alloc (Nat.le_refl _) _).alloc (by simp) _⟩
set_option maxHeartbeats 400000 in
theorem set_hi (h l i : Nat) (hi : i < 128) (h64 : 64 ≤ i) (hr : h + 2 ^ (i - 64) < 18446744073709551616) (w : World) :
    Calls Try.prog 44 #[.agg #[.int .u64 h, .int .u64 l], .int .i64 i] w fun e w' => e = .returned (.agg #[.int .u64 ((h + 2 ^ (i - 64) : Nat) : Int), .int .u64 l]) ∧ Below w.heap.size w w' := by
  have i1 : (64 : Int) ≤ i := by omega
  have i2 : i - 64 < 64 := by omega
  have r := wrap_one h (i - 64) hr
  generalize h + 2 ^ (i - 64) = t at r ⊢
  clear hr
  go_enter Try.func44, Try.ntmps44
  go_wp2
  exact bodyPost_ret (v := .agg #[.int .u64 t, .int .u64 l]) (by simp [results, Try.results44, go_sem]) rfl ⟨rfl, ((Below.refl _ _).alloc (Nat.le_refl _) _).alloc (by simp) _⟩

/-- set: of a number that hasn't the bit: the number with it. -/
theorem set (h l i : Nat) (hh : h < 18446744073709551616) (hl : l < 18446744073709551616) (hi : i < 128) (h0 : vl h l / 2 ^ i % 2 = 0) (w : World) :
    Calls Try.prog 44 #[.agg #[.int .u64 h, .int .u64 l], .int .i64 i] w fun e w' => e = .returned (.agg #[.int .u64 (Nm.hi (vl h l + 2 ^ i) : Nat), .int .u64 (Nm.lo (vl h l + 2 ^ i) : Nat)]) ∧ Below w.heap.size w w' := by
  by_cases h64 : i < 64
  · rw [← bit_lo h l i h64] at h0
    have r := room l i h64 hl h0
    rw [show vl h l + 2 ^ i = vl h (l + 2 ^ i) from by unfold vl; omega, hi_vl _ _ hh r, lo_vl _ _ r]
    exact set_lo h l i h64 r w
  · rw [← bit_hi h l i (by omega) hl] at h0
    have r := room h (i - 64) (by omega) hh h0
    have e : vl h l + 2 ^ i = vl (h + 2 ^ (i - 64)) l := by
      have : 2 ^ i = 18446744073709551616 * 2 ^ (i - 64) := by rw [← p64, ← Nat.pow_add, show 64 + (i - 64) = i from by omega]
      unfold vl; omega
    rw [e, hi_vl _ _ r hl, lo_vl _ _ hl]
    exact set_hi h l i hi (by omega) r w
end Rf
end Go.Proofs.Ytkbhbnadkoainaa
