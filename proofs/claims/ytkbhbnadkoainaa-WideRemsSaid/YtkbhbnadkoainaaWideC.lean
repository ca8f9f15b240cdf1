/- Contracts of package wide's Shl and Shr: of every wide number and every int, what they answer, and that nothing that was there is written. -/
import Derived.Test.YtkbhbnadkoainaaWide
import Derived.Test.YtkbhbnadkoainaaNumB
import Derived.RegionTactic
set_option linter.unusedVariables false
namespace Go.Proofs.Ytkbhbnadkoainaa
open Go.RowKit Go.Lib
namespace Wd
open Nm

set_option maxHeartbeats 400000 in
theorem shl_none (h l : Nat) (n : Int) (hn : n ≤ 0) (w : World) :
    Calls Try.prog 16 #[.agg #[.int .u64 h, .int .u64 l], .int .i64 n] w fun e w' => e = .returned (.agg #[.int .u64 h, .int .u64 l]) ∧ Below w.heap.size w w' := by
  go_enter Try.func16, Try.ntmps16
  go_wp2
  exact bodyPost_ret (v := .agg #[.int .u64 h, .int .u64 l]) (by simp [results, Try.results16, go_sem]) rfl ⟨rfl, ((Below.refl _ _).alloc (Nat.le_refl _) _).alloc (by simp) _⟩

set_option maxHeartbeats 400000 in
theorem shl_mid (h l n : Nat) (hl : l < 18446744073709551616) (hn : n < 64) (hp : 0 < n) (w : World) :
    Calls Try.prog 16 #[.agg #[.int .u64 h, .int .u64 l], .int .i64 n] w fun e w' => e = .returned (.agg #[.int .u64 (hi (vl h l * 2 ^ n) : Nat), .int .u64 (lo (vl h l * 2 ^ n) : Nat)]) ∧ Below w.heap.size w w' := by
  have g1 : bits .or .u64 (IntKind.u64.wrap ((h : Int) * 2 ^ n)) ((l : Int) / 2 ^ (64 - n)) = ((hi (vl h l * 2 ^ n) : Nat) : Int) := by
    rw [wrap_shl, cast_shr, or_bits h _ n (by omega) (div_small l n (by omega) hl), shl_mid_hi h l n (by omega) hl]
  have g2 : IntKind.u64.wrap ((l : Int) * 2 ^ n) = ((lo (vl h l * 2 ^ n) : Nat) : Int) := by rw [wrap_shl, shl_lo h l n]
  have G1 := Lib.hid g1
  have G2 := Lib.hid g2
  clear g1 g2 hl
  go_enter Try.func16, Try.ntmps16
  go_wp2
  go_region
  go_wp2
  rw [G1.out, G2.out]
  exact bodyPost_ret (v := .agg #[.int .u64 (hi (vl h l * 2 ^ n) : Nat), .int .u64 (lo (vl h l * 2 ^ n) : Nat)]) (by simp [results, Try.results16, go_sem]) rfl ⟨rfl, (((Below.refl _ _).alloc (Nat.le_refl _) _).alloc (by simp) _).drew⟩

set_option maxHeartbeats 400000 in
theorem shl_far (h l n : Nat) (hn : 64 ≤ n) (hb : n ≤ 9223372036854775807) (w : World) :
    Calls Try.prog 16 #[.agg #[.int .u64 h, .int .u64 l], .int .i64 n] w fun e w' => e = .returned (.agg #[.int .u64 (hi (vl h l * 2 ^ n) : Nat), .int .u64 (lo (vl h l * 2 ^ n) : Nat)]) ∧ Below w.heap.size w w' := by
  have g1 : IntKind.u64.wrap ((l : Int) * 2 ^ min (n - 64) 64) = ((hi (vl h l * 2 ^ n) : Nat) : Int) := by rw [wrap_shl, shl_far_hi h l n hn]
  have G1 := Lib.hid g1
  clear g1
  have n1 : (64 : Int) ≤ n := by omega
  rw [← shl_far_lo h l n hn]
  go_enter Try.func16, Try.ntmps16
  go_wp2
  rw [G1.out]
  exact bodyPost_ret (v := .agg #[.int .u64 (hi (vl h l * 2 ^ n) : Nat), .int .u64 0]) (by simp [results, Try.results16, go_sem]) rfl ⟨rfl, ((Below.refl _ _).alloc (Nat.le_refl _) _).alloc (by simp) _⟩

/-- Shl of every number by every int. -/
theorem shl (h l : Nat) (n : Int) (hh : h < 18446744073709551616) (hl : l < 18446744073709551616) (hn : n ≤ 9223372036854775807) (w : World) :
    Calls Try.prog 16 #[.agg #[.int .u64 h, .int .u64 l], .int .i64 n] w fun e w' => e = .returned (.agg #[.int .u64 (hi (vl h l * 2 ^ n.toNat) : Nat), .int .u64 (lo (vl h l * 2 ^ n.toNat) : Nat)]) ∧ Below w.heap.size w w' := by
  by_cases h0 : n ≤ 0
  · rw [show n.toNat = 0 from by omega, Nat.pow_zero, Nat.mul_one, hi_vl h l hh hl, lo_vl h l hl]
    exact shl_none h l n h0 w
  · obtain ⟨k, rfl⟩ := Int.eq_ofNat_of_zero_le (show 0 ≤ n from by omega)
    rw [Int.toNat_natCast]
    by_cases h1 : k < 64
    · exact shl_mid h l k hl h1 (by omega) w
    · exact shl_far h l k (by omega) (by omega) w





end Wd
end Go.Proofs.Ytkbhbnadkoainaa
