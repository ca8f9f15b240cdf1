/- The contract of math/bits' Div64, whole: of hi below y the quotient and the rest of the number of 128 bits; nothing that was there is written. -/
import Derived.Test.YtkbhbnadkoainaaDivW
set_option linter.unusedVariables false
namespace Go.Proofs.Ytkbhbnadkoainaa
open Go.RowKit
namespace Bt
open Nm

theorem bitLenAux_between : ∀ (f x : Nat), x < 2 ^ f → x < 2 ^ Lib.bitLenAux f x ∧ (x ≠ 0 → 2 ^ Lib.bitLenAux f x ≤ 2 * x)
  | 0, x, h => by simp at h; subst h; simp [Lib.bitLenAux]
  | f + 1, x, h => by
    unfold Lib.bitLenAux
    split
    · rename_i h0; subst h0; simp
    · rename_i h0
      have h2 : x / 2 < 2 ^ f := by rw [Nat.pow_succ] at h; omega
      obtain ⟨a, b⟩ := bitLenAux_between f (x / 2) h2
      rw [Nat.add_comm, Nat.pow_succ]
      refine ⟨by omega, fun _ => ?_⟩
      by_cases h1 : x / 2 = 0
      · have : x = 1 := by omega
        subst this
        have e : Lib.bitLenAux f (1 / 2) = 0 := by
          cases f <;> simp [Lib.bitLenAux]
        rw [e]; decide
      · have := b h1
        omega

theorem norm (y : Nat) (h0 : 0 < y) (hy : y < 18446744073709551616) : ∃ s, s = 64 - Lib.bitLen y ∧ s ≤ 63 ∧ 9223372036854775808 ≤ y * 2 ^ s ∧ y * 2 ^ s < 18446744073709551616 := by
  have ⟨a, b⟩ := bitLenAux_between 64 y hy
  have l := Lib.bitLen_le y 64 (by omega) hy
  have b := b (by omega)
  change y < 2 ^ Lib.bitLen y at a
  change 2 ^ Lib.bitLen y ≤ 2 * y at b
  have l1 : 1 ≤ Lib.bitLen y := by
    apply Nat.pos_of_ne_zero; intro h; rw [h] at a; omega
  generalize Lib.bitLen y = k at *
  refine ⟨64 - k, rfl, by omega, ?_, ?_⟩
  · have : 2 ^ k * 2 ^ (64 - k) ≤ 2 * y * 2 ^ (64 - k) := Nat.mul_le_mul_right _ b
    rw [pow_split k l, Nat.mul_assoc] at this
    omega
  · rw [← pow_split k l]
    exact (Nat.mul_lt_mul_right (Nat.two_pow_pos _)).2 a

theorem div64 (h l y : Nat) (hl : l < 18446744073709551616) (hy : y < 18446744073709551616) (hh : h < y) (w : World) :
    Calls Try.prog 39 #[.int .u64 h, .int .u64 l, .int .u64 y] w fun e w' => e = .returned (.tuple #[.int .u64 ((vl h l / y : Nat) : Int), .int .u64 ((vl h l % y : Nat) : Int)]) ∧ Below w.heap.size w w' := by
  by_cases hz : h = 0
  · subst hz
    rw [show vl 0 l = l from by unfold vl; omega]
    exact div64_zero l y hl (by omega) w
  · obtain ⟨s, hs, s63, lo63, hi64⟩ := norm y (by omega) hy
    have hp : 0 < 2 ^ s := Nat.two_pow_pos s
    have hU := shl_mid_hi h l s (by omega) hl
    have hL := shl_lo h l s
    have hsm := div_small l s (by omega) hl
    have hh2 : (h + 1) * 2 ^ s ≤ y * 2 ^ s := Nat.mul_le_mul_right _ hh
    rw [Nat.add_mul, Nat.one_mul] at hh2
    have hUlt : hi (vl h l * 2 ^ s) < y * 2 ^ s := by
      rw [← hU, Nat.mod_eq_of_lt (by omega)]; omega
    have hv : vl h l * 2 ^ s < 340282366920938463463374607431768211456 := by
      have : vl h l * 2 ^ s = h * 2 ^ s * 18446744073709551616 + l * 2 ^ s := by unfold vl; rw [Nat.add_mul, Nat.mul_right_comm]
      have k2 : l * 2 ^ s < 18446744073709551616 * 2 ^ s := (Nat.mul_lt_mul_right hp).2 hl
      omega
    have hsum := vl_hi_lo (vl h l * 2 ^ s)
    rw [Nat.mod_eq_of_lt hv] at hsum
    have ST : Steps h l y s (y * 2 ^ s) (y * 2 ^ s / 4294967296) (y * 2 ^ s % 4294967296) (hi (vl h l * 2 ^ s)) (lo (vl h l * 2 ^ s)) (lo (vl h l * 2 ^ s) / 4294967296) (lo (vl h l * 2 ^ s) % 4294967296) :=
      { y_lt := by omega
        y_ge := by omega
        yl_lt := Nat.mod_lt _ (by decide)
        u1_lt := by have := lo_lt (vl h l * 2 ^ s); omega
        u0_lt := Nat.mod_lt _ (by decide)
        Y_eq := by omega
        U_lt := hUlt
        rY := by rw [wrap_shl, Nat.mod_eq_of_lt hi64]
        ryh := rfl
        ryl := maskN _ hi64
        rU := by rw [wrap_shl, cast_shr, or_bits h _ s (by omega) hsm, hU]
        rL := by rw [wrap_shl, hL]
        ru1 := rfl
        ru0 := maskN _ (lo_lt _) }
    have D := Dv.two_digits (vl h l) y s (hi (vl h l * 2 ^ s)) (lo (vl h l * 2 ^ s) / 4294967296) (lo (vl h l * 2 ^ s) % 4294967296) (y * 2 ^ s) (by omega) rfl (by have e : hi (vl h l * 2 ^ s) * 18446744073709551616 + lo (vl h l * 2 ^ s) = vl h l * 2 ^ s := hsum; omega)
    rw [← D.1, ← D.2]
    exact div64_main h l y s _ _ _ _ _ _ _ ST (by omega) (by simp; omega) (by simp; omega) s63 (by rw [hs]; exact fun w => lz64 y hy w) w
end Bt
end Go.Proofs.Ytkbhbnadkoainaa
