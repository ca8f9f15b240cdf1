/- Contracts of package root's Log, of every word and number; nothing that was there is written. -/
import Derived.Test.YtkocniimpdhogaaRoot
import Derived.Test.YtkocniimpdhogaaBitsI
set_option linter.unusedVariables false
namespace Go.Proofs.Ytkocniimpdhogaa
open Go.RowKit Go.Lib
namespace Rt
open Nm

set_option maxHeartbeats 400000 in
theorem log_low (a : Nat) (k : Int) (h : k < 0) (w : World) :
    Calls Try.prog 11 #[.int .u64 a, .int .i64 k] w fun e w' => e = .returned (.tuple #[.int .i64 0, .bool false]) ∧ w = w' := by
  have C := Lib.hid (fun W => back_low k h W)
  clear h
  go_enter Try.func11, Try.ntmps11
  go_wp2_with fail
  refine (C.out _).mono ?_
  rintro e w1 ⟨rfl, rfl⟩
  go_wp2
  go_ret2
  exact ⟨rfl, rfl⟩
set_option maxHeartbeats 400000 in
theorem log_high (a : Nat) (k : Int) (h : 32 < k) (w : World) :
    Calls Try.prog 11 #[.int .u64 a, .int .i64 k] w fun e w' => e = .returned (.tuple #[.int .i64 0, .bool false]) ∧ w = w' := by
  have C := Lib.hid (fun W => back_high k h W)
  clear h
  go_enter Try.func11, Try.ntmps11
  go_wp2_with fail
  refine (C.out _).mono ?_
  rintro e w1 ⟨rfl, rfl⟩
  go_wp2
  go_ret2
  exact ⟨rfl, rfl⟩

set_option maxHeartbeats 1000000 in
set_option maxRecDepth 100000 in
theorem log_any (a k : Nat) (ha : a < 18446744073709551616) (hk : k ≤ 32) (w : World) (n : Nat) (t : Bool)
    (hend : ∀ m r b, Nt.LInv a k k m r b → (r = 1 → t = true ∧ m = n) ∧ (r ≠ 1 → t = false ∧ n = 0)) :
    Calls Try.prog 11 #[.int .u64 a, .int .i64 (k : Int)] w fun e w' => e = .returned (.tuple #[.int .i64 (n : Int), .bool t]) ∧ Below w.heap.size w w' := by
  have B := Lib.hid (fun W => back k hk W)
  have A := Lib.hid (fun W => Gd.of a ha W)
  have I := Lib.hid (Nt.linv_start a k hk)
  have HE := Lib.hid hend
  clear hend ha
  have h1 : (k : Int) ≤ 32 := by omega
  generalize a % 18446744069414584321 = a0 at *
  generalize Nt.inv (Nt.rt k) = b0 at *
  go_enter Try.func11, Try.ntmps11
  go_wp2_with fail
  refine (B.out _).mono ?_
  rintro e w1 ⟨rfl, hb1⟩
  go_wp2_with fail
  refine (A.out _).mono ?_
  rintro e w2 ⟨rfl, rfl⟩
  go_wp2_with fail
  go_loopw [4, 6, 8, 20] (fun v4 v6 v8 v20 wr => ∃ m r b i : Nat, v4 = .int .i64 (m : Int) ∧ v6 = .int .u64 b ∧ v8 = .int .u64 r ∧ v20 = .int .i64 (i : Int) ∧ i ≤ k ∧ Nt.LInv a k i m r b ∧ Below w.heap.size w wr) (fun _ _ _ v20 _ => k - (intOf v20).toNat)
  case atStart => exact ⟨0, _, _, 0, rfl, rfl, rfl, rfl, Nat.zero_le _, I.out, hb1⟩
  case round =>
    obtain ⟨m, r, b, i, rfl, rfl, rfl, rfl, hi, J, hbl⟩ := hrel
    clear A B I hb1
    by_cases hlt : i < k
    · have i1 : (i : Int) < k := by omega
      have D := Lib.hid (fun W => Gd.pow r (2 ^ (k - 1 - i)) (Nat.lt_trans J.rl (by decide)) (Nat.pow_lt_pow_right (by decide) (by omega) : 2 ^ (k - 1 - i) < 2 ^ 64) W)
      have q1 := Bt.pow_u64 (k - 1 - i) (by omega)
      have bl := J.bl
      have rl := J.rl
      have S := Lib.hid (fun W => Gd.mul b b (by omega) (by omega) W)
      generalize hp : 2 ^ (k - 1 - i) = p at *
      by_cases h0 : Nt.One r (k - 1 - i)
      · have J2 := Lib.hid (Nt.linv_skip J h0)
        unfold Nt.One at h0
        rw [hp] at h0
        rw [h0] at D
        generalize b * b % 18446744069414584321 = b2 at *
        clear h0 J rl bl hp
        go_wp2_with fail
        refine (D.out _).mono ?_
        rintro e w3 ⟨rfl, h3⟩
        go_wp2_with fail
        refine (S.out _).mono ?_
        rintro e w4 ⟨rfl, h4⟩
        go_wp2_with fail
        go_roundw
        case rel => exact ⟨m, r, b2, i + 1, rfl, rfl, rfl, rfl, by omega, J2.out, (hbl.trans (h3.mono hbl.size)).trans (h4.mono (Nat.le_trans hbl.size h3.size))⟩
        case measure => simp [intOf]; omega
      · have J2 := Lib.hid (Nt.linv_take J hlt hk h0)
        have M := Lib.hid (fun W => Gd.mul r b (by omega) (by omega) W)
        unfold Nt.One at h0
        rw [hp] at h0
        generalize r ^ p % 18446744069414584321 = y at *
        have y1 : ((y : Int) != 1) = true := by simp; omega
        generalize b * b % 18446744069414584321 = b2 at *
        generalize r * b % 18446744069414584321 = r2 at *
        have o1 := Bt.or_bit_i64 m i J.nl (by omega)
        have o2 := Bt.pow_i64 i (by omega)
        generalize hm2 : m + 2 ^ i = m2 at *
        generalize hz : 2 ^ i = z at *
        clear h0 J rl bl hp hm2 hz
        go_wp2_with fail
        refine (D.out _).mono ?_
        rintro e w3 ⟨rfl, h3⟩
        go_wp2_with fail
        refine (M.out _).mono ?_
        rintro e w4 ⟨rfl, h4⟩
        go_wp2_with fail
        refine (S.out _).mono ?_
        rintro e w5 ⟨rfl, h5⟩
        have k3 := hbl.trans (h3.mono hbl.size)
        have k4 := k3.trans (h4.mono k3.size)
        have k5 := k4.trans (h5.mono k4.size)
        go_wp2_with fail
        go_roundw
        case rel => exact ⟨m2, r2, b2, i + 1, rfl, rfl, rfl, rfl, by omega, J2.out, k5⟩
        case measure => simp [intOf]; omega
    · have i1 : ¬ (i : Int) < k := by omega
      obtain rfl : k = i := by omega
      have E := HE.out m r b J
      clear J HE
      by_cases h0 : r = 1
      · obtain ⟨rfl, rfl⟩ := E.1 h0
        clear E
        subst h0
        go_wp2
        go_ret2
        exact ⟨rfl, hbl⟩
      · obtain ⟨rfl, rfl⟩ := E.2 h0
        clear E
        have r1 : ((r : Int) != 1) = true := by simp; omega
        go_wp2
        go_ret2
        exact ⟨rfl, hbl⟩
/-- The logarithm of a root's power. -/
theorem log_some (a k n : Nat) (ha : a < 18446744073709551616) (hk : k ≤ 32) (hn : n < 2 ^ k) (h : Nt.rt k ^ n % 18446744069414584321 = a % 18446744069414584321) (w : World) :
    Calls Try.prog 11 #[.int .u64 a, .int .i64 (k : Int)] w fun e w' => e = .returned (.tuple #[.int .i64 (n : Int), .bool true]) ∧ Below w.heap.size w w' := by
  refine log_any a k ha hk w n true fun m r b J => ?_
  have r1 := Nt.linv_one J (Nt.one_of_log hk h)
  subst r1
  exact ⟨fun _ => ⟨rfl, Nt.rt_inj k m n hk J.nl hn ((Nt.linv_end J).trans h.symm)⟩, fun c => absurd rfl c⟩
theorem log_none (a k : Nat) (ha : a < 18446744073709551616) (hk : k ≤ 32) (h : ¬ Nt.One a k) (w : World) :
    Calls Try.prog 11 #[.int .u64 a, .int .i64 (k : Int)] w fun e w' => e = .returned (.tuple #[.int .i64 0, .bool false]) ∧ Below w.heap.size w w' := by
  refine log_any a k ha hk w 0 false fun m r b J => ⟨fun r1 => ?_, fun _ => ⟨rfl, rfl⟩⟩
  subst r1
  exact absurd (Nt.one_of_log hk (Nt.linv_end J)) h
end Rt
end Go.Proofs.Ytkocniimpdhogaa
