/- Contracts of the document's own answers for layer 1: Shr, Len, Sub, Mul. -/
import Derived.Test.YtopbhomodlpnmaaRefC
set_option linter.unusedVariables false
namespace Go.Proofs.Ytopbhomodlpnmaa
open Go.RowKit
open Go.Sort (grow)
namespace Rf
open Nm

theorem shr_step1 (v i n : Nat) (hn : n ≤ i) (hb : v / 2 ^ i % 2 = 1) : v % 2 ^ i / 2 ^ n + 2 ^ (i - n) = v % 2 ^ (i + 1) / 2 ^ n := by
  have e : 2 ^ i = 2 ^ (i - n) * 2 ^ n := by rw [← Nat.pow_add, show i - n + n = i from by omega]
  rw [Nat.mod_pow_succ, hb, Nat.mul_one]
  conv => rhs; rw [e]
  rw [Nat.add_mul_div_right _ _ (Nat.two_pow_pos n), ← e]
theorem shr_step0 (v i n : Nat) (hb : ¬ v / 2 ^ i % 2 = 1) : v % 2 ^ i / 2 ^ n = v % 2 ^ (i + 1) / 2 ^ n := by
  have : v / 2 ^ i % 2 = 0 := by omega
  rw [Nat.mod_pow_succ, this, Nat.mul_zero, Nat.add_zero]
theorem shr_small (v i n : Nat) (h : i < n) : v % 2 ^ i / 2 ^ n = v % 2 ^ (i + 1) / 2 ^ n := by
  rw [Nat.div_eq_of_lt, Nat.div_eq_of_lt]
  · exact Nat.lt_of_lt_of_le (Nat.mod_lt _ (Nat.two_pow_pos _)) (Nat.pow_le_pow_right (by decide) h)
  · exact Nat.lt_of_lt_of_le (Nat.mod_lt _ (Nat.two_pow_pos _)) (Nat.pow_le_pow_right (by decide) (by omega))
theorem shr_lt (v i n : Nat) (hn : n ≤ i) : v % 2 ^ i / 2 ^ n < 2 ^ (i - n) := by
  rw [Nat.div_lt_iff_lt_mul (Nat.two_pow_pos n), ← Nat.pow_add, show i - n + n = i from by omega]
  exact Nat.mod_lt _ (Nat.two_pow_pos _)

set_option maxHeartbeats 1000000 in
set_option maxRecDepth 100000 in
theorem shrn (h l n : Nat) (hh : h < 18446744073709551616) (hl : l < 18446744073709551616) (hn : n ≤ 9223372036854775807) (w : World) :
    Calls Try.prog 21 #[.agg #[.int .u64 h, .int .u64 l], .int .i64 n] w fun e w' => e = .returned (.agg #[.int .u64 (Nm.hi (vl h l / 2 ^ n) : Nat), .int .u64 (lo (vl h l / 2 ^ n) : Nat)]) ∧ Below w.heap.size w w' := by
  have n0 : ¬ (n : Int) < 0 := by omega
  go_enter Try.func21, Try.ntmps21
  go_wp2_with fail
  go_loopg [6] 128 (fun k v6 wr => ∃ i : Nat, k + i = 128 ∧ v6 = .int .i64 i ∧ SRel w wr h l (vl h l % 2 ^ i / 2 ^ n))
  case atStart => exact ⟨0, rfl, rfl, by rw [Nat.pow_zero, Nat.mod_one, Nat.zero_div]; exact srel_start w h l _ _ _⟩
  case round =>
    obtain ⟨i, hk, rfl, R⟩ := hrel
    by_cases hi : i < 128
    · have i1 : (i : Int) < 128 := by omega
      by_cases hni : n ≤ i
      · have a0 := R.a.c0
        have a1 := R.a.c1
        have B := Lib.hid (fun W => bit h l i hl (by omega) W)
        generalize ex : vl h l / 2 ^ i % 2 = x at B
        by_cases hx : x = 1
        · have x1 : ((x : Int) == 1) = true := by simp; omega
          have ST := Lib.hid (fun W => set_at (vl h l % 2 ^ i / 2 ^ n) (i - n) ((i : Int) - n) (by omega) (shr_lt _ _ _ hni) (by omega) W)
          rw [shr_step1 _ _ _ hni (by rw [ex]; exact hx)] at ST
          clear ex hx
          go_wp2_with fail
          refine (B.out _).mono ?_
          rintro e w1 ⟨rfl, hb1⟩
          have R1 := R.step hb1
          have t0 := R1.t.c0
          have t1 := R1.t.c1
          clear a0 a1 B
          go_wp2_with fail
          refine (ST.out _).mono ?_
          rintro e w2 ⟨rfl, hb2⟩
          have R2 := R1.step hb2
          have q0 := R2.t.c0
          have q1 := R2.t.c1
          have q2 := R2.t.f0
          have q3 := R2.t.f1
          clear t0 t1 ST
          go_wp2_with fail
          go_roundg (gk - 1)
          case measure => omega
          case rel => exact ⟨i + 1, by omega, rfl, R2.put _⟩
        · have x1 : ((x : Int) == 1) = false := by simp; omega
          rw [shr_step0 _ _ n (by rw [ex]; exact hx)] at R
          clear ex hx
          go_wp2_with fail
          refine (B.out _).mono ?_
          rintro e w1 ⟨rfl, hb1⟩
          go_wp2_with fail
          go_roundg (gk - 1)
          case measure => omega
          case rel => exact ⟨i + 1, by omega, rfl, R.step hb1⟩
      · rw [shr_small _ _ _ (by omega)] at R
        go_wp2_with fail
        go_roundg (gk - 1)
        case measure => omega
        case rel => exact ⟨i + 1, by omega, rfl, R⟩
    · have e : i = 128 := by omega
      rw [e, p128, Nat.mod_eq_of_lt (vl_lt h l hh hl)] at R
      have t0 := R.t.c0
      have t1 := R.t.c1
      have r0 := R.r.c0
      have r1 := R.r.c1
      have r2 := R.r.f0
      have r3 := R.r.f1
      have hbl := R.below
      have i1 : ¬ (i : Int) < 128 := by omega
      clear R e
      generalize hp : Nm.hi (vl h l / 2 ^ n) = p at *
      generalize hq : lo (vl h l / 2 ^ n) = q at *
      have HP := Lib.hid hp
      have HQ := Lib.hid hq
      clear hp hq
      go_wp2
      refine bodyPost_ret (v := .agg #[.int .u64 p, .int .u64 q]) (by simp [results, Try.results21, go_sem, r0, r1]) rfl ⟨by rw [HP.out, HQ.out], (hbl.setCell (by simp <;> omega) _).setCell (by simp <;> omega) _⟩

set_option maxHeartbeats 1000000 in
set_option maxRecDepth 100000 in
theorem shr_neg (h l z : Nat) (n : Int) (Hz : Hid (z = 0)) (hh : h < 18446744073709551616) (hl : l < 18446744073709551616) (hn : n < 0) (w : World) :
    Calls Try.prog 21 #[.agg #[.int .u64 h, .int .u64 l], .int .i64 n] w fun e w' => e = .returned (.agg #[.int .u64 (Nm.hi (vl h l / 2 ^ z) : Nat), .int .u64 (lo (vl h l / 2 ^ z) : Nat)]) ∧ Below w.heap.size w w' := by
  go_enter Try.func21, Try.ntmps21
  go_wp2_with fail
  go_loopg [6] 128 (fun k v6 wr => ∃ i : Nat, k + i = 128 ∧ v6 = .int .i64 i ∧ SRel w wr h l (vl h l % 2 ^ i / 2 ^ z))
  case atStart => exact ⟨0, rfl, rfl, by rw [Nat.pow_zero, Nat.mod_one, Nat.zero_div]; exact srel_start w h l _ _ _⟩
  case round =>
    obtain ⟨i, hk, rfl, R⟩ := hrel
    by_cases hi : i < 128
    · have i1 : (i : Int) < 128 := by omega
      · have a0 := R.a.c0
        have a1 := R.a.c1
        have B := Lib.hid (fun W => bit h l i hl (by omega) W)
        generalize ex : vl h l / 2 ^ i % 2 = x at B
        by_cases hx : x = 1
        · have x1 : ((x : Int) == 1) = true := by simp; omega
          have ST := Lib.hid (fun W => set_at (vl h l % 2 ^ i / 2 ^ z) (i - z) (i : Int) (by rw [Hz.out]; rfl) (shr_lt _ _ _ (by rw [Hz.out]; omega)) (by omega) W)
          rw [shr_step1 _ _ _ (by rw [Hz.out]; omega) (by rw [ex]; exact hx)] at ST
          clear ex hx
          go_wp2_with fail
          refine (B.out _).mono ?_
          rintro e w1 ⟨rfl, hb1⟩
          have R1 := R.step hb1
          have t0 := R1.t.c0
          have t1 := R1.t.c1
          clear a0 a1 B
          go_wp2_with fail
          refine (ST.out _).mono ?_
          rintro e w2 ⟨rfl, hb2⟩
          have R2 := R1.step hb2
          have q0 := R2.t.c0
          have q1 := R2.t.c1
          have q2 := R2.t.f0
          have q3 := R2.t.f1
          clear t0 t1 ST
          go_wp2_with fail
          go_roundg (gk - 1)
          case measure => omega
          case rel => exact ⟨i + 1, by omega, rfl, R2.put _⟩
        · have x1 : ((x : Int) == 1) = false := by simp; omega
          rw [shr_step0 _ _ z (by rw [ex]; exact hx)] at R
          clear ex hx
          go_wp2_with fail
          refine (B.out _).mono ?_
          rintro e w1 ⟨rfl, hb1⟩
          go_wp2_with fail
          go_roundg (gk - 1)
          case measure => omega
          case rel => exact ⟨i + 1, by omega, rfl, R.step hb1⟩
    · have e : i = 128 := by omega
      rw [e, p128, Nat.mod_eq_of_lt (vl_lt h l hh hl)] at R
      have t0 := R.t.c0
      have t1 := R.t.c1
      have r0 := R.r.c0
      have r1 := R.r.c1
      have r2 := R.r.f0
      have r3 := R.r.f1
      have hbl := R.below
      have i1 : ¬ (i : Int) < 128 := by omega
      clear R e
      generalize hp : Nm.hi (vl h l / 2 ^ z) = p at *
      generalize hq : lo (vl h l / 2 ^ z) = q at *
      have HP := Lib.hid hp
      have HQ := Lib.hid hq
      clear hp hq
      go_wp2
      refine bodyPost_ret (v := .agg #[.int .u64 p, .int .u64 q]) (by simp [results, Try.results21, go_sem, r0, r1]) rfl ⟨by rw [HP.out, HQ.out], (hbl.setCell (by simp <;> omega) _).setCell (by simp <;> omega) _⟩

/-- Shr of every number by every int. -/
theorem shr (h l : Nat) (n : Int) (hh : h < 18446744073709551616) (hl : l < 18446744073709551616) (hn : n ≤ 9223372036854775807) (w : World) :
    Calls Try.prog 21 #[.agg #[.int .u64 h, .int .u64 l], .int .i64 n] w fun e w' => e = .returned (.agg #[.int .u64 (Nm.hi (vl h l / 2 ^ n.toNat) : Nat), .int .u64 (lo (vl h l / 2 ^ n.toNat) : Nat)]) ∧ Below w.heap.size w w' := by
  by_cases h0 : n < 0
  · rw [show n.toNat = 0 from by omega]
    exact shr_neg h l 0 n rfl hh hl h0 w
  · obtain ⟨k, rfl⟩ := Int.eq_ofNat_of_zero_le (show 0 ≤ n from by omega)
    rw [Int.toNat_natCast]
    exact shrn h l k hh hl (by omega) w

/-- k is how many bits v has. -/
structure IsLen (v k : Nat) : Prop where
  lt : v < 2 ^ k
  ge : k = 0 ∨ 2 ^ (k - 1) ≤ v
theorem IsLen.one {v k j : Nat} (a : IsLen v k) (b : IsLen v j) : k = j := by
  apply Nat.le_antisymm
  · apply Nat.le_of_not_lt
    intro h
    rcases a.ge with h0 | h0
    · omega
    · have := Nat.pow_le_pow_right (n := 2) (by decide) (show j ≤ k - 1 from by omega)
      have := b.lt
      omega
  · apply Nat.le_of_not_lt
    intro h
    rcases b.ge with h0 | h0
    · omega
    · have := Nat.pow_le_pow_right (n := 2) (by decide) (show k ≤ j - 1 from by omega)
      have := a.lt
      omega
theorem islen_bit1 (v i : Nat) (hb : v / 2 ^ i % 2 = 1) : IsLen (v % 2 ^ (i + 1)) (i + 1) := by
  refine ⟨Nat.mod_lt _ (Nat.two_pow_pos _), Or.inr ?_⟩
  rw [Nat.mod_pow_succ, hb, Nat.mul_one, Nat.add_sub_cancel]
  omega
theorem islen_bit0 (v i n : Nat) (h : IsLen (v % 2 ^ i) n) (hb : ¬ v / 2 ^ i % 2 = 1) : IsLen (v % 2 ^ (i + 1)) n := by
  have : v / 2 ^ i % 2 = 0 := by omega
  rw [Nat.mod_pow_succ, this, Nat.mul_zero, Nat.add_zero]
  exact h

set_option maxHeartbeats 1000000 in
set_option maxRecDepth 100000 in
theorem len (h l j : Nat) (hh : h < 18446744073709551616) (hl : l < 18446744073709551616) (hj : IsLen (vl h l) j) (w : World) :
    Calls Try.prog 23 #[.agg #[.int .u64 h, .int .u64 l]] w fun e w' => e = .returned (.int .i64 (j : Int)) ∧ Below w.heap.size w w' := by
  go_enter Try.func23, Try.ntmps23
  go_wp2_with fail
  go_loopg [3, 4] 128 (fun k v3 v4 wr => ∃ i n : Nat, k + i = 128 ∧ v3 = .int .i64 n ∧ v4 = .int .i64 i ∧ IsLen (vl h l % 2 ^ i) n ∧ Two wr w.heap.size h l ∧ Below w.heap.size w wr)
  case atStart => exact ⟨0, 0, rfl, rfl, rfl, ⟨by rw [Nat.pow_zero, Nat.mod_one]; decide, Or.inl rfl⟩, Two.fresh w h l _, (Below.refl _ _).alloc (Nat.le_refl _) _⟩
  case round =>
    obtain ⟨i, n, hk, rfl, rfl, I, T, hbl⟩ := hrel
    by_cases hi : i < 128
    · have i1 : (i : Int) < 128 := by omega
      have a0 := T.c0
      have a1 := T.c1
      have B := Lib.hid (fun W => bit h l i hl hi W)
      generalize ex : vl h l / 2 ^ i % 2 = x at B
      by_cases hx : x = 1
      · have x1 : ((x : Int) == 1) = true := by simp; omega
        have I2 := islen_bit1 (vl h l) i (by rw [ex]; exact hx)
        clear ex hx
        go_wp2_with fail
        refine (B.out _).mono ?_
        rintro e w1 ⟨rfl, hb1⟩
        go_wp2_with fail
        go_roundg (gk - 1)
        case measure => omega
        case rel => exact ⟨i + 1, i + 1, by omega, rfl, rfl, I2, T.below hb1, hbl.trans (hb1.mono hbl.size)⟩
      · have x1 : ((x : Int) == 1) = false := by simp; omega
        have I2 := islen_bit0 (vl h l) i n I (by rw [ex]; exact hx)
        clear ex hx
        go_wp2_with fail
        refine (B.out _).mono ?_
        rintro e w1 ⟨rfl, hb1⟩
        go_wp2_with fail
        go_roundg (gk - 1)
        case measure => omega
        case rel => exact ⟨i + 1, n, by omega, rfl, rfl, I2, T.below hb1, hbl.trans (hb1.mono hbl.size)⟩
    · have e : i = 128 := by omega
      rw [e, p128, Nat.mod_eq_of_lt (vl_lt h l hh hl)] at I
      have i1 : ¬ (i : Int) < 128 := by omega
      have en := I.one hj
      subst en
      clear e
      go_wp2
      go_ret
      exact ⟨rfl, hbl⟩

end Rf
end Go.Proofs.Ytopbhomodlpnmaa
