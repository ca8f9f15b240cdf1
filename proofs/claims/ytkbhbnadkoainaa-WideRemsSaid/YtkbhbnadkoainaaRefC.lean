/- Contracts of the document's own answers for layer 1: Less, Shl, Shr, Len. -/
import Derived.Test.YtkbhbnadkoainaaRefB
set_option linter.unusedVariables false
namespace Go.Proofs.Ytkbhbnadkoainaa
open Go.RowKit
open Go.Sort (grow)
namespace Rf
open Nm

set_option maxHeartbeats 400000 in
theorem less (h1 l1 h2 l2 : Nat) (b1 : l1 < 18446744073709551616) (b2 : l2 < 18446744073709551616) (w : World) :
    Calls Try.prog 42 #[.agg #[.int .u64 h1, .int .u64 l1], .agg #[.int .u64 h2, .int .u64 l2]] w fun e w' => e = .returned (.bool (decide (vl h1 l1 < vl h2 l2))) ∧ Below w.heap.size w w' := by
  by_cases e1 : h1 = h2
  · subst e1
    have d : decide (vl h1 l1 < vl h1 l2) = decide (l1 < l2) := by unfold vl; by_cases h : l1 < l2 <;> simp [h] <;> omega
    rw [d]
    clear b1 b2 d
    go_enter Try.func42, Try.ntmps42
    go_wp2
    go_ret
    exact ⟨by simp [go_sem], ((Below.refl _ _).alloc (Nat.le_refl _) _).alloc (by simp) _⟩
  · have n1 : ((h1 : Int) == h2) = false := by simp; omega
    by_cases e3 : h1 < h2
    · have d : decide (vl h1 l1 < vl h2 l2) = true := by unfold vl; simp; omega
      rw [d]
      clear b1 b2 d
      go_enter Try.func42, Try.ntmps42
      go_wp2
      go_ret
      exact ⟨by simp [go_sem], ((Below.refl _ _).alloc (Nat.le_refl _) _).alloc (by simp) _⟩
    · have d : decide (vl h1 l1 < vl h2 l2) = false := by unfold vl; simp; omega
      rw [d]
      clear b1 b2 d
      go_enter Try.func42, Try.ntmps42
      go_wp2
      go_ret
      exact ⟨by simp [go_sem], ((Below.refl _ _).alloc (Nat.le_refl _) _).alloc (by simp) _⟩

/-- What lies in the three structs of a shift: the number, the result's place, what is made. -/
structure SRel (w wr : World) (h l o : Nat) : Prop where
  a : Two wr w.heap.size h l
  r : Two wr (w.heap.size + 1) 0 0
  t : Two wr (w.heap.size + 1 + 1) (Nm.hi o) (lo o)
  below : Below w.heap.size w wr
theorem srel_start (w : World) (h l : Nat) (t1 t2 t3 : TypeId) : SRel w (((w.alloc (.cells #[.int .u64 h, .int .u64 l] t1)).alloc (.cells #[.int .u64 0, .int .u64 0] t2)).alloc (.cells #[.int .u64 0, .int .u64 0] t3)) h l 0 :=
  ⟨((Two.fresh w h l _).alloc _).alloc _, Two.cast ((Two.fresh (w.alloc (.cells #[.int .u64 h, .int .u64 l] t1)) 0 0 t2).alloc _) (by simp), Two.cast (Two.fresh ((w.alloc (.cells #[.int .u64 h, .int .u64 l] t1)).alloc (.cells #[.int .u64 0, .int .u64 0] t2)) 0 0 t3) (by simp),
    (((Below.refl _ _).alloc (Nat.le_refl _) _).alloc (by simp) _).alloc (by simp <;> omega) _⟩
theorem SRel.step {w wr w1 : World} {h l o : Nat} (R : SRel w wr h l o) (hb : Below wr.heap.size wr w1) : SRel w w1 h l o :=
  ⟨R.a.below hb, R.r.below hb, R.t.below hb, R.below.trans (hb.mono R.below.size)⟩
theorem SRel.put {w wr : World} {h l o : Nat} (R : SRel w wr h l o) (o' : Nat) : SRel w ((wr.setCell ⟨w.heap.size + 1 + 1, 0, none⟩ (.int .u64 (Nm.hi o' : Nat))).setCell ⟨w.heap.size + 1 + 1, 1, none⟩ (.int .u64 (lo o' : Nat))) h l o' :=
  ⟨(R.a.other (by simp <;> omega) _).other (by simp <;> omega) _, (R.r.other (by simp) _).other (by simp) _, R.t.put _ _, (R.below.setCell (by simp <;> omega) _).setCell (by simp <;> omega) _⟩

theorem shl_step1 (v i n : Nat) (hb : v / 2 ^ i % 2 = 1) : v % 2 ^ i * 2 ^ n + 2 ^ (i + n) = v % 2 ^ (i + 1) * 2 ^ n := by
  rw [Nat.mod_pow_succ, hb, Nat.mul_one, Nat.add_mul, ← Nat.pow_add]
theorem shl_step0 (v i n : Nat) (hb : ¬ v / 2 ^ i % 2 = 1) : v % 2 ^ i * 2 ^ n = v % 2 ^ (i + 1) * 2 ^ n := by
  have : v / 2 ^ i % 2 = 0 := by omega
  rw [Nat.mod_pow_succ, this, Nat.mul_zero, Nat.add_zero]
theorem shl_lt (v i n : Nat) : v % 2 ^ i * 2 ^ n < 2 ^ (i + n) := by
  rw [Nat.pow_add]
  exact (Nat.mul_lt_mul_right (Nat.two_pow_pos n)).2 (Nat.mod_lt _ (Nat.two_pow_pos i))
theorem p128 : (2 : Nat) ^ 128 = 340282366920938463463374607431768211456 := by decide
theorem shl_end (v i n : Nat) (h : 128 ≤ i + n) : v % 2 ^ i * 2 ^ n % 340282366920938463463374607431768211456 = v * 2 ^ n % 340282366920938463463374607431768211456 := by
  have e : v * 2 ^ n % 2 ^ (i + n) = v % 2 ^ i * 2 ^ n := by rw [Nat.pow_add, Nat.mul_mod_mul_right]
  have d : 340282366920938463463374607431768211456 ∣ 2 ^ (i + n) := by rw [← p128]; exact Nat.pow_dvd_pow 2 h
  rw [← e, Nat.mod_mod_of_dvd _ d]
theorem hi_mod (x : Nat) : Nm.hi (x % 340282366920938463463374607431768211456) = Nm.hi x := by unfold Nm.hi; omega
theorem lo_mod (x : Nat) : lo (x % 340282366920938463463374607431768211456) = lo x := by unfold lo; omega
theorem hi_same (x y : Nat) (h : x % 340282366920938463463374607431768211456 = y % 340282366920938463463374607431768211456) : Nm.hi x = Nm.hi y ∧ lo x = lo y := by
  rw [← hi_mod x, ← lo_mod x, h, hi_mod, lo_mod]; exact ⟨rfl, rfl⟩

set_option maxHeartbeats 1000000 in
set_option maxRecDepth 100000 in
theorem shln (h l n : Nat) (hl : l < 18446744073709551616) (hn : n ≤ 9223372036854775807) (w : World) :
    Calls Try.prog 40 #[.agg #[.int .u64 h, .int .u64 l], .int .i64 n] w fun e w' => e = .returned (.agg #[.int .u64 (Nm.hi (vl h l * 2 ^ n) : Nat), .int .u64 (lo (vl h l * 2 ^ n) : Nat)]) ∧ Below w.heap.size w w' := by
  have n0 : ¬ (n : Int) < 0 := by omega
  go_enter Try.func40, Try.ntmps40
  go_wp2_with fail
  go_loopg [6] 128 (fun k v6 wr => ∃ i : Nat, k + i = 128 ∧ v6 = .int .i64 i ∧ SRel w wr h l (vl h l % 2 ^ i * 2 ^ n))
  case atStart => exact ⟨0, rfl, rfl, by rw [Nat.pow_zero, Nat.mod_one, Nat.zero_mul]; exact srel_start w h l _ _ _⟩
  case round =>
    obtain ⟨i, hk, rfl, R⟩ := hrel
    by_cases hin : i + n < 128
    · have i1 : (i : Int) < 128 := by omega
      have i2 : (n : Int) < 128 - i := by omega
      have i3 : i ≤ 128 := by omega
      have a0 := R.a.c0
      have a1 := R.a.c1
      have B := Lib.hid (fun W => bit h l i hl (by omega) W)
      generalize ex : vl h l / 2 ^ i % 2 = x at B
      by_cases hx : x = 1
      · have x1 : ((x : Int) == 1) = true := by simp; omega
        have ST := Lib.hid (fun W => set_at (vl h l % 2 ^ i * 2 ^ n) (i + n) ((i : Int) + n) (by omega) (shl_lt _ _ _) hin W)
        rw [shl_step1 _ _ _ (by rw [ex]; exact hx)] at ST
        clear ex hx
        go_wp2_with fail
        refine (B.out _).mono ?_
        rintro e w1 ⟨rfl, hb1⟩
        have R1 := R.step hb1
        have t0 := R1.t.c0
        have t1 := R1.t.c1
        clear a0 a1 B
        go_wp2_with fail
        refine (ST.out _).mono ?_
        rintro e w2 ⟨rfl, hb2⟩
        have R2 := R1.step hb2
        have q0 := R2.t.c0
        have q1 := R2.t.c1
        have q2 := R2.t.f0
        have q3 := R2.t.f1
        clear t0 t1 ST
        go_wp2_with fail
        go_roundg (gk - 1)
        case measure => omega
        case rel => exact ⟨i + 1, by omega, rfl, R2.put _⟩
      · have x1 : ((x : Int) == 1) = false := by simp; omega
        rw [shl_step0 _ _ n (by rw [ex]; exact hx)] at R
        clear ex hx
        go_wp2_with fail
        refine (B.out _).mono ?_
        rintro e w1 ⟨rfl, hb1⟩
        go_wp2_with fail
        go_roundg (gk - 1)
        case measure => omega
        case rel => exact ⟨i + 1, by omega, rfl, R.step hb1⟩
    · have t0 := R.t.c0
      have t1 := R.t.c1
      have r0 := R.r.c0
      have r1 := R.r.c1
      have r2 := R.r.f0
      have r3 := R.r.f1
      have hbl := R.below
      have hs := hi_same _ _ (shl_end (vl h l) i n (by omega))
      have H1 := Lib.hid hs.1
      have H2 := Lib.hid hs.2
      clear hs R
      generalize Nm.hi (vl h l % 2 ^ i * 2 ^ n) = p at *
      generalize lo (vl h l % 2 ^ i * 2 ^ n) = q at *
      by_cases hi : i < 128
      · have i1 : (i : Int) < 128 := by omega
        have i2 : ¬ (n : Int) < 128 - i := by omega
        go_wp2
        refine bodyPost_ret (v := .agg #[.int .u64 p, .int .u64 q]) (by simp [results, Try.results40, go_sem, r0, r1]) rfl ⟨by rw [H1.out, H2.out], (hbl.setCell (by simp <;> omega) _).setCell (by simp <;> omega) _⟩
      · have i1 : ¬ (i : Int) < 128 := by omega
        go_wp2
        refine bodyPost_ret (v := .agg #[.int .u64 p, .int .u64 q]) (by simp [results, Try.results40, go_sem, r0, r1]) rfl ⟨by rw [H1.out, H2.out], (hbl.setCell (by simp <;> omega) _).setCell (by simp <;> omega) _⟩
set_option maxHeartbeats 1000000 in
set_option maxRecDepth 100000 in
theorem shl_neg (h l z : Nat) (n : Int) (Hz : Hid (z = 0)) (hl : l < 18446744073709551616) (hn : n < 0) (w : World) :
    Calls Try.prog 40 #[.agg #[.int .u64 h, .int .u64 l], .int .i64 n] w fun e w' => e = .returned (.agg #[.int .u64 (Nm.hi (vl h l * 2 ^ z) : Nat), .int .u64 (lo (vl h l * 2 ^ z) : Nat)]) ∧ Below w.heap.size w w' := by
  go_enter Try.func40, Try.ntmps40
  go_wp2_with fail
  go_loopg [6] 128 (fun k v6 wr => ∃ i : Nat, k + i = 128 ∧ v6 = .int .i64 i ∧ SRel w wr h l (vl h l % 2 ^ i * 2 ^ z))
  case atStart => exact ⟨0, rfl, rfl, by rw [Nat.pow_zero, Nat.mod_one, Nat.zero_mul]; exact srel_start w h l _ _ _⟩
  case round =>
    obtain ⟨i, hk, rfl, R⟩ := hrel
    by_cases hin : i < 128
    · have i1 : (i : Int) < 128 := by omega
      have i2 : (0 : Int) < 128 - i := by omega
      have i3 : i ≤ 128 := by omega
      have a0 := R.a.c0
      have a1 := R.a.c1
      have B := Lib.hid (fun W => bit h l i hl (by omega) W)
      generalize ex : vl h l / 2 ^ i % 2 = x at B
      by_cases hx : x = 1
      · have x1 : ((x : Int) == 1) = true := by simp; omega
        have ST := Lib.hid (fun W => set_at (vl h l % 2 ^ i * 2 ^ z) (i + z) (i : Int) (by rw [Hz.out]; rfl) (shl_lt _ _ _) (by rw [Hz.out]; exact hin) W)
        rw [shl_step1 _ _ _ (by rw [ex]; exact hx)] at ST
        clear ex hx
        go_wp2_with fail
        refine (B.out _).mono ?_
        rintro e w1 ⟨rfl, hb1⟩
        have R1 := R.step hb1
        have t0 := R1.t.c0
        have t1 := R1.t.c1
        clear a0 a1 B
        go_wp2_with fail
        refine (ST.out _).mono ?_
        rintro e w2 ⟨rfl, hb2⟩
        have R2 := R1.step hb2
        have q0 := R2.t.c0
        have q1 := R2.t.c1
        have q2 := R2.t.f0
        have q3 := R2.t.f1
        clear t0 t1 ST
        go_wp2_with fail
        go_roundg (gk - 1)
        case measure => omega
        case rel => exact ⟨i + 1, by omega, rfl, R2.put _⟩
      · have x1 : ((x : Int) == 1) = false := by simp; omega
        rw [shl_step0 _ _ z (by rw [ex]; exact hx)] at R
        clear ex hx
        go_wp2_with fail
        refine (B.out _).mono ?_
        rintro e w1 ⟨rfl, hb1⟩
        go_wp2_with fail
        go_roundg (gk - 1)
        case measure => omega
        case rel => exact ⟨i + 1, by omega, rfl, R.step hb1⟩
    · have t0 := R.t.c0
      have t1 := R.t.c1
      have r0 := R.r.c0
      have r1 := R.r.c1
      have r2 := R.r.f0
      have r3 := R.r.f1
      have hbl := R.below
      have hs := hi_same _ _ (shl_end (vl h l) i z (by omega))
      have H1 := Lib.hid hs.1
      have H2 := Lib.hid hs.2
      clear hs R
      generalize Nm.hi (vl h l % 2 ^ i * 2 ^ z) = p at *
      generalize lo (vl h l % 2 ^ i * 2 ^ z) = q at *
      have i1 : ¬ (i : Int) < 128 := by omega
      go_wp2
      refine bodyPost_ret (v := .agg #[.int .u64 p, .int .u64 q]) (by simp [results, Try.results40, go_sem, r0, r1]) rfl ⟨by rw [H1.out, H2.out], (hbl.setCell (by simp <;> omega) _).setCell (by simp <;> omega) _⟩

/-- Shl of every number by every int. -/
theorem shl (h l : Nat) (n : Int) (hl : l < 18446744073709551616) (hn : n ≤ 9223372036854775807) (w : World) :
    Calls Try.prog 40 #[.agg #[.int .u64 h, .int .u64 l], .int .i64 n] w fun e w' => e = .returned (.agg #[.int .u64 (Nm.hi (vl h l * 2 ^ n.toNat) : Nat), .int .u64 (lo (vl h l * 2 ^ n.toNat) : Nat)]) ∧ Below w.heap.size w w' := by
  by_cases h0 : n < 0
  · rw [show n.toNat = 0 from by omega]
    exact shl_neg h l 0 n rfl hl h0 w
  · obtain ⟨k, rfl⟩ := Int.eq_ofNat_of_zero_le (show 0 ≤ n from by omega)
    rw [Int.toNat_natCast]
    exact shln h l k hl (by omega) w

end Rf
end Go.Proofs.Ytkbhbnadkoainaa
