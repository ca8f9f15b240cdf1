/- Contracts of package gold's functions of words: Good, Of, Add, Sub, Neg, Reduce, Mul: what each answers of every word, and that nothing that was there is written. -/
import Derived.Test.YtnnieiedkjekpaaDoorWide
set_option linter.unusedVariables false
namespace Go.Proofs.YtnnieiedkjekpaaDoor
open Go.RowKit Go.Lib
namespace Gd
open Nm



set_option maxHeartbeats 400000 in
theorem of (a : Nat) (ha : a < 18446744073709551616) (w : World) :
    Calls Tryd.prog 50 #[.int .u64 a] w fun e w' => e = .returned (.int .u64 ((a % 18446744069414584321 : Nat) : Int)) ∧ w = w' := by
  by_cases h : a < 18446744069414584321
  · have h1 : ¬ (18446744069414584321 : Int) ≤ a := by omega
    rw [Nat.mod_eq_of_lt h]
    clear h ha
    go_enter Tryd.func50, Tryd.ntmps50
    go_wp2
    go_ret
    exact ⟨rfl, rfl⟩
  · have h1 : (18446744069414584321 : Int) ≤ a := by omega
    have k : IntKind.u64.wrap ((a : Int) - 18446744069414584321) = ((a % 18446744069414584321 : Nat) : Int) := by rw [IntKind.wrap_u64]; omega
    generalize a % 18446744069414584321 = c at k ⊢
    clear h ha
    go_enter Tryd.func50, Tryd.ntmps50
    go_wp2
    go_ret
    exact ⟨rfl, rfl⟩

theorem add_cases (a b : Nat) (ha : a < 18446744069414584321) (hb : b < 18446744069414584321) :
    (a + b < 18446744069414584321 ∧ (a + b) % 18446744069414584321 = a + b) ∨ (18446744069414584321 ≤ a + b ∧ a + b < 18446744073709551616 ∧ (a + b) % 18446744069414584321 = a + b - 18446744069414584321)
      ∨ (18446744073709551616 ≤ a + b ∧ (a + b) % 18446744069414584321 = a + b - 18446744069414584321) := by omega

set_option maxHeartbeats 400000 in
set_option maxRecDepth 100000 in
theorem add (a b : Nat) (ha : a < 18446744073709551616) (hb : b < 18446744073709551616) (w : World) :
    Calls Tryd.prog 78 #[.int .u64 a, .int .u64 b] w fun e w' => e = .returned (.int .u64 (((a + b) % 18446744069414584321 : Nat) : Int)) ∧ w = w' := by
  have A := Lib.hid (fun W => of a ha W)
  have B := Lib.hid (fun W => of b hb W)
  rw [Nat.add_mod]
  have la : a % 18446744069414584321 < 18446744069414584321 := Nat.mod_lt _ (by decide)
  have lb : b % 18446744069414584321 < 18446744069414584321 := Nat.mod_lt _ (by decide)
  generalize a % 18446744069414584321 = x at *
  generalize b % 18446744069414584321 = y at *
  have k := Bt.add64z x y
  rw [Nat.add_zero] at k
  rcases add_cases x y la lb with ⟨h1, h2⟩ | ⟨h1, h2, h3⟩ | ⟨h1, h2⟩
  · rw [Nat.mod_eq_of_lt (show x + y < 18446744073709551616 by omega), Nat.div_eq_of_lt (show x + y < 18446744073709551616 by omega)] at k
    rw [h2]
    clear h2 la lb ha hb
    generalize x + y = s at *
    have c1 : decide ((18446744069414584321 : Int) ≤ s) = false := decide_eq_false (by omega)
    clear h1
    go_enter Tryd.func78, Tryd.ntmps78
    go_wp2_with fail
    refine (A.out _).mono ?_
    rintro e w1 ⟨rfl, rfl⟩
    go_wp2_with fail
    refine (B.out _).mono ?_
    rintro e w1 ⟨rfl, rfl⟩
    go_wp2
    go_ret
    exact ⟨rfl, rfl⟩
  · rw [Nat.mod_eq_of_lt h2, Nat.div_eq_of_lt h2] at k
    rw [h3]
    obtain ⟨s, hs⟩ : ∃ s, s = x + y := ⟨_, rfl⟩
    rw [← hs] at k ⊢
    clear h3 la lb ha hb
    have c1 : (18446744069414584321 : Int) ≤ s := by omega
    obtain ⟨r, hr⟩ : ∃ r, r = s - 18446744069414584321 := ⟨_, rfl⟩
    rw [← hr]
    have c2 : IntKind.u64.wrap ((s : Int) - 18446744069414584321) = (r : Int) := by rw [IntKind.wrap_u64]; omega
    clear h1 h2 hr hs
    go_enter Tryd.func78, Tryd.ntmps78
    go_wp2_with fail
    refine (A.out _).mono ?_
    rintro e w1 ⟨rfl, rfl⟩
    go_wp2_with fail
    refine (B.out _).mono ?_
    rintro e w1 ⟨rfl, rfl⟩
    go_wp2
    go_ret
    exact ⟨rfl, rfl⟩
  · rw [show (x + y) % 18446744073709551616 = x + y - 18446744073709551616 by omega, show (x + y) / 18446744073709551616 = 1 by omega] at k
    rw [h2]
    clear h2
    obtain ⟨r, hr⟩ : ∃ r, r = x + y - 18446744069414584321 := ⟨_, rfl⟩
    obtain ⟨s, hs⟩ : ∃ s, s = x + y - 18446744073709551616 := ⟨_, rfl⟩
    rw [← hr]
    rw [← hs] at k
    have c2 : IntKind.u64.wrap ((s : Int) - 18446744069414584321) = (r : Int) := by rw [IntKind.wrap_u64]; omega
    clear ha hb h1 la lb hr hs
    go_enter Tryd.func78, Tryd.ntmps78
    go_wp2_with fail
    refine (A.out _).mono ?_
    rintro e w1 ⟨rfl, rfl⟩
    go_wp2_with fail
    refine (B.out _).mono ?_
    rintro e w1 ⟨rfl, rfl⟩
    go_wp2
    go_ret
    exact ⟨rfl, rfl⟩

set_option maxHeartbeats 400000 in
theorem sub (a b : Nat) (ha : a < 18446744073709551616) (hb : b < 18446744073709551616) (w : World) :
    Calls Tryd.prog 88 #[.int .u64 a, .int .u64 b] w fun e w' => e = .returned (.int .u64 (((a + (18446744069414584321 - b % 18446744069414584321)) % 18446744069414584321 : Nat) : Int)) ∧ w = w' := by
  have A := Lib.hid (fun W => of a ha W)
  have B := Lib.hid (fun W => of b hb W)
  have la : a % 18446744069414584321 < 18446744069414584321 := Nat.mod_lt _ (by decide)
  have lb : b % 18446744069414584321 < 18446744069414584321 := Nat.mod_lt _ (by decide)
  rw [show (a + (18446744069414584321 - b % 18446744069414584321)) % 18446744069414584321 = (a % 18446744069414584321 + (18446744069414584321 - b % 18446744069414584321)) % 18446744069414584321 by omega]
  generalize a % 18446744069414584321 = x at *
  generalize b % 18446744069414584321 = y at *
  have k := Bt.sub64z x y
  rw [Nat.add_zero y] at k
  obtain ⟨r, hr⟩ : ∃ r, r = (x + (18446744069414584321 - y)) % 18446744069414584321 := ⟨_, rfl⟩
  rw [← hr]
  by_cases h : x < y
  · rw [if_pos h] at k
    obtain ⟨s, hs⟩ : ∃ s, s = (x + 18446744073709551616 - y - 0) % 18446744073709551616 := ⟨_, rfl⟩
    rw [← hs] at k
    have c2 : IntKind.u64.wrap ((s : Int) + 18446744069414584321) = (r : Int) := by rw [IntKind.wrap_u64]; omega
    clear ha hb h la lb hr hs
    go_enter Tryd.func88, Tryd.ntmps88
    go_wp2_with fail
    refine (A.out _).mono ?_
    rintro e w1 ⟨rfl, rfl⟩
    go_wp2_with fail
    refine (B.out _).mono ?_
    rintro e w1 ⟨rfl, rfl⟩
    go_wp2
    go_ret
    exact ⟨rfl, rfl⟩
  · rw [if_neg h] at k
    rw [show (x + 18446744073709551616 - y - 0) % 18446744073709551616 = r by omega] at k
    clear ha hb h la lb hr
    go_enter Tryd.func88, Tryd.ntmps88
    go_wp2_with fail
    refine (A.out _).mono ?_
    rintro e w1 ⟨rfl, rfl⟩
    go_wp2_with fail
    refine (B.out _).mono ?_
    rintro e w1 ⟨rfl, rfl⟩
    go_wp2
    go_ret
    exact ⟨rfl, rfl⟩


/-- The steps of what a wide number leaves, each under a name. -/
theorem red_num (h l : Nat) (hh : h < 18446744073709551616) (hl : l < 18446744073709551616) :
    ∃ t s0 b b' s1 m s2 c c' s3 : Nat, (h : Int) / 4294967296 = (t : Int) ∧ s0 = (l + 18446744073709551616 - t - 0) % 18446744073709551616 ∧ b = (if l < t + 0 then 1 else 0)
      ∧ IntKind.u64.wrap ((b : Int) * 4294967295) = (b' : Int) ∧ IntKind.u64.wrap ((s0 : Int) - (b' : Int)) = (s1 : Int) ∧ bits .and .u64 (h : Int) 4294967295 = ((h % 4294967296 : Nat) : Int)
      ∧ IntKind.u64.wrap (((h % 4294967296 : Nat) : Int) * 4294967295) = (m : Int) ∧ s2 = (s1 + m + 0) % 18446744073709551616 ∧ c = (s1 + m + 0) / 18446744073709551616
      ∧ IntKind.u64.wrap ((c : Int) * 4294967295) = (c' : Int) ∧ IntKind.u64.wrap ((s2 : Int) + (c' : Int)) = (s3 : Int) ∧ s3 < 18446744073709551616 ∧ s3 % 18446744069414584321 = vl h l % 18446744069414584321 := by
  obtain ⟨t, ht⟩ : ∃ t, t = h / 4294967296 := ⟨_, rfl⟩
  obtain ⟨b, hb⟩ : ∃ b : Nat, b = (if l < t + 0 then 1 else 0) := ⟨_, rfl⟩
  obtain ⟨g, hg⟩ : ∃ g, g = h % 4294967296 := ⟨_, rfl⟩
  have hb1 : b = 1 ∧ l < t ∨ b = 0 ∧ t ≤ l := by
    by_cases c : l < t
    · rw [if_pos (by omega)] at hb; exact Or.inl ⟨hb, c⟩
    · rw [if_neg (by omega)] at hb; exact Or.inr ⟨hb, by omega⟩
  obtain ⟨s1, h1⟩ : ∃ s1, s1 = l + b * 18446744069414584321 - t := ⟨_, rfl⟩
  have h1l : s1 < 18446744073709551616 := by omega
  obtain ⟨m, hm⟩ : ∃ m, m = g * 4294967295 := ⟨_, rfl⟩
  have hml : m ≤ 18446744065119617025 := by omega
  have hv : s1 + m + 18446744069414584321 * (t * 4294967297 + g) = vl h l + 18446744069414584321 * b := by unfold vl; omega
  have hv2 : (s1 + m) % 18446744069414584321 = vl h l % 18446744069414584321 := by
    have := congrArg (· % 18446744069414584321) hv
    simpa only [Nat.add_mul_mod_self_left] using this
  have q1 : (h : Int) / 4294967296 = (t : Int) := by omega
  have q2 : IntKind.u64.wrap ((b : Int) * 4294967295) = ((b * 4294967295 : Nat) : Int) := by rw [IntKind.wrap_u64]; omega
  have q3 : IntKind.u64.wrap (((l + 18446744073709551616 - t - 0) % 18446744073709551616 : Nat) - ((b * 4294967295 : Nat) : Int)) = (s1 : Int) := by
    rw [IntKind.wrap_u64]; rcases hb1 with ⟨rfl, c⟩ | ⟨rfl, c⟩
    · clear hv hv2 hml hm q1 q2 hg hb; omega
    · clear hv hv2 hml hm q1 q2 hg hb; omega
  have q4 : IntKind.u64.wrap (((h % 4294967296 : Nat) : Int) * 4294967295) = (m : Int) := by rw [← hg, IntKind.wrap_u64]; clear hv hv2 hb1 hb h1 q3 q2; omega
  clear hv hb1 h1
  by_cases hc : s1 + m < 18446744073709551616
  · refine ⟨t, _, b, b * 4294967295, s1, m, s1 + m, 0, 0, s1 + m, q1, rfl, by assumption, q2, q3, Bt.maskN h hh, q4, ?_, ?_, rfl, ?_, hc, hv2⟩
    · rw [Nat.add_zero, Nat.mod_eq_of_lt hc]
    · rw [Nat.add_zero, Nat.div_eq_of_lt hc]
    · exact Bt.wrapN _ hc
  · refine ⟨t, _, b, b * 4294967295, s1, m, s1 + m - 18446744073709551616, 1, 4294967295, s1 + m - 18446744069414584321, q1, rfl, by assumption, q2, q3, Bt.maskN h hh, q4, ?_, ?_, rfl, ?_, ?_, ?_⟩
    · clear hv2 q1 q2 q3 q4; omega
    · clear hv2 q1 q2 q3 q4; omega
    · rw [IntKind.wrap_u64]; clear hv2 q1 q2 q3 q4; omega
    · clear hv2 q1 q2 q3 q4; omega
    · rw [← hv2, ← Nat.mod_eq_sub_mod]; clear hv2 q1 q2 q3 q4; omega

set_option maxHeartbeats 1000000 in
theorem reduce (h l : Nat) (hh : h < 18446744073709551616) (hl : l < 18446744073709551616) (w : World) :
    Calls Tryd.prog 57 #[.agg #[.int .u64 h, .int .u64 l]] w fun e w' => e = .returned (.int .u64 ((vl h l % 18446744069414584321 : Nat) : Int)) ∧ Below w.heap.size w w' := by
  obtain ⟨t, s0, b, b', s1, m, s2, c, c', s3, k1, e0, eb, k1', k2, k3, k4, e2, ec, k4', k5, l3, e3⟩ := red_num h l hh hl
  have r1 := Bt.sub64z l t
  have r2 := Bt.add64z s1 m
  rw [← e0, ← eb] at r1
  rw [← e2, ← ec] at r2
  have O := Lib.hid (fun W => of s3 l3 W)
  rw [e3] at O
  clear e0 eb e2 ec l3 e3 hh hl
  generalize h % 4294967296 = g at *
  generalize vl h l % 18446744069414584321 = r at *
  go_enter Tryd.func57, Tryd.ntmps57
  go_wp2_with fail
  refine (O.out _).mono ?_
  rintro e w1 ⟨rfl, rfl⟩
  go_wp2
  go_ret
  exact ⟨rfl, (Below.refl _ _).alloc (Nat.le_refl _) _⟩

set_option maxHeartbeats 400000 in
theorem mul (a b : Nat) (ha : a < 18446744073709551616) (hb : b < 18446744073709551616) (w : World) :
    Calls Tryd.prog 42 #[.int .u64 a, .int .u64 b] w fun e w' => e = .returned (.int .u64 ((a * b % 18446744069414584321 : Nat) : Int)) ∧ Below w.heap.size w w' := by
  have hab : a * b < 18446744073709551616 * 18446744073709551616 := Nat.mul_lt_mul'' ha hb
  have M := Lib.hid (fun W => Wd.mul a b ha hb W)
  have R := Lib.hid (fun W => reduce (hi (a * b)) (lo (a * b)) (hi_lt _) (lo_lt _) W)
  rw [vl_hi_lo, Nat.mod_eq_of_lt (show a * b < 340282366920938463463374607431768211456 from hab)] at R
  clear ha hb hab
  generalize hi (a * b) = p at *
  generalize lo (a * b) = q at *
  generalize a * b % 18446744069414584321 = r at *
  go_enter Tryd.func42, Tryd.ntmps42
  go_wp2_with fail
  refine (M.out _).mono ?_
  rintro e w1 ⟨rfl, h1⟩
  go_wp2_with fail
  refine (R.out _).mono ?_
  rintro e w2 ⟨rfl, h2⟩
  go_wp2
  go_ret
  exact ⟨rfl, h1.trans (h2.mono h1.size)⟩
end Gd
end Go.Proofs.YtnnieiedkjekpaaDoor
