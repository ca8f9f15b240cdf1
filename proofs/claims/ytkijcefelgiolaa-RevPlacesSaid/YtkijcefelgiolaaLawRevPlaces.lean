/- RevPlaces: of every place, number of bits and number of a digit's bits the law of places turned about answers true, and changes nothing. -/
import Derived.Test.YtkijcefelgiolaaFrame
import Derived.Test.YtkijcefelgiolaaRev
set_option linter.unusedVariables false
namespace Go.Proofs.Ytkijcefelgiolaa.revPlaces
open Go.ChangeShapes Go.WideShapes Go.ChangeAt Go.RowKit
open Rn Rv

set_option maxHeartbeats 1000000 in
set_option maxRecDepth 100000 in
theorem bad_klow (i k r : Int) (h : k < 0) (hB : ∀ W, Calls Try.prog 5 #[.int .i64 i, .int .i64 k] W fun e w' => e = .returned (.tuple #[.int .i64 0, .int .i64 1]) ∧ W = w') (hD : ∀ W, Calls Try.prog 6 #[.int .i64 i, .int .i64 k, .int .i64 r] W fun e w' => e = .returned (.tuple #[.int .i64 0, .int .i64 1]) ∧ W = w') (w : World) :
    Calls Try.prog 3 #[.int .i64 i, .int .i64 k, .int .i64 r] w fun e w' => e = .returned (.bool true) ∧ Below w.heap.size w w' := by
  have HB := Lib.hid hB
  have HD := Lib.hid hD
  clear hB hD
  go_enter Try.func3, Try.ntmps3
  go_wp2_with fail
  refine (Rv.awake _).mono ?_
  rintro e w1 ⟨rfl, c1⟩
  go_wp2_with fail
  refine (HB.out _).mono ?_
  rintro e w2 ⟨rfl, rfl⟩
  go_wp2_with fail
  refine (HD.out _).mono ?_
  rintro e w3 ⟨rfl, rfl⟩
  go_wp2
  go_ret
  exact ⟨by simp [go_sem], c1⟩

set_option maxHeartbeats 1000000 in
set_option maxRecDepth 100000 in
theorem bad_khigh (i k r : Int) (h : 32 < k) (hB : ∀ W, Calls Try.prog 5 #[.int .i64 i, .int .i64 k] W fun e w' => e = .returned (.tuple #[.int .i64 0, .int .i64 1]) ∧ W = w') (hD : ∀ W, Calls Try.prog 6 #[.int .i64 i, .int .i64 k, .int .i64 r] W fun e w' => e = .returned (.tuple #[.int .i64 0, .int .i64 1]) ∧ W = w') (w : World) :
    Calls Try.prog 3 #[.int .i64 i, .int .i64 k, .int .i64 r] w fun e w' => e = .returned (.bool true) ∧ Below w.heap.size w w' := by
  have HB := Lib.hid hB
  have HD := Lib.hid hD
  clear hB hD
  have h1 : ¬ k < 0 := by omega
  go_enter Try.func3, Try.ntmps3
  go_wp2_with fail
  refine (Rv.awake _).mono ?_
  rintro e w1 ⟨rfl, c1⟩
  go_wp2_with fail
  refine (HB.out _).mono ?_
  rintro e w2 ⟨rfl, rfl⟩
  go_wp2_with fail
  refine (HD.out _).mono ?_
  rintro e w3 ⟨rfl, rfl⟩
  go_wp2
  go_ret
  exact ⟨by simp [go_sem], c1⟩

set_option maxHeartbeats 1000000 in
set_option maxRecDepth 100000 in
theorem bad_ilow (i : Int) (k : Nat) (r : Int) (hk : k ≤ 32) (h : i < 0) (hB : ∀ W, Calls Try.prog 5 #[.int .i64 i, .int .i64 (k : Nat)] W fun e w' => e = .returned (.tuple #[.int .i64 0, .int .i64 1]) ∧ W = w') (hD : ∀ W, Calls Try.prog 6 #[.int .i64 i, .int .i64 (k : Nat), .int .i64 r] W fun e w' => e = .returned (.tuple #[.int .i64 0, .int .i64 1]) ∧ W = w') (w : World) :
    Calls Try.prog 3 #[.int .i64 i, .int .i64 (k : Nat), .int .i64 r] w fun e w' => e = .returned (.bool true) ∧ Below w.heap.size w w' := by
  have HB := Lib.hid hB
  have HD := Lib.hid hD
  clear hB hD
  have h1 : ¬ (k : Int) < 0 := by omega
  have h2 : ¬ 32 < (k : Int) := by omega
  go_enter Try.func3, Try.ntmps3
  go_wp2_with fail
  refine (Rv.awake _).mono ?_
  rintro e w1 ⟨rfl, c1⟩
  go_wp2_with fail
  refine (HB.out _).mono ?_
  rintro e w2 ⟨rfl, rfl⟩
  go_wp2_with fail
  refine (HD.out _).mono ?_
  rintro e w3 ⟨rfl, rfl⟩
  go_wp2
  go_ret
  exact ⟨by simp [go_sem], c1⟩

set_option maxHeartbeats 1000000 in
set_option maxRecDepth 100000 in
theorem bad_ihigh (i k p : Nat) (r : Int) (hk : k ≤ 32) (hp : p = 2 ^ k) (h : p ≤ i) (hB : ∀ W, Calls Try.prog 5 #[.int .i64 (i : Nat), .int .i64 (k : Nat)] W fun e w' => e = .returned (.tuple #[.int .i64 0, .int .i64 1]) ∧ W = w') (hD : ∀ W, Calls Try.prog 6 #[.int .i64 (i : Nat), .int .i64 (k : Nat), .int .i64 r] W fun e w' => e = .returned (.tuple #[.int .i64 0, .int .i64 1]) ∧ W = w') (w : World) :
    Calls Try.prog 3 #[.int .i64 (i : Nat), .int .i64 (k : Nat), .int .i64 r] w fun e w' => e = .returned (.bool true) ∧ Below w.heap.size w w' := by
  have HB := Lib.hid hB
  have HD := Lib.hid hD
  clear hB hD
  have h1 : ¬ (k : Int) < 0 := by omega
  have h2 : ¬ 32 < (k : Int) := by omega
  have h3 : ¬ (i : Int) < 0 := by omega
  have h4 : (p : Int) ≤ i := by omega
  have p1 := Bt.pow_i64 k (by omega)
  rw [← hp] at p1
  clear hp h
  go_enter Try.func3, Try.ntmps3
  go_wp2_with fail
  refine (Rv.awake _).mono ?_
  rintro e w1 ⟨rfl, c1⟩
  go_wp2_with fail
  refine (HB.out _).mono ?_
  rintro e w2 ⟨rfl, rfl⟩
  go_wp2_with fail
  refine (HD.out _).mono ?_
  rintro e w3 ⟨rfl, rfl⟩
  go_wp2
  go_ret
  exact ⟨by simp [go_sem], c1⟩

set_option maxHeartbeats 1000000 in
set_option maxRecDepth 100000 in
theorem good_low (i k p n : Nat) (r : Int) (hr : r < 1) (hk : k ≤ 32) (hp : p = 2 ^ k) (h : i < p) (hB : ∀ W, Calls Try.prog 5 #[.int .i64 (i : Nat), .int .i64 (k : Nat)] W fun e w' => e = .returned (.tuple #[.int .i64 (n : Nat), .int .i64 0]) ∧ Below W.heap.size W w') (hG : ∀ W, Calls Try.prog 5 #[.int .i64 (n : Nat), .int .i64 (k : Nat)] W fun e w' => e = .returned (.tuple #[.int .i64 (i : Nat), .int .i64 0]) ∧ Below W.heap.size W w') (hR : ∀ W, Calls Try.prog 7 #[.int .i64 (i : Nat), .int .i64 (k : Nat), .int .i64 1] W fun e w' => e = .returned (.int .i64 (n : Nat)) ∧ W = w') (hD : ∀ W, Calls Try.prog 6 #[.int .i64 (i : Nat), .int .i64 (k : Nat), .int .i64 r] W fun e w' => e = .returned (.tuple #[.int .i64 0, .int .i64 1]) ∧ W = w') (w : World) :
    Calls Try.prog 3 #[.int .i64 (i : Nat), .int .i64 (k : Nat), .int .i64 r] w fun e w' => e = .returned (.bool true) ∧ Below w.heap.size w w' := by
  have HB := Lib.hid hB
  have HG := Lib.hid hG
  have HR := Lib.hid hR
  have HD := Lib.hid hD
  clear hB hG hR hD
  have h1 : ¬ (k : Int) < 0 := by omega
  have h2 : ¬ 32 < (k : Int) := by omega
  have h3 : ¬ (i : Int) < 0 := by omega
  have h4 : ¬ (p : Int) ≤ i := by omega
  have p1 := Bt.pow_i64 k (by omega)
  rw [← hp] at p1
  clear hp h
  go_enter Try.func3, Try.ntmps3
  go_wp2_with fail
  refine (Rv.awake _).mono ?_
  rintro e w1 ⟨rfl, c1⟩
  go_wp2_with fail
  refine (HB.out _).mono ?_
  rintro e w2 ⟨rfl, d2⟩
  have c2 := c1.trans (d2.mono c1.size)
  clear d2 c1
  go_wp2_with fail
  refine (HD.out _).mono ?_
  rintro e w3 ⟨rfl, rfl⟩
  go_wp2_with fail
  refine (HG.out _).mono ?_
  rintro e w4 ⟨rfl, d4⟩
  have c4 := c2.trans (d4.mono c2.size)
  clear d4 c2
  go_wp2_with fail
  refine (HR.out _).mono ?_
  rintro e w5 ⟨rfl, rfl⟩
  go_wp2
  go_ret
  exact ⟨by simp [go_sem], c4⟩

set_option maxHeartbeats 1000000 in
set_option maxRecDepth 100000 in
theorem good_high (i k p n : Nat) (r : Int) (hr : 8 < r) (hk : k ≤ 32) (hp : p = 2 ^ k) (h : i < p) (hB : ∀ W, Calls Try.prog 5 #[.int .i64 (i : Nat), .int .i64 (k : Nat)] W fun e w' => e = .returned (.tuple #[.int .i64 (n : Nat), .int .i64 0]) ∧ Below W.heap.size W w') (hG : ∀ W, Calls Try.prog 5 #[.int .i64 (n : Nat), .int .i64 (k : Nat)] W fun e w' => e = .returned (.tuple #[.int .i64 (i : Nat), .int .i64 0]) ∧ Below W.heap.size W w') (hR : ∀ W, Calls Try.prog 7 #[.int .i64 (i : Nat), .int .i64 (k : Nat), .int .i64 1] W fun e w' => e = .returned (.int .i64 (n : Nat)) ∧ W = w') (hD : ∀ W, Calls Try.prog 6 #[.int .i64 (i : Nat), .int .i64 (k : Nat), .int .i64 r] W fun e w' => e = .returned (.tuple #[.int .i64 0, .int .i64 1]) ∧ W = w') (w : World) :
    Calls Try.prog 3 #[.int .i64 (i : Nat), .int .i64 (k : Nat), .int .i64 r] w fun e w' => e = .returned (.bool true) ∧ Below w.heap.size w w' := by
  have HB := Lib.hid hB
  have HG := Lib.hid hG
  have HR := Lib.hid hR
  have HD := Lib.hid hD
  clear hB hG hR hD
  have h1 : ¬ (k : Int) < 0 := by omega
  have h2 : ¬ 32 < (k : Int) := by omega
  have h3 : ¬ (i : Int) < 0 := by omega
  have h4 : ¬ (p : Int) ≤ i := by omega
  have p1 := Bt.pow_i64 k (by omega)
  rw [← hp] at p1
  clear hp h
  have r1 : ¬ r < 1 := by omega
  go_enter Try.func3, Try.ntmps3
  go_wp2_with fail
  refine (Rv.awake _).mono ?_
  rintro e w1 ⟨rfl, c1⟩
  go_wp2_with fail
  refine (HB.out _).mono ?_
  rintro e w2 ⟨rfl, d2⟩
  have c2 := c1.trans (d2.mono c1.size)
  clear d2 c1
  go_wp2_with fail
  refine (HD.out _).mono ?_
  rintro e w3 ⟨rfl, rfl⟩
  go_wp2_with fail
  refine (HG.out _).mono ?_
  rintro e w4 ⟨rfl, d4⟩
  have c4 := c2.trans (d4.mono c2.size)
  clear d4 c2
  go_wp2_with fail
  refine (HR.out _).mono ?_
  rintro e w5 ⟨rfl, rfl⟩
  go_wp2
  go_ret
  exact ⟨by simp [go_sem], c4⟩

set_option maxHeartbeats 1000000 in
set_option maxRecDepth 100000 in
theorem good_odd (i k p n : Nat) (r m : Nat) (h0 : 0 < r) (h8 : r ≤ 8) (hm : m = k % r) (hm0 : 0 < m) (hk : k ≤ 32) (hp : p = 2 ^ k) (h : i < p) (hB : ∀ W, Calls Try.prog 5 #[.int .i64 (i : Nat), .int .i64 (k : Nat)] W fun e w' => e = .returned (.tuple #[.int .i64 (n : Nat), .int .i64 0]) ∧ Below W.heap.size W w') (hG : ∀ W, Calls Try.prog 5 #[.int .i64 (n : Nat), .int .i64 (k : Nat)] W fun e w' => e = .returned (.tuple #[.int .i64 (i : Nat), .int .i64 0]) ∧ Below W.heap.size W w') (hR : ∀ W, Calls Try.prog 7 #[.int .i64 (i : Nat), .int .i64 (k : Nat), .int .i64 1] W fun e w' => e = .returned (.int .i64 (n : Nat)) ∧ W = w') (hD : ∀ W, Calls Try.prog 6 #[.int .i64 (i : Nat), .int .i64 (k : Nat), .int .i64 (r : Nat)] W fun e w' => e = .returned (.tuple #[.int .i64 0, .int .i64 1]) ∧ W = w') (w : World) :
    Calls Try.prog 3 #[.int .i64 (i : Nat), .int .i64 (k : Nat), .int .i64 (r : Nat)] w fun e w' => e = .returned (.bool true) ∧ Below w.heap.size w w' := by
  have HB := Lib.hid hB
  have HG := Lib.hid hG
  have HR := Lib.hid hR
  have HD := Lib.hid hD
  clear hB hG hR hD
  have h1 : ¬ (k : Int) < 0 := by omega
  have h2 : ¬ 32 < (k : Int) := by omega
  have h3 : ¬ (i : Int) < 0 := by omega
  have h4 : ¬ (p : Int) ≤ i := by omega
  have p1 := Bt.pow_i64 k (by omega)
  rw [← hp] at p1
  clear hp h
  have r1 : ¬ (r : Int) < 1 := by omega
  have r2 : ¬ 8 < (r : Int) := by omega
  have r3 : ((r : Int) == 0) = false := by rw [beq_eq_false_iff_ne]; omega
  have hq : (k : Int).tmod (r : Int) = (m : Int) := by rw [hm]; rfl
  have m8 : m < 8 := by have := Nat.mod_lt k h0; omega
  have m1 : ((m : Int) != 0) = true := by simp; omega
  clear hm
  go_enter Try.func3, Try.ntmps3
  go_wp2_with fail
  refine (Rv.awake _).mono ?_
  rintro e w1 ⟨rfl, c1⟩
  go_wp2_with fail
  refine (HB.out _).mono ?_
  rintro e w2 ⟨rfl, d2⟩
  have c2 := c1.trans (d2.mono c1.size)
  clear d2 c1
  go_wp2_with fail
  refine (HD.out _).mono ?_
  rintro e w3 ⟨rfl, rfl⟩
  go_wp2_with fail
  refine (HG.out _).mono ?_
  rintro e w4 ⟨rfl, d4⟩
  have c4 := c2.trans (d4.mono c2.size)
  clear d4 c2
  go_wp2_with fail
  refine (HR.out _).mono ?_
  rintro e w5 ⟨rfl, rfl⟩
  go_wp2
  go_ret
  exact ⟨by simp [go_sem], c4⟩

set_option maxHeartbeats 1000000 in
set_option maxRecDepth 100000 in
theorem good_in (i k p n r d : Nat) (h0 : 0 < r) (h8 : r ≤ 8) (hm : k % r = 0) (hk : k ≤ 32) (hp : p = 2 ^ k) (h : i < p) (hB : ∀ W, Calls Try.prog 5 #[.int .i64 (i : Nat), .int .i64 (k : Nat)] W fun e w' => e = .returned (.tuple #[.int .i64 (n : Nat), .int .i64 0]) ∧ Below W.heap.size W w') (hG : ∀ W, Calls Try.prog 5 #[.int .i64 (n : Nat), .int .i64 (k : Nat)] W fun e w' => e = .returned (.tuple #[.int .i64 (i : Nat), .int .i64 0]) ∧ Below W.heap.size W w') (hR : ∀ W, Calls Try.prog 7 #[.int .i64 (i : Nat), .int .i64 (k : Nat), .int .i64 1] W fun e w' => e = .returned (.int .i64 (n : Nat)) ∧ W = w') (hD : ∀ W, Calls Try.prog 6 #[.int .i64 (i : Nat), .int .i64 (k : Nat), .int .i64 (r : Nat)] W fun e w' => e = .returned (.tuple #[.int .i64 (d : Nat), .int .i64 0]) ∧ Below W.heap.size W w') (hE : ∀ W, Calls Try.prog 6 #[.int .i64 (d : Nat), .int .i64 (k : Nat), .int .i64 (r : Nat)] W fun e w' => e = .returned (.tuple #[.int .i64 (i : Nat), .int .i64 0]) ∧ Below W.heap.size W w') (hS : ∀ W, Calls Try.prog 7 #[.int .i64 (i : Nat), .int .i64 (k : Nat), .int .i64 (r : Nat)] W fun e w' => e = .returned (.int .i64 (d : Nat)) ∧ W = w') (w : World) :
    Calls Try.prog 3 #[.int .i64 (i : Nat), .int .i64 (k : Nat), .int .i64 (r : Nat)] w fun e w' => e = .returned (.bool true) ∧ Below w.heap.size w w' := by
  have HB := Lib.hid hB
  have HG := Lib.hid hG
  have HR := Lib.hid hR
  have HD := Lib.hid hD
  have HE := Lib.hid hE
  have HS := Lib.hid hS
  clear hB hG hR hD hE hS
  have h1 : ¬ (k : Int) < 0 := by omega
  have h2 : ¬ 32 < (k : Int) := by omega
  have h3 : ¬ (i : Int) < 0 := by omega
  have h4 : ¬ (p : Int) ≤ i := by omega
  have p1 := Bt.pow_i64 k (by omega)
  rw [← hp] at p1
  clear hp h
  have r1 : ¬ (r : Int) < 1 := by omega
  have r2 : ¬ 8 < (r : Int) := by omega
  have r3 : ((r : Int) == 0) = false := by rw [beq_eq_false_iff_ne]; omega
  have hq : (k : Int).tmod (r : Int) = 0 := by show ((k % r : Nat) : Int) = 0; rw [hm]; rfl
  clear hm
  go_enter Try.func3, Try.ntmps3
  go_wp2_with fail
  refine (Rv.awake _).mono ?_
  rintro e w1 ⟨rfl, c1⟩
  go_wp2_with fail
  refine (HB.out _).mono ?_
  rintro e w2 ⟨rfl, d2⟩
  have c2 := c1.trans (d2.mono c1.size)
  clear d2 c1
  go_wp2_with fail
  refine (HD.out _).mono ?_
  rintro e w3 ⟨rfl, d3⟩
  have c3 := c2.trans (d3.mono c2.size)
  clear d3 c2
  go_wp2_with fail
  refine (HG.out _).mono ?_
  rintro e w4 ⟨rfl, d4⟩
  have c4 := c3.trans (d4.mono c3.size)
  clear d4 c3
  go_wp2_with fail
  refine (HR.out _).mono ?_
  rintro e w5 ⟨rfl, rfl⟩
  go_wp2_with fail
  refine (HE.out _).mono ?_
  rintro e w6 ⟨rfl, d6⟩
  have c6 := c4.trans (d6.mono c4.size)
  clear d6 c4
  go_wp2_with fail
  refine (HS.out _).mono ?_
  rintro e w7 ⟨rfl, rfl⟩
  go_wp2
  go_ret
  exact ⟨by simp [go_sem], c6⟩

theorem walk (i k r : Int) (w : World) : Calls Try.prog 3 #[.int .i64 i, .int .i64 k, .int .i64 r] w fun e w' => e = .returned (.bool true) ∧ Below w.heap.size w w' := by
  rcases bad_or i k with hb | ⟨a, b, rfl, rfl, hk, hi⟩
  · have CB := fun W => bits_bad i k hb W
    have CD := fun W => digits_bad i k r hb W
    by_cases k0 : k < 0
    · exact bad_klow i k r k0 CB CD w
    by_cases k3 : 32 < k
    · exact bad_khigh i k r k3 CB CD w
    obtain ⟨b, rfl⟩ := Int.eq_ofNat_of_zero_le (show 0 ≤ k by omega)
    by_cases i0 : i < 0
    · exact bad_ilow i b r (by omega) i0 CB CD w
    obtain ⟨a, rfl⟩ := Int.eq_ofNat_of_zero_le (show 0 ≤ i by omega)
    refine bad_ihigh a b _ r (by omega) rfl ?_ CB CD w
    rcases hb with c | c | c | ⟨b', e, _, c⟩
    · exact absurd c k0
    · exact absurd c k3
    · exact absurd c i0
    · obtain rfl : b = b' := by omega
      omega
  · have CB := fun W => Rv.bits a b hk hi W
    have CG := fun W => Rv.bits (tn b 1 a) b hk (tn_lt b 1 a (Nat.mod_one b)) W
    rw [tn_tn b 1 a (Nat.mod_one b) hi] at CG
    have CR := fun W => ref a b 1 (by decide) (by decide) hk hi W
    rcases odd_or b r with ho | ⟨s, rfl, h0, h8, hm⟩
    · have CD := fun W => digits_odd a b r hk hi ho W
      rcases ho with c | c | ⟨s, rfl, h0, h8, hm⟩
      · exact good_low a b _ _ r c hk rfl hi CB CG CR CD w
      · exact good_high a b _ _ r c hk rfl hi CB CG CR CD w
      · exact good_odd a b _ _ s _ h0 h8 rfl (by omega) hk rfl hi CB CG CR CD w
    · have CD := fun W => digits a b s h0 h8 hk hm hi W
      have CE := fun W => digits (tn b s a) b s h0 h8 hk hm (tn_lt b s a hm) W
      rw [tn_tn b s a hm hi] at CE
      exact good_in a b _ _ s _ h0 h8 hm hk rfl hi CB CG CR CD CE (fun W => ref a b s h0 h8 hk hi W) w

set_option maxRecDepth 100000 in
theorem lifted (os : Os) (started : os.Started) (H : Type) (enc : TypeId × Value → H) :
    ReturnsInHanded {} Try.checked os 3 .any (Rows.revPlacesSpec.pre6 enc Try.prog Try.f3 Rows.revPlacesRow.domain false) (Rows.revPlacesSpec.post enc Try.prog Try.f3 false true false false) := by
  refine returnsInHanded_of_change (C := Try.checked) Fr.own started (by kernel_rfl) Try.func3
    (ChangeSpec.witness6 (enc := enc) (C := Try.checked) false ⟨#[], #[.int .i64 0, .int .i64 0, .int .i64 0], []⟩ 8 (by kernel_rfl) (by kernel_rfl) (by kernel_rfl) (by kernel_rfl)) ?_
  intro W base args ds gs before hval0 hW hcnd _
  have hval : ∀ (j : Nat) t v, Try.f3.params[j]? = some t → args[j]? = some v → Value.okWide Try.prog W .any base t v := hval0
  have hW' := hW
  obtain ⟨p, q, hA0, hV, rfl, hfz, hnd⟩ := hW
  have hA : DataW.TrodAll enc Try.prog W 0 (fun _ => true) true Try.f3.params.toList args.toList ds p := hA0
  obtain ⟨rfl, rfl⟩ := trodVars_none hV
  rw [Try.params3] at hA hval
  obtain ⟨v0, vs0, d0, ds0, p0, q0, hargs, rfl, rfl, h0, r0⟩ := trodAll_cons hA
  obtain ⟨v1, vs1, d1, ds1, p1, q1, rfl, rfl, rfl, h1, r1⟩ := trodAll_cons r0
  obtain ⟨v2, vs2, d2, ds2, p2, q2, rfl, rfl, rfl, h2, r2⟩ := trodAll_cons r1
  obtain ⟨rfl, rfl, rfl⟩ := trodAll_nil r2
  obtain rfl : args = #[v0, v1, v2] := by cases args; simp_all
  obtain ⟨x0, rfl, rfl, rfl, w0⟩ := open_int Try.underlying3 (hval 0 3 v0 rfl rfl) h0
  have b0 : -9223372036854775808 ≤ x0 ∧ x0 ≤ 9223372036854775807 := by simpa [Lit.wf, IntKind.min, IntKind.max, IntKind.signed, IntKind.bits] using w0
  obtain ⟨x1, rfl, rfl, rfl, w1⟩ := open_int Try.underlying3 (hval 1 3 v1 rfl rfl) h1
  have b1 : -9223372036854775808 ≤ x1 ∧ x1 ≤ 9223372036854775807 := by simpa [Lit.wf, IntKind.min, IntKind.max, IntKind.signed, IntKind.bits] using w1
  obtain ⟨x2, rfl, rfl, rfl, w2⟩ := open_int Try.underlying3 (hval 2 3 v2 rfl rfl) h2
  have b2 : -9223372036854775808 ≤ x2 ∧ x2 ≤ 9223372036854775807 := by simpa [Lit.wf, IntKind.min, IntKind.max, IntKind.signed, IntKind.bits] using w2
  simp only [List.append_nil] at hW'
  refine (walk x0 x1 x2  W).mono fun e W' ⟨he, hb⟩ => ?_
  subst he
  exact ⟨_, rfl, Fr.law_post (tb := 4) hW' hA0 rfl rfl rfl Try.underlying4 (by rw [Try.params3]; intro t ht; simp at ht; rcases ht with rfl | rfl | rfl; all_goals exact ⟨by kernel_rfl, of_decide_eq_true (by kernel_rfl)⟩) hb⟩

theorem proved : Rows.RevPlacesSaid :=
  OpenClaim.holds_of_wide 3 Try.f3 rfl rfl rfl rfl rfl rfl rfl ⟨rfl, rfl, rfl, rfl, rfl⟩ rfl rfl rfl rfl rfl (by kernel_rfl) Try.func3 (by kernel_rfl)
    (of_decide_eq_true (by kernel_rfl)) (by unfold Func.isWrapper; first | (rw [if_pos (by decide +kernel)]; kernel_rfl) | (rw [if_neg (by decide +kernel)]; exact ⟨rfl, rfl⟩))
    (fun os started H enc _ => lifted os started H enc)
end Go.Proofs.Ytkijcefelgiolaa.revPlaces
