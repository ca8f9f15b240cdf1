/- QuartersCross: of every five words, every exponent and every direction the law of crossings, goes and units answers true, and changes nothing. No condition. -/
import Derived.Test.YtfkhnfaammfbeaaFrame
import Derived.Test.YtfkhnfaammfbeaaQuartW
set_option linter.unusedVariables false
namespace Go.Proofs.Ytfkhnfaammfbeaa.quartersCross
open Go.ChangeShapes Go.WideShapes Go.ChangeAt Go.RowKit
open Nm Tn Kn Kq

theorem eA (a b c d : Nat) : ((a + b) % 18446744069414584321 + (c + d) % 18446744069414584321) % 18446744069414584321 = cA a b c d := by
  rw [← Nat.add_mod, cA_any]
  exact congrArg (· % 18446744069414584321) (by omega)
theorem eB (a b c d u : Nat) : ((a + u * b % 18446744069414584321) % 18446744069414584321 + (18446744069414584321 - (c + u * d % 18446744069414584321) % 18446744069414584321 % 18446744069414584321)) % 18446744069414584321 = cB a b c d u := by
  have m : ∀ x, x % 18446744069414584321 % 18446744069414584321 = x % 18446744069414584321 := fun x => Nat.mod_mod _ _
  rw [← sub_form, cB_any, Nat.add_mod_mod, Nat.add_mod_mod]
  obtain ⟨N, hN⟩ : ∃ N, N = 18446744069414584320 := ⟨_, rfl⟩
  rw [← hN]
  refine (sum2 (m _) (pro2 rfl (m _))).trans (congrArg (· % 18446744069414584321) ?_)
  rw [Nat.mul_add, Nat.mul_add, Nat.mul_left_comm N u d]
  omega
theorem eD (a b c d u : Nat) : ((a + u * d % 18446744069414584321) % 18446744069414584321 + (18446744069414584321 - (c + u * b % 18446744069414584321) % 18446744069414584321 % 18446744069414584321)) % 18446744069414584321 = cD a b c d u := by
  have m : ∀ x, x % 18446744069414584321 % 18446744069414584321 = x % 18446744069414584321 := fun x => Nat.mod_mod _ _
  rw [← sub_form, cD_any, Nat.add_mod_mod, Nat.add_mod_mod]
  have n2 : ∀ x, x % 18446744069414584321 = 18446744069414584320 * (18446744069414584320 * x) % 18446744069414584321 := fun x => by
    rw [← Nat.mul_assoc, Nat.mul_mod, show 18446744069414584320 * 18446744069414584320 % 18446744069414584321 = 1 by decide, Nat.one_mul, Nat.mod_mod]
  obtain ⟨N, hN⟩ : ∃ N, N = 18446744069414584320 := ⟨_, rfl⟩
  rw [← hN] at n2 ⊢
  refine (sum2 ((m _).trans (sum2 rfl (n2 (u * d)))) (pro2 rfl (m _))).trans (congrArg (· % 18446744069414584321) ?_)
  rw [Nat.mul_add, Nat.mul_add u, Nat.mul_add N (u * b), Nat.mul_left_comm u N d]
  omega
theorem uu (d : Nat) (hd : d ≤ 1) : rd 2 d * rd 2 d % 18446744069414584321 = 18446744069414584320 := by
  rw [rd_sq 1 d (by decide)]
  have h := rd_half 0 d (by decide)
  rw [Nat.pow_zero, Nat.pow_one] at h
  rw [← h]
  exact (Nat.mod_eq_of_lt (rd_lt _ _)).symm

set_option maxHeartbeats 1000000 in
set_option maxRecDepth 100000 in
theorem walk_low_in (a b c d u : Nat) (ha : a < 18446744073709551616) (hb : b < 18446744073709551616) (hc : c < 18446744073709551616) (hd : d < 18446744073709551616) (hu : u < 18446744073709551616) (k : Int) (h0 : k < 0) (x : Nat) (hx : x ≤ 1) (w : World) :
    Calls Try.prog 3 #[.int .u64 (a : Nat), .int .u64 (b : Nat), .int .u64 (c : Nat), .int .u64 (d : Nat), .int .u64 (u : Nat), .int .i64 k, .int .i64 (x : Int)] w fun e w' => e = .returned (.bool true) ∧ Below w.heap.size w w' := by
  have X := Lib.hid (fun W => cross a b c d u ha hb hc hd hu W)
  have A1 := Lib.hid (fun W => Gr.add a b W)
  have A2 := Lib.hid (fun W => Gr.add c d W)
  have A3 := Lib.hid (fun W => Gr.add ((a + b) % 18446744069414584321) ((c + d) % 18446744069414584321) W)
  have M1 := Lib.hid (fun W => Gr.mul u b hb W)
  have M2 := Lib.hid (fun W => Gr.mul u d hd W)
  have A4 := Lib.hid (fun W => Gr.add a (u * b % 18446744069414584321) W)
  have A5 := Lib.hid (fun W => Gr.add c (u * d % 18446744069414584321) W)
  have S1 := Lib.hid (fun W => Gr.sub ((a + u * b % 18446744069414584321) % 18446744069414584321) ((c + u * d % 18446744069414584321) % 18446744069414584321) W)
  have A6 := Lib.hid (fun W => Gr.add a c W)
  have A7 := Lib.hid (fun W => Gr.add b d W)
  have S2 := Lib.hid (fun W => show Calls Try.prog 7 #[.int .u64 (((a + c) % 18446744069414584321) : Nat), .int .u64 (((b + d) % 18446744069414584321) : Nat)] W fun e w' => e = .returned (.int .u64 (cC a b c d : Nat)) ∧ W = w' from Gr.sub ((a + c) % 18446744069414584321) ((b + d) % 18446744069414584321) W)
  have A8 := Lib.hid (fun W => Gr.add a (u * d % 18446744069414584321) W)
  have A9 := Lib.hid (fun W => Gr.add c (u * b % 18446744069414584321) W)
  have S3 := Lib.hid (fun W => Gr.sub ((a + u * d % 18446744069414584321) % 18446744069414584321) ((c + u * b % 18446744069414584321) % 18446744069414584321) W)
  rw [eA] at A3
  rw [eB] at S1
  rw [eD] at S3
  have ST := Lib.hid (fun W => steps_bad k (Or.inl h0) W)
  have UN := Lib.hid (fun W => unit_in x hx W)
  have UM := Lib.hid (fun W => Gr.mul (rd 2 x) (rd 2 x) (Nat.lt_trans (rd_lt _ _) (by decide)) W)
  rw [uu x hx] at UM
  have d0 : ((x : Int) != 0 && (x : Int) != 1) = false := by have h : x = 0 ∨ x = 1 := by omega
                                                             rcases h with rfl | rfl <;> rfl
  clear ha hb hc hd hu
  generalize cA a b c d = rA at *
  generalize cB a b c d u = rB at *
  generalize cC a b c d = rC at *
  generalize cD a b c d u = rD at *
  generalize (a + u * b % 18446744069414584321) % 18446744069414584321 = e4 at *
  generalize (c + u * d % 18446744069414584321) % 18446744069414584321 = e5 at *
  generalize (a + u * d % 18446744069414584321) % 18446744069414584321 = e8 at *
  generalize (c + u * b % 18446744069414584321) % 18446744069414584321 = e9 at *
  generalize u * b % 18446744069414584321 = m1 at *
  generalize u * d % 18446744069414584321 = m2 at *
  generalize (a + b) % 18446744069414584321 = e1 at *
  generalize (c + d) % 18446744069414584321 = e2 at *
  generalize (a + c) % 18446744069414584321 = e6 at *
  generalize (b + d) % 18446744069414584321 = e7 at *
  generalize rd 2 x = v at *
  go_enter Try.func3, Try.ntmps3
  go_wp2_with fail
  refine (Kq.awake _).mono ?_
  rintro e w1 ⟨rfl, h1⟩
  go_wp2_with fail
  refine (X.out _).mono ?_
  rintro e w2 ⟨rfl, h2⟩
  have k2 := h1.trans (h2.mono h1.size)
  have C5 := Kn.Ce.fresh w2 (.int .u64 (rA : Nat)) (.int .u64 (rB : Nat)) (.int .u64 (rC : Nat)) (.int .u64 (rD : Nat)) 24
  have B6 := (Below.refl w2.heap.size w2).alloc (Nat.le_refl _) (.cells #[.int .u64 (rA : Nat), .int .u64 (rB : Nat), .int .u64 (rC : Nat), .int .u64 (rD : Nat)] 24)
  have D1 := k2.trans (B6.mono k2.size)
  have EQ := fun W => eq_same (rA : Nat) (rB : Nat) (rC : Nat) (rD : Nat) W
  clear B6 h1 h2 k2
  go_wp2_with fail
  refine (A1.out _).mono ?_
  rintro e w3 ⟨rfl, rfl⟩
  go_wp2_with fail
  refine (A2.out _).mono ?_
  rintro e w3 ⟨rfl, rfl⟩
  go_wp2_with fail
  refine (A3.out _).mono ?_
  rintro e w3 ⟨rfl, rfl⟩
  go_wp2_with fail
  refine (M1.out _).mono ?_
  rintro e w3 ⟨rfl, rfl⟩
  go_wp2_with fail
  refine (A4.out _).mono ?_
  rintro e w3 ⟨rfl, rfl⟩
  go_wp2_with fail
  refine (M2.out _).mono ?_
  rintro e w3 ⟨rfl, rfl⟩
  go_wp2_with fail
  refine (A5.out _).mono ?_
  rintro e w3 ⟨rfl, rfl⟩
  go_wp2_with fail
  refine (S1.out _).mono ?_
  rintro e w3 ⟨rfl, rfl⟩
  go_wp2_with fail
  refine (A6.out _).mono ?_
  rintro e w3 ⟨rfl, rfl⟩
  go_wp2_with fail
  refine (A7.out _).mono ?_
  rintro e w3 ⟨rfl, rfl⟩
  go_wp2_with fail
  refine (S2.out _).mono ?_
  rintro e w3 ⟨rfl, rfl⟩
  go_wp2_with fail
  refine (M2.out _).mono ?_
  rintro e w3 ⟨rfl, rfl⟩
  go_wp2_with fail
  refine (A8.out _).mono ?_
  rintro e w3 ⟨rfl, rfl⟩
  go_wp2_with fail
  refine (M1.out _).mono ?_
  rintro e w3 ⟨rfl, rfl⟩
  go_wp2_with fail
  refine (A9.out _).mono ?_
  rintro e w3 ⟨rfl, rfl⟩
  go_wp2_with fail
  refine (S3.out _).mono ?_
  rintro e w3 ⟨rfl, rfl⟩
  go_wp2_with fail
  refine (ST.out _).mono ?_
  rintro e w3 ⟨rfl, rfl⟩
  go_wp2_with fail
  refine (UN.out _).mono ?_
  rintro e w4 ⟨rfl, h4⟩
  have C6 := C5.below h4
  have D2 := Lib.hid (D1.trans (h4.mono D1.size))
  have c0 := C6.c0
  have c1 := C6.c1
  have c2 := C6.c2
  have c3 := C6.c3
  clear C5 C6 D1 h4
  go_wp2_with fail
  all_goals
    refine (UM.out _).mono ?_
    rintro e w5 ⟨rfl, rfl⟩
    go_wp2
    go_ret
    exact ⟨by simp [go_sem], D2.out⟩

set_option maxHeartbeats 1000000 in
set_option maxRecDepth 100000 in
theorem walk_low_bad (a b c d u : Nat) (ha : a < 18446744073709551616) (hb : b < 18446744073709551616) (hc : c < 18446744073709551616) (hd : d < 18446744073709551616) (hu : u < 18446744073709551616) (k : Int) (h0 : k < 0) (x : Int) (x0 : x ≠ 0) (x1 : x ≠ 1) (w : World) :
    Calls Try.prog 3 #[.int .u64 (a : Nat), .int .u64 (b : Nat), .int .u64 (c : Nat), .int .u64 (d : Nat), .int .u64 (u : Nat), .int .i64 k, .int .i64 x] w fun e w' => e = .returned (.bool true) ∧ Below w.heap.size w w' := by
  have X := Lib.hid (fun W => cross a b c d u ha hb hc hd hu W)
  have A1 := Lib.hid (fun W => Gr.add a b W)
  have A2 := Lib.hid (fun W => Gr.add c d W)
  have A3 := Lib.hid (fun W => Gr.add ((a + b) % 18446744069414584321) ((c + d) % 18446744069414584321) W)
  have M1 := Lib.hid (fun W => Gr.mul u b hb W)
  have M2 := Lib.hid (fun W => Gr.mul u d hd W)
  have A4 := Lib.hid (fun W => Gr.add a (u * b % 18446744069414584321) W)
  have A5 := Lib.hid (fun W => Gr.add c (u * d % 18446744069414584321) W)
  have S1 := Lib.hid (fun W => Gr.sub ((a + u * b % 18446744069414584321) % 18446744069414584321) ((c + u * d % 18446744069414584321) % 18446744069414584321) W)
  have A6 := Lib.hid (fun W => Gr.add a c W)
  have A7 := Lib.hid (fun W => Gr.add b d W)
  have S2 := Lib.hid (fun W => show Calls Try.prog 7 #[.int .u64 (((a + c) % 18446744069414584321) : Nat), .int .u64 (((b + d) % 18446744069414584321) : Nat)] W fun e w' => e = .returned (.int .u64 (cC a b c d : Nat)) ∧ W = w' from Gr.sub ((a + c) % 18446744069414584321) ((b + d) % 18446744069414584321) W)
  have A8 := Lib.hid (fun W => Gr.add a (u * d % 18446744069414584321) W)
  have A9 := Lib.hid (fun W => Gr.add c (u * b % 18446744069414584321) W)
  have S3 := Lib.hid (fun W => Gr.sub ((a + u * d % 18446744069414584321) % 18446744069414584321) ((c + u * b % 18446744069414584321) % 18446744069414584321) W)
  rw [eA] at A3
  rw [eB] at S1
  rw [eD] at S3
  have ST := Lib.hid (fun W => steps_bad k (Or.inl h0) W)
  have UN := Lib.hid (fun W => unit_kind x x0 x1 W)
  have d0 : (x != 0) = true := by simp [x0]
  have d1 : (x != 1) = true := by simp [x1]
  clear ha hb hc hd hu
  generalize cA a b c d = rA at *
  generalize cB a b c d u = rB at *
  generalize cC a b c d = rC at *
  generalize cD a b c d u = rD at *
  generalize (a + u * b % 18446744069414584321) % 18446744069414584321 = e4 at *
  generalize (c + u * d % 18446744069414584321) % 18446744069414584321 = e5 at *
  generalize (a + u * d % 18446744069414584321) % 18446744069414584321 = e8 at *
  generalize (c + u * b % 18446744069414584321) % 18446744069414584321 = e9 at *
  generalize u * b % 18446744069414584321 = m1 at *
  generalize u * d % 18446744069414584321 = m2 at *
  generalize (a + b) % 18446744069414584321 = e1 at *
  generalize (c + d) % 18446744069414584321 = e2 at *
  generalize (a + c) % 18446744069414584321 = e6 at *
  generalize (b + d) % 18446744069414584321 = e7 at *
  go_enter Try.func3, Try.ntmps3
  go_wp2_with fail
  refine (Kq.awake _).mono ?_
  rintro e w1 ⟨rfl, h1⟩
  go_wp2_with fail
  refine (X.out _).mono ?_
  rintro e w2 ⟨rfl, h2⟩
  have k2 := h1.trans (h2.mono h1.size)
  have C5 := Kn.Ce.fresh w2 (.int .u64 (rA : Nat)) (.int .u64 (rB : Nat)) (.int .u64 (rC : Nat)) (.int .u64 (rD : Nat)) 24
  have B6 := (Below.refl w2.heap.size w2).alloc (Nat.le_refl _) (.cells #[.int .u64 (rA : Nat), .int .u64 (rB : Nat), .int .u64 (rC : Nat), .int .u64 (rD : Nat)] 24)
  have D1 := k2.trans (B6.mono k2.size)
  have EQ := fun W => eq_same (rA : Nat) (rB : Nat) (rC : Nat) (rD : Nat) W
  clear B6 h1 h2 k2
  go_wp2_with fail
  refine (A1.out _).mono ?_
  rintro e w3 ⟨rfl, rfl⟩
  go_wp2_with fail
  refine (A2.out _).mono ?_
  rintro e w3 ⟨rfl, rfl⟩
  go_wp2_with fail
  refine (A3.out _).mono ?_
  rintro e w3 ⟨rfl, rfl⟩
  go_wp2_with fail
  refine (M1.out _).mono ?_
  rintro e w3 ⟨rfl, rfl⟩
  go_wp2_with fail
  refine (A4.out _).mono ?_
  rintro e w3 ⟨rfl, rfl⟩
  go_wp2_with fail
  refine (M2.out _).mono ?_
  rintro e w3 ⟨rfl, rfl⟩
  go_wp2_with fail
  refine (A5.out _).mono ?_
  rintro e w3 ⟨rfl, rfl⟩
  go_wp2_with fail
  refine (S1.out _).mono ?_
  rintro e w3 ⟨rfl, rfl⟩
  go_wp2_with fail
  refine (A6.out _).mono ?_
  rintro e w3 ⟨rfl, rfl⟩
  go_wp2_with fail
  refine (A7.out _).mono ?_
  rintro e w3 ⟨rfl, rfl⟩
  go_wp2_with fail
  refine (S2.out _).mono ?_
  rintro e w3 ⟨rfl, rfl⟩
  go_wp2_with fail
  refine (M2.out _).mono ?_
  rintro e w3 ⟨rfl, rfl⟩
  go_wp2_with fail
  refine (A8.out _).mono ?_
  rintro e w3 ⟨rfl, rfl⟩
  go_wp2_with fail
  refine (M1.out _).mono ?_
  rintro e w3 ⟨rfl, rfl⟩
  go_wp2_with fail
  refine (A9.out _).mono ?_
  rintro e w3 ⟨rfl, rfl⟩
  go_wp2_with fail
  refine (S3.out _).mono ?_
  rintro e w3 ⟨rfl, rfl⟩
  go_wp2_with fail
  refine (ST.out _).mono ?_
  rintro e w3 ⟨rfl, rfl⟩
  go_wp2_with fail
  refine (UN.out _).mono ?_
  rintro e w4 ⟨rfl, rfl⟩
  have D2 := Lib.hid D1
  clear C5 D1
  go_wp2
  go_ret
  exact ⟨by simp [go_sem], D2.out⟩

set_option maxHeartbeats 1000000 in
set_option maxRecDepth 100000 in
theorem walk_high_in (a b c d u : Nat) (ha : a < 18446744073709551616) (hb : b < 18446744073709551616) (hc : c < 18446744073709551616) (hd : d < 18446744073709551616) (hu : u < 18446744073709551616) (k : Int) (h0 : ¬ k < 0) (h1 : 20 < k) (x : Nat) (hx : x ≤ 1) (w : World) :
    Calls Try.prog 3 #[.int .u64 (a : Nat), .int .u64 (b : Nat), .int .u64 (c : Nat), .int .u64 (d : Nat), .int .u64 (u : Nat), .int .i64 k, .int .i64 (x : Int)] w fun e w' => e = .returned (.bool true) ∧ Below w.heap.size w w' := by
  have X := Lib.hid (fun W => cross a b c d u ha hb hc hd hu W)
  have A1 := Lib.hid (fun W => Gr.add a b W)
  have A2 := Lib.hid (fun W => Gr.add c d W)
  have A3 := Lib.hid (fun W => Gr.add ((a + b) % 18446744069414584321) ((c + d) % 18446744069414584321) W)
  have M1 := Lib.hid (fun W => Gr.mul u b hb W)
  have M2 := Lib.hid (fun W => Gr.mul u d hd W)
  have A4 := Lib.hid (fun W => Gr.add a (u * b % 18446744069414584321) W)
  have A5 := Lib.hid (fun W => Gr.add c (u * d % 18446744069414584321) W)
  have S1 := Lib.hid (fun W => Gr.sub ((a + u * b % 18446744069414584321) % 18446744069414584321) ((c + u * d % 18446744069414584321) % 18446744069414584321) W)
  have A6 := Lib.hid (fun W => Gr.add a c W)
  have A7 := Lib.hid (fun W => Gr.add b d W)
  have S2 := Lib.hid (fun W => show Calls Try.prog 7 #[.int .u64 (((a + c) % 18446744069414584321) : Nat), .int .u64 (((b + d) % 18446744069414584321) : Nat)] W fun e w' => e = .returned (.int .u64 (cC a b c d : Nat)) ∧ W = w' from Gr.sub ((a + c) % 18446744069414584321) ((b + d) % 18446744069414584321) W)
  have A8 := Lib.hid (fun W => Gr.add a (u * d % 18446744069414584321) W)
  have A9 := Lib.hid (fun W => Gr.add c (u * b % 18446744069414584321) W)
  have S3 := Lib.hid (fun W => Gr.sub ((a + u * d % 18446744069414584321) % 18446744069414584321) ((c + u * b % 18446744069414584321) % 18446744069414584321) W)
  rw [eA] at A3
  rw [eB] at S1
  rw [eD] at S3
  have ST := Lib.hid (fun W => steps_bad k (Or.inr h1) W)
  have UN := Lib.hid (fun W => unit_in x hx W)
  have UM := Lib.hid (fun W => Gr.mul (rd 2 x) (rd 2 x) (Nat.lt_trans (rd_lt _ _) (by decide)) W)
  rw [uu x hx] at UM
  have d0 : ((x : Int) != 0 && (x : Int) != 1) = false := by have h : x = 0 ∨ x = 1 := by omega
                                                             rcases h with rfl | rfl <;> rfl
  clear ha hb hc hd hu
  generalize cA a b c d = rA at *
  generalize cB a b c d u = rB at *
  generalize cC a b c d = rC at *
  generalize cD a b c d u = rD at *
  generalize (a + u * b % 18446744069414584321) % 18446744069414584321 = e4 at *
  generalize (c + u * d % 18446744069414584321) % 18446744069414584321 = e5 at *
  generalize (a + u * d % 18446744069414584321) % 18446744069414584321 = e8 at *
  generalize (c + u * b % 18446744069414584321) % 18446744069414584321 = e9 at *
  generalize u * b % 18446744069414584321 = m1 at *
  generalize u * d % 18446744069414584321 = m2 at *
  generalize (a + b) % 18446744069414584321 = e1 at *
  generalize (c + d) % 18446744069414584321 = e2 at *
  generalize (a + c) % 18446744069414584321 = e6 at *
  generalize (b + d) % 18446744069414584321 = e7 at *
  generalize rd 2 x = v at *
  go_enter Try.func3, Try.ntmps3
  go_wp2_with fail
  refine (Kq.awake _).mono ?_
  rintro e w1 ⟨rfl, h1⟩
  go_wp2_with fail
  refine (X.out _).mono ?_
  rintro e w2 ⟨rfl, h2⟩
  have k2 := h1.trans (h2.mono h1.size)
  have C5 := Kn.Ce.fresh w2 (.int .u64 (rA : Nat)) (.int .u64 (rB : Nat)) (.int .u64 (rC : Nat)) (.int .u64 (rD : Nat)) 24
  have B6 := (Below.refl w2.heap.size w2).alloc (Nat.le_refl _) (.cells #[.int .u64 (rA : Nat), .int .u64 (rB : Nat), .int .u64 (rC : Nat), .int .u64 (rD : Nat)] 24)
  have D1 := k2.trans (B6.mono k2.size)
  have EQ := fun W => eq_same (rA : Nat) (rB : Nat) (rC : Nat) (rD : Nat) W
  clear B6 h1 h2 k2
  go_wp2_with fail
  refine (A1.out _).mono ?_
  rintro e w3 ⟨rfl, rfl⟩
  go_wp2_with fail
  refine (A2.out _).mono ?_
  rintro e w3 ⟨rfl, rfl⟩
  go_wp2_with fail
  refine (A3.out _).mono ?_
  rintro e w3 ⟨rfl, rfl⟩
  go_wp2_with fail
  refine (M1.out _).mono ?_
  rintro e w3 ⟨rfl, rfl⟩
  go_wp2_with fail
  refine (A4.out _).mono ?_
  rintro e w3 ⟨rfl, rfl⟩
  go_wp2_with fail
  refine (M2.out _).mono ?_
  rintro e w3 ⟨rfl, rfl⟩
  go_wp2_with fail
  refine (A5.out _).mono ?_
  rintro e w3 ⟨rfl, rfl⟩
  go_wp2_with fail
  refine (S1.out _).mono ?_
  rintro e w3 ⟨rfl, rfl⟩
  go_wp2_with fail
  refine (A6.out _).mono ?_
  rintro e w3 ⟨rfl, rfl⟩
  go_wp2_with fail
  refine (A7.out _).mono ?_
  rintro e w3 ⟨rfl, rfl⟩
  go_wp2_with fail
  refine (S2.out _).mono ?_
  rintro e w3 ⟨rfl, rfl⟩
  go_wp2_with fail
  refine (M2.out _).mono ?_
  rintro e w3 ⟨rfl, rfl⟩
  go_wp2_with fail
  refine (A8.out _).mono ?_
  rintro e w3 ⟨rfl, rfl⟩
  go_wp2_with fail
  refine (M1.out _).mono ?_
  rintro e w3 ⟨rfl, rfl⟩
  go_wp2_with fail
  refine (A9.out _).mono ?_
  rintro e w3 ⟨rfl, rfl⟩
  go_wp2_with fail
  refine (S3.out _).mono ?_
  rintro e w3 ⟨rfl, rfl⟩
  go_wp2_with fail
  refine (ST.out _).mono ?_
  rintro e w3 ⟨rfl, rfl⟩
  go_wp2_with fail
  refine (UN.out _).mono ?_
  rintro e w4 ⟨rfl, h4⟩
  have C6 := C5.below h4
  have D2 := Lib.hid (D1.trans (h4.mono D1.size))
  have c0 := C6.c0
  have c1 := C6.c1
  have c2 := C6.c2
  have c3 := C6.c3
  clear C5 C6 D1 h4
  go_wp2_with fail
  all_goals
    refine (UM.out _).mono ?_
    rintro e w5 ⟨rfl, rfl⟩
    go_wp2
    go_ret
    exact ⟨by simp [go_sem], D2.out⟩

set_option maxHeartbeats 1000000 in
set_option maxRecDepth 100000 in
theorem walk_high_bad (a b c d u : Nat) (ha : a < 18446744073709551616) (hb : b < 18446744073709551616) (hc : c < 18446744073709551616) (hd : d < 18446744073709551616) (hu : u < 18446744073709551616) (k : Int) (h0 : ¬ k < 0) (h1 : 20 < k) (x : Int) (x0 : x ≠ 0) (x1 : x ≠ 1) (w : World) :
    Calls Try.prog 3 #[.int .u64 (a : Nat), .int .u64 (b : Nat), .int .u64 (c : Nat), .int .u64 (d : Nat), .int .u64 (u : Nat), .int .i64 k, .int .i64 x] w fun e w' => e = .returned (.bool true) ∧ Below w.heap.size w w' := by
  have X := Lib.hid (fun W => cross a b c d u ha hb hc hd hu W)
  have A1 := Lib.hid (fun W => Gr.add a b W)
  have A2 := Lib.hid (fun W => Gr.add c d W)
  have A3 := Lib.hid (fun W => Gr.add ((a + b) % 18446744069414584321) ((c + d) % 18446744069414584321) W)
  have M1 := Lib.hid (fun W => Gr.mul u b hb W)
  have M2 := Lib.hid (fun W => Gr.mul u d hd W)
  have A4 := Lib.hid (fun W => Gr.add a (u * b % 18446744069414584321) W)
  have A5 := Lib.hid (fun W => Gr.add c (u * d % 18446744069414584321) W)
  have S1 := Lib.hid (fun W => Gr.sub ((a + u * b % 18446744069414584321) % 18446744069414584321) ((c + u * d % 18446744069414584321) % 18446744069414584321) W)
  have A6 := Lib.hid (fun W => Gr.add a c W)
  have A7 := Lib.hid (fun W => Gr.add b d W)
  have S2 := Lib.hid (fun W => show Calls Try.prog 7 #[.int .u64 (((a + c) % 18446744069414584321) : Nat), .int .u64 (((b + d) % 18446744069414584321) : Nat)] W fun e w' => e = .returned (.int .u64 (cC a b c d : Nat)) ∧ W = w' from Gr.sub ((a + c) % 18446744069414584321) ((b + d) % 18446744069414584321) W)
  have A8 := Lib.hid (fun W => Gr.add a (u * d % 18446744069414584321) W)
  have A9 := Lib.hid (fun W => Gr.add c (u * b % 18446744069414584321) W)
  have S3 := Lib.hid (fun W => Gr.sub ((a + u * d % 18446744069414584321) % 18446744069414584321) ((c + u * b % 18446744069414584321) % 18446744069414584321) W)
  rw [eA] at A3
  rw [eB] at S1
  rw [eD] at S3
  have ST := Lib.hid (fun W => steps_bad k (Or.inr h1) W)
  have UN := Lib.hid (fun W => unit_kind x x0 x1 W)
  have d0 : (x != 0) = true := by simp [x0]
  have d1 : (x != 1) = true := by simp [x1]
  clear ha hb hc hd hu
  generalize cA a b c d = rA at *
  generalize cB a b c d u = rB at *
  generalize cC a b c d = rC at *
  generalize cD a b c d u = rD at *
  generalize (a + u * b % 18446744069414584321) % 18446744069414584321 = e4 at *
  generalize (c + u * d % 18446744069414584321) % 18446744069414584321 = e5 at *
  generalize (a + u * d % 18446744069414584321) % 18446744069414584321 = e8 at *
  generalize (c + u * b % 18446744069414584321) % 18446744069414584321 = e9 at *
  generalize u * b % 18446744069414584321 = m1 at *
  generalize u * d % 18446744069414584321 = m2 at *
  generalize (a + b) % 18446744069414584321 = e1 at *
  generalize (c + d) % 18446744069414584321 = e2 at *
  generalize (a + c) % 18446744069414584321 = e6 at *
  generalize (b + d) % 18446744069414584321 = e7 at *
  go_enter Try.func3, Try.ntmps3
  go_wp2_with fail
  refine (Kq.awake _).mono ?_
  rintro e w1 ⟨rfl, h1⟩
  go_wp2_with fail
  refine (X.out _).mono ?_
  rintro e w2 ⟨rfl, h2⟩
  have k2 := h1.trans (h2.mono h1.size)
  have C5 := Kn.Ce.fresh w2 (.int .u64 (rA : Nat)) (.int .u64 (rB : Nat)) (.int .u64 (rC : Nat)) (.int .u64 (rD : Nat)) 24
  have B6 := (Below.refl w2.heap.size w2).alloc (Nat.le_refl _) (.cells #[.int .u64 (rA : Nat), .int .u64 (rB : Nat), .int .u64 (rC : Nat), .int .u64 (rD : Nat)] 24)
  have D1 := k2.trans (B6.mono k2.size)
  have EQ := fun W => eq_same (rA : Nat) (rB : Nat) (rC : Nat) (rD : Nat) W
  clear B6 h1 h2 k2
  go_wp2_with fail
  refine (A1.out _).mono ?_
  rintro e w3 ⟨rfl, rfl⟩
  go_wp2_with fail
  refine (A2.out _).mono ?_
  rintro e w3 ⟨rfl, rfl⟩
  go_wp2_with fail
  refine (A3.out _).mono ?_
  rintro e w3 ⟨rfl, rfl⟩
  go_wp2_with fail
  refine (M1.out _).mono ?_
  rintro e w3 ⟨rfl, rfl⟩
  go_wp2_with fail
  refine (A4.out _).mono ?_
  rintro e w3 ⟨rfl, rfl⟩
  go_wp2_with fail
  refine (M2.out _).mono ?_
  rintro e w3 ⟨rfl, rfl⟩
  go_wp2_with fail
  refine (A5.out _).mono ?_
  rintro e w3 ⟨rfl, rfl⟩
  go_wp2_with fail
  refine (S1.out _).mono ?_
  rintro e w3 ⟨rfl, rfl⟩
  go_wp2_with fail
  refine (A6.out _).mono ?_
  rintro e w3 ⟨rfl, rfl⟩
  go_wp2_with fail
  refine (A7.out _).mono ?_
  rintro e w3 ⟨rfl, rfl⟩
  go_wp2_with fail
  refine (S2.out _).mono ?_
  rintro e w3 ⟨rfl, rfl⟩
  go_wp2_with fail
  refine (M2.out _).mono ?_
  rintro e w3 ⟨rfl, rfl⟩
  go_wp2_with fail
  refine (A8.out _).mono ?_
  rintro e w3 ⟨rfl, rfl⟩
  go_wp2_with fail
  refine (M1.out _).mono ?_
  rintro e w3 ⟨rfl, rfl⟩
  go_wp2_with fail
  refine (A9.out _).mono ?_
  rintro e w3 ⟨rfl, rfl⟩
  go_wp2_with fail
  refine (S3.out _).mono ?_
  rintro e w3 ⟨rfl, rfl⟩
  go_wp2_with fail
  refine (ST.out _).mono ?_
  rintro e w3 ⟨rfl, rfl⟩
  go_wp2_with fail
  refine (UN.out _).mono ?_
  rintro e w4 ⟨rfl, rfl⟩
  have D2 := Lib.hid D1
  clear C5 D1
  go_wp2
  go_ret
  exact ⟨by simp [go_sem], D2.out⟩

set_option maxHeartbeats 1000000 in
set_option maxRecDepth 100000 in
theorem walk_in_in (a b c d u : Nat) (ha : a < 18446744073709551616) (hb : b < 18446744073709551616) (hc : c < 18446744073709551616) (hd : d < 18446744073709551616) (hu : u < 18446744073709551616) (k n m : Nat) (hk : k ≤ 20) (hn : n = k / 2) (hm : m = k % 2) (x : Nat) (hx : x ≤ 1) (w : World) :
    Calls Try.prog 3 #[.int .u64 (a : Nat), .int .u64 (b : Nat), .int .u64 (c : Nat), .int .u64 (d : Nat), .int .u64 (u : Nat), .int .i64 (k : Int), .int .i64 (x : Int)] w fun e w' => e = .returned (.bool true) ∧ Below w.heap.size w w' := by
  have X := Lib.hid (fun W => cross a b c d u ha hb hc hd hu W)
  have A1 := Lib.hid (fun W => Gr.add a b W)
  have A2 := Lib.hid (fun W => Gr.add c d W)
  have A3 := Lib.hid (fun W => Gr.add ((a + b) % 18446744069414584321) ((c + d) % 18446744069414584321) W)
  have M1 := Lib.hid (fun W => Gr.mul u b hb W)
  have M2 := Lib.hid (fun W => Gr.mul u d hd W)
  have A4 := Lib.hid (fun W => Gr.add a (u * b % 18446744069414584321) W)
  have A5 := Lib.hid (fun W => Gr.add c (u * d % 18446744069414584321) W)
  have S1 := Lib.hid (fun W => Gr.sub ((a + u * b % 18446744069414584321) % 18446744069414584321) ((c + u * d % 18446744069414584321) % 18446744069414584321) W)
  have A6 := Lib.hid (fun W => Gr.add a c W)
  have A7 := Lib.hid (fun W => Gr.add b d W)
  have S2 := Lib.hid (fun W => show Calls Try.prog 7 #[.int .u64 (((a + c) % 18446744069414584321) : Nat), .int .u64 (((b + d) % 18446744069414584321) : Nat)] W fun e w' => e = .returned (.int .u64 (cC a b c d : Nat)) ∧ W = w' from Gr.sub ((a + c) % 18446744069414584321) ((b + d) % 18446744069414584321) W)
  have A8 := Lib.hid (fun W => Gr.add a (u * d % 18446744069414584321) W)
  have A9 := Lib.hid (fun W => Gr.add c (u * b % 18446744069414584321) W)
  have S3 := Lib.hid (fun W => Gr.sub ((a + u * d % 18446744069414584321) % 18446744069414584321) ((c + u * b % 18446744069414584321) % 18446744069414584321) W)
  rw [eA] at A3
  rw [eB] at S1
  rw [eD] at S3
  have ST := Lib.hid (fun W => steps k n m hk hn hm W)
  have k0 : ¬ (k : Int) < 0 := by omega
  have k1 : ¬ 20 < (k : Int) := by omega
  obtain ⟨n2, en2⟩ : ∃ n2, n2 = 2 * n := ⟨_, rfl⟩
  have q1 : IntKind.i64.wrap (2 * (n : Int)) = (n2 : Int) := by rw [IntKind.wrap_i64]; omega
  have q2 : IntKind.i64.wrap ((n2 : Int) + (m : Int)) = (k : Int) := by rw [IntKind.wrap_i64]; omega
  have q3 : (0 : Int) ≤ (m : Int) := by omega
  have q4 : (m : Int) ≤ 1 := by omega
  clear en2 hn hm hk
  have UN := Lib.hid (fun W => unit_in x hx W)
  have UM := Lib.hid (fun W => Gr.mul (rd 2 x) (rd 2 x) (Nat.lt_trans (rd_lt _ _) (by decide)) W)
  rw [uu x hx] at UM
  have d0 : ((x : Int) != 0 && (x : Int) != 1) = false := by have h : x = 0 ∨ x = 1 := by omega
                                                             rcases h with rfl | rfl <;> rfl
  clear ha hb hc hd hu
  generalize cA a b c d = rA at *
  generalize cB a b c d u = rB at *
  generalize cC a b c d = rC at *
  generalize cD a b c d u = rD at *
  generalize (a + u * b % 18446744069414584321) % 18446744069414584321 = e4 at *
  generalize (c + u * d % 18446744069414584321) % 18446744069414584321 = e5 at *
  generalize (a + u * d % 18446744069414584321) % 18446744069414584321 = e8 at *
  generalize (c + u * b % 18446744069414584321) % 18446744069414584321 = e9 at *
  generalize u * b % 18446744069414584321 = m1 at *
  generalize u * d % 18446744069414584321 = m2 at *
  generalize (a + b) % 18446744069414584321 = e1 at *
  generalize (c + d) % 18446744069414584321 = e2 at *
  generalize (a + c) % 18446744069414584321 = e6 at *
  generalize (b + d) % 18446744069414584321 = e7 at *
  generalize rd 2 x = v at *
  go_enter Try.func3, Try.ntmps3
  go_wp2_with fail
  refine (Kq.awake _).mono ?_
  rintro e w1 ⟨rfl, h1⟩
  go_wp2_with fail
  refine (X.out _).mono ?_
  rintro e w2 ⟨rfl, h2⟩
  have k2 := h1.trans (h2.mono h1.size)
  have C5 := Kn.Ce.fresh w2 (.int .u64 (rA : Nat)) (.int .u64 (rB : Nat)) (.int .u64 (rC : Nat)) (.int .u64 (rD : Nat)) 24
  have B6 := (Below.refl w2.heap.size w2).alloc (Nat.le_refl _) (.cells #[.int .u64 (rA : Nat), .int .u64 (rB : Nat), .int .u64 (rC : Nat), .int .u64 (rD : Nat)] 24)
  have D1 := k2.trans (B6.mono k2.size)
  have EQ := fun W => eq_same (rA : Nat) (rB : Nat) (rC : Nat) (rD : Nat) W
  clear B6 h1 h2 k2
  go_wp2_with fail
  refine (A1.out _).mono ?_
  rintro e w3 ⟨rfl, rfl⟩
  go_wp2_with fail
  refine (A2.out _).mono ?_
  rintro e w3 ⟨rfl, rfl⟩
  go_wp2_with fail
  refine (A3.out _).mono ?_
  rintro e w3 ⟨rfl, rfl⟩
  go_wp2_with fail
  refine (M1.out _).mono ?_
  rintro e w3 ⟨rfl, rfl⟩
  go_wp2_with fail
  refine (A4.out _).mono ?_
  rintro e w3 ⟨rfl, rfl⟩
  go_wp2_with fail
  refine (M2.out _).mono ?_
  rintro e w3 ⟨rfl, rfl⟩
  go_wp2_with fail
  refine (A5.out _).mono ?_
  rintro e w3 ⟨rfl, rfl⟩
  go_wp2_with fail
  refine (S1.out _).mono ?_
  rintro e w3 ⟨rfl, rfl⟩
  go_wp2_with fail
  refine (A6.out _).mono ?_
  rintro e w3 ⟨rfl, rfl⟩
  go_wp2_with fail
  refine (A7.out _).mono ?_
  rintro e w3 ⟨rfl, rfl⟩
  go_wp2_with fail
  refine (S2.out _).mono ?_
  rintro e w3 ⟨rfl, rfl⟩
  go_wp2_with fail
  refine (M2.out _).mono ?_
  rintro e w3 ⟨rfl, rfl⟩
  go_wp2_with fail
  refine (A8.out _).mono ?_
  rintro e w3 ⟨rfl, rfl⟩
  go_wp2_with fail
  refine (M1.out _).mono ?_
  rintro e w3 ⟨rfl, rfl⟩
  go_wp2_with fail
  refine (A9.out _).mono ?_
  rintro e w3 ⟨rfl, rfl⟩
  go_wp2_with fail
  refine (S3.out _).mono ?_
  rintro e w3 ⟨rfl, rfl⟩
  go_wp2_with fail
  refine (ST.out _).mono ?_
  rintro e w3 ⟨rfl, rfl⟩
  go_wp2_with fail
  refine (UN.out _).mono ?_
  rintro e w4 ⟨rfl, h4⟩
  have C6 := C5.below h4
  have D2 := Lib.hid (D1.trans (h4.mono D1.size))
  have c0 := C6.c0
  have c1 := C6.c1
  have c2 := C6.c2
  have c3 := C6.c3
  clear C5 C6 D1 h4
  go_wp2_with fail
  all_goals
    refine (UM.out _).mono ?_
    rintro e w5 ⟨rfl, rfl⟩
    go_wp2
    go_ret
    exact ⟨by simp [go_sem], D2.out⟩

set_option maxHeartbeats 1000000 in
set_option maxRecDepth 100000 in
theorem walk_in_bad (a b c d u : Nat) (ha : a < 18446744073709551616) (hb : b < 18446744073709551616) (hc : c < 18446744073709551616) (hd : d < 18446744073709551616) (hu : u < 18446744073709551616) (k n m : Nat) (hk : k ≤ 20) (hn : n = k / 2) (hm : m = k % 2) (x : Int) (x0 : x ≠ 0) (x1 : x ≠ 1) (w : World) :
    Calls Try.prog 3 #[.int .u64 (a : Nat), .int .u64 (b : Nat), .int .u64 (c : Nat), .int .u64 (d : Nat), .int .u64 (u : Nat), .int .i64 (k : Int), .int .i64 x] w fun e w' => e = .returned (.bool true) ∧ Below w.heap.size w w' := by
  have X := Lib.hid (fun W => cross a b c d u ha hb hc hd hu W)
  have A1 := Lib.hid (fun W => Gr.add a b W)
  have A2 := Lib.hid (fun W => Gr.add c d W)
  have A3 := Lib.hid (fun W => Gr.add ((a + b) % 18446744069414584321) ((c + d) % 18446744069414584321) W)
  have M1 := Lib.hid (fun W => Gr.mul u b hb W)
  have M2 := Lib.hid (fun W => Gr.mul u d hd W)
  have A4 := Lib.hid (fun W => Gr.add a (u * b % 18446744069414584321) W)
  have A5 := Lib.hid (fun W => Gr.add c (u * d % 18446744069414584321) W)
  have S1 := Lib.hid (fun W => Gr.sub ((a + u * b % 18446744069414584321) % 18446744069414584321) ((c + u * d % 18446744069414584321) % 18446744069414584321) W)
  have A6 := Lib.hid (fun W => Gr.add a c W)
  have A7 := Lib.hid (fun W => Gr.add b d W)
  have S2 := Lib.hid (fun W => show Calls Try.prog 7 #[.int .u64 (((a + c) % 18446744069414584321) : Nat), .int .u64 (((b + d) % 18446744069414584321) : Nat)] W fun e w' => e = .returned (.int .u64 (cC a b c d : Nat)) ∧ W = w' from Gr.sub ((a + c) % 18446744069414584321) ((b + d) % 18446744069414584321) W)
  have A8 := Lib.hid (fun W => Gr.add a (u * d % 18446744069414584321) W)
  have A9 := Lib.hid (fun W => Gr.add c (u * b % 18446744069414584321) W)
  have S3 := Lib.hid (fun W => Gr.sub ((a + u * d % 18446744069414584321) % 18446744069414584321) ((c + u * b % 18446744069414584321) % 18446744069414584321) W)
  rw [eA] at A3
  rw [eB] at S1
  rw [eD] at S3
  have ST := Lib.hid (fun W => steps k n m hk hn hm W)
  have k0 : ¬ (k : Int) < 0 := by omega
  have k1 : ¬ 20 < (k : Int) := by omega
  obtain ⟨n2, en2⟩ : ∃ n2, n2 = 2 * n := ⟨_, rfl⟩
  have q1 : IntKind.i64.wrap (2 * (n : Int)) = (n2 : Int) := by rw [IntKind.wrap_i64]; omega
  have q2 : IntKind.i64.wrap ((n2 : Int) + (m : Int)) = (k : Int) := by rw [IntKind.wrap_i64]; omega
  have q3 : (0 : Int) ≤ (m : Int) := by omega
  have q4 : (m : Int) ≤ 1 := by omega
  clear en2 hn hm hk
  have UN := Lib.hid (fun W => unit_kind x x0 x1 W)
  have d0 : (x != 0) = true := by simp [x0]
  have d1 : (x != 1) = true := by simp [x1]
  clear ha hb hc hd hu
  generalize cA a b c d = rA at *
  generalize cB a b c d u = rB at *
  generalize cC a b c d = rC at *
  generalize cD a b c d u = rD at *
  generalize (a + u * b % 18446744069414584321) % 18446744069414584321 = e4 at *
  generalize (c + u * d % 18446744069414584321) % 18446744069414584321 = e5 at *
  generalize (a + u * d % 18446744069414584321) % 18446744069414584321 = e8 at *
  generalize (c + u * b % 18446744069414584321) % 18446744069414584321 = e9 at *
  generalize u * b % 18446744069414584321 = m1 at *
  generalize u * d % 18446744069414584321 = m2 at *
  generalize (a + b) % 18446744069414584321 = e1 at *
  generalize (c + d) % 18446744069414584321 = e2 at *
  generalize (a + c) % 18446744069414584321 = e6 at *
  generalize (b + d) % 18446744069414584321 = e7 at *
  go_enter Try.func3, Try.ntmps3
  go_wp2_with fail
  refine (Kq.awake _).mono ?_
  rintro e w1 ⟨rfl, h1⟩
  go_wp2_with fail
  refine (X.out _).mono ?_
  rintro e w2 ⟨rfl, h2⟩
  have k2 := h1.trans (h2.mono h1.size)
  have C5 := Kn.Ce.fresh w2 (.int .u64 (rA : Nat)) (.int .u64 (rB : Nat)) (.int .u64 (rC : Nat)) (.int .u64 (rD : Nat)) 24
  have B6 := (Below.refl w2.heap.size w2).alloc (Nat.le_refl _) (.cells #[.int .u64 (rA : Nat), .int .u64 (rB : Nat), .int .u64 (rC : Nat), .int .u64 (rD : Nat)] 24)
  have D1 := k2.trans (B6.mono k2.size)
  have EQ := fun W => eq_same (rA : Nat) (rB : Nat) (rC : Nat) (rD : Nat) W
  clear B6 h1 h2 k2
  go_wp2_with fail
  refine (A1.out _).mono ?_
  rintro e w3 ⟨rfl, rfl⟩
  go_wp2_with fail
  refine (A2.out _).mono ?_
  rintro e w3 ⟨rfl, rfl⟩
  go_wp2_with fail
  refine (A3.out _).mono ?_
  rintro e w3 ⟨rfl, rfl⟩
  go_wp2_with fail
  refine (M1.out _).mono ?_
  rintro e w3 ⟨rfl, rfl⟩
  go_wp2_with fail
  refine (A4.out _).mono ?_
  rintro e w3 ⟨rfl, rfl⟩
  go_wp2_with fail
  refine (M2.out _).mono ?_
  rintro e w3 ⟨rfl, rfl⟩
  go_wp2_with fail
  refine (A5.out _).mono ?_
  rintro e w3 ⟨rfl, rfl⟩
  go_wp2_with fail
  refine (S1.out _).mono ?_
  rintro e w3 ⟨rfl, rfl⟩
  go_wp2_with fail
  refine (A6.out _).mono ?_
  rintro e w3 ⟨rfl, rfl⟩
  go_wp2_with fail
  refine (A7.out _).mono ?_
  rintro e w3 ⟨rfl, rfl⟩
  go_wp2_with fail
  refine (S2.out _).mono ?_
  rintro e w3 ⟨rfl, rfl⟩
  go_wp2_with fail
  refine (M2.out _).mono ?_
  rintro e w3 ⟨rfl, rfl⟩
  go_wp2_with fail
  refine (A8.out _).mono ?_
  rintro e w3 ⟨rfl, rfl⟩
  go_wp2_with fail
  refine (M1.out _).mono ?_
  rintro e w3 ⟨rfl, rfl⟩
  go_wp2_with fail
  refine (A9.out _).mono ?_
  rintro e w3 ⟨rfl, rfl⟩
  go_wp2_with fail
  refine (S3.out _).mono ?_
  rintro e w3 ⟨rfl, rfl⟩
  go_wp2_with fail
  refine (ST.out _).mono ?_
  rintro e w3 ⟨rfl, rfl⟩
  go_wp2_with fail
  refine (UN.out _).mono ?_
  rintro e w4 ⟨rfl, rfl⟩
  have D2 := Lib.hid D1
  clear C5 D1
  go_wp2
  go_ret
  exact ⟨by simp [go_sem], D2.out⟩

theorem walk (a b c d u : Nat) (k x : Int) (ha : a < 18446744073709551616) (hb : b < 18446744073709551616) (hc : c < 18446744073709551616) (hd : d < 18446744073709551616) (hu : u < 18446744073709551616) (w : World) :
    Calls Try.prog 3 #[.int .u64 (a : Nat), .int .u64 (b : Nat), .int .u64 (c : Nat), .int .u64 (d : Nat), .int .u64 (u : Nat), .int .i64 k, .int .i64 x] w fun e w' => e = .returned (.bool true) ∧ Below w.heap.size w w' := by
  by_cases hx : x ≠ 0 ∧ x ≠ 1
  · by_cases h0 : k < 0
    · exact walk_low_bad a b c d u ha hb hc hd hu k h0 x hx.1 hx.2 w
    by_cases h1 : 20 < k
    · exact walk_high_bad a b c d u ha hb hc hd hu k h0 h1 x hx.1 hx.2 w
    obtain ⟨kn, rfl⟩ := Int.eq_ofNat_of_zero_le (show 0 ≤ k by omega)
    exact walk_in_bad a b c d u ha hb hc hd hu kn _ _ (by omega) rfl rfl x hx.1 hx.2 w
  · obtain ⟨xn, rfl⟩ := Int.eq_ofNat_of_zero_le (show 0 ≤ x by omega)
    by_cases h0 : k < 0
    · exact walk_low_in a b c d u ha hb hc hd hu k h0 xn (by omega) w
    by_cases h1 : 20 < k
    · exact walk_high_in a b c d u ha hb hc hd hu k h0 h1 xn (by omega) w
    obtain ⟨kn, rfl⟩ := Int.eq_ofNat_of_zero_le (show 0 ≤ k by omega)
    exact walk_in_in a b c d u ha hb hc hd hu kn _ _ (by omega) rfl rfl xn (by omega) w

set_option maxRecDepth 100000 in
theorem lifted (os : Os) (started : os.Started) (H : Type) (enc : TypeId × Value → H) :
    ReturnsInHanded {} Try.checked os 3 .any (Rows.quartersCrossSpec.pre6 enc Try.prog Try.f3 Rows.quartersCrossRow.domain false) (Rows.quartersCrossSpec.post enc Try.prog Try.f3 false true false false) := by
  refine returnsInHanded_of_change (C := Try.checked) Fr.own started (by kernel_rfl) Try.func3
    (ChangeSpec.witness6 (enc := enc) (C := Try.checked) false ⟨#[], #[.int .u64 0, .int .u64 0, .int .u64 0, .int .u64 0, .int .u64 0, .int .i64 0, .int .i64 0], []⟩ 8 (by kernel_rfl) (by kernel_rfl) (by kernel_rfl) (by kernel_rfl)) ?_
  intro W base args ds gs before hval0 hW hcnd _
  have hval : ∀ (j : Nat) t v, Try.f3.params[j]? = some t → args[j]? = some v → Value.okWide Try.prog W .any base t v := hval0
  have hW' := hW
  obtain ⟨p, q, hA0, hV, rfl, hfz, hnd⟩ := hW
  have hA : DataW.TrodAll enc Try.prog W 0 (fun _ => true) true Try.f3.params.toList args.toList ds p := hA0
  obtain ⟨rfl, rfl⟩ := trodVars_none hV
  rw [Try.params3] at hA hval
  obtain ⟨v0, vs0, d0, ds0, p0, q0, hargs, rfl, rfl, h0, r0⟩ := trodAll_cons hA
  obtain ⟨v1, vs1, d1, ds1, p1, q1, rfl, rfl, rfl, h1, r1⟩ := trodAll_cons r0
  obtain ⟨v2, vs2, d2, ds2, p2, q2, rfl, rfl, rfl, h2, r2⟩ := trodAll_cons r1
  obtain ⟨v3, vs3, d3, ds3, p3, q3, rfl, rfl, rfl, h3, r3⟩ := trodAll_cons r2
  obtain ⟨v4, vs4, d4, ds4, p4, q4, rfl, rfl, rfl, h4, r4⟩ := trodAll_cons r3
  obtain ⟨v5, vs5, d5, ds5, p5, q5, rfl, rfl, rfl, h5, r5⟩ := trodAll_cons r4
  obtain ⟨v6, vs6, d6, ds6, p6, q6, rfl, rfl, rfl, h6, r6⟩ := trodAll_cons r5
  obtain ⟨rfl, rfl, rfl⟩ := trodAll_nil r6
  obtain rfl : args = #[v0, v1, v2, v3, v4, v5, v6] := by cases args; simp_all
  obtain ⟨a0, rfl, rfl, rfl, w0⟩ := open_int Try.underlying22 (hval 0 22 v0 rfl rfl) h0
  have b0 : 0 ≤ a0 ∧ a0 ≤ 18446744073709551615 := by simpa [Lit.wf, IntKind.min, IntKind.max, IntKind.signed, IntKind.bits] using w0
  obtain ⟨x0, rfl⟩ := Int.eq_ofNat_of_zero_le b0.1
  obtain ⟨a1, rfl, rfl, rfl, w1⟩ := open_int Try.underlying22 (hval 1 22 v1 rfl rfl) h1
  have b1 : 0 ≤ a1 ∧ a1 ≤ 18446744073709551615 := by simpa [Lit.wf, IntKind.min, IntKind.max, IntKind.signed, IntKind.bits] using w1
  obtain ⟨x1, rfl⟩ := Int.eq_ofNat_of_zero_le b1.1
  obtain ⟨a2, rfl, rfl, rfl, w2⟩ := open_int Try.underlying22 (hval 2 22 v2 rfl rfl) h2
  have b2 : 0 ≤ a2 ∧ a2 ≤ 18446744073709551615 := by simpa [Lit.wf, IntKind.min, IntKind.max, IntKind.signed, IntKind.bits] using w2
  obtain ⟨x2, rfl⟩ := Int.eq_ofNat_of_zero_le b2.1
  obtain ⟨a3, rfl, rfl, rfl, w3⟩ := open_int Try.underlying22 (hval 3 22 v3 rfl rfl) h3
  have b3 : 0 ≤ a3 ∧ a3 ≤ 18446744073709551615 := by simpa [Lit.wf, IntKind.min, IntKind.max, IntKind.signed, IntKind.bits] using w3
  obtain ⟨x3, rfl⟩ := Int.eq_ofNat_of_zero_le b3.1
  obtain ⟨a4, rfl, rfl, rfl, w4⟩ := open_int Try.underlying22 (hval 4 22 v4 rfl rfl) h4
  have b4 : 0 ≤ a4 ∧ a4 ≤ 18446744073709551615 := by simpa [Lit.wf, IntKind.min, IntKind.max, IntKind.signed, IntKind.bits] using w4
  obtain ⟨x4, rfl⟩ := Int.eq_ofNat_of_zero_le b4.1
  obtain ⟨x5, rfl, rfl, rfl, w5⟩ := open_int Try.underlying3 (hval 5 3 v5 rfl rfl) h5
  have b5 : -9223372036854775808 ≤ x5 ∧ x5 ≤ 9223372036854775807 := by simpa [Lit.wf, IntKind.min, IntKind.max, IntKind.signed, IntKind.bits] using w5
  obtain ⟨x6, rfl, rfl, rfl, w6⟩ := open_int Try.underlying3 (hval 6 3 v6 rfl rfl) h6
  have b6 : -9223372036854775808 ≤ x6 ∧ x6 ≤ 9223372036854775807 := by simpa [Lit.wf, IntKind.min, IntKind.max, IntKind.signed, IntKind.bits] using w6
  simp only [List.append_nil] at hW'
  refine (walk x0 x1 x2 x3 x4 x5 x6 (by omega) (by omega) (by omega) (by omega) (by omega) W).mono fun e W' ⟨he, hb⟩ => ?_
  subst he
  exact ⟨_, rfl, Fr.law_post (tb := 4) hW' hA0 rfl rfl rfl Try.underlying4 (by rw [Try.params3]; intro t ht; simp at ht; rcases ht with rfl | rfl | rfl | rfl | rfl | rfl | rfl; all_goals exact ⟨by kernel_rfl, of_decide_eq_true (by kernel_rfl)⟩) hb⟩

theorem proved : Rows.QuartersCrossSaid :=
  OpenClaim.holds_of_wide 3 Try.f3 rfl rfl rfl rfl rfl rfl rfl ⟨rfl, rfl, rfl, rfl, rfl⟩ rfl rfl rfl rfl rfl (by kernel_rfl) Try.func3 (by kernel_rfl)
    (of_decide_eq_true (by kernel_rfl)) (by unfold Func.isWrapper; first | (rw [if_pos (by decide +kernel)]; kernel_rfl) | (rw [if_neg (by decide +kernel)]; exact ⟨rfl, rfl⟩))
    (fun os started H enc _ => lifted os started H enc)
end Go.Proofs.Ytfkhnfaammfbeaa.quartersCross
