/- RootOrders: of every word, every exponent and every number the law of orders and logarithms answers true, and changes nothing. No condition. -/
import Derived.Test.YtkocniimpdhogaaFrame
import Derived.Test.YtkocniimpdhogaaRootL
import Derived.Test.YtkocniimpdhogaaRootR
set_option linter.unusedVariables false
namespace Go.Proofs.Ytkocniimpdhogaa.rootOrders
open Go.ChangeShapes Go.WideShapes Go.ChangeAt Go.RowKit
open Nm

set_option maxHeartbeats 1000000 in
set_option maxRecDepth 100000 in
theorem walk_is (a k n m : Nat) (ha : a < 18446744073709551616) (hn : n < 4294967296) (hm : m ≤ 32) (h1 : Nt.One a m) (h2 : ∀ j, j < m → ¬ Nt.One a j) (hk : k ≤ 32) (hmk : m ≤ k) (w : World) :
    Calls Try.prog 4 #[.int .u64 a, .int .i64 (k : Int), .int .u32 n] w fun e w' => e = .returned (.bool true) ∧ Below w.heap.size w w' := by
  have O1 := Lib.hid (fun W => Rt.order_some a m ha hm h1 h2 W)
  have O2 := Lib.hid (fun W => Rr.order_some a m hm h1 h2 W)
  obtain ⟨g, hg, hge⟩ := Nt.log_ex a k hk (h1.mono hmk)
  have L1 := Lib.hid (fun W => Rt.log_some a k g ha hk hg hge W)
  have P1 := Lib.hid (fun W => Gr.pow (Nt.rt k) g (Nat.lt_of_lt_of_le hg (Nat.pow_le_pow_right (by decide) (by omega) : 2 ^ k ≤ 2 ^ 64)) W)
  rw [hge] at P1
  have F1 := Lib.hid (fun W => Gr.of a W)
  have R1 := Lib.hid (fun W => Rr.root k hk W)
  have hp : 2 ^ k < 2 ^ 33 := Nat.pow_lt_pow_right (by decide) (by omega)
  have hq : n % 2 ^ k < 2 ^ k := Nat.mod_lt _ (Nat.two_pow_pos k)
  have P2 := Lib.hid (fun W => Gr.pow (Nt.rt k) (n % 2 ^ k) (by omega) W)
  have L2 := Lib.hid (fun W => Rt.log_some (Nt.rt k ^ (n % 2 ^ k) % 18446744069414584321) k (n % 2 ^ k) (Nat.lt_trans (Nat.mod_lt _ (by decide)) (by decide)) hk hq (Nat.mod_mod _ _).symm W)
  have s1 := Bt.pow_i64 k (by omega)
  generalize Nt.rt k ^ (n % 2 ^ k) % 18446744069414584321 = y at *
  generalize Nt.rt k = r at *
  have z0 := Nat.two_pow_pos k
  generalize hz : 2 ^ k = z at *
  generalize hq0 : n % z = q at *
  have q1 : (n : Int) % z = (q : Int) := by omega
  have k1 : (k : Int) ≤ 32 := by omega
  generalize a % 18446744069414584321 = x at *
  have g1 : (g : Int) < z := by omega
  clear h1 h2 hge hz hq0
  go_enter Try.func4, Try.ntmps4
  go_wp2_with fail
  refine (Rt.awake _).mono ?_
  rintro e w1 ⟨rfl, b_w1⟩
  have c_w1 := b_w1
  clear b_w1
  go_wp2_with fail
  refine (O1.out _).mono ?_
  rintro e w2 ⟨rfl, b_w2⟩
  have c_w2 := c_w1.trans (b_w2.mono c_w1.size)
  clear b_w2 c_w1
  go_wp2_with fail
  refine (O2.out _).mono ?_
  rintro e w3 ⟨rfl, rfl⟩
  go_wp2_with fail
  refine (L1.out _).mono ?_
  rintro e w4 ⟨rfl, b_w4⟩
  have c_w4 := c_w2.trans (b_w4.mono c_w2.size)
  clear b_w4 c_w2
  go_wp2_with fail
  refine (R1.out _).mono ?_
  rintro e w5 ⟨rfl, rfl⟩
  go_wp2_with fail
  refine (P1.out _).mono ?_
  rintro e w6 ⟨rfl, rfl⟩
  go_wp2_with fail
  refine (F1.out _).mono ?_
  rintro e w7 ⟨rfl, rfl⟩
  go_wp2_with fail
  refine (R1.out _).mono ?_
  rintro e w8 ⟨rfl, rfl⟩
  go_wp2_with fail
  refine (P2.out _).mono ?_
  rintro e w9 ⟨rfl, rfl⟩
  go_wp2_with fail
  refine (L2.out _).mono ?_
  rintro e w10 ⟨rfl, b_w10⟩
  have c_w10 := c_w4.trans (b_w10.mono c_w4.size)
  clear b_w10 c_w4
  go_wp2
  go_ret
  exact ⟨by simp [go_sem], c_w10⟩

set_option maxHeartbeats 1000000 in
set_option maxRecDepth 100000 in
theorem walk_above (a k n m : Nat) (ha : a < 18446744073709551616) (hn : n < 4294967296) (hm : m ≤ 32) (h1 : Nt.One a m) (h2 : ∀ j, j < m → ¬ Nt.One a j) (hk : k ≤ 32) (hmk : k < m) (w : World) :
    Calls Try.prog 4 #[.int .u64 a, .int .i64 (k : Int), .int .u32 n] w fun e w' => e = .returned (.bool true) ∧ Below w.heap.size w w' := by
  have O1 := Lib.hid (fun W => Rt.order_some a m ha hm h1 h2 W)
  have O2 := Lib.hid (fun W => Rr.order_some a m hm h1 h2 W)
  have L1 := Lib.hid (fun W => Rt.log_none a k ha hk (h2 k hmk) W)
  have R1 := Lib.hid (fun W => Rr.root k hk W)
  have hp : 2 ^ k < 2 ^ 33 := Nat.pow_lt_pow_right (by decide) (by omega)
  have hq : n % 2 ^ k < 2 ^ k := Nat.mod_lt _ (Nat.two_pow_pos k)
  have P2 := Lib.hid (fun W => Gr.pow (Nt.rt k) (n % 2 ^ k) (by omega) W)
  have L2 := Lib.hid (fun W => Rt.log_some (Nt.rt k ^ (n % 2 ^ k) % 18446744069414584321) k (n % 2 ^ k) (Nat.lt_trans (Nat.mod_lt _ (by decide)) (by decide)) hk hq (Nat.mod_mod _ _).symm W)
  have s1 := Bt.pow_i64 k (by omega)
  generalize Nt.rt k ^ (n % 2 ^ k) % 18446744069414584321 = y at *
  generalize Nt.rt k = r at *
  have z0 := Nat.two_pow_pos k
  generalize hz : 2 ^ k = z at *
  generalize hq0 : n % z = q at *
  have q1 : (n : Int) % z = (q : Int) := by omega
  have k1 : (k : Int) ≤ 32 := by omega
  have m1 : ¬ m ≤ k := by omega
  clear h1 h2 hz hq0
  go_enter Try.func4, Try.ntmps4
  go_wp2_with fail
  refine (Rt.awake _).mono ?_
  rintro e w1 ⟨rfl, b_w1⟩
  have c_w1 := b_w1
  clear b_w1
  go_wp2_with fail
  refine (O1.out _).mono ?_
  rintro e w2 ⟨rfl, b_w2⟩
  have c_w2 := c_w1.trans (b_w2.mono c_w1.size)
  clear b_w2 c_w1
  go_wp2_with fail
  refine (O2.out _).mono ?_
  rintro e w3 ⟨rfl, rfl⟩
  go_wp2_with fail
  refine (L1.out _).mono ?_
  rintro e w4 ⟨rfl, b_w4⟩
  have c_w4 := c_w2.trans (b_w4.mono c_w2.size)
  clear b_w4 c_w2
  go_wp2_with fail
  refine (R1.out _).mono ?_
  rintro e w5 ⟨rfl, rfl⟩
  go_wp2_with fail
  refine (P2.out _).mono ?_
  rintro e w6 ⟨rfl, rfl⟩
  go_wp2_with fail
  refine (L2.out _).mono ?_
  rintro e w7 ⟨rfl, b_w7⟩
  have c_w7 := c_w4.trans (b_w7.mono c_w4.size)
  clear b_w7 c_w4
  go_wp2
  go_ret
  exact ⟨by simp [go_sem], c_w7⟩

set_option maxHeartbeats 1000000 in
set_option maxRecDepth 100000 in
theorem walk_none (a k n : Nat) (ha : a < 18446744073709551616) (hn : n < 4294967296) (h2 : ∀ j, j ≤ 32 → ¬ Nt.One a j) (hk : k ≤ 32) (w : World) :
    Calls Try.prog 4 #[.int .u64 a, .int .i64 (k : Int), .int .u32 n] w fun e w' => e = .returned (.bool true) ∧ Below w.heap.size w w' := by
  have O1 := Lib.hid (fun W => Rt.order_none a ha h2 W)
  have O2 := Lib.hid (fun W => Rr.order_none a h2 W)
  have L1 := Lib.hid (fun W => Rt.log_none a k ha hk (h2 k hk) W)
  have R1 := Lib.hid (fun W => Rr.root k hk W)
  have hp : 2 ^ k < 2 ^ 33 := Nat.pow_lt_pow_right (by decide) (by omega)
  have hq : n % 2 ^ k < 2 ^ k := Nat.mod_lt _ (Nat.two_pow_pos k)
  have P2 := Lib.hid (fun W => Gr.pow (Nt.rt k) (n % 2 ^ k) (by omega) W)
  have L2 := Lib.hid (fun W => Rt.log_some (Nt.rt k ^ (n % 2 ^ k) % 18446744069414584321) k (n % 2 ^ k) (Nat.lt_trans (Nat.mod_lt _ (by decide)) (by decide)) hk hq (Nat.mod_mod _ _).symm W)
  have s1 := Bt.pow_i64 k (by omega)
  generalize Nt.rt k ^ (n % 2 ^ k) % 18446744069414584321 = y at *
  generalize Nt.rt k = r at *
  have z0 := Nat.two_pow_pos k
  generalize hz : 2 ^ k = z at *
  generalize hq0 : n % z = q at *
  have q1 : (n : Int) % z = (q : Int) := by omega
  have k1 : (k : Int) ≤ 32 := by omega
  clear h2 hz hq0
  go_enter Try.func4, Try.ntmps4
  go_wp2_with fail
  refine (Rt.awake _).mono ?_
  rintro e w1 ⟨rfl, b_w1⟩
  have c_w1 := b_w1
  clear b_w1
  go_wp2_with fail
  refine (O1.out _).mono ?_
  rintro e w2 ⟨rfl, b_w2⟩
  have c_w2 := c_w1.trans (b_w2.mono c_w1.size)
  clear b_w2 c_w1
  go_wp2_with fail
  refine (O2.out _).mono ?_
  rintro e w3 ⟨rfl, rfl⟩
  go_wp2_with fail
  refine (L1.out _).mono ?_
  rintro e w4 ⟨rfl, b_w4⟩
  have c_w4 := c_w2.trans (b_w4.mono c_w2.size)
  clear b_w4 c_w2
  go_wp2_with fail
  refine (R1.out _).mono ?_
  rintro e w5 ⟨rfl, rfl⟩
  go_wp2_with fail
  refine (P2.out _).mono ?_
  rintro e w6 ⟨rfl, rfl⟩
  go_wp2_with fail
  refine (L2.out _).mono ?_
  rintro e w7 ⟨rfl, b_w7⟩
  have c_w7 := c_w4.trans (b_w7.mono c_w4.size)
  clear b_w7 c_w4
  go_wp2
  go_ret
  exact ⟨by simp [go_sem], c_w7⟩

set_option maxHeartbeats 1000000 in
set_option maxRecDepth 100000 in
theorem walk_low_some (a n m : Nat) (k : Int) (ha : a < 18446744073709551616) (hn : n < 4294967296) (hm : m ≤ 32) (h1 : Nt.One a m) (h2 : ∀ j, j < m → ¬ Nt.One a j) (hk : k < 0) (w : World) :
    Calls Try.prog 4 #[.int .u64 a, .int .i64 k, .int .u32 n] w fun e w' => e = .returned (.bool true) ∧ Below w.heap.size w w' := by
  have O1 := Lib.hid (fun W => Rt.order_some a m ha hm h1 h2 W)
  have O2 := Lib.hid (fun W => Rr.order_some a m hm h1 h2 W)
  have L1 := Lib.hid (fun W => Rt.log_low a k hk W)
  clear h1 h2
  go_enter Try.func4, Try.ntmps4
  go_wp2_with fail
  refine (Rt.awake _).mono ?_
  rintro e w1 ⟨rfl, b_w1⟩
  have c_w1 := b_w1
  clear b_w1
  go_wp2_with fail
  refine (O1.out _).mono ?_
  rintro e w2 ⟨rfl, b_w2⟩
  have c_w2 := c_w1.trans (b_w2.mono c_w1.size)
  clear b_w2 c_w1
  go_wp2_with fail
  refine (O2.out _).mono ?_
  rintro e w3 ⟨rfl, rfl⟩
  go_wp2_with fail
  refine (L1.out _).mono ?_
  rintro e w4 ⟨rfl, rfl⟩
  go_wp2
  go_ret
  exact ⟨by simp [go_sem], c_w2⟩

set_option maxHeartbeats 1000000 in
set_option maxRecDepth 100000 in
theorem walk_low_none (a n : Nat) (k : Int) (ha : a < 18446744073709551616) (hn : n < 4294967296) (h2 : ∀ j, j ≤ 32 → ¬ Nt.One a j) (hk : k < 0) (w : World) :
    Calls Try.prog 4 #[.int .u64 a, .int .i64 k, .int .u32 n] w fun e w' => e = .returned (.bool true) ∧ Below w.heap.size w w' := by
  have O1 := Lib.hid (fun W => Rt.order_none a ha h2 W)
  have O2 := Lib.hid (fun W => Rr.order_none a h2 W)
  have L1 := Lib.hid (fun W => Rt.log_low a k hk W)
  clear h2
  go_enter Try.func4, Try.ntmps4
  go_wp2_with fail
  refine (Rt.awake _).mono ?_
  rintro e w1 ⟨rfl, b_w1⟩
  have c_w1 := b_w1
  clear b_w1
  go_wp2_with fail
  refine (O1.out _).mono ?_
  rintro e w2 ⟨rfl, b_w2⟩
  have c_w2 := c_w1.trans (b_w2.mono c_w1.size)
  clear b_w2 c_w1
  go_wp2_with fail
  refine (O2.out _).mono ?_
  rintro e w3 ⟨rfl, rfl⟩
  go_wp2_with fail
  refine (L1.out _).mono ?_
  rintro e w4 ⟨rfl, rfl⟩
  go_wp2
  go_ret
  exact ⟨by simp [go_sem], c_w2⟩

set_option maxHeartbeats 1000000 in
set_option maxRecDepth 100000 in
theorem walk_high_some (a n m : Nat) (k : Int) (ha : a < 18446744073709551616) (hn : n < 4294967296) (hm : m ≤ 32) (h1 : Nt.One a m) (h2 : ∀ j, j < m → ¬ Nt.One a j) (hk : 32 < k) (w : World) :
    Calls Try.prog 4 #[.int .u64 a, .int .i64 k, .int .u32 n] w fun e w' => e = .returned (.bool true) ∧ Below w.heap.size w w' := by
  have O1 := Lib.hid (fun W => Rt.order_some a m ha hm h1 h2 W)
  have O2 := Lib.hid (fun W => Rr.order_some a m hm h1 h2 W)
  have L1 := Lib.hid (fun W => Rt.log_high a k hk W)
  have k1 : ¬ k < 0 := by omega
  clear h1 h2
  go_enter Try.func4, Try.ntmps4
  go_wp2_with fail
  refine (Rt.awake _).mono ?_
  rintro e w1 ⟨rfl, b_w1⟩
  have c_w1 := b_w1
  clear b_w1
  go_wp2_with fail
  refine (O1.out _).mono ?_
  rintro e w2 ⟨rfl, b_w2⟩
  have c_w2 := c_w1.trans (b_w2.mono c_w1.size)
  clear b_w2 c_w1
  go_wp2_with fail
  refine (O2.out _).mono ?_
  rintro e w3 ⟨rfl, rfl⟩
  go_wp2_with fail
  refine (L1.out _).mono ?_
  rintro e w4 ⟨rfl, rfl⟩
  go_wp2
  go_ret
  exact ⟨by simp [go_sem], c_w2⟩

set_option maxHeartbeats 1000000 in
set_option maxRecDepth 100000 in
theorem walk_high_none (a n : Nat) (k : Int) (ha : a < 18446744073709551616) (hn : n < 4294967296) (h2 : ∀ j, j ≤ 32 → ¬ Nt.One a j) (hk : 32 < k) (w : World) :
    Calls Try.prog 4 #[.int .u64 a, .int .i64 k, .int .u32 n] w fun e w' => e = .returned (.bool true) ∧ Below w.heap.size w w' := by
  have O1 := Lib.hid (fun W => Rt.order_none a ha h2 W)
  have O2 := Lib.hid (fun W => Rr.order_none a h2 W)
  have L1 := Lib.hid (fun W => Rt.log_high a k hk W)
  have k1 : ¬ k < 0 := by omega
  clear h2
  go_enter Try.func4, Try.ntmps4
  go_wp2_with fail
  refine (Rt.awake _).mono ?_
  rintro e w1 ⟨rfl, b_w1⟩
  have c_w1 := b_w1
  clear b_w1
  go_wp2_with fail
  refine (O1.out _).mono ?_
  rintro e w2 ⟨rfl, b_w2⟩
  have c_w2 := c_w1.trans (b_w2.mono c_w1.size)
  clear b_w2 c_w1
  go_wp2_with fail
  refine (O2.out _).mono ?_
  rintro e w3 ⟨rfl, rfl⟩
  go_wp2_with fail
  refine (L1.out _).mono ?_
  rintro e w4 ⟨rfl, rfl⟩
  go_wp2
  go_ret
  exact ⟨by simp [go_sem], c_w2⟩

theorem walk (a : Nat) (k : Int) (n : Nat) (ha : a < 18446744073709551616) (hn : n < 4294967296) (w : World) :
    Calls Try.prog 4 #[.int .u64 a, .int .i64 k, .int .u32 n] w fun e w' => e = .returned (.bool true) ∧ Below w.heap.size w w' := by
  rcases Nt.least (Nt.One a) 32 with ⟨m, hm, h1, h2⟩ | h2
  · by_cases k0 : k < 0
    · exact walk_low_some a n m k ha hn hm h1 h2 k0 w
    by_cases k3 : 32 < k
    · exact walk_high_some a n m k ha hn hm h1 h2 k3 w
    obtain ⟨j, rfl⟩ := Int.eq_ofNat_of_zero_le (show 0 ≤ k by omega)
    by_cases hmk : m ≤ j
    · exact walk_is a j n m ha hn hm h1 h2 (by omega) hmk w
    · exact walk_above a j n m ha hn hm h1 h2 (by omega) (by omega) w
  · by_cases k0 : k < 0
    · exact walk_low_none a n k ha hn h2 k0 w
    by_cases k3 : 32 < k
    · exact walk_high_none a n k ha hn h2 k3 w
    obtain ⟨j, rfl⟩ := Int.eq_ofNat_of_zero_le (show 0 ≤ k by omega)
    exact walk_none a j n ha hn h2 (by omega) w

set_option maxRecDepth 100000 in
theorem lifted (os : Os) (started : os.Started) (H : Type) (enc : TypeId × Value → H) :
    ReturnsInHanded {} Try.checked os 4 .any (Rows.rootOrdersSpec.pre6 enc Try.prog Try.f4 Rows.rootOrdersRow.domain false) (Rows.rootOrdersSpec.post enc Try.prog Try.f4 false true false false) := by
  refine returnsInHanded_of_change (C := Try.checked) Fr.own started (by kernel_rfl) Try.func4
    (ChangeSpec.witness6 (enc := enc) (C := Try.checked) false ⟨#[], #[.int .u64 0, .int .i64 0, .int .u32 0], []⟩ 8 (by kernel_rfl) (by kernel_rfl) (by kernel_rfl) (by kernel_rfl)) ?_
  intro W base args ds gs before hval0 hW hcnd _
  have hval : ∀ (j : Nat) t v, Try.f4.params[j]? = some t → args[j]? = some v → Value.okWide Try.prog W .any base t v := hval0
  have hW' := hW
  obtain ⟨p, q, hA0, hV, rfl, hfz, hnd⟩ := hW
  have hA : DataW.TrodAll enc Try.prog W 0 (fun _ => true) true Try.f4.params.toList args.toList ds p := hA0
  obtain ⟨rfl, rfl⟩ := trodVars_none hV
  rw [Try.params4] at hA hval
  obtain ⟨v0, vs0, d0, ds0, p0, q0, hargs, rfl, rfl, h0, r0⟩ := trodAll_cons hA
  obtain ⟨v1, vs1, d1, ds1, p1, q1, rfl, rfl, rfl, h1, r1⟩ := trodAll_cons r0
  obtain ⟨v2, vs2, d2, ds2, p2, q2, rfl, rfl, rfl, h2, r2⟩ := trodAll_cons r1
  obtain ⟨rfl, rfl, rfl⟩ := trodAll_nil r2
  obtain rfl : args = #[v0, v1, v2] := by cases args; simp_all
  obtain ⟨a0, rfl, rfl, rfl, w0⟩ := open_int Try.underlying22 (hval 0 22 v0 rfl rfl) h0
  have b0 : 0 ≤ a0 ∧ a0 ≤ 18446744073709551615 := by simpa [Lit.wf, IntKind.min, IntKind.max, IntKind.signed, IntKind.bits] using w0
  obtain ⟨x0, rfl⟩ := Int.eq_ofNat_of_zero_le b0.1
  obtain ⟨x1, rfl, rfl, rfl, w1⟩ := open_int Try.underlying3 (hval 1 3 v1 rfl rfl) h1
  have b1 : -9223372036854775808 ≤ x1 ∧ x1 ≤ 9223372036854775807 := by simpa [Lit.wf, IntKind.min, IntKind.max, IntKind.signed, IntKind.bits] using w1
  obtain ⟨a2, rfl, rfl, rfl, w2⟩ := open_int Try.underlying30 (hval 2 30 v2 rfl rfl) h2
  have b2 : 0 ≤ a2 ∧ a2 ≤ 4294967295 := by simpa [Lit.wf, IntKind.min, IntKind.max, IntKind.signed, IntKind.bits] using w2
  obtain ⟨x2, rfl⟩ := Int.eq_ofNat_of_zero_le b2.1
  simp only [List.append_nil] at hW'
  refine (walk x0 x1 x2 (by omega) (by omega) W).mono fun e W' ⟨he, hb⟩ => ?_
  subst he
  exact ⟨_, rfl, Fr.law_post (tb := 4) hW' hA0 rfl rfl rfl Try.underlying4 (by rw [Try.params4]; intro t ht; simp at ht; rcases ht with rfl | rfl | rfl; all_goals exact ⟨by kernel_rfl, of_decide_eq_true (by kernel_rfl)⟩) hb⟩

theorem proved : Rows.RootOrdersSaid :=
  OpenClaim.holds_of_wide 4 Try.f4 rfl rfl rfl rfl rfl rfl rfl ⟨rfl, rfl, rfl, rfl, rfl⟩ rfl rfl rfl rfl rfl (by kernel_rfl) Try.func4 (by kernel_rfl)
    (of_decide_eq_true (by kernel_rfl)) (by unfold Func.isWrapper; first | (rw [if_pos (by decide +kernel)]; kernel_rfl) | (rw [if_neg (by decide +kernel)]; exact ⟨rfl, rfl⟩))
    (fun os started H enc _ => lifted os started H enc)
end Go.Proofs.Ytkocniimpdhogaa.rootOrders
