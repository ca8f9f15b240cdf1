/- GoldPowers: of every word and every two exponents the law of powers answers true, and changes nothing. No condition. -/
import Derived.Test.YtkbhbnadkoainaaFrame
import Derived.Test.YtkbhbnadkoainaaGoldP
set_option linter.unusedVariables false
namespace Go.Proofs.Ytkbhbnadkoainaa.goldPowers
open Go.ChangeShapes Go.WideShapes Go.ChangeAt Go.RowKit
open Nm

theorem pow_last (a m : Nat) (o : Nat) (ha : a < 18446744073709551616) (hm : m = 18446744069414584320) (ho : a ^ m % 18446744069414584321 = o) (w : World) :
    Calls Try.prog 30 #[.int .u64 a, .int .u64 18446744069414584320] w fun e w' => e = .returned (.int .u64 (o : Int)) ∧ Below w.heap.size w w' := by
  have c := Gd.pow a m ha (by omega) w
  rw [ho] at c
  rw [show (18446744069414584320 : Int) = ((m : Nat) : Int) by omega]
  exact c
theorem pow_two_ (a n m : Nat) : a ^ n % 18446744069414584321 * (a ^ m % 18446744069414584321) % 18446744069414584321 = a ^ (n + m) % 18446744069414584321 := by rw [← Nat.mul_mod, ← Nat.pow_add]

set_option maxHeartbeats 1000000 in
set_option maxRecDepth 100000 in
theorem walk_zero (a n m : Nat) (ha : a < 18446744073709551616) (hn : n < 18446744073709551616) (hm : m < 18446744073709551616) (h0 : a % 18446744069414584321 = 0) (w : World) :
    Calls Try.prog 6 #[.int .u64 a, .int .u64 n, .int .u64 m] w fun e w' => e = .returned (.bool true) ∧ Below w.heap.size w w' := by
  obtain ⟨n2, hn2⟩ : ∃ n2, n2 = n / 2 := ⟨_, rfl⟩
  obtain ⟨m2, hm2⟩ : ∃ m2, m2 = m / 2 := ⟨_, rfl⟩
  obtain ⟨s2, hs2⟩ : ∃ s2, s2 = n2 + m2 := ⟨_, rfl⟩
  have q1 : (n : Int) / 2 = (n2 : Int) := by omega
  have q2 : (m : Int) / 2 = (m2 : Int) := by omega
  have q3 : IntKind.u64.wrap ((n2 : Int) + (m2 : Int)) = (s2 : Int) := by rw [IntKind.wrap_u64]; omega
  have q4 := Bt.wrapN n2 (by omega)
  have q5 := Bt.wrapN m2 (by omega)
  have O1 := Lib.hid (fun W => Gd.of a ha W)
  have P1 := Lib.hid (fun W => Gd.pow a n2 ha (by omega) W)
  have R1 := Lib.hid (fun W => Gr.pow a n2 (by omega) W)
  have P2 := Lib.hid (fun W => Gd.pow a m2 ha (by omega) W)
  have P3 := Lib.hid (fun W => Gd.pow a s2 ha (by omega) W)
  have M1 := Lib.hid (fun W => Gd.mul (a ^ n2 % 18446744069414584321) (a ^ m2 % 18446744069414584321) (Nat.lt_trans (Nat.mod_lt _ (by decide)) (by decide)) (Nat.lt_trans (Nat.mod_lt _ (by decide)) (by decide)) W)
  rw [pow_two_, ← hs2] at M1
  obtain ⟨z, hz⟩ : ∃ z : Nat, z = 18446744069414584320 := ⟨_, rfl⟩
  have L1 := Lib.hid (fun W => pow_last a z 0 ha hz (Nt.pow_zero_mod a z h0 (by omega)) W)
  rw [h0] at O1
  clear h0 hn2 hm2 hs2 hz ha hn hm
  generalize a ^ n2 % 18446744069414584321 = y1 at *
  generalize a ^ m2 % 18446744069414584321 = y2 at *
  generalize a ^ s2 % 18446744069414584321 = y3 at *
  go_enter Try.func6, Try.ntmps6
  go_wp2_with fail
  refine (Gd.awake _).mono ?_
  rintro e w1 ⟨rfl, h1⟩
  have k1 := h1
  go_wp2_with fail
  refine (O1.out _).mono ?_
  rintro e w2 ⟨rfl, rfl⟩
  go_wp2_with fail
  refine (P1.out _).mono ?_
  rintro e w3 ⟨rfl, h3⟩
  have k3 := k1.trans (h3.mono k1.size)
  clear h3 k1
  go_wp2_with fail
  refine (R1.out _).mono ?_
  rintro e w4 ⟨rfl, rfl⟩
  go_wp2_with fail
  refine (P1.out _).mono ?_
  rintro e w5 ⟨rfl, h5⟩
  have k5 := k3.trans (h5.mono k3.size)
  clear h5 k3
  go_wp2_with fail
  refine (P2.out _).mono ?_
  rintro e w6 ⟨rfl, h6⟩
  have k6 := k5.trans (h6.mono k5.size)
  clear h6 k5
  go_wp2_with fail
  refine (M1.out _).mono ?_
  rintro e w7 ⟨rfl, h7⟩
  have k7 := k6.trans (h7.mono k6.size)
  clear h7 k6
  go_wp2_with fail
  refine (P3.out _).mono ?_
  rintro e w8 ⟨rfl, h8⟩
  have k8 := k7.trans (h8.mono k7.size)
  clear h8 k7
  go_wp2_with fail
  refine (L1.out _).mono ?_
  rintro e w9 ⟨rfl, h9⟩
  have k9 := k8.trans (h9.mono k8.size)
  clear h9 k8
  go_wp2
  go_ret
  exact ⟨by simp [go_sem], k9⟩

set_option maxHeartbeats 1000000 in
set_option maxRecDepth 100000 in
theorem walk_some (a n m : Nat) (ha : a < 18446744073709551616) (hn : n < 18446744073709551616) (hm : m < 18446744073709551616) (h0 : a % 18446744069414584321 ≠ 0) (w : World) :
    Calls Try.prog 6 #[.int .u64 a, .int .u64 n, .int .u64 m] w fun e w' => e = .returned (.bool true) ∧ Below w.heap.size w w' := by
  obtain ⟨n2, hn2⟩ : ∃ n2, n2 = n / 2 := ⟨_, rfl⟩
  obtain ⟨m2, hm2⟩ : ∃ m2, m2 = m / 2 := ⟨_, rfl⟩
  obtain ⟨s2, hs2⟩ : ∃ s2, s2 = n2 + m2 := ⟨_, rfl⟩
  have q1 : (n : Int) / 2 = (n2 : Int) := by omega
  have q2 : (m : Int) / 2 = (m2 : Int) := by omega
  have q3 : IntKind.u64.wrap ((n2 : Int) + (m2 : Int)) = (s2 : Int) := by rw [IntKind.wrap_u64]; omega
  have q4 := Bt.wrapN n2 (by omega)
  have q5 := Bt.wrapN m2 (by omega)
  have O1 := Lib.hid (fun W => Gd.of a ha W)
  have P1 := Lib.hid (fun W => Gd.pow a n2 ha (by omega) W)
  have R1 := Lib.hid (fun W => Gr.pow a n2 (by omega) W)
  have P2 := Lib.hid (fun W => Gd.pow a m2 ha (by omega) W)
  have P3 := Lib.hid (fun W => Gd.pow a s2 ha (by omega) W)
  have M1 := Lib.hid (fun W => Gd.mul (a ^ n2 % 18446744069414584321) (a ^ m2 % 18446744069414584321) (Nat.lt_trans (Nat.mod_lt _ (by decide)) (by decide)) (Nat.lt_trans (Nat.mod_lt _ (by decide)) (by decide)) W)
  rw [pow_two_, ← hs2] at M1
  obtain ⟨z, hz⟩ : ∃ z : Nat, z = 18446744069414584320 := ⟨_, rfl⟩
  have L1 := Lib.hid (fun W => pow_last a z 1 ha hz (Nt.pow_all a z h0 hz) W)
  obtain ⟨o, ho⟩ : ∃ o, o = a % 18446744069414584321 := ⟨_, rfl⟩
  rw [← ho] at O1 h0
  have o0 : ((o : Int) == 0) = false := by simp; omega
  clear ho
  clear h0 hn2 hm2 hs2 hz ha hn hm
  generalize a ^ n2 % 18446744069414584321 = y1 at *
  generalize a ^ m2 % 18446744069414584321 = y2 at *
  generalize a ^ s2 % 18446744069414584321 = y3 at *
  go_enter Try.func6, Try.ntmps6
  go_wp2_with fail
  refine (Gd.awake _).mono ?_
  rintro e w1 ⟨rfl, h1⟩
  have k1 := h1
  go_wp2_with fail
  refine (O1.out _).mono ?_
  rintro e w2 ⟨rfl, rfl⟩
  go_wp2_with fail
  refine (P1.out _).mono ?_
  rintro e w3 ⟨rfl, h3⟩
  have k3 := k1.trans (h3.mono k1.size)
  clear h3 k1
  go_wp2_with fail
  refine (R1.out _).mono ?_
  rintro e w4 ⟨rfl, rfl⟩
  go_wp2_with fail
  refine (P1.out _).mono ?_
  rintro e w5 ⟨rfl, h5⟩
  have k5 := k3.trans (h5.mono k3.size)
  clear h5 k3
  go_wp2_with fail
  refine (P2.out _).mono ?_
  rintro e w6 ⟨rfl, h6⟩
  have k6 := k5.trans (h6.mono k5.size)
  clear h6 k5
  go_wp2_with fail
  refine (M1.out _).mono ?_
  rintro e w7 ⟨rfl, h7⟩
  have k7 := k6.trans (h7.mono k6.size)
  clear h7 k6
  go_wp2_with fail
  refine (P3.out _).mono ?_
  rintro e w8 ⟨rfl, h8⟩
  have k8 := k7.trans (h8.mono k7.size)
  clear h8 k7
  go_wp2_with fail
  refine (L1.out _).mono ?_
  rintro e w9 ⟨rfl, h9⟩
  have k9 := k8.trans (h9.mono k8.size)
  clear h9 k8
  go_wp2
  go_ret
  exact ⟨by simp [go_sem], k9⟩

theorem walk (a n m : Nat) (ha : a < 18446744073709551616) (hn : n < 18446744073709551616) (hm : m < 18446744073709551616) (w : World) :
    Calls Try.prog 6 #[.int .u64 a, .int .u64 n, .int .u64 m] w fun e w' => e = .returned (.bool true) ∧ Below w.heap.size w w' := by
  by_cases h0 : a % 18446744069414584321 = 0
  · exact walk_zero a n m ha hn hm h0 w
  · exact walk_some a n m ha hn hm h0 w

set_option maxRecDepth 100000 in
theorem lifted (os : Os) (started : os.Started) (H : Type) (enc : TypeId × Value → H) :
    ReturnsInHanded {} Try.checked os 6 .any (Rows.goldPowersSpec.pre6 enc Try.prog Try.f6 Rows.goldPowersRow.domain false) (Rows.goldPowersSpec.post enc Try.prog Try.f6 false true false false) := by
  refine returnsInHanded_of_change (C := Try.checked) Fr.own started (by kernel_rfl) Try.func6
    (ChangeSpec.witness6 (enc := enc) (C := Try.checked) false ⟨#[], #[.int .u64 0, .int .u64 0, .int .u64 0], []⟩ 8 (by kernel_rfl) (by kernel_rfl) (by kernel_rfl) (by kernel_rfl)) ?_
  intro W base args ds gs before hval0 hW hcnd _
  have hval : ∀ (j : Nat) t v, Try.f6.params[j]? = some t → args[j]? = some v → Value.okWide Try.prog W .any base t v := hval0
  have hW' := hW
  obtain ⟨p, q, hA0, hV, rfl, hfz, hnd⟩ := hW
  have hA : DataW.TrodAll enc Try.prog W 0 (fun _ => true) true Try.f6.params.toList args.toList ds p := hA0
  obtain ⟨rfl, rfl⟩ := trodVars_none hV
  rw [Try.params6] at hA hval
  obtain ⟨v0, vs0, d0, ds0, p0, q0, hargs, rfl, rfl, h0, r0⟩ := trodAll_cons hA
  obtain ⟨v1, vs1, d1, ds1, p1, q1, rfl, rfl, rfl, h1, r1⟩ := trodAll_cons r0
  obtain ⟨v2, vs2, d2, ds2, p2, q2, rfl, rfl, rfl, h2, r2⟩ := trodAll_cons r1
  obtain ⟨rfl, rfl, rfl⟩ := trodAll_nil r2
  obtain rfl : args = #[v0, v1, v2] := by cases args; simp_all
  obtain ⟨a0, rfl, rfl, rfl, w0⟩ := open_int Try.underlying22 (hval 0 22 v0 rfl rfl) h0
  have b0 : 0 ≤ a0 ∧ a0 ≤ 18446744073709551615 := by simpa [Lit.wf, IntKind.min, IntKind.max, IntKind.signed, IntKind.bits] using w0
  obtain ⟨x0, rfl⟩ := Int.eq_ofNat_of_zero_le b0.1
  obtain ⟨a1, rfl, rfl, rfl, w1⟩ := open_int Try.underlying22 (hval 1 22 v1 rfl rfl) h1
  have b1 : 0 ≤ a1 ∧ a1 ≤ 18446744073709551615 := by simpa [Lit.wf, IntKind.min, IntKind.max, IntKind.signed, IntKind.bits] using w1
  obtain ⟨x1, rfl⟩ := Int.eq_ofNat_of_zero_le b1.1
  obtain ⟨a2, rfl, rfl, rfl, w2⟩ := open_int Try.underlying22 (hval 2 22 v2 rfl rfl) h2
  have b2 : 0 ≤ a2 ∧ a2 ≤ 18446744073709551615 := by simpa [Lit.wf, IntKind.min, IntKind.max, IntKind.signed, IntKind.bits] using w2
  obtain ⟨x2, rfl⟩ := Int.eq_ofNat_of_zero_le b2.1
  simp only [List.append_nil] at hW'
  refine (walk x0 x1 x2 (by omega) (by omega) (by omega) W).mono fun e W' ⟨he, hb⟩ => ?_
  subst he
  exact ⟨_, rfl, Fr.law_post (tb := 4) hW' hA0 rfl rfl rfl Try.underlying4 (by rw [Try.params6]; intro t ht; simp at ht; rcases ht with rfl | rfl | rfl; all_goals exact ⟨by kernel_rfl, of_decide_eq_true (by kernel_rfl)⟩) hb⟩

theorem proved : Rows.GoldPowersSaid :=
  OpenClaim.holds_of_wide 6 Try.f6 rfl rfl rfl rfl rfl rfl rfl ⟨rfl, rfl, rfl, rfl, rfl⟩ rfl rfl rfl rfl rfl (by kernel_rfl) Try.func6 (by kernel_rfl)
    (of_decide_eq_true (by kernel_rfl)) (by unfold Func.isWrapper; first | (rw [if_pos (by decide +kernel)]; kernel_rfl) | (rw [if_neg (by decide +kernel)]; exact ⟨rfl, rfl⟩))
    (fun os started H enc _ => lifted os started H enc)
end Go.Proofs.Ytkbhbnadkoainaa.goldPowers
