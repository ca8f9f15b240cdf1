/- GoldLaws: of every three words the law of the field's laws answers true, and changes nothing. No condition. -/
import Derived.Test.YtkbhbnadkoainaaFrame
import Derived.Test.YtkbhbnadkoainaaGoldP
set_option linter.unusedVariables false
namespace Go.Proofs.Ytkbhbnadkoainaa.goldLaws
open Go.ChangeShapes Go.WideShapes Go.ChangeAt Go.RowKit
open Nm

theorem one_more (a : Nat) (ha : a < 18446744073709551616) (w : World) : Calls Try.prog 26 #[.int .u64 a, .int .u64 1] w fun e w' => e = .returned (.int .u64 ((a % 18446744069414584321 : Nat) : Int)) ∧ Below w.heap.size w w' := by
  have c := Gd.mul a 1 ha (by decide) w
  rwa [Nat.mul_one] at c
theorem sum3 (a b c : Nat) : ((a + b) % 18446744069414584321 + c) % 18446744069414584321 = (a + (b + c) % 18446744069414584321) % 18446744069414584321 := by rw [Nat.mod_add_mod, Nat.add_mod_mod, Nat.add_assoc]
theorem prod3 (a b c : Nat) : (a * b % 18446744069414584321) * c % 18446744069414584321 = a * (b * c % 18446744069414584321) % 18446744069414584321 := by rw [Nat.mod_mul_mod, Nat.mul_mod_mod, Nat.mul_assoc]
theorem share (a b c : Nat) : a * ((b + c) % 18446744069414584321) % 18446744069414584321 = (a * b % 18446744069414584321 + a * c % 18446744069414584321) % 18446744069414584321 := by rw [Nat.mul_mod_mod, Nat.mul_add, Nat.add_mod]
theorem back (a b : Nat) : ((a + b) % 18446744069414584321 + (18446744069414584321 - b % 18446744069414584321)) % 18446744069414584321 = a % 18446744069414584321 := by omega

set_option maxHeartbeats 1000000 in
set_option maxRecDepth 100000 in
theorem walk (a b c : Nat) (ha : a < 18446744073709551616) (hb : b < 18446744073709551616) (hc : c < 18446744073709551616) (w : World) :
    Calls Try.prog 7 #[.int .u64 a, .int .u64 b, .int .u64 c] w fun e w' => e = .returned (.bool true) ∧ Below w.heap.size w w' := by
  have Aab := Lib.hid (fun W => Gd.add a b ha hb W)
  have Aba := Lib.hid (fun W => Gd.add b a hb ha W)
  rw [Nat.add_comm b a] at Aba
  have Mab := Lib.hid (fun W => Gd.mul a b ha hb W)
  have Mba := Lib.hid (fun W => Gd.mul b a hb ha W)
  rw [Nat.mul_comm b a] at Mba
  have Ax := Lib.hid (fun W => Gd.add ((a + b) % 18446744069414584321) c (Nat.lt_trans (Nat.mod_lt _ (by decide)) (by decide)) hc W)
  rw [sum3] at Ax
  have Abc := Lib.hid (fun W => Gd.add b c hb hc W)
  have Ay := Lib.hid (fun W => Gd.add a ((b + c) % 18446744069414584321) ha (Nat.lt_trans (Nat.mod_lt _ (by decide)) (by decide)) W)
  have Mx := Lib.hid (fun W => Gd.mul (a * b % 18446744069414584321) c (Nat.lt_trans (Nat.mod_lt _ (by decide)) (by decide)) hc W)
  rw [prod3] at Mx
  have Mbc := Lib.hid (fun W => Gd.mul b c hb hc W)
  have My := Lib.hid (fun W => Gd.mul a (b * c % 18446744069414584321) ha (Nat.lt_trans (Nat.mod_lt _ (by decide)) (by decide)) W)
  have Mz := Lib.hid (fun W => Gd.mul a ((b + c) % 18446744069414584321) ha (Nat.lt_trans (Nat.mod_lt _ (by decide)) (by decide)) W)
  rw [share] at Mz
  have Mac := Lib.hid (fun W => Gd.mul a c ha hc W)
  have Az := Lib.hid (fun W => Gd.add (a * b % 18446744069414584321) (a * c % 18446744069414584321) (Nat.lt_trans (Nat.mod_lt _ (by decide)) (by decide)) (Nat.lt_trans (Nat.mod_lt _ (by decide)) (by decide)) W)
  have S1 := Lib.hid (fun W => Gd.sub ((a + b) % 18446744069414584321) b (Nat.lt_trans (Nat.mod_lt _ (by decide)) (by decide)) hb W)
  rw [back] at S1
  have O1 := Lib.hid (fun W => Gd.of a ha W)
  have M1 := Lib.hid (fun W => one_more a ha W)
  have G1 := Lib.hid (fun W => Gd.good_yes (a * b % 18446744069414584321) (Nat.mod_lt _ (by decide)) W)
  have G2 := Lib.hid (fun W => Gd.good_yes ((a + b) % 18446744069414584321) (Nat.mod_lt _ (by decide)) W)
  clear ha hb hc
  generalize (a * b % 18446744069414584321 + a * c % 18446744069414584321) % 18446744069414584321 = v1 at *
  generalize a * (b * c % 18446744069414584321) % 18446744069414584321 = v2 at *
  generalize (a + (b + c) % 18446744069414584321) % 18446744069414584321 = v3 at *
  generalize a * b % 18446744069414584321 = v4 at *
  generalize a * c % 18446744069414584321 = v5 at *
  generalize b * c % 18446744069414584321 = v6 at *
  generalize (a + b) % 18446744069414584321 = v7 at *
  generalize (b + c) % 18446744069414584321 = v8 at *
  generalize a % 18446744069414584321 = v9 at *
  go_enter Try.func7, Try.ntmps7
  go_wp2_with fail
  refine (Gd.awake _).mono ?_
  rintro e w1 ⟨rfl, h1⟩
  have k1 := h1
  go_wp2_with fail
  refine (Aab.out _).mono ?_
  rintro e w2 ⟨rfl, rfl⟩
  go_wp2_with fail
  refine (Aba.out _).mono ?_
  rintro e w3 ⟨rfl, rfl⟩
  go_wp2_with fail
  refine (Mab.out _).mono ?_
  rintro e w4 ⟨rfl, h4⟩
  have k4 := k1.trans (h4.mono k1.size)
  clear h4 k1
  go_wp2_with fail
  refine (Mba.out _).mono ?_
  rintro e w5 ⟨rfl, h5⟩
  have k5 := k4.trans (h5.mono k4.size)
  clear h5 k4
  go_wp2_with fail
  refine (Aab.out _).mono ?_
  rintro e w6 ⟨rfl, rfl⟩
  go_wp2_with fail
  refine (Ax.out _).mono ?_
  rintro e w7 ⟨rfl, rfl⟩
  go_wp2_with fail
  refine (Abc.out _).mono ?_
  rintro e w8 ⟨rfl, rfl⟩
  go_wp2_with fail
  refine (Ay.out _).mono ?_
  rintro e w9 ⟨rfl, rfl⟩
  go_wp2_with fail
  refine (Mab.out _).mono ?_
  rintro e w10 ⟨rfl, h10⟩
  have k10 := k5.trans (h10.mono k5.size)
  clear h10 k5
  go_wp2_with fail
  refine (Mx.out _).mono ?_
  rintro e w11 ⟨rfl, h11⟩
  have k11 := k10.trans (h11.mono k10.size)
  clear h11 k10
  go_wp2_with fail
  refine (Mbc.out _).mono ?_
  rintro e w12 ⟨rfl, h12⟩
  have k12 := k11.trans (h12.mono k11.size)
  clear h12 k11
  go_wp2_with fail
  refine (My.out _).mono ?_
  rintro e w13 ⟨rfl, h13⟩
  have k13 := k12.trans (h13.mono k12.size)
  clear h13 k12
  go_wp2_with fail
  refine (Abc.out _).mono ?_
  rintro e w14 ⟨rfl, rfl⟩
  go_wp2_with fail
  refine (Mz.out _).mono ?_
  rintro e w15 ⟨rfl, h15⟩
  have k15 := k13.trans (h15.mono k13.size)
  clear h15 k13
  go_wp2_with fail
  refine (Mab.out _).mono ?_
  rintro e w16 ⟨rfl, h16⟩
  have k16 := k15.trans (h16.mono k15.size)
  clear h16 k15
  go_wp2_with fail
  refine (Mac.out _).mono ?_
  rintro e w17 ⟨rfl, h17⟩
  have k17 := k16.trans (h17.mono k16.size)
  clear h17 k16
  go_wp2_with fail
  refine (Az.out _).mono ?_
  rintro e w18 ⟨rfl, rfl⟩
  go_wp2_with fail
  refine (Aab.out _).mono ?_
  rintro e w19 ⟨rfl, rfl⟩
  go_wp2_with fail
  refine (S1.out _).mono ?_
  rintro e w20 ⟨rfl, rfl⟩
  go_wp2_with fail
  refine (O1.out _).mono ?_
  rintro e w21 ⟨rfl, rfl⟩
  go_wp2_with fail
  refine (M1.out _).mono ?_
  rintro e w22 ⟨rfl, h22⟩
  have k22 := k17.trans (h22.mono k17.size)
  clear h22 k17
  go_wp2_with fail
  refine (O1.out _).mono ?_
  rintro e w23 ⟨rfl, rfl⟩
  go_wp2_with fail
  refine (Mab.out _).mono ?_
  rintro e w24 ⟨rfl, h24⟩
  have k24 := k22.trans (h24.mono k22.size)
  clear h24 k22
  go_wp2_with fail
  refine (G1.out _).mono ?_
  rintro e w25 ⟨rfl, rfl⟩
  go_wp2_with fail
  refine (Aab.out _).mono ?_
  rintro e w26 ⟨rfl, rfl⟩
  go_wp2_with fail
  refine (G2.out _).mono ?_
  rintro e w27 ⟨rfl, rfl⟩
  go_wp2
  go_ret
  exact ⟨by simp [go_sem], k24⟩

set_option maxRecDepth 100000 in
theorem lifted (os : Os) (started : os.Started) (H : Type) (enc : TypeId × Value → H) :
    ReturnsInHanded {} Try.checked os 7 .any (Rows.goldLawsSpec.pre6 enc Try.prog Try.f7 Rows.goldLawsRow.domain false) (Rows.goldLawsSpec.post enc Try.prog Try.f7 false true false false) := by
  refine returnsInHanded_of_change (C := Try.checked) Fr.own started (by kernel_rfl) Try.func7
    (ChangeSpec.witness6 (enc := enc) (C := Try.checked) false ⟨#[], #[.int .u64 0, .int .u64 0, .int .u64 0], []⟩ 8 (by kernel_rfl) (by kernel_rfl) (by kernel_rfl) (by kernel_rfl)) ?_
  intro W base args ds gs before hval0 hW hcnd _
  have hval : ∀ (j : Nat) t v, Try.f7.params[j]? = some t → args[j]? = some v → Value.okWide Try.prog W .any base t v := hval0
  have hW' := hW
  obtain ⟨p, q, hA0, hV, rfl, hfz, hnd⟩ := hW
  have hA : DataW.TrodAll enc Try.prog W 0 (fun _ => true) true Try.f7.params.toList args.toList ds p := hA0
  obtain ⟨rfl, rfl⟩ := trodVars_none hV
  rw [Try.params7] at hA hval
  obtain ⟨v0, vs0, d0, ds0, p0, q0, hargs, rfl, rfl, h0, r0⟩ := trodAll_cons hA
  obtain ⟨v1, vs1, d1, ds1, p1, q1, rfl, rfl, rfl, h1, r1⟩ := trodAll_cons r0
  obtain ⟨v2, vs2, d2, ds2, p2, q2, rfl, rfl, rfl, h2, r2⟩ := trodAll_cons r1
  obtain ⟨rfl, rfl, rfl⟩ := trodAll_nil r2
  obtain rfl : args = #[v0, v1, v2] := by cases args; simp_all
  obtain ⟨a0, rfl, rfl, rfl, w0⟩ := open_int Try.underlying22 (hval 0 22 v0 rfl rfl) h0
  have b0 : 0 ≤ a0 ∧ a0 ≤ 18446744073709551615 := by simpa [Lit.wf, IntKind.min, IntKind.max, IntKind.signed, IntKind.bits] using w0
  obtain ⟨x0, rfl⟩ := Int.eq_ofNat_of_zero_le b0.1
  obtain ⟨a1, rfl, rfl, rfl, w1⟩ := open_int Try.underlying22 (hval 1 22 v1 rfl rfl) h1
  have b1 : 0 ≤ a1 ∧ a1 ≤ 18446744073709551615 := by simpa [Lit.wf, IntKind.min, IntKind.max, IntKind.signed, IntKind.bits] using w1
  obtain ⟨x1, rfl⟩ := Int.eq_ofNat_of_zero_le b1.1
  obtain ⟨a2, rfl, rfl, rfl, w2⟩ := open_int Try.underlying22 (hval 2 22 v2 rfl rfl) h2
  have b2 : 0 ≤ a2 ∧ a2 ≤ 18446744073709551615 := by simpa [Lit.wf, IntKind.min, IntKind.max, IntKind.signed, IntKind.bits] using w2
  obtain ⟨x2, rfl⟩ := Int.eq_ofNat_of_zero_le b2.1
  simp only [List.append_nil] at hW'
  refine (walk x0 x1 x2 (by omega) (by omega) (by omega) W).mono fun e W' ⟨he, hb⟩ => ?_
  subst he
  exact ⟨_, rfl, Fr.law_post (tb := 4) hW' hA0 rfl rfl rfl Try.underlying4 (by rw [Try.params7]; intro t ht; simp at ht; rcases ht with rfl | rfl | rfl; all_goals exact ⟨by kernel_rfl, of_decide_eq_true (by kernel_rfl)⟩) hb⟩

theorem proved : Rows.GoldLawsSaid :=
  OpenClaim.holds_of_wide 7 Try.f7 rfl rfl rfl rfl rfl rfl rfl ⟨rfl, rfl, rfl, rfl, rfl⟩ rfl rfl rfl rfl rfl (by kernel_rfl) Try.func7 (by kernel_rfl)
    (of_decide_eq_true (by kernel_rfl)) (by unfold Func.isWrapper; first | (rw [if_pos (by decide +kernel)]; kernel_rfl) | (rw [if_neg (by decide +kernel)]; exact ⟨rfl, rfl⟩))
    (fun os started H enc _ => lifted os started H enc)
end Go.Proofs.Ytkbhbnadkoainaa.goldLaws
