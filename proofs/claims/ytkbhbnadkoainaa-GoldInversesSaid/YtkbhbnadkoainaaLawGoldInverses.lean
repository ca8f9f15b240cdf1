/- GoldInverses: of every two words the law of inverses and quotients answers true, and changes nothing. No condition. -/
import Derived.Test.YtkbhbnadkoainaaFrame
import Derived.Test.YtkbhbnadkoainaaGoldP
set_option linter.unusedVariables false
namespace Go.Proofs.Ytkbhbnadkoainaa.goldInverses
open Go.ChangeShapes Go.WideShapes Go.ChangeAt Go.RowKit
open Nm

set_option maxHeartbeats 1000000 in
set_option maxRecDepth 100000 in
theorem walk_zero (a b : Nat) (ha : a < 18446744073709551616) (hb : b < 18446744073709551616) (h0 : b % 18446744069414584321 = 0) (w : World) :
    Calls Try.prog 8 #[.int .u64 a, .int .u64 b] w fun e w' => e = .returned (.bool true) ∧ Below w.heap.size w w' := by
  have I1 := Lib.hid (fun W => Gd.inv_none b hb h0 W)
  have D1 := Lib.hid (fun W => Gd.div_none a b hb h0 W)
  have O1 := Lib.hid (fun W => Gr.of b W)
  rw [h0] at O1
  clear h0 ha hb
  go_enter Try.func8, Try.ntmps8
  go_wp2_with fail
  refine (Gd.awake _).mono ?_
  rintro e w1 ⟨rfl, h1⟩
  have k1 := h1
  go_wp2_with fail
  refine (I1.out _).mono ?_
  rintro e w2 ⟨rfl, rfl⟩
  go_wp2_with fail
  refine (D1.out _).mono ?_
  rintro e w3 ⟨rfl, rfl⟩
  go_wp2_with fail
  refine (O1.out _).mono ?_
  rintro e w4 ⟨rfl, rfl⟩
  go_wp2
  go_ret
  exact ⟨by simp [go_sem], k1⟩

theorem quot (a b : Nat) (h0 : b % 18446744069414584321 ≠ 0) : a * Nt.inv b % 18446744069414584321 * b % 18446744069414584321 = a % 18446744069414584321 := by
  rw [Nat.mod_mul_mod, Nat.mul_assoc, Nat.mul_mod, Nt.inv_mul b h0, Nat.mul_one, Nat.mod_mod]

set_option maxHeartbeats 1000000 in
set_option maxRecDepth 100000 in
theorem walk_some (a b : Nat) (ha : a < 18446744073709551616) (hb : b < 18446744073709551616) (h0 : b % 18446744069414584321 ≠ 0) (w : World) :
    Calls Try.prog 8 #[.int .u64 a, .int .u64 b] w fun e w' => e = .returned (.bool true) ∧ Below w.heap.size w w' := by
  have I1 := Lib.hid (fun W => Gd.inv_some b hb h0 W)
  have D1 := Lib.hid (fun W => Gd.div_some a b ha hb h0 W)
  have O1 := Lib.hid (fun W => Gr.of b W)
  have O2 := Lib.hid (fun W => Gr.of a W)
  have G1 := Lib.hid (fun W => Gd.good_yes (Nt.inv b) (Nt.inv_lt b) W)
  have G2 := Lib.hid (fun W => Gd.good_yes (a * Nt.inv b % 18446744069414584321) (Nat.mod_lt _ (by decide)) W)
  have M1 := Lib.hid (fun W => Gr.mul (Nt.inv b) b hb W)
  have M2 := Lib.hid (fun W => Gr.mul (a * Nt.inv b % 18446744069414584321) b hb W)
  rw [Nt.inv_mul b h0] at M1
  rw [quot a b h0] at M2
  generalize a * Nt.inv b % 18446744069414584321 = q at *
  generalize Nt.inv b = i at *
  generalize a % 18446744069414584321 = a1 at *
  obtain ⟨o, ho⟩ : ∃ o, o = b % 18446744069414584321 := ⟨_, rfl⟩
  rw [← ho] at O1 h0
  have o0 : ((o : Int) == 0) = false := by simp; omega
  clear h0 ha hb ho
  go_enter Try.func8, Try.ntmps8
  go_wp2_with fail
  refine (Gd.awake _).mono ?_
  rintro e w1 ⟨rfl, h1⟩
  have k1 := h1
  go_wp2_with fail
  refine (I1.out _).mono ?_
  rintro e w2 ⟨rfl, h2⟩
  have k2 := k1.trans (h2.mono k1.size)
  clear h2 k1
  go_wp2_with fail
  refine (D1.out _).mono ?_
  rintro e w3 ⟨rfl, h3⟩
  have k3 := k2.trans (h3.mono k2.size)
  clear h3 k2
  go_wp2_with fail
  refine (O1.out _).mono ?_
  rintro e w4 ⟨rfl, rfl⟩
  go_wp2_with fail
  refine (G1.out _).mono ?_
  rintro e w5 ⟨rfl, rfl⟩
  go_wp2_with fail
  refine (G2.out _).mono ?_
  rintro e w6 ⟨rfl, rfl⟩
  go_wp2_with fail
  refine (M1.out _).mono ?_
  rintro e w7 ⟨rfl, rfl⟩
  go_wp2_with fail
  refine (M2.out _).mono ?_
  rintro e w8 ⟨rfl, rfl⟩
  go_wp2_with fail
  refine (O2.out _).mono ?_
  rintro e w9 ⟨rfl, rfl⟩
  go_wp2
  go_ret
  exact ⟨by simp [go_sem], k3⟩

theorem walk (a b : Nat) (ha : a < 18446744073709551616) (hb : b < 18446744073709551616) (w : World) :
    Calls Try.prog 8 #[.int .u64 a, .int .u64 b] w fun e w' => e = .returned (.bool true) ∧ Below w.heap.size w w' := by
  by_cases h0 : b % 18446744069414584321 = 0
  · exact walk_zero a b ha hb h0 w
  · exact walk_some a b ha hb h0 w

set_option maxRecDepth 100000 in
theorem lifted (os : Os) (started : os.Started) (H : Type) (enc : TypeId × Value → H) :
    ReturnsInHanded {} Try.checked os 8 .any (Rows.goldInversesSpec.pre6 enc Try.prog Try.f8 Rows.goldInversesRow.domain false) (Rows.goldInversesSpec.post enc Try.prog Try.f8 false true false false) := by
  refine returnsInHanded_of_change (C := Try.checked) Fr.own started (by kernel_rfl) Try.func8
    (ChangeSpec.witness6 (enc := enc) (C := Try.checked) false ⟨#[], #[.int .u64 0, .int .u64 0], []⟩ 8 (by kernel_rfl) (by kernel_rfl) (by kernel_rfl) (by kernel_rfl)) ?_
  intro W base args ds gs before hval0 hW hcnd _
  have hval : ∀ (j : Nat) t v, Try.f8.params[j]? = some t → args[j]? = some v → Value.okWide Try.prog W .any base t v := hval0
  have hW' := hW
  obtain ⟨p, q, hA0, hV, rfl, hfz, hnd⟩ := hW
  have hA : DataW.TrodAll enc Try.prog W 0 (fun _ => true) true Try.f8.params.toList args.toList ds p := hA0
  obtain ⟨rfl, rfl⟩ := trodVars_none hV
  rw [Try.params8] at hA hval
  obtain ⟨v0, vs0, d0, ds0, p0, q0, hargs, rfl, rfl, h0, r0⟩ := trodAll_cons hA
  obtain ⟨v1, vs1, d1, ds1, p1, q1, rfl, rfl, rfl, h1, r1⟩ := trodAll_cons r0
  obtain ⟨rfl, rfl, rfl⟩ := trodAll_nil r1
  obtain rfl : args = #[v0, v1] := by cases args; simp_all
  obtain ⟨a0, rfl, rfl, rfl, w0⟩ := open_int Try.underlying22 (hval 0 22 v0 rfl rfl) h0
  have b0 : 0 ≤ a0 ∧ a0 ≤ 18446744073709551615 := by simpa [Lit.wf, IntKind.min, IntKind.max, IntKind.signed, IntKind.bits] using w0
  obtain ⟨x0, rfl⟩ := Int.eq_ofNat_of_zero_le b0.1
  obtain ⟨a1, rfl, rfl, rfl, w1⟩ := open_int Try.underlying22 (hval 1 22 v1 rfl rfl) h1
  have b1 : 0 ≤ a1 ∧ a1 ≤ 18446744073709551615 := by simpa [Lit.wf, IntKind.min, IntKind.max, IntKind.signed, IntKind.bits] using w1
  obtain ⟨x1, rfl⟩ := Int.eq_ofNat_of_zero_le b1.1
  simp only [List.append_nil] at hW'
  refine (walk x0 x1 (by omega) (by omega) W).mono fun e W' ⟨he, hb⟩ => ?_
  subst he
  exact ⟨_, rfl, Fr.law_post (tb := 4) hW' hA0 rfl rfl rfl Try.underlying4 (by rw [Try.params8]; intro t ht; simp at ht; rcases ht with rfl | rfl; all_goals exact ⟨by kernel_rfl, of_decide_eq_true (by kernel_rfl)⟩) hb⟩

theorem proved : Rows.GoldInversesSaid :=
  OpenClaim.holds_of_wide 8 Try.f8 rfl rfl rfl rfl rfl rfl rfl ⟨rfl, rfl, rfl, rfl, rfl⟩ rfl rfl rfl rfl rfl (by kernel_rfl) Try.func8 (by kernel_rfl)
    (of_decide_eq_true (by kernel_rfl)) (by unfold Func.isWrapper; first | (rw [if_pos (by decide +kernel)]; kernel_rfl) | (rw [if_neg (by decide +kernel)]; exact ⟨rfl, rfl⟩))
    (fun os started H enc _ => lifted os started H enc)
end Go.Proofs.Ytkbhbnadkoainaa.goldInverses
