/- GoldOps: of every two words the law of sums, differences and products answers true, and changes nothing. No condition. -/
import Derived.Test.YtkbhbnadkoainaaFrame
import Derived.Test.YtkbhbnadkoainaaGoldP
set_option linter.unusedVariables false
namespace Go.Proofs.Ytkbhbnadkoainaa.goldOps
open Go.ChangeShapes Go.WideShapes Go.ChangeAt Go.RowKit
open Nm

theorem good_as (a : Nat) (w : World) : Calls Try.prog 18 #[.int .u64 a] w fun e w' => e = .returned (.bool (decide ((a : Int) < 18446744069414584321))) ∧ w = w' := by
  by_cases h : a < 18446744069414584321
  · have c := Gd.good_yes a h w
    rwa [show true = decide ((a : Int) < 18446744069414584321) from (decide_eq_true (by omega)).symm] at c
  · have c := Gd.good_no a h w
    rwa [show false = decide ((a : Int) < 18446744069414584321) from (decide_eq_false (by omega)).symm] at c
theorem sub_nought (a : Nat) (w : World) : Calls Try.prog 24 #[.int .u64 0, .int .u64 a] w fun e w' => e = .returned (.int .u64 (((18446744069414584321 - a % 18446744069414584321) % 18446744069414584321 : Nat) : Int)) ∧ w = w' := by
  have c := Gr.sub 0 a w
  rwa [Nat.zero_add] at c

set_option maxHeartbeats 1000000 in
set_option maxRecDepth 100000 in
theorem walk (a b : Nat) (ha : a < 18446744073709551616) (hb : b < 18446744073709551616) (w : World) :
    Calls Try.prog 4 #[.int .u64 a, .int .u64 b] w fun e w' => e = .returned (.bool true) ∧ Below w.heap.size w w' := by
  have G1 := Lib.hid (fun W => good_as a W)
  have O1 := Lib.hid (fun W => Gd.of a ha W)
  have O2 := Lib.hid (fun W => Gr.of a W)
  have A1 := Lib.hid (fun W => Gd.add a b ha hb W)
  have A2 := Lib.hid (fun W => Gr.add a b W)
  have S1 := Lib.hid (fun W => Gd.sub a b ha hb W)
  have S2 := Lib.hid (fun W => Gr.sub a b W)
  have N1 := Lib.hid (fun W => Gd.neg a ha W)
  have N2 := Lib.hid (fun W => sub_nought a W)
  have M1 := Lib.hid (fun W => Gd.mul a b ha hb W)
  have M2 := Lib.hid (fun W => Gr.mul a b hb W)
  clear ha hb
  generalize a * b % 18446744069414584321 = m at *
  generalize (18446744069414584321 - a % 18446744069414584321) % 18446744069414584321 = n at *
  generalize (a + (18446744069414584321 - b % 18446744069414584321)) % 18446744069414584321 = d at *
  generalize (a + b) % 18446744069414584321 = s at *
  generalize a % 18446744069414584321 = o at *
  go_enter Try.func4, Try.ntmps4
  go_wp2_with fail
  refine (Gd.awake _).mono ?_
  rintro e w1 ⟨rfl, h1⟩
  have k1 := h1
  go_wp2_with fail
  refine (G1.out _).mono ?_
  rintro e w2 ⟨rfl, rfl⟩
  go_wp2_with fail
  refine (O1.out _).mono ?_
  rintro e w3 ⟨rfl, rfl⟩
  go_wp2_with fail
  refine (O2.out _).mono ?_
  rintro e w4 ⟨rfl, rfl⟩
  go_wp2_with fail
  refine (A1.out _).mono ?_
  rintro e w5 ⟨rfl, rfl⟩
  go_wp2_with fail
  refine (A2.out _).mono ?_
  rintro e w6 ⟨rfl, rfl⟩
  go_wp2_with fail
  refine (S1.out _).mono ?_
  rintro e w7 ⟨rfl, rfl⟩
  go_wp2_with fail
  refine (S2.out _).mono ?_
  rintro e w8 ⟨rfl, rfl⟩
  go_wp2_with fail
  refine (N1.out _).mono ?_
  rintro e w9 ⟨rfl, rfl⟩
  go_wp2_with fail
  refine (N2.out _).mono ?_
  rintro e w10 ⟨rfl, rfl⟩
  go_wp2_with fail
  refine (M1.out _).mono ?_
  rintro e w11 ⟨rfl, h11⟩
  have k11 := k1.trans (h11.mono k1.size)
  clear h11 k1
  go_wp2_with fail
  refine (M2.out _).mono ?_
  rintro e w12 ⟨rfl, rfl⟩
  go_wp2
  go_ret
  exact ⟨by simp [go_sem], k11⟩

set_option maxRecDepth 100000 in
theorem lifted (os : Os) (started : os.Started) (H : Type) (enc : TypeId × Value → H) :
    ReturnsInHanded {} Try.checked os 4 .any (Rows.goldOpsSpec.pre6 enc Try.prog Try.f4 Rows.goldOpsRow.domain false) (Rows.goldOpsSpec.post enc Try.prog Try.f4 false true false false) := by
  refine returnsInHanded_of_change (C := Try.checked) Fr.own started (by kernel_rfl) Try.func4
    (ChangeSpec.witness6 (enc := enc) (C := Try.checked) false ⟨#[], #[.int .u64 0, .int .u64 0], []⟩ 8 (by kernel_rfl) (by kernel_rfl) (by kernel_rfl) (by kernel_rfl)) ?_
  intro W base args ds gs before hval0 hW hcnd _
  have hval : ∀ (j : Nat) t v, Try.f4.params[j]? = some t → args[j]? = some v → Value.okWide Try.prog W .any base t v := hval0
  have hW' := hW
  obtain ⟨p, q, hA0, hV, rfl, hfz, hnd⟩ := hW
  have hA : DataW.TrodAll enc Try.prog W 0 (fun _ => true) true Try.f4.params.toList args.toList ds p := hA0
  obtain ⟨rfl, rfl⟩ := trodVars_none hV
  rw [Try.params4] at hA hval
  obtain ⟨v0, vs0, d0, ds0, p0, q0, hargs, rfl, rfl, h0, r0⟩ := trodAll_cons hA
  obtain ⟨v1, vs1, d1, ds1, p1, q1, rfl, rfl, rfl, h1, r1⟩ := trodAll_cons r0
  obtain ⟨rfl, rfl, rfl⟩ := trodAll_nil r1
  obtain rfl : args = #[v0, v1] := by cases args; simp_all
  obtain ⟨a0, rfl, rfl, rfl, w0⟩ := open_int Try.underlying22 (hval 0 22 v0 rfl rfl) h0
  have b0 : 0 ≤ a0 ∧ a0 ≤ 18446744073709551615 := by simpa [Lit.wf, IntKind.min, IntKind.max, IntKind.signed, IntKind.bits] using w0
  obtain ⟨x0, rfl⟩ := Int.eq_ofNat_of_zero_le b0.1
  obtain ⟨a1, rfl, rfl, rfl, w1⟩ := open_int Try.underlying22 (hval 1 22 v1 rfl rfl) h1
  have b1 : 0 ≤ a1 ∧ a1 ≤ 18446744073709551615 := by simpa [Lit.wf, IntKind.min, IntKind.max, IntKind.signed, IntKind.bits] using w1
  obtain ⟨x1, rfl⟩ := Int.eq_ofNat_of_zero_le b1.1
  simp only [List.append_nil] at hW'
  refine (walk x0 x1 (by omega) (by omega) W).mono fun e W' ⟨he, hb⟩ => ?_
  subst he
  exact ⟨_, rfl, Fr.law_post (tb := 4) hW' hA0 rfl rfl rfl Try.underlying4 (by rw [Try.params4]; intro t ht; simp at ht; rcases ht with rfl | rfl; all_goals exact ⟨by kernel_rfl, of_decide_eq_true (by kernel_rfl)⟩) hb⟩

theorem proved : Rows.GoldOpsSaid :=
  OpenClaim.holds_of_wide 4 Try.f4 rfl rfl rfl rfl rfl rfl rfl ⟨rfl, rfl, rfl, rfl, rfl⟩ rfl rfl rfl rfl rfl (by kernel_rfl) Try.func4 (by kernel_rfl)
    (of_decide_eq_true (by kernel_rfl)) (by unfold Func.isWrapper; first | (rw [if_pos (by decide +kernel)]; kernel_rfl) | (rw [if_neg (by decide +kernel)]; exact ⟨rfl, rfl⟩))
    (fun os started H enc _ => lifted os started H enc)
end Go.Proofs.Ytkbhbnadkoainaa.goldOps
