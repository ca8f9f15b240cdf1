/- DiskMakes: of every two numbers the law answers true, and changes nothing. -/
import Derived.Test.YtfjlhbamldgklaaFrame
import Derived.Test.YtfjlhbamldgklaaDiskP
import Derived.Test.YtfjlhbamldgklaaDiskO
import Derived.Deep.DeepCutAuto
set_option linter.unusedVariables false
namespace Go.Proofs.Ytfjlhbamldgklaa.diskMakes
open Go.ChangeShapes Go.WideShapes Go.ChangeAt Go.RowKit
open Ww Dk Lib

theorem sz_no {y : Int} (h1 : ¬ y = 32) (h2 : ¬ y = 64) (h3 : ¬ y = 128) (h4 : ¬ y = 256) (h5 : ¬ y = 512) (h6 : ¬ y = 1024) (h7 : ¬ y = 2048) (h8 : ¬ y = 4096) : szi y = false := by
  by_cases h0 : 0 ≤ y
  · obtain ⟨a, rfl⟩ := Int.eq_ofNat_of_zero_le h0
    simp [szi, szb]
    omega
  · simp [szi, h0]
theorem nl_none {p : Nat → Bool} : ∀ n, (∀ i, i < n → p i = false) → (nl p n).length = 0
  | 0, _ => rfl
  | n + 1, h => by
    simp only [nl]
    rw [h n (by omega), List.length_append, nl_none n (fun i hi => h i (by omega))]
    rfl
theorem eq_ops (W : World) : (binOp .eql 34 (.agg #[.int .i64 0, .int .i64 0, .int .i64 0]) (.agg #[.int .i64 0, .int .i64 0, .int .i64 0])).run Try.prog W = .ok (.bool true) W := by
  simp [go_sem]
theorem build_ops (W : World) : (Instr.build 34 #[]).run Try.prog W = .ok (.agg #[.int .i64 0, .int .i64 0, .int .i64 0]) W := by kernel_rfl
set_option maxHeartbeats 2000000 in
set_option maxRecDepth 100000 in
theorem walk (x y : Int) (w : World) : Calls Try.prog 4 #[.int .i64 x, .int .i64 y] w fun e w' => e = .returned (.bool true) ∧ Below w.heap.size w w' := by
  have AW := Lib.hid (awake w)
  go_enter Try.func4, Try.ntmps4
  go_upto_region 3 with (go_at_call 6; refine AW.out.mono ?_; rintro e w1 ⟨rfl, b1⟩)
  clear AW
  go_cut [5] (fun v5 wx => v5 = .bool (szi y) ∧ wx = w1)
  case first =>
    clear b1
    by_cases h32 : y = 32
    · subst h32
      go_wp2_with fail
      go_meet
      exact ⟨rfl, rfl⟩
    by_cases h64 : y = 64
    · subst h64
      go_wp2_with fail
      go_meet
      exact ⟨rfl, rfl⟩
    by_cases h128 : y = 128
    · subst h128
      go_wp2_with fail
      go_meet
      exact ⟨rfl, rfl⟩
    by_cases h256 : y = 256
    · subst h256
      go_wp2_with fail
      go_meet
      exact ⟨rfl, rfl⟩
    by_cases h512 : y = 512
    · subst h512
      go_wp2_with fail
      go_meet
      exact ⟨rfl, rfl⟩
    by_cases h1024 : y = 1024
    · subst h1024
      go_wp2_with fail
      go_meet
      exact ⟨rfl, rfl⟩
    by_cases h2048 : y = 2048
    · subst h2048
      go_wp2_with fail
      go_meet
      exact ⟨rfl, rfl⟩
    by_cases h4096 : y = 4096
    · subst h4096
      go_wp2_with fail
      go_meet
      exact ⟨rfl, rfl⟩
    have e : szi y = false := sz_no h32 h64 h128 h256 h512 h1024 h2048 h4096
    replace e := Lib.hid e
    go_wp2_with fail
    go_meet
    exact ⟨by rw [e.out]; simp [*], rfl⟩
  case rest =>
    obtain ⟨rfl, rfl⟩ := hcut
    cases hb : szi y with
    | false =>
      have NN := Lib.hid (new_no x y (Or.inr (Or.inr hb)) wc)
      have E := Lib.hid b1
      clear b1 hb
      go_wp2_with (go_at_call 8; refine NN.out.mono ?_; rintro e w2 ⟨rfl, rfl⟩)
      exact bodyPost_ret (v := .bool true) (by simp [results, Try.results4, go_sem]) rfl ⟨rfl, E.out⟩
    | true =>
      by_cases h1 : x < 1
      · have h2 : ¬ (1000 : Int) < x := by omega
        have NN := Lib.hid (new_no x y (Or.inl h1) wc)
        have E := Lib.hid b1
        clear b1 hb
        go_wp2_with (go_at_call 8; refine NN.out.mono ?_; rintro e w2 ⟨rfl, rfl⟩)
        exact bodyPost_ret (v := .bool true) (by simp [results, Try.results4, go_sem]) rfl ⟨rfl, E.out⟩
      by_cases h2 : 1048576 < x
      · have h3 : ¬ x ≤ (1048576 : Int) := by omega
        have h4 : (1000 : Int) < x := by omega
        have NN := Lib.hid (new_no x y (Or.inr (Or.inl h2)) wc)
        have E := Lib.hid b1
        clear b1 hb
        go_wp2_with (go_at_call 8; refine NN.out.mono ?_; rintro e w2 ⟨rfl, rfl⟩)
        exact bodyPost_ret (v := .bool true) (by simp [results, Try.results4, go_sem]) rfl ⟨rfl, E.out⟩
      have h3 : x ≤ (1048576 : Int) := by omega
      by_cases h4 : 1000 < x
      · have E := Lib.hid b1
        clear b1 hb
        go_wp2_with fail
        exact bodyPost_ret (v := .bool true) (by simp [results, Try.results4, go_sem]) rfl ⟨rfl, E.out⟩
      have hn : 1 ≤ x.toNat ∧ x.toNat ≤ 1000 := by omega
      obtain ⟨n, hx⟩ : ∃ n : Nat, n = x.toNat := ⟨_, rfl⟩
      obtain rfl : x = (n : Int) := by omega
      rw [← hx] at hn
      have hy : szb y.toNat = true ∧ 0 ≤ y := by
        simp [szi] at hb
        exact ⟨hb.2, hb.1⟩
      obtain ⟨z, hz⟩ : ∃ z : Nat, z = y.toNat := ⟨_, rfl⟩
      obtain rfl : y = (z : Int) := by omega
      rw [← hz] at hy
      have NW := Lib.hid (new_ok n z hn.1 hn.2 hy.1 wc)
      have bo := build_ops
      have eo := eq_ops
      have en := fun (a : Addr) (W : World) => (show (binOp .neq 25 (.pointer (some a)) (.pointer none)).run Try.prog W = .ok (.bool true) W from by kernel_rfl)
      replace b1 := Lib.hid b1
      clear hx hz hy hn hb
      go_upto_region 7 with (go_at_call 8; refine NW.out.mono ?_; rintro e w2 ⟨L, rfl, D2, _, b2⟩)
      clear NW
      have S1 := Lib.hid (sectors D2)
      have S2 := Lib.hid (size_ D2)
      have S3 := down D2
      rw [show (dm0 z).down = false from rfl] at S3
      replace S3 := Lib.hid S3
      have S4 := Lib.hid ((dirty D2 (by omega)).mono fun _ _ x => x.reads)
      have S5 := Lib.hid (fun w3 (b3 : Below w2.heap.size w2 w3) => count (D2.below b3))
      have l0 := Lib.hid (nl_none (p := fun i => ((dm0 z).f i).dirty) n fun i _ => rfl)
      replace b2 := Lib.hid b2
      obtain ⟨l, hl⟩ : ∃ l, l = nl (fun i => ((dm0 z).f i).dirty) n := ⟨_, rfl⟩
      rw [← hl] at S4 l0
      clear D2 hl
      obtain ⟨p, s, t, m⟩ := L
      go_wp2_with (first
        | (go_at_call 9; refine S1.out.mono ?_; rintro e w3 ⟨rfl, rfl⟩)
        | (go_at_call 10; refine S2.out.mono ?_; rintro e w3 ⟨rfl, rfl⟩)
        | (go_at_call 15; refine S3.out.mono ?_; rintro e w3 ⟨rfl, rfl⟩)
        | (go_at_call 16; refine S4.out.mono ?_; rintro e w3 ⟨A, c, rfl, _, b3⟩; rw [l0.out]; have S6 := Lib.hid (S5.out w3 b3); replace b3 := Lib.hid b3; clear S5)
        | (go_at_call 17; refine S6.out.mono ?_; rintro e w4 ⟨rfl, b4⟩; have E := Lib.hid (((b1.out.trans (b2.out.mono b1.out.size)).trans (b3.out.mono (Nat.le_trans b1.out.size b2.out.size))).trans (b4.mono (Nat.le_trans (Nat.le_trans b1.out.size b2.out.size) b3.out.size))); clear b4 b1 b2 b3 S6))
      exact bodyPost_ret (v := .bool true) (by simp [results, Try.results4, go_sem]) rfl ⟨rfl, E.out⟩

set_option maxRecDepth 100000 in
theorem lifted (os : Os) (started : os.Started) (H : Type) (enc : TypeId × Value → H) :
    ReturnsInHanded {} Try.checked os 4 .any (Rows.diskMakesSpec.pre6 enc Try.prog Try.f4 Rows.diskMakesRow.domain false) (Rows.diskMakesSpec.post enc Try.prog Try.f4 false true false false) := by
  refine returnsInHanded_of_change (C := Try.checked) Fr.own started (by kernel_rfl) Try.func4
    (ChangeSpec.witness6 (enc := enc) (C := Try.checked) false ⟨#[], #[.int .i64 0, .int .i64 0], []⟩ 8 (by kernel_rfl) (by kernel_rfl) (by kernel_rfl) (by kernel_rfl)) ?_
  intro W base args ds gs before hval0 hW hcnd _
  have hval : ∀ (j : Nat) t v, Try.f4.params[j]? = some t → args[j]? = some v → Value.okWide Try.prog W .any base t v := hval0
  have hW' := hW
  obtain ⟨p, q, hA0, hV, rfl, hfz, hnd⟩ := hW
  have hA : DataW.TrodAll enc Try.prog W 0 (fun _ => true) true Try.f4.params.toList args.toList ds p := hA0
  obtain ⟨rfl, rfl⟩ := trodVars_none hV
  rw [Try.params4] at hA hval
  obtain ⟨v0, vs0, d0, ds0, p0, q0, hargs, rfl, rfl, h0, r0⟩ := trodAll_cons hA
  obtain ⟨v1, vs1, d1, ds1, p1, q1, rfl, rfl, rfl, h1, r1⟩ := trodAll_cons r0
  obtain ⟨rfl, rfl, rfl⟩ := trodAll_nil r1
  obtain rfl : args = #[v0, v1] := by cases args; simp_all
  obtain ⟨x0, rfl, rfl, rfl, w0⟩ := open_int Try.underlying3 (hval 0 3 v0 rfl rfl) h0
  have b0 : -9223372036854775808 ≤ x0 ∧ x0 ≤ 9223372036854775807 := by simpa [Lit.wf, IntKind.min, IntKind.max, IntKind.signed, IntKind.bits] using w0
  obtain ⟨x1, rfl, rfl, rfl, w1⟩ := open_int Try.underlying3 (hval 1 3 v1 rfl rfl) h1
  have b1 : -9223372036854775808 ≤ x1 ∧ x1 ≤ 9223372036854775807 := by simpa [Lit.wf, IntKind.min, IntKind.max, IntKind.signed, IntKind.bits] using w1
  simp only [List.append_nil] at hW'
  refine (walk x0 x1  W).mono fun e W' ⟨he, hb⟩ => ?_
  subst he
  exact ⟨_, rfl, Fr.law_post (tb := 4) hW' hA0 rfl rfl rfl Try.underlying4 (by rw [Try.params4]; intro t ht; simp at ht; rcases ht with rfl | rfl; all_goals exact ⟨by kernel_rfl, of_decide_eq_true (by kernel_rfl)⟩) hb⟩

theorem proved : Rows.DiskMakesSaid :=
  OpenClaim.holds_of_wide 4 Try.f4 rfl rfl rfl rfl rfl rfl rfl ⟨rfl, rfl, rfl, rfl, rfl⟩ rfl rfl rfl rfl rfl (by kernel_rfl) Try.func4 (by kernel_rfl)
    (of_decide_eq_true (by kernel_rfl)) (by unfold Func.isWrapper; first | (rw [if_pos (by decide +kernel)]; kernel_rfl) | (rw [if_neg (by decide +kernel)]; exact ⟨rfl, rfl⟩))
    (fun os started H enc _ => lifted os started H enc)
end Go.Proofs.Ytfjlhbamldgklaa.diskMakes
