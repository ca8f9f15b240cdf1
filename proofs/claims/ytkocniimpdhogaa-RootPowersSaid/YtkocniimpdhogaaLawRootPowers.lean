/- RootPowers: of every word and every number the law of powers answers true, and changes nothing. No condition. -/
import Derived.Test.YtkocniimpdhogaaFrame
import Derived.Test.YtkocniimpdhogaaRootW
set_option linter.unusedVariables false
namespace Go.Proofs.Ytkocniimpdhogaa.rootPowers
open Go.ChangeShapes Go.WideShapes Go.ChangeAt Go.RowKit
open Nm Ww

set_option maxHeartbeats 1000000 in
set_option maxRecDepth 100000 in
theorem walk_low (x : Nat) (n : Int) (hx : x < 18446744073709551616) (hn : n < 0) (w : World) :
    Calls Try.prog 3 #[.int .u64 x, .int .i64 n] w fun e w' => e = .returned (.bool true) ∧ Below w.heap.size w w' := by
  have C := Lib.hid (fun W => Rt.powers_low x n hn W)
  have n1 : ¬ 64 < n := by omega
  go_enter Try.func3, Try.ntmps3
  go_wp2_with fail
  refine (Rt.awake _).mono ?_
  rintro e w1 ⟨rfl, b1⟩
  go_wp2_with fail
  refine (C.out _).mono ?_
  rintro e w2 ⟨rfl, rfl⟩
  go_wp2
  go_ret
  exact ⟨by simp [go_sem], b1⟩

set_option maxHeartbeats 1000000 in
set_option maxRecDepth 100000 in
theorem walk_high (x : Nat) (n : Int) (hx : x < 18446744073709551616) (hn : 1048576 < n) (w : World) :
    Calls Try.prog 3 #[.int .u64 x, .int .i64 n] w fun e w' => e = .returned (.bool true) ∧ Below w.heap.size w w' := by
  have C := Lib.hid (fun W => Rt.powers_high x n hn W)
  have n1 : ¬ n < 0 := by omega
  have n2 : 64 < n := by omega
  have n3 : ¬ n ≤ 1048576 := by omega
  go_enter Try.func3, Try.ntmps3
  go_wp2_with fail
  refine (Rt.awake _).mono ?_
  rintro e w1 ⟨rfl, b1⟩
  go_wp2_with fail
  refine (C.out _).mono ?_
  rintro e w2 ⟨rfl, rfl⟩
  go_wp2
  go_ret
  exact ⟨by simp [go_sem], b1⟩

set_option maxHeartbeats 1000000 in
set_option maxRecDepth 100000 in
theorem walk_mid (x : Nat) (n : Int) (hx : x < 18446744073709551616) (hn : 64 < n) (hn2 : n ≤ 1048576) (w : World) :
    Calls Try.prog 3 #[.int .u64 x, .int .i64 n] w fun e w' => e = .returned (.bool true) ∧ Below w.heap.size w w' := by
  go_enter Try.func3, Try.ntmps3
  go_wp2_with fail
  refine (Rt.awake _).mono ?_
  rintro e w1 ⟨rfl, b1⟩
  go_wp2
  go_ret
  exact ⟨by simp [go_sem], b1⟩

def LRel (x n : Nat) (A : Option Addr) (g : Nat) (w : World) (v8 : Value) (wr : World) : Prop := ∃ i : Nat, i ≤ n ∧ v8 = .int .i64 (i : Int) ∧ Ws wr wr.heap.size A (Rr.pws x n) ∧ Wk wr g 0 n (fun i => x ^ i % 18446744069414584321) ∧ Below w.heap.size w wr
theorem pws_lt (x n i : Nat) (h : i < (Rr.pws x n).length) : (Rr.pws x n).getD i 0 < 18446744073709551616 := by
  rw [Rr.pws_at x n i (by rwa [Rr.pws_len] at h)]
  exact Nat.lt_trans (Nat.mod_lt _ (by decide)) (by decide)
theorem slice_of {w : World} {base : Nat} {v : Value} {x n : Nat} (h : Ow w base v (Rr.pws x n)) : ∃ A cap, v = .slice A n cap ∧ Ws w w.heap.size A (Rr.pws x n) := by
  obtain ⟨A, cap, e, r⟩ := h.ws (pws_lt x n)
  rw [Rr.pws_len] at e
  exact ⟨A, cap, e, r⟩
set_option maxHeartbeats 1000000 in
set_option maxRecDepth 100000 in
theorem walk_few (x n : Nat) (hx : x < 18446744073709551616) (hn : n ≤ 64) (w : World) :
    Calls Try.prog 3 #[.int .u64 x, .int .i64 (n : Int)] w fun e w' => e = .returned (.bool true) ∧ Below w.heap.size w w' := by
  have C := Lib.hid (fun W => Rt.powers x n hx (by omega) W)
  have D := Lib.hid (fun W => Rr.powers x n (by omega) W)
  have n1 : (n : Int) ≤ 64 := by omega
  go_enter Try.func3, Try.ntmps3
  go_wp2_with fail
  refine (Rt.awake _).mono ?_
  rintro e w1 ⟨rfl, b1⟩
  go_wp2_with fail
  refine (C.out _).mono ?_
  rintro e w2 ⟨rfl, K, hs, b2⟩
  have c2 := b1.trans (b2.mono b1.size)
  generalize w1.heap.size = g at *
  clear b1 b2
  go_wp2_with fail
  refine (D.out _).mono ?_
  rintro e w3 ⟨v, rfl, O, b3⟩
  have c3 := c2.trans (b3.mono c2.size)
  have K3 := K.step b3
  obtain ⟨A, cap, rfl, R⟩ := slice_of O
  clear C D O b3 c2 K hs
  go_wp2_with fail
  go_loopw [8] (fun v8 wr => LRel x n A g w v8 wr) (fun v8 _ => n - (intOf v8).toNat)
  case atStart => exact ⟨0, Nat.zero_le _, rfl, R, K3, c3⟩
  case round =>
    obtain ⟨i, hi, rfl, rq, Kq, hbq⟩ := hrel
    clear R K3 c3
    by_cases hlt : i < n
    · have i1 : (i : Int) < n := by omega
      obtain ⟨b, off, rfl, hB, c0⟩ := rq.at_ i (by rw [Rr.pws_len]; exact hlt)
      rw [Rr.pws_at x n i hlt] at c0
      have k0 := Kq.c i hlt
      rw [Nat.zero_add] at k0
      generalize x ^ i % 18446744069414584321 = y at *
      go_wp2_with fail
      go_quiet (fail)
      go_wp2_with fail
      go_roundw
      case rel => exact ⟨i + 1, by omega, rfl, rq.drewN _, Kq.drewN _, below_drewN hbq _⟩
      case measure => simp [intOf]; omega
    · have i1 : ¬ (i : Int) < n := by omega
      go_wp2
      go_ret
      exact ⟨by simp [go_sem], hbq⟩

theorem walk (x : Nat) (n : Int) (hx : x < 18446744073709551616) (w : World) :
    Calls Try.prog 3 #[.int .u64 x, .int .i64 n] w fun e w' => e = .returned (.bool true) ∧ Below w.heap.size w w' := by
  by_cases n0 : n < 0
  · exact walk_low x n hx n0 w
  by_cases n1 : 1048576 < n
  · exact walk_high x n hx n1 w
  by_cases n2 : 64 < n
  · exact walk_mid x n hx n2 (by omega) w
  obtain ⟨j, rfl⟩ := Int.eq_ofNat_of_zero_le (show 0 ≤ n by omega)
  exact walk_few x j hx (by omega) w

set_option maxRecDepth 100000 in
theorem lifted (os : Os) (started : os.Started) (H : Type) (enc : TypeId × Value → H) :
    ReturnsInHanded {} Try.checked os 3 .any (Rows.rootPowersSpec.pre6 enc Try.prog Try.f3 Rows.rootPowersRow.domain false) (Rows.rootPowersSpec.post enc Try.prog Try.f3 false true false false) := by
  refine returnsInHanded_of_change (C := Try.checked) Fr.own started (by kernel_rfl) Try.func3
    (ChangeSpec.witness6 (enc := enc) (C := Try.checked) false ⟨#[], #[.int .u64 0, .int .i64 0], []⟩ 8 (by kernel_rfl) (by kernel_rfl) (by kernel_rfl) (by kernel_rfl)) ?_
  intro W base args ds gs before hval0 hW hcnd _
  have hval : ∀ (j : Nat) t v, Try.f3.params[j]? = some t → args[j]? = some v → Value.okWide Try.prog W .any base t v := hval0
  have hW' := hW
  obtain ⟨p, q, hA0, hV, rfl, hfz, hnd⟩ := hW
  have hA : DataW.TrodAll enc Try.prog W 0 (fun _ => true) true Try.f3.params.toList args.toList ds p := hA0
  obtain ⟨rfl, rfl⟩ := trodVars_none hV
  rw [Try.params3] at hA hval
  obtain ⟨v0, vs0, d0, ds0, p0, q0, hargs, rfl, rfl, h0, r0⟩ := trodAll_cons hA
  obtain ⟨v1, vs1, d1, ds1, p1, q1, rfl, rfl, rfl, h1, r1⟩ := trodAll_cons r0
  obtain ⟨rfl, rfl, rfl⟩ := trodAll_nil r1
  obtain rfl : args = #[v0, v1] := by cases args; simp_all
  obtain ⟨a0, rfl, rfl, rfl, w0⟩ := open_int Try.underlying22 (hval 0 22 v0 rfl rfl) h0
  have b0 : 0 ≤ a0 ∧ a0 ≤ 18446744073709551615 := by simpa [Lit.wf, IntKind.min, IntKind.max, IntKind.signed, IntKind.bits] using w0
  obtain ⟨x0, rfl⟩ := Int.eq_ofNat_of_zero_le b0.1
  obtain ⟨x1, rfl, rfl, rfl, w1⟩ := open_int Try.underlying3 (hval 1 3 v1 rfl rfl) h1
  have b1 : -9223372036854775808 ≤ x1 ∧ x1 ≤ 9223372036854775807 := by simpa [Lit.wf, IntKind.min, IntKind.max, IntKind.signed, IntKind.bits] using w1
  simp only [List.append_nil] at hW'
  refine (walk x0 x1 (by omega) W).mono fun e W' ⟨he, hb⟩ => ?_
  subst he
  exact ⟨_, rfl, Fr.law_post (tb := 4) hW' hA0 rfl rfl rfl Try.underlying4 (by rw [Try.params3]; intro t ht; simp at ht; rcases ht with rfl | rfl; all_goals exact ⟨by kernel_rfl, of_decide_eq_true (by kernel_rfl)⟩) hb⟩

theorem proved : Rows.RootPowersSaid :=
  OpenClaim.holds_of_wide 3 Try.f3 rfl rfl rfl rfl rfl rfl rfl ⟨rfl, rfl, rfl, rfl, rfl⟩ rfl rfl rfl rfl rfl (by kernel_rfl) Try.func3 (by kernel_rfl)
    (of_decide_eq_true (by kernel_rfl)) (by unfold Func.isWrapper; first | (rw [if_pos (by decide +kernel)]; kernel_rfl) | (rw [if_neg (by decide +kernel)]; exact ⟨rfl, rfl⟩))
    (fun os started H enc _ => lifted os started H enc)
end Go.Proofs.Ytkocniimpdhogaa.rootPowers
