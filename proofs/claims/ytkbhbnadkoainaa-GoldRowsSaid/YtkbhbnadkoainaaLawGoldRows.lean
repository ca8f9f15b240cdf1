/- GoldRows: of every two rows of words the law of sums, products and sums of products answers true, and changes nothing. No condition. -/
import Derived.Test.YtkbhbnadkoainaaFrame
import Derived.Test.YtkbhbnadkoainaaGoldS
import Derived.Deep.QuietTactic
import Derived.BigQuiet
set_option linter.unusedVariables false
namespace Go.Proofs.Ytkbhbnadkoainaa.goldRows
open Go.ChangeShapes Go.WideShapes Go.ChangeAt Go.RowKit
open Nm Ww

set_option maxHeartbeats 400000 in
theorem walk_long (A B : Option Addr) (n m ca cb : Nat) (h : 20 < n ∨ 20 < m) (w : World) :
    Calls Try.prog 9 #[.slice A n ca, .slice B m cb] w fun e w' => e = .returned (.bool true) ∧ Below w.heap.size w w' := by
  by_cases h1 : 20 < n
  · have g1 : (20 : Int) < n := by omega
    clear h
    go_enter Try.func9, Try.ntmps9
    go_wp2_with fail
    refine (Gd.awake _).mono ?_
    rintro e w1 ⟨rfl, hb⟩
    go_wp2
    go_ret
    exact ⟨rfl, hb⟩
  · have g1 : decide ((20 : Int) < n) = false := decide_eq_false (by omega)
    have g2 : (20 : Int) < m := by omega
    clear h h1
    go_enter Try.func9, Try.ntmps9
    go_wp2_with fail
    refine (Gd.awake _).mono ?_
    rintro e w1 ⟨rfl, hb⟩
    go_wp2
    go_ret
    exact ⟨rfl, hb⟩

def SRel (xs : List Nat) (v5 v6 v7 : Value) : Prop := ∃ i s p : Nat, i ≤ xs.length ∧ v7 = .int .i64 (i : Int) ∧ s = (xs.take i).sum % 18446744069414584321 ∧ p = Nt.prod (xs.take i) % 18446744069414584321 ∧ v5 = .int .u64 s ∧ v6 = .int .u64 p

def TRel (xs ys : List Nat) (A B : Option Addr) (w : World) (v10 v11 : Value) (wr : World) : Prop := ∃ i t : Nat, i ≤ xs.length ∧ v11 = .int .i64 (i : Int) ∧ t = Gd.dsum xs ys i % 18446744069414584321 ∧ v10 = .int .u64 t ∧ Ws wr wr.heap.size A xs ∧ Ws wr wr.heap.size B ys ∧ Below w.heap.size w wr
theorem dstep (xs ys : List Nat) (i : Nat) : (Gd.dsum xs ys i % 18446744069414584321 + xs.getD i 0 * ys.getD i 0 % 18446744069414584321) % 18446744069414584321 = Gd.dsum xs ys (i + 1) % 18446744069414584321 := by rw [Gd.dsum_succ, ← Nat.add_mod]

set_option maxHeartbeats 2000000 in
set_option maxRecDepth 100000 in
theorem walk_short (A B : Option Addr) (ca cb : Nat) (xs ys : List Nat) (hx : xs.length ≤ 20) (hy : ys.length ≤ 20) (w : World) (hra : Ws w w.heap.size A xs) (hrb : Ws w w.heap.size B ys) :
    Calls Try.prog 9 #[.slice A xs.length ca, .slice B ys.length cb] w fun e w' => e = .returned (.bool true) ∧ Below w.heap.size w w' := by
  have g1 : decide ((20 : Int) < xs.length) = false := decide_eq_false (by omega)
  have g2 : decide ((20 : Int) < ys.length) = false := decide_eq_false (by omega)
  go_enter Try.func9, Try.ntmps9
  go_wp2_with fail
  refine (Gd.awake _).mono ?_
  rintro e w1 ⟨rfl, hb⟩
  have ra := hra.step hb
  have rb := hrb.step hb
  clear hra hrb
  go_wp2_with fail
  go_loop [5, 6, 7] (fun v5 v6 v7 => SRel xs v5 v6 v7) (fun _ _ v7 => xs.length - (intOf v7).toNat)
  case atStart => exact ⟨0, 0, 1, Nat.zero_le _, rfl, rfl, rfl, rfl, rfl⟩
  case round =>
    obtain ⟨i, s, p, hi, rfl, hs, hp, rfl, rfl⟩ := hrel
    by_cases hlt : i < xs.length
    · have i1 : (i : Int) < xs.length := by omega
      obtain ⟨b, off, rfl, hB, c0⟩ := ra.at_ i hlt
      have hxl := ra.lt i hlt
      have e1 := Lib.hid (Gd.sum_step xs i hlt)
      have e2 := Lib.hid (Gd.prod_step xs i hlt)
      rw [← hs] at e1
      rw [← hp] at e2
      clear hs hp
      generalize xs.getD i 0 = x at *
      have C := Lib.hid (fun W => Gr.add s x W)
      have M := Lib.hid (fun W => Gr.mul p x hxl W)
      obtain ⟨s', hs'⟩ : ∃ s', s' = (s + x) % 18446744069414584321 := ⟨_, rfl⟩
      obtain ⟨p', hp'⟩ : ∃ p', p' = p * x % 18446744069414584321 := ⟨_, rfl⟩
      rw [← hs'] at C e1
      rw [← hp'] at M e2
      clear hs' hp' hxl
      go_wp2_with fail
      refine (C.out _).mono ?_
      rintro e w2 ⟨rfl, rfl⟩
      go_wp2_with fail
      refine (M.out _).mono ?_
      rintro e w2 ⟨rfl, rfl⟩
      go_wp2_with fail
      go_round
      case rel => exact ⟨i + 1, s', p', by omega, rfl, e1.out, e2.out, rfl, rfl⟩
      case measure => simp [intOf]; omega
    · have i1 : ¬ (i : Int) < xs.length := by omega
      rw [List.take_of_length_le (by omega)] at hs hp
      have S1 := Lib.hid (Gd.sum A ca xs (by omega) w1 ra)
      have S2 := Lib.hid (Gd.product A ca xs (by omega) w1 ra)
      rw [← hs] at S1
      rw [← hp] at S2
      clear hs hp
      go_wp2_with fail
      refine S1.out.mono ?_
      rintro e w2 ⟨rfl, rfl⟩
      go_wp2_with fail
      refine S2.out.mono ?_
      rintro e w2 ⟨rfl, h2⟩
      have ra2 := ra.step h2
      have rb2 := rb.step h2
      have hb2 := hb.trans (h2.mono hb.size)
      clear ra rb h2 hb
      by_cases hxy : xs.length = ys.length
      · have DD := Lib.hid (Gd.dot_like A B ca cb xs ys hxy.symm (by omega) w2 ra2 rb2)
        have nq : ((xs.length : Int) != (ys.length : Int)) = false := by simp; omega
        have HL := Lib.hid hxy
        obtain ⟨r, hr⟩ : ∃ r, r = Gd.dsum xs ys xs.length % 18446744069414584321 := ⟨_, rfl⟩
        rw [← hr] at DD
        have HR := Lib.hid hr
        clear hr hxy
        go_wp2_with fail
        refine DD.out.mono ?_
        rintro e w3 ⟨rfl, h3⟩
        have ra3 := ra2.step h3
        have rb3 := rb2.step h3
        have hb3 := hb2.trans (h3.mono hb2.size)
        clear ra2 rb2 h3 hb2 S1 S2
        go_wp2_with fail
        go_loopw [10, 11] (fun v10 v11 wr => TRel xs ys A B w v10 v11 wr) (fun _ v11 _ => xs.length - (intOf v11).toNat)
        case atStart => exact ⟨0, 0, Nat.zero_le _, rfl, rfl, rfl, ra3, rb3, hb3⟩
        case round =>
          obtain ⟨i, t, hi, rfl, ht, rfl, qa, qb, hbl⟩ := hrel
          clear ra3 rb3
          by_cases hlt : i < xs.length
          · have i1 : (i : Int) < xs.length := by omega
            have hlt2 : i < ys.length := by rw [← HL.out]; exact hlt
            have i2 : (i : Int) < ys.length := by omega
            obtain ⟨b1, o1, rfl, hB1, c1⟩ := qa.at_ i hlt
            obtain ⟨b2, o2, rfl, hB2, c2⟩ := qb.at_ i hlt2
            have hyl := qb.lt i hlt2
            have e1 := Lib.hid (dstep xs ys i)
            rw [← ht] at e1
            clear ht
            generalize xs.getD i 0 = x at *
            generalize ys.getD i 0 = y at *
            have M := Lib.hid (fun W => Gr.mul x y hyl W)
            obtain ⟨m, hm⟩ : ∃ m, m = x * y % 18446744069414584321 := ⟨_, rfl⟩
            rw [← hm] at M e1
            have C := Lib.hid (fun W => Gr.add t m W)
            obtain ⟨t', ht'⟩ : ∃ t', t' = (t + m) % 18446744069414584321 := ⟨_, rfl⟩
            rw [← ht'] at C e1
            clear hm ht' hyl
            go_wp2_with fail
            go_quiet ((first
              | (go_at_call 27; exact qs (M.out _))
              | (go_at_call 22; exact qs (C.out _))))
            go_wp2_with fail
            go_roundw
            case rel => exact ⟨i + 1, t', by omega, rfl, e1.out, rfl, qa.drewN _, qb.drewN _, below_drewN hbl _⟩
            case measure => simp [intOf]; omega
          · have i1 : ¬ (i : Int) < xs.length := by omega
            obtain rfl : i = xs.length := by omega
            obtain rfl : r = t := HR.out.trans ht.symm
            clear ht qa qb
            go_wp2
            go_ret
            exact ⟨by simp [go_sem], hbl⟩
      · have DD := Lib.hid (Gd.dot_odd A B xs.length ys.length ca cb hxy w2)
        have nq : ((xs.length : Int) != (ys.length : Int)) = true := by simp; omega
        clear hxy
        go_wp2_with fail
        refine DD.out.mono ?_
        rintro e w3 ⟨rfl, rfl⟩
        go_wp2
        go_ret
        exact ⟨by simp [go_sem], hb2⟩

theorem walk (A : Option Addr) (ca : Nat) (xs : List Nat) (B : Option Addr) (cb : Nat) (ys : List Nat) (w : World) (hra : Ws w w.heap.size A xs) (hrb : Ws w w.heap.size B ys) :
    Calls Try.prog 9 #[.slice A xs.length ca, .slice B ys.length cb] w fun e w' => e = .returned (.bool true) ∧ Below w.heap.size w w' := by
  by_cases h : 20 < xs.length ∨ 20 < ys.length
  · exact walk_long A B _ _ ca cb h w
  · exact walk_short A B ca cb xs ys (by omega) (by omega) w hra hrb

set_option maxRecDepth 100000 in
theorem lifted (os : Os) (started : os.Started) (H : Type) (enc : TypeId × Value → H) :
    ReturnsInHanded {} Try.checked os 9 .any (Rows.goldRowsSpec.pre6 enc Try.prog Try.f9 Rows.goldRowsRow.domain false) (Rows.goldRowsSpec.post enc Try.prog Try.f9 false true false false) := by
  refine returnsInHanded_of_change (C := Try.checked) Fr.own started (by kernel_rfl) Try.func9
    (ChangeSpec.witness6 (enc := enc) (C := Try.checked) false ⟨#[], #[.slice none 0 0, .slice none 0 0], []⟩ 8 (by kernel_rfl) (by kernel_rfl) (by kernel_rfl) (by kernel_rfl)) ?_
  intro W base args ds gs before hval0 hW hcnd _
  have hval : ∀ (j : Nat) t v, Try.f9.params[j]? = some t → args[j]? = some v → Value.okWide Try.prog W .any base t v := hval0
  have hW' := hW
  obtain ⟨p, q, hA0, hV, rfl, hfz, hnd⟩ := hW
  have hA : DataW.TrodAll enc Try.prog W 0 (fun _ => true) true Try.f9.params.toList args.toList ds p := hA0
  obtain ⟨rfl, rfl⟩ := trodVars_none hV
  rw [Try.params9] at hA hval
  obtain ⟨v0, vs0, d0, ds0, p0, q0, hargs, rfl, rfl, h0, r0⟩ := trodAll_cons hA
  obtain ⟨v1, vs1, d1, ds1, p1, q1, rfl, rfl, rfl, h1, r1⟩ := trodAll_cons r0
  obtain ⟨rfl, rfl, rfl⟩ := trodAll_nil r1
  obtain rfl : args = #[v0, v1] := by cases args; simp_all
  obtain ⟨A0, n0, c0, rfl⟩ := okWide_slice Try.underlying45 (hval 0 45 v0 rfl rfl)
  obtain ⟨fuel0, hf0⟩ := h0
  obtain ⟨xs0, rfl, lc0, lm0, R0⟩ := Ww.open_words hf0
  obtain ⟨A1, n1, c1, rfl⟩ := okWide_slice Try.underlying45 (hval 1 45 v1 rfl rfl)
  obtain ⟨fuel1, hf1⟩ := h1
  obtain ⟨xs1, rfl, lc1, lm1, R1⟩ := Ww.open_words hf1
  simp only [List.append_nil] at hW' hA0
  refine (walk A0 c0 xs0 A1 c1 xs1 W R0 R1).mono fun e W' ⟨he, hb⟩ => ?_
  subst he
  exact ⟨_, rfl, Fr.law_post (tb := 4) hW' hA0 rfl rfl rfl Try.underlying4 (by rw [Try.params9]; intro t ht; simp at ht; rcases ht with rfl | rfl; all_goals exact ⟨by kernel_rfl, of_decide_eq_true (by kernel_rfl)⟩) hb⟩

theorem proved : Rows.GoldRowsSaid :=
  OpenClaim.holds_of_wide 9 Try.f9 rfl rfl rfl rfl rfl rfl rfl ⟨rfl, rfl, rfl, rfl, rfl⟩ rfl rfl rfl rfl rfl (by kernel_rfl) Try.func9 (by kernel_rfl)
    (of_decide_eq_true (by kernel_rfl)) (by unfold Func.isWrapper; first | (rw [if_pos (by decide +kernel)]; kernel_rfl) | (rw [if_neg (by decide +kernel)]; exact ⟨rfl, rfl⟩))
    (fun os started H enc _ => lifted os started H enc)
end Go.Proofs.Ytkbhbnadkoainaa.goldRows
