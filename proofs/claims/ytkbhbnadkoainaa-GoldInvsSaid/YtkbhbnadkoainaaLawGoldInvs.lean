/- GoldInvs: of every row of words the law of the inverses of a row answers true, and changes nothing. No condition. -/
import Derived.Test.YtkbhbnadkoainaaFrame
import Derived.Test.YtkbhbnadkoainaaGoldI
import Derived.Deep.QuietTactic
import Derived.BigQuiet
set_option linter.unusedVariables false
namespace Go.Proofs.Ytkbhbnadkoainaa.goldInvs
open Go.ChangeShapes Go.WideShapes Go.ChangeAt Go.RowKit
open Nm Ww

set_option maxHeartbeats 400000 in
theorem walk_long (A : Option Addr) (n ca : Nat) (h : 20 < n) (w : World) :
    Calls Try.prog 10 #[.slice A n ca] w fun e w' => e = .returned (.bool true) ∧ Below w.heap.size w w' := by
  have g1 : (20 : Int) < n := by omega
  clear h
  go_enter Try.func10, Try.ntmps10
  go_wp2_with fail
  refine (Gd.awake _).mono ?_
  rintro e w1 ⟨rfl, hb⟩
  go_wp2
  go_ret
  exact ⟨rfl, hb⟩

/-- Either each word has an inverse, or there is a first one that has none. -/
theorem first_none (xs : List Nat) : ∀ n, (∀ i, i < n → xs.getD i 0 % 18446744069414584321 ≠ 0) ∨ ∃ k, k < n ∧ xs.getD k 0 % 18446744069414584321 = 0 ∧ ∀ i, i < k → xs.getD i 0 % 18446744069414584321 ≠ 0
  | 0 => Or.inl fun i hi => by omega
  | n + 1 => by
    rcases first_none xs n with h | ⟨k, h1, h2, h3⟩
    · by_cases c : xs.getD n 0 % 18446744069414584321 = 0
      · exact Or.inr ⟨n, by omega, c, h⟩
      · refine Or.inl fun i hi => ?_
        by_cases e : i = n
        · subst e; exact c
        · exact h i (by omega)
    · exact Or.inr ⟨k, by omega, h2, h3⟩

set_option maxHeartbeats 2000000 in
set_option maxRecDepth 100000 in
theorem walk_none (A : Option Addr) (ca : Nat) (xs : List Nat) (k : Nat) (hx : xs.length ≤ 20) (hk : k < xs.length) (h0 : xs.getD k 0 % 18446744069414584321 = 0) (hne : ∀ i, i < k → xs.getD i 0 % 18446744069414584321 ≠ 0) (w : World) (hra : Ws w w.heap.size A xs) :
    Calls Try.prog 10 #[.slice A xs.length ca] w fun e w' => e = .returned (.bool true) ∧ Below w.heap.size w w' := by
  have g1 : ¬ (20 : Int) < xs.length := by omega
  have I := Lib.hid (fun W hr => Gd.invs_none A ca xs k (by omega) hk h0 hne W hr)
  have H0 := Lib.hid h0
  have HN := Lib.hid hne
  clear h0 hne
  go_enter Try.func10, Try.ntmps10
  go_wp2_with fail
  refine (Gd.awake _).mono ?_
  rintro e w1 ⟨rfl, hb⟩
  have ra1 := hra.step hb
  clear hra
  go_wp2_with fail
  refine (I.out _ ra1).mono ?_
  rintro e w2 ⟨rfl, h2⟩
  have ra := ra1.step h2
  have hb2 := hb.trans (h2.mono hb.size)
  clear ra1 h2 hb I
  go_wp2_with fail
  go_loop [6] (fun v6 => ∃ i : Nat, i ≤ k ∧ v6 = .int .i64 (i : Int)) (fun v6 => xs.length - (intOf v6).toNat)
  case atStart => exact ⟨0, Nat.zero_le _, rfl⟩
  case round =>
    obtain ⟨i, hi, rfl⟩ := hrel
    have hlt : i < xs.length := by omega
    have i1 : (i : Int) < xs.length := by omega
    by_cases hik : i = k
    · subst hik
      obtain ⟨b, off, rfl, hB, c0⟩ := ra.at_ i hlt
      obtain ⟨x, hx0⟩ : ∃ x, x = xs.getD i 0 := ⟨_, rfl⟩
      rw [← hx0] at c0
      have O := Lib.hid (fun W => Gr.of x W)
      have hz := H0.out
      rw [← hx0] at hz
      rw [hz] at O
      clear hz hx0
      go_wp2_with fail
      refine (O.out _).mono ?_
      rintro e w3 ⟨rfl, rfl⟩
      go_wp2
      go_ret
      exact ⟨by simp [go_sem], hb2⟩
    · 
      obtain ⟨b, off, rfl, hB, c0⟩ := ra.at_ i hlt
      obtain ⟨x, hx0⟩ : ∃ x, x = xs.getD i 0 := ⟨_, rfl⟩
      rw [← hx0] at c0
      have O := Lib.hid (fun W => Gr.of x W)
      have hz := HN.out i (by omega)
      rw [← hx0] at hz
      obtain ⟨o, ho⟩ : ∃ o, o = x % 18446744069414584321 := ⟨_, rfl⟩
      rw [← ho] at O hz
      have o1 : ((o : Int) == 0) = false := by rw [beq_eq_false_iff_ne]; omega
      clear hz hx0 ho
      go_wp2_with fail
      refine (O.out _).mono ?_
      rintro e w3 ⟨rfl, rfl⟩
      go_wp2_with fail
      go_round
      case rel => exact ⟨i + 1, by omega, rfl⟩
      case measure => simp [intOf]; omega

def LRel (xs : List Nat) (f : Nat → Nat) (A : Option Addr) (g : Nat) (w : World) (v7 : Value) (wr : World) : Prop := ∃ i : Nat, i ≤ xs.length ∧ v7 = .int .i64 (i : Int) ∧ Ws wr wr.heap.size A xs ∧ Wk wr g 0 xs.length f ∧ Below w.heap.size w wr

set_option maxHeartbeats 2000000 in
set_option maxRecDepth 100000 in
theorem walk_some (A : Option Addr) (ca : Nat) (xs : List Nat) (hx : xs.length ≤ 20) (hne : ∀ i, i < xs.length → xs.getD i 0 % 18446744069414584321 ≠ 0) (w : World) (hra : Ws w w.heap.size A xs) :
    Calls Try.prog 10 #[.slice A xs.length ca] w fun e w' => e = .returned (.bool true) ∧ Below w.heap.size w w' := by
  have g1 : ¬ (20 : Int) < xs.length := by omega
  have I := Lib.hid (fun W hr => Gd.invs_some A ca xs (by omega) hne W hr)
  have HN := Lib.hid hne
  clear hne
  go_enter Try.func10, Try.ntmps10
  go_wp2_with fail
  refine (Gd.awake _).mono ?_
  rintro e w1 ⟨rfl, hb⟩
  have ra1 := hra.step hb
  clear hra
  go_wp2_with fail
  refine (I.out _ ra1).mono ?_
  rintro e w2 ⟨f, rfl, K, hf, hs, h2⟩
  have HF := Lib.hid hf
  have ra := ra1.step h2
  have hb2 := hb.trans (h2.mono hb.size)
  clear ra1 h2 hb I hf
  generalize w1.heap.size = g at *
  go_wp2_with fail
  go_loop [6] (fun v6 => ∃ i : Nat, i ≤ xs.length ∧ v6 = .int .i64 (i : Int)) (fun v6 => xs.length - (intOf v6).toNat)
  case atStart => exact ⟨0, Nat.zero_le _, rfl⟩
  case round =>
    obtain ⟨i, hi, rfl⟩ := hrel
    by_cases hlt : i < xs.length
    · have i1 : (i : Int) < xs.length := by omega
      obtain ⟨b, off, rfl, hB, c0⟩ := ra.at_ i hlt
      obtain ⟨x, hx0⟩ : ∃ x, x = xs.getD i 0 := ⟨_, rfl⟩
      rw [← hx0] at c0
      have O := Lib.hid (fun W => Gr.of x W)
      have hz := HN.out i (by omega)
      rw [← hx0] at hz
      obtain ⟨o, ho⟩ : ∃ o, o = x % 18446744069414584321 := ⟨_, rfl⟩
      rw [← ho] at O hz
      have o1 : ((o : Int) == 0) = false := by rw [beq_eq_false_iff_ne]; omega
      clear hz hx0 ho
      go_wp2_with fail
      refine (O.out _).mono ?_
      rintro e w3 ⟨rfl, rfl⟩
      go_wp2_with fail
      go_round
      case rel => exact ⟨i + 1, by omega, rfl⟩
      case measure => simp [intOf]; omega
    · have i1 : ¬ (i : Int) < xs.length := by omega
      go_wp2_with fail
      go_loopw [7] (fun v7 wr => LRel xs f A g w v7 wr) (fun v7 _ => xs.length - (intOf v7).toNat)
      case atStart => exact ⟨0, Nat.zero_le _, rfl, ra, K, hb2⟩
      case round =>
        obtain ⟨j, hj, rfl, rq, Kq, hbq⟩ := hrel
        clear ra K hb2
        by_cases hlt : j < xs.length
        · have j1 : (j : Int) < xs.length := by omega
          obtain ⟨b, off, rfl, hB, c0⟩ := rq.at_ j hlt
          have hxl := rq.lt j hlt
          have k0 := Kq.c j hlt
          rw [Nat.zero_add] at k0
          have hfj := HF.out j hlt
          generalize xs.getD j 0 = x at *
          generalize f j = y at *
          have G := Lib.hid (fun W => Gd.good_yes y hfj.1 W)
          have M := Lib.hid (fun W => Gr.mul y x hxl W)
          rw [hfj.2] at M
          clear hfj hxl
          go_wp2_with fail
          go_quiet ((first
            | (go_at_call 18; exact qs (G.out _))
            | (go_at_call 27; exact qs (M.out _))))
          go_wp2_with fail
          go_roundw
          case rel => exact ⟨j + 1, by omega, rfl, rq.drewN _, Kq.drewN _, below_drewN hbq _⟩
          case measure => simp [intOf]; omega
        · have j1 : ¬ (j : Int) < xs.length := by omega
          go_wp2
          go_ret
          exact ⟨rfl, hbq⟩

theorem walk (A : Option Addr) (ca : Nat) (xs : List Nat) (w : World) (hra : Ws w w.heap.size A xs) :
    Calls Try.prog 10 #[.slice A xs.length ca] w fun e w' => e = .returned (.bool true) ∧ Below w.heap.size w w' := by
  by_cases h : 20 < xs.length
  · exact walk_long A _ ca h w
  · rcases first_none xs xs.length with h1 | ⟨k, h1, h2, h3⟩
    · exact walk_some A ca xs (by omega) h1 w hra
    · exact walk_none A ca xs k (by omega) h1 h2 h3 w hra

set_option maxRecDepth 100000 in
theorem lifted (os : Os) (started : os.Started) (H : Type) (enc : TypeId × Value → H) :
    ReturnsInHanded {} Try.checked os 10 .any (Rows.goldInvsSpec.pre6 enc Try.prog Try.f10 Rows.goldInvsRow.domain false) (Rows.goldInvsSpec.post enc Try.prog Try.f10 false true false false) := by
  refine returnsInHanded_of_change (C := Try.checked) Fr.own started (by kernel_rfl) Try.func10
    (ChangeSpec.witness6 (enc := enc) (C := Try.checked) false ⟨#[], #[.slice none 0 0], []⟩ 8 (by kernel_rfl) (by kernel_rfl) (by kernel_rfl) (by kernel_rfl)) ?_
  intro W base args ds gs before hval0 hW hcnd _
  have hval : ∀ (j : Nat) t v, Try.f10.params[j]? = some t → args[j]? = some v → Value.okWide Try.prog W .any base t v := hval0
  have hW' := hW
  obtain ⟨p, q, hA0, hV, rfl, hfz, hnd⟩ := hW
  have hA : DataW.TrodAll enc Try.prog W 0 (fun _ => true) true Try.f10.params.toList args.toList ds p := hA0
  obtain ⟨rfl, rfl⟩ := trodVars_none hV
  rw [Try.params10] at hA hval
  obtain ⟨v0, vs0, d0, ds0, p0, q0, hargs, rfl, rfl, h0, r0⟩ := trodAll_cons hA
  obtain ⟨rfl, rfl, rfl⟩ := trodAll_nil r0
  obtain rfl : args = #[v0] := by cases args; simp_all
  obtain ⟨A0, n0, c0, rfl⟩ := okWide_slice Try.underlying45 (hval 0 45 v0 rfl rfl)
  obtain ⟨fuel0, hf0⟩ := h0
  obtain ⟨xs0, rfl, lc0, lm0, R0⟩ := Ww.open_words hf0
  simp only [List.append_nil] at hW' hA0
  refine (walk A0 c0 xs0 W R0).mono fun e W' ⟨he, hb⟩ => ?_
  subst he
  exact ⟨_, rfl, Fr.law_post (tb := 4) hW' hA0 rfl rfl rfl Try.underlying4 (by rw [Try.params10]; intro t ht; simp at ht; rcases ht with rfl; all_goals exact ⟨by kernel_rfl, of_decide_eq_true (by kernel_rfl)⟩) hb⟩

theorem proved : Rows.GoldInvsSaid :=
  OpenClaim.holds_of_wide 10 Try.f10 rfl rfl rfl rfl rfl rfl rfl ⟨rfl, rfl, rfl, rfl, rfl⟩ rfl rfl rfl rfl rfl (by kernel_rfl) Try.func10 (by kernel_rfl)
    (of_decide_eq_true (by kernel_rfl)) (by unfold Func.isWrapper; first | (rw [if_pos (by decide +kernel)]; kernel_rfl) | (rw [if_neg (by decide +kernel)]; exact ⟨rfl, rfl⟩))
    (fun os started H enc _ => lifted os started H enc)
end Go.Proofs.Ytkbhbnadkoainaa.goldInvs
