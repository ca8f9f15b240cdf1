/- RootSums: of every number the law of a root's powers and their sum answers true, and changes nothing. No condition. -/
import Derived.Test.YtkocniimpdhogaaFrame
import Derived.Test.YtkocniimpdhogaaRootW
import Derived.Test.YtkocniimpdhogaaBitsI
set_option linter.unusedVariables false
namespace Go.Proofs.Ytkocniimpdhogaa.rootSums
open Go.ChangeShapes Go.WideShapes Go.ChangeAt Go.RowKit
open Nm Ww

theorem sum_step (r i s : Nat) (h : s = Nt.sg (fun j => r ^ j % 18446744069414584321) i % 18446744069414584321) :
    (s + r ^ i % 18446744069414584321) % 18446744069414584321 = Nt.sg (fun j => r ^ j % 18446744069414584321) (i + 1) % 18446744069414584321 := by
  rw [h, Nat.mod_add_mod]; rfl
/-- The outer loop's relation: s is the sum of the first i powers. -/
def ORel (r N g : Nat) (w : World) (v10 v11 : Value) (wr : World) : Prop :=
  ∃ i s : Nat, i ≤ N ∧ v11 = .int .i64 (i : Int) ∧ v10 = .int .u64 s ∧ s = Nt.sg (fun j => r ^ j % 18446744069414584321) i % 18446744069414584321 ∧ Wk wr g 0 N (fun i => r ^ i % 18446744069414584321) ∧ Below w.heap.size w wr
def IRel (r N g i : Nat) (w : World) (v12 : Value) (wr : World) : Prop :=
  ∃ j : Nat, j ≤ i ∧ v12 = .int .i64 (j : Int) ∧ Wk wr g 0 N (fun i => r ^ i % 18446744069414584321) ∧ Below w.heap.size w wr

set_option maxHeartbeats 2000000 in
set_option maxRecDepth 100000 in
theorem core (k d e N m r r0 : Nat) (hd5 : d ≤ 5) (k1 : (k : Int) ≤ 255) (q1 : (k : Int) % 6 = (d : Int)) (q2 : 1 + (d : Int) = (e : Int)) (q3 : (e : Int) - 1 = (d : Int)) (hN : N ≤ 64) (hNm : N = 2 * m)
    (s1 : IntKind.i64.wrap ((2 : Int) ^ e) = (N : Int))
    (r1 : ∀ W, Calls Try.prog 15 #[.int .i64 (e : Int)] W fun e w' => e = .returned (.tuple #[.int .u64 (r : Nat), .int .i64 0]) ∧ Below W.heap.size W w')
    (r2 : ∀ W, Calls Try.prog 15 #[.int .i64 (d : Int)] W fun e w' => e = .returned (.tuple #[.int .u64 (r0 : Nat), .int .i64 0]) ∧ Below W.heap.size W w')
    (p1 : ∀ W, Calls Try.prog 7 #[.int .u64 r, .int .i64 (N : Int)] W (Rt.PowOut r N W))
    (m1 : ∀ W, Calls Try.prog 16 #[.int .u64 r, .int .u64 r] W fun e w' => e = .returned (.int .u64 (r0 : Int)) ∧ W = w')
    (hE : Nt.sg (fun j => r ^ j % 18446744069414584321) N % 18446744069414584321 = 0)
    (hI : ∀ i j, i < N → j < i → r ^ j % 18446744069414584321 ≠ r ^ i % 18446744069414584321)
    (hF : ∀ i, (r ^ (i + m) % 18446744069414584321 + r ^ i % 18446744069414584321) % 18446744069414584321 = 0) (w : World) :
    Calls Try.prog 5 #[.int .u8 k] w fun e w' => e = .returned (.bool true) ∧ Below w.heap.size w w' := by
  have q4 : (N : Int) / 2 = (m : Int) := by omega
  have R1 := Lib.hid r1
  have R0 := Lib.hid r2
  have P1 := Lib.hid p1
  have M1 := Lib.hid m1
  have E := Lib.hid hE
  have INJ := Lib.hid hI
  have FAR := Lib.hid hF
  have HNm := Lib.hid hNm
  clear r1 r2 p1 m1 hE hI hF hNm
  go_enter Try.func5, Try.ntmps5
  go_wp2_with fail
  refine (Rt.awake _).mono ?_
  rintro e w1 ⟨rfl, b1⟩
  go_wp2_with fail
  refine (R1.out _).mono ?_
  rintro e w2 ⟨rfl, b2⟩
  have c2 := b1.trans (b2.mono b1.size)
  clear b1 b2
  go_wp2_with fail
  refine (R0.out _).mono ?_
  rintro e w3 ⟨rfl, b3⟩
  have c3 := c2.trans (b3.mono c2.size)
  clear c2 b3
  go_wp2_with fail
  refine (P1.out _).mono ?_
  rintro e w4 ⟨rfl, K, hs, b4⟩
  have c4 := c3.trans (b4.mono c3.size)
  generalize w3.heap.size = g at *
  clear c3 b4 hs
  go_wp2_with fail
  refine (M1.out _).mono ?_
  rintro e w5 ⟨rfl, rfl⟩
  clear R1 R0 P1 M1 q1 q2 q3 s1
  go_wp2_with fail
  go_loopw [10, 11] (fun v10 v11 wr => ORel r N g w v10 v11 wr) (fun _ v11 _ => N - (intOf v11).toNat)
  case atStart => exact ⟨0, 0, Nat.zero_le _, rfl, rfl, rfl, K, c4⟩
  case round =>
    obtain ⟨i, s, hi, rfl, rfl, hsum, Kq, hbq⟩ := hrel
    clear K c4
    by_cases hlt : i < N
    · have i1 : (i : Int) < N := by omega
      have S2 := Lib.hid (sum_step _ i s hsum)
      have A1 := Lib.hid (fun W => Gr.add s (r ^ i % 18446744069414584321) W)
      have NE := Lib.hid (fun j hj => INJ.out i j hlt hj)
      have t0 := Kq.c i hlt
      rw [Nat.zero_add] at t0
      generalize (s + r ^ i % 18446744069414584321) % 18446744069414584321 = s' at *
      clear hsum
      by_cases hf : i < m
      · have f1 : decide ((m : Int) ≤ (i : Int)) = false := by simp; omega
        have f2 : ¬ m ≤ i := by omega
        generalize hy : r ^ i % 18446744069414584321 = y at t0 A1
        have HY := Lib.hid hy
        clear hy
        go_wp2_with fail
        refine (A1.out _).mono ?_
        rintro e w5 ⟨rfl, rfl⟩
        go_wp2_with fail
        go_quiet (fail)

        go_wp2_with fail
        obtain ⟨wo, rfl⟩ : ∃ wo : World, wo = wr := ⟨_, rfl⟩
        go_loopw [12] (fun v12 wr => IRel r N g i w v12 wr) (fun v12 _ => i - (intOf v12).toNat)
        case atStart => exact ⟨0, Nat.zero_le _, rfl, Kq.drewN _, below_drewN hbq _⟩
        case round =>
          obtain ⟨j, hj, rfl, Kj, hbj⟩ := hrel
          by_cases hji : j < i
          · have j1 : (j : Int) < i := by omega
            have jN : (j : Int) < N := by omega
            have u0 := Kj.c i hlt
            have u1 := Kj.c j (by omega)
            rw [Nat.zero_add] at u0 u1
            have ne := NE.out j hji
            generalize r ^ i % 18446744069414584321 = y at *
            generalize r ^ j % 18446744069414584321 = z at *
            have ze : ((z : Int) == (y : Int)) = false := by rw [beq_eq_false_iff_ne]; omega
            clear ne
            go_wp2_with fail
            go_quiet (fail)
            go_wp2_with fail
            go_roundw
            case rel => exact ⟨j + 1, by omega, rfl, Kj.drewN _, below_drewN hbj _⟩
            case measure => simp [intOf]; omega
          · have j1 : ¬ (j : Int) < i := by omega
            go_wp2_with fail
            go_roundw
            case rel => exact ⟨i + 1, s', by omega, rfl, rfl, S2.out, Kj, hbj⟩
            case measure => simp [intOf]; omega

      · have f1 : (m : Int) ≤ i := by omega
        have f2 : m ≤ i := by omega
        obtain ⟨j0, hj0⟩ : ∃ j0, j0 = i - m := ⟨_, rfl⟩
        have t1 := Kq.c j0 (by omega)
        rw [Nat.zero_add] at t1
        have A2 := Lib.hid (fun W => Gr.add (r ^ i % 18446744069414584321) (r ^ j0 % 18446744069414584321) W)
        have ff := FAR.out j0
        rw [show j0 + m = i by omega] at ff
        rw [ff] at A2
        have g1 : (i : Int) - (m : Int) = (j0 : Int) := by omega
        have g2 : IntKind.i64.wrap ((i : Int) - (m : Int)) = (j0 : Int) := by rw [g1]; exact IntWalk.i64_in _ (by omega)
        have g3 : (j0 : Int) < N := by omega
        have g4 : j0 < N := by omega
        clear ff hj0
        generalize hz : r ^ j0 % 18446744069414584321 = z at t1 A2
        clear hz
        generalize hy : r ^ i % 18446744069414584321 = y at t0 A1 A2
        have HY := Lib.hid hy
        clear hy
        go_wp2_with fail
        refine (A1.out _).mono ?_
        rintro e w5 ⟨rfl, rfl⟩
        go_wp2_with fail
        go_quiet ((go_at_call 17; exact qs (A2.out _)))

        go_wp2_with fail
        obtain ⟨wo, rfl⟩ : ∃ wo : World, wo = wr := ⟨_, rfl⟩
        go_loopw [12] (fun v12 wr => IRel r N g i w v12 wr) (fun v12 _ => i - (intOf v12).toNat)
        case atStart => exact ⟨0, Nat.zero_le _, rfl, Kq.drewN _, below_drewN hbq _⟩
        case round =>
          obtain ⟨j, hj, rfl, Kj, hbj⟩ := hrel
          by_cases hji : j < i
          · have j1 : (j : Int) < i := by omega
            have jN : (j : Int) < N := by omega
            have u0 := Kj.c i hlt
            have u1 := Kj.c j (by omega)
            rw [Nat.zero_add] at u0 u1
            have ne := NE.out j hji
            generalize r ^ i % 18446744069414584321 = y at *
            generalize r ^ j % 18446744069414584321 = z at *
            have ze : ((z : Int) == (y : Int)) = false := by rw [beq_eq_false_iff_ne]; omega
            clear ne
            go_wp2_with fail
            go_quiet (fail)
            go_wp2_with fail
            go_roundw
            case rel => exact ⟨j + 1, by omega, rfl, Kj.drewN _, below_drewN hbj _⟩
            case measure => simp [intOf]; omega
          · have j1 : ¬ (j : Int) < i := by omega
            go_wp2_with fail
            go_roundw
            case rel => exact ⟨i + 1, s', by omega, rfl, rfl, S2.out, Kj, hbj⟩
            case measure => simp [intOf]; omega

    · have i1 : ¬ (i : Int) < N := by omega
      obtain rfl : i = N := by omega
      rw [E.out] at hsum
      subst hsum
      go_wp2
      go_ret
      exact ⟨by simp [go_sem], hbq⟩

theorem walk (k : Nat) (hk : k < 256) (w : World) :
    Calls Try.prog 5 #[.int .u8 k] w fun e w' => e = .returned (.bool true) ∧ Below w.heap.size w w' := by
  obtain ⟨d, hd⟩ : ∃ d, d = k % 6 := ⟨_, rfl⟩
  have hp : 2 ^ (d + 1) ≤ 2 ^ 6 := Nat.pow_le_pow_right (by decide) (by omega)
  refine core k d (d + 1) (2 ^ (d + 1)) (2 ^ d) (Nt.rt (d + 1)) (Nt.rt d) (by omega) (by omega) (by omega) (by omega) (by omega) (by omega) (by rw [Nat.pow_succ, Nat.mul_comm]) (Bt.pow_i64 _ (by omega))
    (fun W => Rt.root (d + 1) (by omega) W) (fun W => Rt.root d (by omega) W) (fun W => Rt.powers _ _ (Nat.lt_trans (Nt.rt_lt _) (by decide)) (by omega) W) (fun W => ?_) (Nt.rt_sum (d + 1) (by omega) (by omega))
    (fun i j hi hj => Nt.rt_inj_lt (d + 1) j i (by omega) hj hi) (fun i => Nt.rt_far d i (by omega)) w
  have c := Gr.mul (Nt.rt (d + 1)) (Nt.rt (d + 1)) (Nat.lt_trans (Nt.rt_lt _) (by decide)) W
  rwa [Nt.rt_sq d (by omega)] at c

set_option maxRecDepth 100000 in
theorem lifted (os : Os) (started : os.Started) (H : Type) (enc : TypeId × Value → H) :
    ReturnsInHanded {} Try.checked os 5 .any (Rows.rootSumsSpec.pre6 enc Try.prog Try.f5 Rows.rootSumsRow.domain false) (Rows.rootSumsSpec.post enc Try.prog Try.f5 false true false false) := by
  refine returnsInHanded_of_change (C := Try.checked) Fr.own started (by kernel_rfl) Try.func5
    (ChangeSpec.witness6 (enc := enc) (C := Try.checked) false ⟨#[], #[.int .u8 0], []⟩ 8 (by kernel_rfl) (by kernel_rfl) (by kernel_rfl) (by kernel_rfl)) ?_
  intro W base args ds gs before hval0 hW hcnd _
  have hval : ∀ (j : Nat) t v, Try.f5.params[j]? = some t → args[j]? = some v → Value.okWide Try.prog W .any base t v := hval0
  have hW' := hW
  obtain ⟨p, q, hA0, hV, rfl, hfz, hnd⟩ := hW
  have hA : DataW.TrodAll enc Try.prog W 0 (fun _ => true) true Try.f5.params.toList args.toList ds p := hA0
  obtain ⟨rfl, rfl⟩ := trodVars_none hV
  rw [Try.params5] at hA hval
  obtain ⟨v0, vs0, d0, ds0, p0, q0, hargs, rfl, rfl, h0, r0⟩ := trodAll_cons hA
  obtain ⟨rfl, rfl, rfl⟩ := trodAll_nil r0
  obtain rfl : args = #[v0] := by cases args; simp_all
  obtain ⟨a0, rfl, rfl, rfl, w0⟩ := open_int Try.underlying5 (hval 0 5 v0 rfl rfl) h0
  have b0 : 0 ≤ a0 ∧ a0 ≤ 255 := by simpa [Lit.wf, IntKind.min, IntKind.max, IntKind.signed, IntKind.bits] using w0
  obtain ⟨x0, rfl⟩ := Int.eq_ofNat_of_zero_le b0.1
  simp only [List.append_nil] at hW'
  refine (walk x0 (by omega) W).mono fun e W' ⟨he, hb⟩ => ?_
  subst he
  exact ⟨_, rfl, Fr.law_post (tb := 4) hW' hA0 rfl rfl rfl Try.underlying4 (by rw [Try.params5]; intro t ht; simp at ht; rcases ht with rfl; all_goals exact ⟨by kernel_rfl, of_decide_eq_true (by kernel_rfl)⟩) hb⟩

theorem proved : Rows.RootSumsSaid :=
  OpenClaim.holds_of_wide 5 Try.f5 rfl rfl rfl rfl rfl rfl rfl ⟨rfl, rfl, rfl, rfl, rfl⟩ rfl rfl rfl rfl rfl (by kernel_rfl) Try.func5 (by kernel_rfl)
    (of_decide_eq_true (by kernel_rfl)) (by unfold Func.isWrapper; first | (rw [if_pos (by decide +kernel)]; kernel_rfl) | (rw [if_neg (by decide +kernel)]; exact ⟨rfl, rfl⟩))
    (fun os started H enc _ => lifted os started H enc)
end Go.Proofs.Ytkocniimpdhogaa.rootSums
