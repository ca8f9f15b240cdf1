/- The contract of the document's own answer for layer 1's Add, bit by bit: sum and carry. -/
import Derived.Test.YtkbhbnadkoainaaRefA
import Derived.Test.YtkbhbnadkoainaaTwo
import Derived.Deep.LoopGhost
set_option linter.unusedVariables false
namespace Go.Proofs.Ytkbhbnadkoainaa
open Go.RowKit
open Go.Sort (grow)
namespace Rf
open Nm

/-- What holds of the sum s and the carry c behind i bits. -/
structure AInv (a b i s c : Nat) : Prop where
  s_lt : s < 2 ^ i
  sum : s + c * 2 ^ i = a % 2 ^ i + b % 2 ^ i
  c_le : c ≤ 1
theorem ainv_start (a b : Nat) : AInv a b 0 0 0 := ⟨by simp, by simp [Nat.mod_one], by simp⟩
theorem ainv_sum (a b i s c n : Nat) (h : AInv a b i s c) (hn : n = a / 2 ^ i % 2 + b / 2 ^ i % 2 + c) : AInv a b (i + 1) (s + n % 2 * 2 ^ i) (n / 2) := by
  have hs := h.sum
  have h1 := h.s_lt
  have hc := h.c_le
  rw [hn]
  have ma : a / 2 ^ i % 2 < 2 := Nat.mod_lt _ (by decide)
  have mb : b / 2 ^ i % 2 < 2 := Nat.mod_lt _ (by decide)
  have ea : a % 2 ^ (i + 1) = a % 2 ^ i + 2 ^ i * (a / 2 ^ i % 2) := Nat.mod_pow_succ
  have eb : b % 2 ^ (i + 1) = b % 2 ^ i + 2 ^ i * (b / 2 ^ i % 2) := Nat.mod_pow_succ
  generalize a / 2 ^ i % 2 = x at *
  generalize b / 2 ^ i % 2 = y at *
  have hx : x = 0 ∨ x = 1 := by omega
  have hy : y = 0 ∨ y = 1 := by omega
  have hcc : c = 0 ∨ c = 1 := by omega
  have hp : 2 ^ (i + 1) = 2 * 2 ^ i := by rw [Nat.pow_succ, Nat.mul_comm]
  generalize 2 ^ i = p at *
  refine ⟨?_, ?_, by omega⟩ <;> rcases hx with rfl | rfl <;> rcases hy with rfl | rfl <;> rcases hcc with rfl | rfl <;> simp at * <;> omega
theorem ainv_odd (a b i s c n : Nat) (h : AInv a b i s c) (hn : n = a / 2 ^ i % 2 + b / 2 ^ i % 2 + c) (ho : n % 2 = 1) : AInv a b (i + 1) (s + 2 ^ i) (n / 2) := by
  have := ainv_sum a b i s c n h hn
  rw [ho, Nat.one_mul] at this
  exact this
theorem ainv_even (a b i s c n : Nat) (h : AInv a b i s c) (hn : n = a / 2 ^ i % 2 + b / 2 ^ i % 2 + c) (ho : ¬ n % 2 = 1) : AInv a b (i + 1) s (n / 2) := by
  have := ainv_sum a b i s c n h hn
  rw [show n % 2 = 0 from by omega, Nat.zero_mul] at this
  exact this
theorem ainv_end (a b s c : Nat) (h : AInv a b 128 s c) (ha : a < 340282366920938463463374607431768211456) (hb : b < 340282366920938463463374607431768211456) :
    s = (a + b) % 340282366920938463463374607431768211456 ∧ c = (a + b) / 340282366920938463463374607431768211456 := by
  have h1 := h.s_lt
  have h2 := h.sum
  rw [show (2 : Nat) ^ 128 = 340282366920938463463374607431768211456 from by decide] at h1 h2
  omega

theorem set_small (s i : Nat) (hs : s < 2 ^ i) (hi : i < 128) (w : World) :
    Calls Try.prog 44 #[.agg #[.int .u64 (Nm.hi s : Nat), .int .u64 (lo s : Nat)], .int .i64 i] w fun e w' => e = .returned (.agg #[.int .u64 (Nm.hi (s + 2 ^ i) : Nat), .int .u64 (lo (s + 2 ^ i) : Nat)]) ∧ Below w.heap.size w w' := by
  have h2 : 2 ^ i ≤ 2 ^ 127 := Nat.pow_le_pow_right (by decide) (by omega)
  have h3 : (2 : Nat) ^ 127 = 170141183460469231731687303715884105728 := by decide
  have e : vl (Nm.hi s) (lo s) = s := by rw [vl_hi_lo, Nat.mod_eq_of_lt (by omega)]
  have c := set (Nm.hi s) (lo s) i (hi_lt s) (lo_lt s) hi (by rw [e, Nat.div_eq_of_lt hs])
  rw [e] at c
  exact c w

theorem set_at (s i : Nat) (m : Int) (hm : m = (i : Int)) (hs : s < 2 ^ i) (hi : i < 128) (w : World) :
    Calls Try.prog 44 #[.agg #[.int .u64 (Nm.hi s : Nat), .int .u64 (lo s : Nat)], .int .i64 m] w fun e w' => e = .returned (.agg #[.int .u64 (Nm.hi (s + 2 ^ i) : Nat), .int .u64 (lo (s + 2 ^ i) : Nat)]) ∧ Below w.heap.size w w' := by
  rw [hm]; exact set_small s i hs hi w

/-- What holds ahead of each round of Add. -/
structure ARel (w wr : World) (h1 l1 h2 l2 i s c : Nat) : Prop where
  a : Two wr w.heap.size h1 l1
  b : Two wr (w.heap.size + 1) h2 l2
  r : Two wr (w.heap.size + 1 + 1) 0 0
  t : Two wr (w.heap.size + 1 + 1 + 1) (hi s) (lo s)
  inv : AInv (vl h1 l1) (vl h2 l2) i s c
  below : Below w.heap.size w wr

set_option maxHeartbeats 1000000 in
set_option maxRecDepth 100000 in
theorem add (h1 l1 h2 l2 : Nat) (a1 : h1 < 18446744073709551616) (b1 : l1 < 18446744073709551616) (a2 : h2 < 18446744073709551616) (b2 : l2 < 18446744073709551616) (w : World) :
    Calls Try.prog 50 #[.agg #[.int .u64 h1, .int .u64 l1], .agg #[.int .u64 h2, .int .u64 l2]] w fun e w' =>
      e = .returned (.tuple #[.agg #[.int .u64 (hi (vl h1 l1 + vl h2 l2) : Nat), .int .u64 (lo (vl h1 l1 + vl h2 l2) : Nat)], .int .u64 ((vl h1 l1 + vl h2 l2) / 340282366920938463463374607431768211456 : Nat)]) ∧ Below w.heap.size w w' := by
  go_enter Try.func50, Try.ntmps50
  go_wp2_with fail
  go_loopg [7, 8] 128 (fun k v7 v8 wr => ∃ i s c : Nat, k + i = 128 ∧ v7 = .int .u64 c ∧ v8 = .int .i64 i ∧ ARel w wr h1 l1 h2 l2 i s c)
  case atStart =>
    exact ⟨0, 0, 0, rfl, rfl, rfl, (((Two.fresh w h1 l1 _).alloc _).alloc _).alloc _, Two.cast (((Two.fresh (w.alloc (.cells #[.int .u64 h1, .int .u64 l1] _)) h2 l2 _).alloc _).alloc _) (by simp), Two.cast ((Two.fresh ((w.alloc (.cells #[.int .u64 h1, .int .u64 l1] _)).alloc (.cells #[.int .u64 h2, .int .u64 l2] _)) 0 0 _).alloc _) (by simp), Two.cast (Two.fresh (((w.alloc (.cells #[.int .u64 h1, .int .u64 l1] _)).alloc (.cells #[.int .u64 h2, .int .u64 l2] _)).alloc (.cells #[.int .u64 0, .int .u64 0] _)) 0 0 _) (by simp), ainv_start _ _,
      ((((Below.refl _ _).alloc (Nat.le_refl _) _).alloc (by simp) _).alloc (by simp <;> omega) _).alloc (by simp <;> omega) _⟩
  case round =>
    obtain ⟨i, s, c, hk, rfl, rfl, R⟩ := hrel
    by_cases hi128 : i < 128
    · have i1 : (i : Int) < 128 := by omega
      have CA := Lib.hid (fun d os => Calls.regrown_of (bit h1 l1 i b1 hi128 (grow (redrawn wr d) os)))
      have CB := Lib.hid (fun d os => Calls.regrown_of (bit h2 l2 i b2 hi128 (grow (redrawn wr d) os)))
      have ca0 := cell_regrown R.a.c0
      have ca1 := cell_regrown R.a.c1
      have cb0 := cell_regrown R.b.c0
      have cb1 := cell_regrown R.b.c1
      generalize ex : vl h1 l1 / 2 ^ i % 2 = x at CA
      generalize ey : vl h2 l2 / 2 ^ i % 2 = y at CB
      have hx : x < 2 := by rw [← ex]; exact Nat.mod_lt _ (by decide)
      have hy : y < 2 := by rw [← ey]; exact Nat.mod_lt _ (by decide)
      have hc := R.inv.c_le
      obtain ⟨m, hm⟩ : ∃ m, m = x + y := ⟨_, rfl⟩
      obtain ⟨n, hn⟩ : ∃ n, n = m + c := ⟨_, rfl⟩
      have r1 : IntKind.u64.wrap ((x : Int) + y) = (m : Int) := by rw [Bt.addN, ← hm]; exact Bt.wrapN m (by omega)
      have r2 : IntKind.u64.wrap ((m : Int) + c) = (n : Int) := by rw [Bt.addN, ← hn]; exact Bt.wrapN n (by omega)
      have HN : Hid (n = vl h1 l1 / 2 ^ i % 2 + vl h2 l2 / 2 ^ i % 2 + c) := by rw [ex, ey, ← hm]; exact hn
      have N2 : Hid (IntKind.u64.wrap ((n : Int) / 2) = ((n / 2 : Nat) : Int)) := Bt.wrapN (n / 2) (by omega)
      clear ex ey hx hy hc hm hn
      go_wp2_with fail
      refine wp_region_quiet_below (by kernel_rfl) (by kernel_rfl) ?_
      repeat (go_big_quiet_step (((go_at_call 41; first | with_reducible exact CA.out _ _ | with_reducible exact CB.out _ _))))
      refine wpQuiet_nil ?_
      intro _ hw'
      obtain ⟨⟨dq, osq⟩, hw''⟩ := hw'
      subst hw''
      have hb := below_regrown wr dq osq
      have hbl : Below w.heap.size w (grow (redrawn wr dq) osq) := R.below.trans (hb.mono R.below.size)
      have Ra := R.a.below hb
      have Rb := R.b.below hb
      have Rr := R.r.below hb
      have Rt := R.t.below hb
      have HI := R.inv
      clear ca0 ca1 cb0 cb1 CA CB r1 r2 hb R
      show Exit.then _ _ _ _ (grow (redrawn wr dq) osq)
      generalize grow (redrawn wr dq) osq = w1 at *
      have t0 := Rt.c0
      have t1 := Rt.c1
      by_cases ho : n % 2 = 1
      · have ho1 : ((n : Int) % 2 == 1) = true := by simp; omega
        have ST := set_small s i HI.s_lt hi128
        have hI2 := ainv_odd _ _ _ _ _ _ HI HN.out ho
        go_wp2_with fail
        refine (ST _).mono ?_
        rintro e w2 ⟨rfl, hb2⟩
        have Qa := Ra.below hb2
        have Qb := Rb.below hb2
        have Qr := Rr.below hb2
        have Qt := Rt.below hb2
        have q0 := Qt.c0
        have q1 := Qt.c1
        have q2 := Qt.f0
        have q3 := Qt.f1
        clear t0 t1 ST
        go_wp2_with fail
        go_roundg (gk - 1)
        case measure => omega
        case rel =>
          exact ⟨i + 1, s + 2 ^ i, n / 2, by omega, by rw [N2.out], rfl, (Qa.other (by simp <;> omega) _).other (by simp <;> omega) _, (Qb.other (by simp <;> omega) _).other (by simp <;> omega) _, (Qr.other (by simp <;> omega) _).other (by simp <;> omega) _, Qt.put _ _, hI2, ((hbl.trans (hb2.mono hbl.size)).setCell (by simp <;> omega) _).setCell (by simp <;> omega) _⟩
      · have ho1 : ((n : Int) % 2 == 1) = false := by simp; omega
        have hI2 := ainv_even _ _ _ _ _ _ HI HN.out ho
        go_wp2_with fail
        go_roundg (gk - 1)
        case measure => omega
        case rel => exact ⟨i + 1, s, n / 2, by omega, by rw [N2.out], rfl, Ra, Rb, Rr, Rt, hI2, hbl⟩
    · have i1 : ¬ (i : Int) < 128 := by omega
      have e : i = 128 := by omega
      have t0 := R.t.c0
      have t1 := R.t.c1
      have r0 := R.r.c0
      have r1 := R.r.c1
      have r2 := R.r.f0
      have r3 := R.r.f1
      have hinv := R.inv
      rw [e] at hinv
      have hend := ainv_end _ _ _ _ hinv (vl_lt h1 l1 a1 b1) (vl_lt h2 l2 a2 b2)
      have hs1 : Nm.hi s = Nm.hi (vl h1 l1 + vl h2 l2) := by rw [hend.1]; unfold Nm.hi; omega
      have hs2 : lo s = lo (vl h1 l1 + vl h2 l2) := by rw [hend.1]; unfold lo; omega
      have H1 := Lib.hid hs1
      have H2 := Lib.hid hs2
      have H3 := Lib.hid hend.2
      have hbl := R.below
      clear hs1 hs2 hend hinv R e
      generalize Nm.hi s = p at *
      generalize lo s = q at *
      go_wp2
      refine bodyPost_ret (v := .tuple #[.agg #[.int .u64 p, .int .u64 q], .int .u64 c]) (by simp [results, Try.results50, go_sem, r0, r1]) rfl ⟨by rw [H1.out, H2.out, H3.out]; rfl, (hbl.setCell (by simp <;> omega) _).setCell (by simp <;> omega) _⟩
end Rf
end Go.Proofs.Ytkbhbnadkoainaa
