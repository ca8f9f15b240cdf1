/- The contract of the document's own answer for layer 1's Rem: long division, bit by bit. -/
import Derived.Test.YtkbhbnadkoainaaRefE
import Derived.RegionTactic
set_option linter.unusedVariables false
namespace Go.Proofs.Ytkbhbnadkoainaa
open Go.RowKit
open Go.Sort (grow)
namespace Rf
open Nm

/-- What holds of quotient and rest when j bits are still to come. -/
structure RInv (v m j q r : Nat) : Prop where
  hr : r = v / 2 ^ j % m
  hq : q = v / 2 ^ j / m * 2 ^ j
theorem rinv_start (v m : Nat) (hv : v < 340282366920938463463374607431768211456) : RInv v m 128 0 0 := by
  have e : v / 2 ^ 128 = 0 := Nat.div_eq_of_lt (by rw [p128]; exact hv)
  exact ⟨by rw [e]; simp, by rw [e]; simp⟩
theorem rinv_step (v m i q r b : Nat) (hm : 0 < m) (h : RInv v m (i + 1) q r) (hb : b = v / 2 ^ i % 2) :
    r < m ∧ b < 2 ∧ q / 2 ^ i % 2 = 0 ∧ (r * 2 + b < m → RInv v m i q (r * 2 + b)) ∧ (¬ r * 2 + b < m → RInv v m i (q + 2 ^ i) (r * 2 + b - m)) := by
  have hp : 2 ^ (i + 1) = 2 ^ i * 2 := Nat.pow_succ ..
  have e1 : v / 2 ^ (i + 1) = v / 2 ^ i / 2 := by rw [hp, Nat.div_div_eq_div_mul]
  obtain ⟨hr, hq⟩ := h
  rw [e1] at hr hq
  have hb2 : b < 2 := by rw [hb]; exact Nat.mod_lt _ (by decide)
  have hrm : r < m := by rw [hr]; exact Nat.mod_lt _ hm
  have hu : v / 2 ^ i = v / 2 ^ i / 2 * 2 + b := by omega
  have hd := Nat.div_add_mod (v / 2 ^ i / 2) m
  rw [← hr] at hd
  generalize v / 2 ^ i / 2 / m = X at *
  have hq' : q = X * 2 * 2 ^ i := by rw [hq, hp, Nat.mul_comm (2 ^ i) 2, ← Nat.mul_assoc]
  have hu2 : v / 2 ^ i = m * (X * 2) + (r * 2 + b) := by
    rw [← Nat.mul_assoc]
    omega
  refine ⟨hrm, hb2, ?_, ?_, ?_⟩
  · rw [hq', Nat.mul_div_cancel _ (Nat.two_pow_pos i), Nat.mul_mod_left]
  · intro hlt
    refine ⟨?_, ?_⟩
    · rw [hu2, Nat.mul_add_mod, Nat.mod_eq_of_lt hlt]
    · rw [hu2, Nat.mul_add_div hm, Nat.div_eq_of_lt hlt, Nat.add_zero, hq']
  · intro hge
    have hu3 : v / 2 ^ i = m * (X * 2 + 1) + (r * 2 + b - m) := by rw [hu2, Nat.mul_add, Nat.mul_one]; omega
    have hlt : r * 2 + b - m < m := by omega
    refine ⟨?_, ?_⟩
    · rw [hu3, Nat.mul_add_mod, Nat.mod_eq_of_lt hlt]
    · rw [hu3, Nat.mul_add_div hm, Nat.div_eq_of_lt hlt, Nat.add_zero, Nat.add_mul, Nat.one_mul, hq']
theorem rinv_end (v m q r : Nat) (h : RInv v m 0 q r) : q = v / m ∧ r = v % m := by
  obtain ⟨hr, hq⟩ := h
  rw [Nat.pow_zero, Nat.div_one] at hr hq
  exact ⟨by rw [hq, Nat.mul_one], hr⟩

/-- The four structs of Rem: the number, the result's place, quotient and rest. -/
structure RRel (w wr : World) (h l q r : Nat) : Prop where
  a : Two wr w.heap.size h l
  o : Two wr (w.heap.size + 1) 0 0
  q : Two wr (w.heap.size + 1 + 1) (Nm.hi q) (lo q)
  r : Two wr (w.heap.size + 1 + 1 + 1) (Nm.hi r) (lo r)
  below : Below w.heap.size w wr
theorem RRel.step {w wr w1 : World} {h l x y : Nat} (R : RRel w wr h l x y) (hb : Below wr.heap.size wr w1) : RRel w w1 h l x y :=
  ⟨R.a.below hb, R.o.below hb, R.q.below hb, R.r.below hb, R.below.trans (hb.mono R.below.size)⟩
theorem RRel.alloc {w wr : World} {h l x y : Nat} (R : RRel w wr h l x y) (o : Obj) : RRel w (wr.alloc o) h l x y := R.step ((Below.refl _ _).alloc (Nat.le_refl _) _)
theorem RRel.putR {w wr : World} {h l x y : Nat} (R : RRel w wr h l x y) (y' : Nat) : RRel w ((wr.setCell ⟨w.heap.size + 1 + 1 + 1, 0, none⟩ (.int .u64 (Nm.hi y' : Nat))).setCell ⟨w.heap.size + 1 + 1 + 1, 1, none⟩ (.int .u64 (lo y' : Nat))) h l x y' :=
  ⟨(R.a.other (by simp <;> omega) _).other (by simp <;> omega) _, (R.o.other (by simp <;> omega) _).other (by simp <;> omega) _, (R.q.other (by simp <;> omega) _).other (by simp <;> omega) _, R.r.put _ _, (R.below.setCell (by simp <;> omega) _).setCell (by simp <;> omega) _⟩
theorem RRel.putQ {w wr : World} {h l x y : Nat} (R : RRel w wr h l x y) (x' : Nat) : RRel w ((wr.setCell ⟨w.heap.size + 1 + 1, 0, none⟩ (.int .u64 (Nm.hi x' : Nat))).setCell ⟨w.heap.size + 1 + 1, 1, none⟩ (.int .u64 (lo x' : Nat))) h l x' y :=
  ⟨(R.a.other (by simp <;> omega) _).other (by simp <;> omega) _, (R.o.other (by simp <;> omega) _).other (by simp <;> omega) _, R.q.put _ _, (R.r.other (by simp <;> omega) _).other (by simp <;> omega) _, (R.below.setCell (by simp <;> omega) _).setCell (by simp <;> omega) _⟩
theorem Two.lo {w : World} {b p q : Nat} (h : Two w b p q) (q' : Nat) : Two (w.setCell ⟨b, 1, none⟩ (.int .u64 q')) b p q' :=
  ⟨by rw [World.cell?_setCell_other _ _ _ _ (by simp)]; exact h.c0, World.cell?_setCell_same _ _ _ h.c1, by rw [World.frozen?_setCell]; exact h.f0, by rw [World.frozen?_setCell]; exact h.f1⟩
theorem RRel.putL {w wr : World} {h l x y y' : Nat} (R : RRel w wr h l x y) (e1 : Nm.hi y = Nm.hi y') : RRel w (wr.setCell ⟨w.heap.size + 1 + 1 + 1, 1, none⟩ (.int .u64 (lo y' : Nat))) h l x y' :=
  ⟨R.a.other (by simp <;> omega) _, R.o.other (by simp <;> omega) _, R.q.other (by simp <;> omega) _, by rw [← e1]; exact R.r.lo _, R.below.setCell (by simp <;> omega) _⟩
theorem RRel.drew {w wr : World} {h l x y : Nat} (R : RRel w wr h l x y) : RRel w wr.drew h l x y := ⟨R.a.drew, R.o.drew, R.q.drew, R.r.drew, R.below.drew⟩

theorem RRel.all {w wr : World} {h l x y : Nat} (R : RRel w wr h l x y) : wr.cell? ⟨w.heap.size + 1 + 1 + 1, 1, none⟩ = some (.int .u64 (lo y : Nat)) ∧ wr.cell? ⟨w.heap.size, 0, none⟩ = some (.int .u64 h) ∧ wr.cell? ⟨w.heap.size, 1, none⟩ = some (.int .u64 l) ∧ wr.frozen? ⟨w.heap.size + 1 + 1 + 1, 1, none⟩ = false ∧ RRel w wr h l x y :=
  ⟨R.r.c1, R.a.c0, R.a.c1, R.r.f1, R⟩
theorem vl_word (r : Nat) (hr : r < 340282366920938463463374607431768211456) : vl (Nm.hi r) (lo r) = r := by rw [vl_hi_lo, Nat.mod_eq_of_lt hr]
theorem shl1 (r : Nat) (hr : r < 18446744073709551616) (w : World) :
    Calls Try.prog 40 #[.agg #[.int .u64 (Nm.hi r : Nat), .int .u64 (lo r : Nat)], .int .i64 1] w fun e w' => e = .returned (.agg #[.int .u64 (Nm.hi (r * 2) : Nat), .int .u64 (lo (r * 2) : Nat)]) ∧ Below w.heap.size w w' := by
  have c := shln (Nm.hi r) (lo r) 1 (lo_lt r) (by omega) w
  rw [vl_word r (by omega), Nat.pow_one] at c
  exact c
theorem even_up (r b : Nat) (hr : r < 18446744073709551616) (hb : b < 2) : Nm.hi (r * 2) = Nm.hi (r * 2 + b) ∧ IntKind.u64.wrap ((lo (r * 2) : Nat) + (b : Int)) = ((lo (r * 2 + b) : Nat) : Int) := by
  have e : lo (r * 2) + b = lo (r * 2 + b) := by unfold lo; omega
  refine ⟨by unfold Nm.hi; omega, ?_⟩
  rw [Bt.addN, e]
  exact Bt.wrapN _ (lo_lt _)
theorem less_to (x m : Nat) (hx : x < 340282366920938463463374607431768211456) (hm : m < 18446744073709551616) (b : Bool) (hb : decide (x < m) = b) (w : World) :
    Calls Try.prog 42 #[.agg #[.int .u64 (Nm.hi x : Nat), .int .u64 (lo x : Nat)], .agg #[.int .u64 0, .int .u64 m]] w fun e w' => e = .returned (.bool b) ∧ Below w.heap.size w w' := by
  have c := less (Nm.hi x) (lo x) 0 m (lo_lt x) hm w
  rw [vl_word x hx, vl0, hb] at c
  exact c
theorem sub_to (x m : Nat) (hx : x < 340282366920938463463374607431768211456) (hm : m < 18446744073709551616) (hge : ¬ x < m) (w : World) :
    Calls Try.prog 43 #[.agg #[.int .u64 (Nm.hi x : Nat), .int .u64 (lo x : Nat)], .agg #[.int .u64 0, .int .u64 m]] w fun e w' => e = .returned (.tuple #[.agg #[.int .u64 (Nm.hi (x - m) : Nat), .int .u64 (lo (x - m) : Nat)], .int .u64 0]) ∧ Below w.heap.size w w' := by
  have c := sub (Nm.hi x) (lo x) 0 m (hi_lt x) (lo_lt x) (by decide) hm w
  rw [vl_word x hx, vl0, if_neg hge] at c
  have e := hi_same (x + 340282366920938463463374607431768211456 - m) (x - m) (by omega)
  rw [e.1, e.2] at c
  exact c
theorem set_to (q i : Nat) (hq : q < 340282366920938463463374607431768211456) (hi : i < 128) (h0 : q / 2 ^ i % 2 = 0) (w : World) :
    Calls Try.prog 44 #[.agg #[.int .u64 (Nm.hi q : Nat), .int .u64 (lo q : Nat)], .int .i64 i] w fun e w' => e = .returned (.agg #[.int .u64 (Nm.hi (q + 2 ^ i) : Nat), .int .u64 (lo (q + 2 ^ i) : Nat)]) ∧ Below w.heap.size w w' := by
  have c := set (Nm.hi q) (lo q) i (hi_lt q) (lo_lt q) hi (by rw [vl_word q hq]; exact h0) w
  rw [vl_word q hq] at c
  exact c
theorem RInv.q_le {v m j q r : Nat} (h : RInv v m j q r) : q ≤ v := by
  rw [h.hq]
  exact Nat.le_trans (Nat.mul_le_mul_right _ (Nat.div_le_self _ _)) (Nat.div_mul_le_self _ _)

set_option maxHeartbeats 1000000 in
set_option maxRecDepth 100000 in
theorem rem (h l m : Nat) (hh : h < 18446744073709551616) (hl : l < 18446744073709551616) (hm : m < 18446744073709551616) (h0 : 0 < m) (w : World) :
    Calls Try.prog 13 #[.agg #[.int .u64 h, .int .u64 l], .int .u64 m] w fun e w' => e = .returned (.tuple #[.agg #[.int .u64 (Nm.hi (vl h l / m) : Nat), .int .u64 (lo (vl h l / m) : Nat)], .int .u64 ((vl h l % m : Nat) : Int)]) ∧ Below w.heap.size w w' := by
  go_enter Try.func13, Try.ntmps13
  go_wp2_with fail
  go_loopg [8] 128 (fun k v8 wr => ∃ q r : Nat, v8 = .int .i64 ((k : Int) - 1) ∧ k ≤ 128 ∧ RInv (vl h l) m k q r ∧ RRel w wr h l q r)
  case atStart =>
    exact ⟨0, 0, rfl, by omega, rinv_start _ _ (vl_lt h l hh hl), (((Two.fresh w h l _).alloc _).alloc _).alloc _, Two.cast (((Two.fresh (w.alloc _) 0 0 _).alloc _).alloc _) (by simp), Two.cast ((Two.fresh ((w.alloc _).alloc _) 0 0 _).alloc _) (by simp), Two.cast (Two.fresh (((w.alloc _).alloc _).alloc _) 0 0 _) (by simp),
      ((((Below.refl _ _).alloc (Nat.le_refl _) _).alloc (by simp) _).alloc (by simp <;> omega) _).alloc (by simp <;> omega) _⟩
  case round =>
    obtain ⟨q, r, rfl, hk, I, R⟩ := hrel
    by_cases hk0 : gk = 0
    · subst hk0
      obtain ⟨eq, er⟩ := rinv_end _ _ _ _ I
      have HQ := Lib.hid eq
      have HR := Lib.hid er
      have rl : lo r = r := by
        have : r < m := by rw [er]; exact Nat.mod_lt _ h0
        unfold lo
        omega
      have RL := Lib.hid rl
      clear I eq er rl
      have q0 := R.q.c0
      have q1 := R.q.c1
      have r1 := R.r.c1
      have o0 := R.o.c0
      have o1 := R.o.c1
      have o2 := R.o.f0
      have o3 := R.o.f1
      go_wp2_with fail
      go_region
      go_wp2
      exact bodyPost_ret (v := .tuple #[.agg #[.int .u64 (Nm.hi q : Nat), .int .u64 (lo q : Nat)], .int .u64 (lo r : Nat)]) (by simp [results, Try.results13, go_sem, o0, o1]) rfl ⟨by rw [RL.out, HQ.out, HR.out], ((R.below.setCell (by simp <;> omega) _).setCell (by simp <;> omega) _).drew⟩
    · obtain ⟨i, rfl⟩ : ∃ i, gk = i + 1 := ⟨gk - 1, by omega⟩
      have e8 : ((i + 1 : Nat) : Int) - 1 = (i : Int) := by omega
      rw [e8]
      clear e8 hk0
      obtain ⟨b, hbv⟩ : ∃ b, b = vl h l / 2 ^ i % 2 := ⟨_, rfl⟩
      obtain ⟨hrm, hb2, hqb, IL, IG⟩ := rinv_step (vl h l) m i q r b h0 I hbv
      have hqv := Nat.lt_of_le_of_lt I.q_le (vl_lt h l hh hl)
      have SH := Lib.hid (fun W => shl1 r (by omega) W)
      have BT := Lib.hid (fun W => bit h l i hl (by omega) W)
      rw [← hbv] at BT
      have ev := even_up r b (by omega) hb2
      have E1 := Lib.hid ev.1
      have ew := ev.2
      have hx : r * 2 + b < 340282366920938463463374607431768211456 := by omega
      have HL := Lib.hid IL
      have HG := Lib.hid IG
      have HB := Lib.hid hqb
      clear hbv I ev IL IG hqb
      generalize r * 2 + b = x at *
      generalize r * 2 = y at *
      have i0 : (0 : Int) ≤ (i : Int) := by omega
      have p0 := R.r.c0
      have p1 := R.r.c1
      go_wp2_with fail
      refine (SH.out _).mono ?_
      rintro e w1 ⟨rfl, hb1⟩
      have R1 := R.step hb1
      have c0 := R1.r.c0
      have c1 := R1.r.c1
      have c2 := R1.r.f0
      have c3 := R1.r.f1
      have R2 := R1.putR y
      clear R hb1 SH p0 p1
      go_wp2_with fail
      clear c0 c1 c2 c3 R1
      generalize (w1.setCell ⟨w.heap.size + 1 + 1 + 1, 0, none⟩ (.int .u64 (Nm.hi y : Nat))).setCell ⟨w.heap.size + 1 + 1 + 1, 1, none⟩ (.int .u64 (lo y : Nat)) = w2 at R2 ⊢
      have c1 := R2.r.c1
      have a0 := R2.a.c0
      have a1 := R2.a.c1
      go_region_with (go_at_call 41; refine (BT.out _).mono ?_; rintro e w3 ⟨rfl, hb3⟩; have R3 := RRel.step (RRel.drew R2) hb3; have k1 := R3.r.c1; have k3 := R3.r.f1; have k4 := R3.a.c0; have k5 := R3.a.c1)
      all_goals as_aux_lemma =>
        have R4 := R3.putL E1.out
        clear c1 a0 a1 k1 k3 k4 k5 R2 R3 hb3 BT
        by_cases hlt : x < m
        · as_aux_lemma =>
          have LS := Lib.hid (fun W => less_to x m hx hm true (by simp [hlt]) W)
          have I2 := HL.out hlt
          clear HL HG hlt
          have c0 := R4.r.c0
          have c1 := R4.r.c1
          go_wp2_with fail
          refine (LS.out _).mono ?_
          rintro e w5 ⟨rfl, hb5⟩
          have R5 := R4.step hb5
          go_wp2_with fail
          go_roundg i
          case measure => omega
          case rel => exact ⟨q, x, rfl, by omega, I2, R5⟩
        · as_aux_lemma =>
          have LS := Lib.hid (fun W => less_to x m hx hm false (by simp [hlt]) W)
          have SB := Lib.hid (fun W => sub_to x m hx hm hlt W)
          have ST := Lib.hid (fun W => set_to q i hqv (by omega) HB.out W)
          have I2 := HG.out hlt
          clear HL HG hlt
          have c0 := R4.r.c0
          have c1 := R4.r.c1
          go_wp2_with fail
          refine (LS.out _).mono ?_
          rintro e w5 ⟨rfl, hb5⟩
          have R5 := R4.step hb5
          clear c0 c1
          have c0 := R5.r.c0
          have c1 := R5.r.c1
          go_wp2_with fail
          refine (SB.out _).mono ?_
          rintro e w6 ⟨rfl, hb6⟩
          clear c0 c1
          have R6 := R5.step hb6
          have c0 := R6.r.c0
          have c1 := R6.r.c1
          have c2 := R6.r.f0
          have c3 := R6.r.f1
          have z0 := World.block_lt_of_cell? w6 _ c0
          have R7 := (R6.putR (x - m)).alloc (.cells #[.int .u64 (Nm.hi (x - m) : Nat), .int .u64 (lo (x - m) : Nat)] 24)
          have q0 := R7.q.c0
          have q1 := R7.q.c1
          clear R4 R5 R6 LS SB hb5 hb6
          go_wp2_with fail
          refine (ST.out _).mono ?_
          rintro e w8 ⟨rfl, hb8⟩
          have R8 := R7.step hb8
          have k0 := R8.q.c0
          have k1 := R8.q.c1
          have k2 := R8.q.f0
          have k3 := R8.q.f1
          clear R7 q0 q1 c0 c1 c2 c3 ST hb8
          go_wp2_with fail
          go_roundg i
          case measure => omega
          case rel => exact ⟨q + 2 ^ i, x - m, rfl, by omega, I2, R8.putQ _⟩
end Rf
end Go.Proofs.Ytkbhbnadkoainaa
