/- WideSums: of every two wide numbers the law of sums, differences and comparing answers true, and changes nothing. No condition. -/
import Derived.Test.YtopbhomodlpnmaaFrame
import Derived.Test.YtopbhomodlpnmaaAwake
import Derived.Test.YtopbhomodlpnmaaRefE
import Derived.Test.YtopbhomodlpnmaaWideB
set_option linter.unusedVariables false
namespace Go.Proofs.Ytopbhomodlpnmaa.wideSums
open Go.ChangeShapes Go.WideShapes Go.ChangeAt Go.RowKit
open Nm

theorem back_num (v1 v2 : Nat) (h1 : v1 < 340282366920938463463374607431768211456) (h2 : v2 < 340282366920938463463374607431768211456) :
    ((v1 + 340282366920938463463374607431768211456 - v2) % 340282366920938463463374607431768211456 + v2) % 340282366920938463463374607431768211456 = v1 := by omega

/-- What the two numbers' comparing comes to, in each of its three ways. -/
structure Way (v1 v2 : Nat) (b1 b2 : Bool) (c : Int) : Prop where
  l1 : decide (v1 < v2) = b1
  l2 : decide (v2 < v1) = b2
  c : Wd.cmp v1 v2 = c
theorem ways (v1 v2 : Nat) : Way v1 v2 true false (-1) ∨ Way v1 v2 false false 0 ∨ Way v1 v2 false true 1 := by
  rcases Nat.lt_trichotomy v1 v2 with h | h | h
  · exact Or.inl ⟨by simp [h], by simp; omega, by unfold Wd.cmp; rw [if_neg (by omega), if_pos h]⟩
  · exact Or.inr (Or.inl ⟨by simp; omega, by simp; omega, by unfold Wd.cmp; rw [if_pos h]⟩)
  · exact Or.inr (Or.inr ⟨by simp; omega, by simp [h], by unfold Wd.cmp; rw [if_neg (by omega), if_neg (by omega)]⟩)

set_option maxHeartbeats 1000000 in
theorem walk (h1 l1 h2 l2 : Nat) (a1 : h1 < 18446744073709551616) (b1 : l1 < 18446744073709551616) (a2 : h2 < 18446744073709551616) (b2 : l2 < 18446744073709551616) (w : World) :
    Calls Try.prog 4 #[.agg #[.int .u64 h1, .int .u64 l1], .agg #[.int .u64 h2, .int .u64 l2]] w fun e w' => e = .returned (.bool true) ∧ Below w.heap.size w w' := by
  have A := Lib.hid (fun W => Wd.add h1 l1 h2 l2 a1 b1 a2 b2 W)
  have RA := Lib.hid (fun W => Rf.add h1 l1 h2 l2 a1 b1 a2 b2 W)
  have S := Lib.hid (fun W => Wd.sub h1 l1 h2 l2 a1 b1 a2 b2 W)
  have RS := Lib.hid (fun W => Rf.sub h1 l1 h2 l2 a1 b1 a2 b2 W)
  have K := Lib.hid (fun W => Wd.add (hi (vl h1 l1 + 340282366920938463463374607431768211456 - vl h2 l2)) (lo (vl h1 l1 + 340282366920938463463374607431768211456 - vl h2 l2)) h2 l2 (hi_lt _) (lo_lt _) a2 b2 W)
  have L1 := Lib.hid (fun W => Rf.less h1 l1 h2 l2 b1 b2 W)
  have L2 := Lib.hid (fun W => Rf.less h2 l2 h1 l1 b2 b1 W)
  have CM := Lib.hid (fun W => Wd.compare h1 l1 h2 l2 a1 b1 a2 b2 W)
  have v1 := vl_lt h1 l1 a1 b1
  have v2 := vl_lt h2 l2 a2 b2
  have e1 : hi (vl (hi (vl h1 l1 + 340282366920938463463374607431768211456 - vl h2 l2)) (lo (vl h1 l1 + 340282366920938463463374607431768211456 - vl h2 l2)) + vl h2 l2) = h1 := by
    rw [vl_hi_lo, ← Rf.hi_mod, back_num _ _ v1 v2, hi_vl _ _ a1 b1]
  have e2 : lo (vl (hi (vl h1 l1 + 340282366920938463463374607431768211456 - vl h2 l2)) (lo (vl h1 l1 + 340282366920938463463374607431768211456 - vl h2 l2)) + vl h2 l2) = l1 := by
    rw [vl_hi_lo, ← Rf.lo_mod, back_num _ _ v1 v2, lo_vl _ _ b1]
  rw [e1, e2] at K
  have ways := ways (vl h1 l1) (vl h2 l2)
  clear e1 e2 v1 v2 a1 b1 a2 b2
  generalize (vl (hi (vl h1 l1 + 340282366920938463463374607431768211456 - vl h2 l2)) (lo (vl h1 l1 + 340282366920938463463374607431768211456 - vl h2 l2)) + vl h2 l2) / 340282366920938463463374607431768211456 = kc at K
  generalize hi (vl h1 l1 + vl h2 l2) = s1 at A RA
  generalize lo (vl h1 l1 + vl h2 l2) = s2 at A RA
  generalize (vl h1 l1 + vl h2 l2) / 340282366920938463463374607431768211456 = cc at A RA
  generalize hi (vl h1 l1 + 340282366920938463463374607431768211456 - vl h2 l2) = d1 at S RS K
  generalize lo (vl h1 l1 + 340282366920938463463374607431768211456 - vl h2 l2) = d2 at S RS K
  generalize (if vl h1 l1 < vl h2 l2 then 1 else 0) = bw at S RS
  go_enter Try.func4, Try.ntmps4
  go_wp2_with fail
  refine (Wd.awake _).mono ?_
  rintro e w0 ⟨rfl, hb0⟩
  have Ta0 := Rf.Two.below ((Rf.Two.fresh w h1 l1 _).alloc _) hb0
  have Tb0 := Rf.Two.cast (Rf.Two.below (Rf.Two.fresh (w.alloc _) h2 l2 _) hb0) (show _ = w.heap.size + 1 from by simp)
  have hbl0 : Below w.heap.size w w0 := (((Below.refl w.heap.size w).alloc (Nat.le_refl _) _).alloc (by simp) _).trans (hb0.mono (by simp <;> omega))
  clear hb0
  have Tac00 := Ta0.c0
  have Tac10 := Ta0.c1
  have Taz0 := World.block_lt_of_cell? w0 _ Ta0.c0
  have Tbc00 := Tb0.c0
  have Tbc10 := Tb0.c1
  have Tbz0 := World.block_lt_of_cell? w0 _ Tb0.c0
  go_wp2_with fail
  refine (A.out _).mono ?_
  rintro e w1 ⟨rfl, hb1⟩
  have Ta1 := Ta0.below hb1
  have Tb1 := Tb0.below hb1
  have hbl1 := hbl0.trans (hb1.mono hbl0.size)
  clear hb1 Ta0 Tb0 hbl0 A
  clear Tac00 Tac10 Taz0 Tbc00 Tbc10 Tbz0
  have Tac01 := Ta1.c0
  have Tac11 := Ta1.c1
  have Taz1 := World.block_lt_of_cell? w1 _ Ta1.c0
  have Tbc01 := Tb1.c0
  have Tbc11 := Tb1.c1
  have Tbz1 := World.block_lt_of_cell? w1 _ Tb1.c0
  go_wp2_with fail
  refine (RA.out _).mono ?_
  rintro e w2 ⟨rfl, hb2⟩
  have Ta2 := (Ta1.alloc _).below hb2
  have Tb2 := (Tb1.alloc _).below hb2
  have T02 := (Rf.Two.fresh w1 s1 s2 _).below hb2
  have hbl2 := (hbl1.alloc hbl1.size _).trans (hb2.mono (by have := hbl1.size; simp; omega))
  clear hb2 Ta1 Tb1 hbl1 RA
  clear Tac01 Tac11 Taz1 Tbc01 Tbc11 Tbz1
  have Tac02 := Ta2.c0
  have Tac12 := Ta2.c1
  have Taz2 := World.block_lt_of_cell? w2 _ Ta2.c0
  have Tbc02 := Tb2.c0
  have Tbc12 := Tb2.c1
  have Tbz2 := World.block_lt_of_cell? w2 _ Tb2.c0
  have T0c02 := T02.c0
  have T0c12 := T02.c1
  have T0z2 := World.block_lt_of_cell? w2 _ T02.c0
  go_wp2_with fail
  refine (S.out _).mono ?_
  rintro e w3 ⟨rfl, hb3⟩
  have Ta3 := (Ta2.alloc _).below hb3
  have Tb3 := (Tb2.alloc _).below hb3
  have T03 := (T02.alloc _).below hb3
  have T13 := (Rf.Two.fresh w2 s1 s2 _).below hb3
  have hbl3 := (hbl2.alloc hbl2.size _).trans (hb3.mono (by have := hbl2.size; simp; omega))
  clear hb3 Ta2 Tb2 T02 hbl2 S
  clear Tac02 Tac12 Taz2 Tbc02 Tbc12 Tbz2 T0c02 T0c12 T0z2
  have Tac03 := Ta3.c0
  have Tac13 := Ta3.c1
  have Taz3 := World.block_lt_of_cell? w3 _ Ta3.c0
  have Tbc03 := Tb3.c0
  have Tbc13 := Tb3.c1
  have Tbz3 := World.block_lt_of_cell? w3 _ Tb3.c0
  have T0c03 := T03.c0
  have T0c13 := T03.c1
  have T0z3 := World.block_lt_of_cell? w3 _ T03.c0
  have T1c03 := T13.c0
  have T1c13 := T13.c1
  have T1z3 := World.block_lt_of_cell? w3 _ T13.c0
  go_wp2_with fail
  refine (RS.out _).mono ?_
  rintro e w4 ⟨rfl, hb4⟩
  have Ta4 := (Ta3.alloc _).below hb4
  have Tb4 := (Tb3.alloc _).below hb4
  have T04 := (T03.alloc _).below hb4
  have T14 := (T13.alloc _).below hb4
  have T24 := (Rf.Two.fresh w3 d1 d2 _).below hb4
  have hbl4 := (hbl3.alloc hbl3.size _).trans (hb4.mono (by have := hbl3.size; simp; omega))
  clear hb4 Ta3 Tb3 T03 T13 hbl3 RS
  clear Tac03 Tac13 Taz3 Tbc03 Tbc13 Tbz3 T0c03 T0c13 T0z3 T1c03 T1c13 T1z3
  have Tac04 := Ta4.c0
  have Tac14 := Ta4.c1
  have Taz4 := World.block_lt_of_cell? w4 _ Ta4.c0
  have Tbc04 := Tb4.c0
  have Tbc14 := Tb4.c1
  have Tbz4 := World.block_lt_of_cell? w4 _ Tb4.c0
  have T0c04 := T04.c0
  have T0c14 := T04.c1
  have T0z4 := World.block_lt_of_cell? w4 _ T04.c0
  have T1c04 := T14.c0
  have T1c14 := T14.c1
  have T1z4 := World.block_lt_of_cell? w4 _ T14.c0
  have T2c04 := T24.c0
  have T2c14 := T24.c1
  have T2z4 := World.block_lt_of_cell? w4 _ T24.c0
  go_wp2_with fail
  refine (K.out _).mono ?_
  rintro e w5 ⟨rfl, hb5⟩
  have Ta5 := (Ta4.alloc _).below hb5
  have Tb5 := (Tb4.alloc _).below hb5
  have T05 := (T04.alloc _).below hb5
  have T15 := (T14.alloc _).below hb5
  have T25 := (T24.alloc _).below hb5
  have T35 := (Rf.Two.fresh w4 d1 d2 _).below hb5
  have hbl5 := (hbl4.alloc hbl4.size _).trans (hb5.mono (by have := hbl4.size; simp; omega))
  clear hb5 Ta4 Tb4 T04 T14 T24 hbl4 K
  clear Tac04 Tac14 Taz4 Tbc04 Tbc14 Tbz4 T0c04 T0c14 T0z4 T1c04 T1c14 T1z4 T2c04 T2c14 T2z4
  have Tac05 := Ta5.c0
  have Tac15 := Ta5.c1
  have Taz5 := World.block_lt_of_cell? w5 _ Ta5.c0
  have Tbc05 := Tb5.c0
  have Tbc15 := Tb5.c1
  have Tbz5 := World.block_lt_of_cell? w5 _ Tb5.c0
  have T0c05 := T05.c0
  have T0c15 := T05.c1
  have T0z5 := World.block_lt_of_cell? w5 _ T05.c0
  have T1c05 := T15.c0
  have T1c15 := T15.c1
  have T1z5 := World.block_lt_of_cell? w5 _ T15.c0
  have T2c05 := T25.c0
  have T2c15 := T25.c1
  have T2z5 := World.block_lt_of_cell? w5 _ T25.c0
  have T3c05 := T35.c0
  have T3c15 := T35.c1
  have T3z5 := World.block_lt_of_cell? w5 _ T35.c0
  rcases ways with W | W | W
  · as_aux_lemma =>
    rw [W.l1] at L1
    rw [W.l2] at L2
    rw [W.c] at CM
    clear W
    go_wp2_with fail
    refine (L1.out _).mono ?_
    rintro e w6 ⟨rfl, hb6⟩
    have Ta6 := (Ta5.alloc _).below hb6
    have Tb6 := (Tb5.alloc _).below hb6
    have T06 := (T05.alloc _).below hb6
    have T16 := (T15.alloc _).below hb6
    have T26 := (T25.alloc _).below hb6
    have T36 := (T35.alloc _).below hb6
    have T46 := (Rf.Two.fresh w5 h1 l1 _).below hb6
    have hbl6 := (hbl5.alloc hbl5.size _).trans (hb6.mono (by have := hbl5.size; simp; omega))
    clear hb6 Ta5 Tb5 T05 T15 T25 T35 hbl5
    clear Tac05 Tac15 Taz5 Tbc05 Tbc15 Tbz5 T0c05 T0c15 T0z5 T1c05 T1c15 T1z5 T2c05 T2c15 T2z5 T3c05 T3c15 T3z5
    have Tac06 := Ta6.c0
    have Tac16 := Ta6.c1
    have Taz6 := World.block_lt_of_cell? w6 _ Ta6.c0
    have Tbc06 := Tb6.c0
    have Tbc16 := Tb6.c1
    have Tbz6 := World.block_lt_of_cell? w6 _ Tb6.c0
    have T0c06 := T06.c0
    have T0c16 := T06.c1
    have T0z6 := World.block_lt_of_cell? w6 _ T06.c0
    have T1c06 := T16.c0
    have T1c16 := T16.c1
    have T1z6 := World.block_lt_of_cell? w6 _ T16.c0
    have T2c06 := T26.c0
    have T2c16 := T26.c1
    have T2z6 := World.block_lt_of_cell? w6 _ T26.c0
    have T3c06 := T36.c0
    have T3c16 := T36.c1
    have T3z6 := World.block_lt_of_cell? w6 _ T36.c0
    have T4c06 := T46.c0
    have T4c16 := T46.c1
    have T4z6 := World.block_lt_of_cell? w6 _ T46.c0
    go_wp2_with fail
    refine (L2.out _).mono ?_
    rintro e w7 ⟨rfl, hb7⟩
    have Ta7 := (Ta6).below hb7
    have Tb7 := (Tb6).below hb7
    have T07 := (T06).below hb7
    have T17 := (T16).below hb7
    have T27 := (T26).below hb7
    have T37 := (T36).below hb7
    have T47 := (T46).below hb7
    have hbl7 := hbl6.trans (hb7.mono hbl6.size)
    clear hb7 Ta6 Tb6 T06 T16 T26 T36 T46 hbl6
    clear Tac06 Tac16 Taz6 Tbc06 Tbc16 Tbz6 T0c06 T0c16 T0z6 T1c06 T1c16 T1z6 T2c06 T2c16 T2z6 T3c06 T3c16 T3z6 T4c06 T4c16 T4z6
    have Tac07 := Ta7.c0
    have Tac17 := Ta7.c1
    have Taz7 := World.block_lt_of_cell? w7 _ Ta7.c0
    have Tbc07 := Tb7.c0
    have Tbc17 := Tb7.c1
    have Tbz7 := World.block_lt_of_cell? w7 _ Tb7.c0
    have T0c07 := T07.c0
    have T0c17 := T07.c1
    have T0z7 := World.block_lt_of_cell? w7 _ T07.c0
    have T1c07 := T17.c0
    have T1c17 := T17.c1
    have T1z7 := World.block_lt_of_cell? w7 _ T17.c0
    have T2c07 := T27.c0
    have T2c17 := T27.c1
    have T2z7 := World.block_lt_of_cell? w7 _ T27.c0
    have T3c07 := T37.c0
    have T3c17 := T37.c1
    have T3z7 := World.block_lt_of_cell? w7 _ T37.c0
    have T4c07 := T47.c0
    have T4c17 := T47.c1
    have T4z7 := World.block_lt_of_cell? w7 _ T47.c0
    go_wp2_with fail
    refine (CM.out _).mono ?_
    rintro e w8 ⟨rfl, hb8⟩
    have Ta8 := (Ta7).below hb8
    have Tb8 := (Tb7).below hb8
    have T08 := (T07).below hb8
    have T18 := (T17).below hb8
    have T28 := (T27).below hb8
    have T38 := (T37).below hb8
    have T48 := (T47).below hb8
    have hbl8 := hbl7.trans (hb8.mono hbl7.size)
    clear hb8 Ta7 Tb7 T07 T17 T27 T37 T47 hbl7
    clear Tac07 Tac17 Taz7 Tbc07 Tbc17 Tbz7 T0c07 T0c17 T0z7 T1c07 T1c17 T1z7 T2c07 T2c17 T2z7 T3c07 T3c17 T3z7 T4c07 T4c17 T4z7
    have Tac08 := Ta8.c0
    have Tac18 := Ta8.c1
    have Taz8 := World.block_lt_of_cell? w8 _ Ta8.c0
    have Tbc08 := Tb8.c0
    have Tbc18 := Tb8.c1
    have Tbz8 := World.block_lt_of_cell? w8 _ Tb8.c0
    have T0c08 := T08.c0
    have T0c18 := T08.c1
    have T0z8 := World.block_lt_of_cell? w8 _ T08.c0
    have T1c08 := T18.c0
    have T1c18 := T18.c1
    have T1z8 := World.block_lt_of_cell? w8 _ T18.c0
    have T2c08 := T28.c0
    have T2c18 := T28.c1
    have T2z8 := World.block_lt_of_cell? w8 _ T28.c0
    have T3c08 := T38.c0
    have T3c18 := T38.c1
    have T3z8 := World.block_lt_of_cell? w8 _ T38.c0
    have T4c08 := T48.c0
    have T4c18 := T48.c1
    have T4z8 := World.block_lt_of_cell? w8 _ T48.c0
    go_wp2
    go_ret
    exact ⟨by simp [go_sem], hbl8⟩
  · as_aux_lemma =>
    rw [W.l1] at L1
    rw [W.l2] at L2
    rw [W.c] at CM
    clear W
    go_wp2_with fail
    refine (L1.out _).mono ?_
    rintro e w6 ⟨rfl, hb6⟩
    have Ta6 := (Ta5.alloc _).below hb6
    have Tb6 := (Tb5.alloc _).below hb6
    have T06 := (T05.alloc _).below hb6
    have T16 := (T15.alloc _).below hb6
    have T26 := (T25.alloc _).below hb6
    have T36 := (T35.alloc _).below hb6
    have T46 := (Rf.Two.fresh w5 h1 l1 _).below hb6
    have hbl6 := (hbl5.alloc hbl5.size _).trans (hb6.mono (by have := hbl5.size; simp; omega))
    clear hb6 Ta5 Tb5 T05 T15 T25 T35 hbl5
    clear Tac05 Tac15 Taz5 Tbc05 Tbc15 Tbz5 T0c05 T0c15 T0z5 T1c05 T1c15 T1z5 T2c05 T2c15 T2z5 T3c05 T3c15 T3z5
    have Tac06 := Ta6.c0
    have Tac16 := Ta6.c1
    have Taz6 := World.block_lt_of_cell? w6 _ Ta6.c0
    have Tbc06 := Tb6.c0
    have Tbc16 := Tb6.c1
    have Tbz6 := World.block_lt_of_cell? w6 _ Tb6.c0
    have T0c06 := T06.c0
    have T0c16 := T06.c1
    have T0z6 := World.block_lt_of_cell? w6 _ T06.c0
    have T1c06 := T16.c0
    have T1c16 := T16.c1
    have T1z6 := World.block_lt_of_cell? w6 _ T16.c0
    have T2c06 := T26.c0
    have T2c16 := T26.c1
    have T2z6 := World.block_lt_of_cell? w6 _ T26.c0
    have T3c06 := T36.c0
    have T3c16 := T36.c1
    have T3z6 := World.block_lt_of_cell? w6 _ T36.c0
    have T4c06 := T46.c0
    have T4c16 := T46.c1
    have T4z6 := World.block_lt_of_cell? w6 _ T46.c0
    go_wp2_with fail
    refine (L2.out _).mono ?_
    rintro e w7 ⟨rfl, hb7⟩
    have Ta7 := (Ta6).below hb7
    have Tb7 := (Tb6).below hb7
    have T07 := (T06).below hb7
    have T17 := (T16).below hb7
    have T27 := (T26).below hb7
    have T37 := (T36).below hb7
    have T47 := (T46).below hb7
    have hbl7 := hbl6.trans (hb7.mono hbl6.size)
    clear hb7 Ta6 Tb6 T06 T16 T26 T36 T46 hbl6
    clear Tac06 Tac16 Taz6 Tbc06 Tbc16 Tbz6 T0c06 T0c16 T0z6 T1c06 T1c16 T1z6 T2c06 T2c16 T2z6 T3c06 T3c16 T3z6 T4c06 T4c16 T4z6
    have Tac07 := Ta7.c0
    have Tac17 := Ta7.c1
    have Taz7 := World.block_lt_of_cell? w7 _ Ta7.c0
    have Tbc07 := Tb7.c0
    have Tbc17 := Tb7.c1
    have Tbz7 := World.block_lt_of_cell? w7 _ Tb7.c0
    have T0c07 := T07.c0
    have T0c17 := T07.c1
    have T0z7 := World.block_lt_of_cell? w7 _ T07.c0
    have T1c07 := T17.c0
    have T1c17 := T17.c1
    have T1z7 := World.block_lt_of_cell? w7 _ T17.c0
    have T2c07 := T27.c0
    have T2c17 := T27.c1
    have T2z7 := World.block_lt_of_cell? w7 _ T27.c0
    have T3c07 := T37.c0
    have T3c17 := T37.c1
    have T3z7 := World.block_lt_of_cell? w7 _ T37.c0
    have T4c07 := T47.c0
    have T4c17 := T47.c1
    have T4z7 := World.block_lt_of_cell? w7 _ T47.c0
    go_wp2_with fail
    refine (CM.out _).mono ?_
    rintro e w8 ⟨rfl, hb8⟩
    have Ta8 := (Ta7).below hb8
    have Tb8 := (Tb7).below hb8
    have T08 := (T07).below hb8
    have T18 := (T17).below hb8
    have T28 := (T27).below hb8
    have T38 := (T37).below hb8
    have T48 := (T47).below hb8
    have hbl8 := hbl7.trans (hb8.mono hbl7.size)
    clear hb8 Ta7 Tb7 T07 T17 T27 T37 T47 hbl7
    clear Tac07 Tac17 Taz7 Tbc07 Tbc17 Tbz7 T0c07 T0c17 T0z7 T1c07 T1c17 T1z7 T2c07 T2c17 T2z7 T3c07 T3c17 T3z7 T4c07 T4c17 T4z7
    have Tac08 := Ta8.c0
    have Tac18 := Ta8.c1
    have Taz8 := World.block_lt_of_cell? w8 _ Ta8.c0
    have Tbc08 := Tb8.c0
    have Tbc18 := Tb8.c1
    have Tbz8 := World.block_lt_of_cell? w8 _ Tb8.c0
    have T0c08 := T08.c0
    have T0c18 := T08.c1
    have T0z8 := World.block_lt_of_cell? w8 _ T08.c0
    have T1c08 := T18.c0
    have T1c18 := T18.c1
    have T1z8 := World.block_lt_of_cell? w8 _ T18.c0
    have T2c08 := T28.c0
    have T2c18 := T28.c1
    have T2z8 := World.block_lt_of_cell? w8 _ T28.c0
    have T3c08 := T38.c0
    have T3c18 := T38.c1
    have T3z8 := World.block_lt_of_cell? w8 _ T38.c0
    have T4c08 := T48.c0
    have T4c18 := T48.c1
    have T4z8 := World.block_lt_of_cell? w8 _ T48.c0
    go_wp2
    go_ret
    exact ⟨by simp [go_sem], hbl8⟩
  · as_aux_lemma =>
    rw [W.l1] at L1
    rw [W.l2] at L2
    rw [W.c] at CM
    clear W
    go_wp2_with fail
    refine (L1.out _).mono ?_
    rintro e w6 ⟨rfl, hb6⟩
    have Ta6 := (Ta5.alloc _).below hb6
    have Tb6 := (Tb5.alloc _).below hb6
    have T06 := (T05.alloc _).below hb6
    have T16 := (T15.alloc _).below hb6
    have T26 := (T25.alloc _).below hb6
    have T36 := (T35.alloc _).below hb6
    have T46 := (Rf.Two.fresh w5 h1 l1 _).below hb6
    have hbl6 := (hbl5.alloc hbl5.size _).trans (hb6.mono (by have := hbl5.size; simp; omega))
    clear hb6 Ta5 Tb5 T05 T15 T25 T35 hbl5
    clear Tac05 Tac15 Taz5 Tbc05 Tbc15 Tbz5 T0c05 T0c15 T0z5 T1c05 T1c15 T1z5 T2c05 T2c15 T2z5 T3c05 T3c15 T3z5
    have Tac06 := Ta6.c0
    have Tac16 := Ta6.c1
    have Taz6 := World.block_lt_of_cell? w6 _ Ta6.c0
    have Tbc06 := Tb6.c0
    have Tbc16 := Tb6.c1
    have Tbz6 := World.block_lt_of_cell? w6 _ Tb6.c0
    have T0c06 := T06.c0
    have T0c16 := T06.c1
    have T0z6 := World.block_lt_of_cell? w6 _ T06.c0
    have T1c06 := T16.c0
    have T1c16 := T16.c1
    have T1z6 := World.block_lt_of_cell? w6 _ T16.c0
    have T2c06 := T26.c0
    have T2c16 := T26.c1
    have T2z6 := World.block_lt_of_cell? w6 _ T26.c0
    have T3c06 := T36.c0
    have T3c16 := T36.c1
    have T3z6 := World.block_lt_of_cell? w6 _ T36.c0
    have T4c06 := T46.c0
    have T4c16 := T46.c1
    have T4z6 := World.block_lt_of_cell? w6 _ T46.c0
    go_wp2_with fail
    refine (L2.out _).mono ?_
    rintro e w7 ⟨rfl, hb7⟩
    have Ta7 := (Ta6).below hb7
    have Tb7 := (Tb6).below hb7
    have T07 := (T06).below hb7
    have T17 := (T16).below hb7
    have T27 := (T26).below hb7
    have T37 := (T36).below hb7
    have T47 := (T46).below hb7
    have hbl7 := hbl6.trans (hb7.mono hbl6.size)
    clear hb7 Ta6 Tb6 T06 T16 T26 T36 T46 hbl6
    clear Tac06 Tac16 Taz6 Tbc06 Tbc16 Tbz6 T0c06 T0c16 T0z6 T1c06 T1c16 T1z6 T2c06 T2c16 T2z6 T3c06 T3c16 T3z6 T4c06 T4c16 T4z6
    have Tac07 := Ta7.c0
    have Tac17 := Ta7.c1
    have Taz7 := World.block_lt_of_cell? w7 _ Ta7.c0
    have Tbc07 := Tb7.c0
    have Tbc17 := Tb7.c1
    have Tbz7 := World.block_lt_of_cell? w7 _ Tb7.c0
    have T0c07 := T07.c0
    have T0c17 := T07.c1
    have T0z7 := World.block_lt_of_cell? w7 _ T07.c0
    have T1c07 := T17.c0
    have T1c17 := T17.c1
    have T1z7 := World.block_lt_of_cell? w7 _ T17.c0
    have T2c07 := T27.c0
    have T2c17 := T27.c1
    have T2z7 := World.block_lt_of_cell? w7 _ T27.c0
    have T3c07 := T37.c0
    have T3c17 := T37.c1
    have T3z7 := World.block_lt_of_cell? w7 _ T37.c0
    have T4c07 := T47.c0
    have T4c17 := T47.c1
    have T4z7 := World.block_lt_of_cell? w7 _ T47.c0
    go_wp2_with fail
    refine (CM.out _).mono ?_
    rintro e w8 ⟨rfl, hb8⟩
    have Ta8 := (Ta7).below hb8
    have Tb8 := (Tb7).below hb8
    have T08 := (T07).below hb8
    have T18 := (T17).below hb8
    have T28 := (T27).below hb8
    have T38 := (T37).below hb8
    have T48 := (T47).below hb8
    have hbl8 := hbl7.trans (hb8.mono hbl7.size)
    clear hb8 Ta7 Tb7 T07 T17 T27 T37 T47 hbl7
    clear Tac07 Tac17 Taz7 Tbc07 Tbc17 Tbz7 T0c07 T0c17 T0z7 T1c07 T1c17 T1z7 T2c07 T2c17 T2z7 T3c07 T3c17 T3z7 T4c07 T4c17 T4z7
    have Tac08 := Ta8.c0
    have Tac18 := Ta8.c1
    have Taz8 := World.block_lt_of_cell? w8 _ Ta8.c0
    have Tbc08 := Tb8.c0
    have Tbc18 := Tb8.c1
    have Tbz8 := World.block_lt_of_cell? w8 _ Tb8.c0
    have T0c08 := T08.c0
    have T0c18 := T08.c1
    have T0z8 := World.block_lt_of_cell? w8 _ T08.c0
    have T1c08 := T18.c0
    have T1c18 := T18.c1
    have T1z8 := World.block_lt_of_cell? w8 _ T18.c0
    have T2c08 := T28.c0
    have T2c18 := T28.c1
    have T2z8 := World.block_lt_of_cell? w8 _ T28.c0
    have T3c08 := T38.c0
    have T3c18 := T38.c1
    have T3z8 := World.block_lt_of_cell? w8 _ T38.c0
    have T4c08 := T48.c0
    have T4c18 := T48.c1
    have T4z8 := World.block_lt_of_cell? w8 _ T48.c0
    go_wp2
    go_ret
    exact ⟨by simp [go_sem], hbl8⟩

theorem cellsW : Try.prog.cellsOf 25 = 2 := by kernel_rfl

set_option maxRecDepth 100000 in
theorem lifted (os : Os) (started : os.Started) (H : Type) (enc : TypeId × Value → H) :
    ReturnsInHanded {} Try.checked os 4 .any (Rows.wideSumsSpec.pre6 enc Try.prog Try.f4 Rows.wideSumsRow.domain false) (Rows.wideSumsSpec.post enc Try.prog Try.f4 false true false false) := by
  refine returnsInHanded_of_change (C := Try.checked) Fr.own started (by kernel_rfl) Try.func4
    (ChangeSpec.witness6 (enc := enc) (C := Try.checked) false ⟨#[], #[.agg #[.int .u64 0, .int .u64 0], .agg #[.int .u64 0, .int .u64 0]], []⟩ 8 (by kernel_rfl) (by kernel_rfl) (by kernel_rfl) (by kernel_rfl)) ?_
  intro W base args ds gs before hval0 hW hcnd _
  have hval : ∀ (j : Nat) t v, Try.f4.params[j]? = some t → args[j]? = some v → Value.okWide Try.prog W .any base t v := hval0
  have hW' := hW
  obtain ⟨p, q, hA0, hV, rfl, hfz, hnd⟩ := hW
  have hA : DataW.TrodAll enc Try.prog W 0 (fun _ => true) true Try.f4.params.toList args.toList ds p := hA0
  obtain ⟨rfl, rfl⟩ := trodVars_none hV
  rw [Try.params4] at hA hval
  obtain ⟨v0, vs0, d0, ds0, p0, q0, hargs, rfl, rfl, h0, r0⟩ := trodAll_cons hA
  obtain ⟨v1, vs1, d1, ds1, p1, q1, rfl, rfl, rfl, h1, r1⟩ := trodAll_cons r0
  obtain ⟨rfl, rfl, rfl⟩ := trodAll_nil r1
  obtain rfl : args = #[v0, v1] := by cases args; simp_all
  obtain ⟨c00, c01, y00, y01, m0, rfl, rfl, rfl, hy00, hy01⟩ := Joins.open_agg2 Try.underlying25 (by kernel_rfl) cellsW (hval 0 25 v0 rfl rfl) h0
  obtain ⟨a0, e00, rfl, wa0⟩ := DataW.trod_int Try.underlying22 hy00
  obtain ⟨b0, e01, rfl, wb0⟩ := DataW.trod_int Try.underlying22 hy01
  simp at e00 e01
  subst e00 e01
  have ba0 : 0 ≤ a0 ∧ a0 ≤ 18446744073709551615 := by simpa [Lit.wf, IntKind.min, IntKind.max, IntKind.signed, IntKind.bits] using wa0
  have bb0 : 0 ≤ b0 ∧ b0 ≤ 18446744073709551615 := by simpa [Lit.wf, IntKind.min, IntKind.max, IntKind.signed, IntKind.bits] using wb0
  obtain ⟨p0h, rfl⟩ := Int.eq_ofNat_of_zero_le ba0.1
  obtain ⟨p0l, rfl⟩ := Int.eq_ofNat_of_zero_le bb0.1
  obtain ⟨c10, c11, y10, y11, m1, rfl, rfl, rfl, hy10, hy11⟩ := Joins.open_agg2 Try.underlying25 (by kernel_rfl) cellsW (hval 1 25 v1 rfl rfl) h1
  obtain ⟨a1, e10, rfl, wa1⟩ := DataW.trod_int Try.underlying22 hy10
  obtain ⟨b1, e11, rfl, wb1⟩ := DataW.trod_int Try.underlying22 hy11
  simp at e10 e11
  subst e10 e11
  have ba1 : 0 ≤ a1 ∧ a1 ≤ 18446744073709551615 := by simpa [Lit.wf, IntKind.min, IntKind.max, IntKind.signed, IntKind.bits] using wa1
  have bb1 : 0 ≤ b1 ∧ b1 ≤ 18446744073709551615 := by simpa [Lit.wf, IntKind.min, IntKind.max, IntKind.signed, IntKind.bits] using wb1
  obtain ⟨p1h, rfl⟩ := Int.eq_ofNat_of_zero_le ba1.1
  obtain ⟨p1l, rfl⟩ := Int.eq_ofNat_of_zero_le bb1.1
  simp only [List.append_nil] at hW'
  refine (walk p0h p0l p1h p1l (by omega) (by omega) (by omega) (by omega) W).mono fun e W' ⟨he, hb⟩ => ?_
  subst he
  exact ⟨_, rfl, Fr.law_post (tb := 4) hW' hA0 rfl rfl rfl Try.underlying4 (by rw [Try.params4]; intro t ht; simp at ht; rcases ht with rfl | rfl; all_goals exact ⟨by kernel_rfl, of_decide_eq_true (by kernel_rfl)⟩) hb⟩

theorem proved : Rows.WideSumsSaid :=
  OpenClaim.holds_of_wide 4 Try.f4 rfl rfl rfl rfl rfl rfl rfl ⟨rfl, rfl, rfl, rfl, rfl⟩ rfl rfl rfl rfl rfl (by kernel_rfl) Try.func4 (by kernel_rfl)
    (of_decide_eq_true (by kernel_rfl)) (by unfold Func.isWrapper; first | (rw [if_pos (by decide +kernel)]; kernel_rfl) | (rw [if_neg (by decide +kernel)]; exact ⟨rfl, rfl⟩))
    (fun os started H enc _ => lifted os started H enc)
end Go.Proofs.Ytopbhomodlpnmaa.wideSums
