/- PolyOps: of any two rows and any word the law of values, sums, differences, multiples, products and derivatives answers true, and changes nothing. -/
import Derived.Test.YtckaelgmokddkaaFrame
import Derived.Test.YtckaelgmokddkaaPolyG
set_option linter.unusedVariables false
namespace Go.Proofs.Ytckaelgmokddkaa.polyOps
open Go.ChangeShapes Go.WideShapes Go.ChangeAt Go.RowKit
open Ww Pn Nt Pl

/-- Rows that are the same polynomial are the same. -/
theorem same_po {c1 c2 : Nat → Nat} (A1 A2 : Option Addr) (k1 k2 : Nat) {z1 z2 : List Nat} (n1 : Nf 18446744069414584321 z1) (n2 : Nf 18446744069414584321 z2) (h1 : ∀ i, pl z1 i = c1 i % 18446744069414584321) (h2 : ∀ i, pl z2 i = c2 i % 18446744069414584321)
    (he : ∀ i, c1 i % 18446744069414584321 = c2 i % 18446744069414584321) (hl : z1.length ≤ 9223372036854775807) (w : World) (R1 : Ws w w.heap.size A1 z1) (R2 : Ws w w.heap.size A2 z2) :
    Calls Try.prog 10 #[.slice A1 z1.length k1, .slice A2 z2.length k2] w fun e w' => e = .returned (.bool true) ∧ Below w.heap.size w w' := by
  obtain rfl : z1 = z2 := n1.ext n2 fun i => by rw [h1, h2, he]
  exact Sm.same A1 A2 _ _ k1 k2 z1 rfl rfl hl w R1 R2
set_option maxHeartbeats 2000000 in
set_option maxRecDepth 100000 in
theorem walk_long_a (A : Option Addr) (ca : Nat) (xs : List Nat) (B : Option Addr) (cb : Nat) (ys : List Nat) (x : Nat) (hl : 30 < xs.length) (w : World) :
    Calls Try.prog 3 #[.slice A xs.length ca, .slice B ys.length cb, .int .u64 (x : Nat)] w fun e w' => e = .returned (.bool true) ∧ Below w.heap.size w w' := by
  have h1 : 30 < (xs.length : Int) := by omega
  go_enter Try.func3, Try.ntmps3
  go_wp2_with fail
  refine (Pl.awake _).mono ?_
  rintro e w1 ⟨rfl, c1⟩
  go_wp2
  go_ret
  exact ⟨by simp [go_sem], c1⟩

set_option maxHeartbeats 2000000 in
set_option maxRecDepth 100000 in
theorem walk_long_b (A : Option Addr) (ca : Nat) (xs : List Nat) (B : Option Addr) (cb : Nat) (ys : List Nat) (x : Nat) (hx : ¬ 30 < xs.length) (hl : 30 < ys.length) (w : World) :
    Calls Try.prog 3 #[.slice A xs.length ca, .slice B ys.length cb, .int .u64 (x : Nat)] w fun e w' => e = .returned (.bool true) ∧ Below w.heap.size w w' := by
  have h1 : ¬ 30 < (xs.length : Int) := by omega
  have h2 : 30 < (ys.length : Int) := by omega
  go_enter Try.func3, Try.ntmps3
  go_wp2_with fail
  refine (Pl.awake _).mono ?_
  rintro e w1 ⟨rfl, c1⟩
  go_wp2
  go_ret
  exact ⟨by simp [go_sem], c1⟩

set_option maxHeartbeats 2000000 in
set_option maxRecDepth 100000 in
theorem walk_short (A : Option Addr) (ca : Nat) (xs : List Nat) (B : Option Addr) (cb : Nat) (ys : List Nat) (x : Nat) (hl : xs.length ≤ 30) (hm : ys.length ≤ 30) (hx : x < 18446744073709551616) (w : World) (Ra : Ws w w.heap.size A xs) (Rb : Ws w w.heap.size B ys) :
    Calls Try.prog 3 #[.slice A xs.length ca, .slice B ys.length cb, .int .u64 (x : Nat)] w fun e w' => e = .returned (.bool true) ∧ Below w.heap.size w w' := by
  have h1 : ¬ 30 < (xs.length : Int) := by omega
  have h2 : ¬ 30 < (ys.length : Int) := by omega
  have VM := Lib.hid (fun i (hi : 200 ≤ i) => show conv (pl xs) (pl ys) i = 0 from conv_far xs ys i (by omega))
  have VA := Lib.hid (fun i (hi : 200 ≤ i) => show pl xs i + pl ys i = 0 by rw [pl_far xs i (by omega), pl_far ys i (by omega)])
  have VQ := Lib.hid (fun i (hi : 200 ≤ i) => show 18446744069414584320 * pl ys i = 0 by rw [pl_far ys i (by omega), Nat.mul_zero])
  have VS := Lib.hid (fun i (hi : 200 ≤ i) => show pl xs i + 18446744069414584320 * pl ys i = 0 by rw [pl_far ys i (by omega), pl_far xs i (by omega), Nat.mul_zero])
  have VX := Lib.hid (fun i (hi : 200 ≤ i) => show x * pl xs i = 0 by rw [pl_far xs i (by omega), Nat.mul_zero])
  have VD := Lib.hid (fun i (hi : 200 ≤ i) => show dv (pl xs) i = 0 by unfold dv; rw [pl_far xs (i + 1) (by omega), Nat.mul_zero])
  have V3 := Lib.hid (fun i (hi : 200 ≤ i) => show pl xs i + pl ys i + pl xs i = 0 by rw [pl_far xs i (by omega), pl_far ys i (by omega)])
  have VF := Lib.hid (fun (zs : List Nat) (h : zs.length ≤ 200) i (hi : 200 ≤ i) => show pl xs i + pl zs i = 0 by rw [pl_far xs i (by omega), pl_far zs i (by omega)])
  have VG := Lib.hid (fun (zs : List Nat) (h : zs.length ≤ 200) i (hi : 200 ≤ i) => show pl zs i + pl xs i = 0 by rw [pl_far xs i (by omega), pl_far zs i (by omega)])
  have TM := Lib.hid (fun W R1 R2 => mul A B ca cb xs ys (by omega) (by omega) W R1 R2)
  have QM := Lib.hid (fun W R1 R2 => rmul A B ca cb xs ys (by omega) (by omega) W R1 R2)
  have TT := Lib.hid (fun W R => trim A ca xs (by omega) W R)
  have QT := Lib.hid (fun W R => rtrim A ca xs (by omega) W R)
  have TG := Lib.hid (fun W R => degree A ca xs (by omega) (B := W.heap.size) W R)
  have TV := Lib.hid (fun W R => pat A ca xs x hx (by omega) W R)
  have QV := Lib.hid (fun W R => rat A ca xs x hx (by omega) W R)
  have QS := Lib.hid (fun W R => rscale B cb ys 18446744069414584320 (by decide) (by omega) W R)
  have QA := Lib.hid (fun (B : Option Addr) (cb : Nat) (zs : List Nat) (h : zs.length ≤ 200) W R1 R2 => radd A B ca cb xs zs (by omega) (by omega) W R1 R2)
  have QB := Lib.hid (fun (B : Option Addr) (cb : Nat) (zs : List Nat) (h : zs.length ≤ 200) W R1 R2 => radd B A cb ca zs xs (by omega) (by omega) W R1 R2)
  have TA := Lib.hid (fun W R1 R2 => add_two A B ca cb xs ys (by omega) (by omega) W R1 R2)
  have TS := Lib.hid (fun W R1 R2 => sub A B ca cb xs ys (by omega) (by omega) W R1 R2)
  have TX := Lib.hid (fun W R => scale A ca xs x hx (by omega) W R)
  have QX := Lib.hid (fun W R => rscale A ca xs x hx (by omega) W R)
  have TD := Lib.hid (fun W R => derive A ca xs (by omega) W R)
  have QD := Lib.hid (fun W R => rderive A ca xs (by omega) W R)
  have T3 := Lib.hid (fun W R1 R2 => add_three A B A ca cb ca xs ys xs (by omega) (by omega) (by omega) W R1 R2 R1)
  have SA := Lib.hid (fun (A1 A2 : Option Addr) (ka kb : Nat) W Ra Rb => Sm.same A1 A2 _ _ ka kb (tr 18446744069414584321 xs) rfl rfl (by have := tr_len_le 18446744069414584321 xs; omega) W Ra Rb)
  have LT := tr_len_le 18446744069414584321 xs
  generalize tr 18446744069414584321 xs = ts at *
  generalize evl x xs % 18446744069414584321 = v at *
  obtain ⟨z, hz⟩ : ∃ z : Int, z = (ts.length : Int) - 1 := ⟨_, rfl⟩
  have zw : IntKind.i64.wrap ((ts.length : Int) - 1) = z := by rw [IntKind.wrap_i64]; omega
  rw [← hz] at TG
  clear hz hx
  go_enter Try.func3, Try.ntmps3
  go_wp2_with fail
  refine (Pl.awake _).mono ?_
  rintro e w1 ⟨rfl, c1⟩
  have X1 := Ra.step c1
  have Y1 := Rb.step c1
  clear Ra Rb
  go_wp2_with fail
  refine (TM.out _ X1 Y1).mono ?_
  rintro e w2 ⟨m, Am, km, Nm0, Cm0, rfl, m_2, d2⟩
  have Lm := Lib.hid (Po.len Nm0 Cm0 200 VM.out)
  have Nm := Lib.hid Nm0
  have Cm := Lib.hid Cm0
  have c2 := c1.trans (d2.mono c1.size)
  have X_2 := X1.step d2
  have Y_2 := Y1.step d2
  clear d2 c1 X1 Y1 Nm0 Cm0
  go_wp2_with fail
  refine (QM.out _ X_2 Y_2).mono ?_
  rintro e w3 ⟨q, Aq, kq, Nq0, Cq0, rfl, q_3, d3⟩
  have Lq := Lib.hid (Po.len Nq0 Cq0 200 VM.out)
  have Nq := Lib.hid Nq0
  have Cq := Lib.hid Cq0
  have c3 := c2.trans (d3.mono c2.size)
  have X_3 := X_2.step d3
  have Y_3 := Y_2.step d3
  have m_3 := m_2.step d3
  clear d3 c2 X_2 Y_2 m_2 Nq0 Cq0
  go_wp2_with fail
  refine (same_po Am Aq km kq Nm.out Nq.out Cm.out Cq.out (fun i => rfl) (Nat.le_trans Lm.out (by decide)) _ m_3 q_3).mono ?_
  rintro e w4 ⟨rfl, d4⟩
  have c4 := c3.trans (d4.mono c3.size)
  have X_4 := X_3.step d4
  have Y_4 := Y_3.step d4
  have m_4 := m_3.step d4
  have q_4 := q_3.step d4
  clear d4 c3 X_3 Y_3 m_3 q_3
  clear m_4
  clear q_4
  go_wp2_with fail
  refine (TT.out _ X_4).mono ?_
  rintro e w5 ⟨At, kt, rfl, t_5, d5⟩
  have c5 := c4.trans (d5.mono c4.size)
  have X_5 := X_4.step d5
  have Y_5 := Y_4.step d5
  clear d5 c4 X_4 Y_4
  go_wp2_with fail
  refine (QT.out _ X_5).mono ?_
  rintro e w6 ⟨Au, ku, rfl, u_6, d6⟩
  have c6 := c5.trans (d6.mono c5.size)
  have X_6 := X_5.step d6
  have Y_6 := Y_5.step d6
  have t_6 := t_5.step d6
  clear d6 c5 X_5 Y_5 t_5
  go_wp2_with fail
  refine (SA.out At Au kt ku _ t_6 u_6).mono ?_
  rintro e w7 ⟨rfl, d7⟩
  have c7 := c6.trans (d7.mono c6.size)
  have X_7 := X_6.step d7
  have Y_7 := Y_6.step d7
  have t_7 := t_6.step d7
  have u_7 := u_6.step d7
  clear d7 c6 X_6 Y_6 t_6 u_6
  clear t_7
  clear u_7
  go_wp2_with fail
  refine (TG.out _ X_7).mono ?_
  rintro e w' ⟨rfl, rfl⟩
  go_wp2_with fail
  refine (QT.out _ X_7).mono ?_
  rintro e w8 ⟨Ag, kg, rfl, g_8, d8⟩
  have c8 := c7.trans (d8.mono c7.size)
  have X_8 := X_7.step d8
  have Y_8 := Y_7.step d8
  clear d8 c7 X_7 Y_7
  clear g_8
  go_wp2_with fail
  refine (TV.out _ X_8).mono ?_
  rintro e w9 ⟨rfl, d9⟩
  have c9 := c8.trans (d9.mono c8.size)
  have X_9 := X_8.step d9
  have Y_9 := Y_8.step d9
  clear d9 c8 X_8 Y_8
  go_wp2_with fail
  refine (QV.out _ X_9).mono ?_
  rintro e w' ⟨rfl, rfl⟩
  go_wp2_with fail
  refine (QS.out _ Y_9).mono ?_
  rintro e w10 ⟨s, As, ks, Ns0, Cs0, rfl, s_10, d10⟩
  have Ls := Lib.hid (Po.len Ns0 Cs0 200 VQ.out)
  have Ns := Lib.hid Ns0
  have Cs := Lib.hid Cs0
  have c10 := c9.trans (d10.mono c9.size)
  have X_10 := X_9.step d10
  have Y_10 := Y_9.step d10
  clear d10 c9 X_9 Y_9 Ns0 Cs0
  go_wp2_with fail
  refine (QA.out As ks s Ls.out _ X_10 s_10).mono ?_
  rintro e w11 ⟨d, Ad, kd, Nd0, Cd0, rfl, d_11, d11⟩
  have Ld := Lib.hid (Po.len Nd0 Cd0 200 (VF.out s Ls.out))
  have Nd := Lib.hid Nd0
  have Cd := Lib.hid Cd0
  have c11 := c10.trans (d11.mono c10.size)
  have X_11 := X_10.step d11
  have Y_11 := Y_10.step d11
  have s_11 := s_10.step d11
  clear d11 c10 X_10 Y_10 s_10 Nd0 Cd0
  clear s_11
  go_wp2_with fail
  refine (TA.out _ X_11 Y_11).mono ?_
  rintro e w12 ⟨a, Aa, ka, Na0, Ca0, rfl, a_12, d12⟩
  have La := Lib.hid (Po.len Na0 Ca0 200 VA.out)
  have Na := Lib.hid Na0
  have Ca := Lib.hid Ca0
  have c12 := c11.trans (d12.mono c11.size)
  have X_12 := X_11.step d12
  have Y_12 := Y_11.step d12
  have d_12 := d_11.step d12
  clear d12 c11 X_11 Y_11 d_11 Na0 Ca0
  go_wp2_with fail
  refine (QA.out B cb ys (by omega) _ X_12 Y_12).mono ?_
  rintro e w13 ⟨b, Ab, kb, Nb0, Cb0, rfl, b_13, d13⟩
  have Lb := Lib.hid (Po.len Nb0 Cb0 200 VA.out)
  have Nb := Lib.hid Nb0
  have Cb := Lib.hid Cb0
  have c13 := c12.trans (d13.mono c12.size)
  have X_13 := X_12.step d13
  have Y_13 := Y_12.step d13
  have d_13 := d_12.step d13
  have a_13 := a_12.step d13
  clear d13 c12 X_12 Y_12 d_12 a_12 Nb0 Cb0
  go_wp2_with fail
  refine (same_po Aa Ab ka kb Na.out Nb.out Ca.out Cb.out (fun i => rfl) (Nat.le_trans La.out (by decide)) _ a_13 b_13).mono ?_
  rintro e w14 ⟨rfl, d14⟩
  have c14 := c13.trans (d14.mono c13.size)
  have X_14 := X_13.step d14
  have Y_14 := Y_13.step d14
  have d_14 := d_13.step d14
  have a_14 := a_13.step d14
  have b_14 := b_13.step d14
  clear d14 c13 X_13 Y_13 d_13 a_13 b_13
  clear a_14
  clear b_14
  go_wp2_with fail
  refine (TS.out _ X_14 Y_14).mono ?_
  rintro e w15 ⟨e2, Ae2, ke2, Ne20, Ce20, rfl, e2_15, d15⟩
  have Le2 := Lib.hid (Po.len Ne20 Ce20 200 VS.out)
  have Ne2 := Lib.hid Ne20
  have Ce2 := Lib.hid Ce20
  have c15 := c14.trans (d15.mono c14.size)
  have X_15 := X_14.step d15
  have Y_15 := Y_14.step d15
  have d_15 := d_14.step d15
  clear d15 c14 X_14 Y_14 d_14 Ne20 Ce20
  go_wp2_with fail
  refine (same_po Ae2 Ad ke2 kd Ne2.out Nd.out Ce2.out Cd.out (fun i => by show (pl xs i + 18446744069414584320 * pl ys i) % _ = (pl xs i + pl s i) % _; rw [Cs.out i, Nat.add_mod_mod]) (Nat.le_trans Le2.out (by decide)) _ e2_15 d_15).mono ?_
  rintro e w16 ⟨rfl, d16⟩
  have c16 := c15.trans (d16.mono c15.size)
  have X_16 := X_15.step d16
  have Y_16 := Y_15.step d16
  have d_16 := d_15.step d16
  have e2_16 := e2_15.step d16
  clear d16 c15 X_15 Y_15 d_15 e2_15
  clear e2_16
  clear d_16
  go_wp2_with fail
  refine (TX.out _ X_16).mono ?_
  rintro e w17 ⟨f, Af, kf, Nf0, Cf0, rfl, f_17, d17⟩
  have Lf := Lib.hid (Po.len Nf0 Cf0 200 VX.out)
  have Nf := Lib.hid Nf0
  have Cf := Lib.hid Cf0
  have c17 := c16.trans (d17.mono c16.size)
  have X_17 := X_16.step d17
  have Y_17 := Y_16.step d17
  clear d17 c16 X_16 Y_16 Nf0 Cf0
  go_wp2_with fail
  refine (QX.out _ X_17).mono ?_
  rintro e w18 ⟨g2, Ag2, kg2, Ng20, Cg20, rfl, g2_18, d18⟩
  have Lg2 := Lib.hid (Po.len Ng20 Cg20 200 VX.out)
  have Ng2 := Lib.hid Ng20
  have Cg2 := Lib.hid Cg20
  have c18 := c17.trans (d18.mono c17.size)
  have X_18 := X_17.step d18
  have Y_18 := Y_17.step d18
  have f_18 := f_17.step d18
  clear d18 c17 X_17 Y_17 f_17 Ng20 Cg20
  go_wp2_with fail
  refine (same_po Af Ag2 kf kg2 Nf.out Ng2.out Cf.out Cg2.out (fun i => rfl) (Nat.le_trans Lf.out (by decide)) _ f_18 g2_18).mono ?_
  rintro e w19 ⟨rfl, d19⟩
  have c19 := c18.trans (d19.mono c18.size)
  have X_19 := X_18.step d19
  have Y_19 := Y_18.step d19
  have f_19 := f_18.step d19
  have g2_19 := g2_18.step d19
  clear d19 c18 X_18 Y_18 f_18 g2_18
  clear f_19
  clear g2_19
  go_wp2_with fail
  refine (TD.out _ X_19).mono ?_
  rintro e w20 ⟨h, Ah, kh, Nh0, Ch0, rfl, h_20, d20⟩
  have Lh := Lib.hid (Po.len Nh0 Ch0 200 VD.out)
  have Nh := Lib.hid Nh0
  have Ch := Lib.hid Ch0
  have c20 := c19.trans (d20.mono c19.size)
  have X_20 := X_19.step d20
  have Y_20 := Y_19.step d20
  clear d20 c19 X_19 Y_19 Nh0 Ch0
  go_wp2_with fail
  refine (QD.out _ X_20).mono ?_
  rintro e w21 ⟨i2, Ai2, ki2, Ni20, Ci20, rfl, i2_21, d21⟩
  have Li2 := Lib.hid (Po.len Ni20 Ci20 200 VD.out)
  have Ni2 := Lib.hid Ni20
  have Ci2 := Lib.hid Ci20
  have c21 := c20.trans (d21.mono c20.size)
  have X_21 := X_20.step d21
  have Y_21 := Y_20.step d21
  have h_21 := h_20.step d21
  clear d21 c20 X_20 Y_20 h_20 Ni20 Ci20
  go_wp2_with fail
  refine (same_po Ah Ai2 kh ki2 Nh.out Ni2.out Ch.out Ci2.out (fun i => rfl) (Nat.le_trans Lh.out (by decide)) _ h_21 i2_21).mono ?_
  rintro e w22 ⟨rfl, d22⟩
  have c22 := c21.trans (d22.mono c21.size)
  have X_22 := X_21.step d22
  have Y_22 := Y_21.step d22
  have h_22 := h_21.step d22
  have i2_22 := i2_21.step d22
  clear d22 c21 X_21 Y_21 h_21 i2_21
  clear h_22
  clear i2_22
  go_wp2_with fail
  refine (add_zero _).mono ?_
  rintro e w23 ⟨Aj, kj, rfl, d23⟩
  have c23 := c22.trans (d23.mono c22.size)
  have X_23 := X_22.step d23
  have Y_23 := Y_22.step d23
  clear d23 c22 X_22 Y_22
  go_wp2_with fail
  refine (T3.out _ X_23 Y_23).mono ?_
  rintro e w24 ⟨l, Al, kl, Nl0, Cl0, rfl, l_24, d24⟩
  have Ll := Lib.hid (Po.len Nl0 Cl0 200 V3.out)
  have Nl := Lib.hid Nl0
  have Cl := Lib.hid Cl0
  have c24 := c23.trans (d24.mono c23.size)
  have X_24 := X_23.step d24
  have Y_24 := Y_23.step d24
  clear d24 c23 X_23 Y_23 Nl0 Cl0
  go_wp2_with fail
  refine (QA.out B cb ys (by omega) _ X_24 Y_24).mono ?_
  rintro e w25 ⟨o, Ao, ko, No0, Co0, rfl, o_25, d25⟩
  have Lo := Lib.hid (Po.len No0 Co0 200 VA.out)
  have No := Lib.hid No0
  have Co := Lib.hid Co0
  have c25 := c24.trans (d25.mono c24.size)
  have X_25 := X_24.step d25
  have Y_25 := Y_24.step d25
  have l_25 := l_24.step d25
  clear d25 c24 X_24 Y_24 l_24 No0 Co0
  go_wp2_with fail
  refine (QB.out Ao ko o Lo.out _ o_25 X_25).mono ?_
  rintro e w26 ⟨p, Ap, kp, Np0, Cp0, rfl, p_26, d26⟩
  have Lp := Lib.hid (Po.len Np0 Cp0 200 (VG.out o Lo.out))
  have Np := Lib.hid Np0
  have Cp := Lib.hid Cp0
  have c26 := c25.trans (d26.mono c25.size)
  have X_26 := X_25.step d26
  have Y_26 := Y_25.step d26
  have l_26 := l_25.step d26
  have o_26 := o_25.step d26
  clear d26 c25 X_25 Y_25 l_25 o_25 Np0 Cp0
  go_wp2_with fail
  refine (same_po Al Ap kl kp Nl.out Np.out Cl.out Cp.out (fun i => by show (pl xs i + pl ys i + pl xs i) % _ = (pl o i + pl xs i) % _; rw [Co.out i, Nat.mod_add_mod]) (Nat.le_trans Ll.out (by decide)) _ l_26 p_26).mono ?_
  rintro e w27 ⟨rfl, d27⟩
  have c27 := c26.trans (d27.mono c26.size)
  have X_27 := X_26.step d27
  have Y_27 := Y_26.step d27
  have l_27 := l_26.step d27
  have o_27 := o_26.step d27
  have p_27 := p_26.step d27
  clear d27 c26 X_26 Y_26 l_26 o_26 p_26
  go_wp2
  go_ret
  exact ⟨by simp [go_sem], c27⟩

theorem walk (A : Option Addr) (ca : Nat) (xs : List Nat) (B : Option Addr) (cb : Nat) (ys : List Nat) (x : Nat) (hx : x < 18446744073709551616) (w : World) (Ra : Ws w w.heap.size A xs) (Rb : Ws w w.heap.size B ys) :
    Calls Try.prog 3 #[.slice A xs.length ca, .slice B ys.length cb, .int .u64 (x : Nat)] w fun e w' => e = .returned (.bool true) ∧ Below w.heap.size w w' := by
  by_cases h : 30 < xs.length
  · exact walk_long_a A ca xs B cb ys x h w
  · by_cases h2 : 30 < ys.length
    · exact walk_long_b A ca xs B cb ys x h h2 w
    · exact walk_short A ca xs B cb ys x (by omega) (by omega) hx w Ra Rb

set_option maxRecDepth 100000 in
theorem lifted (os : Os) (started : os.Started) (H : Type) (enc : TypeId × Value → H) :
    ReturnsInHanded {} Try.checked os 3 .any (Rows.polyOpsSpec.pre6 enc Try.prog Try.f3 Rows.polyOpsRow.domain false) (Rows.polyOpsSpec.post enc Try.prog Try.f3 false true false false) := by
  refine returnsInHanded_of_change (C := Try.checked) Fr.own started (by kernel_rfl) Try.func3
    (ChangeSpec.witness6 (enc := enc) (C := Try.checked) false ⟨#[], #[.slice none 0 0, .slice none 0 0, .int .u64 0], []⟩ 8 (by kernel_rfl) (by kernel_rfl) (by kernel_rfl) (by kernel_rfl)) ?_
  intro W base args ds gs before hval0 hW hcnd _
  have hval : ∀ (j : Nat) t v, Try.f3.params[j]? = some t → args[j]? = some v → Value.okWide Try.prog W .any base t v := hval0
  have hW' := hW
  obtain ⟨p, q, hA0, hV, rfl, hfz, hnd⟩ := hW
  have hA : DataW.TrodAll enc Try.prog W 0 (fun _ => true) true Try.f3.params.toList args.toList ds p := hA0
  obtain ⟨rfl, rfl⟩ := trodVars_none hV
  rw [Try.params3] at hA hval
  obtain ⟨v0, vs0, d0, ds0, p0, q0, hargs, rfl, rfl, h0, r0⟩ := trodAll_cons hA
  obtain ⟨v1, vs1, d1, ds1, p1, q1, rfl, rfl, rfl, h1, r1⟩ := trodAll_cons r0
  obtain ⟨v2, vs2, d2, ds2, p2, q2, rfl, rfl, rfl, h2, r2⟩ := trodAll_cons r1
  obtain ⟨rfl, rfl, rfl⟩ := trodAll_nil r2
  obtain rfl : args = #[v0, v1, v2] := by cases args; simp_all
  obtain ⟨A0, n0, c0, rfl⟩ := okWide_slice Try.underlying22 (hval 0 22 v0 rfl rfl)
  obtain ⟨fuel0, hf0⟩ := h0
  obtain ⟨xs0, rfl, lc0, lm0, R0⟩ := Ww.open_words hf0
  obtain ⟨A1, n1, c1, rfl⟩ := okWide_slice Try.underlying22 (hval 1 22 v1 rfl rfl)
  obtain ⟨fuel1, hf1⟩ := h1
  obtain ⟨xs1, rfl, lc1, lm1, R1⟩ := Ww.open_words hf1
  obtain ⟨a2, rfl, rfl, rfl, w2⟩ := open_int Try.underlying23 (hval 2 23 v2 rfl rfl) h2
  have b2 : 0 ≤ a2 ∧ a2 ≤ 18446744073709551615 := by simpa [Lit.wf, IntKind.min, IntKind.max, IntKind.signed, IntKind.bits] using w2
  obtain ⟨x2, rfl⟩ := Int.eq_ofNat_of_zero_le b2.1
  simp only [List.append_nil] at hW' hA0
  refine (walk A0 c0 xs0 A1 c1 xs1 x2 (by omega) W R0 R1).mono fun e W' ⟨he, hb⟩ => ?_
  subst he
  exact ⟨_, rfl, Fr.law_post (tb := 4) hW' hA0 rfl rfl rfl Try.underlying4 (by rw [Try.params3]; intro t ht; simp at ht; rcases ht with rfl | rfl | rfl; all_goals exact ⟨by kernel_rfl, of_decide_eq_true (by kernel_rfl)⟩) hb⟩

theorem proved : Rows.PolyOpsSaid :=
  OpenClaim.holds_of_wide 3 Try.f3 rfl rfl rfl rfl rfl rfl rfl ⟨rfl, rfl, rfl, rfl, rfl⟩ rfl rfl rfl rfl rfl (by kernel_rfl) Try.func3 (by kernel_rfl)
    (of_decide_eq_true (by kernel_rfl)) (by unfold Func.isWrapper; first | (rw [if_pos (by decide +kernel)]; kernel_rfl) | (rw [if_neg (by decide +kernel)]; exact ⟨rfl, rfl⟩))
    (fun os started H enc _ => lifted os started H enc)
end Go.Proofs.Ytckaelgmokddkaa.polyOps
