/- PolyValues: of any two rows and any word the law of sums' and products' values, and of a product's derivative, answers true, and changes nothing. -/
import Derived.Test.YtckaelgmokddkaaFrame
import Derived.Test.YtckaelgmokddkaaPolyG
set_option linter.unusedVariables false
namespace Go.Proofs.Ytckaelgmokddkaa.polyValues
open Go.ChangeShapes Go.WideShapes Go.ChangeAt Go.RowKit
open Ww Pn Nt Pl

/-- Rows that are the same polynomial are the same. -/
theorem same_po {c1 c2 : Nat → Nat} (A1 A2 : Option Addr) (k1 k2 : Nat) {z1 z2 : List Nat} (n1 : Nf 18446744069414584321 z1) (n2 : Nf 18446744069414584321 z2) (h1 : ∀ i, pl z1 i = c1 i % 18446744069414584321) (h2 : ∀ i, pl z2 i = c2 i % 18446744069414584321)
    (he : ∀ i, c1 i % 18446744069414584321 = c2 i % 18446744069414584321) (hl : z1.length ≤ 9223372036854775807) (w : World) (R1 : Ws w w.heap.size A1 z1) (R2 : Ws w w.heap.size A2 z2) :
    Calls Try.prog 10 #[.slice A1 z1.length k1, .slice A2 z2.length k2] w fun e w' => e = .returned (.bool true) ∧ Below w.heap.size w w' := by
  obtain rfl : z1 = z2 := n1.ext n2 fun i => by rw [h1, h2, he]
  exact Sm.same A1 A2 _ _ k1 k2 z1 rfl rfl hl w R1 R2
set_option maxHeartbeats 2000000 in
set_option maxRecDepth 100000 in
theorem walk_long_a (A : Option Addr) (ca : Nat) (xs : List Nat) (B : Option Addr) (cb : Nat) (ys : List Nat) (x : Nat) (hl : 30 < xs.length) (w : World) :
    Calls Try.prog 7 #[.slice A xs.length ca, .slice B ys.length cb, .int .u64 (x : Nat)] w fun e w' => e = .returned (.bool true) ∧ Below w.heap.size w w' := by
  have h1 : 30 < (xs.length : Int) := by omega
  go_enter Try.func7, Try.ntmps7
  go_wp2_with fail
  refine (Pl.awake _).mono ?_
  rintro e w1 ⟨rfl, c1⟩
  go_wp2
  go_ret
  exact ⟨by simp [go_sem], c1⟩

set_option maxHeartbeats 2000000 in
set_option maxRecDepth 100000 in
theorem walk_long_b (A : Option Addr) (ca : Nat) (xs : List Nat) (B : Option Addr) (cb : Nat) (ys : List Nat) (x : Nat) (hx : ¬ 30 < xs.length) (hl : 30 < ys.length) (w : World) :
    Calls Try.prog 7 #[.slice A xs.length ca, .slice B ys.length cb, .int .u64 (x : Nat)] w fun e w' => e = .returned (.bool true) ∧ Below w.heap.size w w' := by
  have h1 : ¬ 30 < (xs.length : Int) := by omega
  have h2 : 30 < (ys.length : Int) := by omega
  go_enter Try.func7, Try.ntmps7
  go_wp2_with fail
  refine (Pl.awake _).mono ?_
  rintro e w1 ⟨rfl, c1⟩
  go_wp2
  go_ret
  exact ⟨by simp [go_sem], c1⟩

theorem rule {m r s a b xs ys : List Nat} (hm : ∀ i, pl m i = conv (pl xs) (pl ys) i % 18446744069414584321) (hr : ∀ i, pl r i = dv (pl xs) i % 18446744069414584321) (hs : ∀ i, pl s i = dv (pl ys) i % 18446744069414584321)
    (ha : ∀ i, pl a i = conv (pl r) (pl ys) i % 18446744069414584321) (hb : ∀ i, pl b i = conv (pl xs) (pl s) i % 18446744069414584321) (i : Nat) : dv (pl m) i % 18446744069414584321 = (pl a i + pl b i) % 18446744069414584321 := by
  rw [dv_mod (g := conv (pl xs) (pl ys)) (fun i => by rw [hm, Nat.mod_mod]), dv_conv, ha, hb, ← Nat.add_mod, Nat.add_mod, Nat.add_mod (conv (pl r) (pl ys) i)]
  rw [conv_mod (f := dv (pl xs)) (f' := pl r) (g := pl ys) (g' := pl ys) (fun i => by rw [hr, Nat.mod_mod]) (fun _ => rfl), conv_mod (f := pl xs) (f' := pl xs) (g := dv (pl ys)) (g' := pl s) (fun _ => rfl) (fun i => by rw [hs, Nat.mod_mod])]
set_option maxHeartbeats 2000000 in
set_option maxRecDepth 100000 in
theorem walk_short (A : Option Addr) (ca : Nat) (xs : List Nat) (B : Option Addr) (cb : Nat) (ys : List Nat) (x : Nat) (hl : xs.length ≤ 30) (hm : ys.length ≤ 30) (hx : x < 18446744073709551616) (w : World) (Ra : Ws w w.heap.size A xs) (Rb : Ws w w.heap.size B ys) :
    Calls Try.prog 7 #[.slice A xs.length ca, .slice B ys.length cb, .int .u64 (x : Nat)] w fun e w' => e = .returned (.bool true) ∧ Below w.heap.size w w' := by
  have h1 : ¬ 30 < (xs.length : Int) := by omega
  have h2 : ¬ 30 < (ys.length : Int) := by omega
  have VM := Lib.hid (fun i (hi : 200 ≤ i) => show conv (pl xs) (pl ys) i = 0 from conv_far xs ys i (by omega))
  have VA := Lib.hid (fun i (hi : 200 ≤ i) => show pl xs i + pl ys i = 0 by rw [pl_far xs i (by omega), pl_far ys i (by omega)])
  have VD := Lib.hid (fun (zs : List Nat) (h : zs.length ≤ 30) i (hi : 60 ≤ i) => show dv (pl zs) i = 0 by unfold dv; rw [pl_far zs (i + 1) (by omega), Nat.mul_zero])
  have VN := Lib.hid (fun (zs : List Nat) (h : zs.length ≤ 200) i (hi : 200 ≤ i) => show dv (pl zs) i = 0 by unfold dv; rw [pl_far zs (i + 1) (by omega), Nat.mul_zero])
  have VC := Lib.hid (fun (zs us : List Nat) (h : zs.length ≤ 60) (h2 : us.length ≤ 60) i (hi : 200 ≤ i) => show conv (pl zs) (pl us) i = 0 from conv_far zs us i (by omega))
  have VG := Lib.hid (fun (zs us : List Nat) (h : zs.length ≤ 200) (h2 : us.length ≤ 200) i (hi : 200 ≤ i) => show pl zs i + pl us i = 0 by rw [pl_far zs i (by omega), pl_far us i (by omega)])
  have TM := Lib.hid (fun (A B : Option Addr) (ca cb : Nat) (zs us : List Nat) (h : zs.length ≤ 60) (h2 : us.length ≤ 60) W R1 R2 => mul A B ca cb zs us (by omega) (by omega) W R1 R2)
  have TD := Lib.hid (fun (A : Option Addr) (ca : Nat) (zs : List Nat) (h : zs.length ≤ 200) W R => derive A ca zs (by omega) W R)
  have TA := Lib.hid (fun (A B : Option Addr) (ca cb : Nat) (zs us : List Nat) (h : zs.length ≤ 200) (h2 : us.length ≤ 200) W R1 R2 => add_two A B ca cb zs us (by omega) (by omega) W R1 R2)
  obtain ⟨vp, hvp⟩ : ∃ v, v = evl x xs % 18446744069414584321 := ⟨_, rfl⟩
  obtain ⟨vq, hvq⟩ : ∃ v, v = evl x ys % 18446744069414584321 := ⟨_, rfl⟩
  obtain ⟨r1, hr1⟩ : ∃ v, v = vp * vq % 18446744069414584321 := ⟨_, rfl⟩
  obtain ⟨r2, hr2⟩ : ∃ v, v = (vp + vq) % 18446744069414584321 := ⟨_, rfl⟩
  have TP := Lib.hid (fun W R => pat A ca xs x hx (by omega) W R)
  have TQ := Lib.hid (fun W R => pat B cb ys x hx (by omega) W R)
  have QM := Lib.hid (fun W => Gr.mul vp vq (by rw [hvq]; exact mod64 _) W)
  have QA := Lib.hid (fun W => Gr.add vp vq W)
  rw [← hvp] at TP
  rw [← hvq] at TQ
  rw [← hr1] at QM
  rw [← hr2] at QA
  have PM := Lib.hid (fun (Az : Option Addr) (kz : Nat) (zs : List Nat) (h : zs.length ≤ 200) (hc : ∀ i, pl zs i = conv (pl xs) (pl ys) i % 18446744069414584321) W R =>
    show Calls Try.prog 15 #[.slice Az zs.length kz, .int .u64 (x : Nat)] W fun e w' => e = .returned (.int .u64 (r1 : Nat)) ∧ Below W.heap.size W w' by
      have c := pat Az kz zs x hx (by omega) W R
      rw [show evl x zs % 18446744069414584321 = r1 by rw [hr1, hvp, hvq, ← Nat.mul_mod]; exact evl_conv x fun i => by rw [hc, Nat.mod_mod]] at c
      exact c)
  have PS := Lib.hid (fun (Az : Option Addr) (kz : Nat) (zs : List Nat) (h : zs.length ≤ 200) (hc : ∀ i, pl zs i = (pl xs i + pl ys i) % 18446744069414584321) W R =>
    show Calls Try.prog 15 #[.slice Az zs.length kz, .int .u64 (x : Nat)] W fun e w' => e = .returned (.int .u64 (r2 : Nat)) ∧ Below W.heap.size W w' by
      have c := pat Az kz zs x hx (by omega) W R
      rw [show evl x zs % 18446744069414584321 = r2 by rw [hr2, hvp, hvq, ← Nat.add_mod]; exact evl_sum x fun i => by rw [hc, Nat.mod_mod]] at c
      exact c)
  have RU := Lib.hid (fun (m r s a b : List Nat) hm hr hs ha hb => rule (m := m) (r := r) (s := s) (a := a) (b := b) (xs := xs) (ys := ys) hm hr hs ha hb)
  clear hx hvp hvq hr1 hr2
  go_enter Try.func7, Try.ntmps7
  go_wp2_with fail
  refine (Pl.awake _).mono ?_
  rintro e w1 ⟨rfl, c1⟩
  have X1 := Ra.step c1
  have Y1 := Rb.step c1
  clear Ra Rb
  go_wp2_with fail
  refine (TM.out A B ca cb xs ys (by omega) (by omega) _ X1 Y1).mono ?_
  rintro e w2 ⟨m, Am, km, Nm0, Cm0, rfl, m_2, d2⟩
  have Lm := Lib.hid (Po.len Nm0 Cm0 200 VM.out)
  have Nm := Lib.hid Nm0
  have Cm := Lib.hid Cm0
  have c2 := c1.trans (d2.mono c1.size)
  have X_2 := X1.step d2
  have Y_2 := Y1.step d2
  clear d2 c1 X1 Y1 Nm0 Cm0
  go_wp2_with fail
  refine (TD.out A ca xs (by omega) _ X_2).mono ?_
  rintro e w3 ⟨r, Ar, kr, Nr0, Cr0, rfl, r_3, d3⟩
  have Lr := Lib.hid (Po.len Nr0 Cr0 60 (VD.out xs hl))
  have Cr := Lib.hid Cr0
  have c3 := c2.trans (d3.mono c2.size)
  have X_3 := X_2.step d3
  have Y_3 := Y_2.step d3
  have m_3 := m_2.step d3
  clear d3 c2 X_2 Y_2 m_2 Nr0 Cr0
  go_wp2_with fail
  refine (TM.out Ar B kr cb r ys Lr.out (by omega) _ r_3 Y_3).mono ?_
  rintro e w4 ⟨a, Aa, ka, Na0, Ca0, rfl, a_4, d4⟩
  have La := Lib.hid (Po.len Na0 Ca0 200 (VC.out r ys Lr.out (by omega)))
  have Na := Lib.hid Na0
  have Ca := Lib.hid Ca0
  have c4 := c3.trans (d4.mono c3.size)
  have X_4 := X_3.step d4
  have Y_4 := Y_3.step d4
  have m_4 := m_3.step d4
  have r_4 := r_3.step d4
  clear d4 c3 X_3 Y_3 m_3 r_3 Na0 Ca0
  clear r_4
  go_wp2_with fail
  refine (TD.out B cb ys (by omega) _ Y_4).mono ?_
  rintro e w5 ⟨s, As, ks, Ns0, Cs0, rfl, s_5, d5⟩
  have Ls := Lib.hid (Po.len Ns0 Cs0 60 (VD.out ys hm))
  have Cs := Lib.hid Cs0
  have c5 := c4.trans (d5.mono c4.size)
  have X_5 := X_4.step d5
  have Y_5 := Y_4.step d5
  have m_5 := m_4.step d5
  have a_5 := a_4.step d5
  clear d5 c4 X_4 Y_4 m_4 a_4 Ns0 Cs0
  go_wp2_with fail
  refine (TM.out A As ca ks xs s (by omega) Ls.out _ X_5 s_5).mono ?_
  rintro e w6 ⟨b, Ab, kb, Nb0, Cb0, rfl, b_6, d6⟩
  have Lb := Lib.hid (Po.len Nb0 Cb0 200 (VC.out xs s (by omega) Ls.out))
  have Nb := Lib.hid Nb0
  have Cb := Lib.hid Cb0
  have c6 := c5.trans (d6.mono c5.size)
  have X_6 := X_5.step d6
  have Y_6 := Y_5.step d6
  have m_6 := m_5.step d6
  have a_6 := a_5.step d6
  have s_6 := s_5.step d6
  clear d6 c5 X_5 Y_5 m_5 a_5 s_5 Nb0 Cb0
  clear s_6
  go_wp2_with fail
  refine (PM.out Am km m Lm.out Cm.out _ m_6).mono ?_
  rintro e w7 ⟨rfl, d7⟩
  have c7 := c6.trans (d7.mono c6.size)
  have X_7 := X_6.step d7
  have Y_7 := Y_6.step d7
  have m_7 := m_6.step d7
  have a_7 := a_6.step d7
  have b_7 := b_6.step d7
  clear d7 c6 X_6 Y_6 m_6 a_6 b_6
  go_wp2_with fail
  refine (TP.out _ X_7).mono ?_
  rintro e w8 ⟨rfl, d8⟩
  have c8 := c7.trans (d8.mono c7.size)
  have X_8 := X_7.step d8
  have Y_8 := Y_7.step d8
  have m_8 := m_7.step d8
  have a_8 := a_7.step d8
  have b_8 := b_7.step d8
  clear d8 c7 X_7 Y_7 m_7 a_7 b_7
  go_wp2_with fail
  refine (TQ.out _ Y_8).mono ?_
  rintro e w9 ⟨rfl, d9⟩
  have c9 := c8.trans (d9.mono c8.size)
  have X_9 := X_8.step d9
  have Y_9 := Y_8.step d9
  have m_9 := m_8.step d9
  have a_9 := a_8.step d9
  have b_9 := b_8.step d9
  clear d9 c8 X_8 Y_8 m_8 a_8 b_8
  go_wp2_with fail
  refine (QM.out _).mono ?_
  rintro e w' ⟨rfl, rfl⟩
  go_wp2_with fail
  refine (TA.out A B ca cb xs ys (by omega) (by omega) _ X_9 Y_9).mono ?_
  rintro e w10 ⟨f, Af, kf, Nf0, Cf0, rfl, f_10, d10⟩
  have Lf := Lib.hid (Po.len Nf0 Cf0 200 VA.out)
  have Nf := Lib.hid Nf0
  have Cf := Lib.hid Cf0
  have c10 := c9.trans (d10.mono c9.size)
  have X_10 := X_9.step d10
  have Y_10 := Y_9.step d10
  have m_10 := m_9.step d10
  have a_10 := a_9.step d10
  have b_10 := b_9.step d10
  clear d10 c9 X_9 Y_9 m_9 a_9 b_9 Nf0 Cf0
  go_wp2_with fail
  refine (PS.out Af kf f Lf.out Cf.out _ f_10).mono ?_
  rintro e w11 ⟨rfl, d11⟩
  have c11 := c10.trans (d11.mono c10.size)
  have X_11 := X_10.step d11
  have Y_11 := Y_10.step d11
  have m_11 := m_10.step d11
  have a_11 := a_10.step d11
  have b_11 := b_10.step d11
  have f_11 := f_10.step d11
  clear d11 c10 X_10 Y_10 m_10 a_10 b_10 f_10
  clear f_11
  go_wp2_with fail
  refine (TP.out _ X_11).mono ?_
  rintro e w12 ⟨rfl, d12⟩
  have c12 := c11.trans (d12.mono c11.size)
  have X_12 := X_11.step d12
  have Y_12 := Y_11.step d12
  have m_12 := m_11.step d12
  have a_12 := a_11.step d12
  have b_12 := b_11.step d12
  clear d12 c11 X_11 Y_11 m_11 a_11 b_11
  go_wp2_with fail
  refine (TQ.out _ Y_12).mono ?_
  rintro e w13 ⟨rfl, d13⟩
  have c13 := c12.trans (d13.mono c12.size)
  have X_13 := X_12.step d13
  have Y_13 := Y_12.step d13
  have m_13 := m_12.step d13
  have a_13 := a_12.step d13
  have b_13 := b_12.step d13
  clear d13 c12 X_12 Y_12 m_12 a_12 b_12
  go_wp2_with fail
  refine (QA.out _).mono ?_
  rintro e w' ⟨rfl, rfl⟩
  go_wp2_with fail
  refine (TD.out Am km m Lm.out _ m_13).mono ?_
  rintro e w14 ⟨h, Ah, kh, Nh0, Ch0, rfl, h_14, d14⟩
  have Lh := Lib.hid (Po.len Nh0 Ch0 200 (VN.out m Lm.out))
  have Nh := Lib.hid Nh0
  have Ch := Lib.hid Ch0
  have c14 := c13.trans (d14.mono c13.size)
  have X_14 := X_13.step d14
  have Y_14 := Y_13.step d14
  have m_14 := m_13.step d14
  have a_14 := a_13.step d14
  have b_14 := b_13.step d14
  clear d14 c13 X_13 Y_13 m_13 a_13 b_13 Nh0 Ch0
  clear m_14
  go_wp2_with fail
  refine (TA.out Aa Ab ka kb a b La.out Lb.out _ a_14 b_14).mono ?_
  rintro e w15 ⟨g, Ag, kg, Ng0, Cg0, rfl, g_15, d15⟩
  have Lg := Lib.hid (Po.len Ng0 Cg0 200 (VG.out a b La.out Lb.out))
  have Ng := Lib.hid Ng0
  have Cg := Lib.hid Cg0
  have c15 := c14.trans (d15.mono c14.size)
  have X_15 := X_14.step d15
  have Y_15 := Y_14.step d15
  have a_15 := a_14.step d15
  have b_15 := b_14.step d15
  have h_15 := h_14.step d15
  clear d15 c14 X_14 Y_14 a_14 b_14 h_14 Ng0 Cg0
  go_wp2_with fail
  refine (same_po Ah Ag kh kg Nh.out Ng.out Ch.out Cg.out (RU.out m r s a b Cm.out Cr.out Cs.out Ca.out Cb.out) (Nat.le_trans Lh.out (by decide)) _ h_15 g_15).mono ?_
  rintro e w16 ⟨rfl, d16⟩
  have c16 := c15.trans (d16.mono c15.size)
  have X_16 := X_15.step d16
  have Y_16 := Y_15.step d16
  have a_16 := a_15.step d16
  have b_16 := b_15.step d16
  have h_16 := h_15.step d16
  have g_16 := g_15.step d16
  clear d16 c15 X_15 Y_15 a_15 b_15 h_15 g_15
  go_wp2
  go_ret
  exact ⟨by simp [go_sem], c16⟩

theorem walk (A : Option Addr) (ca : Nat) (xs : List Nat) (B : Option Addr) (cb : Nat) (ys : List Nat) (x : Nat) (hx : x < 18446744073709551616) (w : World) (Ra : Ws w w.heap.size A xs) (Rb : Ws w w.heap.size B ys) :
    Calls Try.prog 7 #[.slice A xs.length ca, .slice B ys.length cb, .int .u64 (x : Nat)] w fun e w' => e = .returned (.bool true) ∧ Below w.heap.size w w' := by
  by_cases h : 30 < xs.length
  · exact walk_long_a A ca xs B cb ys x h w
  · by_cases h2 : 30 < ys.length
    · exact walk_long_b A ca xs B cb ys x h h2 w
    · exact walk_short A ca xs B cb ys x (by omega) (by omega) hx w Ra Rb

set_option maxRecDepth 100000 in
theorem lifted (os : Os) (started : os.Started) (H : Type) (enc : TypeId × Value → H) :
    ReturnsInHanded {} Try.checked os 7 .any (Rows.polyValuesSpec.pre6 enc Try.prog Try.f7 Rows.polyValuesRow.domain false) (Rows.polyValuesSpec.post enc Try.prog Try.f7 false true false false) := by
  refine returnsInHanded_of_change (C := Try.checked) Fr.own started (by kernel_rfl) Try.func7
    (ChangeSpec.witness6 (enc := enc) (C := Try.checked) false ⟨#[], #[.slice none 0 0, .slice none 0 0, .int .u64 0], []⟩ 8 (by kernel_rfl) (by kernel_rfl) (by kernel_rfl) (by kernel_rfl)) ?_
  intro W base args ds gs before hval0 hW hcnd _
  have hval : ∀ (j : Nat) t v, Try.f7.params[j]? = some t → args[j]? = some v → Value.okWide Try.prog W .any base t v := hval0
  have hW' := hW
  obtain ⟨p, q, hA0, hV, rfl, hfz, hnd⟩ := hW
  have hA : DataW.TrodAll enc Try.prog W 0 (fun _ => true) true Try.f7.params.toList args.toList ds p := hA0
  obtain ⟨rfl, rfl⟩ := trodVars_none hV
  rw [Try.params7] at hA hval
  obtain ⟨v0, vs0, d0, ds0, p0, q0, hargs, rfl, rfl, h0, r0⟩ := trodAll_cons hA
  obtain ⟨v1, vs1, d1, ds1, p1, q1, rfl, rfl, rfl, h1, r1⟩ := trodAll_cons r0
  obtain ⟨v2, vs2, d2, ds2, p2, q2, rfl, rfl, rfl, h2, r2⟩ := trodAll_cons r1
  obtain ⟨rfl, rfl, rfl⟩ := trodAll_nil r2
  obtain rfl : args = #[v0, v1, v2] := by cases args; simp_all
  obtain ⟨A0, n0, c0, rfl⟩ := okWide_slice Try.underlying22 (hval 0 22 v0 rfl rfl)
  obtain ⟨fuel0, hf0⟩ := h0
  obtain ⟨xs0, rfl, lc0, lm0, R0⟩ := Ww.open_words hf0
  obtain ⟨A1, n1, c1, rfl⟩ := okWide_slice Try.underlying22 (hval 1 22 v1 rfl rfl)
  obtain ⟨fuel1, hf1⟩ := h1
  obtain ⟨xs1, rfl, lc1, lm1, R1⟩ := Ww.open_words hf1
  obtain ⟨a2, rfl, rfl, rfl, w2⟩ := open_int Try.underlying23 (hval 2 23 v2 rfl rfl) h2
  have b2 : 0 ≤ a2 ∧ a2 ≤ 18446744073709551615 := by simpa [Lit.wf, IntKind.min, IntKind.max, IntKind.signed, IntKind.bits] using w2
  obtain ⟨x2, rfl⟩ := Int.eq_ofNat_of_zero_le b2.1
  simp only [List.append_nil] at hW' hA0
  refine (walk A0 c0 xs0 A1 c1 xs1 x2 (by omega) W R0 R1).mono fun e W' ⟨he, hb⟩ => ?_
  subst he
  exact ⟨_, rfl, Fr.law_post (tb := 4) hW' hA0 rfl rfl rfl Try.underlying4 (by rw [Try.params7]; intro t ht; simp at ht; rcases ht with rfl | rfl | rfl; all_goals exact ⟨by kernel_rfl, of_decide_eq_true (by kernel_rfl)⟩) hb⟩

theorem proved : Rows.PolyValuesSaid :=
  OpenClaim.holds_of_wide 7 Try.f7 rfl rfl rfl rfl rfl rfl rfl ⟨rfl, rfl, rfl, rfl, rfl⟩ rfl rfl rfl rfl rfl (by kernel_rfl) Try.func7 (by kernel_rfl)
    (of_decide_eq_true (by kernel_rfl)) (by unfold Func.isWrapper; first | (rw [if_pos (by decide +kernel)]; kernel_rfl) | (rw [if_neg (by decide +kernel)]; exact ⟨rfl, rfl⟩))
    (fun os started H enc _ => lifted os started H enc)
end Go.Proofs.Ytckaelgmokddkaa.polyValues
