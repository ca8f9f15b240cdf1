/- PolyDivides: of any two rows and any word the law of quotients and rests answers true, and changes nothing. -/
import Derived.Test.YtckaelgmokddkaaFrame
import Derived.Test.YtckaelgmokddkaaPolyI
set_option linter.unusedVariables false
namespace Go.Proofs.Ytckaelgmokddkaa.polyDivides
open Go.ChangeShapes Go.WideShapes Go.ChangeAt Go.RowKit
open Ww Pn Nt Pl

set_option maxHeartbeats 2000000 in
set_option maxRecDepth 100000 in
theorem walk_long_a (A : Option Addr) (ca : Nat) (xs : List Nat) (B : Option Addr) (cb : Nat) (ys : List Nat) (x : Nat) (hl : 30 < xs.length) (w : World) :
    Calls Try.prog 4 #[.slice A xs.length ca, .slice B ys.length cb, .int .u64 (x : Nat)] w fun e w' => e = .returned (.bool true) ∧ Below w.heap.size w w' := by
  have h1 : 30 < (xs.length : Int) := by omega
  go_enter Try.func4, Try.ntmps4
  go_wp2_with fail
  refine (Pl.awake _).mono ?_
  rintro e w1 ⟨rfl, c1⟩
  go_wp2
  go_ret
  exact ⟨by simp [go_sem], c1⟩

set_option maxHeartbeats 2000000 in
set_option maxRecDepth 100000 in
theorem walk_long_b (A : Option Addr) (ca : Nat) (xs : List Nat) (B : Option Addr) (cb : Nat) (ys : List Nat) (x : Nat) (hx : ¬ 30 < xs.length) (hl : 30 < ys.length) (w : World) :
    Calls Try.prog 4 #[.slice A xs.length ca, .slice B ys.length cb, .int .u64 (x : Nat)] w fun e w' => e = .returned (.bool true) ∧ Below w.heap.size w w' := by
  have h1 : ¬ 30 < (xs.length : Int) := by omega
  have h2 : 30 < (ys.length : Int) := by omega
  go_enter Try.func4, Try.ntmps4
  go_wp2_with fail
  refine (Pl.awake _).mono ?_
  rintro e w1 ⟨rfl, c1⟩
  go_wp2
  go_ret
  exact ⟨by simp [go_sem], c1⟩

/-- Rows that are the same are the same. -/
theorem same_eq (A1 A2 : Option Addr) (k1 k2 : Nat) {z1 z2 : List Nat} (he : z1 = z2) (hl : z2.length ≤ 9223372036854775807) (w : World) (R1 : Ws w w.heap.size A1 z1) (R2 : Ws w w.heap.size A2 z2) :
    Calls Try.prog 10 #[.slice A1 z1.length k1, .slice A2 z2.length k2] w fun e w' => e = .returned (.bool true) ∧ Below w.heap.size w w' := by
  subst he
  exact Sm.same A1 A2 _ _ k1 k2 z1 rfl rfl hl w R1 R2
/-- Quotient and rest by x - a make the row again. -/
theorem again {xs m s : List Nat} {x v g : Nat} (hg : g = (18446744069414584321 - x % 18446744069414584321) % 18446744069414584321) (hv : v = evl x xs % 18446744069414584321) (hm : ∀ i, pl m i = conv (pl (rg (fun i => evl x ((tr 18446744069414584321 xs).drop (i + 1)) % 18446744069414584321) ((tr 18446744069414584321 xs).length - 1))) (pl [g, 1]) i % 18446744069414584321)
    (hs : Nf 18446744069414584321 s) (hc : ∀ i, pl s i = (pl m i + pl [v] i) % 18446744069414584321) : s = tr 18446744069414584321 xs := by
  refine hs.ext (tr_nf (by decide) xs) fun i => ?_
  have h := syn (m := 18446744069414584321) (by decide) x (tr 18446744069414584321 xs) (pl (rg (fun i => evl x ((tr 18446744069414584321 xs).drop (i + 1)) % 18446744069414584321) ((tr 18446744069414584321 xs).length - 1))) v (fun i => by
    by_cases hi : i < (tr 18446744069414584321 xs).length - 1
    · rw [pl_rg _ _ _ hi, Nat.mod_mod]
    · rw [pl_far _ _ (by rw [rg_len]; omega), List.drop_eq_nil_of_le (by omega)]; rfl) (by rw [hv, Nat.mod_mod, evl_tr]) i
  rw [hc, hm, Nat.mod_add_mod, hg, ← ln_eq, h, pl_tr, Nat.mod_mod]
theorem whole {xs ys q r m s : List Nat} (he : ∀ i, (conv (pl q) (pl ys) i + pl r i) % 18446744069414584321 = pl xs i % 18446744069414584321) (hm : ∀ i, pl m i = conv (pl q) (pl ys) i % 18446744069414584321) (hs : Nf 18446744069414584321 s) (hc : ∀ i, pl s i = (pl m i + pl r i) % 18446744069414584321) : s = tr 18446744069414584321 xs :=
  hs.ext (tr_nf (by decide) xs) fun i => by rw [hc, hm, Nat.mod_add_mod, he, pl_tr]
set_option maxHeartbeats 2000000 in
set_option maxRecDepth 100000 in
theorem div_zero (A B : Option Addr) (n ca cb : Nat) (ys : List Nat) (hy : ys.length ≤ 4096) (hd : (tr 18446744069414584321 ys).length = 0) (w : World) (Rb : Ws w w.heap.size B ys) :
    Calls Try.prog 26 #[.slice A n ca, .slice B ys.length cb] w fun e w' => e = .returned (.tuple #[.slice none 0 0, .slice none 0 0, .int .i64 13]) ∧ w = w' := by
  have DE := degree B cb ys (by omega) w Rb
  rw [hd, show (((0 : Nat) : Int) - 1) = -1 by omega] at DE
  have DE := Lib.hid DE
  clear hd
  go_enter Try.func26, Try.ntmps26
  go_wp2_with fail
  refine DE.out.mono ?_
  rintro e w1 ⟨rfl, rfl⟩
  go_wp2
  exact bodyPost_ret (v := .tuple #[.slice none 0 0, .slice none 0 0, .int .i64 13]) (by simp [results, Try.results26, go_sem]) rfl ⟨rfl, rfl⟩
set_option maxHeartbeats 2000000 in
set_option maxRecDepth 100000 in
theorem walk_zero (A : Option Addr) (ca : Nat) (xs : List Nat) (B : Option Addr) (cb : Nat) (ys : List Nat) (x : Nat) (hl : xs.length ≤ 30) (hm : ys.length ≤ 30) (hd : (tr 18446744069414584321 ys).length = 0) (hx : x < 18446744073709551616) (w : World) (Ra : Ws w w.heap.size A xs) (Rb : Ws w w.heap.size B ys) :
    Calls Try.prog 4 #[.slice A xs.length ca, .slice B ys.length cb, .int .u64 (x : Nat)] w fun e w' => e = .returned (.bool true) ∧ Below w.heap.size w w' := by
  have h1 : ¬ 30 < (xs.length : Int) := by omega
  have h2 : ¬ 30 < (ys.length : Int) := by omega
  obtain ⟨v, hv⟩ : ∃ v, v = evl x xs % 18446744069414584321 := ⟨_, rfl⟩
  obtain ⟨g, hg⟩ : ∃ g, g = (18446744069414584321 - x % 18446744069414584321) % 18446744069414584321 := ⟨_, rfl⟩
  have v64 : v < 18446744073709551616 := by rw [hv]; exact mod64 _
  have g64 : g < 18446744073709551616 := by rw [hg]; exact mod64 _
  have AG := Lib.hid (fun (m s : List Nat) hm hs hc => again (xs := xs) (m := m) (s := s) (x := x) hg hv hm hs hc)
  have LT := tr_len_le 18446744069414584321 xs
  have LY := tr_len_le 18446744069414584321 ys
  have DL := Lib.hid (fun W R => show Calls Try.prog 24 #[.slice A xs.length ca, .int .u64 (x : Nat)] W fun e w' => ∃ Al kl, e = .returned (.tuple #[.slice Al (rg (fun i => evl x ((tr 18446744069414584321 xs).drop (i + 1)) % 18446744069414584321) ((tr 18446744069414584321 xs).length - 1)).length kl, .int .u64 (v : Nat)]) ∧ Ws w' w'.heap.size Al (rg (fun i => evl x ((tr 18446744069414584321 xs).drop (i + 1)) % 18446744069414584321) ((tr 18446744069414584321 xs).length - 1)) ∧ Below W.heap.size W w' by
    refine (divLinear A ca xs x hx (by omega) W R).mono ?_
    rintro e w' ⟨Al, kl, r, rfl, hr, Rl, hb⟩
    rw [evl_tr, ← hv] at hr
    subst hr
    exact ⟨Al, kl, by rw [rg_len], Rl, hb⟩)
  have LL : (rg (fun i => evl x ((tr 18446744069414584321 xs).drop (i + 1)) % 18446744069414584321) ((tr 18446744069414584321 xs).length - 1)).length ≤ 30 := by rw [rg_len]; omega
  have SU := Lib.hid (fun W => show Calls Try.prog 25 #[.int .u64 0, .int .u64 (x : Nat)] W fun e w' => e = .returned (.int .u64 (g : Nat)) ∧ W = w' by
    have c := Gr.sub 0 x W
    rw [Nat.zero_add, ← hg] at c
    exact c)
  have QV := Lib.hid (fun W R => rat A ca xs x hx (by omega) W R)
  rw [← hv] at QV
  have QM := Lib.hid (fun (A B : Option Addr) (ca cb : Nat) (zs us : List Nat) (h : zs.length ≤ 60) (h2 : us.length ≤ 60) W R1 R2 => rmul A B ca cb zs us (by omega) (by omega) W R1 R2)
  have QA := Lib.hid (fun (A B : Option Addr) (ca cb : Nat) (zs us : List Nat) (h : zs.length ≤ 200) (h2 : us.length ≤ 200) W R1 R2 => radd A B ca cb zs us (by omega) (by omega) W R1 R2)
  have VC := Lib.hid (fun (zs us : List Nat) (h : zs.length ≤ 60) (h2 : us.length ≤ 60) i (hi : 200 ≤ i) => show conv (pl zs) (pl us) i = 0 from conv_far zs us i (by omega))
  have VG := Lib.hid (fun (zs us : List Nat) (h : zs.length ≤ 200) (h2 : us.length ≤ 200) i (hi : 200 ≤ i) => show pl zs i + pl us i = 0 by rw [pl_far zs i (by omega), pl_far us i (by omega)])
  have QT := Lib.hid (fun W R => rtrim A ca xs (by omega) W R)
  have QY := Lib.hid (fun W R => rtrim B cb ys (by omega) W R)
  have WL := Lib.hid (fun W => ws_lin W g g64 23)
  have WO := Lib.hid (fun W => ws_one W v v64 23)
  have S0 := Lib.hid (fun (A1 A2 : Option Addr) (k1 k2 : Nat) (z1 z2 : List Nat) (he : z1 = z2) hl W R1 R2 => same_eq A1 A2 k1 k2 he hl W R1 R2)
  have DZ := Lib.hid (fun W R => div_zero A B xs.length ca cb ys (by omega) hd W R)
  have hdn : (((tr 18446744069414584321 ys).length : Nat) : Int) = 0 := by omega
  clear hd hx hv hg v64 g64
  generalize rg (fun i => evl x ((tr 18446744069414584321 xs).drop (i + 1)) % 18446744069414584321) ((tr 18446744069414584321 xs).length - 1) = ls at *
  generalize tr 18446744069414584321 xs = ts at *
  generalize tr 18446744069414584321 ys = ty at *
  go_enter Try.func4, Try.ntmps4
  go_wp2_with fail
  refine (Pl.awake _).mono ?_
  rintro e w1 ⟨rfl, c1⟩
  have X1 := Ra.step c1
  have Y1 := Rb.step c1
  clear Ra Rb
  go_wp2_with fail
  refine (DL.out _ X1).mono ?_
  rintro e w2 ⟨Al, kl, rfl, l_2, d2⟩
  have c2 := c1.trans (d2.mono c1.size)
  have X_2 := X1.step d2
  have Y_2 := Y1.step d2
  clear d2 c1 X1 Y1
  go_wp2_with fail
  refine (SU.out _).mono ?_
  rintro e w' ⟨rfl, rfl⟩
  go_wp2_with fail
  have d3 := below_alloc w2 (.cells #[.int .u64 (g : Nat), .int .u64 1] 23)
  have o_3 := WL.out w2
  have c3 := c2.trans (d3.mono c2.size)
  have X_3 := X_2.step d3
  have Y_3 := Y_2.step d3
  have l_3 := l_2.step d3
  clear d3 c2 X_2 Y_2 l_2
  obtain ⟨ao, hao⟩ : ∃ ao : Option Addr, ao = some ⟨w2.heap.size, 0, none⟩ := ⟨_, rfl⟩
  rw [← hao] at o_3 ⊢
  clear hao
  generalize w2.alloc (.cells #[.int .u64 (g : Nat), .int .u64 1] 23) = w3 at *
  refine (QV.out _ X_3).mono ?_
  rintro e w' ⟨rfl, rfl⟩
  go_wp2_with fail
  refine (QM.out Al ao kl 2 ls [g, 1] (by omega) (by simp) _ l_3 o_3).mono ?_
  rintro e w4 ⟨m, Am, km, Nm0, Cm0, rfl, m_4, d4⟩
  have Lm := Lib.hid (Po.len Nm0 Cm0 200 (VC.out ls [g, 1] (by omega) (by simp)))
  have Nm := Lib.hid Nm0
  have Cm := Lib.hid Cm0
  have c4 := c3.trans (d4.mono c3.size)
  have X_4 := X_3.step d4
  have Y_4 := Y_3.step d4
  have l_4 := l_3.step d4
  have o_4 := o_3.step d4
  clear d4 c3 X_3 Y_3 l_3 o_3 Nm0 Cm0
  clear l_4
  clear o_4
  go_wp2_with fail
  have d5 := below_alloc w4 (.cells #[.int .u64 (v : Nat)] 23)
  have o_5 := WO.out w4
  have c5 := c4.trans (d5.mono c4.size)
  have X_5 := X_4.step d5
  have Y_5 := Y_4.step d5
  have m_5 := m_4.step d5
  clear d5 c4 X_4 Y_4 m_4
  obtain ⟨ap, hap⟩ : ∃ ap : Option Addr, ap = some ⟨w4.heap.size, 0, none⟩ := ⟨_, rfl⟩
  rw [← hap] at o_5 ⊢
  clear hap
  generalize w4.alloc (.cells #[.int .u64 (v : Nat)] 23) = w5 at *
  refine (QA.out Am ap km 1 m [v] Lm.out (by simp) _ m_5 o_5).mono ?_
  rintro e w6 ⟨s, As, ks, Ns0, Cs0, rfl, s_6, d6⟩
  have ES := Lib.hid (AG.out m s Cm.out Ns0 Cs0)
  have c6 := c5.trans (d6.mono c5.size)
  have X_6 := X_5.step d6
  have Y_6 := Y_5.step d6
  have m_6 := m_5.step d6
  have o_6 := o_5.step d6
  clear d6 c5 X_5 Y_5 m_5 o_5 Ns0 Cs0
  clear m_6
  clear o_6
  go_wp2_with fail
  refine (QT.out _ X_6).mono ?_
  rintro e w7 ⟨At, kt, rfl, t_7, d7⟩
  have c7 := c6.trans (d7.mono c6.size)
  have X_7 := X_6.step d7
  have Y_7 := Y_6.step d7
  have s_7 := s_6.step d7
  clear d7 c6 X_6 Y_6 s_6
  go_wp2_with fail
  refine (S0.out As At ks kt s ts ES.out (by omega) _ s_7 t_7).mono ?_
  rintro e w8 ⟨rfl, d8⟩
  have c8 := c7.trans (d8.mono c7.size)
  have X_8 := X_7.step d8
  have Y_8 := Y_7.step d8
  have s_8 := s_7.step d8
  have t_8 := t_7.step d8
  clear d8 c7 X_7 Y_7 s_7 t_7
  clear s_8
  clear t_8
  go_wp2_with fail
  refine (DZ.out _ Y_8).mono ?_
  rintro e w' ⟨rfl, rfl⟩
  go_wp2_with fail
  refine (QY.out _ Y_8).mono ?_
  rintro e w9 ⟨Au, ku, rfl, u_9, d9⟩
  have c9 := c8.trans (d9.mono c8.size)
  have X_9 := X_8.step d9
  have Y_9 := Y_8.step d9
  clear d9 c8 X_8 Y_8
  go_wp2
  go_ret
  exact ⟨by simp [go_sem], c9⟩

set_option maxHeartbeats 2000000 in
set_option maxRecDepth 100000 in
theorem walk_some (A : Option Addr) (ca : Nat) (xs : List Nat) (B : Option Addr) (cb : Nat) (ys : List Nat) (x : Nat) (hl : xs.length ≤ 30) (hm : ys.length ≤ 30) (hcb : ys.length ≤ cb) (d : Nat) (hd : (tr 18446744069414584321 ys).length = d + 1) (hx : x < 18446744073709551616) (w : World) (Ra : Ws w w.heap.size A xs) (Rb : Ws w w.heap.size B ys) :
    Calls Try.prog 4 #[.slice A xs.length ca, .slice B ys.length cb, .int .u64 (x : Nat)] w fun e w' => e = .returned (.bool true) ∧ Below w.heap.size w w' := by
  have h1 : ¬ 30 < (xs.length : Int) := by omega
  have h2 : ¬ 30 < (ys.length : Int) := by omega
  obtain ⟨v, hv⟩ : ∃ v, v = evl x xs % 18446744069414584321 := ⟨_, rfl⟩
  obtain ⟨g, hg⟩ : ∃ g, g = (18446744069414584321 - x % 18446744069414584321) % 18446744069414584321 := ⟨_, rfl⟩
  have v64 : v < 18446744073709551616 := by rw [hv]; exact mod64 _
  have g64 : g < 18446744073709551616 := by rw [hg]; exact mod64 _
  have AG := Lib.hid (fun (m s : List Nat) hm hs hc => again (xs := xs) (m := m) (s := s) (x := x) hg hv hm hs hc)
  have LT := tr_len_le 18446744069414584321 xs
  have LY := tr_len_le 18446744069414584321 ys
  have DL := Lib.hid (fun W R => show Calls Try.prog 24 #[.slice A xs.length ca, .int .u64 (x : Nat)] W fun e w' => ∃ Al kl, e = .returned (.tuple #[.slice Al (rg (fun i => evl x ((tr 18446744069414584321 xs).drop (i + 1)) % 18446744069414584321) ((tr 18446744069414584321 xs).length - 1)).length kl, .int .u64 (v : Nat)]) ∧ Ws w' w'.heap.size Al (rg (fun i => evl x ((tr 18446744069414584321 xs).drop (i + 1)) % 18446744069414584321) ((tr 18446744069414584321 xs).length - 1)) ∧ Below W.heap.size W w' by
    refine (divLinear A ca xs x hx (by omega) W R).mono ?_
    rintro e w' ⟨Al, kl, r, rfl, hr, Rl, hb⟩
    rw [evl_tr, ← hv] at hr
    subst hr
    exact ⟨Al, kl, by rw [rg_len], Rl, hb⟩)
  have LL : (rg (fun i => evl x ((tr 18446744069414584321 xs).drop (i + 1)) % 18446744069414584321) ((tr 18446744069414584321 xs).length - 1)).length ≤ 30 := by rw [rg_len]; omega
  have SU := Lib.hid (fun W => show Calls Try.prog 25 #[.int .u64 0, .int .u64 (x : Nat)] W fun e w' => e = .returned (.int .u64 (g : Nat)) ∧ W = w' by
    have c := Gr.sub 0 x W
    rw [Nat.zero_add, ← hg] at c
    exact c)
  have QV := Lib.hid (fun W R => rat A ca xs x hx (by omega) W R)
  rw [← hv] at QV
  have QM := Lib.hid (fun (A B : Option Addr) (ca cb : Nat) (zs us : List Nat) (h : zs.length ≤ 60) (h2 : us.length ≤ 60) W R1 R2 => rmul A B ca cb zs us (by omega) (by omega) W R1 R2)
  have QA := Lib.hid (fun (A B : Option Addr) (ca cb : Nat) (zs us : List Nat) (h : zs.length ≤ 200) (h2 : us.length ≤ 200) W R1 R2 => radd A B ca cb zs us (by omega) (by omega) W R1 R2)
  have VC := Lib.hid (fun (zs us : List Nat) (h : zs.length ≤ 60) (h2 : us.length ≤ 60) i (hi : 200 ≤ i) => show conv (pl zs) (pl us) i = 0 from conv_far zs us i (by omega))
  have VG := Lib.hid (fun (zs us : List Nat) (h : zs.length ≤ 200) (h2 : us.length ≤ 200) i (hi : 200 ≤ i) => show pl zs i + pl us i = 0 by rw [pl_far zs i (by omega), pl_far us i (by omega)])
  have QT := Lib.hid (fun W R => rtrim A ca xs (by omega) W R)
  have QY := Lib.hid (fun W R => rtrim B cb ys (by omega) W R)
  have WL := Lib.hid (fun W => ws_lin W g g64 23)
  have WO := Lib.hid (fun W => ws_one W v v64 23)
  have S0 := Lib.hid (fun (A1 A2 : Option Addr) (k1 k2 : Nat) (z1 z2 : List Nat) (he : z1 = z2) hl W R1 R2 => same_eq A1 A2 k1 k2 he hl W R1 R2)
  have DV := Lib.hid (fun W R1 R2 => show Calls Try.prog 26 #[.slice A xs.length ca, .slice B ys.length cb] W (fun e w' => ∃ (qs rs : List Nat) (A1 : Option Addr) (c1 : Nat) (A2 : Option Addr) (c2 : Nat), Nf 18446744069414584321 qs ∧ Nf 18446744069414584321 rs ∧ rs.length < (tr 18446744069414584321 ys).length ∧ qs.length ≤ xs.length ∧
    (∀ i, (conv (pl qs) (pl ys) i + pl rs i) % 18446744069414584321 = pl xs i % 18446744069414584321) ∧ e = .returned (.tuple #[.slice A1 qs.length c1, .slice A2 rs.length c2, .int .i64 0]) ∧ Ws w' w'.heap.size A1 qs ∧ Ws w' w'.heap.size A2 rs ∧ Below W.heap.size W w') from
    div A B ca cb xs ys (by omega) (by omega) hcb d hd W R1 R2)
  have WH := Lib.hid (fun (q r m s : List Nat) he hm hs hc => whole (xs := xs) (ys := ys) (q := q) (r := r) (m := m) (s := s) he hm hs hc)
  have QR := Lib.hid (fun (Az : Option Addr) (kz : Nat) (zs : List Nat) (h : Nf 18446744069414584321 zs) (hl : zs.length ≤ 200) W R => show Calls Try.prog 13 #[.slice Az zs.length kz] W (Row zs W) by
    have c := rtrim Az kz zs (by omega) W R
    rw [tr_self (by decide) h] at c
    exact c)
  have hdn : ((((tr 18446744069414584321 ys).length : Nat) : Int) == 0) = false := by rw [beq_eq_false_iff_ne]; omega
  clear hd hx hv hg v64 g64 hcb
  generalize rg (fun i => evl x ((tr 18446744069414584321 xs).drop (i + 1)) % 18446744069414584321) ((tr 18446744069414584321 xs).length - 1) = ls at *
  generalize tr 18446744069414584321 xs = ts at *
  generalize tr 18446744069414584321 ys = ty at *
  go_enter Try.func4, Try.ntmps4
  go_wp2_with fail
  refine (Pl.awake _).mono ?_
  rintro e w1 ⟨rfl, c1⟩
  have X1 := Ra.step c1
  have Y1 := Rb.step c1
  clear Ra Rb
  go_wp2_with fail
  refine (DL.out _ X1).mono ?_
  rintro e w2 ⟨Al, kl, rfl, l_2, d2⟩
  have c2 := c1.trans (d2.mono c1.size)
  have X_2 := X1.step d2
  have Y_2 := Y1.step d2
  clear d2 c1 X1 Y1
  go_wp2_with fail
  refine (SU.out _).mono ?_
  rintro e w' ⟨rfl, rfl⟩
  go_wp2_with fail
  have d3 := below_alloc w2 (.cells #[.int .u64 (g : Nat), .int .u64 1] 23)
  have o_3 := WL.out w2
  have c3 := c2.trans (d3.mono c2.size)
  have X_3 := X_2.step d3
  have Y_3 := Y_2.step d3
  have l_3 := l_2.step d3
  clear d3 c2 X_2 Y_2 l_2
  obtain ⟨ao, hao⟩ : ∃ ao : Option Addr, ao = some ⟨w2.heap.size, 0, none⟩ := ⟨_, rfl⟩
  rw [← hao] at o_3 ⊢
  clear hao
  generalize w2.alloc (.cells #[.int .u64 (g : Nat), .int .u64 1] 23) = w3 at *
  refine (QV.out _ X_3).mono ?_
  rintro e w' ⟨rfl, rfl⟩
  go_wp2_with fail
  refine (QM.out Al ao kl 2 ls [g, 1] (by omega) (by simp) _ l_3 o_3).mono ?_
  rintro e w4 ⟨m, Am, km, Nm0, Cm0, rfl, m_4, d4⟩
  have Lm := Lib.hid (Po.len Nm0 Cm0 200 (VC.out ls [g, 1] (by omega) (by simp)))
  have Nm := Lib.hid Nm0
  have Cm := Lib.hid Cm0
  have c4 := c3.trans (d4.mono c3.size)
  have X_4 := X_3.step d4
  have Y_4 := Y_3.step d4
  have l_4 := l_3.step d4
  have o_4 := o_3.step d4
  clear d4 c3 X_3 Y_3 l_3 o_3 Nm0 Cm0
  clear l_4
  clear o_4
  go_wp2_with fail
  have d5 := below_alloc w4 (.cells #[.int .u64 (v : Nat)] 23)
  have o_5 := WO.out w4
  have c5 := c4.trans (d5.mono c4.size)
  have X_5 := X_4.step d5
  have Y_5 := Y_4.step d5
  have m_5 := m_4.step d5
  clear d5 c4 X_4 Y_4 m_4
  obtain ⟨ap, hap⟩ : ∃ ap : Option Addr, ap = some ⟨w4.heap.size, 0, none⟩ := ⟨_, rfl⟩
  rw [← hap] at o_5 ⊢
  clear hap
  generalize w4.alloc (.cells #[.int .u64 (v : Nat)] 23) = w5 at *
  refine (QA.out Am ap km 1 m [v] Lm.out (by simp) _ m_5 o_5).mono ?_
  rintro e w6 ⟨s, As, ks, Ns0, Cs0, rfl, s_6, d6⟩
  have ES := Lib.hid (AG.out m s Cm.out Ns0 Cs0)
  have c6 := c5.trans (d6.mono c5.size)
  have X_6 := X_5.step d6
  have Y_6 := Y_5.step d6
  have m_6 := m_5.step d6
  have o_6 := o_5.step d6
  clear d6 c5 X_5 Y_5 m_5 o_5 Ns0 Cs0
  clear m_6
  clear o_6
  go_wp2_with fail
  refine (QT.out _ X_6).mono ?_
  rintro e w7 ⟨At, kt, rfl, t_7, d7⟩
  have c7 := c6.trans (d7.mono c6.size)
  have X_7 := X_6.step d7
  have Y_7 := Y_6.step d7
  have s_7 := s_6.step d7
  clear d7 c6 X_6 Y_6 s_6
  go_wp2_with fail
  refine (S0.out As At ks kt s ts ES.out (by omega) _ s_7 t_7).mono ?_
  rintro e w8 ⟨rfl, d8⟩
  have c8 := c7.trans (d8.mono c7.size)
  have X_8 := X_7.step d8
  have Y_8 := Y_7.step d8
  have s_8 := s_7.step d8
  have t_8 := t_7.step d8
  clear d8 c7 X_7 Y_7 s_7 t_7
  clear s_8
  clear t_8
  go_wp2_with fail
  refine (DV.out _ X_8 Y_8).mono ?_
  rintro e w9 ⟨q, r, Aq, kq, Ar, kr, Nq0, Nr0, hlr, hlq, hE0, rfl, q_9, r_9, d9⟩
  have Nq := Lib.hid Nq0
  have Nr := Lib.hid Nr0
  have hE := Lib.hid hE0
  have hlr1 : (r.length : Int) < (ty.length : Int) := by omega
  have c9 := c8.trans (d9.mono c8.size)
  have X_9 := X_8.step d9
  have Y_9 := Y_8.step d9
  clear d9 c8 X_8 Y_8 Nq0 Nr0 hE0
  go_wp2_with fail
  refine (QY.out _ Y_9).mono ?_
  rintro e w10 ⟨Au, ku, rfl, u_10, d10⟩
  have c10 := c9.trans (d10.mono c9.size)
  have X_10 := X_9.step d10
  have Y_10 := Y_9.step d10
  have q_10 := q_9.step d10
  have r_10 := r_9.step d10
  clear d10 c9 X_9 Y_9 q_9 r_9
  clear u_10
  go_wp2_with fail
  refine (QR.out Ar kr r Nr.out (by omega) _ r_10).mono ?_
  rintro e w11 ⟨Aa, ka, rfl, a_11, d11⟩
  have c11 := c10.trans (d11.mono c10.size)
  have X_11 := X_10.step d11
  have Y_11 := Y_10.step d11
  have q_11 := q_10.step d11
  have r_11 := r_10.step d11
  clear d11 c10 X_10 Y_10 q_10 r_10
  go_wp2_with fail
  refine (S0.out Ar Aa kr ka r r rfl (by omega) _ r_11 a_11).mono ?_
  rintro e w12 ⟨rfl, d12⟩
  have c12 := c11.trans (d12.mono c11.size)
  have X_12 := X_11.step d12
  have Y_12 := Y_11.step d12
  have q_12 := q_11.step d12
  have r_12 := r_11.step d12
  have a_12 := a_11.step d12
  clear d12 c11 X_11 Y_11 q_11 r_11 a_11
  clear a_12
  go_wp2_with fail
  refine (QR.out Aq kq q Nq.out (by omega) _ q_12).mono ?_
  rintro e w13 ⟨Ab, kb, rfl, b_13, d13⟩
  have c13 := c12.trans (d13.mono c12.size)
  have X_13 := X_12.step d13
  have Y_13 := Y_12.step d13
  have q_13 := q_12.step d13
  have r_13 := r_12.step d13
  clear d13 c12 X_12 Y_12 q_12 r_12
  go_wp2_with fail
  refine (S0.out Aq Ab kq kb q q rfl (by omega) _ q_13 b_13).mono ?_
  rintro e w14 ⟨rfl, d14⟩
  have c14 := c13.trans (d14.mono c13.size)
  have X_14 := X_13.step d14
  have Y_14 := Y_13.step d14
  have q_14 := q_13.step d14
  have r_14 := r_13.step d14
  have b_14 := b_13.step d14
  clear d14 c13 X_13 Y_13 q_13 r_13 b_13
  clear b_14
  go_wp2_with fail
  refine (QM.out Aq B kq cb q ys (by omega) (by omega) _ q_14 Y_14).mono ?_
  rintro e w15 ⟨f, Af, kf, Nf0, Cf0, rfl, f_15, d15⟩
  have Lf := Lib.hid (Po.len Nf0 Cf0 200 (VC.out q ys (by omega) (by omega)))
  have Nf := Lib.hid Nf0
  have Cf := Lib.hid Cf0
  have c15 := c14.trans (d15.mono c14.size)
  have X_15 := X_14.step d15
  have Y_15 := Y_14.step d15
  have q_15 := q_14.step d15
  have r_15 := r_14.step d15
  clear d15 c14 X_14 Y_14 q_14 r_14 Nf0 Cf0
  go_wp2_with fail
  refine (QA.out Af Ar kf kr f r Lf.out (by omega) _ f_15 r_15).mono ?_
  rintro e w16 ⟨h, Ah, kh, Nh0, Ch0, rfl, h_16, d16⟩
  have Lh := Lib.hid (Po.len Nh0 Ch0 200 (VG.out f r Lf.out (by omega)))
  have Nh := Lib.hid Nh0
  have Ch := Lib.hid Ch0
  have c16 := c15.trans (d16.mono c15.size)
  have X_16 := X_15.step d16
  have Y_16 := Y_15.step d16
  have q_16 := q_15.step d16
  have r_16 := r_15.step d16
  have f_16 := f_15.step d16
  clear d16 c15 X_15 Y_15 q_15 r_15 f_15 Nh0 Ch0
  have EH := Lib.hid (WH.out q r f h hE.out Cf.out Nh.out Ch.out)
  go_wp2_with fail
  refine (QT.out _ X_16).mono ?_
  rintro e w17 ⟨Ai, ki, rfl, i_17, d17⟩
  have c17 := c16.trans (d17.mono c16.size)
  have X_17 := X_16.step d17
  have Y_17 := Y_16.step d17
  have q_17 := q_16.step d17
  have r_17 := r_16.step d17
  have f_17 := f_16.step d17
  have h_17 := h_16.step d17
  clear d17 c16 X_16 Y_16 q_16 r_16 f_16 h_16
  go_wp2_with fail
  refine (S0.out Ah Ai kh ki h ts EH.out (by omega) _ h_17 i_17).mono ?_
  rintro e w18 ⟨rfl, d18⟩
  have c18 := c17.trans (d18.mono c17.size)
  have X_18 := X_17.step d18
  have Y_18 := Y_17.step d18
  have q_18 := q_17.step d18
  have r_18 := r_17.step d18
  have f_18 := f_17.step d18
  have h_18 := h_17.step d18
  have i_18 := i_17.step d18
  clear d18 c17 X_17 Y_17 q_17 r_17 f_17 h_17 i_17
  go_wp2
  go_ret
  exact ⟨by simp [go_sem], c18⟩

theorem walk (A : Option Addr) (ca : Nat) (xs : List Nat) (B : Option Addr) (cb : Nat) (ys : List Nat) (x : Nat) (hcb : ys.length ≤ cb) (hx : x < 18446744073709551616) (w : World) (Ra : Ws w w.heap.size A xs) (Rb : Ws w w.heap.size B ys) :
    Calls Try.prog 4 #[.slice A xs.length ca, .slice B ys.length cb, .int .u64 (x : Nat)] w fun e w' => e = .returned (.bool true) ∧ Below w.heap.size w w' := by
  by_cases h : 30 < xs.length
  · exact walk_long_a A ca xs B cb ys x h w
  · by_cases h2 : 30 < ys.length
    · exact walk_long_b A ca xs B cb ys x h h2 w
    · cases hd : (tr 18446744069414584321 ys).length with
      | zero => exact walk_zero A ca xs B cb ys x (by omega) (by omega) hd hx w Ra Rb
      | succ d => exact walk_some A ca xs B cb ys x (by omega) (by omega) hcb d hd hx w Ra Rb

set_option maxRecDepth 100000 in
theorem lifted (os : Os) (started : os.Started) (H : Type) (enc : TypeId × Value → H) :
    ReturnsInHanded {} Try.checked os 4 .any (Rows.polyDividesSpec.pre6 enc Try.prog Try.f4 Rows.polyDividesRow.domain false) (Rows.polyDividesSpec.post enc Try.prog Try.f4 false true false false) := by
  refine returnsInHanded_of_change (C := Try.checked) Fr.own started (by kernel_rfl) Try.func4
    (ChangeSpec.witness6 (enc := enc) (C := Try.checked) false ⟨#[], #[.slice none 0 0, .slice none 0 0, .int .u64 0], []⟩ 8 (by kernel_rfl) (by kernel_rfl) (by kernel_rfl) (by kernel_rfl)) ?_
  intro W base args ds gs before hval0 hW hcnd _
  have hval : ∀ (j : Nat) t v, Try.f4.params[j]? = some t → args[j]? = some v → Value.okWide Try.prog W .any base t v := hval0
  have hW' := hW
  obtain ⟨p, q, hA0, hV, rfl, hfz, hnd⟩ := hW
  have hA : DataW.TrodAll enc Try.prog W 0 (fun _ => true) true Try.f4.params.toList args.toList ds p := hA0
  obtain ⟨rfl, rfl⟩ := trodVars_none hV
  rw [Try.params4] at hA hval
  obtain ⟨v0, vs0, d0, ds0, p0, q0, hargs, rfl, rfl, h0, r0⟩ := trodAll_cons hA
  obtain ⟨v1, vs1, d1, ds1, p1, q1, rfl, rfl, rfl, h1, r1⟩ := trodAll_cons r0
  obtain ⟨v2, vs2, d2, ds2, p2, q2, rfl, rfl, rfl, h2, r2⟩ := trodAll_cons r1
  obtain ⟨rfl, rfl, rfl⟩ := trodAll_nil r2
  obtain rfl : args = #[v0, v1, v2] := by cases args; simp_all
  obtain ⟨A0, n0, c0, rfl⟩ := okWide_slice Try.underlying22 (hval 0 22 v0 rfl rfl)
  obtain ⟨fuel0, hf0⟩ := h0
  obtain ⟨xs0, rfl, lc0, lm0, R0⟩ := Ww.open_words hf0
  obtain ⟨A1, n1, c1, rfl⟩ := okWide_slice Try.underlying22 (hval 1 22 v1 rfl rfl)
  obtain ⟨fuel1, hf1⟩ := h1
  obtain ⟨xs1, rfl, lc1, lm1, R1⟩ := Ww.open_words hf1
  obtain ⟨a2, rfl, rfl, rfl, w2⟩ := open_int Try.underlying23 (hval 2 23 v2 rfl rfl) h2
  have b2 : 0 ≤ a2 ∧ a2 ≤ 18446744073709551615 := by simpa [Lit.wf, IntKind.min, IntKind.max, IntKind.signed, IntKind.bits] using w2
  obtain ⟨x2, rfl⟩ := Int.eq_ofNat_of_zero_le b2.1
  simp only [List.append_nil] at hW' hA0
  refine (walk A0 c0 xs0 A1 c1 xs1 x2 lc1 (by omega) W R0 R1).mono fun e W' ⟨he, hb⟩ => ?_
  subst he
  exact ⟨_, rfl, Fr.law_post (tb := 4) hW' hA0 rfl rfl rfl Try.underlying4 (by rw [Try.params4]; intro t ht; simp at ht; rcases ht with rfl | rfl | rfl; all_goals exact ⟨by kernel_rfl, of_decide_eq_true (by kernel_rfl)⟩) hb⟩

theorem proved : Rows.PolyDividesSaid :=
  OpenClaim.holds_of_wide 4 Try.f4 rfl rfl rfl rfl rfl rfl rfl ⟨rfl, rfl, rfl, rfl, rfl⟩ rfl rfl rfl rfl rfl (by kernel_rfl) Try.func4 (by kernel_rfl)
    (of_decide_eq_true (by kernel_rfl)) (by unfold Func.isWrapper; first | (rw [if_pos (by decide +kernel)]; kernel_rfl) | (rw [if_neg (by decide +kernel)]; exact ⟨rfl, rfl⟩))
    (fun os started H enc _ => lifted os started H enc)
end Go.Proofs.Ytckaelgmokddkaa.polyDivides
