/- The contract of twid.Tile, of a tile that may be. -/
import Derived.Test.YtfjoacopnkceoaaDoorTwidF
import Derived.Lib.QuietBelow
set_option linter.unusedVariables false
namespace Go.Proofs.YtfjoacopnkceoaaDoor
open Go.RowKit Go.Lib Go.Sort
namespace Td
open Nm Ww Tn Pl

/-- A twiddle of a row and a column behind others. -/
def tw (x R C r i : Nat) : Nat := x ^ ((R + r) * (C + i)) % 18446744069414584321
theorem tw_lt (x R C r i : Nat) : tw x R C r i < 18446744069414584321 := Nat.mod_lt _ (by decide)
theorem tw_step (x R C r i : Nat) : tw x R C r i * (x ^ (R + r) % 18446744069414584321) % 18446744069414584321 = tw x R C r (i + 1) := by
  unfold tw
  rw [← Nat.mul_mod, ← Nat.pow_add, ← Nat.mul_succ]
  rfl
theorem tw_down (x R C r : Nat) : tw x R C r 0 * (x ^ C % 18446744069414584321) % 18446744069414584321 = tw x R C (r + 1) 0 := by
  unfold tw
  rw [← Nat.mul_mod, ← Nat.pow_add, Nat.add_zero, ← Nat.add_assoc, Nat.succ_mul]
theorem tw_start (x R C : Nat) : (x ^ R % 18446744069414584321) ^ C % 18446744069414584321 = tw x R C 0 0 := by
  unfold tw
  rw [Nt.pmod, ← Nat.pow_mul, Nat.add_zero, Nat.add_zero]
theorem row_div (r c i : Nat) (hi : i < c) : (r * c + i) / c = r ∧ (r * c + i) % c = i := by
  have hc : 0 < c := by omega
  rw [Nat.mul_comm]
  exact ⟨by rw [Nat.mul_add_div hc, Nat.div_eq_of_lt hi, Nat.add_zero], by rw [Nat.mul_add_mod, Nat.mod_eq_of_lt hi]⟩
/-- A tile's words. -/
def tl (xs : List Nat) (x R C c j : Nat) : Nat := Pn.pl xs j * tw x R C (j / c) (j % c) % 18446744069414584321
theorem tl_lt (xs : List Nat) (x R C c j : Nat) : tl xs x R C c j < 18446744069414584321 := Nat.mod_lt _ (by decide)
theorem tl_at (xs : List Nat) (x R C c r i : Nat) (hi : i < c) : Pn.pl xs (r * c + i) * tw x R C r i % 18446744069414584321 = tl xs x R C c (r * c + i) := by
  obtain ⟨h1, h2⟩ := row_div r c i hi
  unfold tl
  rw [h1, h2]
/-- What Tile's loop keeps. -/
structure TR (G S : Nat → Nat) (F : Nat → Nat) (n a c : Nat) (w wr : World) (r f s : Nat) : Prop where
  hr : r ≤ a
  f : f = F r
  s : s = S r
  b : Bd G n w.heap.size w wr (fun j => j < r * c)

set_option maxHeartbeats 2000000 in
set_option maxRecDepth 100000 in
theorem tile_core (k d : Nat) (A : Option Addr) (n ca a c R C x : Nat) (xs : List Nat) (hx : xs.length = n) (hn : n = a * c) (ha : 0 < a) (hc : 0 < c) (h32 : n ≤ 1048576) (hca : n ≤ ca) (hca2 : ca ≤ 9223372036854775807) (G S F : Nat → Nat) (T : Nat → Nat → Nat) (dn : Nat)
    (hC : ∀ W, Calls Tryd.prog 47 #[.int .i64 (k : Int), .int .i64 (d : Int)] W fun e w' => e = .returned (.tuple #[.int .u64 (x : Nat), .int .i64 0]) ∧ Below W.heap.size W w')
    (hG : ∀ W, Ft.Tab W → Calls Tryd.prog 50 #[.agg #[.int .i64 (a : Int), .int .i64 (c : Int)]] W fun e w' => e = .returned (.bool true) ∧ Below W.heap.size W w')
    (hZ : ∀ W, Ft.Tab W → Calls Tryd.prog 51 #[.agg #[.int .i64 (a : Int), .int .i64 (c : Int)]] W fun e w' => e = .returned (.int .i64 (n : Int)) ∧ Below W.heap.size W w')
    (hP : ∀ W, Calls Tryd.prog 55 #[.int .i64 (R : Int), .int .i64 (a : Int)] W fun e w' => e = .returned (.bool true) ∧ W = w')
    (hQ : ∀ W, Calls Tryd.prog 55 #[.int .i64 (C : Int), .int .i64 (c : Int)] W fun e w' => e = .returned (.bool true) ∧ W = w')
    (hR : R < 18446744073709551616) (hCl : C < 18446744073709551616)
    (h1 : ∀ W, Calls Tryd.prog 56 #[.int .u64 (x : Nat), .int .u64 (R : Nat)] W fun e w' => e = .returned (.int .u64 (S 0 : Nat)) ∧ Below W.heap.size W w')
    (h2 : ∀ W, Calls Tryd.prog 56 #[.int .u64 (x : Nat), .int .u64 (C : Nat)] W fun e w' => e = .returned (.int .u64 (dn : Nat)) ∧ Below W.heap.size W w')
    (h3 : ∀ W, Calls Tryd.prog 56 #[.int .u64 (S 0 : Nat), .int .u64 (C : Nat)] W fun e w' => e = .returned (.int .u64 (F 0 : Nat)) ∧ Below W.heap.size W w')
    (hD : ∀ r W, Calls Tryd.prog 58 #[.int .u64 (F r : Nat), .int .u64 (dn : Nat)] W fun e w' => e = .returned (.int .u64 (F (r + 1) : Nat)) ∧ Below W.heap.size W w')
    (hE : ∀ r W, Calls Tryd.prog 58 #[.int .u64 (S r : Nat), .int .u64 (x : Nat)] W fun e w' => e = .returned (.int .u64 (S (r + 1) : Nat)) ∧ Below W.heap.size W w')
    (hT0 : ∀ r, F r = T r 0) (hTs : ∀ r i, T r i * S r % 18446744069414584321 = T r (i + 1)) (hTl : ∀ r i, T r i < 18446744073709551616) (hSl : ∀ r, S r < 18446744073709551616)
    (hTG : ∀ r i, i < c → Pn.pl xs (r * c + i) * T r i % 18446744069414584321 = G (r * c + i))
    (w : World) (hT : Ft.Tab w) (X : Ws w w.heap.size A xs) :
    Calls Tryd.prog 37 #[.slice A n ca, .agg #[.int .i64 (a : Int), .int .i64 (c : Int), .int .i64 (R : Int), .int .i64 (C : Int)], .int .i64 (k : Int), .int .i64 (d : Int)] w (RwE G n w) := by
  have HC := Lib.hid hC
  have HG := Lib.hid hG
  have HZ := Lib.hid hZ
  have HP := Lib.hid hP
  have HQ := Lib.hid hQ
  have H1 := Lib.hid h1
  have H2 := Lib.hid h2
  have H3 := Lib.hid h3
  have HD := Lib.hid hD
  have HE := Lib.hid hE
  have HT := Lib.hid hT
  have HB := Lib.hid (below_alloc w)
  have mk := make_words n (by omega) (by omega)
  have TW := Lib.hid (fun (r : Nat) (hr : r * c + c ≤ n) (b cr : Nat) (A1 : Option Addr) (c1 : Nat) (w0 W : World) BD R => twist b n (r * c) c cr A1 c1 (rg (fun i => Pn.pl xs (r * c + i)) c) (rg_len _ _) G (T r) (F r) (S r) (hSl r) (hT0 r) (hTs r) (hTl r)
    (fun i hi => by rw [pl_rg _ _ _ hi]; exact hTG r i hi) hr (by omega) w0 W BD R)
  have RM := Lib.hid (fun r (h : r < a) => show r * c + c ≤ n by
    rw [hn, ← Nat.succ_mul]; exact Nat.mul_le_mul_right c h)
  have RS := Lib.hid (fun (w : World) (B ab ao : Nat) (R : Ws w B (some ⟨ab, ao, none⟩) xs) (l : Nat) (h : l + c ≤ n) => ws_sub R l c (by omega))
  have HN := Lib.hid hn
  have ha2 : a ≤ 1048576 := Nat.le_trans (Nat.le_trans (Nat.le_mul_of_pos_right a hc) (Nat.le_of_eq hn.symm)) h32
  have qR := Bt.wrapN R hR
  have qC := Bt.wrapN C hCl
  obtain ⟨ab, ao, rfl, hB0, -⟩ := X.at_ 0 (by rw [hx, hn]; exact Nat.mul_pos ha hc)
  clear hC hG hZ hP hQ h1 h2 h3 hD hE hT hT0 hTs hTl hSl hTG hn hR hCl hx
  go_enter Tryd.func37, Tryd.ntmps37
  go_wp2_with fail
  refine (HC.out _).mono ?_
  rintro e w1 ⟨rfl, b1⟩
  have c1 := (HB.out _).trans (b1.mono (HB.out _).size)
  have T1 := (Fo.fresh w a c R C 64).below b1
  have t0 := T1.c0
  have t1 := T1.c1
  have t2 := T1.c2
  have t3 := T1.c3
  clear b1
  go_wp2_with fail
  refine (HG.out _ (HT.out.below c1)).mono ?_
  rintro e w2 ⟨rfl, b2⟩
  have c2 := c1.trans (b2.mono c1.size)
  have T2 := T1.below b2
  clear c1 b2 T1 t0 t1 t2 t3
  have t0 := T2.c0
  have t1 := T2.c1
  have t2 := T2.c2
  have t3 := T2.c3
  go_wp2_with fail
  refine (HZ.out _ (HT.out.below c2)).mono ?_
  rintro e w3 ⟨rfl, b3⟩
  have c3 := c2.trans (b3.mono c2.size)
  have T3 := T2.below b3
  clear c2 b3 T2 t0 t1 t2 t3
  have t0 := T3.c0
  have t1 := T3.c1
  have t2 := T3.c2
  have t3 := T3.c3
  go_wp2_with fail
  refine (HP.out _).mono ?_
  rintro e w4 ⟨rfl, rfl⟩
  go_wp2_with fail
  refine (HQ.out _).mono ?_
  rintro e w4 ⟨rfl, rfl⟩
  have X3 := X.step c3
  have B0 := Lib.hid (Bd.start (w := w3) (w1 := w3) (D := fun j => j < 0 * c) G n (Below.refl _ _) 51 (fun j hj => by rw [Nat.zero_mul] at hj; omega))
  have TB := T3.lt
  have s3 := Nat.lt_of_lt_of_le TB (Nat.le_refl _)
  clear t0 t1 t2 t3 HP HQ HG HZ HC X hB0
  go_upto_region 9 with fail
  generalize w3.alloc (.cells (madeCells #[.int .u64 0] n) 51) = w4 at *
  have FO := Lib.hid (fun (wr : World) (D : Nat → Prop) (h : Bd G n w3.heap.size w3 wr D) => T3.below h.bel)
  have T4 := FO.out _ _ B0.out
  have t0 := T4.c0
  have t1 := T4.c1
  have t2 := T4.c2
  have t3 := T4.c3
  have q0 := cell_regrown T4.c0
  have q1 := cell_regrown T4.c1
  have q2 := cell_regrown T4.c2
  have q3 := cell_regrown T4.c3
  have D1 := Lib.hid (fun d os => Calls.regrown_of (H1.out (grow (redrawn w4 d) os)))
  have D2 := Lib.hid (fun d os => Calls.regrown_of (H2.out (grow (redrawn w4 d) os)))
  refine wp_region_quiet_below (by as_aux_lemma => kernel_rfl) (by as_aux_lemma => kernel_rfl) ?_
  repeat (go_big_quiet_step ((first
    | (go_at_call 56; with_reducible exact D1.out _ _)
    | (go_at_call 56; with_reducible exact D2.out _ _))))
  refine wpQuiet_nil ?_
  intro _ hw'
  obtain ⟨⟨dq, osq⟩, hw''⟩ := hw'
  subst hw''
  have B5 := B0.out.call (below_regrown w4 dq osq)
  clear t0 t1 t2 t3 q0 q1 q2 q3 D1 D2 T4 H1 H2 B0
  show Exit.then _ _ _ _ (grow (redrawn w4 dq) osq)
  generalize grow (redrawn w4 dq) osq = w5 at *
  have T5 := FO.out _ _ B5
  have t0 := T5.c0
  have t1 := T5.c1
  have t2 := T5.c2
  have t3 := T5.c3
  go_wp2_with fail
  refine (H3.out _).mono ?_
  rintro e w6 ⟨rfl, b6⟩
  have B6 := B5.call b6
  clear t0 t1 t2 t3 T5 B5 b6 H3
  have T6 := FO.out _ _ B6
  have t0 := T6.c0
  have t1 := T6.c1
  have t2 := T6.c2
  have t3 := T6.c3
  go_wp2_with fail
  go_loopw [13, 15, 77] (fun v13 v15 v77 wr => ∃ r f s : Nat, v77 = .int .i64 (r : Int) ∧ v15 = .int .u64 (f : Nat) ∧ v13 = .int .u64 (s : Nat) ∧ TR G S F n a c w3 wr r f s) (fun _ _ v77 _ => a - (Lib.intOf v77).toNat)
  case atStart => exact ⟨0, F 0, S 0, rfl, rfl, rfl, ⟨Nat.zero_le _, rfl, rfl, B6⟩⟩
  case round =>
    obtain ⟨r, f, s, rfl, rfl, rfl, Z⟩ := hrel
    clear T6 t0 t1 t2 t3 B6 mk
    have BD := Z.b
    have hr := Z.hr
    by_cases hlt : r < a
    · have r1 : (r : Int) < a := by omega
      have hrm := RM.out r hlt
      have TK := TW.out r hrm
      have D1 := HD.out r
      have E1 := HE.out r
      have X4 := RS.out _ _ _ _ X3 (r * c) hrm
      rw [← Z.f] at TK D1
      rw [← Z.s] at TK E1
      obtain ⟨f2, hf2⟩ : ∃ f2, f2 = F (r + 1) := ⟨_, rfl⟩
      obtain ⟨s2, hs2⟩ : ∃ s2, s2 = S (r + 1) := ⟨_, rfl⟩
      rw [← hf2] at D1
      rw [← hs2] at E1
      have HF2 := Lib.hid hf2
      have HS2 := Lib.hid hs2
      have SB := Lib.hid (fun wr (h : Bd G n w3.heap.size w3 wr (fun j => j < r * c + c)) => show Bd G n w3.heap.size w3 wr (fun j => j < (r + 1) * c) from h.less (fun j hj => by rw [Nat.succ_mul] at hj; exact hj))
      obtain ⟨fr, hfr⟩ : ∃ fr, fr = r * c := ⟨_, rfl⟩
      rw [← hfr] at TK BD X4 SB hrm
      obtain ⟨tt, htt⟩ : ∃ tt, tt = fr + c := ⟨_, rfl⟩
      have e1 : (r : Int) * (c : Int) = (fr : Int) := by rw [hfr, Int.natCast_mul]
      have e2 : ((r : Int) + 1) * (c : Int) = (tt : Int) := by rw [Int.add_mul, e1, htt]; omega
      have q4 : IntKind.i64.wrap ((r : Int) * (c : Int)) = (fr : Int) := by rw [e1]; exact IntWalk.i64_in _ (by omega)
      have q5 : IntKind.i64.wrap (((r : Int) + 1) * (c : Int)) = (tt : Int) := by rw [e2]; exact IntWalk.i64_in _ (by omega)
      have hs3 := fun W => slice_both W w3.heap.size 0 n n fr tt c htt.symm hc (by omega)
      have hs4 := fun W => slice_both W ab ao n ca fr tt c htt.symm hc (by omega)
      rw [Nat.zero_add] at hs3
      have T7 := FO.out _ _ BD
      have t0 := T7.c0
      have t1 := T7.c1
      have TK := Lib.hid TK
      have D1 := Lib.hid D1
      have E1 := Lib.hid E1
      clear hf2 hs2 hfr TW HD HE RM RS Z e1 e2 T7
      go_upto_region 14 with fail
      go_quiet (fail)
      have BD7 := BD.drewN nq
      clear t0 t1 BD
      generalize wr.drewN nq = w7 at *
      go_upto_region 15 with fail
      go_cut [101] (fun v101 wx => Bd G n w3.heap.size w3 wx (fun j => j < (r + 1) * c))
      case first =>
        go_region_with (go_at_call 57; refine (TK.out _ _ _ _ _ _ BD7.drew X4).mono ?_; rintro e w8 ⟨rfl, B8⟩)
        all_goals (go_wp2_with fail; go_meet)
        all_goals exact SB.out _ B8
      case rest =>
        go_wp2_with fail
        refine (D1.out _).mono ?_
        rintro e w9 ⟨rfl, b9⟩
        go_wp2_with fail
        refine (E1.out _).mono ?_
        rintro e w10 ⟨rfl, b10⟩
        have BF := Lib.hid ((hcut.call b9).call b10)
        clear hcut b9 b10
        go_wp2_with fail
        go_roundw
        case rel => exact ⟨r + 1, f2, s2, rfl, rfl, rfl, ⟨by omega, HF2.out, HS2.out, BF.out⟩⟩
        case measure => simp [Lib.intOf]; omega
    · have r1 : ¬ (r : Int) < a := by omega
      obtain rfl : r = a := by omega
      rw [← HN.out] at BD
      have OK := Lib.hid (show RwE G n w (.returned (.tuple #[.slice (some ⟨w3.heap.size, 0, none⟩) n n, .int .i64 0])) wr from ⟨_, rfl, c3.size, BD.s, BD.wk (fun _ h => h), c3.trans (BD.bel.mono c3.size)⟩)
      clear BD Z TW HD HE RM RS FO T3 X3 c3
      go_wp2
      exact bodyPost_ret (v := .tuple #[.slice (some ⟨w3.heap.size, 0, none⟩) n n, .int .i64 0]) (by simp [results, Tryd.results37, go_sem]) rfl OK.out
theorem tile (k d : Nat) (hk : k ≤ 32) (hd : d ≤ 1) (A : Option Addr) (n ca a c R C : Nat) (xs : List Nat) (hx : xs.length = n) (hg : Sh.Gd (a : Int) (c : Int)) (hn : n = a * c) (h32 : n ≤ 1048576) (hca : n ≤ ca) (hca2 : ca ≤ 9223372036854775807) (hR : R + a ≤ 4294967296) (hC : C + c ≤ 4294967296) (w : World) (hT : Ft.Tab w) (X : Ws w w.heap.size A xs) :
    Calls Tryd.prog 37 #[.slice A n ca, .agg #[.int .i64 (a : Int), .int .i64 (c : Int), .int .i64 (R : Int), .int .i64 (C : Int)], .int .i64 (k : Int), .int .i64 (d : Int)] w (RwE (tl xs (rd k d) R C c) n w) := by
  obtain ⟨g1, g2, g3, g4, g5⟩ := hg.bound
  have hr : rd k d < 18446744073709551616 := Nat.lt_trans (rd_lt k d) (by decide)
  refine tile_core k d A n ca a c R C (rd k d) xs hx hn (by omega) (by omega) h32 hca hca2 (tl xs (rd k d) R C c) (fun r => rd k d ^ (R + r) % 18446744069414584321) (fun r => tw (rd k d) R C r 0) (fun r i => tw (rd k d) R C r i) (rd k d ^ C % 18446744069414584321)
    (fun W => root_in k d hk hd W) (fun W T => Sh.good _ _ true (by simp [hg]) W T) (fun W T => Sh.size_yes _ _ _ hg (by rw [hn, Int.natCast_mul]) W T) (fun W => placed _ _ (by omega) true (by simp; omega) W) (fun W => placed _ _ (by omega) true (by simp; omega) W) (by omega) (by omega)
    (fun W => Gd.pow _ R hr (by omega) W) (fun W => Gd.pow _ C hr (by omega) W) (fun W => ?_) (fun r W => ?_) (fun r W => ?_) (fun r => rfl) (fun r i => tw_step _ _ _ _ _) (fun r i => Nat.lt_trans (tw_lt _ _ _ _ _) (by decide)) (fun r => mod64 _) (fun r i hi => tl_at _ _ _ _ _ _ _ hi) w hT X
  · have p := Gd.pow (rd k d ^ R % 18446744069414584321) C (mod64 _) (by omega) W
    rw [tw_start] at p
    exact p
  · have p := Gd.mul (tw (rd k d) R C r 0) (rd k d ^ C % 18446744069414584321) (Nat.lt_trans (tw_lt _ _ _ _ _) (by decide)) (mod64 _) W
    rw [tw_down] at p
    exact p
  · have p := Gd.mul (rd k d ^ (R + r) % 18446744069414584321) (rd k d) (mod64 _) hr W
    rw [Rt.pw_step (rd k d) (R + r) _ rfl] at p
    exact p
end Td
end Go.Proofs.YtfjoacopnkceoaaDoor
