/- Contract of package rows' Six. / Contract of layer 11's awake; rows copied by append, with their capacity; the document's own Rows and Cols. / What the law RowsAll goes by: two rows of one's own that are written one behind the other, in either order; a shape beside them. -/
import Derived.Test.YtfjoacopnkceoaaDoorViewF
import Derived.Test.YtfjoacopnkceoaaDoorTwidG
import Derived.Test.YtfjoacopnkceoaaDoorJoinA
import Derived.Test.YtfjoacopnkceoaaDoorQuartF
set_option linter.unusedVariables false
namespace Go.Proofs.YtfjoacopnkceoaaDoor
open Go.RowKit Go.Lib Go.Sort
namespace Vw
open Nm Ww Tn Pl Td Kn

theorem build_tile (p q : Int) (W : World) : (Instr.build 64 #[(0, .agg #[.int .i64 p, .int .i64 q])]).run Tryd.prog W = .ok (.agg #[.int .i64 p, .int .i64 q, .int .i64 0, .int .i64 0]) W := by kernel_rfl
/-- Behind all steps it is the transform. -/
theorem six_words (ra rc d R C n : Nat) (hR : R = 2 ^ ra) (hC : C = 2 ^ rc) (hk : ra + rc ≤ 32) (hd : d ≤ 1) (hn : n = R * C) (f : Nat → Nat) (j : Nat) (hj : j < n) :
    tn (ev rc d (fun i => i * C) 1 C (Td.tl (rg (ev ra d (fun i => i) C R f C) n) (rd (ra + rc) d) 0 0 C) R) R C j = ft (ra + rc) d f j := by
  refine six ra rc d hk hd R C hR hC f _ (fun r c hr hc => ?_) j (by rw [← hn]; exact hj)
  have h1 : (r + 1) * C ≤ R * C := Nat.mul_le_mul_right C hr
  rw [Nat.succ_mul] at h1
  rw [← tl_at _ _ _ _ C r c hc, pl_rg _ _ _ (show r * C + c < n by omega)]
  unfold tw
  rw [Nat.zero_add, Nat.zero_add]

theorem six_err (A : Option Addr) (n ca : Nat) (p q d e0 : Int) (he : e0 ≠ 0) (w : World) (hT : Ft.Tab w) (hF : ∀ m W, Ft.Tab W → Calls Tryd.prog 33 #[.slice A n ca, .agg #[.int .i64 p, .int .i64 q], .int .i64 d, .int .i64 m] W fun e w' => e = .returned (.int .i64 e0) ∧ Below W.heap.size W w') :
    Calls Tryd.prog 24 #[.slice A n ca, .agg #[.int .i64 p, .int .i64 q], .int .i64 d] w fun e w' => e = .returned (.int .i64 e0) ∧ Below w.heap.size w w' := by
  have HF := Lib.hid hF
  have HB := Lib.hid (below_alloc w)
  have HT := Lib.hid hT
  have ne : (e0 != 0) = true := by simp [he]
  clear hF hT he
  go_enter Tryd.func24, Tryd.ntmps24
  go_wp2_with fail
  refine (HF.out _ _ (HT.out.below (HB.out _))).mono ?_
  rintro e w1 ⟨rfl, h1⟩
  have b1 := (HB.out _).trans (h1.mono (HB.out _).size)
  clear h1
  go_wp2
  go_ret
  exact ⟨rfl, b1⟩
set_option maxHeartbeats 1000000 in
set_option maxRecDepth 100000 in
theorem six_ok (b n ca R C ra rc d : Nat) (f : Nat → Nat) (hR : R = 2 ^ ra) (hC : C = 2 ^ rc) (hk : ra + rc ≤ 32) (hn : n = R * C) (hl : n ≤ 1048576) (hca : n ≤ ca) (hca2 : ca ≤ 9223372036854775807) (hd : d ≤ 1) (hf : ∀ j, j < n → f j < 18446744073709551616) (w : World) (hT : Ft.Tab w) (hbt : 1 < b) (J : JR b n f w w) :
    Calls Tryd.prog 24 #[.slice (some ⟨b, 0, none⟩) n ca, .agg #[.int .i64 (R : Int), .int .i64 (C : Int)], .int .i64 (d : Int)] w fun e w' => e = .returned (.int .i64 0) ∧ JR b n (ft (ra + rc) d f) w w' := by
  have R0 : 0 < R := by rw [hR]; exact Nat.two_pow_pos ra
  have C0 : 0 < C := by rw [hC]; exact Nat.two_pow_pos rc
  have RL : R ≤ n := by rw [hn]; exact Nat.le_mul_of_pos_right R C0
  have CL : C ≤ n := by rw [hn]; exact Nat.le_mul_of_pos_left C R0
  have hg : Sh.Gd (R : Int) (C : Int) := ⟨ra, rc, hk, by rw [hR], by rw [hC]⟩
  have FA := Lib.hid (fun A ca m (hm : m ≤ 1048576) W T => fault_none A n ca d R C m hg (by rw [hn]; simp) hd hm W T)
  have FI := Lib.hid (fun W T => show Calls Tryd.prog 29 #[.int .i64 (n : Int)] W fun e w' => e = .returned (.tuple #[.int .i64 ((ra + rc : Nat) : Int), .bool true]) ∧ W = w' by
    rw [hn, hR, hC, ← Nat.pow_add]; exact Ft.fits_some (ra + rc) hk W T)
  have h20 : ∀ j, 2 ^ j ≤ n → j ≤ 20 := fun j h => (Nat.pow_le_pow_iff_right (a := 2) (by decide)).1 (Nat.le_trans h (Nat.le_trans hl (show 1048576 ≤ 2 ^ 20 by decide)))
  obtain ⟨f1, e1⟩ : ∃ f1, f1 = ev ra d (fun i => i) C R f C := ⟨_, rfl⟩
  obtain ⟨t, et⟩ : ∃ t, t = Td.tl (rg f1 n) (rd (ra + rc) d) 0 0 C := ⟨_, rfl⟩
  obtain ⟨f2, e2⟩ : ∃ f2, f2 = ev rc d (fun i => i * C) 1 C t R := ⟨_, rfl⟩
  have l1 := Lib.hid (fun j (hj : j < n) => show f1 j < 18446744073709551616 by rw [e1]; exact ev_lt j (hf j hj) C)
  have lt := Lib.hid (fun j => show t j < 18446744069414584321 by rw [et]; exact tl_lt _ _ _ _ _ _)
  have l2 := Lib.hid (fun j => show f2 j < 18446744073709551616 by rw [e2]; exact ev_lt j (Nat.lt_trans (lt.out j) (by decide)) R)
  have CA := Lib.hid (fun sb (hsb : sb ≠ b) W (hT : Ft.Tab W) (T : Sh.Tw W sb (R : Int) (C : Int)) (J : JR b n f W W) => show Calls Tryd.prog 34 #[.slice (some ⟨b, 0, none⟩) n ca, .int .i64 (C : Int), .int .i64 (d : Int), colsF sb] W fun e w' => e = .returned (.int .i64 0) ∧ JR b n f1 W w' by
    rw [e1]
    exact each 54 (fun args w => Tryd.call54 args w) #[.pointer (some ⟨sb, 0, none⟩)] b n ca C C R ra d (fun i => i) f (fun W => Sh.Tw W sb (R : Int) (C : Int)) hR (h20 _ (by rw [← hR]; omega)) hd hl C0 (by omega) (fun i hi => col_vg hn hl hi R0) hf (fun W W' h o => tw_but h hsb o) (fun i W hi T => col_view sb i R C W T) W hT hbt T J)
  have RA := Lib.hid (fun g cg (hg : 1 < g) sb (hsb : sb ≠ g) W (hT : Ft.Tab W) (T : Sh.Tw W sb (R : Int) (C : Int)) (J : JR g n t W W) => show Calls Tryd.prog 34 #[.slice (some ⟨g, 0, none⟩) n cg, .int .i64 (R : Int), .int .i64 (d : Int), rowsF sb] W fun e w' => e = .returned (.int .i64 0) ∧ JR g n f2 W w' by
    rw [e2]
    exact each 53 (fun args w => Tryd.call53 args w) #[.pointer (some ⟨sb, 0, none⟩)] g n cg R 1 C rc d (fun i => i * C) t (fun W => Sh.Tw W sb (R : Int) (C : Int)) hC (h20 _ (by rw [← hC]; omega)) hd hl R0 (by omega) (fun i hi => row_vg hn hl hi C0) (fun j _ => Nat.lt_trans (lt.out j) (by decide)) (fun W W' h o => tw_but h hsb o) (fun i W hi T => row_view sb i R C (i * C) rfl (by have h1 : (i + 1) * C ≤ R * C := Nat.mul_le_mul_right C hi; rw [Nat.succ_mul] at h1; omega) W T) W hT hg T J)
  have TI := Lib.hid (fun W (T : Ft.Tab W) (X : Ws W W.heap.size (some ⟨b, 0, none⟩) (rg f1 n)) => show Calls Tryd.prog 37 #[.slice (some ⟨b, 0, none⟩) n ca, .agg #[.int .i64 (R : Int), .int .i64 (C : Int), .int .i64 0, .int .i64 0], .int .i64 ((ra + rc : Nat) : Int), .int .i64 (d : Int)] W (RwE t n W) by
    rw [et]
    exact Td.tile (ra + rc) d hk hd (some ⟨b, 0, none⟩) n ca R C 0 0 (rg f1 n) (rg_len _ _) hg hn hl hca hca2 (by omega) (by omega) W T X)
  have TP := Lib.hid (fun g cg W (T : Ft.Tab W) (X : Ws W W.heap.size (some ⟨g, 0, none⟩) (rg f2 n)) => transpose (some ⟨g, 0, none⟩) n cg R C f2 hg hn hl W T X)
  have FIN := Lib.hid (fun j (hj : j < n) => show tn f2 R C j = ft (ra + rc) d f j by
    rw [e2, et, e1]; exact six_words ra rc d R C n hR hC hk hd hn f j hj)
  have CO := Lib.hid (fun W => colsOf (R : Int) (C : Int) W)
  have RO := Lib.hid (fun W => rowsOf (R : Int) (C : Int) W)
  have BT := Lib.hid build_tile
  have HB := Lib.hid (below_alloc w)
  have HT := Lib.hid hT
  have HBT := Lib.hid hbt
  have J := Lib.hid J
  have HL := Lib.hid (show (C : Int) ≤ 1048576 ∧ (R : Int) ≤ 1048576 by omega)
  generalize ft (ra + rc) d f = fo at *
  generalize tn f2 R C = f3 at *
  generalize ra + rc = k at *
  clear hg hR hC hk hn hf hT h20 e1 et e2 hbt hca hca2 R0 C0 RL CL
  go_enter Tryd.func24, Tryd.ntmps24
  go_wp2_with fail
  refine (FA.out _ _ _ (by have := HL.out; omega) _ (HT.out.below (HB.out _))).mono ?_
  rintro e w1 ⟨rfl, h1⟩
  have V1 := (Sh.Tw.fresh w R C 40).below h1
  have b1 := Lib.hid ((HB.out (.cells #[.int .i64 (R : Int), .int .i64 (C : Int)] 40)).trans (h1.mono (HB.out _).size))
  have hb1 := Lib.hid (show b < w1.heap.size from Nat.lt_of_lt_of_le J.out.s b1.out.size)
  have hvb := Lib.hid (show w.heap.size ≠ b from Nat.ne_of_gt J.out.s)
  have hvl := Lib.hid (show w.heap.size < w1.heap.size from V1.lt)
  have o1 := Lib.hid (show But b w w1 from But.of_below b1.out (Nat.le_of_lt J.out.s))
  have T1 := Lib.hid (HT.out.below b1.out)
  have J1 := Lib.hid (J.out.call b1.out)
  clear h1 FA HB HT J
  generalize w.heap.size = vb at *
  have M := (show Vs w1 b vb R C w1 from ⟨V1, But.refl _ _, hvb.out, hb1.out⟩)
  have ME := Lib.hid M
  go_wp2_with fail
  refine (FI.out _ T1.out).mono ?_
  rintro e w' ⟨rfl, rfl⟩
  clear FI
  have JJ := Lib.hid (fun w3 (h3 : Below w1.heap.size w1.drew w3) => show JR b n f w3 w3 from ⟨(J1.out.drew.call h3).k, But.refl _ _, (J1.out.drew.call h3).s⟩)
  have TT := Lib.hid (fun w3 (h3 : Below w1.heap.size w1.drew w3) => show Ft.Tab w3 from T1.out.below ((Below.refl w1.heap.size w1).drew.trans h3))
  have NB := Lib.hid (show ∀ W : World, W = w1.drew → W.heap.size ≠ b from fun W h => by subst h; exact Nat.ne_of_gt hb1.out)
  have OK := Lib.hid (fun w3 w4 (h3 : Below w1.heap.size w1.drew w3) (J4 : JR b n f1 w3 w4) => show JR b n f1 w1 w4 from JR.trans (But.trans (But.refl b w1).drew (But.of_below h3 (Nat.le_of_lt hb1.out))) J4)
  go_upto_region 5 with fail
  clear V1
  go_cut [38] (fun v38 wx => v38 = .int .i64 0 ∧ JR b n f1 w1 wx)
  case first =>
    go_region_held3 (fun w' => w'.cell? ⟨vb, 0, none⟩ = some (.int .i64 (R : Int)) ∧ w'.cell? ⟨vb, 1, none⟩ = some (.int .i64 (C : Int)) ∧ Vs w1 b vb R C w')
      (exact Vs.all (by repeat (first | with_reducible exact M | with_reducible refine Vs.drew ?_ | with_reducible refine Vs.but ?_ (JR.o J4) | with_reducible refine Vs.call ?_ h3)))
      (first
        | (go_at_call 36; refine (CO.out _).mono ?_; rintro e w3 ⟨rfl, T3, h3⟩)
        | (go_at_call 34; refine (CA.out _ (NB.out _ rfl) _ (TT.out _ h3) T3 (JJ.out _ h3)).mono ?_; rintro e w4 ⟨rfl, J4⟩))
    all_goals (go_wp2_with fail; go_meet)
    all_goals exact ⟨rfl, OK.out _ _ h3 J4⟩
  case rest =>
    obtain ⟨rfl, J2⟩ := hcut
    generalize wc = w4 at *
    have J2 := Lib.hid J2
    clear M JJ TT NB OK CA CO J1
    have M2 := Lib.hid (ME.out.but J2.out.o)
    have T2 := Lib.hid (tab_but T1.out HBT.out J2.out.o)
    have X2 := Lib.hid (show Ws w4 w4.heap.size (some ⟨b, 0, none⟩) (rg f1 n) from J2.out.k.ws l1.out J2.out.s)
    obtain ⟨t0, t1⟩ := M2.out.v
    have bt := BT.out
    go_wp2_with fail
    refine (TI.out _ T2.out X2.out).mono ?_
    rintro e w5 ⟨g, rfl, hg1, hg2, K, h5⟩
    have h5 := Lib.hid h5
    have hg2 := Lib.hid hg2
    have hgv := Lib.hid (show w1.heap.size ≤ g from Nat.le_trans J2.out.bel.size hg1)
    have JG := Lib.hid (show JR g n t w5 w5 from ⟨K, But.refl _ _, hg2.out⟩)
    have M5 := (show Vs w5 g vb R C w5 from ⟨M2.out.v.below h5.out, But.refl _ _, by have := hgv.out; have := hvl.out; omega, hg2.out⟩)
    have ME5 := Lib.hid M5
    have T5 := Lib.hid (T2.out.below h5.out)
    clear t0 t1 bt TI X2 K hg1
    go_upto_region 7 with fail
    have JJ := Lib.hid (fun w7 (h7 : Below w5.heap.size w5.drew w7) => show JR g n t w7 w7 from ⟨(JG.out.drew.call h7).k, But.refl _ _, (JG.out.drew.call h7).s⟩)
    have TT := Lib.hid (fun w7 (h7 : Below w5.heap.size w5.drew w7) => show Ft.Tab w7 from T5.out.below ((Below.refl w5.heap.size w5).drew.trans h7))
    have NB := Lib.hid (show ∀ W : World, W = w5.drew → W.heap.size ≠ g from fun W h => by subst h; exact Nat.ne_of_gt hg2.out)
    have NG := Lib.hid (show 1 < g by have := HBT.out; have := hb1.out; have := hgv.out; omega)
    have OK := Lib.hid (fun w7 w8 (h7 : Below w5.heap.size w5.drew w7) (J8 : JR g n f2 w7 w8) => show JR g n f2 w5 w8 from JR.trans (But.trans (But.refl g w5).drew (But.of_below h7 (Nat.le_of_lt hg2.out))) J8)
    go_cut [54] (fun v54 wx => v54 = .int .i64 0 ∧ JR g n f2 w5 wx)
    case first =>
      go_region_held3 (fun w' => w'.cell? ⟨vb, 0, none⟩ = some (.int .i64 (R : Int)) ∧ w'.cell? ⟨vb, 1, none⟩ = some (.int .i64 (C : Int)) ∧ Vs w5 g vb R C w')
        (exact Vs.all (by repeat (first | with_reducible exact M5 | with_reducible refine Vs.drew ?_ | with_reducible refine Vs.but ?_ (JR.o J8) | with_reducible refine Vs.call ?_ h7)))
        (first
          | (go_at_call 35; refine (RO.out _).mono ?_; rintro e w7 ⟨rfl, T7, h7⟩)
          | (go_at_call 34; refine (RA.out _ _ NG.out _ (NB.out _ rfl) _ (TT.out _ h7) T7 (JJ.out _ h7)).mono ?_; rintro e w8 ⟨rfl, J8⟩))
      all_goals (go_wp2_with fail; go_meet)
      all_goals exact ⟨rfl, OK.out _ _ h7 J8⟩
    case rest =>
      obtain ⟨rfl, J8⟩ := hcut
      have J8 := Lib.hid J8
      clear M5 JJ TT NB OK RA RO
      have M8 := Lib.hid (ME5.out.but J8.out.o)
      have T8 := Lib.hid (tab_but T5.out NG.out J8.out.o)
      have X8 := Lib.hid (show Ws wc wc.heap.size (some ⟨g, 0, none⟩) (rg f2 n) from J8.out.k.ws (fun j _ => l2.out j) J8.out.s)
      obtain ⟨t0, t1⟩ := M8.out.v
      go_wp2_with fail
      refine (TP.out _ _ _ T8.out X8.out).mono ?_
      rintro e w9 ⟨g2, rfl, _, _, K9, h9⟩
      have bg := Lib.hid (show b ≠ g by have := hb1.out; have := hgv.out; omega)
      have s5 := Lib.hid (Nat.lt_of_lt_of_le J2.out.s h5.out.size)
      have J9 := (show JR b n f1 w9 w9 from ⟨(J8.out.o.wk bg.out s5.out (J2.out.k.step h5.out)).step h9, But.refl _ _, Nat.lt_of_lt_of_le s5.out (Nat.le_trans J8.out.bel.size h9.size)⟩)
      have O9 := Lib.hid (But.trans o1.out (But.trans (but_new (But.trans J2.out.o (But.of_below h5.out (Nat.le_of_lt J2.out.s))) J8.out.o hgv.out (Nat.le_of_lt hb1.out)) (But.of_below h9 (Nat.le_trans (Nat.le_of_lt s5.out) J8.out.bel.size))))
      have KC := K9.c
      clear t0 t1 M8 X8 T8 K9 h9 J8 J2 h5 TP
      go_wp2_with ((refine copy_cells w9 ?hgd (.tmp 61) (.tmp 62) ?ho b n ca g2 n f1 f3 ?hd ?hs J9 KC (fun w10 J10 => ?_)); (case hgd => rfl); (case ho => rfl); (case hd => rfl); (case hs => rfl))
      have F := Lib.hid ((JR.trans O9.out J10).congr FIN.out)
      clear J9 KC J10
      go_wp2
      go_ret
      exact ⟨rfl, F.out⟩
end Vw
end Go.Proofs.YtfjoacopnkceoaaDoor
set_option linter.unusedVariables false
namespace Go.Proofs.YtfjoacopnkceoaaDoor
open Go.RowKit Go.Lib Go.Sort
namespace Vw
open Nm Ww Tn Pl Td Kn

theorem jr_four (w : World) (t : TypeId) : JR w.heap.size 4 (Pn.pl [1, 0, 0, 0]) (w.alloc (.cells #[.int .u64 1, .int .u64 0, .int .u64 0, .int .u64 0] t)) (w.alloc (.cells #[.int .u64 1, .int .u64 0, .int .u64 0, .int .u64 0] t)) := by
  refine ⟨⟨fun i hi => ?_, fun i hi => ?_⟩, But.refl _ _, by simp⟩
  · rcases i with _ | _ | _ | _ | i
    · simp [go_sem, Pn.pl]
    · simp [go_sem, Pn.pl]
    · simp [go_sem, Pn.pl]
    · simp [go_sem, Pn.pl]
    · omega
  · rcases i with _ | _ | _ | _ | i
    · simp [go_sem]
    · simp [go_sem]
    · simp [go_sem]
    · simp [go_sem]
    · omega
theorem rg_pl {xs : List Nat} {n : Nat} (hx : xs.length = n) : rg (Pn.pl xs) n = xs := by
  subst hx
  refine List.ext_getElem (by simp [rg]) fun i h1 h2 => ?_
  simp [rg, Pn.pl, List.getD, h2]
theorem tab_lt {w : World} (h : Ft.Tab w) : 1 < w.heap.size := World.block_lt_of_cell? w _ (h 0 (by decide))
theorem six_four (w : World) (hT : Ft.Tab w) (b : Nat) (hbt : 1 < b) (J : JR b 4 (Pn.pl [1, 0, 0, 0]) w w) : ∃ g : Nat → Nat, (∀ j, g j = 1) ∧
    Calls Tryd.prog 24 #[.slice (some ⟨b, 0, none⟩) 4 4, .agg #[.int .i64 2, .int .i64 2], .int .i64 0] w fun e w' => e = .returned (.int .i64 0) ∧ JR b 4 g w w' := by
  obtain ⟨k, hk⟩ : ∃ k : Nat, k = 1 := ⟨_, rfl⟩
  have h2 : 2 = 2 ^ k := by rw [hk]
  have h4 : 2 ^ (k + k) = 4 := by rw [hk]
  exact ⟨_, fun j => aw_four (k + k) j h4, six_ok b 4 4 2 2 k k 0 (Pn.pl [1, 0, 0, 0]) h2 h2 (by omega) rfl (by decide) (Nat.le_refl _) (by decide) (by decide) (fun j hj => by
    rcases j with _ | _ | _ | _ | j
    · decide
    · decide
    · decide
    · decide
    · omega) w hT hbt J⟩
set_option maxHeartbeats 1000000 in
theorem awake (w : World) (hT : Ft.Tab w) : Calls Tryd.prog 8 #[] w fun e w' => e = .returned (.bool true) ∧ Below w.heap.size w w' := by
  have b0 := Lib.hid (below_alloc w (.cells #[.int .u64 1, .int .u64 0, .int .u64 0, .int .u64 0] 51))
  obtain ⟨g, g0, S⟩ := six_four (w.alloc (.cells #[.int .u64 1, .int .u64 0, .int .u64 0, .int .u64 0] 51)) (hT.below b0.out) w.heap.size (tab_lt hT) (jr_four w _)
  have S := Lib.hid S
  have JN := Lib.hid (fun A m c (ls : List (List Nat)) h1 h2 h3 W R => Jn.join A m c ls h1 h2 h3 W R)
  clear hT
  go_enter Tryd.func8, Tryd.ntmps8
  go_wp2_with fail
  refine S.out.mono ?_
  rintro e w1 ⟨rfl, J⟩
  have c1 := Lib.hid (b0.out.trans (J.bel))
  have hs := Lib.hid J.s
  have K := Lib.hid J.k
  have W1 := (show Ws w1 w1.heap.size (some ⟨w.heap.size, 0, none⟩) (rg g 4) from J.k.ws (fun i _ => by rw [g0]; decide) J.s)
  have R := Lib.hid (Jn.rj_one 4 (rg_len g 4) W1 (fun h => by cases h) 22)
  have bj := Lib.hid (below_alloc w1 (.cells #[.slice (some ⟨w.heap.size, 0, none⟩) 4 4] 22))
  clear J S W1 b0
  go_wp2_with fail
  refine (JN.out _ _ _ [rg g 4] rfl (by simp [rg_len]) (by simp) _ R.out).mono ?_
  rintro e w2 ⟨v, rfl, O, h2⟩
  obtain ⟨A, cap, rfl, _⟩ := O.ws (fun i hi => by
    simp only [List.flatten_cons, List.flatten_nil, List.append_nil, rg_len] at hi ⊢
    rw [rg_at _ _ _ hi, g0]; decide)
  have hl : [rg g 4].flatten.length = 4 := by simp [rg_len]
  rw [hl]
  have K2 := (K.out.step bj.out).step h2
  have k0 := K2.c 0 (by decide)
  have k1 := K2.c 1 (by decide)
  have k2 := K2.c 2 (by decide)
  have k3 := K2.c 3 (by decide)
  rw [Nat.zero_add, g0] at k0 k1 k2 k3
  have c2 := Lib.hid (c1.out.trans ((bj.out.trans (h2.mono bj.out.size)).mono c1.out.size))
  clear K2 O h2 hl R JN K g0
  go_wp2
  go_ret
  exact ⟨by simp [go_sem], c2.out⟩
/-- A copied row that may be written, with its capacity. -/
theorem copied_cap {w w1 w' : World} {v : Value} {xs : List Nat} {n : Nat} (hx : xs.length = n) (h0 : 0 < n) (O1 : Ow w1 w.heap.size (.slice (some ⟨w.heap.size, 0, none⟩) 0 0) []) (b1 : Below w.heap.size w w1) (O : Ow w' w.heap.size v ([] ++ xs)) (hg : w1.grownBy w' (Value.slice (some ⟨w.heap.size, 0, none⟩) 0 0).ownBlock) :
    ∃ b ca, v = .slice (some ⟨b, 0, none⟩) n ca ∧ n ≤ ca ∧ ca ≤ 9223372036854775807 ∧ w.heap.size ≤ b ∧ JR b n (Pn.pl xs) w' w' ∧ Below w.heap.size w w' := by
  have hc : ∀ g ca, v = .slice (some g) n ca → ca ≤ 9223372036854775807 := by
    intro g ca hv
    rw [List.nil_append] at O
    rcases O.2 with ⟨e, _⟩ | ⟨g', cap, cur, e, _, _, _, h4, _⟩
    · rw [hv] at e; cases e
    · rw [hv] at e
      injection e with _ _ e3
      subst e3
      unfold maxLen at h4
      omega
  obtain ⟨b, ca, rfl, h1, h2, J, hb⟩ := copied_wk hx h0 O1 b1 O hg
  exact ⟨b, ca, rfl, h1, hc _ _ rfl, h2, J, hb⟩
end Vw
end Go.Proofs.YtfjoacopnkceoaaDoor
set_option linter.unusedVariables false
namespace Go.Proofs.YtfjoacopnkceoaaDoor
open Go.RowKit Go.Lib Go.Sort
namespace Vw
open Nm Ww Tn Pl Td Kn
open Kq (AB)

/-- A shape in memory below all blocks that were made behind w. -/
structure Va (w : World) (vb : Nat) (p q : Int) (wr : World) : Prop where
  v : Sh.Tw wr vb p q
  d : Below w.heap.size w wr
  l : vb < w.heap.size
section
variable {w wr w1 : World} {b vb n : Nat} {p q : Int} {f : Nat → Nat}
theorem tw_low {w w' : World} {B sb : Nat} {p q : Int} (h : Sh.Tw w sb p q) (hB : sb < B) (hb : Below B w w') : Sh.Tw w' sb p q :=
  ⟨(hb.cell (p := ⟨sb, 0, none⟩) hB).trans h.c0, (hb.cell (p := ⟨sb, 1, none⟩) hB).trans h.c1⟩
theorem Va.drew (h : Va w vb p q wr) : Va w vb p q wr.drew := ⟨⟨h.v.c0, h.v.c1⟩, h.d.drew, h.l⟩
theorem Va.call (h : Va w vb p q wr) (hb : Below wr.heap.size wr w1) : Va w vb p q w1 := ⟨h.v.below hb, h.d.trans (hb.mono h.d.size), h.l⟩
theorem Va.jr (h : Va w vb p q wr) (J : JR b n f wr w1) (hb : w.heap.size ≤ b) : Va w vb p q w1 := ⟨tw_low h.v h.l (J.bel.mono hb), h.d.trans (J.bel.mono hb), h.l⟩
theorem Va.all (h : Va w vb p q wr) : wr.cell? ⟨vb, 0, none⟩ = some (.int .i64 p) ∧ wr.cell? ⟨vb, 1, none⟩ = some (.int .i64 q) ∧ Va w vb p q wr := ⟨h.v.c0, h.v.c1, h⟩
end
section
variable {s N ba bb : Nat} {fa fb ga gb : Nat → Nat} {w wr w2 : World}
theorem ab_ja (h : AB s N ba bb fa fb w wr) : JR ba N fa wr wr := ⟨h.a, But.refl _ _, h.sa⟩
theorem ab_jb (h : AB s N ba bb fa fb w wr) : JR bb N fb wr wr := ⟨h.b, But.refl _ _, h.sb⟩
theorem ab_stepa (h : AB s N ba bb fa fb w wr) (J : JR ba N ga wr w2) : AB s N ba bb ga fb w w2 :=
  ⟨J.k, J.o.wk (Ne.symm h.ne) h.sb h.b, h.ne, h.la, h.lb, J.s, Nat.lt_of_lt_of_le h.sb J.o.bel.size, h.d.trans (J.bel.mono h.la)⟩
theorem ab_stepb (h : AB s N ba bb fa fb w wr) (J : JR bb N gb wr w2) : AB s N ba bb fa gb w w2 :=
  ⟨J.o.wk h.ne h.sa h.a, J.k, h.ne, h.la, h.lb, Nat.lt_of_lt_of_le h.sa J.o.bel.size, J.s, h.d.trans (J.bel.mono h.lb)⟩
end
end Vw
end Go.Proofs.YtfjoacopnkceoaaDoor
