/- BlockWords: of every shape, row of words, row, column and word the law of a block's words answers true, and changes nothing, where the library's two tables are as their initialisers lay them (the card ties them to the program's text). -/
import Derived.Test.YtobpjlgiefnmjaaDoorFrame
import Derived.Test.YtobpjlgiefnmjaaDoorTileA
import Derived.Test.YtobpjlgiefnmjaaDoorViewO
import Derived.Test.YtobpjlgiefnmjaaDoorBlockF
import Derived.Test.YtobpjlgiefnmjaaDoorTie
import Derived.Test.YtobpjlgiefnmjaaDoorCards
import Derived.Lib.LaidTab
import Derived.LaidMore
import Derived.Stop.Joined
import Derived.SevenTiedAt
set_option linter.unusedVariables false
namespace Go.Proofs.YtobpjlgiefnmjaaDoor.blockWords
open Go.ChangeShapes Go.WideShapes Go.ChangeAt Go.RowKit
open Bl Ww Pl

set_option maxHeartbeats 1000000 in
set_option maxRecDepth 100000 in
theorem walk_none (a b : Int) (A : Option Addr) (n ca : Nat) (xs : List Nat) (r c : Int) (v : Nat) (h : ¬ (Sh.Gd a b ∧ n ≤ 256 ∧ a * b = (n : Int))) (w : World) (hT : Ft.Tab w) (R : Ws w w.heap.size A xs) :
    Calls Tryd.prog 4 #[.agg #[.int .i64 a, .int .i64 b], .slice A n ca, .int .i64 r, .int .i64 c, .int .u64 (v : Nat)] w fun e w' => e = .returned (.bool true) ∧ Below w.heap.size w w' := by
  have MD := Lib.hid (fun W => made_no A n ca a b h W)
  have NE := Lib.hid (fun W T => new_no 3 1 (fun h => by
    obtain ⟨⟨i, j, hij, h1, h2⟩, _⟩ := h
    rcases i with _ | _ | i
    · simp at h1
    · simp at h1
    · have : 2 ^ (i + 2) = 2 ^ i * 4 := by rw [Nat.pow_add]
      omega) W T)
  clear h
  go_enter Tryd.func4, Tryd.ntmps4
  go_upto_region 1 with fail
  have V0 := Sh.Tw.fresh w a b 23
  have b0 := below_alloc w (.cells #[.int .i64 a, .int .i64 b] 23)
  generalize w.alloc (.cells #[.int .i64 a, .int .i64 b] 23) = w0 at *
  go_wp2_with fail
  refine (awake _ (hT.below b0)).mono ?_
  rintro e w1 ⟨rfl, h1⟩
  have V1 := Lib.hid (V0.below h1)
  have c1 := Lib.hid (b0.trans (h1.mono b0.size))
  have R1 := Lib.hid (R.step c1.out)
  have T1 := Lib.hid (hT.below c1.out)
  generalize w.heap.size = vb at V1
  have M1 := Lib.hid (Kd.refl w1)
  have TW := Lib.hid (fun W (h : Kd w1 W) => h.tw V1.out)
  have RX := Lib.hid (fun W (h : Kd w1 W) => R1.out.step h.d)
  have TX := Lib.hid (fun W (h : Kd w1 W) => show Ft.Tab W from T1.out.below h.d)
  have CW := Lib.hid (fun W (h : Kd w1 W) => c1.out.trans (h.d.mono c1.out.size))
  clear V0 b0 h1 V1 R1 T1 c1 hT R
  obtain ⟨t0, t1⟩ := TW.out _ M1.out
  go_wp2_with fail
  refine (MD.out _).mono ?_
  rintro e w2 ⟨rfl, d2⟩
  have M2 := Lib.hid (M1.out.call d2)
  clear t0 t1 d2 M1
  obtain ⟨t0, t1⟩ := TW.out _ M2.out
  go_wp2_with fail
  refine (NE.out _ (TX.out _ M2.out)).mono ?_
  rintro e w3 ⟨rfl, d3⟩
  have M3 := Lib.hid (M2.out.call d3)
  clear t0 t1 d3 M2
  have C3 := Lib.hid (CW.out _ M3.out)
  clear M3 CW
  go_wp2
  go_ret
  exact ⟨by simp [go_sem], C3.out⟩

set_option maxHeartbeats 1000000 in
set_option maxRecDepth 100000 in
theorem walk_out (R C n ca xb xo : Nat) (xs : List Nat) (r c : Int) (hrc : r < 0 ∨ (R : Int) ≤ r ∨ c < 0 ∨ (C : Int) ≤ c) (v : Nat) (hx : xs.length = n) (hg : Sh.Gd (R : Int) (C : Int)) (hn : R * C = n) (hl : n ≤ 256) (w : World) (hT : Ft.Tab w) (X : Ws w w.heap.size (some ⟨xb, xo, none⟩) xs) :
    Calls Tryd.prog 4 #[.agg #[.int .i64 (R : Int), .int .i64 (C : Int)], .slice (some ⟨xb, xo, none⟩) n ca, .int .i64 r, .int .i64 c, .int .u64 (v : Nat)] w fun e w' => e = .returned (.bool true) ∧ Below w.heap.size w w' := by
  have MD := Lib.hid (fun W T X => made_ok ⟨xb, xo, none⟩ ca R C n xs hx hg hn hl W T X)
  have RE := Lib.hid (show rg (Pn.pl xs) n = xs from rg_pl hx)
  have HL := Lib.hid hl
  have GT := Lib.hid (fun W p b cap (B : Bx W p b R C n cap (Pn.pl xs)) T => get_no B r c hrc T)
  have PT := Lib.hid (fun W p b cap (B : Bx W p b R C n cap (Pn.pl xs)) T => put_no B r c v hrc T)
  have WD := Lib.hid (fun W p b cap (B : Bx W p b R C n cap (Pn.pl xs)) => words B)
  have SM := Lib.hid (fun (A B : Option Addr) ca cb W Ra Rb => same_rg (n := n) (f := Pn.pl xs) (g := Pn.pl xs) (fun _ _ => rfl) (by omega) A B ca cb W Ra Rb)
  have HRC := Lib.hid hrc
  clear hrc hg hn
  go_enter Tryd.func4, Tryd.ntmps4
  go_upto_region 1 with fail
  have V0 := Sh.Tw.fresh w (R : Int) (C : Int) 23
  have b0 := below_alloc w (.cells #[.int .i64 (R : Int), .int .i64 (C : Int)] 23)
  generalize w.alloc (.cells #[.int .i64 (R : Int), .int .i64 (C : Int)] 23) = w0 at *
  go_wp2_with fail
  refine (awake _ (hT.below b0)).mono ?_
  rintro e w1 ⟨rfl, h1⟩
  have V1 := Lib.hid (V0.below h1)
  have c1 := Lib.hid (b0.trans (h1.mono b0.size))
  have R1 := Lib.hid (X.step c1.out)
  have T1 := Lib.hid (hT.below c1.out)
  generalize w.heap.size = vb at V1
  have M1 := Lib.hid (Kd.refl w1)
  have TW := Lib.hid (fun W (h : Kd w1 W) => h.tw V1.out)
  have RX := Lib.hid (fun W (h : Kd w1 W) => R1.out.step h.d)
  have TX := Lib.hid (fun W (h : Kd w1 W) => show Ft.Tab W from T1.out.below h.d)
  have CW := Lib.hid (fun W (h : Kd w1 W) => c1.out.trans (h.d.mono c1.out.size))
  clear V0 b0 h1 V1 R1 T1 c1 hT X
  obtain ⟨t0, t1⟩ := TW.out _ M1.out
  go_wp2_with fail
  refine (MD.out _ (TX.out _ M1.out) (RX.out _ M1.out)).mono ?_
  rintro e w2 ⟨v2, rfl, p, b, cap, rfl, B2, hp, hb, d2⟩
  have M2 := Lib.hid (M1.out.call d2)
  have B2 := Lib.hid B2
  have hp := Lib.hid hp
  have hb := Lib.hid hb
  clear t0 t1 d2 M1 MD
  obtain ⟨t0, t1⟩ := TW.out _ M2.out
  go_wp2_with fail
  refine (GT.out _ _ _ _ B2.out (TX.out _ M2.out)).mono ?_
  rintro e w3 ⟨rfl, d3⟩
  have M3 := Lib.hid (M2.out.call d3)
  have B3 := Lib.hid (B2.out.below d3)
  clear t0 t1 d3 M2 B2
  obtain ⟨t0, t1⟩ := TW.out _ M3.out
  go_wp2_with fail
  refine (PT.out _ _ _ _ B3.out (TX.out _ M3.out)).mono ?_
  rintro e w4 ⟨rfl, d4⟩
  have M4 := Lib.hid (M3.out.call d4)
  have B4 := Lib.hid (B3.out.below d4)
  clear t0 t1 d4 M3 B3
  by_cases h1 : r < 0
  · skip
    obtain ⟨t0, t1⟩ := TW.out _ M4.out
    go_wp2_with fail
    refine (WD.out _ _ _ _ B4.out).mono ?_
    rintro e w5 ⟨A5, c5, rfl, X5, d5⟩
    have M5 := Lib.hid (M4.out.call d5)
    have X5 := Lib.hid X5
    clear t0 t1 d5 M4 B4
    go_wp2_with fail
    refine (SM.out _ _ _ _ _ X5.out (by rw [RE.out]; exact RX.out _ M5.out)).mono ?_
    rintro e w6 ⟨rfl, d6⟩
    have M6 := Lib.hid (M5.out.call d6)
    have C6 := Lib.hid (CW.out _ M6.out)
    clear d6 M5 M6 CW X5
    go_wp2
    go_ret
    exact ⟨by simp [go_sem], C6.out⟩
  · by_cases h2 : (R : Int) ≤ r
    · skip
      obtain ⟨t0, t1⟩ := TW.out _ M4.out
      go_wp2_with fail
      refine (WD.out _ _ _ _ B4.out).mono ?_
      rintro e w5 ⟨A5, c5, rfl, X5, d5⟩
      have M5 := Lib.hid (M4.out.call d5)
      have X5 := Lib.hid X5
      clear t0 t1 d5 M4 B4
      go_wp2_with fail
      refine (SM.out _ _ _ _ _ X5.out (by rw [RE.out]; exact RX.out _ M5.out)).mono ?_
      rintro e w6 ⟨rfl, d6⟩
      have M6 := Lib.hid (M5.out.call d6)
      have C6 := Lib.hid (CW.out _ M6.out)
      clear d6 M5 M6 CW X5
      go_wp2
      go_ret
      exact ⟨by simp [go_sem], C6.out⟩
    · by_cases h3 : c < 0
      · skip
        obtain ⟨t0, t1⟩ := TW.out _ M4.out
        go_wp2_with fail
        refine (WD.out _ _ _ _ B4.out).mono ?_
        rintro e w5 ⟨A5, c5, rfl, X5, d5⟩
        have M5 := Lib.hid (M4.out.call d5)
        have X5 := Lib.hid X5
        clear t0 t1 d5 M4 B4
        go_wp2_with fail
        refine (SM.out _ _ _ _ _ X5.out (by rw [RE.out]; exact RX.out _ M5.out)).mono ?_
        rintro e w6 ⟨rfl, d6⟩
        have M6 := Lib.hid (M5.out.call d6)
        have C6 := Lib.hid (CW.out _ M6.out)
        clear d6 M5 M6 CW X5
        go_wp2
        go_ret
        exact ⟨by simp [go_sem], C6.out⟩
      · have h4 : (C : Int) ≤ c := by have := HRC.out; omega
        obtain ⟨t0, t1⟩ := TW.out _ M4.out
        go_wp2_with fail
        refine (WD.out _ _ _ _ B4.out).mono ?_
        rintro e w5 ⟨A5, c5, rfl, X5, d5⟩
        have M5 := Lib.hid (M4.out.call d5)
        have X5 := Lib.hid X5
        clear t0 t1 d5 M4 B4
        go_wp2_with fail
        refine (SM.out _ _ _ _ _ X5.out (by rw [RE.out]; exact RX.out _ M5.out)).mono ?_
        rintro e w6 ⟨rfl, d6⟩
        have M6 := Lib.hid (M5.out.call d6)
        have C6 := Lib.hid (CW.out _ M6.out)
        clear d6 M5 M6 CW X5
        go_wp2
        go_ret
        exact ⟨by simp [go_sem], C6.out⟩

set_option maxHeartbeats 1000000 in
set_option maxRecDepth 100000 in
theorem walk_in (R C n ca xb xo : Nat) (xs : List Nat) (r c x : Nat) (hr : r < R) (hc : c < C) (hxe : x = r * C + c) (v : Nat) (hv : v < 18446744073709551616) (hx : xs.length = n) (hg : Sh.Gd (R : Int) (C : Int)) (hn : R * C = n) (hl : n ≤ 256) (w : World) (hT : Ft.Tab w) (X : Ws w w.heap.size (some ⟨xb, xo, none⟩) xs) :
    Calls Tryd.prog 4 #[.agg #[.int .i64 (R : Int), .int .i64 (C : Int)], .slice (some ⟨xb, xo, none⟩) n ca, .int .i64 (r : Int), .int .i64 (c : Int), .int .u64 (v : Nat)] w fun e w' => e = .returned (.bool true) ∧ Below w.heap.size w w' := by
  have MD := Lib.hid (fun W T X => made_ok ⟨xb, xo, none⟩ ca R C n xs hx hg hn hl W T X)
  have RE := Lib.hid (show rg (Pn.pl xs) n = xs from rg_pl hx)
  have HL := Lib.hid hl
  have hx1 : x < n := by rw [hxe, ← hn]; exact Bk.lt_of hr hc
  have H0 := Lib.hid (show 0 < n by omega)
  obtain ⟨z, hz⟩ : ∃ z, z = Pn.pl xs x := ⟨_, rfl⟩
  have GT := Lib.hid (fun W p b cap (B : Bx W p b R C n cap (Pn.pl xs)) T => show Calls Tryd.prog 18 #[.pointer (some ⟨p, 0, none⟩), .int .i64 (r : Int), .int .i64 (c : Int)] W fun e w' => e = .returned (.tuple #[.int .u64 (z : Nat), .int .i64 0]) ∧ Below W.heap.size W w' by rw [hz]; exact get_in B r c x hr hc hxe T)
  have LX := Lib.hid (fun W (X : Ws W W.heap.size (some ⟨xb, xo, none⟩) xs) => show W.cell? ⟨xb, xo + x, none⟩ = some (.int .u64 (z : Nat)) by rw [hz]; exact ws_cell X x (by omega))
  have PT := Lib.hid (fun W p b cap (B : Bx W p b R C n cap (Pn.pl xs)) T => put_in B r c x v hr hc hxe T)
  have UL := Lib.hid (show ∀ i, i < n → upd (Pn.pl xs) x v i < 18446744073709551616 from fun i hi => by
    by_cases e : i = x
    · subst e; rw [upd_same]; exact hv
    · rw [upd_other _ _ _ e]; exact X.lt i (by omega))
  obtain ⟨g, hgg⟩ : ∃ g, g = upd (Pn.pl xs) x v := ⟨_, rfl⟩
  rw [← hgg] at UL
  have PUT1 := Lib.hid (fun W p b cap (B : Bx W p b R C n cap (Pn.pl xs)) T => show Calls Tryd.prog 19 #[.pointer (some ⟨p, 0, none⟩), .int .i64 (r : Int), .int .i64 (c : Int), .int .u64 (v : Nat)] W fun e w' => e = .returned (.int .i64 0) ∧ Ta b n g W w' by rw [hgg]; exact put_in B r c x v hr hc hxe T)
  have TG := Lib.hid (fun bm W (K : Wk W bm 0 n (Pn.pl xs)) => show Ta bm n g W (W.setCell ⟨bm, x, none⟩ (.int .u64 (v : Nat))) by rw [hgg]; exact (⟨K, But.refl _ _⟩ : Ta bm n (Pn.pl xs) W W).put x v hx1)
  have WD := Lib.hid (fun W p b cap (f : Nat → Nat) (B : Bx W p b R C n cap f) => words B)
  have SP := Lib.hid (fun W p b cap (f : Nat → Nat) (B : Bx W p b R C n cap f) => Bl.shape B.c)
  have SM := Lib.hid (fun (f : Nat → Nat) (A B : Option Addr) ca cb W Ra Rb => same_rg (n := n) (f := f) (g := f) (fun _ _ => rfl) (by omega) A B ca cb W Ra Rb)
  have NE := Lib.hid (fun W T => new R C n hg hn (by omega) W T)
  have HX := Lib.hid hx
  have HXE := Lib.hid (show Value.slice (some ⟨xb, xo, none⟩) n ca = .slice (some ⟨xb, xo, none⟩) xs.length ca by rw [hx])
  have mk := fun W => make_words n (by omega) (by omega) W
  obtain ⟨s, hs⟩ : ∃ s, s = r * C := ⟨_, rfl⟩
  have q1 : IntKind.i64.wrap ((r : Int) * (C : Int)) = (s : Int) := by rw [← Int.natCast_mul, ← hs]; exact IntWalk.i64_in _ (by omega)
  have q2 : IntKind.i64.wrap ((s : Int) + (c : Int)) = (x : Int) := by rw [IntKind.wrap_i64]; omega
  have r1 : ¬ (R : Int) ≤ r := by omega
  have c1' : ¬ (C : Int) ≤ c := by omega
  clear hs hgg hz hxe hg hn PT hr hc hx
  go_enter Tryd.func4, Tryd.ntmps4
  go_upto_region 1 with fail
  have V0 := Sh.Tw.fresh w (R : Int) (C : Int) 23
  have b0 := below_alloc w (.cells #[.int .i64 (R : Int), .int .i64 (C : Int)] 23)
  generalize w.alloc (.cells #[.int .i64 (R : Int), .int .i64 (C : Int)] 23) = w0 at *
  go_wp2_with fail
  refine (awake _ (hT.below b0)).mono ?_
  rintro e w1 ⟨rfl, h1⟩
  have V1 := Lib.hid (V0.below h1)
  have c1 := Lib.hid (b0.trans (h1.mono b0.size))
  have R1 := Lib.hid (X.step c1.out)
  have T1 := Lib.hid (hT.below c1.out)
  generalize w.heap.size = vb at V1
  have M1 := Lib.hid (Kd.refl w1)
  have TW := Lib.hid (fun W (h : Kd w1 W) => h.tw V1.out)
  have RX := Lib.hid (fun W (h : Kd w1 W) => R1.out.step h.d)
  have TX := Lib.hid (fun W (h : Kd w1 W) => show Ft.Tab W from T1.out.below h.d)
  have CW := Lib.hid (fun W (h : Kd w1 W) => c1.out.trans (h.d.mono c1.out.size))
  clear V0 b0 h1 V1 R1 T1 c1 hT X
  obtain ⟨t0, t1⟩ := TW.out _ M1.out
  go_wp2_with fail
  refine (MD.out _ (TX.out _ M1.out) (RX.out _ M1.out)).mono ?_
  rintro e w2 ⟨v2, rfl, p, b, cap, rfl, B2, hp, hb, d2⟩
  have M2 := Lib.hid (M1.out.call d2)
  have B2 := Lib.hid B2
  have hp := Lib.hid hp
  have hb := Lib.hid hb
  clear t0 t1 d2 M1 MD
  obtain ⟨t0, t1⟩ := TW.out _ M2.out
  go_wp2_with fail
  refine (GT.out _ _ _ _ B2.out (TX.out _ M2.out)).mono ?_
  rintro e w3 ⟨rfl, d3⟩
  have M3 := Lib.hid (M2.out.call d3)
  have B3 := Lib.hid (B2.out.below d3)
  clear t0 t1 d3 M2 B2 GT
  obtain ⟨t0, t1⟩ := TW.out _ M3.out
  go_wp2_with fail
  refine (PUT1.out _ _ _ _ B3.out (TX.out _ M3.out)).mono ?_
  rintro e w4 ⟨rfl, T4⟩
  have M4 := Lib.hid (M3.out.but T4.o hb.out)
  have B4 := Lib.hid (B3.out.wrote T4 UL.out)
  clear t0 t1 M3 B3 T4 PUT1
  obtain ⟨t0, t1⟩ := TW.out _ M4.out
  have O4 := Lib.hid (Ow.fresh w4 w4.heap.size (Nat.le_refl _))
  have RA4 := Lib.hid ((RX.out _ M4.out).alloc (Nat.le_refl _) (.cells #[] 37))
  have BA4 := Lib.hid (below_alloc w4 (.cells #[] 37))
  go_upto_region 11 with (at_builtin; (refine append_all (w4.alloc (.cells #[] 37)) ?hgd (.tmp 73) (.tmp 74) ?ho w4.heap.size (.slice (some ⟨w4.heap.size, 0, none⟩) 0 0) [] ?hs O4.out w4.heap.size (some ⟨xb, xo, none⟩) ca xs ?hx RA4.out ?hA ?c1 ?c2 (fun v5 w5 OO hg => ?_)); (case hgd => rfl); (case ho => rfl); (case hs => rfl); (case hx => exact HXE.out); (case hA => intro h; cases h); (case c1 => have := HX.out; have := HL.out; simp only [List.length_nil]; omega); (case c2 => simp); (obtain ⟨bm, km, rfl, hkm, hbm, hsm, K5, d5⟩ := copied_wk HX.out H0.out O4.out BA4.out OO hg))
  have M5 := Lib.hid (M4.out.call d5)
  clear O4 RA4 BA4 OO hg
  have ne1 := Lib.hid (show p ≠ bm by have := B4.out.c.lt; omega)
  have ne2 := Lib.hid (show b ≠ bm by have := B4.out.s; omega)
  have hbm1 := Lib.hid (Nat.le_trans M4.out.d.size hbm)
  have B5 := Lib.hid (B4.out.below d5)
  have k0 := K5.c x hx1
  have k1 := K5.z x hx1
  rw [Nat.zero_add] at k0 k1
  have T6 := Lib.hid (TG.out _ _ K5)
  have sm := Lib.hid hsm
  clear t0 t1 B4 M4 K5 d5 hbm hsm TG
  generalize Pn.pl xs x = z5 at k0
  obtain ⟨t0, t1⟩ := TW.out _ M5.out
  go_upto_region 12 with fail
  have M6 := Lib.hid (M5.out.but T6.out.o hbm1.out)
  have B6 := Lib.hid (B5.out.but T6.out.o ne1.out ne2.out)
  have Y6 := Lib.hid (T6.out.k.ws UL.out (Nat.lt_of_lt_of_le sm.out T6.out.o.bel.size))
  clear t0 t1 k0 k1 B5 M5 T6 ne1 ne2 hbm1 sm
  rw [show (List.range n).map g = rg g n from rfl] at Y6
  generalize w5.setCell ⟨bm, x, none⟩ (.int .u64 (v : Nat)) = w6 at *
  obtain ⟨t0, t1⟩ := TW.out _ M6.out
  go_wp2_with fail
  refine (NE.out _ (TX.out _ M6.out)).mono ?_
  rintro e w7 ⟨v7, rfl, p2, b2, cap2, rfl, N7, hp2, hb2, d7⟩
  have M7 := Lib.hid (M6.out.call d7)
  have B7 := Lib.hid (B6.out.below d7)
  have Y7 := Lib.hid (Y6.out.step d7)
  have N7 := Lib.hid N7
  clear t0 t1 M6 B6 Y6 d7 hp2 hb2 hp hb NE
  have M := Kd.refl w7
  have PX := Lib.hid (fun W (h : Kd w7 W) => show W.cell? ⟨vb, 0, none⟩ = some (.int .i64 (R : Int)) ∧ W.cell? ⟨vb, 1, none⟩ = some (.int .i64 (C : Int)) ∧ W.cell? ⟨xb, xo + x, none⟩ = some (.int .u64 (z : Nat)) ∧ Kd w7 W from
    ⟨(TW.out _ (M7.out.trans h)).1, (TW.out _ (M7.out.trans h)).2, LX.out _ (RX.out _ (M7.out.trans h)), h⟩)
  have CX := Lib.hid (fun W (h : Kd w7 W) => CW.out _ (M7.out.trans h))
  have WB := Lib.hid (fun W (h : Kd w7 W) => WD.out _ _ _ _ _ (B7.out.below h.d))
  have WN := Lib.hid (fun W (h : Kd w7 W) => WD.out _ _ _ _ _ (N7.out.below h.d))
  have SN := Lib.hid (fun W (h : Kd w7 W) => SP.out _ _ _ _ _ (N7.out.below h.d))
  have SY := Lib.hid (fun W (h : Kd w7 W) => Y7.out.step h.d)
  clear TW LX RX CW TX B7 N7 Y7 M7 WD SP
  go_upto_region 13 with fail
  go_cut [10] (fun v10 wx => v10 = .bool true ∧ Below w.heap.size w wx)
  case first =>
    go_region_held3 (fun w' => w'.cell? ⟨vb, 0, none⟩ = some (.int .i64 (R : Int)) ∧ w'.cell? ⟨vb, 1, none⟩ = some (.int .i64 (C : Int)) ∧ w'.cell? ⟨xb, xo + x, none⟩ = some (.int .u64 (z : Nat)) ∧ Kd w7 w')
      (exact PX.out _ (by repeat (first | with_reducible exact M | with_reducible refine Kd.drew ?_ | with_reducible refine Kd.alloc ?_ _ | with_reducible refine Kd.call ?_ h8 | with_reducible refine Kd.call ?_ h9 | with_reducible refine Kd.call ?_ h10 | with_reducible refine Kd.call ?_ h11 | with_reducible refine Kd.call ?_ h12)))
      (first
        | (go_at_call 13; (with_reducible refine (WB.out _ (by repeat (first | with_reducible exact M | with_reducible refine Kd.drew ?_ | with_reducible refine Kd.alloc ?_ _ | with_reducible refine Kd.call ?_ h8 | with_reducible refine Kd.call ?_ h9 | with_reducible refine Kd.call ?_ h10 | with_reducible refine Kd.call ?_ h11 | with_reducible refine Kd.call ?_ h12))).mono ?_); rintro e w8 ⟨A8, c8, rfl, X8, h8⟩)
        | (go_at_call 13; (with_reducible refine (WN.out _ (by repeat (first | with_reducible exact M | with_reducible refine Kd.drew ?_ | with_reducible refine Kd.alloc ?_ _ | with_reducible refine Kd.call ?_ h8 | with_reducible refine Kd.call ?_ h9 | with_reducible refine Kd.call ?_ h10 | with_reducible refine Kd.call ?_ h11 | with_reducible refine Kd.call ?_ h12))).mono ?_); rintro e w11 ⟨A11, c11, rfl, X11, h11⟩)
        | (go_at_call 11; (with_reducible refine (SN.out _ (by repeat (first | with_reducible exact M | with_reducible refine Kd.drew ?_ | with_reducible refine Kd.alloc ?_ _ | with_reducible refine Kd.call ?_ h8 | with_reducible refine Kd.call ?_ h9 | with_reducible refine Kd.call ?_ h10 | with_reducible refine Kd.call ?_ h11 | with_reducible refine Kd.call ?_ h12))).mono ?_); rintro e w10 ⟨rfl, h10⟩)
        | (go_at_call 12; (with_reducible refine (SM.out _ _ _ _ _ _ X8 (SY.out _ (by repeat (first | with_reducible exact M | with_reducible refine Kd.drew ?_ | with_reducible refine Kd.alloc ?_ _ | with_reducible refine Kd.call ?_ h8 | with_reducible refine Kd.call ?_ h9 | with_reducible refine Kd.call ?_ h10 | with_reducible refine Kd.call ?_ h11 | with_reducible refine Kd.call ?_ h12)))).mono ?_); rintro e w9 ⟨rfl, h9⟩)
        | (go_at_call 12; (with_reducible refine (SM.out _ _ _ _ _ _ (X11.step (below_alloc w11 _)) (ws_made w11 n _)).mono ?_); rintro e w12 ⟨rfl, h12⟩)
        | (go_at_call 12; (with_reducible refine (SM.out _ _ _ _ _ _ X11 ((ws_made _ n _).step h11)).mono ?_); rintro e w12 ⟨rfl, h12⟩))
    all_goals (go_wp2_with fail; go_meet)
    all_goals exact ⟨by simp, CX.out _ (by repeat (first | with_reducible exact M | with_reducible refine Kd.drew ?_ | with_reducible refine Kd.alloc ?_ _ | with_reducible refine Kd.call ?_ h8 | with_reducible refine Kd.call ?_ h9 | with_reducible refine Kd.call ?_ h10 | with_reducible refine Kd.call ?_ h11 | with_reducible refine Kd.call ?_ h12))⟩
  case rest =>
    obtain ⟨rfl, hcut⟩ := hcut
    clear PX CX WB WN SN SY M
    go_wp2
    go_ret
    exact ⟨rfl, hcut⟩

theorem walk (a b : Int) (A : Option Addr) (n ca : Nat) (xs : List Nat) (r c : Int) (v : Nat) (hx : xs.length = n) (hv : v < 18446744073709551616) (w : World) (hT : Ft.Tab w) (R : Ws w w.heap.size A xs) :
    Calls Tryd.prog 4 #[.agg #[.int .i64 a, .int .i64 b], .slice A n ca, .int .i64 r, .int .i64 c, .int .u64 (v : Nat)] w fun e w' => e = .returned (.bool true) ∧ Below w.heap.size w w' := by
  by_cases h : Sh.Gd a b ∧ n ≤ 256 ∧ a * b = (n : Int)
  · obtain ⟨hg, hl, hm⟩ := h
    obtain ⟨g1, g2, g3, g4, g5⟩ := hg.bound
    obtain ⟨R', rfl⟩ := Int.eq_ofNat_of_zero_le (show 0 ≤ a by omega)
    obtain ⟨C', rfl⟩ := Int.eq_ofNat_of_zero_le (show 0 ≤ b by omega)
    have hn : R' * C' = n := by rw [← Int.natCast_mul] at hm; omega
    have h0 : 0 < n := by rw [← hn]; exact Nat.mul_pos (by omega) (by omega)
    obtain ⟨xb, xo, rfl, _, _⟩ := R.at_ 0 (by omega)
    by_cases hrc : r < 0 ∨ (R' : Int) ≤ r ∨ c < 0 ∨ (C' : Int) ≤ c
    · exact walk_out R' C' n ca xb xo xs r c hrc v hx hg hn hl w hT R
    · obtain ⟨r', rfl⟩ := Int.eq_ofNat_of_zero_le (show 0 ≤ r by omega)
      obtain ⟨c', rfl⟩ := Int.eq_ofNat_of_zero_le (show 0 ≤ c by omega)
      exact walk_in R' C' n ca xb xo xs r' c' _ (by omega) (by omega) rfl v hv hx hg hn hl w hT R
  · exact walk_none a b A n ca xs r c v h w hT R

theorem g32 : Tryd.prog.globalNamed "math/bits.deBruijn32tab" = some 0 := by kernel_rfl
theorem g64 : Tryd.prog.globalNamed "math/bits.deBruijn64tab" = some 1 := by kernel_rfl
theorem t64 : (Tryd.prog.globals[1]?).map (·.type) = some 82 := by kernel_rfl
/-- What the row's condition gives the walk: the table's cells. -/
theorem of_laid {W : World} (h : laidMetH Tryd.prog Rows.blockWordsRow.laid W) : Ft.Tab W := by
  rw [MakeChecks.laidMetH_plain _ _ _ (by kernel_rfl)] at h
  obtain ⟨ps, ⟨g0, t0, cs0, f0, p0, q0, hg0, ht0, hv0, hd0, ⟨g1, t1, cs1, f1, p1, q1, hg1, ht1, hv1, hd1, _, _⟩, _⟩, _, _⟩ := h
  obtain rfl := Option.some.inj (g64.symm.trans hg1)
  obtain rfl := Option.some.inj (t64.symm.trans ht1)
  have hd2 : DataW.trod _ Tryd.prog W 0 _ false f1 82 cs1.toList = some (Lib.tabData .u8 (Lib.deBruijn64tab.map Int.ofNat), p1) := hd1
  have hc := Lib.cells_of_tab Tryd.underlying82 Tryd.underlying5 (by kernel_rfl) (by kernel_rfl) hd2
  intro i hi
  have c := World.var?_cell hg1 hv1 i
  rw [c, ← Array.getElem?_toList, hc]
  have hl : Lib.deBruijn64tab.length = 64 := by decide
  simp [List.getD, hl, hi]

/-- The door's own heap meets the condition. -/
theorem door_met (os : Os) (args : Array Value) : laidMetH Tryd.prog Rows.blockWordsRow.laid ((World.doorLaid Tryd.prog 400 os).forCall (fun _ _ => 0) ⟨#[], args, []⟩).memory :=
  laidMetH_of_parts3 (fuel := 8) (laidMet_of_run' 8 (by kernel_rfl) (by kernel_rfl)) (by kernel_rfl) (by kernel_rfl)
set_option maxRecDepth 100000 in
theorem lifted (os : Os) (started : os.Started) (H : Type) (enc : TypeId × Value → H) :
    ReturnsInHanded {} Tryd.checked os 4 .any (fun w args => (Rows.blockWordsSpec.pre enc Tryd.prog Tryd.f4 [] false w args ∧ laidMetH Tryd.prog Rows.blockWordsRow.laid w) ∧ sizedMet enc Tryd.prog Tryd.f4 (OpenSpec.ofChange Rows.blockWordsSpec) false w args)
      (Rows.blockWordsSpec.post enc Tryd.prog Tryd.f4 false true false false) := by
  refine returnsInHanded_of_change_and (C := Tryd.checked) (X := fun w _ => laidMetH Tryd.prog Rows.blockWordsRow.laid w) (fun _ _ _ hh h => h.of_heap hh) Fr.own started (by kernel_rfl) Tryd.func4
    (ChangeSpec.witness_shaped (enc := enc) (C := Tryd.checked) (os := os) (X := fun w _ => laidMetH Tryd.prog Rows.blockWordsRow.laid w) false (World.doorLaid Tryd.prog 400 os) #[.agg #[.int .i64 0, .int .i64 0], .slice none 0 0, .int .i64 0, .int .i64 0, .int .u64 0] 8 rfl (World.shaped_of_RefB (by kernel_rfl) (by kernel_rfl)) (by kernel_rfl) (by kernel_rfl) (by kernel_rfl) (door_met os _)) ?_
  intro W base args ds gs before hval0 hW _ _ hL _
  have hval : ∀ (j : Nat) t v, Tryd.f4.params[j]? = some t → args[j]? = some v → Value.okWide Tryd.prog W .any base t v := hval0
  have hW' := hW
  obtain ⟨p, q, hA0, hV, rfl, hfz, hnd⟩ := hW
  have hA : DataW.TrodAll enc Tryd.prog W 0 (fun _ => true) true Tryd.f4.params.toList args.toList ds p := hA0
  obtain ⟨rfl, rfl⟩ := trodVars_none hV
  rw [Tryd.params4] at hA hval
  obtain ⟨v0, vs0, d0, ds0, p0, q0, hargs, rfl, rfl, h0, r0⟩ := trodAll_cons hA
  obtain ⟨v1, vs1, d1, ds1, p1, q1, rfl, rfl, rfl, h1, r1⟩ := trodAll_cons r0
  obtain ⟨v2, vs2, d2, ds2, p2, q2, rfl, rfl, rfl, h2, r2⟩ := trodAll_cons r1
  obtain ⟨v3, vs3, d3, ds3, p3, q3, rfl, rfl, rfl, h3, r3⟩ := trodAll_cons r2
  obtain ⟨v4, vs4, d4, ds4, p4, q4, rfl, rfl, rfl, h4, r4⟩ := trodAll_cons r3
  obtain ⟨rfl, rfl, rfl⟩ := trodAll_nil r4
  obtain rfl : args = #[v0, v1, v2, v3, v4] := by cases args; simp_all
  obtain ⟨a0, b0, rfl, rfl⟩ := Vw.open_shape (hval 0 23 v0 rfl rfl) h0
  obtain ⟨A1, n1, c1, rfl⟩ := okWide_slice Tryd.underlying24 (hval 1 24 v1 rfl rfl)
  obtain ⟨fuel1, hf1⟩ := h1
  obtain ⟨xs1, rfl, lc1, lm1, R1⟩ := Ww.open_words hf1
  obtain ⟨x2, rfl, rfl, rfl, w2⟩ := open_int Tryd.underlying3 (hval 2 3 v2 rfl rfl) h2
  have b2 : -9223372036854775808 ≤ x2 ∧ x2 ≤ 9223372036854775807 := by simpa [Lit.wf, IntKind.min, IntKind.max, IntKind.signed, IntKind.bits] using w2
  obtain ⟨x3, rfl, rfl, rfl, w3⟩ := open_int Tryd.underlying3 (hval 3 3 v3 rfl rfl) h3
  have b3 : -9223372036854775808 ≤ x3 ∧ x3 ≤ 9223372036854775807 := by simpa [Lit.wf, IntKind.min, IntKind.max, IntKind.signed, IntKind.bits] using w3
  obtain ⟨a4, rfl, rfl, rfl, w4⟩ := open_int Tryd.underlying37 (hval 4 37 v4 rfl rfl) h4
  have b4 : 0 ≤ a4 ∧ a4 ≤ 18446744073709551615 := by simpa [Lit.wf, IntKind.min, IntKind.max, IntKind.signed, IntKind.bits] using w4
  obtain ⟨x4, rfl⟩ := Int.eq_ofNat_of_zero_le b4.1
  simp only [List.append_nil] at hW' hA0
  refine (walk a0 b0 A1 xs1.length c1 xs1 x2 x3 x4 rfl (by omega) W (of_laid hL) R1).mono fun e W' ⟨he, hb⟩ => ?_
  subst he
  exact ⟨_, rfl, Fr.law_post (tb := 4) hW' hA0 rfl rfl rfl Tryd.underlying4 (by rw [Tryd.params4]; intro t ht; simp at ht; rcases ht with rfl | rfl | rfl | rfl | rfl; all_goals exact ⟨by kernel_rfl, of_decide_eq_true (by kernel_rfl)⟩) hb⟩

theorem row_holds : Rows.BlockWordsSaid :=
  OpenClaim.holds_of_wide 4 Tryd.f4 rfl rfl rfl rfl rfl rfl rfl ⟨rfl, rfl, rfl, rfl, rfl⟩ rfl rfl rfl rfl rfl (by kernel_rfl) Tryd.func4 (by kernel_rfl)
    (of_decide_eq_true (by kernel_rfl)) (by unfold Func.isWrapper; first | (rw [if_pos (by decide +kernel)]; kernel_rfl) | (rw [if_neg (by decide +kernel)]; exact ⟨rfl, rfl⟩))
    (fun os started H enc _ => lifted os started H enc)

theorem proved : Rows.BlockWordsCardSaid :=
  Claim7.holds_tied_plain_at .later [] [.data, .data] true Rows.blockWordsCard.stood.harness false
    row_holds (fun _ h => by cases h) (by kernel_rfl) (fun _ h => by cases h) blockWords_row_tie rfl ⟨rfl, rfl⟩ (by kernel_rfl) rfl
    (fun f fn hf hfn => by
      obtain rfl : f = 4 := Option.some.inj ((show Tryd.prog.funcNamed "abacist/abacistlaw12.BlockWords" = some 4 by kernel_rfl).symm.trans hf) |>.symm
      obtain rfl : fn = Tryd.f4 := (Option.some.inj (Tryd.func4.symm.trans hfn)).symm
      exact ⟨by kernel_rfl, fun j t ht => by
        rw [Tryd.params4] at ht
        have hm : t ∈ [23, 24, 3, 37] := by simpa using Array.mem_of_getElem? ht
        have hall : ([23, 24, 3, 37].all fun u => !Tryd.prog.wantsStandIn u) = true := by kernel_rfl
        exact (show Tryd.prog.wantsStandIn t = false by simpa using List.all_eq_true.1 hall t hm)⟩)
    (by kernel_rfl)
end Go.Proofs.YtobpjlgiefnmjaaDoor.blockWords
