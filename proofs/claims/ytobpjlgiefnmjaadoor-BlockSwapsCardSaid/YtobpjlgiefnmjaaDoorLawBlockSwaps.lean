/- BlockSwaps: of every shape, row of words, tile, row and column the law of two tiles that change places answers true, and changes nothing, where the library's two tables are as their initialisers lay them (the card ties them to the program's text). -/
import Derived.Test.YtobpjlgiefnmjaaDoorFrame
import Derived.Test.YtobpjlgiefnmjaaDoorTileA
import Derived.Test.YtobpjlgiefnmjaaDoorViewO
import Derived.Test.YtobpjlgiefnmjaaDoorBlockJ
import Derived.Test.YtobpjlgiefnmjaaDoorTie
import Derived.Test.YtobpjlgiefnmjaaDoorCards
import Derived.Lib.LaidTab
import Derived.LaidMore
import Derived.Stop.Joined
import Derived.SevenTiedAt
set_option linter.unusedVariables false
namespace Go.Proofs.YtobpjlgiefnmjaaDoor.blockSwaps
open Go.ChangeShapes Go.WideShapes Go.ChangeAt Go.RowKit
open Bl Ww Pl

set_option maxHeartbeats 1000000 in
set_option maxRecDepth 100000 in
theorem walk_none (a b : Int) (A : Option Addr) (n ca : Nat) (xs : List Nat) (ta tb tr tc r c : Int) (h : ¬ (Sh.Gd a b ∧ n ≤ 256 ∧ a * b = (n : Int))) (w : World) (hT : Ft.Tab w) (R : Ws w w.heap.size A xs) :
    Calls Tryd.prog 6 #[.agg #[.int .i64 a, .int .i64 b], .slice A n ca, .agg #[.int .i64 ta, .int .i64 tb, .int .i64 tr, .int .i64 tc], .int .i64 r, .int .i64 c] w fun e w' => e = .returned (.bool true) ∧ Below w.heap.size w w' := by
  have MD := Lib.hid (fun W => made_no A n ca a b h W)
  clear h
  have V0 := Sh.Tw.fresh w a b 23
  have b0 := below_alloc w (.cells #[.int .i64 a, .int .i64 b] 23)
  have U0 := Ti.fresh (w.alloc (.cells #[.int .i64 a, .int .i64 b] 23)) ta tb tr tc 45
  have b1 := below_alloc (w.alloc (.cells #[.int .i64 a, .int .i64 b] 23)) (.cells #[.int .i64 ta, .int .i64 tb, .int .i64 tr, .int .i64 tc] 45)
  have V0 := V0.below b1
  have b0 := b0.trans (b1.mono b0.size)
  have e1 : (w.alloc (.cells #[.int .i64 a, .int .i64 b] 23)).heap.size = w.heap.size + 1 := by simp
  rw [e1] at U0
  clear b1 e1
  go_enter Tryd.func6, Tryd.ntmps6
  go_upto_region 1 with fail
  generalize (w.alloc (.cells #[.int .i64 a, .int .i64 b] 23)).alloc (.cells #[.int .i64 ta, .int .i64 tb, .int .i64 tr, .int .i64 tc] 45) = w0 at *
  go_wp2_with fail
  refine (awake _ (hT.below b0)).mono ?_
  rintro e w1 ⟨rfl, h1⟩
  have V1 := Lib.hid (V0.below h1)
  have U1 := Lib.hid (U0.below h1)
  have c1 := Lib.hid (b0.trans (h1.mono b0.size))
  have R1 := Lib.hid (R.step c1.out)
  have T1 := Lib.hid (hT.below c1.out)
  generalize w.heap.size = vb at V1 U1
  have M1 := Lib.hid (Kd.refl w1)
  have TW := Lib.hid (fun W (hk : Kd w1 W) => hk.tw V1.out)
  have UW := Lib.hid (fun W (hk : Kd w1 W) => show Ti W (vb + 1) ta tb tr tc from U1.out.below hk.d)
  have RX := Lib.hid (fun W (hk : Kd w1 W) => R1.out.step hk.d)
  have TX := Lib.hid (fun W (hk : Kd w1 W) => show Ft.Tab W from T1.out.below hk.d)
  have CW := Lib.hid (fun W (hk : Kd w1 W) => c1.out.trans (hk.d.mono c1.out.size))
  clear V0 U0 b0 h1 V1 U1 R1 T1 c1 hT R
  obtain ⟨t0, t1⟩ := TW.out _ M1.out
  obtain ⟨y0, y1, y2, y3⟩ := UW.out _ M1.out
  go_wp2_with fail
  refine (MD.out _).mono ?_
  rintro e w2 ⟨rfl, d2⟩
  have M2 := Lib.hid (M1.out.call d2)
  clear t0 t1 y0 y1 y2 y3 d2 M1 
  have C2 := Lib.hid (CW.out _ M2.out)
  clear M2 CW TW UW RX TX
  go_wp2
  go_ret
  exact ⟨by simp [go_sem], C2.out⟩

set_option maxHeartbeats 1000000 in
set_option maxRecDepth 100000 in
theorem walk_out1 (R C n ca xb xo : Nat) (xs : List Nat) (ta tb tr tc r c : Int) (h : ¬ Ins R C ta tb tr tc) (hx : xs.length = n) (hg : Sh.Gd (R : Int) (C : Int)) (hn : R * C = n) (hl : n ≤ 256) (w : World) (hT : Ft.Tab w) (X : Ws w w.heap.size (some ⟨xb, xo, none⟩) xs) :
    Calls Tryd.prog 6 #[.agg #[.int .i64 (R : Int), .int .i64 (C : Int)], .slice (some ⟨xb, xo, none⟩) n ca, .agg #[.int .i64 ta, .int .i64 tb, .int .i64 tr, .int .i64 tc], .int .i64 r, .int .i64 c] w fun e w' => e = .returned (.bool true) ∧ Below w.heap.size w w' := by
  have MD := Lib.hid (fun W T X => made_ok ⟨xb, xo, none⟩ ca R C n xs hx hg hn hl W T X)
  have RE := Lib.hid (show rg (Pn.pl xs) n = xs from rg_pl hx)
  have HL := Lib.hid hl
  have WD := Lib.hid (fun W p b cap (f : Nat → Nat) (B : Bx W p b R C n cap f) => words B)
  have SM := Lib.hid (fun (f g : Nat → Nat) (e : ∀ i, i < n → f i = g i) (A B : Option Addr) ca cb W Ra Rb => same_rg (n := n) (f := f) (g := g) e (by omega) A B ca cb W Ra Rb)
  obtain ⟨g1, g2, g3, g4, g5⟩ := hg.bound
  have SW := Lib.hid (fun W p b cap (B : Bx W p b R C n cap (Pn.pl xs)) T => swap_no1 B ta tb tr tc r c h T)
  have I1 := Lib.hid (fun W => inside R C ta tb tr tc false (by omega) (by omega) (by simp [h]) W)
  clear h hg hn hx
  have V0 := Sh.Tw.fresh w (R : Int) (C : Int) 23
  have b0 := below_alloc w (.cells #[.int .i64 (R : Int), .int .i64 (C : Int)] 23)
  have U0 := Ti.fresh (w.alloc (.cells #[.int .i64 (R : Int), .int .i64 (C : Int)] 23)) ta tb tr tc 45
  have b1 := below_alloc (w.alloc (.cells #[.int .i64 (R : Int), .int .i64 (C : Int)] 23)) (.cells #[.int .i64 ta, .int .i64 tb, .int .i64 tr, .int .i64 tc] 45)
  have V0 := V0.below b1
  have b0 := b0.trans (b1.mono b0.size)
  have e1 : (w.alloc (.cells #[.int .i64 (R : Int), .int .i64 (C : Int)] 23)).heap.size = w.heap.size + 1 := by simp
  rw [e1] at U0
  clear b1 e1
  go_enter Tryd.func6, Tryd.ntmps6
  go_upto_region 1 with fail
  generalize (w.alloc (.cells #[.int .i64 (R : Int), .int .i64 (C : Int)] 23)).alloc (.cells #[.int .i64 ta, .int .i64 tb, .int .i64 tr, .int .i64 tc] 45) = w0 at *
  go_wp2_with fail
  refine (awake _ (hT.below b0)).mono ?_
  rintro e w1 ⟨rfl, h1⟩
  have V1 := Lib.hid (V0.below h1)
  have U1 := Lib.hid (U0.below h1)
  have c1 := Lib.hid (b0.trans (h1.mono b0.size))
  have R1 := Lib.hid (X.step c1.out)
  have T1 := Lib.hid (hT.below c1.out)
  generalize w.heap.size = vb at V1 U1
  have M1 := Lib.hid (Kd.refl w1)
  have TW := Lib.hid (fun W (hk : Kd w1 W) => hk.tw V1.out)
  have UW := Lib.hid (fun W (hk : Kd w1 W) => show Ti W (vb + 1) ta tb tr tc from U1.out.below hk.d)
  have RX := Lib.hid (fun W (hk : Kd w1 W) => R1.out.step hk.d)
  have TX := Lib.hid (fun W (hk : Kd w1 W) => show Ft.Tab W from T1.out.below hk.d)
  have CW := Lib.hid (fun W (hk : Kd w1 W) => c1.out.trans (hk.d.mono c1.out.size))
  clear V0 U0 b0 h1 V1 U1 R1 T1 c1 hT X
  obtain ⟨t0, t1⟩ := TW.out _ M1.out
  obtain ⟨y0, y1, y2, y3⟩ := UW.out _ M1.out
  go_wp2_with fail
  refine (MD.out _ (TX.out _ M1.out) (RX.out _ M1.out)).mono ?_
  rintro e w2 ⟨v2, rfl, p, b, cap, rfl, B2, hp, hb, d2⟩
  have M2 := Lib.hid (M1.out.call d2)
  have B2 := Lib.hid B2
  have hp := Lib.hid hp
  have hb := Lib.hid hb
  clear t0 t1 y0 y1 y2 y3 d2 M1 MD
  obtain ⟨t0, t1⟩ := TW.out _ M2.out
  obtain ⟨y0, y1, y2, y3⟩ := UW.out _ M2.out
  have bt := build_tile3 ta tb r c
  go_upto_region 7 with fail
  have Z3 := Ti.fresh w2 ta tb r c 45
  have b3 := below_alloc w2 (.cells #[.int .i64 ta, .int .i64 tb, .int .i64 r, .int .i64 c] 45)
  clear bt t0 t1 y0 y1 y2 y3
  generalize w2.alloc (.cells #[.int .i64 ta, .int .i64 tb, .int .i64 r, .int .i64 c] 45) = w3 at *
  have M3 := Lib.hid (M2.out.call b3)
  have B3 := Lib.hid (B2.out.below b3)
  have gb := Lib.hid (show w2.heap.size ≠ b by have := B2.out.s; omega)
  have Z3 := Lib.hid Z3
  clear b3 M2 B2
  generalize w2.heap.size = vg at *
  obtain ⟨t0, t1⟩ := TW.out _ M3.out
  obtain ⟨y0, y1, y2, y3⟩ := UW.out _ M3.out
  go_wp2_with fail
  refine (SW.out _ _ _ _ B3.out (TX.out _ M3.out)).mono ?_
  rintro e w4 ⟨rfl, d4⟩
  have M4 := Lib.hid (M3.out.call d4)
  have B4 := Lib.hid (B3.out.below d4)
  have Z4 := Lib.hid (Z3.out.below d4)
  clear t0 t1 y0 y1 y2 y3 d4 M3 B3 Z3 SW
  obtain ⟨t0, t1⟩ := TW.out _ M4.out
  obtain ⟨y0, y1, y2, y3⟩ := UW.out _ M4.out
  go_wp2_with fail
  refine (WD.out _ _ _ _ _ B4.out).mono ?_
  rintro e w5 ⟨A5, c5, rfl, X5, d5⟩
  have M5 := Lib.hid (M4.out.call d5)
  have X5 := Lib.hid X5
  have Z5 := Lib.hid (Z4.out.below d5)
  clear t0 t1 y0 y1 y2 y3 d5 M4 B4 Z4 WD
  obtain ⟨t0, t1⟩ := TW.out _ M5.out
  obtain ⟨y0, y1, y2, y3⟩ := UW.out _ M5.out
  go_wp2_with fail
  refine (I1.out _).mono ?_
  rintro e w6 ⟨rfl, d6⟩
  have M6 := Lib.hid (M5.out.call d6)
  have X6 := Lib.hid (X5.out.step d6)
  have Z6 := Lib.hid (Z5.out.below d6)
  clear t0 t1 y0 y1 y2 y3 d6 M5 X5 Z5 I1
  obtain ⟨t0, t1⟩ := TW.out _ M6.out
  obtain ⟨y0, y1, y2, y3⟩ := UW.out _ M6.out
  go_wp2_with fail
  refine (SM.out _ _ (fun _ _ => rfl) _ _ _ _ _ X6.out (by rw [RE.out]; exact RX.out _ M6.out)).mono ?_
  rintro e w7 ⟨rfl, d7⟩
  have M7 := Lib.hid (M6.out.call d7)
  clear t0 t1 y0 y1 y2 y3 d7 M6 X6
  have C7 := Lib.hid (CW.out _ M7.out)
  clear M7 CW TW UW RX TX
  go_wp2
  go_ret
  exact ⟨by simp [go_sem], C7.out⟩

set_option maxHeartbeats 1000000 in
set_option maxRecDepth 100000 in
theorem walk_out2 (R C n ca xb xo : Nat) (xs : List Nat) (ta tb tr tc r c : Int) (h : Ins R C ta tb tr tc) (h2 : ¬ Ins R C ta tb r c) (hx : xs.length = n) (hg : Sh.Gd (R : Int) (C : Int)) (hn : R * C = n) (hl : n ≤ 256) (w : World) (hT : Ft.Tab w) (X : Ws w w.heap.size (some ⟨xb, xo, none⟩) xs) :
    Calls Tryd.prog 6 #[.agg #[.int .i64 (R : Int), .int .i64 (C : Int)], .slice (some ⟨xb, xo, none⟩) n ca, .agg #[.int .i64 ta, .int .i64 tb, .int .i64 tr, .int .i64 tc], .int .i64 r, .int .i64 c] w fun e w' => e = .returned (.bool true) ∧ Below w.heap.size w w' := by
  have MD := Lib.hid (fun W T X => made_ok ⟨xb, xo, none⟩ ca R C n xs hx hg hn hl W T X)
  have RE := Lib.hid (show rg (Pn.pl xs) n = xs from rg_pl hx)
  have HL := Lib.hid hl
  have WD := Lib.hid (fun W p b cap (f : Nat → Nat) (B : Bx W p b R C n cap f) => words B)
  have SM := Lib.hid (fun (f g : Nat → Nat) (e : ∀ i, i < n → f i = g i) (A B : Option Addr) ca cb W Ra Rb => same_rg (n := n) (f := f) (g := g) e (by omega) A B ca cb W Ra Rb)
  obtain ⟨g1, g2, g3, g4, g5⟩ := hg.bound
  have SW := Lib.hid (fun W p b cap (B : Bx W p b R C n cap (Pn.pl xs)) T => swap_no2 B ta tb tr tc r c h h2 T)
  have I1 := Lib.hid (fun W => inside R C ta tb tr tc true (by omega) (by omega) (by simp [h]) W)
  have I2 := Lib.hid (fun W => inside R C ta tb r c false (by omega) (by omega) (by simp [h2]) W)
  clear h h2 hg hn hx
  have V0 := Sh.Tw.fresh w (R : Int) (C : Int) 23
  have b0 := below_alloc w (.cells #[.int .i64 (R : Int), .int .i64 (C : Int)] 23)
  have U0 := Ti.fresh (w.alloc (.cells #[.int .i64 (R : Int), .int .i64 (C : Int)] 23)) ta tb tr tc 45
  have b1 := below_alloc (w.alloc (.cells #[.int .i64 (R : Int), .int .i64 (C : Int)] 23)) (.cells #[.int .i64 ta, .int .i64 tb, .int .i64 tr, .int .i64 tc] 45)
  have V0 := V0.below b1
  have b0 := b0.trans (b1.mono b0.size)
  have e1 : (w.alloc (.cells #[.int .i64 (R : Int), .int .i64 (C : Int)] 23)).heap.size = w.heap.size + 1 := by simp
  rw [e1] at U0
  clear b1 e1
  go_enter Tryd.func6, Tryd.ntmps6
  go_upto_region 1 with fail
  generalize (w.alloc (.cells #[.int .i64 (R : Int), .int .i64 (C : Int)] 23)).alloc (.cells #[.int .i64 ta, .int .i64 tb, .int .i64 tr, .int .i64 tc] 45) = w0 at *
  go_wp2_with fail
  refine (awake _ (hT.below b0)).mono ?_
  rintro e w1 ⟨rfl, h1⟩
  have V1 := Lib.hid (V0.below h1)
  have U1 := Lib.hid (U0.below h1)
  have c1 := Lib.hid (b0.trans (h1.mono b0.size))
  have R1 := Lib.hid (X.step c1.out)
  have T1 := Lib.hid (hT.below c1.out)
  generalize w.heap.size = vb at V1 U1
  have M1 := Lib.hid (Kd.refl w1)
  have TW := Lib.hid (fun W (hk : Kd w1 W) => hk.tw V1.out)
  have UW := Lib.hid (fun W (hk : Kd w1 W) => show Ti W (vb + 1) ta tb tr tc from U1.out.below hk.d)
  have RX := Lib.hid (fun W (hk : Kd w1 W) => R1.out.step hk.d)
  have TX := Lib.hid (fun W (hk : Kd w1 W) => show Ft.Tab W from T1.out.below hk.d)
  have CW := Lib.hid (fun W (hk : Kd w1 W) => c1.out.trans (hk.d.mono c1.out.size))
  clear V0 U0 b0 h1 V1 U1 R1 T1 c1 hT X
  obtain ⟨t0, t1⟩ := TW.out _ M1.out
  obtain ⟨y0, y1, y2, y3⟩ := UW.out _ M1.out
  go_wp2_with fail
  refine (MD.out _ (TX.out _ M1.out) (RX.out _ M1.out)).mono ?_
  rintro e w2 ⟨v2, rfl, p, b, cap, rfl, B2, hp, hb, d2⟩
  have M2 := Lib.hid (M1.out.call d2)
  have B2 := Lib.hid B2
  have hp := Lib.hid hp
  have hb := Lib.hid hb
  clear t0 t1 y0 y1 y2 y3 d2 M1 MD
  obtain ⟨t0, t1⟩ := TW.out _ M2.out
  obtain ⟨y0, y1, y2, y3⟩ := UW.out _ M2.out
  have bt := build_tile3 ta tb r c
  go_upto_region 7 with fail
  have Z3 := Ti.fresh w2 ta tb r c 45
  have b3 := below_alloc w2 (.cells #[.int .i64 ta, .int .i64 tb, .int .i64 r, .int .i64 c] 45)
  clear bt t0 t1 y0 y1 y2 y3
  generalize w2.alloc (.cells #[.int .i64 ta, .int .i64 tb, .int .i64 r, .int .i64 c] 45) = w3 at *
  have M3 := Lib.hid (M2.out.call b3)
  have B3 := Lib.hid (B2.out.below b3)
  have gb := Lib.hid (show w2.heap.size ≠ b by have := B2.out.s; omega)
  have Z3 := Lib.hid Z3
  clear b3 M2 B2
  generalize w2.heap.size = vg at *
  obtain ⟨t0, t1⟩ := TW.out _ M3.out
  obtain ⟨y0, y1, y2, y3⟩ := UW.out _ M3.out
  go_wp2_with fail
  refine (SW.out _ _ _ _ B3.out (TX.out _ M3.out)).mono ?_
  rintro e w4 ⟨rfl, d4⟩
  have M4 := Lib.hid (M3.out.call d4)
  have B4 := Lib.hid (B3.out.below d4)
  have Z4 := Lib.hid (Z3.out.below d4)
  clear t0 t1 y0 y1 y2 y3 d4 M3 B3 Z3 SW
  obtain ⟨t0, t1⟩ := TW.out _ M4.out
  obtain ⟨y0, y1, y2, y3⟩ := UW.out _ M4.out
  go_wp2_with fail
  refine (WD.out _ _ _ _ _ B4.out).mono ?_
  rintro e w5 ⟨A5, c5, rfl, X5, d5⟩
  have M5 := Lib.hid (M4.out.call d5)
  have X5 := Lib.hid X5
  have Z5 := Lib.hid (Z4.out.below d5)
  clear t0 t1 y0 y1 y2 y3 d5 M4 B4 Z4 WD
  obtain ⟨t0, t1⟩ := TW.out _ M5.out
  obtain ⟨y0, y1, y2, y3⟩ := UW.out _ M5.out
  go_wp2_with fail
  refine (I1.out _).mono ?_
  rintro e w6 ⟨rfl, d6⟩
  have M6 := Lib.hid (M5.out.call d6)
  have X6 := Lib.hid (X5.out.step d6)
  have Z6 := Lib.hid (Z5.out.below d6)
  clear t0 t1 y0 y1 y2 y3 d6 M5 X5 Z5 I1
  obtain ⟨z0, z1, z2, z3⟩ := Z6.out
  obtain ⟨t0, t1⟩ := TW.out _ M6.out
  obtain ⟨y0, y1, y2, y3⟩ := UW.out _ M6.out
  go_wp2_with fail
  refine (I2.out _).mono ?_
  rintro e w7 ⟨rfl, d7⟩
  have M7 := Lib.hid (M6.out.call d7)
  have X7 := Lib.hid (X6.out.step d7)
  clear t0 t1 y0 y1 y2 y3 d7 M6 X6 Z6 I2 z0 z1 z2 z3
  obtain ⟨t0, t1⟩ := TW.out _ M7.out
  obtain ⟨y0, y1, y2, y3⟩ := UW.out _ M7.out
  go_wp2_with fail
  refine (SM.out _ _ (fun _ _ => rfl) _ _ _ _ _ X7.out (by rw [RE.out]; exact RX.out _ M7.out)).mono ?_
  rintro e w8 ⟨rfl, d8⟩
  have M8 := Lib.hid (M7.out.call d8)
  clear t0 t1 y0 y1 y2 y3 d8 M7 X7
  have C8 := Lib.hid (CW.out _ M8.out)
  clear M8 CW TW UW RX TX
  go_wp2
  go_ret
  exact ⟨by simp [go_sem], C8.out⟩

set_option maxHeartbeats 1000000 in
set_option maxRecDepth 100000 in
theorem walk_both (R C n ca xb xo : Nat) (xs : List Nat) (h k u v r c : Nat) (ht : Sh.Gd (h : Int) (k : Int)) (hu : u + h ≤ R) (hv : v + k ≤ C) (hr : r + h ≤ R) (hc : c + k ≤ C) (sh sm : Bool) (hsh : sh = true ↔ Bk.Sh u v r c h k) (hsm : sm = true ↔ u = r ∧ v = c) (ev : Int) (fm : Nat → Nat) (MP : Nat → (Nat → Nat) → Prop) (he : (sh && !sm) = true ∧ ev = 19 ∧ (∀ i, i < n → fm i = Pn.pl xs i) ∨ (sh && !sm) = false ∧ ev = 0 ∧ ∀ g, MP (h * k) g → ∀ i, i < n → fm i = g i) (fml : ∀ i, i < n → fm i < 18446744073709551616)
    (hSW : ∀ W p b cap, Bx W p b R C n cap (Pn.pl xs) → Ft.Tab W → Calls Tryd.prog 23 #[.pointer (some ⟨p, 0, none⟩), .agg #[.int .i64 (h : Int), .int .i64 (k : Int), .int .i64 (u : Int), .int .i64 (v : Int)], .int .i64 (r : Int), .int .i64 (c : Int)] W fun e w' => e = .returned (.int .i64 ev) ∧ Ta b n fm W w')
    (mp0 : MP 0 (Pn.pl xs)) (mps : ∀ i j g x y, i < h → j < k → x = Bk.pt C u v k (i * k + j) → y = Bk.pt C r c k (i * k + j) → MP (i * k + j) g → MP (i * k + j + 1) (upd (upd g x (Pn.pl xs y)) y (Pn.pl xs x))) (hx : xs.length = n) (hg : Sh.Gd (R : Int) (C : Int)) (hn : R * C = n) (hl : n ≤ 256) (w : World) (hT : Ft.Tab w) (X : Ws w w.heap.size (some ⟨xb, xo, none⟩) xs) :
    Calls Tryd.prog 6 #[.agg #[.int .i64 (R : Int), .int .i64 (C : Int)], .slice (some ⟨xb, xo, none⟩) n ca, .agg #[.int .i64 (h : Int), .int .i64 (k : Int), .int .i64 (u : Int), .int .i64 (v : Int)], .int .i64 (r : Int), .int .i64 (c : Int)] w fun e w' => e = .returned (.bool true) ∧ Below w.heap.size w w' := by
  have MD := Lib.hid (fun W T X => made_ok ⟨xb, xo, none⟩ ca R C n xs hx hg hn hl W T X)
  have RE := Lib.hid (show rg (Pn.pl xs) n = xs from rg_pl hx)
  have HL := Lib.hid hl
  have WD := Lib.hid (fun W p b cap (f : Nat → Nat) (B : Bx W p b R C n cap f) => words B)
  have SM := Lib.hid (fun (f g : Nat → Nat) (e : ∀ i, i < n → f i = g i) (A B : Option Addr) ca cb W Ra Rb => same_rg (n := n) (f := f) (g := g) e (by omega) A B ca cb W Ra Rb)
  obtain ⟨g1, g2, g3, g4, g5⟩ := hg.bound
  have SW := Lib.hid hSW
  have FL := Lib.hid fml
  have HE := Lib.hid he
  have MS := Lib.hid mps
  have M0 := Lib.hid mp0
  have I1 := Lib.hid (fun W => inside R C h k u v true (by omega) (by omega) (by simp only [true_iff]; exact ⟨ht, ⟨by omega, by omega⟩, by omega, by omega⟩) W)
  have I2 := Lib.hid (fun W => inside R C h k r c true (by omega) (by omega) (by simp only [true_iff]; exact ⟨ht, ⟨by omega, by omega⟩, by omega, by omega⟩) W)
  have J1 := Lib.hid (fun i (hi : i < h) => row_in hn hu hv hi)
  have J2 := Lib.hid (fun i (hi : i < h) => row_in hn hr hc hi)
  have LX := Lib.hid (fun W (X : Ws W W.heap.size (some ⟨xb, xo, none⟩) xs) y (hy : y < n) => ws_cell X y (by omega))
  have H0 := Lib.hid (show 0 < n by
    have a1 : 0 < R * C := Nat.mul_pos (by omega) (by omega)
    omega)
  have hb1 : u + h ≤ 4294967296 ∧ r + h ≤ 4294967296 ∧ v + k ≤ 4294967296 ∧ c + k ≤ 4294967296 ∧ C ≤ 4294967296 := by omega
  have k0 := Lib.hid (show 0 < h * k by
    obtain ⟨p1, _, p3, _, _⟩ := ht.bound
    exact Nat.mul_pos (by omega) (by omega))
  have HX := Lib.hid hx
  have HXE := Lib.hid (show Value.slice (some ⟨xb, xo, none⟩) n ca = .slice (some ⟨xb, xo, none⟩) xs.length ca by rw [hx])
  have HSH := Lib.hid hsh
  have q5 : IntKind.i64.wrap ((u : Int) + (h : Int)) = ((u + h : Nat) : Int) := by rw [IntKind.wrap_i64]; omega
  have q6 : IntKind.i64.wrap ((v : Int) + (k : Int)) = ((v + k : Nat) : Int) := by rw [IntKind.wrap_i64]; omega
  have tq : ∀ W, (binOp .neq 45 (.agg #[.int .i64 (h : Int), .int .i64 (k : Int), .int .i64 (u : Int), .int .i64 (v : Int)]) (.agg #[.int .i64 (h : Int), .int .i64 (k : Int), .int .i64 (r : Int), .int .i64 (c : Int)])).run Tryd.prog W = .ok (.bool (!sm)) W := fun W => tile_neq h k u v r c sm (by rw [hsm]; omega) W
  clear ht hu hv hr hc hsh hsm he fml hSW mp0 mps hg hn hx
  have V0 := Sh.Tw.fresh w (R : Int) (C : Int) 23
  have b0 := below_alloc w (.cells #[.int .i64 (R : Int), .int .i64 (C : Int)] 23)
  have U0 := Ti.fresh (w.alloc (.cells #[.int .i64 (R : Int), .int .i64 (C : Int)] 23)) (h : Int) (k : Int) (u : Int) (v : Int) 45
  have b1 := below_alloc (w.alloc (.cells #[.int .i64 (R : Int), .int .i64 (C : Int)] 23)) (.cells #[.int .i64 (h : Int), .int .i64 (k : Int), .int .i64 (u : Int), .int .i64 (v : Int)] 45)
  have V0 := V0.below b1
  have b0 := b0.trans (b1.mono b0.size)
  have e1 : (w.alloc (.cells #[.int .i64 (R : Int), .int .i64 (C : Int)] 23)).heap.size = w.heap.size + 1 := by simp
  rw [e1] at U0
  clear b1 e1
  go_enter Tryd.func6, Tryd.ntmps6
  go_upto_region 1 with fail
  generalize (w.alloc (.cells #[.int .i64 (R : Int), .int .i64 (C : Int)] 23)).alloc (.cells #[.int .i64 (h : Int), .int .i64 (k : Int), .int .i64 (u : Int), .int .i64 (v : Int)] 45) = w0 at *
  go_wp2_with fail
  refine (awake _ (hT.below b0)).mono ?_
  rintro e w1 ⟨rfl, h1⟩
  have V1 := Lib.hid (V0.below h1)
  have U1 := Lib.hid (U0.below h1)
  have c1 := Lib.hid (b0.trans (h1.mono b0.size))
  have R1 := Lib.hid (X.step c1.out)
  have T1 := Lib.hid (hT.below c1.out)
  generalize w.heap.size = vb at V1 U1
  have M1 := Lib.hid (Kd.refl w1)
  have TW := Lib.hid (fun W (hk : Kd w1 W) => hk.tw V1.out)
  have UW := Lib.hid (fun W (hk : Kd w1 W) => show Ti W (vb + 1) (h : Int) (k : Int) (u : Int) (v : Int) from U1.out.below hk.d)
  have RX := Lib.hid (fun W (hk : Kd w1 W) => R1.out.step hk.d)
  have TX := Lib.hid (fun W (hk : Kd w1 W) => show Ft.Tab W from T1.out.below hk.d)
  have CW := Lib.hid (fun W (hk : Kd w1 W) => c1.out.trans (hk.d.mono c1.out.size))
  clear V0 U0 b0 h1 V1 U1 R1 T1 c1 hT X
  obtain ⟨t0, t1⟩ := TW.out _ M1.out
  obtain ⟨y0, y1, y2, y3⟩ := UW.out _ M1.out
  go_wp2_with fail
  refine (MD.out _ (TX.out _ M1.out) (RX.out _ M1.out)).mono ?_
  rintro e w2 ⟨v2, rfl, p, b, cap, rfl, B2, hp, hb, d2⟩
  have M2 := Lib.hid (M1.out.call d2)
  have B2 := Lib.hid B2
  have hp := Lib.hid hp
  have hb := Lib.hid hb
  clear t0 t1 y0 y1 y2 y3 d2 M1 MD
  obtain ⟨t0, t1⟩ := TW.out _ M2.out
  obtain ⟨y0, y1, y2, y3⟩ := UW.out _ M2.out
  have bt := build_tile3 (h : Int) (k : Int) (r : Int) (c : Int)
  go_upto_region 7 with fail
  have Z3 := Ti.fresh w2 (h : Int) (k : Int) (r : Int) (c : Int) 45
  have b3 := below_alloc w2 (.cells #[.int .i64 (h : Int), .int .i64 (k : Int), .int .i64 (r : Int), .int .i64 (c : Int)] 45)
  clear bt t0 t1 y0 y1 y2 y3
  generalize w2.alloc (.cells #[.int .i64 (h : Int), .int .i64 (k : Int), .int .i64 (r : Int), .int .i64 (c : Int)] 45) = w3 at *
  have M3 := Lib.hid (M2.out.call b3)
  have B3 := Lib.hid (B2.out.below b3)
  have gb := Lib.hid (show w2.heap.size ≠ b by have := B2.out.s; omega)
  have Z3 := Lib.hid Z3
  clear b3 M2 B2
  generalize w2.heap.size = vg at *
  obtain ⟨t0, t1⟩ := TW.out _ M3.out
  obtain ⟨y0, y1, y2, y3⟩ := UW.out _ M3.out
  go_wp2_with fail
  refine (SW.out _ _ _ _ B3.out (TX.out _ M3.out)).mono ?_
  rintro e w4 ⟨rfl, T4⟩
  have M4 := Lib.hid (M3.out.but T4.o hb.out)
  have B4 := Lib.hid (B3.out.wrote T4 FL.out)
  have Z4 := Lib.hid (Z3.out.but T4.o gb.out)
  clear t0 t1 y0 y1 y2 y3 M3 B3 Z3 T4 SW
  obtain ⟨t0, t1⟩ := TW.out _ M4.out
  obtain ⟨y0, y1, y2, y3⟩ := UW.out _ M4.out
  go_wp2_with fail
  refine (WD.out _ _ _ _ _ B4.out).mono ?_
  rintro e w5 ⟨A5, c5, rfl, X5, d5⟩
  have M5 := Lib.hid (M4.out.call d5)
  have X5 := Lib.hid X5
  have Z5 := Lib.hid (Z4.out.below d5)
  clear t0 t1 y0 y1 y2 y3 d5 M4 B4 Z4 WD
  obtain ⟨t0, t1⟩ := TW.out _ M5.out
  obtain ⟨y0, y1, y2, y3⟩ := UW.out _ M5.out
  go_wp2_with fail
  refine (I1.out _).mono ?_
  rintro e w6 ⟨rfl, d6⟩
  have M6 := Lib.hid (M5.out.call d6)
  have X6 := Lib.hid (X5.out.step d6)
  have Z6 := Lib.hid (Z5.out.below d6)
  clear t0 t1 y0 y1 y2 y3 d6 M5 X5 Z5 I1
  obtain ⟨z0, z1, z2, z3⟩ := Z6.out
  obtain ⟨t0, t1⟩ := TW.out _ M6.out
  obtain ⟨y0, y1, y2, y3⟩ := UW.out _ M6.out
  go_wp2_with fail
  refine (I2.out _).mono ?_
  rintro e w7 ⟨rfl, d7⟩
  have M7 := Lib.hid (M6.out.call d7)
  have X7 := Lib.hid (X6.out.step d7)
  have Z7 := Lib.hid (Z6.out.below d7)
  clear t0 t1 y0 y1 y2 y3 d7 M6 X6 Z6 I2 z0 z1 z2 z3
  have O7 := Lib.hid (Ow.fresh w7 w7.heap.size (Nat.le_refl _))
  have RA7 := Lib.hid ((RX.out _ M7.out).alloc (Nat.le_refl _) (.cells #[] 37))
  have BA7 := Lib.hid (below_alloc w7 (.cells #[] 37))
  go_upto_region 12 with (at_builtin; (refine append_all (w7.alloc (.cells #[] 37)) ?hgd (.tmp 57) (.tmp 58) ?ho w7.heap.size (.slice (some ⟨w7.heap.size, 0, none⟩) 0 0) [] ?hs O7.out w7.heap.size (some ⟨xb, xo, none⟩) ca xs ?hx RA7.out ?hA ?c1 ?c2 (fun v8 w8 OO hg => ?_)); (case hgd => rfl); (case ho => rfl); (case hs => rfl); (case hx => exact HXE.out); (case hA => intro h; cases h); (case c1 => have := HX.out; have := HL.out; simp only [List.length_nil]; omega); (case c2 => simp); (obtain ⟨bm, km, rfl, hkm, hbm, hsm, K8, d8⟩ := copied_wk HX.out H0.out O7.out BA7.out OO hg))
  have M8 := Lib.hid (M7.out.call d8)
  clear O7 RA7 BA7 OO hg
  have X8 := Lib.hid (X7.out.step d8)
  have Z8 := Lib.hid (Z7.out.below d8)
  have hbm1 := Lib.hid (Nat.le_trans M7.out.d.size hbm)
  have sm8 := Lib.hid hsm
  have xne := Lib.hid (fun W (X : Ws W w7.heap.size (some ⟨xb, xo, none⟩) xs) => show xb ≠ bm by
    obtain ⟨b', o', e, hB, _⟩ := X.at_ 0 (by have := HX.out; have := H0.out; omega)
    injection e with e
    injection e with e1 e2
    omega)
  have xbm := Lib.hid (xne.out w7 (RX.out _ M7.out))
  have ST := Lib.hid (show Ta bm n (Pn.pl xs) w8 w8 from ⟨K8, But.refl _ _⟩)
  have zg := Lib.hid (show vg ≠ bm by have := Z7.out.lt; omega)
  have XW := Lib.hid (fun wr (o : But bm w8 wr) => show Ws wr wr.heap.size A5 (rg fm n) from (X7.out.below (d8.trans (o.bel.mono hbm))).more (d8.trans (o.bel.mono hbm)).size)
  clear xne K8 d8 hbm hsm X7 X8 Z7 M7
  have MX := Lib.hid (fun wr (o : But bm w8 wr) => M8.out.but o hbm1.out)
  obtain ⟨t0, t1⟩ := TW.out _ M8.out
  obtain ⟨y0, y1, y2, y3⟩ := UW.out _ M8.out
  go_wp2_with fail
  clear t0 t1 y0 y1 y2 y3
  go_loopw [16, 17] (fun v16 v17 wr => ∃ (i : Nat) (s : Bool) (g : Nat → Nat), v16 = .bool s ∧ v17 = .int .i64 (i : Int) ∧ i ≤ h ∧ (s = true ↔ Bk.Shk u v r c h k (i * k)) ∧ Hid (MP (i * k) g) ∧ Ta bm n g w8 wr) (fun _ v17 _ => h - (Lib.intOf v17).toNat)
  case atStart => exact ⟨0, false, _, rfl, rfl, Nat.zero_le _, by rw [Nat.zero_mul]; simp [Bk.shk_zero], by rw [Nat.zero_mul]; exact M0, ST.out⟩
  case round =>
    obtain ⟨i, s, g, rfl, rfl, hi, hs, P, T⟩ := hrel
    clear ST
    obtain ⟨t0, t1⟩ := TW.out _ (MX.out _ T.o)
    obtain ⟨y0, y1, y2, y3⟩ := UW.out _ (MX.out _ T.o)
    by_cases hlt : i < h
    · have i1 : (i : Int) < h := by omega
      have T0 := Lib.hid (show Ta bm n g w8 wr from T)
      have P0 := Lib.hid (show MP (i * k + 0) g from P.out)
      have hs0 := Lib.hid (show s = true ↔ Bk.Shk u v r c h k (i * k + 0) from hs)
      obtain ⟨wo, rfl⟩ : ∃ wo : World, wo = wr := ⟨_, rfl⟩
      clear T P hs
      go_wp2_with fail
      clear t0 t1 y0 y1 y2 y3
      go_loopw [16, 18] (fun v16 v18 wr => ∃ (j : Nat) (s : Bool) (g : Nat → Nat), v16 = .bool s ∧ v18 = .int .i64 (j : Int) ∧ j ≤ k ∧ (s = true ↔ Bk.Shk u v r c h k (i * k + j)) ∧ Hid (MP (i * k + j) g) ∧ Ta bm n g w8 wr) (fun _ v18 _ => k - (Lib.intOf v18).toNat)
      case atStart => exact ⟨0, s, g, rfl, rfl, Nat.zero_le _, hs0.out, P0, T0.out⟩
      case round =>
        obtain ⟨j, s, g, rfl, rfl, hj, hs, P, T⟩ := hrel
        clear T0 P0 hs0
        obtain ⟨t0, t1⟩ := TW.out _ (MX.out _ T.o)
        obtain ⟨y0, y1, y2, y3⟩ := UW.out _ (MX.out _ T.o)
        by_cases hjlt : j < k
        · have j1 : (j : Int) < k := by omega
          have a1 := J1.out i hlt
          have a2 := J2.out i hlt
          obtain ⟨p1, hp1⟩ : ∃ p1, p1 = u + i := ⟨_, rfl⟩
          obtain ⟨p2, hp2⟩ : ∃ p2, p2 = r + i := ⟨_, rfl⟩
          obtain ⟨s1, hs1⟩ : ∃ s1, s1 = p1 * C := ⟨_, rfl⟩
          obtain ⟨s2, hs2⟩ : ∃ s2, s2 = p2 * C := ⟨_, rfl⟩
          rw [← hp1, ← hs1] at a1
          rw [← hp2, ← hs2] at a2
          have hl' := HL.out
          have q1 : IntKind.i64.wrap ((u : Int) + (i : Int)) = (p1 : Int) := by rw [IntKind.wrap_i64]; omega
          have q2 : IntKind.i64.wrap ((r : Int) + (i : Int)) = (p2 : Int) := by rw [IntKind.wrap_i64]; omega
          have q3 : IntKind.i64.wrap ((p1 : Int) * (C : Int)) = (s1 : Int) := by rw [← Int.natCast_mul, ← hs1]; exact IntWalk.i64_in _ (by omega)
          have q4 : IntKind.i64.wrap ((p2 : Int) * (C : Int)) = (s2 : Int) := by rw [← Int.natCast_mul, ← hs2]; exact IntWalk.i64_in _ (by omega)
          obtain ⟨l1, hl1⟩ : ∃ l1, l1 = s1 + v := ⟨_, rfl⟩
          obtain ⟨l2, hl2⟩ : ∃ l2, l2 = s2 + c := ⟨_, rfl⟩
          have q7 : IntKind.i64.wrap ((s1 : Int) + (v : Int)) = (l1 : Int) := by rw [IntKind.wrap_i64]; omega
          have q8 : IntKind.i64.wrap ((s2 : Int) + (c : Int)) = (l2 : Int) := by rw [IntKind.wrap_i64]; omega
          obtain ⟨x, hxx⟩ : ∃ x, x = l1 + j := ⟨_, rfl⟩
          obtain ⟨y, hyy⟩ : ∃ y, y = l2 + j := ⟨_, rfl⟩
          have q9 : IntKind.i64.wrap ((l1 : Int) + (j : Int)) = (x : Int) := by rw [IntKind.wrap_i64]; omega
          have q10 : IntKind.i64.wrap ((l2 : Int) + (j : Int)) = (y : Int) := by rw [IntKind.wrap_i64]; omega
          obtain ⟨cj, hcj⟩ : ∃ cj, cj = c + j := ⟨_, rfl⟩
          have q11 : IntKind.i64.wrap ((c : Int) + (j : Int)) = (cj : Int) := by rw [IntKind.wrap_i64]; omega
          have x1 : x < n := by omega
          have y1' : y < n := by omega
          have ex : x = Bk.pt C u v k (i * k + j) := by rw [Bk.pt_at hjlt, hxx, hl1, hs1, hp1]; omega
          have ey : y = Bk.pt C r c k (i * k + j) := by rw [Bk.pt_at hjlt, hyy, hl2, hs2, hp2]; omega
          have P2 := Lib.hid (MS.out i j g x y hlt hjlt ex ey P.out)
          have SS := Lib.hid (show Bk.Shk u v r c h k (i * k + j + 1) ↔ s = true ∨ ((u ≤ p2 ∧ p2 < u + h) ∧ v ≤ cj ∧ cj < v + k) by
            rw [Bk.shk_succ, ← hs, Bk.div_of hjlt, Bk.mod_of hjlt, ← hp2, ← hcj])
          have lx := LX.out _ (RX.out _ (MX.out _ T.o)) x x1
          have ly := LX.out _ (RX.out _ (MX.out _ T.o)) y y1'
          obtain ⟨cx, zx⟩ := T.at_ x x1
          have T2 := Lib.hid (show Ta bm n (upd g x (Pn.pl xs y)) w8 ((wr.drewN 1).setCell ⟨bm, x, none⟩ (.int .u64 (Pn.pl xs y : Nat))) from (show Ta bm n g w8 (wr.drewN 1) from ⟨T.k.drewN 1, ⟨below_drewN T.o.bel 1, T.o.cell, T.o.frz⟩⟩).put x (Pn.pl xs y) x1)
          have TN := Lib.hid (fun m => show Ta bm n g w8 (wr.drewN m) from ⟨T.k.drewN m, ⟨below_drewN T.o.bel m, T.o.cell, T.o.frz⟩⟩)
          have YB := Lib.hid y1'
          have XB := Lib.hid x1
          clear ex ey a1 a2 hp1 hp2 hs1 hs2 hl1 hl2 hxx hyy hcj P hs T2 T x1 y1' hl'
          obtain ⟨fx, hfx⟩ : ∃ fx, fx = Pn.pl xs x := ⟨_, rfl⟩
          obtain ⟨fy, hfy⟩ : ∃ fy, fy = Pn.pl xs y := ⟨_, rfl⟩
          rw [← hfx] at lx P2
          rw [← hfy] at ly P2
          replace hfx := Lib.hid hfx
          replace hfy := Lib.hid hfy
          go_upto_region 19 with fail
          go_quiet (fail)
          have T1 := TN.out nq
          clear t0 t1 y0 y1 y2 y3 lx ly cx zx TN
          generalize wr.drewN nq = w9 at *
          have ly := LX.out _ (RX.out _ (MX.out _ T1.o)) y YB.out
          rw [← hfy.out] at ly
          obtain ⟨cx, zx⟩ := T1.at_ x XB.out
          have T2 := Lib.hid (T1.put x fy XB.out)
          clear T1
          generalize g x = gx at cx
          go_upto_region 21 with fail
          clear ly cx zx
          generalize w9.setCell ⟨bm, x, none⟩ (.int .u64 (fy : Nat)) = w10 at *
          have lx := LX.out _ (RX.out _ (MX.out _ T2.out.o)) x XB.out
          rw [← hfx.out] at lx
          obtain ⟨cy, zy⟩ := T2.out.at_ y YB.out
          have T3 := Lib.hid (T2.out.put y fx YB.out)
          clear T2
          generalize upd g x fy y = gy at cy
          go_upto_region 22 with fail
          clear lx cy zy
          generalize w10.setCell ⟨bm, y, none⟩ (.int .u64 (fx : Nat)) = w11 at *
          obtain ⟨y0, y1, y2, y3⟩ := UW.out _ (MX.out _ T3.out.o)
          have SF := Lib.hid (fun (b : Bool) (hb : b = true ↔ s = true ∨ ((u ≤ p2 ∧ p2 < u + h) ∧ v ≤ cj ∧ cj < v + k)) => show b = true ↔ Bk.Shk u v r c h k (i * k + (j + 1)) from hb.trans SS.out.symm)
          clear SS
          cases s
          · skip
            by_cases m1 : (u : Int) ≤ p2
            · skip
              by_cases m2 : (p2 : Int) < ((u + h : Nat) : Int)
              · skip
                by_cases m3 : (v : Int) ≤ cj
                · skip
                  by_cases m4 : (cj : Int) < ((v + k : Nat) : Int)
                  · skip
                    go_wp2_with fail
                    go_roundw
                    case rel => exact ⟨j + 1, true, _, by first | rfl | (simp; done) | (simp; omega), rfl, by omega, SF.out true ⟨fun _ => Or.inr ⟨⟨by omega, by omega⟩, by omega, by omega⟩, fun _ => rfl⟩, P2, T3.out⟩
                    case measure => simp [Lib.intOf]; omega
                  · skip
                    go_wp2_with fail
                    go_roundw
                    case rel => exact ⟨j + 1, false, _, by first | rfl | (simp; done) | (simp; omega), rfl, by omega, SF.out false ⟨fun e => (by cases e), fun e => (by rcases e with e | ⟨⟨e1, e2⟩, e3, e4⟩; (cases e); (exfalso; omega))⟩, P2, T3.out⟩
                    case measure => simp [Lib.intOf]; omega
                · skip
                  go_wp2_with fail
                  go_roundw
                  case rel => exact ⟨j + 1, false, _, by first | rfl | (simp; done) | (simp; omega), rfl, by omega, SF.out false ⟨fun e => (by cases e), fun e => (by rcases e with e | ⟨⟨e1, e2⟩, e3, e4⟩; (cases e); (exfalso; omega))⟩, P2, T3.out⟩
                  case measure => simp [Lib.intOf]; omega
              · skip
                go_wp2_with fail
                go_roundw
                case rel => exact ⟨j + 1, false, _, by first | rfl | (simp; done) | (simp; omega), rfl, by omega, SF.out false ⟨fun e => (by cases e), fun e => (by rcases e with e | ⟨⟨e1, e2⟩, e3, e4⟩; (cases e); (exfalso; omega))⟩, P2, T3.out⟩
                case measure => simp [Lib.intOf]; omega
            · skip
              go_wp2_with fail
              go_roundw
              case rel => exact ⟨j + 1, false, _, by first | rfl | (simp; done) | (simp; omega), rfl, by omega, SF.out false ⟨fun e => (by cases e), fun e => (by rcases e with e | ⟨⟨e1, e2⟩, e3, e4⟩; (cases e); (exfalso; omega))⟩, P2, T3.out⟩
              case measure => simp [Lib.intOf]; omega
          · go_wp2_with fail
            go_roundw
            case rel => exact ⟨j + 1, true, _, by first | rfl | (simp; done) | (simp; omega), rfl, by omega, SF.out true ⟨fun _ => Or.inl rfl, fun _ => rfl⟩, P2, T3.out⟩
            case measure => simp [Lib.intOf]; omega
        · have j1 : ¬ (j : Int) < k := by omega
          obtain rfl : k = j := by omega
          have hs' := Lib.hid (show s = true ↔ Bk.Shk u v r c h k ((i + 1) * k) by rw [Nat.succ_mul]; exact hs)
          have P' := Lib.hid (show MP ((i + 1) * k) g by rw [Nat.succ_mul]; exact P.out)
          have T' := Lib.hid (show Ta bm n g w8 wr from T)
          clear hs P T
          go_wp2_with fail
          go_roundw
          case rel => exact ⟨i + 1, s, g, rfl, rfl, by omega, hs'.out, P', T'.out⟩
          case measure => simp [Lib.intOf]; omega
    · have i1 : ¬ (i : Int) < h := by omega
      obtain rfl : h = i := by omega
      have es : s = sh := by rw [Bool.eq_iff_iff, hs, Bk.shk_end, HSH.out]
      subst es
      obtain ⟨z0, z1, z2, z3⟩ := Z8.out.but T.o zg.out
      have X9 := Lib.hid (XW.out _ T.o)
      have M9 := Lib.hid (MX.out _ T.o)
      have L9 := Lib.hid (show Ws wr wr.heap.size (some ⟨xb, xo, none⟩) (rg (Pn.pl xs) n) by rw [RE.out]; exact RX.out _ M9.out)
      have G9 := Lib.hid (fun (e : ∀ i, i < n → fm i = g i) => show Ws wr wr.heap.size (some ⟨bm, 0, none⟩) (rg g n) from T.k.ws (fun i hi => by rw [← e i hi]; exact FL.out i hi) (Nat.lt_of_lt_of_le sm8.out T.o.bel.size))
      have PP := Lib.hid P.out
      clear hs T P MX XW Z8 M8 J1 J2 MS M0 HSH
      rcases HE.out with ⟨hq, rfl, hf⟩ | ⟨hq, rfl, hf⟩
      · have hf := Lib.hid hf
        obtain ⟨rfl, rfl⟩ : s = true ∧ sm = false := by cases s <;> cases sm <;> simp at hq ⊢
        have SS := Lib.hid (SM.out _ _ hf.out A5 (some ⟨xb, xo, none⟩) c5 ca wr X9.out L9.out)
        clear hq HE hf
        go_wp2_with fail
        refine SS.out.mono ?_
        rintro e w12 ⟨rfl, d12⟩
        have C12 := Lib.hid (CW.out _ (M9.out.call d12))
        clear d12 M9 X9 L9 G9 PP CW TW UW RX TX
        go_wp2
        go_ret
        exact ⟨by simp [go_sem], C12.out⟩
      · have ef := Lib.hid (hf g PP.out)
        have SS := Lib.hid (SM.out _ _ ef.out A5 (some ⟨bm, 0, none⟩) c5 km wr X9.out (G9.out ef.out))
        have hq' : s = false ∨ s = true ∧ sm = true := by cases s <;> cases sm <;> simp at hq ⊢
        clear hq HE hf ef
        rcases hq' with rfl | ⟨rfl, rfl⟩
        · go_wp2_with fail
          refine SS.out.mono ?_
          rintro e w12 ⟨rfl, d12⟩
          have C12 := Lib.hid (CW.out _ (M9.out.call d12))
          clear d12 M9 X9 L9 G9 PP CW TW UW RX TX
          go_wp2
          go_ret
          exact ⟨by simp [go_sem], C12.out⟩
        · go_wp2_with fail
          refine SS.out.mono ?_
          rintro e w12 ⟨rfl, d12⟩
          have C12 := Lib.hid (CW.out _ (M9.out.call d12))
          clear d12 M9 X9 L9 G9 PP CW TW UW RX TX
          go_wp2
          go_ret
          exact ⟨by simp [go_sem], C12.out⟩

theorem walk (a b : Int) (A : Option Addr) (n ca : Nat) (xs : List Nat) (ta tb tr tc r c : Int) (hx : xs.length = n) (w : World) (hT : Ft.Tab w) (R : Ws w w.heap.size A xs) :
    Calls Tryd.prog 6 #[.agg #[.int .i64 a, .int .i64 b], .slice A n ca, .agg #[.int .i64 ta, .int .i64 tb, .int .i64 tr, .int .i64 tc], .int .i64 r, .int .i64 c] w fun e w' => e = .returned (.bool true) ∧ Below w.heap.size w w' := by
  by_cases h : Sh.Gd a b ∧ n ≤ 256 ∧ a * b = (n : Int)
  · obtain ⟨hg, hl, hm⟩ := h
    obtain ⟨g1, g2, g3, g4, g5⟩ := hg.bound
    obtain ⟨R', rfl⟩ := Int.eq_ofNat_of_zero_le (show 0 ≤ a by omega)
    obtain ⟨C', rfl⟩ := Int.eq_ofNat_of_zero_le (show 0 ≤ b by omega)
    have hn : R' * C' = n := by rw [← Int.natCast_mul] at hm; omega
    have h0 : 0 < n := by rw [← hn]; exact Nat.mul_pos (by omega) (by omega)
    obtain ⟨xb, xo, rfl, _, _⟩ := R.at_ 0 (by omega)
    by_cases h1 : Ins R' C' ta tb tr tc
    · by_cases h2 : Ins R' C' ta tb r c
      · obtain ⟨ht, ⟨u0, u1⟩, v0, v1⟩ := h1
        obtain ⟨_, ⟨r0, r1⟩, c0, c1⟩ := h2
        obtain ⟨t1, t2, t3, t4, t5⟩ := ht.bound
        obtain ⟨h, rfl⟩ := Int.eq_ofNat_of_zero_le (show 0 ≤ ta by omega)
        obtain ⟨k, rfl⟩ := Int.eq_ofNat_of_zero_le (show 0 ≤ tb by omega)
        obtain ⟨u, rfl⟩ := Int.eq_ofNat_of_zero_le (show 0 ≤ tr by omega)
        obtain ⟨v, rfl⟩ := Int.eq_ofNat_of_zero_le (show 0 ≤ tc by omega)
        obtain ⟨r', rfl⟩ := Int.eq_ofNat_of_zero_le (show 0 ≤ r by omega)
        obtain ⟨c', rfl⟩ := Int.eq_ofNat_of_zero_le (show 0 ≤ c by omega)
        have hlt : ∀ i, i < n → Pn.pl xs i < 18446744073709551616 := fun i hi => R.lt i (by omega)
        have low : ∀ {W W' : World} {p b cap : Nat}, Bx W p b R' C' n cap (Pn.pl xs) → Below W.heap.size W W' → Ta b n (Pn.pl xs) W W' := fun B d => ⟨(B.below d).k, But.of_below d (Nat.le_of_lt B.s)⟩
        by_cases e : u = r' ∧ v = c'
        · obtain ⟨rfl, rfl⟩ := e
          exact walk_both R' C' n ca xb xo xs h k u v u v ht (by omega) (by omega) (by omega) (by omega) true true (by simp only [true_iff]; exact ⟨⟨by omega, by omega⟩, by omega, by omega⟩) (by simp) 0 (Pn.pl xs) (fun _ g => g = Pn.pl xs)
            (Or.inr ⟨rfl, rfl, fun g hg i hi => by rw [hg]⟩) hlt (fun W p b cap B T => (swap_one B h k u v ht (by omega) (by omega) T).mono fun e w' ⟨h1, h2⟩ => ⟨h1, low B h2⟩) rfl
            (fun i j g x y hi hj hx hy hg => by
              subst hg
              rw [hx, hy]
              funext z
              unfold upd
              by_cases hz : z = Bk.pt C' u v k (i * k + j)
              · rw [if_pos hz, hz]
              · rw [if_neg hz, if_neg hz]) hx hg hn hl w hT R
        · by_cases s : Bk.Sh u v r' c' h k
          · exact walk_both R' C' n ca xb xo xs h k u v r' c' ht (by omega) (by omega) (by omega) (by omega) true false (by simp [s]) (by simp [e]) 19 (Pn.pl xs) (fun _ _ => True)
              (Or.inl ⟨rfl, rfl, fun _ _ => rfl⟩) hlt (fun W p b cap B T => (swap_meet B h k u v r' c' ht (by omega) (by omega) (by omega) (by omega) e s T).mono fun e w' ⟨h1, h2⟩ => ⟨h1, low B h2⟩) trivial
              (fun _ _ _ _ _ _ _ _ _ _ => trivial) hx hg hn hl w hT R
          · have ap := Bk.apart (q := C') s
            exact walk_both R' C' n ca xb xo xs h k u v r' c' ht (by omega) (by omega) (by omega) (by omega) false false (by simp [s]) (by simp [e]) 0 (Bk.sw C' u v r' c' h k (Pn.pl xs)) (fun m g => g = Bk.swk C' u v r' c' h k (Pn.pl xs) m)
              (Or.inr ⟨rfl, rfl, fun g hg i hi => by rw [hg, Bk.sw_end]⟩) (by rw [← Bk.sw_end]; exact swk_lt hn (by omega) (by omega) (by omega) (by omega) hlt) (fun W p b cap B T => swap_in B h k u v r' c' ht (by omega) (by omega) (by omega) (by omega) e s T) Bk.sw_zero.symm
              (fun i j g x y hi hj hx hy hg => by
                subst hg
                rw [hx, hy]
                exact Bk.sw_step (by omega) (by omega) (Bk.lt_of hi hj) ap) hx hg hn hl w hT R
      · exact walk_out2 R' C' n ca xb xo xs ta tb tr tc r c h1 h2 hx hg hn hl w hT R
    · exact walk_out1 R' C' n ca xb xo xs ta tb tr tc r c h1 hx hg hn hl w hT R
  · exact walk_none a b A n ca xs ta tb tr tc r c h w hT R

theorem g32 : Tryd.prog.globalNamed "math/bits.deBruijn32tab" = some 0 := by kernel_rfl
theorem g64 : Tryd.prog.globalNamed "math/bits.deBruijn64tab" = some 1 := by kernel_rfl
theorem t64 : (Tryd.prog.globals[1]?).map (·.type) = some 82 := by kernel_rfl
/-- What the row's condition gives the walk: the table's cells. -/
theorem of_laid {W : World} (h : laidMetH Tryd.prog Rows.blockSwapsRow.laid W) : Ft.Tab W := by
  rw [MakeChecks.laidMetH_plain _ _ _ (by kernel_rfl)] at h
  obtain ⟨ps, ⟨g0, t0, cs0, f0, p0, q0, hg0, ht0, hv0, hd0, ⟨g1, t1, cs1, f1, p1, q1, hg1, ht1, hv1, hd1, _, _⟩, _⟩, _, _⟩ := h
  obtain rfl := Option.some.inj (g64.symm.trans hg1)
  obtain rfl := Option.some.inj (t64.symm.trans ht1)
  have hd2 : DataW.trod _ Tryd.prog W 0 _ false f1 82 cs1.toList = some (Lib.tabData .u8 (Lib.deBruijn64tab.map Int.ofNat), p1) := hd1
  have hc := Lib.cells_of_tab Tryd.underlying82 Tryd.underlying5 (by kernel_rfl) (by kernel_rfl) hd2
  intro i hi
  have c := World.var?_cell hg1 hv1 i
  rw [c, ← Array.getElem?_toList, hc]
  have hl : Lib.deBruijn64tab.length = 64 := by decide
  simp [List.getD, hl, hi]

/-- The door's own heap meets the condition. -/
theorem door_met (os : Os) (args : Array Value) : laidMetH Tryd.prog Rows.blockSwapsRow.laid ((World.doorLaid Tryd.prog 400 os).forCall (fun _ _ => 0) ⟨#[], args, []⟩).memory :=
  laidMetH_of_parts3 (fuel := 8) (laidMet_of_run' 8 (by kernel_rfl) (by kernel_rfl)) (by kernel_rfl) (by kernel_rfl)
set_option maxRecDepth 100000 in
theorem lifted (os : Os) (started : os.Started) (H : Type) (enc : TypeId × Value → H) :
    ReturnsInHanded {} Tryd.checked os 6 .any (fun w args => (Rows.blockSwapsSpec.pre enc Tryd.prog Tryd.f6 [] false w args ∧ laidMetH Tryd.prog Rows.blockSwapsRow.laid w) ∧ sizedMet enc Tryd.prog Tryd.f6 (OpenSpec.ofChange Rows.blockSwapsSpec) false w args)
      (Rows.blockSwapsSpec.post enc Tryd.prog Tryd.f6 false true false false) := by
  refine returnsInHanded_of_change_and (C := Tryd.checked) (X := fun w _ => laidMetH Tryd.prog Rows.blockSwapsRow.laid w) (fun _ _ _ hh h => h.of_heap hh) Fr.own started (by kernel_rfl) Tryd.func6
    (ChangeSpec.witness_shaped (enc := enc) (C := Tryd.checked) (os := os) (X := fun w _ => laidMetH Tryd.prog Rows.blockSwapsRow.laid w) false (World.doorLaid Tryd.prog 400 os) #[.agg #[.int .i64 0, .int .i64 0], .slice none 0 0, .agg #[.int .i64 0, .int .i64 0, .int .i64 0, .int .i64 0], .int .i64 0, .int .i64 0] 8 rfl (World.shaped_of_RefB (by kernel_rfl) (by kernel_rfl)) (by kernel_rfl) (by kernel_rfl) (by kernel_rfl) (door_met os _)) ?_
  intro W base args ds gs before hval0 hW _ _ hL _
  have hval : ∀ (j : Nat) t v, Tryd.f6.params[j]? = some t → args[j]? = some v → Value.okWide Tryd.prog W .any base t v := hval0
  have hW' := hW
  obtain ⟨p, q, hA0, hV, rfl, hfz, hnd⟩ := hW
  have hA : DataW.TrodAll enc Tryd.prog W 0 (fun _ => true) true Tryd.f6.params.toList args.toList ds p := hA0
  obtain ⟨rfl, rfl⟩ := trodVars_none hV
  rw [Tryd.params6] at hA hval
  obtain ⟨v0, vs0, d0, ds0, p0, q0, hargs, rfl, rfl, h0, r0⟩ := trodAll_cons hA
  obtain ⟨v1, vs1, d1, ds1, p1, q1, rfl, rfl, rfl, h1, r1⟩ := trodAll_cons r0
  obtain ⟨v2, vs2, d2, ds2, p2, q2, rfl, rfl, rfl, h2, r2⟩ := trodAll_cons r1
  obtain ⟨v3, vs3, d3, ds3, p3, q3, rfl, rfl, rfl, h3, r3⟩ := trodAll_cons r2
  obtain ⟨v4, vs4, d4, ds4, p4, q4, rfl, rfl, rfl, h4, r4⟩ := trodAll_cons r3
  obtain ⟨rfl, rfl, rfl⟩ := trodAll_nil r4
  obtain rfl : args = #[v0, v1, v2, v3, v4] := by cases args; simp_all
  obtain ⟨a0, b0, rfl, rfl⟩ := Vw.open_shape (hval 0 23 v0 rfl rfl) h0
  obtain ⟨A1, n1, c1, rfl⟩ := okWide_slice Tryd.underlying24 (hval 1 24 v1 rfl rfl)
  obtain ⟨fuel1, hf1⟩ := h1
  obtain ⟨xs1, rfl, lc1, lm1, R1⟩ := Ww.open_words hf1
  obtain ⟨a2, b2, r2', c2', rfl, rfl, rb2, cb2⟩ := Td.open_tile (hval 2 45 v2 rfl rfl) h2
  obtain ⟨x3, rfl, rfl, rfl, w3⟩ := open_int Tryd.underlying3 (hval 3 3 v3 rfl rfl) h3
  have b3 : -9223372036854775808 ≤ x3 ∧ x3 ≤ 9223372036854775807 := by simpa [Lit.wf, IntKind.min, IntKind.max, IntKind.signed, IntKind.bits] using w3
  obtain ⟨x4, rfl, rfl, rfl, w4⟩ := open_int Tryd.underlying3 (hval 4 3 v4 rfl rfl) h4
  have b4 : -9223372036854775808 ≤ x4 ∧ x4 ≤ 9223372036854775807 := by simpa [Lit.wf, IntKind.min, IntKind.max, IntKind.signed, IntKind.bits] using w4
  simp only [List.append_nil] at hW' hA0
  refine (walk a0 b0 A1 xs1.length c1 xs1 a2 b2 r2' c2' x3 x4 rfl W (of_laid hL) R1).mono fun e W' ⟨he, hb⟩ => ?_
  subst he
  exact ⟨_, rfl, Fr.law_post (tb := 4) hW' hA0 rfl rfl rfl Tryd.underlying4 (by rw [Tryd.params6]; intro t ht; simp at ht; rcases ht with rfl | rfl | rfl | rfl | rfl; all_goals exact ⟨by kernel_rfl, of_decide_eq_true (by kernel_rfl)⟩) hb⟩

theorem row_holds : Rows.BlockSwapsSaid :=
  OpenClaim.holds_of_wide 6 Tryd.f6 rfl rfl rfl rfl rfl rfl rfl ⟨rfl, rfl, rfl, rfl, rfl⟩ rfl rfl rfl rfl rfl (by kernel_rfl) Tryd.func6 (by kernel_rfl)
    (of_decide_eq_true (by kernel_rfl)) (by unfold Func.isWrapper; first | (rw [if_pos (by decide +kernel)]; kernel_rfl) | (rw [if_neg (by decide +kernel)]; exact ⟨rfl, rfl⟩))
    (fun os started H enc _ => lifted os started H enc)

theorem proved : Rows.BlockSwapsCardSaid :=
  Claim7.holds_tied_plain_at .later [] [.data, .data] true Rows.blockSwapsCard.stood.harness false
    row_holds (fun _ h => by cases h) (by kernel_rfl) (fun _ h => by cases h) blockSwaps_row_tie rfl ⟨rfl, rfl⟩ (by kernel_rfl) rfl
    (fun f fn hf hfn => by
      obtain rfl : f = 6 := Option.some.inj ((show Tryd.prog.funcNamed "abacist/abacistlaw12.BlockSwaps" = some 6 by kernel_rfl).symm.trans hf) |>.symm
      obtain rfl : fn = Tryd.f6 := (Option.some.inj (Tryd.func6.symm.trans hfn)).symm
      exact ⟨by kernel_rfl, fun j t ht => by
        rw [Tryd.params6] at ht
        have hm : t ∈ [23, 24, 45, 3] := by simpa using Array.mem_of_getElem? ht
        have hall : ([23, 24, 45, 3].all fun u => !Tryd.prog.wantsStandIn u) = true := by kernel_rfl
        exact (show Tryd.prog.wantsStandIn t = false by simpa using List.all_eq_true.1 hall t hm)⟩)
    (by kernel_rfl)
end Go.Proofs.YtobpjlgiefnmjaaDoor.blockSwaps
