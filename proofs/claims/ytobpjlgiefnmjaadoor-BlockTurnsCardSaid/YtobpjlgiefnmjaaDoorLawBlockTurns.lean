/- BlockTurns: of every shape, row of words and two sides the law of a block that is turned answers true, and changes nothing, where the library's two tables are as their initialisers lay them (the card ties them to the program's text). -/
import Derived.Test.YtobpjlgiefnmjaaDoorFrame
import Derived.Test.YtobpjlgiefnmjaaDoorTileA
import Derived.Test.YtobpjlgiefnmjaaDoorViewO
import Derived.Test.YtobpjlgiefnmjaaDoorBlockF
import Derived.Test.YtobpjlgiefnmjaaDoorTie
import Derived.Test.YtobpjlgiefnmjaaDoorCards
import Derived.Lib.LaidTab
import Derived.LaidMore
import Derived.Stop.Joined
import Derived.SevenTiedAt
set_option linter.unusedVariables false
namespace Go.Proofs.YtobpjlgiefnmjaaDoor.blockTurns
open Go.ChangeShapes Go.WideShapes Go.ChangeAt Go.RowKit
open Bl Ww Pl

set_option maxHeartbeats 1000000 in
set_option maxRecDepth 100000 in
theorem walk_long (a b : Int) (A : Option Addr) (n ca : Nat) (xs : List Nat) (d d2 : Int) (hl : 256 < n) (w : World) (hT : Ft.Tab w) (R : Ws w w.heap.size A xs) :
    Calls Tryd.prog 3 #[.agg #[.int .i64 a, .int .i64 b], .slice A n ca, .int .i64 d, .int .i64 d2] w fun e w' => e = .returned (.bool true) ∧ Below w.heap.size w w' := by
  have h1' : 256 < (n : Int) := by omega
  go_enter Tryd.func3, Tryd.ntmps3
  go_upto_region 1 with fail
  have V0 := Sh.Tw.fresh w a b 23
  have b0 := below_alloc w (.cells #[.int .i64 a, .int .i64 b] 23)
  generalize w.alloc (.cells #[.int .i64 a, .int .i64 b] 23) = w0 at *
  go_wp2_with fail
  refine (awake _ (hT.below b0)).mono ?_
  rintro e w1 ⟨rfl, h1⟩
  have V1 := Lib.hid (V0.below h1)
  have c1 := Lib.hid (b0.trans (h1.mono b0.size))
  have R1 := Lib.hid (R.step c1.out)
  have T1 := Lib.hid (hT.below c1.out)
  generalize w.heap.size = vb at V1
  have M1 := Lib.hid (Kd.refl w1)
  have TW := Lib.hid (fun W (h : Kd w1 W) => h.tw V1.out)
  have RX := Lib.hid (fun W (h : Kd w1 W) => R1.out.step h.d)
  have TX := Lib.hid (fun W (h : Kd w1 W) => show Ft.Tab W from T1.out.below h.d)
  have CW := Lib.hid (fun W (h : Kd w1 W) => c1.out.trans (h.d.mono c1.out.size))
  clear V0 b0 h1 V1 R1 T1 c1 hT R
  have C1 := Lib.hid (CW.out _ M1.out)
  clear M1 CW
  go_wp2
  go_ret
  exact ⟨by simp [go_sem], C1.out⟩

set_option maxHeartbeats 1000000 in
set_option maxRecDepth 100000 in
theorem walk_odd (a b m : Int) (A : Option Addr) (n ca : Nat) (xs : List Nat) (d d2 : Int) (g : Bool) (hl : n ≤ 256) (hm : g = true → IntKind.i64.wrap (a * b) = m) (h : g = false ∨ (n : Int) ≠ m) (ho : ¬ (Sh.Gd a b ∧ a * b = (n : Int))) (w : World)
    (hR : ∀ W, Calls Tryd.prog 10 #[.agg #[.int .i64 a, .int .i64 b]] W fun e w' => e = .returned (.bool g) ∧ Below W.heap.size W w') (hT : Ft.Tab w) (R : Ws w w.heap.size A xs) :
    Calls Tryd.prog 3 #[.agg #[.int .i64 a, .int .i64 b], .slice A n ca, .int .i64 d, .int .i64 d2] w fun e w' => e = .returned (.bool true) ∧ Below w.heap.size w w' := by
  have h1' : ¬ 256 < (n : Int) := by omega
  have OF := Lib.hid (fun W T => of_odd A n ca a b (Or.inl ho) W T)
  have RG := Lib.hid hR
  have HM := Lib.hid hm
  have HH := Lib.hid h
  clear hR hm h ho
  go_enter Tryd.func3, Tryd.ntmps3
  go_upto_region 1 with fail
  have V0 := Sh.Tw.fresh w a b 23
  have b0 := below_alloc w (.cells #[.int .i64 a, .int .i64 b] 23)
  generalize w.alloc (.cells #[.int .i64 a, .int .i64 b] 23) = w0 at *
  go_wp2_with fail
  refine (awake _ (hT.below b0)).mono ?_
  rintro e w1 ⟨rfl, h1⟩
  have V1 := Lib.hid (V0.below h1)
  have c1 := Lib.hid (b0.trans (h1.mono b0.size))
  have R1 := Lib.hid (R.step c1.out)
  have T1 := Lib.hid (hT.below c1.out)
  generalize w.heap.size = vb at V1
  have M1 := Lib.hid (Kd.refl w1)
  have TW := Lib.hid (fun W (h : Kd w1 W) => h.tw V1.out)
  have RX := Lib.hid (fun W (h : Kd w1 W) => R1.out.step h.d)
  have TX := Lib.hid (fun W (h : Kd w1 W) => show Ft.Tab W from T1.out.below h.d)
  have CW := Lib.hid (fun W (h : Kd w1 W) => c1.out.trans (h.d.mono c1.out.size))
  clear V0 b0 h1 V1 R1 T1 c1 hT R
  obtain ⟨t0, t1⟩ := TW.out _ M1.out
  go_wp2_with fail
  refine (OF.out _ (TX.out _ M1.out)).mono ?_
  rintro e w2 ⟨rfl, d2⟩
  have M2 := Lib.hid (M1.out.call d2)
  clear t0 t1 d2 M1
  obtain ⟨t0, t1⟩ := TW.out _ M2.out
  go_wp2_with fail
  refine (RG.out _).mono ?_
  rintro e w3 ⟨rfl, d3⟩
  have M3 := Lib.hid (M2.out.call d3)
  clear t0 t1 d3 M2
  obtain ⟨t0, t1⟩ := TW.out _ M3.out
  have C3 := Lib.hid (CW.out _ M3.out)
  clear M3 CW TW RX TX OF RG
  cases g
  · go_wp2
    go_ret
    exact ⟨by simp [go_sem], C3.out⟩
  · have q1 := HM.out rfl
    have q2 : (m != (n : Int)) = true := by
      have := HH.out.resolve_left (by decide)
      simp; exact fun e => this e.symm
    go_wp2
    go_ret
    exact ⟨by simp [go_sem], C3.out⟩

set_option maxHeartbeats 1000000 in
set_option maxRecDepth 100000 in
theorem walk_bad (R C n ca xb xo : Nat) (xs : List Nat) (d d2 : Int) (hd : d < 1) (hx : xs.length = n) (hg : Sh.Gd (R : Int) (C : Int)) (hn : R * C = n) (hl : n ≤ 256) (w : World) (hT : Ft.Tab w) (X : Ws w w.heap.size (some ⟨xb, xo, none⟩) xs) :
    Calls Tryd.prog 3 #[.agg #[.int .i64 (R : Int), .int .i64 (C : Int)], .slice (some ⟨xb, xo, none⟩) n ca, .int .i64 d, .int .i64 d2] w fun e w' => e = .returned (.bool true) ∧ Below w.heap.size w w' := by
  have h1' : ¬ 256 < (n : Int) := by omega
  have OF := Lib.hid (fun W T X => of_ok ⟨xb, xo, none⟩ ca R C n xs hx hg hn (by omega) W T X)
  have RG := Lib.hid (fun W => Sh.ref (R : Int) (C : Int) true (by simp [hg]) W)
  have q1 : IntKind.i64.wrap ((R : Int) * (C : Int)) = (n : Int) := by rw [← hn, ← Int.natCast_mul]; exact IntWalk.i64_in _ (by omega)
  have RE := Lib.hid (show rg (Pn.pl xs) n = xs from rg_pl hx)
  have WD := Lib.hid (fun W p b R C cap (f : Nat → Nat) (B : Bx W p b R C n cap f) => words B)
  have SP := Lib.hid (fun W p b R C cap (f : Nat → Nat) (B : Bx W p b R C n cap f) => Bl.shape B.c)
  have SM := Lib.hid (fun (f : Nat → Nat) (A B : Option Addr) ca cb W Ra Rb => same_rg (n := n) (f := f) (g := f) (fun _ _ => rfl) (by omega) A B ca cb W Ra Rb)
  have TB := Lib.hid (fun p W => turn_bad p d hd W)
  clear hg hn hx
  go_enter Tryd.func3, Tryd.ntmps3
  go_upto_region 1 with fail
  have V0 := Sh.Tw.fresh w (R : Int) (C : Int) 23
  have b0 := below_alloc w (.cells #[.int .i64 (R : Int), .int .i64 (C : Int)] 23)
  generalize w.alloc (.cells #[.int .i64 (R : Int), .int .i64 (C : Int)] 23) = w0 at *
  go_wp2_with fail
  refine (awake _ (hT.below b0)).mono ?_
  rintro e w1 ⟨rfl, h1⟩
  have V1 := Lib.hid (V0.below h1)
  have c1 := Lib.hid (b0.trans (h1.mono b0.size))
  have R1 := Lib.hid (X.step c1.out)
  have T1 := Lib.hid (hT.below c1.out)
  generalize w.heap.size = vb at V1
  have M1 := Lib.hid (Kd.refl w1)
  have TW := Lib.hid (fun W (h : Kd w1 W) => h.tw V1.out)
  have RX := Lib.hid (fun W (h : Kd w1 W) => R1.out.step h.d)
  have TX := Lib.hid (fun W (h : Kd w1 W) => show Ft.Tab W from T1.out.below h.d)
  have CW := Lib.hid (fun W (h : Kd w1 W) => c1.out.trans (h.d.mono c1.out.size))
  clear V0 b0 h1 V1 R1 T1 c1 hT X
  have RX := Lib.hid (fun W (h : Kd w1 W) => show Ws W W.heap.size (some ⟨xb, xo, none⟩) (rg (Pn.pl xs) n) by rw [RE.out]; exact RX.out _ h)
  obtain ⟨t0, t1⟩ := TW.out _ M1.out
  go_wp2_with fail
  refine (OF.out _ (TX.out _ M1.out) (by rw [← RE.out]; exact RX.out _ M1.out)).mono ?_
  rintro e w2 ⟨v2, rfl, p, b, cap, rfl, B2, hp, hb, d2'⟩
  have M2 := Lib.hid (M1.out.call d2')
  have B2 := Lib.hid B2
  have hp := Lib.hid hp
  clear t0 t1 d2' M1 OF hb
  obtain ⟨t0, t1⟩ := TW.out _ M2.out
  go_wp2_with fail
  refine (RG.out _).mono ?_
  rintro e w3 ⟨rfl, d3⟩
  have M3 := Lib.hid (M2.out.call d3)
  have B3 := Lib.hid (B2.out.below d3)
  clear t0 t1 d3 M2 B2 RG
  obtain ⟨t0, t1⟩ := TW.out _ M3.out
  have M := Kd.refl w3
  have PX := Lib.hid (fun W (h : Kd w3 W) => show W.cell? ⟨vb, 0, none⟩ = some (.int .i64 (R : Int)) ∧ W.cell? ⟨vb, 1, none⟩ = some (.int .i64 (C : Int)) ∧ Kd w3 W from
    ⟨(TW.out _ (M3.out.trans h)).1, (TW.out _ (M3.out.trans h)).2, h⟩)
  have SB := Lib.hid (fun W (h : Kd w3 W) => SP.out _ _ _ _ _ _ _ (B3.out.below h.d))
  have WB := Lib.hid (fun W (h : Kd w3 W) => WD.out _ _ _ _ _ _ _ (B3.out.below h.d))
  have RW := Lib.hid (fun W (h : Kd w3 W) => RX.out _ (M3.out.trans h))
  go_upto_region 8 with fail
  go_cut [60] (fun v60 wx => v60 = .bool false ∧ Kd w3 wx)
  case first =>
    go_region_held3 (fun w' => w'.cell? ⟨vb, 0, none⟩ = some (.int .i64 (R : Int)) ∧ w'.cell? ⟨vb, 1, none⟩ = some (.int .i64 (C : Int)) ∧ Kd w3 w')
      (exact PX.out _ (by repeat (first | with_reducible exact M | with_reducible refine Kd.drew ?_ | with_reducible refine Kd.alloc ?_ _ | with_reducible refine Kd.call ?_ h8 | with_reducible refine Kd.call ?_ h9 | with_reducible refine Kd.call ?_ h10 | with_reducible refine Kd.call ?_ h11)))
      (first
        | (go_at_call 11; (with_reducible refine (SB.out _ (by repeat (first | with_reducible exact M | with_reducible refine Kd.drew ?_ | with_reducible refine Kd.alloc ?_ _ | with_reducible refine Kd.call ?_ h8 | with_reducible refine Kd.call ?_ h9 | with_reducible refine Kd.call ?_ h10 | with_reducible refine Kd.call ?_ h11))).mono ?_); rintro e w8 ⟨rfl, h8⟩)
        | (go_at_call 13; (with_reducible refine (WB.out _ (by repeat (first | with_reducible exact M | with_reducible refine Kd.drew ?_ | with_reducible refine Kd.alloc ?_ _ | with_reducible refine Kd.call ?_ h8 | with_reducible refine Kd.call ?_ h9 | with_reducible refine Kd.call ?_ h10 | with_reducible refine Kd.call ?_ h11))).mono ?_); rintro e w9 ⟨A9, c9, rfl, X9, h9⟩)
        | (go_at_call 12; (with_reducible refine (SM.out _ _ _ _ _ _ X9 (RW.out _ (by repeat (first | with_reducible exact M | with_reducible refine Kd.drew ?_ | with_reducible refine Kd.alloc ?_ _ | with_reducible refine Kd.call ?_ h8 | with_reducible refine Kd.call ?_ h9 | with_reducible refine Kd.call ?_ h10 | with_reducible refine Kd.call ?_ h11)))).mono ?_); rintro e w10 ⟨rfl, h10⟩))
    all_goals (go_wp2_with fail; go_meet)
    all_goals exact ⟨by first | rfl | simp, by repeat (first | with_reducible exact M | with_reducible refine Kd.drew ?_ | with_reducible refine Kd.alloc ?_ _ | with_reducible refine Kd.call ?_ h8 | with_reducible refine Kd.call ?_ h9 | with_reducible refine Kd.call ?_ h10 | with_reducible refine Kd.call ?_ h11)⟩
  case rest =>
    obtain ⟨rfl, hcut⟩ := hcut
    clear M PX SB WB RW t0 t1
    generalize wc = w4 at *
    have M4 := Lib.hid (M3.out.trans hcut)
    have B4 := Lib.hid (B3.out.below hcut.d)
    clear hcut M3 B3
    obtain ⟨t0, t1⟩ := TW.out _ M4.out
    go_wp2_with fail
    refine (TB.out _ _).mono ?_
    rintro e w' ⟨rfl, rfl⟩
    have M := Kd.refl w4
    have PX := Lib.hid (fun W (h : Kd w4 W) => show W.cell? ⟨vb, 0, none⟩ = some (.int .i64 (R : Int)) ∧ W.cell? ⟨vb, 1, none⟩ = some (.int .i64 (C : Int)) ∧ Kd w4 W from
      ⟨(TW.out _ (M4.out.trans h)).1, (TW.out _ (M4.out.trans h)).2, h⟩)
    have SB := Lib.hid (fun W (h : Kd w4 W) => SP.out _ _ _ _ _ _ _ (B4.out.below h.d))
    have WB := Lib.hid (fun W (h : Kd w4 W) => WD.out _ _ _ _ _ _ _ (B4.out.below h.d))
    have RW := Lib.hid (fun W (h : Kd w4 W) => RX.out _ (M4.out.trans h))
    go_upto_region 12 with fail
    go_cut [8] (fun v8 wx => v8 = .bool true ∧ Kd w4 wx)
    case first =>
      go_region_held3 (fun w' => w'.cell? ⟨vb, 0, none⟩ = some (.int .i64 (R : Int)) ∧ w'.cell? ⟨vb, 1, none⟩ = some (.int .i64 (C : Int)) ∧ Kd w4 w')
        (exact PX.out _ (by repeat (first | with_reducible exact M | with_reducible refine Kd.drew ?_ | with_reducible refine Kd.alloc ?_ _ | with_reducible refine Kd.call ?_ h8 | with_reducible refine Kd.call ?_ h9 | with_reducible refine Kd.call ?_ h10 | with_reducible refine Kd.call ?_ h11)))
        (first
          | (go_at_call 11; (with_reducible refine (SB.out _ (by repeat (first | with_reducible exact M | with_reducible refine Kd.drew ?_ | with_reducible refine Kd.alloc ?_ _ | with_reducible refine Kd.call ?_ h8 | with_reducible refine Kd.call ?_ h9 | with_reducible refine Kd.call ?_ h10 | with_reducible refine Kd.call ?_ h11))).mono ?_); rintro e w8 ⟨rfl, h8⟩)
          | (go_at_call 13; (with_reducible refine (WB.out _ (by repeat (first | with_reducible exact M | with_reducible refine Kd.drew ?_ | with_reducible refine Kd.alloc ?_ _ | with_reducible refine Kd.call ?_ h8 | with_reducible refine Kd.call ?_ h9 | with_reducible refine Kd.call ?_ h10 | with_reducible refine Kd.call ?_ h11))).mono ?_); rintro e w9 ⟨A9, c9, rfl, X9, h9⟩)
          | (go_at_call 12; (with_reducible refine (SM.out _ _ _ _ _ _ X9 (RW.out _ (by repeat (first | with_reducible exact M | with_reducible refine Kd.drew ?_ | with_reducible refine Kd.alloc ?_ _ | with_reducible refine Kd.call ?_ h8 | with_reducible refine Kd.call ?_ h9 | with_reducible refine Kd.call ?_ h10 | with_reducible refine Kd.call ?_ h11)))).mono ?_); rintro e w10 ⟨rfl, h10⟩))
      all_goals (go_wp2_with fail; go_meet)
      all_goals exact ⟨by first | rfl | simp, by repeat (first | with_reducible exact M | with_reducible refine Kd.drew ?_ | with_reducible refine Kd.alloc ?_ _ | with_reducible refine Kd.call ?_ h8 | with_reducible refine Kd.call ?_ h9 | with_reducible refine Kd.call ?_ h10 | with_reducible refine Kd.call ?_ h11)⟩
    case rest =>
      obtain ⟨rfl, hcut⟩ := hcut
      clear M PX SB WB RW t0 t1
      generalize wc = w5 at *
      have M5 := Lib.hid (M4.out.trans hcut)
      have C5 := Lib.hid (CW.out _ M5.out)
      clear hcut M4 M5 B4 CW TW RX TX
      go_wp2
      go_ret
      exact ⟨rfl, C5.out⟩

set_option maxHeartbeats 1000000 in
set_option maxRecDepth 100000 in
theorem walk_one (R C n ca xb xo : Nat) (xs : List Nat) (d : Nat) (d2 : Int) (hd : 1 ≤ d) (hd1 : d ≤ 9223372036854775807) (h2 : d2 < 1) (hx : xs.length = n) (hg : Sh.Gd (R : Int) (C : Int)) (hn : R * C = n) (hl : n ≤ 256) (w : World) (hT : Ft.Tab w) (X : Ws w w.heap.size (some ⟨xb, xo, none⟩) xs) :
    Calls Tryd.prog 3 #[.agg #[.int .i64 (R : Int), .int .i64 (C : Int)], .slice (some ⟨xb, xo, none⟩) n ca, .int .i64 (d : Int), .int .i64 d2] w fun e w' => e = .returned (.bool true) ∧ Below w.heap.size w w' := by
  have h1' : ¬ 256 < (n : Int) := by omega
  have OF := Lib.hid (fun W T X => of_ok ⟨xb, xo, none⟩ ca R C n xs hx hg hn (by omega) W T X)
  have RG := Lib.hid (fun W => Sh.ref (R : Int) (C : Int) true (by simp [hg]) W)
  have q1 : IntKind.i64.wrap ((R : Int) * (C : Int)) = (n : Int) := by rw [← hn, ← Int.natCast_mul]; exact IntWalk.i64_in _ (by omega)
  have RE := Lib.hid (show rg (Pn.pl xs) n = xs from rg_pl hx)
  have WD := Lib.hid (fun W p b R C cap (f : Nat → Nat) (B : Bx W p b R C n cap f) => words B)
  have SP := Lib.hid (fun W p b R C cap (f : Nat → Nat) (B : Bx W p b R C n cap f) => Bl.shape B.c)
  have SM := Lib.hid (fun (f : Nat → Nat) (A B : Option Addr) ca cb W Ra Rb => same_rg (n := n) (f := f) (g := f) (fun _ _ => rfl) (by omega) A B ca cb W Ra Rb)
  have X0 := Lib.hid X
  have RT := Lib.hid (fun W X => rtranspose ⟨xb, xo, none⟩ n ca R C (Pn.pl xs) hn (by rw [← hn]; obtain ⟨g1, _, g3, _, _⟩ := hg.bound; exact Nat.mul_pos (by omega) (by omega)) (by omega) (fun i hi => X0.out.lt i (by omega)) W X)
  have TU := Lib.hid (fun W p b cap (B : Bx W p b R C n cap (Pn.pl xs)) => turn B d (by omega) (by omega))
  have n1 : ¬ (d : Int) < 1 := by omega
  clear hg hn hx X0
  go_enter Tryd.func3, Tryd.ntmps3
  go_upto_region 1 with fail
  have V0 := Sh.Tw.fresh w (R : Int) (C : Int) 23
  have b0 := below_alloc w (.cells #[.int .i64 (R : Int), .int .i64 (C : Int)] 23)
  generalize w.alloc (.cells #[.int .i64 (R : Int), .int .i64 (C : Int)] 23) = w0 at *
  go_wp2_with fail
  refine (awake _ (hT.below b0)).mono ?_
  rintro e w1 ⟨rfl, h1⟩
  have V1 := Lib.hid (V0.below h1)
  have c1 := Lib.hid (b0.trans (h1.mono b0.size))
  have R1 := Lib.hid (X.step c1.out)
  have T1 := Lib.hid (hT.below c1.out)
  generalize w.heap.size = vb at V1
  have M1 := Lib.hid (Kd.refl w1)
  have TW := Lib.hid (fun W (h : Kd w1 W) => h.tw V1.out)
  have RX := Lib.hid (fun W (h : Kd w1 W) => R1.out.step h.d)
  have TX := Lib.hid (fun W (h : Kd w1 W) => show Ft.Tab W from T1.out.below h.d)
  have CW := Lib.hid (fun W (h : Kd w1 W) => c1.out.trans (h.d.mono c1.out.size))
  clear V0 b0 h1 V1 R1 T1 c1 hT X
  have RX := Lib.hid (fun W (h : Kd w1 W) => show Ws W W.heap.size (some ⟨xb, xo, none⟩) (rg (Pn.pl xs) n) by rw [RE.out]; exact RX.out _ h)
  obtain ⟨t0, t1⟩ := TW.out _ M1.out
  go_wp2_with fail
  refine (OF.out _ (TX.out _ M1.out) (by rw [← RE.out]; exact RX.out _ M1.out)).mono ?_
  rintro e w2 ⟨v2, rfl, p, b, cap, rfl, B2, hp, hb, d2'⟩
  have M2 := Lib.hid (M1.out.call d2')
  have B2 := Lib.hid B2
  have hp := Lib.hid hp
  clear t0 t1 d2' M1 OF hb
  obtain ⟨t0, t1⟩ := TW.out _ M2.out
  go_wp2_with fail
  refine (RG.out _).mono ?_
  rintro e w3 ⟨rfl, d3⟩
  have M3 := Lib.hid (M2.out.call d3)
  have B3 := Lib.hid (B2.out.below d3)
  clear t0 t1 d3 M2 B2 RG
  obtain ⟨t0, t1⟩ := TW.out _ M3.out
  have M := Kd.refl w3
  have PX := Lib.hid (fun W (h : Kd w3 W) => show W.cell? ⟨vb, 0, none⟩ = some (.int .i64 (R : Int)) ∧ W.cell? ⟨vb, 1, none⟩ = some (.int .i64 (C : Int)) ∧ Kd w3 W from
    ⟨(TW.out _ (M3.out.trans h)).1, (TW.out _ (M3.out.trans h)).2, h⟩)
  have SB := Lib.hid (fun W (h : Kd w3 W) => SP.out _ _ _ _ _ _ _ (B3.out.below h.d))
  have WB := Lib.hid (fun W (h : Kd w3 W) => WD.out _ _ _ _ _ _ _ (B3.out.below h.d))
  have RW := Lib.hid (fun W (h : Kd w3 W) => RX.out _ (M3.out.trans h))
  go_upto_region 8 with fail
  go_cut [60] (fun v60 wx => v60 = .bool false ∧ Kd w3 wx)
  case first =>
    go_region_held3 (fun w' => w'.cell? ⟨vb, 0, none⟩ = some (.int .i64 (R : Int)) ∧ w'.cell? ⟨vb, 1, none⟩ = some (.int .i64 (C : Int)) ∧ Kd w3 w')
      (exact PX.out _ (by repeat (first | with_reducible exact M | with_reducible refine Kd.drew ?_ | with_reducible refine Kd.alloc ?_ _ | with_reducible refine Kd.call ?_ h8 | with_reducible refine Kd.call ?_ h9 | with_reducible refine Kd.call ?_ h10 | with_reducible refine Kd.call ?_ h11)))
      (first
        | (go_at_call 11; (with_reducible refine (SB.out _ (by repeat (first | with_reducible exact M | with_reducible refine Kd.drew ?_ | with_reducible refine Kd.alloc ?_ _ | with_reducible refine Kd.call ?_ h8 | with_reducible refine Kd.call ?_ h9 | with_reducible refine Kd.call ?_ h10 | with_reducible refine Kd.call ?_ h11))).mono ?_); rintro e w8 ⟨rfl, h8⟩)
        | (go_at_call 13; (with_reducible refine (WB.out _ (by repeat (first | with_reducible exact M | with_reducible refine Kd.drew ?_ | with_reducible refine Kd.alloc ?_ _ | with_reducible refine Kd.call ?_ h8 | with_reducible refine Kd.call ?_ h9 | with_reducible refine Kd.call ?_ h10 | with_reducible refine Kd.call ?_ h11))).mono ?_); rintro e w9 ⟨A9, c9, rfl, X9, h9⟩)
        | (go_at_call 12; (with_reducible refine (SM.out _ _ _ _ _ _ X9 (RW.out _ (by repeat (first | with_reducible exact M | with_reducible refine Kd.drew ?_ | with_reducible refine Kd.alloc ?_ _ | with_reducible refine Kd.call ?_ h8 | with_reducible refine Kd.call ?_ h9 | with_reducible refine Kd.call ?_ h10 | with_reducible refine Kd.call ?_ h11)))).mono ?_); rintro e w10 ⟨rfl, h10⟩))
    all_goals (go_wp2_with fail; go_meet)
    all_goals exact ⟨by first | rfl | simp, by repeat (first | with_reducible exact M | with_reducible refine Kd.drew ?_ | with_reducible refine Kd.alloc ?_ _ | with_reducible refine Kd.call ?_ h8 | with_reducible refine Kd.call ?_ h9 | with_reducible refine Kd.call ?_ h10 | with_reducible refine Kd.call ?_ h11)⟩
  case rest =>
    obtain ⟨rfl, hcut⟩ := hcut
    clear M PX SB WB RW t0 t1
    generalize wc = w4 at *
    have M4 := Lib.hid (M3.out.trans hcut)
    have B4 := Lib.hid (B3.out.below hcut.d)
    clear hcut M3 B3
    obtain ⟨t0, t1⟩ := TW.out _ M4.out
    go_wp2_with fail
    refine (TU.out _ _ _ _ B4.out).mono ?_
    rintro e w5 ⟨rfl, b5, B5, hb5, o5⟩
    have M5 := Lib.hid (M4.out.but o5 hp.out)
    have B5 := Lib.hid B5
    clear t0 t1 M4 B4 o5 hb5 TU
    obtain ⟨t0, t1⟩ := TW.out _ M5.out
    have M := Kd.refl w5
    have PX := Lib.hid (fun W (h : Kd w5 W) => show W.cell? ⟨vb, 0, none⟩ = some (.int .i64 (R : Int)) ∧ W.cell? ⟨vb, 1, none⟩ = some (.int .i64 (C : Int)) ∧ Kd w5 W from
      ⟨(TW.out _ (M5.out.trans h)).1, (TW.out _ (M5.out.trans h)).2, h⟩)
    have SB := Lib.hid (fun W (h : Kd w5 W) => SP.out _ _ _ _ _ _ _ (B5.out.below h.d))
    have WB := Lib.hid (fun W (h : Kd w5 W) => WD.out _ _ _ _ _ _ _ (B5.out.below h.d))
    have RW := Lib.hid (fun W (h : Kd w5 W) => RX.out _ (M5.out.trans h))
    have RT5 := Lib.hid (fun W (h : Kd w5 W) => RT.out _ (RX.out _ (M5.out.trans h)))
    go_upto_region 13 with fail
    go_cut [100] (fun v100 wx => v100 = .bool false ∧ Kd w5 wx)
    case first =>
      go_region_held3 (fun w' => w'.cell? ⟨vb, 0, none⟩ = some (.int .i64 (R : Int)) ∧ w'.cell? ⟨vb, 1, none⟩ = some (.int .i64 (C : Int)) ∧ Kd w5 w')
        (exact PX.out _ (by repeat (first | with_reducible exact M | with_reducible refine Kd.drew ?_ | with_reducible refine Kd.alloc ?_ _ | with_reducible refine Kd.call ?_ h8 | with_reducible refine Kd.call ?_ h9 | with_reducible refine Kd.call ?_ h10 | with_reducible refine Kd.call ?_ h11)))
        (first
          | (go_at_call 11; (with_reducible refine (SB.out _ (by repeat (first | with_reducible exact M | with_reducible refine Kd.drew ?_ | with_reducible refine Kd.alloc ?_ _ | with_reducible refine Kd.call ?_ h8 | with_reducible refine Kd.call ?_ h9 | with_reducible refine Kd.call ?_ h10 | with_reducible refine Kd.call ?_ h11))).mono ?_); rintro e w8 ⟨rfl, h8⟩)
          | (go_at_call 13; (with_reducible refine (WB.out _ (by repeat (first | with_reducible exact M | with_reducible refine Kd.drew ?_ | with_reducible refine Kd.alloc ?_ _ | with_reducible refine Kd.call ?_ h8 | with_reducible refine Kd.call ?_ h9 | with_reducible refine Kd.call ?_ h10 | with_reducible refine Kd.call ?_ h11))).mono ?_); rintro e w9 ⟨A9, c9, rfl, X9, h9⟩)
          | (go_at_call 15; (with_reducible refine (RT5.out _ (by repeat (first | with_reducible exact M | with_reducible refine Kd.drew ?_ | with_reducible refine Kd.alloc ?_ _ | with_reducible refine Kd.call ?_ h8 | with_reducible refine Kd.call ?_ h9 | with_reducible refine Kd.call ?_ h10 | with_reducible refine Kd.call ?_ h11))).mono ?_); rintro e w11 ⟨A11, c11, rfl, X11, h11⟩)
          | (go_at_call 12; (with_reducible refine (SM.out _ _ _ _ _ _ (X9.step h11) X11).mono ?_); rintro e w10 ⟨rfl, h10⟩)
          | (go_at_call 12; (with_reducible refine (SM.out _ _ _ _ _ _ X9 (X11.step h9)).mono ?_); rintro e w10 ⟨rfl, h10⟩))
      all_goals (go_wp2_with fail; go_meet)
      all_goals exact ⟨by first | rfl | simp, by repeat (first | with_reducible exact M | with_reducible refine Kd.drew ?_ | with_reducible refine Kd.alloc ?_ _ | with_reducible refine Kd.call ?_ h8 | with_reducible refine Kd.call ?_ h9 | with_reducible refine Kd.call ?_ h10 | with_reducible refine Kd.call ?_ h11)⟩
    case rest =>
      obtain ⟨rfl, hcut⟩ := hcut
      clear M PX SB WB RW RT5 t0 t1
      generalize wc = w6 at *
      have M6 := Lib.hid (M5.out.trans hcut)
      have B6 := Lib.hid (B5.out.below hcut.d)
      clear hcut M5 B5 RT
      obtain ⟨t0, t1⟩ := TW.out _ M6.out
      have C6 := Lib.hid (CW.out _ M6.out)
      clear M6 B6 CW TW RX TX SM SP WD
      go_upto_region 15 with fail
      go_quiet (fail)
      go_wp2
      go_ret
      exact ⟨by simp, below_drewN C6.out _⟩

set_option maxHeartbeats 1000000 in
set_option maxRecDepth 100000 in
theorem walk_two (R C n ca xb xo : Nat) (xs : List Nat) (d d2 : Nat) (hd : 1 ≤ d) (hd1 : d ≤ 9223372036854775807) (h2 : 1 ≤ d2) (hd2 : d2 ≤ 9223372036854775807) (hx : xs.length = n) (hg : Sh.Gd (R : Int) (C : Int)) (hn : R * C = n) (hl : n ≤ 256) (w : World) (hT : Ft.Tab w) (X : Ws w w.heap.size (some ⟨xb, xo, none⟩) xs) :
    Calls Tryd.prog 3 #[.agg #[.int .i64 (R : Int), .int .i64 (C : Int)], .slice (some ⟨xb, xo, none⟩) n ca, .int .i64 (d : Int), .int .i64 (d2 : Int)] w fun e w' => e = .returned (.bool true) ∧ Below w.heap.size w w' := by
  have h1' : ¬ 256 < (n : Int) := by omega
  have OF := Lib.hid (fun W T X => of_ok ⟨xb, xo, none⟩ ca R C n xs hx hg hn (by omega) W T X)
  have RG := Lib.hid (fun W => Sh.ref (R : Int) (C : Int) true (by simp [hg]) W)
  have q1 : IntKind.i64.wrap ((R : Int) * (C : Int)) = (n : Int) := by rw [← hn, ← Int.natCast_mul]; exact IntWalk.i64_in _ (by omega)
  have RE := Lib.hid (show rg (Pn.pl xs) n = xs from rg_pl hx)
  have WD := Lib.hid (fun W p b R C cap (f : Nat → Nat) (B : Bx W p b R C n cap f) => words B)
  have SP := Lib.hid (fun W p b R C cap (f : Nat → Nat) (B : Bx W p b R C n cap f) => Bl.shape B.c)
  have SM := Lib.hid (fun (f : Nat → Nat) (A B : Option Addr) ca cb W Ra Rb => same_rg (n := n) (f := f) (g := f) (fun _ _ => rfl) (by omega) A B ca cb W Ra Rb)
  have X0 := Lib.hid X
  have RT := Lib.hid (fun W X => rtranspose ⟨xb, xo, none⟩ n ca R C (Pn.pl xs) hn (by rw [← hn]; obtain ⟨g1, _, g3, _, _⟩ := hg.bound; exact Nat.mul_pos (by omega) (by omega)) (by omega) (fun i hi => X0.out.lt i (by omega)) W X)
  have TU := Lib.hid (fun W p b cap (B : Bx W p b R C n cap (Pn.pl xs)) => turn B d (by omega) (by omega))
  have TV := Lib.hid (fun W p b cap (B : Bx W p b C R n cap (tr R C (Pn.pl xs))) => turn B d2 (by omega) (by omega))
  have TT := Lib.hid (fun i (hi : i < n) => show tr C R (tr R C (Pn.pl xs)) i = Pn.pl xs i from by
    obtain ⟨g1, _, g3, _, _⟩ := hg.bound
    exact tr_tr hn (by omega) (by omega) i hi)
  have SV := Lib.hid (fun (A B : Option Addr) ca cb W Ra Rb => same_rg (n := n) (f := tr C R (tr R C (Pn.pl xs))) (g := Pn.pl xs) TT.out (by omega) A B ca cb W Ra Rb)
  have n1 : ¬ (d : Int) < 1 := by omega
  have n2 : ¬ (d2 : Int) < 1 := by omega
  have n3 : decide ((d2 : Int) < 1) = false := by simp; omega
  clear hg hn hx X0 TT
  go_enter Tryd.func3, Tryd.ntmps3
  go_upto_region 1 with fail
  have V0 := Sh.Tw.fresh w (R : Int) (C : Int) 23
  have b0 := below_alloc w (.cells #[.int .i64 (R : Int), .int .i64 (C : Int)] 23)
  generalize w.alloc (.cells #[.int .i64 (R : Int), .int .i64 (C : Int)] 23) = w0 at *
  go_wp2_with fail
  refine (awake _ (hT.below b0)).mono ?_
  rintro e w1 ⟨rfl, h1⟩
  have V1 := Lib.hid (V0.below h1)
  have c1 := Lib.hid (b0.trans (h1.mono b0.size))
  have R1 := Lib.hid (X.step c1.out)
  have T1 := Lib.hid (hT.below c1.out)
  generalize w.heap.size = vb at V1
  have M1 := Lib.hid (Kd.refl w1)
  have TW := Lib.hid (fun W (h : Kd w1 W) => h.tw V1.out)
  have RX := Lib.hid (fun W (h : Kd w1 W) => R1.out.step h.d)
  have TX := Lib.hid (fun W (h : Kd w1 W) => show Ft.Tab W from T1.out.below h.d)
  have CW := Lib.hid (fun W (h : Kd w1 W) => c1.out.trans (h.d.mono c1.out.size))
  clear V0 b0 h1 V1 R1 T1 c1 hT X
  have RX := Lib.hid (fun W (h : Kd w1 W) => show Ws W W.heap.size (some ⟨xb, xo, none⟩) (rg (Pn.pl xs) n) by rw [RE.out]; exact RX.out _ h)
  obtain ⟨t0, t1⟩ := TW.out _ M1.out
  go_wp2_with fail
  refine (OF.out _ (TX.out _ M1.out) (by rw [← RE.out]; exact RX.out _ M1.out)).mono ?_
  rintro e w2 ⟨v2, rfl, p, b, cap, rfl, B2, hp, hb, d2'⟩
  have M2 := Lib.hid (M1.out.call d2')
  have B2 := Lib.hid B2
  have hp := Lib.hid hp
  clear t0 t1 d2' M1 OF hb
  obtain ⟨t0, t1⟩ := TW.out _ M2.out
  go_wp2_with fail
  refine (RG.out _).mono ?_
  rintro e w3 ⟨rfl, d3⟩
  have M3 := Lib.hid (M2.out.call d3)
  have B3 := Lib.hid (B2.out.below d3)
  clear t0 t1 d3 M2 B2 RG
  obtain ⟨t0, t1⟩ := TW.out _ M3.out
  have M := Kd.refl w3
  have PX := Lib.hid (fun W (h : Kd w3 W) => show W.cell? ⟨vb, 0, none⟩ = some (.int .i64 (R : Int)) ∧ W.cell? ⟨vb, 1, none⟩ = some (.int .i64 (C : Int)) ∧ Kd w3 W from
    ⟨(TW.out _ (M3.out.trans h)).1, (TW.out _ (M3.out.trans h)).2, h⟩)
  have SB := Lib.hid (fun W (h : Kd w3 W) => SP.out _ _ _ _ _ _ _ (B3.out.below h.d))
  have WB := Lib.hid (fun W (h : Kd w3 W) => WD.out _ _ _ _ _ _ _ (B3.out.below h.d))
  have RW := Lib.hid (fun W (h : Kd w3 W) => RX.out _ (M3.out.trans h))
  go_upto_region 8 with fail
  go_cut [60] (fun v60 wx => v60 = .bool false ∧ Kd w3 wx)
  case first =>
    go_region_held3 (fun w' => w'.cell? ⟨vb, 0, none⟩ = some (.int .i64 (R : Int)) ∧ w'.cell? ⟨vb, 1, none⟩ = some (.int .i64 (C : Int)) ∧ Kd w3 w')
      (exact PX.out _ (by repeat (first | with_reducible exact M | with_reducible refine Kd.drew ?_ | with_reducible refine Kd.alloc ?_ _ | with_reducible refine Kd.call ?_ h8 | with_reducible refine Kd.call ?_ h9 | with_reducible refine Kd.call ?_ h10 | with_reducible refine Kd.call ?_ h11)))
      (first
        | (go_at_call 11; (with_reducible refine (SB.out _ (by repeat (first | with_reducible exact M | with_reducible refine Kd.drew ?_ | with_reducible refine Kd.alloc ?_ _ | with_reducible refine Kd.call ?_ h8 | with_reducible refine Kd.call ?_ h9 | with_reducible refine Kd.call ?_ h10 | with_reducible refine Kd.call ?_ h11))).mono ?_); rintro e w8 ⟨rfl, h8⟩)
        | (go_at_call 13; (with_reducible refine (WB.out _ (by repeat (first | with_reducible exact M | with_reducible refine Kd.drew ?_ | with_reducible refine Kd.alloc ?_ _ | with_reducible refine Kd.call ?_ h8 | with_reducible refine Kd.call ?_ h9 | with_reducible refine Kd.call ?_ h10 | with_reducible refine Kd.call ?_ h11))).mono ?_); rintro e w9 ⟨A9, c9, rfl, X9, h9⟩)
        | (go_at_call 12; (with_reducible refine (SM.out _ _ _ _ _ _ X9 (RW.out _ (by repeat (first | with_reducible exact M | with_reducible refine Kd.drew ?_ | with_reducible refine Kd.alloc ?_ _ | with_reducible refine Kd.call ?_ h8 | with_reducible refine Kd.call ?_ h9 | with_reducible refine Kd.call ?_ h10 | with_reducible refine Kd.call ?_ h11)))).mono ?_); rintro e w10 ⟨rfl, h10⟩))
    all_goals (go_wp2_with fail; go_meet)
    all_goals exact ⟨by first | rfl | simp, by repeat (first | with_reducible exact M | with_reducible refine Kd.drew ?_ | with_reducible refine Kd.alloc ?_ _ | with_reducible refine Kd.call ?_ h8 | with_reducible refine Kd.call ?_ h9 | with_reducible refine Kd.call ?_ h10 | with_reducible refine Kd.call ?_ h11)⟩
  case rest =>
    obtain ⟨rfl, hcut⟩ := hcut
    clear M PX SB WB RW t0 t1
    generalize wc = w4 at *
    have M4 := Lib.hid (M3.out.trans hcut)
    have B4 := Lib.hid (B3.out.below hcut.d)
    clear hcut M3 B3
    obtain ⟨t0, t1⟩ := TW.out _ M4.out
    go_wp2_with fail
    refine (TU.out _ _ _ _ B4.out).mono ?_
    rintro e w5 ⟨rfl, b5, B5, hb5, o5⟩
    have M5 := Lib.hid (M4.out.but o5 hp.out)
    have B5 := Lib.hid B5
    clear t0 t1 M4 B4 o5 hb5 TU
    obtain ⟨t0, t1⟩ := TW.out _ M5.out
    have M := Kd.refl w5
    have PX := Lib.hid (fun W (h : Kd w5 W) => show W.cell? ⟨vb, 0, none⟩ = some (.int .i64 (R : Int)) ∧ W.cell? ⟨vb, 1, none⟩ = some (.int .i64 (C : Int)) ∧ Kd w5 W from
      ⟨(TW.out _ (M5.out.trans h)).1, (TW.out _ (M5.out.trans h)).2, h⟩)
    have SB := Lib.hid (fun W (h : Kd w5 W) => SP.out _ _ _ _ _ _ _ (B5.out.below h.d))
    have WB := Lib.hid (fun W (h : Kd w5 W) => WD.out _ _ _ _ _ _ _ (B5.out.below h.d))
    have RW := Lib.hid (fun W (h : Kd w5 W) => RX.out _ (M5.out.trans h))
    have RT5 := Lib.hid (fun W (h : Kd w5 W) => RT.out _ (RX.out _ (M5.out.trans h)))
    go_upto_region 13 with fail
    go_cut [100] (fun v100 wx => v100 = .bool false ∧ Kd w5 wx)
    case first =>
      go_region_held3 (fun w' => w'.cell? ⟨vb, 0, none⟩ = some (.int .i64 (R : Int)) ∧ w'.cell? ⟨vb, 1, none⟩ = some (.int .i64 (C : Int)) ∧ Kd w5 w')
        (exact PX.out _ (by repeat (first | with_reducible exact M | with_reducible refine Kd.drew ?_ | with_reducible refine Kd.alloc ?_ _ | with_reducible refine Kd.call ?_ h8 | with_reducible refine Kd.call ?_ h9 | with_reducible refine Kd.call ?_ h10 | with_reducible refine Kd.call ?_ h11)))
        (first
          | (go_at_call 11; (with_reducible refine (SB.out _ (by repeat (first | with_reducible exact M | with_reducible refine Kd.drew ?_ | with_reducible refine Kd.alloc ?_ _ | with_reducible refine Kd.call ?_ h8 | with_reducible refine Kd.call ?_ h9 | with_reducible refine Kd.call ?_ h10 | with_reducible refine Kd.call ?_ h11))).mono ?_); rintro e w8 ⟨rfl, h8⟩)
          | (go_at_call 13; (with_reducible refine (WB.out _ (by repeat (first | with_reducible exact M | with_reducible refine Kd.drew ?_ | with_reducible refine Kd.alloc ?_ _ | with_reducible refine Kd.call ?_ h8 | with_reducible refine Kd.call ?_ h9 | with_reducible refine Kd.call ?_ h10 | with_reducible refine Kd.call ?_ h11))).mono ?_); rintro e w9 ⟨A9, c9, rfl, X9, h9⟩)
          | (go_at_call 15; (with_reducible refine (RT5.out _ (by repeat (first | with_reducible exact M | with_reducible refine Kd.drew ?_ | with_reducible refine Kd.alloc ?_ _ | with_reducible refine Kd.call ?_ h8 | with_reducible refine Kd.call ?_ h9 | with_reducible refine Kd.call ?_ h10 | with_reducible refine Kd.call ?_ h11))).mono ?_); rintro e w11 ⟨A11, c11, rfl, X11, h11⟩)
          | (go_at_call 12; (with_reducible refine (SM.out _ _ _ _ _ _ (X9.step h11) X11).mono ?_); rintro e w10 ⟨rfl, h10⟩)
          | (go_at_call 12; (with_reducible refine (SM.out _ _ _ _ _ _ X9 (X11.step h9)).mono ?_); rintro e w10 ⟨rfl, h10⟩))
      all_goals (go_wp2_with fail; go_meet)
      all_goals exact ⟨by first | rfl | simp, by repeat (first | with_reducible exact M | with_reducible refine Kd.drew ?_ | with_reducible refine Kd.alloc ?_ _ | with_reducible refine Kd.call ?_ h8 | with_reducible refine Kd.call ?_ h9 | with_reducible refine Kd.call ?_ h10 | with_reducible refine Kd.call ?_ h11)⟩
    case rest =>
      obtain ⟨rfl, hcut⟩ := hcut
      clear M PX SB WB RW RT5 t0 t1
      generalize wc = w6 at *
      have M6 := Lib.hid (M5.out.trans hcut)
      have B6 := Lib.hid (B5.out.below hcut.d)
      clear hcut M5 B5 RT
      obtain ⟨t0, t1⟩ := TW.out _ M6.out
      have M := M6.out
      have PX := Lib.hid (fun W (h : Kd w1 W) => show W.cell? ⟨vb, 0, none⟩ = some (.int .i64 (R : Int)) ∧ W.cell? ⟨vb, 1, none⟩ = some (.int .i64 (C : Int)) ∧ Kd w1 W from
        ⟨(TW.out _ h).1, (TW.out _ h).2, h⟩)
      have TV6 := Lib.hid (fun W (h : Kd w6 W) => TV.out _ _ _ _ (B6.out.below h.d))
      have M0 := Kd.refl w6
      go_upto_region 15 with fail
      go_cut [8] (fun v8 wx => v8 = .bool true ∧ Kd w1 wx)
      case first =>
        go_region_held3 (fun w' => w'.cell? ⟨vb, 0, none⟩ = some (.int .i64 (R : Int)) ∧ w'.cell? ⟨vb, 1, none⟩ = some (.int .i64 (C : Int)) ∧ Kd w1 w')
          (exact PX.out _ (by repeat (first | with_reducible exact M | with_reducible refine Kd.drew ?_ | with_reducible refine Kd.alloc ?_ _ | with_reducible refine Kd.call ?_ h11 | with_reducible refine Kd.call ?_ h8 | with_reducible refine Kd.call ?_ h9 | with_reducible refine Kd.call ?_ h10 | with_reducible refine Kd.but ?_ o7 hp.out)))
          (first
            | (go_at_call 14; (with_reducible refine (TV6.out _ (by repeat (first | with_reducible exact M0 | with_reducible refine Kd.drew ?_ | with_reducible refine Kd.alloc ?_ _))).mono ?_); rintro e w7 ⟨rfl, b7, B7, hb7, o7⟩)
            | (go_at_call 11; (with_reducible refine (SP.out _ _ _ _ _ _ _ (B7.below (Kd.d (w1 := w7) (by repeat (first | with_reducible exact (Kd.refl w7) | with_reducible refine Kd.drew ?_ | with_reducible refine Kd.alloc ?_ _ | with_reducible refine Kd.call ?_ h8 | with_reducible refine Kd.call ?_ h9 | with_reducible refine Kd.call ?_ h10))))).mono ?_); rintro e w8 ⟨rfl, h8⟩)
            | (go_at_call 13; (with_reducible refine (WD.out _ _ _ _ _ _ _ (B7.below (Kd.d (w1 := w7) (by repeat (first | with_reducible exact (Kd.refl w7) | with_reducible refine Kd.drew ?_ | with_reducible refine Kd.alloc ?_ _ | with_reducible refine Kd.call ?_ h8 | with_reducible refine Kd.call ?_ h9 | with_reducible refine Kd.call ?_ h10))))).mono ?_); rintro e w9 ⟨A9, c9, rfl, X9, h9⟩)
            | (go_at_call 12; (with_reducible refine (SV.out _ _ _ _ _ X9 (RX.out _ (by repeat (first | with_reducible exact M | with_reducible refine Kd.drew ?_ | with_reducible refine Kd.alloc ?_ _ | with_reducible refine Kd.call ?_ h11 | with_reducible refine Kd.call ?_ h8 | with_reducible refine Kd.call ?_ h9 | with_reducible refine Kd.call ?_ h10 | with_reducible refine Kd.but ?_ o7 hp.out)))).mono ?_); rintro e w10 ⟨rfl, h10⟩))
        all_goals (go_wp2_with fail; go_meet)
        all_goals exact ⟨by first | rfl | simp, by repeat (first | with_reducible exact M | with_reducible refine Kd.drew ?_ | with_reducible refine Kd.alloc ?_ _ | with_reducible refine Kd.call ?_ h11 | with_reducible refine Kd.call ?_ h8 | with_reducible refine Kd.call ?_ h9 | with_reducible refine Kd.call ?_ h10 | with_reducible refine Kd.but ?_ o7 hp.out)⟩
      case rest =>
        obtain ⟨rfl, hcut⟩ := hcut
        have C7 := Lib.hid (CW.out _ hcut)
        clear M PX M0 TV6 hcut M6 B6 CW TW RX TX t0 t1
        go_wp2
        go_ret
        exact ⟨rfl, C7.out⟩

theorem walk (a b : Int) (A : Option Addr) (n ca : Nat) (xs : List Nat) (d d2 : Int) (hx : xs.length = n) (hd : d ≤ 9223372036854775807) (hd2 : d2 ≤ 9223372036854775807) (w : World) (hT : Ft.Tab w) (R : Ws w w.heap.size A xs) :
    Calls Tryd.prog 3 #[.agg #[.int .i64 a, .int .i64 b], .slice A n ca, .int .i64 d, .int .i64 d2] w fun e w' => e = .returned (.bool true) ∧ Below w.heap.size w w' := by
  by_cases hl : n ≤ 256
  · by_cases h : Sh.Gd a b ∧ a * b = (n : Int)
    · obtain ⟨hg, hm⟩ := h
      obtain ⟨g1, g2, g3, g4, g5⟩ := hg.bound
      obtain ⟨R', rfl⟩ := Int.eq_ofNat_of_zero_le (show 0 ≤ a by omega)
      obtain ⟨C', rfl⟩ := Int.eq_ofNat_of_zero_le (show 0 ≤ b by omega)
      have hn : R' * C' = n := by rw [← Int.natCast_mul] at hm; omega
      have h0 : 0 < n := by rw [← hn]; exact Nat.mul_pos (by omega) (by omega)
      obtain ⟨xb, xo, rfl, _, _⟩ := R.at_ 0 (by omega)
      by_cases h1 : d < 1
      · exact walk_bad R' C' n ca xb xo xs d d2 h1 hx hg hn hl w hT R
      · obtain ⟨d', rfl⟩ := Int.eq_ofNat_of_zero_le (show 0 ≤ d by omega)
        by_cases h2 : d2 < 1
        · exact walk_one R' C' n ca xb xo xs d' d2 (by omega) (by omega) h2 hx hg hn hl w hT R
        · obtain ⟨d2', rfl⟩ := Int.eq_ofNat_of_zero_le (show 0 ≤ d2 by omega)
          exact walk_two R' C' n ca xb xo xs d' d2' (by omega) (by omega) (by omega) (by omega) hx hg hn hl w hT R
    · by_cases g : Sh.Gd a b
      · obtain ⟨g1, g2, g3, g4, g5⟩ := g.bound
        have g6 : 0 < a * b := Int.mul_pos g1 g3
        exact walk_odd a b (a * b) A n ca xs d d2 true hl (fun _ => IntWalk.i64_in _ (by omega)) (Or.inr fun e => h ⟨g, e.symm⟩) h w (fun W => Sh.ref a b true (by simp [g]) W) hT R
      · exact walk_odd a b 0 A n ca xs d d2 false hl (fun h => by cases h) (Or.inl rfl) h w (fun W => Sh.ref a b false (by simp [g]) W) hT R
  · exact walk_long a b A n ca xs d d2 (by omega) w hT R

theorem g32 : Tryd.prog.globalNamed "math/bits.deBruijn32tab" = some 0 := by kernel_rfl
theorem g64 : Tryd.prog.globalNamed "math/bits.deBruijn64tab" = some 1 := by kernel_rfl
theorem t64 : (Tryd.prog.globals[1]?).map (·.type) = some 82 := by kernel_rfl
/-- What the row's condition gives the walk: the table's cells. -/
theorem of_laid {W : World} (h : laidMetH Tryd.prog Rows.blockTurnsRow.laid W) : Ft.Tab W := by
  rw [MakeChecks.laidMetH_plain _ _ _ (by kernel_rfl)] at h
  obtain ⟨ps, ⟨g0, t0, cs0, f0, p0, q0, hg0, ht0, hv0, hd0, ⟨g1, t1, cs1, f1, p1, q1, hg1, ht1, hv1, hd1, _, _⟩, _⟩, _, _⟩ := h
  obtain rfl := Option.some.inj (g64.symm.trans hg1)
  obtain rfl := Option.some.inj (t64.symm.trans ht1)
  have hd2 : DataW.trod _ Tryd.prog W 0 _ false f1 82 cs1.toList = some (Lib.tabData .u8 (Lib.deBruijn64tab.map Int.ofNat), p1) := hd1
  have hc := Lib.cells_of_tab Tryd.underlying82 Tryd.underlying5 (by kernel_rfl) (by kernel_rfl) hd2
  intro i hi
  have c := World.var?_cell hg1 hv1 i
  rw [c, ← Array.getElem?_toList, hc]
  have hl : Lib.deBruijn64tab.length = 64 := by decide
  simp [List.getD, hl, hi]

/-- The door's own heap meets the condition. -/
theorem door_met (os : Os) (args : Array Value) : laidMetH Tryd.prog Rows.blockTurnsRow.laid ((World.doorLaid Tryd.prog 400 os).forCall (fun _ _ => 0) ⟨#[], args, []⟩).memory :=
  laidMetH_of_parts3 (fuel := 8) (laidMet_of_run' 8 (by kernel_rfl) (by kernel_rfl)) (by kernel_rfl) (by kernel_rfl)
set_option maxRecDepth 100000 in
theorem lifted (os : Os) (started : os.Started) (H : Type) (enc : TypeId × Value → H) :
    ReturnsInHanded {} Tryd.checked os 3 .any (fun w args => (Rows.blockTurnsSpec.pre enc Tryd.prog Tryd.f3 [] false w args ∧ laidMetH Tryd.prog Rows.blockTurnsRow.laid w) ∧ sizedMet enc Tryd.prog Tryd.f3 (OpenSpec.ofChange Rows.blockTurnsSpec) false w args)
      (Rows.blockTurnsSpec.post enc Tryd.prog Tryd.f3 false true false false) := by
  refine returnsInHanded_of_change_and (C := Tryd.checked) (X := fun w _ => laidMetH Tryd.prog Rows.blockTurnsRow.laid w) (fun _ _ _ hh h => h.of_heap hh) Fr.own started (by kernel_rfl) Tryd.func3
    (ChangeSpec.witness_shaped (enc := enc) (C := Tryd.checked) (os := os) (X := fun w _ => laidMetH Tryd.prog Rows.blockTurnsRow.laid w) false (World.doorLaid Tryd.prog 400 os) #[.agg #[.int .i64 0, .int .i64 0], .slice none 0 0, .int .i64 0, .int .i64 0] 8 rfl (World.shaped_of_RefB (by kernel_rfl) (by kernel_rfl)) (by kernel_rfl) (by kernel_rfl) (by kernel_rfl) (door_met os _)) ?_
  intro W base args ds gs before hval0 hW _ _ hL _
  have hval : ∀ (j : Nat) t v, Tryd.f3.params[j]? = some t → args[j]? = some v → Value.okWide Tryd.prog W .any base t v := hval0
  have hW' := hW
  obtain ⟨p, q, hA0, hV, rfl, hfz, hnd⟩ := hW
  have hA : DataW.TrodAll enc Tryd.prog W 0 (fun _ => true) true Tryd.f3.params.toList args.toList ds p := hA0
  obtain ⟨rfl, rfl⟩ := trodVars_none hV
  rw [Tryd.params3] at hA hval
  obtain ⟨v0, vs0, d0, ds0, p0, q0, hargs, rfl, rfl, h0, r0⟩ := trodAll_cons hA
  obtain ⟨v1, vs1, d1, ds1, p1, q1, rfl, rfl, rfl, h1, r1⟩ := trodAll_cons r0
  obtain ⟨v2, vs2, d2, ds2, p2, q2, rfl, rfl, rfl, h2, r2⟩ := trodAll_cons r1
  obtain ⟨v3, vs3, d3, ds3, p3, q3, rfl, rfl, rfl, h3, r3⟩ := trodAll_cons r2
  obtain ⟨rfl, rfl, rfl⟩ := trodAll_nil r3
  obtain rfl : args = #[v0, v1, v2, v3] := by cases args; simp_all
  obtain ⟨a0, b0, rfl, rfl⟩ := Vw.open_shape (hval 0 23 v0 rfl rfl) h0
  obtain ⟨A1, n1, c1, rfl⟩ := okWide_slice Tryd.underlying24 (hval 1 24 v1 rfl rfl)
  obtain ⟨fuel1, hf1⟩ := h1
  obtain ⟨xs1, rfl, lc1, lm1, R1⟩ := Ww.open_words hf1
  obtain ⟨x2, rfl, rfl, rfl, w2⟩ := open_int Tryd.underlying3 (hval 2 3 v2 rfl rfl) h2
  have b2 : -9223372036854775808 ≤ x2 ∧ x2 ≤ 9223372036854775807 := by simpa [Lit.wf, IntKind.min, IntKind.max, IntKind.signed, IntKind.bits] using w2
  obtain ⟨x3, rfl, rfl, rfl, w3⟩ := open_int Tryd.underlying3 (hval 3 3 v3 rfl rfl) h3
  have b3 : -9223372036854775808 ≤ x3 ∧ x3 ≤ 9223372036854775807 := by simpa [Lit.wf, IntKind.min, IntKind.max, IntKind.signed, IntKind.bits] using w3
  simp only [List.append_nil] at hW' hA0
  refine (walk a0 b0 A1 xs1.length c1 xs1 x2 x3 rfl b2.2 b3.2 W (of_laid hL) R1).mono fun e W' ⟨he, hb⟩ => ?_
  subst he
  exact ⟨_, rfl, Fr.law_post (tb := 4) hW' hA0 rfl rfl rfl Tryd.underlying4 (by rw [Tryd.params3]; intro t ht; simp at ht; rcases ht with rfl | rfl | rfl | rfl; all_goals exact ⟨by kernel_rfl, of_decide_eq_true (by kernel_rfl)⟩) hb⟩

theorem row_holds : Rows.BlockTurnsSaid :=
  OpenClaim.holds_of_wide 3 Tryd.f3 rfl rfl rfl rfl rfl rfl rfl ⟨rfl, rfl, rfl, rfl, rfl⟩ rfl rfl rfl rfl rfl (by kernel_rfl) Tryd.func3 (by kernel_rfl)
    (of_decide_eq_true (by kernel_rfl)) (by unfold Func.isWrapper; first | (rw [if_pos (by decide +kernel)]; kernel_rfl) | (rw [if_neg (by decide +kernel)]; exact ⟨rfl, rfl⟩))
    (fun os started H enc _ => lifted os started H enc)

theorem proved : Rows.BlockTurnsCardSaid :=
  Claim7.holds_tied_plain_at .later [] [.data, .data] true Rows.blockTurnsCard.stood.harness false
    row_holds (fun _ h => by cases h) (by kernel_rfl) (fun _ h => by cases h) blockTurns_row_tie rfl ⟨rfl, rfl⟩ (by kernel_rfl) rfl
    (fun f fn hf hfn => by
      obtain rfl : f = 3 := Option.some.inj ((show Tryd.prog.funcNamed "abacist/abacistlaw12.BlockTurns" = some 3 by kernel_rfl).symm.trans hf) |>.symm
      obtain rfl : fn = Tryd.f3 := (Option.some.inj (Tryd.func3.symm.trans hfn)).symm
      exact ⟨by kernel_rfl, fun j t ht => by
        rw [Tryd.params3] at ht
        have hm : t ∈ [23, 24, 3] := by simpa using Array.mem_of_getElem? ht
        have hall : ([23, 24, 3].all fun u => !Tryd.prog.wantsStandIn u) = true := by kernel_rfl
        exact (show Tryd.prog.wantsStandIn t = false by simpa using List.all_eq_true.1 hall t hm)⟩)
    (by kernel_rfl)
end Go.Proofs.YtobpjlgiefnmjaaDoor.blockTurns
