/- RowsRun: of every row, view and direction the law of a view's transform answers true, and changes nothing, where the library's two tables are as their initialisers lay them (the card ties them to the program's text). -/
import Derived.Test.YtfjoacopnkceoaaDoorFrame
import Derived.Test.YtfjoacopnkceoaaDoorViewS
import Derived.Test.YtfjoacopnkceoaaDoorViewO
import Derived.Test.YtfjoacopnkceoaaDoorTie
import Derived.Test.YtfjoacopnkceoaaDoorCards
import Derived.Lib.LaidTab
import Derived.LaidMore
import Derived.Stop.Joined
import Derived.SevenTiedAt
set_option linter.unusedVariables false
namespace Go.Proofs.YtfjoacopnkceoaaDoor.rowsRun
open Go.ChangeShapes Go.WideShapes Go.ChangeAt Go.RowKit
open Vw Kn Td Tn Ww Pl

set_option maxHeartbeats 1000000 in
set_option maxRecDepth 100000 in
theorem walk_long (A : Option Addr) (ca n : Nat) (o s N d : Int) (hl : 100 < n) (w : World) (hT : Ft.Tab w) :
    Calls Tryd.prog 4 #[.slice A n ca, .agg #[.int .i64 o, .int .i64 s, .int .i64 N], .int .i64 d] w fun e w' => e = .returned (.bool true) ∧ Below w.heap.size w w' := by
  have h1 : 100 < (n : Int) := by omega
  have HT := Lib.hid hT
  have HB := Lib.hid (below_alloc w)
  go_enter Tryd.func4, Tryd.ntmps4
  go_upto_region 1 with fail
  have V0 := Lib.hid (Vi.fresh w o s N 24)
  have b0 := Lib.hid (HB.out (.cells #[.int .i64 o, .int .i64 s, .int .i64 N] 24))
  clear HB
  generalize w.alloc (.cells #[.int .i64 o, .int .i64 s, .int .i64 N] 24) = w0 at *
  go_wp2_with fail
  refine (awake _ (HT.out.below b0.out)).mono ?_
  rintro e w1 ⟨rfl, h1⟩
  have c1 := Lib.hid (b0.out.trans (h1.mono b0.out.size))
  have V1 := Lib.hid (V0.out.below h1)
  clear h1 V0 b0
  go_wp2
  go_ret
  exact ⟨by simp [go_sem], c1.out⟩

set_option maxHeartbeats 1000000 in
set_option maxRecDepth 100000 in
theorem walk_no (A : Option Addr) (ca n : Nat) (xs : List Nat) (o s N d : Int) (hl : n ≤ 100) (hv : ¬ Gv o s N n) (hx : xs.length = n) (hA : A = none → ca = 0) (w : World) (hT : Ft.Tab w) (R : Ws w w.heap.size A xs) :
    Calls Tryd.prog 4 #[.slice A n ca, .agg #[.int .i64 o, .int .i64 s, .int .i64 N], .int .i64 d] w fun e w' => e = .returned (.bool true) ∧ Below w.heap.size w w' := by
  have HXE := Lib.hid (show Value.slice A n ca = Value.slice A xs.length ca by rw [hx])
  have HX := Lib.hid hx
  have HA := Lib.hid hA
  have RL := Lib.hid R.lt
  have R := Lib.hid R
  have HT := Lib.hid hT
  have HB := Lib.hid (below_alloc w)
  have SM := Lib.hid (fun (A B : Option Addr) ca cb W Ra Rb => Sm.same A B n n ca cb xs hx.symm hx.symm (by omega) W Ra Rb)
  have h1 : ¬ 100 < (n : Int) := by omega
  have RU := Lib.hid (fun (A : Option Addr) ca W => run_no A n ca o s N d hv (by omega) W)
  have RG := Lib.hid (fun W => rgood o s N n (by omega) false (by simp [hv]) W)
  clear hv hx hA hT
  go_enter Tryd.func4, Tryd.ntmps4
  go_upto_region 1 with fail
  have V0 := Lib.hid (Vi.fresh w o s N 24)
  have b0 := Lib.hid (HB.out (.cells #[.int .i64 o, .int .i64 s, .int .i64 N] 24))
  clear HB
  generalize w.alloc (.cells #[.int .i64 o, .int .i64 s, .int .i64 N] 24) = w0 at *
  go_wp2_with fail
  refine (awake _ (HT.out.below b0.out)).mono ?_
  rintro e w1 ⟨rfl, h1⟩
  have c1 := Lib.hid (b0.out.trans (h1.mono b0.out.size))
  have V1 := Lib.hid (V0.out.below h1)
  clear h1 V0 b0
  have O3 := Lib.hid (Ow.fresh w1 w1.heap.size (Nat.le_refl _))
  have RA3 := Lib.hid ((R.out.step c1.out).alloc (Nat.le_refl _) (.cells #[] 51))
  have BA3 := Lib.hid (below_alloc w1 (.cells #[] 51))
  go_upto_region 6 with (at_builtin; (refine append_all (w1.alloc (.cells #[] 51)) ?hgd (.tmp 15) (.tmp 16) ?ho w1.heap.size (.slice (some ⟨w1.heap.size, 0, none⟩) 0 0) [] ?hs O3.out w1.heap.size A ca xs ?hx RA3.out HA.out ?c1 ?c2 (fun v3 w3 OO hg => ?_)); (case hgd => rfl); (case ho => rfl); (case hs => rfl); (case hx => exact HXE.out))
  case c1 => have := HX.out; simp only [List.length_nil]; omega
  case c2 => simp
  obtain ⟨A3, k3, rfl, Y3, d3⟩ := copied HX.out RL.out O3.out BA3.out OO hg
  have Y3 := Lib.hid Y3
  have d3 := Lib.hid d3
  have c3 := Lib.hid (c1.out.trans (d3.out.mono c1.out.size))
  have V3 := Lib.hid (V1.out.below d3.out)
  clear O3 RA3 BA3 OO hg V1
  obtain ⟨t0, t1, t2⟩ := V3.out
  go_wp2_with fail
  refine (RU.out _ _ _).mono ?_
  rintro e w4 ⟨rfl, d4⟩
  have d4 := Lib.hid d4
  have c4 := Lib.hid (c3.out.trans (d4.out.mono c3.out.size))
  have V4 := Lib.hid (V3.out.below d4.out)
  have Y4 := Lib.hid (Y3.out.step d4.out)
  clear t0 t1 t2 V3 Y3 d4 c3
  obtain ⟨t0, t1, t2⟩ := V4.out
  go_wp2_with fail
  refine (RG.out _).mono ?_
  rintro e w5 ⟨rfl, d5⟩
  have d5 := Lib.hid d5
  have c5 := Lib.hid (c4.out.trans (d5.out.mono c4.out.size))
  have V5 := Lib.hid (V4.out.below d5.out)
  have Y5 := Lib.hid (Y4.out.step d5.out)
  clear t0 t1 t2 V4 Y4 d5 c4
  obtain ⟨t0, t1, t2⟩ := V5.out
  go_wp2_with fail
  refine (SM.out _ _ _ _ _ (R.out.step c5.out) Y5.out).mono ?_
  rintro e w6 ⟨rfl, d6⟩
  have d6 := Lib.hid d6
  have c6 := Lib.hid (c5.out.trans (d6.out.mono c5.out.size))
  have V6 := Lib.hid (V5.out.below d6.out)
  clear t0 t1 t2 V5 d6 c5
  go_wp2
  go_ret
  exact ⟨by simp [go_sem], c6.out⟩

set_option maxHeartbeats 1000000 in
set_option maxRecDepth 100000 in
theorem walk_len (A : Option Addr) (ca n : Nat) (xs : List Nat) (o s N : Nat) (d : Int) (hl : n ≤ 100) (hv : Vg o s N n) (hN : ∀ j, j ≤ 32 → (N : Int) ≠ ((2 ^ j : Nat) : Int)) (hx : xs.length = n) (hA : A = none → ca = 0) (w : World) (hT : Ft.Tab w) (R : Ws w w.heap.size A xs) :
    Calls Tryd.prog 4 #[.slice A n ca, .agg #[.int .i64 (o : Int), .int .i64 (s : Int), .int .i64 (N : Int)], .int .i64 d] w fun e w' => e = .returned (.bool true) ∧ Below w.heap.size w w' := by
  have HXE := Lib.hid (show Value.slice A n ca = Value.slice A xs.length ca by rw [hx])
  have HX := Lib.hid hx
  have HA := Lib.hid hA
  have RL := Lib.hid R.lt
  have R := Lib.hid R
  have HT := Lib.hid hT
  have HB := Lib.hid (below_alloc w)
  have SM := Lib.hid (fun (A B : Option Addr) ca cb W Ra Rb => Sm.same A B n n ca cb xs hx.symm hx.symm (by omega) W Ra Rb)
  have h1 : ¬ 100 < (n : Int) := by omega
  have RU := Lib.hid (fun (A : Option Addr) ca W => run_len A n ca o s N d hv hN (by omega) W)
  have RG := Lib.hid (fun W => rgood o s N n (by omega) true (by simp [hv.gv]) W)
  have FD := Lib.hid (fun W => show Calls Tryd.prog 17 #[.int .i64 (N : Int)] W fun e w' => e = .returned (.int .i64 (-1)) ∧ W = w' from Sh.Fit.ref (r := 0) (o := false) (Or.inr ⟨hN, rfl, rfl⟩) W)
  clear hv hN hx hA hT
  go_enter Tryd.func4, Tryd.ntmps4
  go_upto_region 1 with fail
  have V0 := Lib.hid (Vi.fresh w o s N 24)
  have b0 := Lib.hid (HB.out (.cells #[.int .i64 (o : Int), .int .i64 (s : Int), .int .i64 (N : Int)] 24))
  clear HB
  generalize w.alloc (.cells #[.int .i64 (o : Int), .int .i64 (s : Int), .int .i64 (N : Int)] 24) = w0 at *
  go_wp2_with fail
  refine (awake _ (HT.out.below b0.out)).mono ?_
  rintro e w1 ⟨rfl, h1⟩
  have c1 := Lib.hid (b0.out.trans (h1.mono b0.out.size))
  have V1 := Lib.hid (V0.out.below h1)
  clear h1 V0 b0
  have O3 := Lib.hid (Ow.fresh w1 w1.heap.size (Nat.le_refl _))
  have RA3 := Lib.hid ((R.out.step c1.out).alloc (Nat.le_refl _) (.cells #[] 51))
  have BA3 := Lib.hid (below_alloc w1 (.cells #[] 51))
  go_upto_region 6 with (at_builtin; (refine append_all (w1.alloc (.cells #[] 51)) ?hgd (.tmp 15) (.tmp 16) ?ho w1.heap.size (.slice (some ⟨w1.heap.size, 0, none⟩) 0 0) [] ?hs O3.out w1.heap.size A ca xs ?hx RA3.out HA.out ?c1 ?c2 (fun v3 w3 OO hg => ?_)); (case hgd => rfl); (case ho => rfl); (case hs => rfl); (case hx => exact HXE.out))
  case c1 => have := HX.out; simp only [List.length_nil]; omega
  case c2 => simp
  obtain ⟨A3, k3, rfl, Y3, d3⟩ := copied HX.out RL.out O3.out BA3.out OO hg
  have Y3 := Lib.hid Y3
  have d3 := Lib.hid d3
  have c3 := Lib.hid (c1.out.trans (d3.out.mono c1.out.size))
  have V3 := Lib.hid (V1.out.below d3.out)
  clear O3 RA3 BA3 OO hg V1
  obtain ⟨t0, t1, t2⟩ := V3.out
  go_wp2_with fail
  refine (RU.out _ _ _).mono ?_
  rintro e w4 ⟨rfl, d4⟩
  have d4 := Lib.hid d4
  have c4 := Lib.hid (c3.out.trans (d4.out.mono c3.out.size))
  have V4 := Lib.hid (V3.out.below d4.out)
  have Y4 := Lib.hid (Y3.out.step d4.out)
  clear t0 t1 t2 V3 Y3 d4 c3
  obtain ⟨t0, t1, t2⟩ := V4.out
  go_wp2_with fail
  refine (RG.out _).mono ?_
  rintro e w5 ⟨rfl, d5⟩
  have d5 := Lib.hid d5
  have c5 := Lib.hid (c4.out.trans (d5.out.mono c4.out.size))
  have V5 := Lib.hid (V4.out.below d5.out)
  have Y5 := Lib.hid (Y4.out.step d5.out)
  clear t0 t1 t2 V4 Y4 d5 c4
  obtain ⟨t0, t1, t2⟩ := V5.out
  go_wp2_with fail
  refine (FD.out _).mono ?_
  rintro e w' ⟨rfl, rfl⟩
  clear t0 t1 t2
  obtain ⟨t0, t1, t2⟩ := V5.out
  go_wp2_with fail
  refine (SM.out _ _ _ _ _ (R.out.step c5.out) Y5.out).mono ?_
  rintro e w6 ⟨rfl, d6⟩
  have d6 := Lib.hid d6
  have c6 := Lib.hid (c5.out.trans (d6.out.mono c5.out.size))
  have V6 := Lib.hid (V5.out.below d6.out)
  clear t0 t1 t2 V5 d6 c5
  go_wp2
  go_ret
  exact ⟨by simp [go_sem], c6.out⟩

set_option maxHeartbeats 1000000 in
set_option maxRecDepth 100000 in
theorem walk_kind (A : Option Addr) (ca n : Nat) (xs : List Nat) (o s N k : Nat) (d : Int) (hl : n ≤ 100) (hv : Vg o s N n) (hN : N = 2 ^ k) (hk : k ≤ 32) (h0 : d ≠ 0) (h01 : d ≠ 1) (hx : xs.length = n) (hA : A = none → ca = 0) (w : World) (hT : Ft.Tab w) (R : Ws w w.heap.size A xs) :
    Calls Tryd.prog 4 #[.slice A n ca, .agg #[.int .i64 (o : Int), .int .i64 (s : Int), .int .i64 (N : Int)], .int .i64 d] w fun e w' => e = .returned (.bool true) ∧ Below w.heap.size w w' := by
  have HXE := Lib.hid (show Value.slice A n ca = Value.slice A xs.length ca by rw [hx])
  have HX := Lib.hid hx
  have HA := Lib.hid hA
  have RL := Lib.hid R.lt
  have R := Lib.hid R
  have HT := Lib.hid hT
  have HB := Lib.hid (below_alloc w)
  have SM := Lib.hid (fun (A B : Option Addr) ca cb W Ra Rb => Sm.same A B n n ca cb xs hx.symm hx.symm (by omega) W Ra Rb)
  have h1 : ¬ 100 < (n : Int) := by omega
  have RU := Lib.hid (fun (A : Option Addr) ca W T (X : Ws W W.heap.size A (rg (Pn.pl xs) n)) => run_kind A n ca o s N k d (Pn.pl xs) hv hN h0 h01 (by omega) W T X)
  have RE := Lib.hid (show rg (Pn.pl xs) n = xs from rg_pl hx)
  have RG := Lib.hid (fun W => rgood o s N n (by omega) true (by simp [hv.gv]) W)
  have FD := Lib.hid (fun W => fits_doc N k hk hN W)
  have d0 : (d != 0) = true := by simp [h0]
  have d1 : (d != 1) = true := by simp [h01]
  clear hv hN h0 h01 hx hA hT
  go_enter Tryd.func4, Tryd.ntmps4
  go_upto_region 1 with fail
  have V0 := Lib.hid (Vi.fresh w o s N 24)
  have b0 := Lib.hid (HB.out (.cells #[.int .i64 (o : Int), .int .i64 (s : Int), .int .i64 (N : Int)] 24))
  clear HB
  generalize w.alloc (.cells #[.int .i64 (o : Int), .int .i64 (s : Int), .int .i64 (N : Int)] 24) = w0 at *
  go_wp2_with fail
  refine (awake _ (HT.out.below b0.out)).mono ?_
  rintro e w1 ⟨rfl, h1⟩
  have c1 := Lib.hid (b0.out.trans (h1.mono b0.out.size))
  have V1 := Lib.hid (V0.out.below h1)
  clear h1 V0 b0
  have O3 := Lib.hid (Ow.fresh w1 w1.heap.size (Nat.le_refl _))
  have RA3 := Lib.hid ((R.out.step c1.out).alloc (Nat.le_refl _) (.cells #[] 51))
  have BA3 := Lib.hid (below_alloc w1 (.cells #[] 51))
  go_upto_region 6 with (at_builtin; (refine append_all (w1.alloc (.cells #[] 51)) ?hgd (.tmp 15) (.tmp 16) ?ho w1.heap.size (.slice (some ⟨w1.heap.size, 0, none⟩) 0 0) [] ?hs O3.out w1.heap.size A ca xs ?hx RA3.out HA.out ?c1 ?c2 (fun v3 w3 OO hg => ?_)); (case hgd => rfl); (case ho => rfl); (case hs => rfl); (case hx => exact HXE.out))
  case c1 => have := HX.out; simp only [List.length_nil]; omega
  case c2 => simp
  obtain ⟨A3, k3, rfl, Y3, d3⟩ := copied HX.out RL.out O3.out BA3.out OO hg
  have Y3 := Lib.hid Y3
  have d3 := Lib.hid d3
  have c3 := Lib.hid (c1.out.trans (d3.out.mono c1.out.size))
  have V3 := Lib.hid (V1.out.below d3.out)
  clear O3 RA3 BA3 OO hg V1
  obtain ⟨t0, t1, t2⟩ := V3.out
  go_wp2_with fail
  refine (RU.out _ _ _ (HT.out.below c3.out) (by rw [RE.out]; exact Y3.out)).mono ?_
  rintro e w4 ⟨rfl, d4⟩
  have d4 := Lib.hid d4
  have c4 := Lib.hid (c3.out.trans (d4.out.mono c3.out.size))
  have V4 := Lib.hid (V3.out.below d4.out)
  have Y4 := Lib.hid (Y3.out.step d4.out)
  clear t0 t1 t2 V3 Y3 d4 c3
  obtain ⟨t0, t1, t2⟩ := V4.out
  go_wp2_with fail
  refine (RG.out _).mono ?_
  rintro e w5 ⟨rfl, d5⟩
  have d5 := Lib.hid d5
  have c5 := Lib.hid (c4.out.trans (d5.out.mono c4.out.size))
  have V5 := Lib.hid (V4.out.below d5.out)
  have Y5 := Lib.hid (Y4.out.step d5.out)
  clear t0 t1 t2 V4 Y4 d5 c4
  obtain ⟨t0, t1, t2⟩ := V5.out
  go_wp2_with fail
  refine (FD.out _).mono ?_
  rintro e w' ⟨rfl, rfl⟩
  clear t0 t1 t2
  obtain ⟨t0, t1, t2⟩ := V5.out
  go_wp2_with fail
  refine (SM.out _ _ _ _ _ (R.out.step c5.out) Y5.out).mono ?_
  rintro e w6 ⟨rfl, d6⟩
  have d6 := Lib.hid d6
  have c6 := Lib.hid (c5.out.trans (d6.out.mono c5.out.size))
  have V6 := Lib.hid (V5.out.below d6.out)
  clear t0 t1 t2 V5 d6 c5
  go_wp2
  go_ret
  exact ⟨by simp [go_sem], c6.out⟩

set_option maxHeartbeats 1000000 in
set_option maxRecDepth 100000 in
theorem walk_in (A : Option Addr) (ca n : Nat) (xs : List Nat) (o s N k d : Nat) (hl : n ≤ 100) (hv : Vg o s N n) (hN : N = 2 ^ k) (hk : k ≤ 32) (hd : d ≤ 1) (hx : xs.length = n) (hA : A = none → ca = 0) (w : World) (hT : Ft.Tab w) (R : Ws w w.heap.size A xs) :
    Calls Tryd.prog 4 #[.slice A n ca, .agg #[.int .i64 (o : Int), .int .i64 (s : Int), .int .i64 (N : Int)], .int .i64 (d : Int)] w fun e w' => e = .returned (.bool true) ∧ Below w.heap.size w w' := by
  have HXE := Lib.hid (show Value.slice A n ca = Value.slice A xs.length ca by rw [hx])
  have HX := Lib.hid hx
  have HA := Lib.hid hA
  have RL := Lib.hid R.lt
  have R := Lib.hid R
  have HT := Lib.hid hT
  have HB := Lib.hid (below_alloc w)
  have h1 : ¬ 100 < (n : Int) := by omega
  have hk20 : k ≤ 20 := by
    have h1 := hv.hN
    rw [hN] at h1
    exact (Nat.pow_le_pow_iff_right (a := 2) (by decide)).1 (Nat.le_trans h1 (show 1048576 ≤ 2 ^ 20 by decide))
  have N0 := Lib.hid (show 0 < n by have := hv.lt (i := 0) (by rw [hN]; exact Nat.two_pow_pos k); omega)
  have LT : ∀ i, i < n → Pn.pl xs i < 18446744073709551616 := fun i hi => R.out.lt i (by omega)
  have RU := Lib.hid (fun b ca W T J => run b n ca o s N k d (Pn.pl xs) hv hN hd (by omega) LT W T J)
  have RE := Lib.hid (show rg (Pn.pl xs) n = xs from rg_pl hx)
  have RG := Lib.hid (fun W => rgood o s N n (by omega) true (by simp [hv.gv]) W)
  have FD := Lib.hid (fun W => fits_doc N k hk hN W)
  have RR := Lib.hid (fun W (X : Ws W W.heap.size A (rg (Pn.pl xs) n)) => rrun A n ca o s N k d (Pn.pl xs) hA hv hN hk20 hd (by omega) W X)
  have G1 := Lib.hid (fun j (hj : j < n) => show vt k d (Pn.pl xs) o s N j < 18446744073709551616 from vt_lt j (LT j hj))
  have SG := Lib.hid (fun (g h : Nat → Nat) (e : ∀ i, i < n → g i = h i) (A B : Option Addr) (ca cb : Nat) W Ra Rb => same_rg (n := n) e (by omega) A B ca cb W Ra Rb)
  generalize vt k d (Pn.pl xs) o s N = g1 at *
  have DD : d = 0 ∨ d = 1 := by omega
  clear LT hd hv hN hk hk20 hx hA hT
  rcases DD with rfl | rfl
  · skip
    go_enter Tryd.func4, Tryd.ntmps4
    go_upto_region 1 with fail
    have V0 := Lib.hid (Vi.fresh w o s N 24)
    have b0 := Lib.hid (HB.out (.cells #[.int .i64 (o : Int), .int .i64 (s : Int), .int .i64 (N : Int)] 24))
    clear HB
    generalize w.alloc (.cells #[.int .i64 (o : Int), .int .i64 (s : Int), .int .i64 (N : Int)] 24) = w0 at *
    go_wp2_with fail
    refine (awake _ (HT.out.below b0.out)).mono ?_
    rintro e w1 ⟨rfl, h1⟩
    have c1 := Lib.hid (b0.out.trans (h1.mono b0.out.size))
    have V1 := Lib.hid (V0.out.below h1)
    have V0B := Lib.hid (show w.heap.size < w1.heap.size from V1.out.lt)
    clear h1 V0 b0
    have O3 := Lib.hid (Ow.fresh w1 w1.heap.size (Nat.le_refl _))
    have RA3 := Lib.hid ((R.out.step c1.out).alloc (Nat.le_refl _) (.cells #[] 51))
    have BA3 := Lib.hid (below_alloc w1 (.cells #[] 51))
    go_upto_region 6 with (at_builtin; (refine append_all (w1.alloc (.cells #[] 51)) ?hgd (.tmp 15) (.tmp 16) ?ho w1.heap.size (.slice (some ⟨w1.heap.size, 0, none⟩) 0 0) [] ?hs O3.out w1.heap.size A ca xs ?hx RA3.out HA.out ?c1 ?c2 (fun v3 w3 OO hg => ?_)); (case hgd => rfl); (case ho => rfl); (case hs => rfl); (case hx => exact HXE.out))
    case c1 => have := HX.out; simp only [List.length_nil]; omega
    case c2 => simp
    obtain ⟨b3, k3, rfl, hk3, hk4, hb3, J3, d3⟩ := copied_cap HX.out N0.out O3.out BA3.out OO hg
    have J3 := Lib.hid J3
    have hk3 := Lib.hid hk3
    have hk4 := Lib.hid hk4
    have hb3 := Lib.hid hb3
    have d3 := Lib.hid d3
    have c3 := Lib.hid (c1.out.trans (d3.out.mono c1.out.size))
    have V3 := Lib.hid (V1.out.below d3.out)
    clear O3 RA3 BA3 OO hg V1
    obtain ⟨t0, t1, t2⟩ := V3.out
    go_wp2_with fail
    refine (RU.out _ _ _ (HT.out.below c3.out) J3.out).mono ?_
    rintro e w4 ⟨rfl, J4⟩
    have J4 := Lib.hid J4
    have c4 := Lib.hid (c3.out.trans (J4.out.bel.mono (Nat.le_trans c1.out.size hb3.out)))
    have V4 := Lib.hid (V3.out.but (by have := V0B.out; have := hb3.out; omega) J4.out.o)
    have Y4 := Lib.hid (show Ws w4 w4.heap.size (some ⟨b3, 0, none⟩) (rg g1 n) from J4.out.k.ws G1.out J4.out.s)
    clear t0 t1 t2 V3 J3 J4 c3
    obtain ⟨t0, t1, t2⟩ := V4.out
    go_wp2_with fail
    refine (RG.out _).mono ?_
    rintro e w5 ⟨rfl, d5⟩
    have d5 := Lib.hid d5
    have c5 := Lib.hid (c4.out.trans (d5.out.mono c4.out.size))
    have V5 := Lib.hid (V4.out.below d5.out)
    have Y5 := Lib.hid (Y4.out.step d5.out)
    clear t0 t1 t2 V4 Y4 d5 c4
    obtain ⟨t0, t1, t2⟩ := V5.out
    go_wp2_with fail
    refine (FD.out _).mono ?_
    rintro e w' ⟨rfl, rfl⟩
    clear t0 t1 t2
    obtain ⟨t0, t1, t2⟩ := V5.out
    go_wp2_with fail
    refine (RR.out _ (by rw [RE.out]; exact R.out.step c5.out)).mono ?_
    rintro e w6 ⟨A6, k6, rfl, Y6, d6⟩
    have c6 := Lib.hid (c5.out.trans (d6.mono c5.out.size))
    have X6 := Lib.hid (Y5.out.step d6)
    have Y6 := Lib.hid Y6
    clear t0 t1 t2 V5 Y5 d6 c5
    go_wp2_with fail
    refine (SG.out _ _ (fun _ _ => rfl) _ _ _ _ _ X6.out Y6.out).mono ?_
    rintro e w7 ⟨rfl, d7⟩
    have c7 := Lib.hid (c6.out.trans (d7.mono c6.out.size))
    clear X6 Y6 d7 c6
    go_wp2
    go_ret
    exact ⟨by simp [go_sem], c7.out⟩
  · skip
    go_enter Tryd.func4, Tryd.ntmps4
    go_upto_region 1 with fail
    have V0 := Lib.hid (Vi.fresh w o s N 24)
    have b0 := Lib.hid (HB.out (.cells #[.int .i64 (o : Int), .int .i64 (s : Int), .int .i64 (N : Int)] 24))
    clear HB
    generalize w.alloc (.cells #[.int .i64 (o : Int), .int .i64 (s : Int), .int .i64 (N : Int)] 24) = w0 at *
    go_wp2_with fail
    refine (awake _ (HT.out.below b0.out)).mono ?_
    rintro e w1 ⟨rfl, h1⟩
    have c1 := Lib.hid (b0.out.trans (h1.mono b0.out.size))
    have V1 := Lib.hid (V0.out.below h1)
    have V0B := Lib.hid (show w.heap.size < w1.heap.size from V1.out.lt)
    clear h1 V0 b0
    have O3 := Lib.hid (Ow.fresh w1 w1.heap.size (Nat.le_refl _))
    have RA3 := Lib.hid ((R.out.step c1.out).alloc (Nat.le_refl _) (.cells #[] 51))
    have BA3 := Lib.hid (below_alloc w1 (.cells #[] 51))
    go_upto_region 6 with (at_builtin; (refine append_all (w1.alloc (.cells #[] 51)) ?hgd (.tmp 15) (.tmp 16) ?ho w1.heap.size (.slice (some ⟨w1.heap.size, 0, none⟩) 0 0) [] ?hs O3.out w1.heap.size A ca xs ?hx RA3.out HA.out ?c1 ?c2 (fun v3 w3 OO hg => ?_)); (case hgd => rfl); (case ho => rfl); (case hs => rfl); (case hx => exact HXE.out))
    case c1 => have := HX.out; simp only [List.length_nil]; omega
    case c2 => simp
    obtain ⟨b3, k3, rfl, hk3, hk4, hb3, J3, d3⟩ := copied_cap HX.out N0.out O3.out BA3.out OO hg
    have J3 := Lib.hid J3
    have hk3 := Lib.hid hk3
    have hk4 := Lib.hid hk4
    have hb3 := Lib.hid hb3
    have d3 := Lib.hid d3
    have c3 := Lib.hid (c1.out.trans (d3.out.mono c1.out.size))
    have V3 := Lib.hid (V1.out.below d3.out)
    clear O3 RA3 BA3 OO hg V1
    obtain ⟨t0, t1, t2⟩ := V3.out
    go_wp2_with fail
    refine (RU.out _ _ _ (HT.out.below c3.out) J3.out).mono ?_
    rintro e w4 ⟨rfl, J4⟩
    have J4 := Lib.hid J4
    have c4 := Lib.hid (c3.out.trans (J4.out.bel.mono (Nat.le_trans c1.out.size hb3.out)))
    have V4 := Lib.hid (V3.out.but (by have := V0B.out; have := hb3.out; omega) J4.out.o)
    have Y4 := Lib.hid (show Ws w4 w4.heap.size (some ⟨b3, 0, none⟩) (rg g1 n) from J4.out.k.ws G1.out J4.out.s)
    clear t0 t1 t2 V3 J3 J4 c3
    obtain ⟨t0, t1, t2⟩ := V4.out
    go_wp2_with fail
    refine (RG.out _).mono ?_
    rintro e w5 ⟨rfl, d5⟩
    have d5 := Lib.hid d5
    have c5 := Lib.hid (c4.out.trans (d5.out.mono c4.out.size))
    have V5 := Lib.hid (V4.out.below d5.out)
    have Y5 := Lib.hid (Y4.out.step d5.out)
    clear t0 t1 t2 V4 Y4 d5 c4
    obtain ⟨t0, t1, t2⟩ := V5.out
    go_wp2_with fail
    refine (FD.out _).mono ?_
    rintro e w' ⟨rfl, rfl⟩
    clear t0 t1 t2
    obtain ⟨t0, t1, t2⟩ := V5.out
    go_wp2_with fail
    refine (RR.out _ (by rw [RE.out]; exact R.out.step c5.out)).mono ?_
    rintro e w6 ⟨A6, k6, rfl, Y6, d6⟩
    have c6 := Lib.hid (c5.out.trans (d6.mono c5.out.size))
    have X6 := Lib.hid (Y5.out.step d6)
    have Y6 := Lib.hid Y6
    clear t0 t1 t2 V5 Y5 d6 c5
    go_wp2_with fail
    refine (SG.out _ _ (fun _ _ => rfl) _ _ _ _ _ X6.out Y6.out).mono ?_
    rintro e w7 ⟨rfl, d7⟩
    have c7 := Lib.hid (c6.out.trans (d7.mono c6.out.size))
    clear X6 Y6 d7 c6
    go_wp2
    go_ret
    exact ⟨by simp [go_sem], c7.out⟩

theorem walk (A : Option Addr) (ca n : Nat) (xs : List Nat) (o s N d : Int) (hx : xs.length = n) (hA : A = none → ca = 0) (w : World) (hT : Ft.Tab w) (R : Ws w w.heap.size A xs) :
    Calls Tryd.prog 4 #[.slice A n ca, .agg #[.int .i64 o, .int .i64 s, .int .i64 N], .int .i64 d] w fun e w' => e = .returned (.bool true) ∧ Below w.heap.size w w' := by
  by_cases hl : n ≤ 100
  · by_cases hg : Gv o s N n
    · obtain ⟨o, s, N, rfl, rfl, rfl, hv⟩ := hg.nat
      by_cases hN : ∃ k : Nat, k ≤ 32 ∧ (N : Int) = ((2 ^ k : Nat) : Int)
      · obtain ⟨k, hk, hN⟩ := hN
        have hN2 : N = 2 ^ k := by omega
        by_cases h0 : d = 0 ∨ d = 1
        · obtain ⟨dn, rfl, hd⟩ : ∃ dn : Nat, d = (dn : Int) ∧ dn ≤ 1 := by
            rcases h0 with h | h
            · exact ⟨0, h, by omega⟩
            · exact ⟨1, h, by omega⟩
          exact walk_in A ca n xs o s N k dn hl hv hN2 hk hd hx hA w hT R
        · exact walk_kind A ca n xs o s N k d hl hv hN2 hk (fun h => h0 (Or.inl h)) (fun h => h0 (Or.inr h)) hx hA w hT R
      · exact walk_len A ca n xs o s N d hl hv (fun j hj e => hN ⟨j, hj, e⟩) hx hA w hT R
    · exact walk_no A ca n xs o s N d hl hg hx hA w hT R
  · exact walk_long A ca n o s N d (by omega) w hT

theorem g32 : Tryd.prog.globalNamed "math/bits.deBruijn32tab" = some 0 := by kernel_rfl
theorem g64 : Tryd.prog.globalNamed "math/bits.deBruijn64tab" = some 1 := by kernel_rfl
theorem t64 : (Tryd.prog.globals[1]?).map (·.type) = some 106 := by kernel_rfl
/-- What the row's condition gives the walk: the table's cells. -/
theorem of_laid {W : World} (h : laidMetH Tryd.prog Rows.rowsRunRow.laid W) : Ft.Tab W := by
  rw [MakeChecks.laidMetH_plain _ _ _ (by kernel_rfl)] at h
  obtain ⟨ps, ⟨g0, t0, cs0, f0, p0, q0, hg0, ht0, hv0, hd0, ⟨g1, t1, cs1, f1, p1, q1, hg1, ht1, hv1, hd1, _, _⟩, _⟩, _, _⟩ := h
  obtain rfl := Option.some.inj (g64.symm.trans hg1)
  obtain rfl := Option.some.inj (t64.symm.trans ht1)
  have hd2 : DataW.trod _ Tryd.prog W 0 _ false f1 106 cs1.toList = some (Lib.tabData .u8 (Lib.deBruijn64tab.map Int.ofNat), p1) := hd1
  have hc := Lib.cells_of_tab Tryd.underlying106 Tryd.underlying5 (by kernel_rfl) (by kernel_rfl) hd2
  intro i hi
  have c := World.var?_cell hg1 hv1 i
  rw [c, ← Array.getElem?_toList, hc]
  have hl : Lib.deBruijn64tab.length = 64 := by decide
  simp [List.getD, hl, hi]

/-- The door's own heap meets the condition. -/
theorem door_met (os : Os) (args : Array Value) : laidMetH Tryd.prog Rows.rowsRunRow.laid ((World.doorLaid Tryd.prog 400 os).forCall (fun _ _ => 0) ⟨#[], args, []⟩).memory :=
  laidMetH_of_parts3 (fuel := 8) (laidMet_of_run' 8 (by kernel_rfl) (by kernel_rfl)) (by kernel_rfl) (by kernel_rfl)
set_option maxRecDepth 100000 in
theorem lifted (os : Os) (started : os.Started) (H : Type) (enc : TypeId × Value → H) :
    ReturnsInHanded {} Tryd.checked os 4 .any (fun w args => (Rows.rowsRunSpec.pre enc Tryd.prog Tryd.f4 [] false w args ∧ laidMetH Tryd.prog Rows.rowsRunRow.laid w) ∧ sizedMet enc Tryd.prog Tryd.f4 (OpenSpec.ofChange Rows.rowsRunSpec) false w args)
      (Rows.rowsRunSpec.post enc Tryd.prog Tryd.f4 false true false false) := by
  refine returnsInHanded_of_change_and (C := Tryd.checked) (X := fun w _ => laidMetH Tryd.prog Rows.rowsRunRow.laid w) (fun _ _ _ hh h => h.of_heap hh) Fr.own started (by kernel_rfl) Tryd.func4
    (ChangeSpec.witness_shaped (enc := enc) (C := Tryd.checked) (os := os) (X := fun w _ => laidMetH Tryd.prog Rows.rowsRunRow.laid w) false (World.doorLaid Tryd.prog 400 os) #[.slice none 0 0, .agg #[.int .i64 0, .int .i64 0, .int .i64 0], .int .i64 0] 8 rfl (World.shaped_of_RefB (by kernel_rfl) (by kernel_rfl)) (by kernel_rfl) (by kernel_rfl) (by kernel_rfl) (door_met os _)) ?_
  intro W base args ds gs before hval0 hW _ _ hL _
  have hval : ∀ (j : Nat) t v, Tryd.f4.params[j]? = some t → args[j]? = some v → Value.okWide Tryd.prog W .any base t v := hval0
  have hW' := hW
  obtain ⟨p, q, hA0, hV, rfl, hfz, hnd⟩ := hW
  have hA : DataW.TrodAll enc Tryd.prog W 0 (fun _ => true) true Tryd.f4.params.toList args.toList ds p := hA0
  obtain ⟨rfl, rfl⟩ := trodVars_none hV
  rw [Tryd.params4] at hA hval
  obtain ⟨v0, vs0, d0, ds0, p0, q0, hargs, rfl, rfl, h0, r0⟩ := trodAll_cons hA
  obtain ⟨v1, vs1, d1, ds1, p1, q1, rfl, rfl, rfl, h1, r1⟩ := trodAll_cons r0
  obtain ⟨v2, vs2, d2, ds2, p2, q2, rfl, rfl, rfl, h2, r2⟩ := trodAll_cons r1
  obtain ⟨rfl, rfl, rfl⟩ := trodAll_nil r2
  obtain rfl : args = #[v0, v1, v2] := by cases args; simp_all
  obtain ⟨A0, n0, c0, rfl⟩ := okWide_slice Tryd.underlying22 (hval 0 22 v0 rfl rfl)
  obtain ⟨fuel0, hf0⟩ := h0
  obtain ⟨xs0, rfl, lc0, lm0, R0⟩ := Ww.open_words hf0
  obtain ⟨a1, b1, c1, rfl, rfl, _, _⟩ := Vw.open_view (hval 1 24 v1 rfl rfl) h1
  obtain ⟨x2, rfl, rfl, rfl, w2⟩ := open_int Tryd.underlying3 (hval 2 3 v2 rfl rfl) h2
  have b2 : -9223372036854775808 ≤ x2 ∧ x2 ≤ 9223372036854775807 := by simpa [Lit.wf, IntKind.min, IntKind.max, IntKind.signed, IntKind.bits] using w2
  simp only [List.append_nil] at hW' hA0
  refine (walk A0 c0 xs0.length xs0 a1 b1 c1 x2 rfl (nil_cap hf0) W (of_laid hL) R0).mono fun e W' ⟨he, hb⟩ => ?_
  subst he
  exact ⟨_, rfl, Fr.law_post (tb := 4) hW' hA0 rfl rfl rfl Tryd.underlying4 (by rw [Tryd.params4]; intro t ht; simp at ht; rcases ht with rfl | rfl | rfl; all_goals exact ⟨by kernel_rfl, of_decide_eq_true (by kernel_rfl)⟩) hb⟩

theorem row_holds : Rows.RowsRunSaid :=
  OpenClaim.holds_of_wide 4 Tryd.f4 rfl rfl rfl rfl rfl rfl rfl ⟨rfl, rfl, rfl, rfl, rfl⟩ rfl rfl rfl rfl rfl (by kernel_rfl) Tryd.func4 (by kernel_rfl)
    (of_decide_eq_true (by kernel_rfl)) (by unfold Func.isWrapper; first | (rw [if_pos (by decide +kernel)]; kernel_rfl) | (rw [if_neg (by decide +kernel)]; exact ⟨rfl, rfl⟩))
    (fun os started H enc _ => lifted os started H enc)

theorem proved : Rows.RowsRunCardSaid :=
  Claim7.holds_tied_plain_at .later [] [.data, .data] true Rows.rowsRunCard.stood.harness false
    row_holds (fun _ h => by cases h) (by kernel_rfl) (fun _ h => by cases h) rowsRun_row_tie rfl ⟨rfl, rfl⟩ (by kernel_rfl) rfl
    (fun f fn hf hfn => by
      obtain rfl : f = 4 := Option.some.inj ((show Tryd.prog.funcNamed "abacist/abacistlaw11.RowsRun" = some 4 by kernel_rfl).symm.trans hf) |>.symm
      obtain rfl : fn = Tryd.f4 := (Option.some.inj (Tryd.func4.symm.trans hfn)).symm
      exact ⟨by kernel_rfl, fun j t ht => by
        rw [Tryd.params4] at ht
        have hm : t ∈ [22, 24, 3] := by simpa using Array.mem_of_getElem? ht
        have hall : ([22, 24, 3].all fun u => !Tryd.prog.wantsStandIn u) = true := by kernel_rfl
        exact (show Tryd.prog.wantsStandIn t = false by simpa using List.all_eq_true.1 hall t hm)⟩)
    (by kernel_rfl)
end Go.Proofs.YtfjoacopnkceoaaDoor.rowsRun
