/- RowsViews: of every row, view and words the law of views answers true, and changes nothing, where the library's two tables are as their initialisers lay them (the card ties them to the program's text). -/
import Derived.Test.YtfjoacopnkceoaaDoorFrame
import Derived.Test.YtfjoacopnkceoaaDoorViewS
import Derived.Test.YtfjoacopnkceoaaDoorViewO
import Derived.Test.YtfjoacopnkceoaaDoorTie
import Derived.Test.YtfjoacopnkceoaaDoorCards
import Derived.Lib.LaidTab
import Derived.LaidMore
import Derived.Stop.Joined
import Derived.SevenTiedAt
set_option linter.unusedVariables false
namespace Go.Proofs.YtfjoacopnkceoaaDoor.rowsViews
open Go.ChangeShapes Go.WideShapes Go.ChangeAt Go.RowKit
open Vw Kn Td Tn Ww Pl

set_option maxHeartbeats 1000000 in
set_option maxRecDepth 100000 in
theorem walk_long (A B : Option Addr) (ca cb n m : Nat) (o s N : Int) (hl : 100 < n) (w : World) (hT : Ft.Tab w) :
    Calls Tryd.prog 3 #[.slice A n ca, .agg #[.int .i64 o, .int .i64 s, .int .i64 N], .slice B m cb] w fun e w' => e = .returned (.bool true) ∧ Below w.heap.size w w' := by
  have h1 : 100 < (n : Int) := by omega
  have HT := Lib.hid hT
  have HB := Lib.hid (below_alloc w)
  go_enter Tryd.func3, Tryd.ntmps3
  go_upto_region 1 with fail
  have V0 := Lib.hid (Vi.fresh w o s N 24)
  have b0 := Lib.hid (HB.out (.cells #[.int .i64 o, .int .i64 s, .int .i64 N] 24))
  clear HB
  generalize w.alloc (.cells #[.int .i64 o, .int .i64 s, .int .i64 N] 24) = w0 at *
  go_wp2_with fail
  refine (awake _ (HT.out.below b0.out)).mono ?_
  rintro e w1 ⟨rfl, h1⟩
  have c1 := Lib.hid (b0.out.trans (h1.mono b0.out.size))
  have V1 := Lib.hid (V0.out.below h1)
  clear h1 V0 b0
  go_wp2
  go_ret
  exact ⟨by simp [go_sem], c1.out⟩

set_option maxHeartbeats 1000000 in
set_option maxRecDepth 100000 in
theorem walk_long2 (A B : Option Addr) (ca cb n m : Nat) (o s N : Int) (hl : n ≤ 100) (hl2 : 100 < m) (w : World) (hT : Ft.Tab w) :
    Calls Tryd.prog 3 #[.slice A n ca, .agg #[.int .i64 o, .int .i64 s, .int .i64 N], .slice B m cb] w fun e w' => e = .returned (.bool true) ∧ Below w.heap.size w w' := by
  have h1 : ¬ 100 < (n : Int) := by omega
  have h2 : 100 < (m : Int) := by omega
  have HT := Lib.hid hT
  have HB := Lib.hid (below_alloc w)
  go_enter Tryd.func3, Tryd.ntmps3
  go_upto_region 1 with fail
  have V0 := Lib.hid (Vi.fresh w o s N 24)
  have b0 := Lib.hid (HB.out (.cells #[.int .i64 o, .int .i64 s, .int .i64 N] 24))
  clear HB
  generalize w.alloc (.cells #[.int .i64 o, .int .i64 s, .int .i64 N] 24) = w0 at *
  go_wp2_with fail
  refine (awake _ (HT.out.below b0.out)).mono ?_
  rintro e w1 ⟨rfl, h1⟩
  have c1 := Lib.hid (b0.out.trans (h1.mono b0.out.size))
  have V1 := Lib.hid (V0.out.below h1)
  clear h1 V0 b0
  go_wp2
  go_ret
  exact ⟨by simp [go_sem], c1.out⟩

set_option maxHeartbeats 1000000 in
set_option maxRecDepth 100000 in
theorem walk_no (A B : Option Addr) (ca cb n m : Nat) (xs ys : List Nat) (o s N : Int) (hl : n ≤ 100) (hl2 : m ≤ 100) (hv : ¬ Gv o s N n) (hx : xs.length = n) (hy : ys.length = m) (hA : A = none → ca = 0) (hB : B = none → cb = 0) (w : World) (hT : Ft.Tab w) (R : Ws w w.heap.size A xs) (R2 : Ws w w.heap.size B ys) :
    Calls Tryd.prog 3 #[.slice A n ca, .agg #[.int .i64 o, .int .i64 s, .int .i64 N], .slice B m cb] w fun e w' => e = .returned (.bool true) ∧ Below w.heap.size w w' := by
  have HXE := Lib.hid (show Value.slice A n ca = Value.slice A xs.length ca by rw [hx])
  have HX := Lib.hid hx
  have HA := Lib.hid hA
  have RL := Lib.hid R.lt
  have R := Lib.hid R
  have HT := Lib.hid hT
  have HB := Lib.hid (below_alloc w)
  have SM := Lib.hid (fun (A B : Option Addr) ca cb W Ra Rb => Sm.same A B n n ca cb xs hx.symm hx.symm (by omega) W Ra Rb)
  have h1 : ¬ 100 < (n : Int) := by omega
  have h2 : ¬ 100 < (m : Int) := by omega
  have RG := Lib.hid (fun W => rgood o s N n (by omega) false (by simp [hv]) W)
  have GO := Lib.hid (fun W => good_no hv (by omega) W)
  have GA := Lib.hid (fun W => gather_no A n ca o s N hv (by omega) W)
  have SC := Lib.hid (fun (A : Option Addr) ca W => scatter_no A B n ca m cb o s N hv (by omega) W)
  clear hv hx hA hT hy hB R2
  go_enter Tryd.func3, Tryd.ntmps3
  go_upto_region 1 with fail
  have V0 := Lib.hid (Vi.fresh w o s N 24)
  have b0 := Lib.hid (HB.out (.cells #[.int .i64 o, .int .i64 s, .int .i64 N] 24))
  clear HB
  generalize w.alloc (.cells #[.int .i64 o, .int .i64 s, .int .i64 N] 24) = w0 at *
  go_wp2_with fail
  refine (awake _ (HT.out.below b0.out)).mono ?_
  rintro e w1 ⟨rfl, h1⟩
  have c1 := Lib.hid (b0.out.trans (h1.mono b0.out.size))
  have V1 := Lib.hid (V0.out.below h1)
  clear h1 V0 b0
  obtain ⟨t0, t1, t2⟩ := V1.out
  go_wp2_with fail
  refine (RG.out _).mono ?_
  rintro e w2 ⟨rfl, d2⟩
  have d2 := Lib.hid d2
  have c2 := Lib.hid (c1.out.trans (d2.out.mono c1.out.size))
  have V2 := Lib.hid (V1.out.below d2.out)
  clear t0 t1 t2 V1 d2 c1
  obtain ⟨t0, t1, t2⟩ := V2.out
  go_wp2_with fail
  refine (GO.out _).mono ?_
  rintro e w3 ⟨rfl, d3⟩
  have d3 := Lib.hid d3
  have c3 := Lib.hid (c2.out.trans (d3.out.mono c2.out.size))
  have V3 := Lib.hid (V2.out.below d3.out)
  clear t0 t1 t2 V2 d3 c2
  have O3 := Lib.hid (Ow.fresh w3 w3.heap.size (Nat.le_refl _))
  have RA4 := Lib.hid ((R.out.step c3.out).alloc (Nat.le_refl _) (.cells #[] 51))
  have BA4 := Lib.hid (below_alloc w3 (.cells #[] 51))
  go_upto_region 9 with (at_builtin; (refine append_all (w3.alloc (.cells #[] 51)) ?hgd (.tmp 32) (.tmp 33) ?ho w3.heap.size (.slice (some ⟨w3.heap.size, 0, none⟩) 0 0) [] ?hs O3.out w3.heap.size A ca xs ?hx RA4.out HA.out ?c1 ?c2 (fun v4 w4 OO hg => ?_)); (case hgd => rfl); (case ho => rfl); (case hs => rfl); (case hx => exact HXE.out))
  case c1 => have := HX.out; simp only [List.length_nil]; omega
  case c2 => simp
  obtain ⟨A4, k4, rfl, Y4, d4⟩ := copied HX.out RL.out O3.out BA4.out OO hg
  have Y4 := Lib.hid Y4
  have d4 := Lib.hid d4
  have c4 := Lib.hid (c3.out.trans (d4.out.mono c3.out.size))
  have V4 := Lib.hid (V3.out.below d4.out)
  clear O3 RA4 BA4 OO hg V3
  obtain ⟨t0, t1, t2⟩ := V4.out
  go_wp2_with fail
  refine (GA.out _).mono ?_
  rintro e w5 ⟨rfl, d5⟩
  have d5 := Lib.hid d5
  have c5 := Lib.hid (c4.out.trans (d5.out.mono c4.out.size))
  have V5 := Lib.hid (V4.out.below d5.out)
  have Y5 := Lib.hid (Y4.out.step d5.out)
  clear t0 t1 t2 V4 Y4 d5 c4
  obtain ⟨t0, t1, t2⟩ := V5.out
  go_wp2_with fail
  refine (SC.out _ _ _).mono ?_
  rintro e w6 ⟨rfl, d6⟩
  have d6 := Lib.hid d6
  have c6 := Lib.hid (c5.out.trans (d6.out.mono c5.out.size))
  have V6 := Lib.hid (V5.out.below d6.out)
  have Y6 := Lib.hid (Y5.out.step d6.out)
  clear t0 t1 t2 V5 Y5 d6 c5
  obtain ⟨t0, t1, t2⟩ := V6.out
  go_wp2_with fail
  refine (SM.out _ _ _ _ _ (R.out.step c6.out) Y6.out).mono ?_
  rintro e w7 ⟨rfl, d7⟩
  have d7 := Lib.hid d7
  have c7 := Lib.hid (c6.out.trans (d7.out.mono c6.out.size))
  have V7 := Lib.hid (V6.out.below d7.out)
  clear t0 t1 t2 V6 d7 c6
  go_wp2
  go_ret
  exact ⟨by simp [go_sem], c7.out⟩

set_option maxHeartbeats 1000000 in
set_option maxRecDepth 100000 in
theorem walk_len (A B : Option Addr) (ca cb n m : Nat) (xs ys : List Nat) (o s N : Nat) (hl : n ≤ 100) (hl2 : m ≤ 100) (hv : Vg o s N n) (hm : m ≠ N) (hx : xs.length = n) (hy : ys.length = m) (hA : A = none → ca = 0) (hB : B = none → cb = 0) (w : World) (hT : Ft.Tab w) (R : Ws w w.heap.size A xs) (R2 : Ws w w.heap.size B ys) :
    Calls Tryd.prog 3 #[.slice A n ca, .agg #[.int .i64 (o : Int), .int .i64 (s : Int), .int .i64 (N : Int)], .slice B m cb] w fun e w' => e = .returned (.bool true) ∧ Below w.heap.size w w' := by
  have HXE := Lib.hid (show Value.slice A n ca = Value.slice A xs.length ca by rw [hx])
  have HX := Lib.hid hx
  have HA := Lib.hid hA
  have RL := Lib.hid R.lt
  have R := Lib.hid R
  have HT := Lib.hid hT
  have HB := Lib.hid (below_alloc w)
  have SM := Lib.hid (fun (A B : Option Addr) ca cb W Ra Rb => Sm.same A B n n ca cb xs hx.symm hx.symm (by omega) W Ra Rb)
  have h1 : ¬ 100 < (n : Int) := by omega
  have h2 : ¬ 100 < (m : Int) := by omega
  have RE := Lib.hid (show rg (Pn.pl xs) n = xs from rg_pl hx)
  have RG := Lib.hid (fun W => rgood o s N n (by omega) true (by simp [hv.gv]) W)
  have GO := Lib.hid (fun W => good_yes hv (by omega) W)
  have LG := Lib.hid (fun i (hi : i < N) => show gth (Pn.pl xs) o s i < 18446744073709551616 from R.out.lt _ (by have := hv.lt hi; omega))
  have GA := Lib.hid (fun W X => gather A n ca o s N (Pn.pl xs) hv (by omega) W X)
  have GR := Lib.hid (fun W X => rgather A n ca o s N (Pn.pl xs) hv (by omega) W X)
  have SG := Lib.hid (fun k (hk : k ≤ 1048576) (g h : Nat → Nat) (e : ∀ i, i < k → g i = h i) (A B : Option Addr) (ca cb : Nat) W Ra Rb => same_rg (n := k) e hk A B ca cb W Ra Rb)
  have NL := Lib.hid (show N ≤ 1048576 from hv.hN)
  have SC := Lib.hid (fun (A : Option Addr) ca W => scatter_len A B n ca m cb o s N hv hm (by omega) W)
  have ne : ((m : Int) != (N : Int)) = true := by simp; omega
  generalize gth (Pn.pl xs) o s = gf at *
  clear hv hx hA hT hm hy hB R2
  go_enter Tryd.func3, Tryd.ntmps3
  go_upto_region 1 with fail
  have V0 := Lib.hid (Vi.fresh w o s N 24)
  have b0 := Lib.hid (HB.out (.cells #[.int .i64 (o : Int), .int .i64 (s : Int), .int .i64 (N : Int)] 24))
  clear HB
  generalize w.alloc (.cells #[.int .i64 (o : Int), .int .i64 (s : Int), .int .i64 (N : Int)] 24) = w0 at *
  go_wp2_with fail
  refine (awake _ (HT.out.below b0.out)).mono ?_
  rintro e w1 ⟨rfl, h1⟩
  have c1 := Lib.hid (b0.out.trans (h1.mono b0.out.size))
  have V1 := Lib.hid (V0.out.below h1)
  clear h1 V0 b0
  obtain ⟨t0, t1, t2⟩ := V1.out
  go_wp2_with fail
  refine (RG.out _).mono ?_
  rintro e w2 ⟨rfl, d2⟩
  have d2 := Lib.hid d2
  have c2 := Lib.hid (c1.out.trans (d2.out.mono c1.out.size))
  have V2 := Lib.hid (V1.out.below d2.out)
  clear t0 t1 t2 V1 d2 c1
  obtain ⟨t0, t1, t2⟩ := V2.out
  go_wp2_with fail
  refine (GO.out _).mono ?_
  rintro e w3 ⟨rfl, d3⟩
  have d3 := Lib.hid d3
  have c3 := Lib.hid (c2.out.trans (d3.out.mono c2.out.size))
  have V3 := Lib.hid (V2.out.below d3.out)
  clear t0 t1 t2 V2 d3 c2
  have O3 := Lib.hid (Ow.fresh w3 w3.heap.size (Nat.le_refl _))
  have RA4 := Lib.hid ((R.out.step c3.out).alloc (Nat.le_refl _) (.cells #[] 51))
  have BA4 := Lib.hid (below_alloc w3 (.cells #[] 51))
  go_upto_region 9 with (at_builtin; (refine append_all (w3.alloc (.cells #[] 51)) ?hgd (.tmp 32) (.tmp 33) ?ho w3.heap.size (.slice (some ⟨w3.heap.size, 0, none⟩) 0 0) [] ?hs O3.out w3.heap.size A ca xs ?hx RA4.out HA.out ?c1 ?c2 (fun v4 w4 OO hg => ?_)); (case hgd => rfl); (case ho => rfl); (case hs => rfl); (case hx => exact HXE.out))
  case c1 => have := HX.out; simp only [List.length_nil]; omega
  case c2 => simp
  obtain ⟨A4, k4, rfl, Y4, d4⟩ := copied HX.out RL.out O3.out BA4.out OO hg
  have Y4 := Lib.hid Y4
  have d4 := Lib.hid d4
  have c4 := Lib.hid (c3.out.trans (d4.out.mono c3.out.size))
  have V4 := Lib.hid (V3.out.below d4.out)
  clear O3 RA4 BA4 OO hg V3
  obtain ⟨t0, t1, t2⟩ := V4.out
  go_wp2_with fail
  refine (GA.out _ (by rw [RE.out]; exact R.out.step c4.out)).mono ?_
  rintro e w5 ⟨gb, rfl, gb1, gb2, K5, d5⟩
  have d5 := Lib.hid d5
  have gb1 := Lib.hid gb1
  have gb2 := Lib.hid gb2
  have K5 := Lib.hid K5
  have c5 := Lib.hid (c4.out.trans (d5.out.mono c4.out.size))
  have V5 := Lib.hid (V4.out.below d5.out)
  have Y5 := Lib.hid (Y4.out.step d5.out)
  clear Y4
  clear t0 t1 t2 V4 d5 c4
  obtain ⟨t0, t1, t2⟩ := V5.out
  go_wp2_with fail
  refine (SC.out _ _ _).mono ?_
  rintro e w6 ⟨rfl, d6⟩
  have d6 := Lib.hid d6
  have c6 := Lib.hid (c5.out.trans (d6.out.mono c5.out.size))
  have V6 := Lib.hid (V5.out.below d6.out)
  have Y6 := Lib.hid (Y5.out.step d6.out)
  have K6 := Lib.hid (K5.out.step d6.out)
  have gl6 := Lib.hid (Nat.lt_of_lt_of_le gb2.out d6.out.size)
  clear K5
  clear t0 t1 t2 V5 Y5 d6 c5
  obtain ⟨t0, t1, t2⟩ := V6.out
  go_wp2_with fail
  refine (GR.out _ (by rw [RE.out]; exact R.out.step c6.out)).mono ?_
  rintro e w7 ⟨Ag, kg, rfl, Yg, d7⟩
  have XG := Lib.hid ((show Ws w6 w6.heap.size (some ⟨gb, 0, none⟩) (rg gf N) from K6.out.ws LG.out gl6.out).step d7)
  have Yg := Lib.hid Yg
  have d7 := Lib.hid d7
  have c7 := Lib.hid (c6.out.trans (d7.out.mono c6.out.size))
  have V7 := Lib.hid (V6.out.below d7.out)
  have Y7 := Lib.hid (Y6.out.step d7.out)
  clear t0 t1 t2 V6 K6 Y6 d7 c6
  obtain ⟨t0, t1, t2⟩ := V7.out
  go_wp2_with fail
  refine (SG.out _ NL.out _ _ (fun _ _ => rfl) _ _ _ _ _ XG.out Yg.out).mono ?_
  rintro e w8 ⟨rfl, d8⟩
  have d8 := Lib.hid d8
  have c8 := Lib.hid (c7.out.trans (d8.out.mono c7.out.size))
  have V8 := Lib.hid (V7.out.below d8.out)
  have Y8 := Lib.hid (Y7.out.step d8.out)
  clear t0 t1 t2 V7 Y7 d8 c7
  obtain ⟨t0, t1, t2⟩ := V8.out
  go_wp2_with fail
  refine (SM.out _ _ _ _ _ (R.out.step c8.out) Y8.out).mono ?_
  rintro e w9 ⟨rfl, d9⟩
  have d9 := Lib.hid d9
  have c9 := Lib.hid (c8.out.trans (d9.out.mono c8.out.size))
  have V9 := Lib.hid (V8.out.below d9.out)
  clear t0 t1 t2 V8 d9 c8
  go_wp2
  go_ret
  exact ⟨by simp [go_sem], c9.out⟩

set_option maxHeartbeats 1000000 in
set_option maxRecDepth 100000 in
theorem walk_zero (A B : Option Addr) (ca cb n m : Nat) (xs ys : List Nat) (o s N : Nat) (hl : n ≤ 100) (hl2 : m ≤ 100) (hv : Vg o s N n) (hm : m = N) (h0 : N = 0) (hx : xs.length = n) (hy : ys.length = m) (hA : A = none → ca = 0) (hB : B = none → cb = 0) (w : World) (hT : Ft.Tab w) (R : Ws w w.heap.size A xs) (R2 : Ws w w.heap.size B ys) :
    Calls Tryd.prog 3 #[.slice A n ca, .agg #[.int .i64 (o : Int), .int .i64 (s : Int), .int .i64 (N : Int)], .slice B m cb] w fun e w' => e = .returned (.bool true) ∧ Below w.heap.size w w' := by
  have HXE := Lib.hid (show Value.slice A n ca = Value.slice A xs.length ca by rw [hx])
  have HX := Lib.hid hx
  have HA := Lib.hid hA
  have RL := Lib.hid R.lt
  have R := Lib.hid R
  have HT := Lib.hid hT
  have HB := Lib.hid (below_alloc w)
  have SM := Lib.hid (fun (A B : Option Addr) ca cb W Ra Rb => Sm.same A B n n ca cb xs hx.symm hx.symm (by omega) W Ra Rb)
  have h1 : ¬ 100 < (n : Int) := by omega
  have h2 : ¬ 100 < (m : Int) := by omega
  have RE := Lib.hid (show rg (Pn.pl xs) n = xs from rg_pl hx)
  have RG := Lib.hid (fun W => rgood o s N n (by omega) true (by simp [hv.gv]) W)
  have GO := Lib.hid (fun W => good_yes hv (by omega) W)
  have LG := Lib.hid (fun i (hi : i < N) => show gth (Pn.pl xs) o s i < 18446744073709551616 from R.out.lt _ (by have := hv.lt hi; omega))
  have GA := Lib.hid (fun W X => gather A n ca o s N (Pn.pl xs) hv (by omega) W X)
  have GR := Lib.hid (fun W X => rgather A n ca o s N (Pn.pl xs) hv (by omega) W X)
  have SG := Lib.hid (fun k (hk : k ≤ 1048576) (g h : Nat → Nat) (e : ∀ i, i < k → g i = h i) (A B : Option Addr) (ca cb : Nat) W Ra Rb => same_rg (n := k) e hk A B ca cb W Ra Rb)
  have NL := Lib.hid (show N ≤ 1048576 from hv.hN)
  have SC := Lib.hid (fun (A : Option Addr) ca W => show Calls Tryd.prog 12 #[.slice A n ca, .agg #[.int .i64 (o : Int), .int .i64 (s : Int), .int .i64 (N : Int)], .slice B m cb] W fun e w' => e = .returned (.int .i64 0) ∧ Below W.heap.size W w' by
    subst hm; subst h0
    exact scatter_zero A B n ca cb o s hv hB (by omega) W)
  have SR := Lib.hid (fun W (X : Ws W W.heap.size A (rg (Pn.pl xs) n)) => show Calls Tryd.prog 15 #[.slice A n ca, .agg #[.int .i64 (o : Int), .int .i64 (s : Int), .int .i64 (N : Int)], .slice B m cb] W (RwA (Pn.pl xs) n W) by
    subst hm; subst h0
    exact rscatter_zero A B n ca cb o s (Pn.pl xs) hA (by omega) W X)
  have ne : ((m : Int) != (N : Int)) = false := by simp; omega
  have HLN := Lib.hid (show n ≤ 1048576 by omega)
  generalize gth (Pn.pl xs) o s = gf at *
  clear hv hx hA hT hm h0 hy hB R2
  go_enter Tryd.func3, Tryd.ntmps3
  go_upto_region 1 with fail
  have V0 := Lib.hid (Vi.fresh w o s N 24)
  have b0 := Lib.hid (HB.out (.cells #[.int .i64 (o : Int), .int .i64 (s : Int), .int .i64 (N : Int)] 24))
  clear HB
  generalize w.alloc (.cells #[.int .i64 (o : Int), .int .i64 (s : Int), .int .i64 (N : Int)] 24) = w0 at *
  go_wp2_with fail
  refine (awake _ (HT.out.below b0.out)).mono ?_
  rintro e w1 ⟨rfl, h1⟩
  have c1 := Lib.hid (b0.out.trans (h1.mono b0.out.size))
  have V1 := Lib.hid (V0.out.below h1)
  clear h1 V0 b0
  obtain ⟨t0, t1, t2⟩ := V1.out
  go_wp2_with fail
  refine (RG.out _).mono ?_
  rintro e w2 ⟨rfl, d2⟩
  have d2 := Lib.hid d2
  have c2 := Lib.hid (c1.out.trans (d2.out.mono c1.out.size))
  have V2 := Lib.hid (V1.out.below d2.out)
  clear t0 t1 t2 V1 d2 c1
  obtain ⟨t0, t1, t2⟩ := V2.out
  go_wp2_with fail
  refine (GO.out _).mono ?_
  rintro e w3 ⟨rfl, d3⟩
  have d3 := Lib.hid d3
  have c3 := Lib.hid (c2.out.trans (d3.out.mono c2.out.size))
  have V3 := Lib.hid (V2.out.below d3.out)
  clear t0 t1 t2 V2 d3 c2
  have O3 := Lib.hid (Ow.fresh w3 w3.heap.size (Nat.le_refl _))
  have RA4 := Lib.hid ((R.out.step c3.out).alloc (Nat.le_refl _) (.cells #[] 51))
  have BA4 := Lib.hid (below_alloc w3 (.cells #[] 51))
  go_upto_region 9 with (at_builtin; (refine append_all (w3.alloc (.cells #[] 51)) ?hgd (.tmp 32) (.tmp 33) ?ho w3.heap.size (.slice (some ⟨w3.heap.size, 0, none⟩) 0 0) [] ?hs O3.out w3.heap.size A ca xs ?hx RA4.out HA.out ?c1 ?c2 (fun v4 w4 OO hg => ?_)); (case hgd => rfl); (case ho => rfl); (case hs => rfl); (case hx => exact HXE.out))
  case c1 => have := HX.out; simp only [List.length_nil]; omega
  case c2 => simp
  obtain ⟨A4, k4, rfl, Y4, d4⟩ := copied HX.out RL.out O3.out BA4.out OO hg
  have Y4 := Lib.hid Y4
  have d4 := Lib.hid d4
  have c4 := Lib.hid (c3.out.trans (d4.out.mono c3.out.size))
  have V4 := Lib.hid (V3.out.below d4.out)
  clear O3 RA4 BA4 OO hg V3
  obtain ⟨t0, t1, t2⟩ := V4.out
  go_wp2_with fail
  refine (GA.out _ (by rw [RE.out]; exact R.out.step c4.out)).mono ?_
  rintro e w5 ⟨gb, rfl, gb1, gb2, K5, d5⟩
  have d5 := Lib.hid d5
  have gb1 := Lib.hid gb1
  have gb2 := Lib.hid gb2
  have K5 := Lib.hid K5
  have c5 := Lib.hid (c4.out.trans (d5.out.mono c4.out.size))
  have V5 := Lib.hid (V4.out.below d5.out)
  have Y5 := Lib.hid (Y4.out.step d5.out)
  clear Y4
  clear t0 t1 t2 V4 d5 c4
  obtain ⟨t0, t1, t2⟩ := V5.out
  go_wp2_with fail
  refine (SC.out _ _ _).mono ?_
  rintro e w6 ⟨rfl, d6⟩
  have d6 := Lib.hid d6
  have c6 := Lib.hid (c5.out.trans (d6.out.mono c5.out.size))
  have V6 := Lib.hid (V5.out.below d6.out)
  have Y6 := Lib.hid (Y5.out.step d6.out)
  have K6 := Lib.hid (K5.out.step d6.out)
  have gl6 := Lib.hid (Nat.lt_of_lt_of_le gb2.out d6.out.size)
  clear K5
  clear t0 t1 t2 V5 Y5 d6 c5
  obtain ⟨t0, t1, t2⟩ := V6.out
  go_wp2_with fail
  refine (GR.out _ (by rw [RE.out]; exact R.out.step c6.out)).mono ?_
  rintro e w7 ⟨Ag, kg, rfl, Yg, d7⟩
  have XG := Lib.hid ((show Ws w6 w6.heap.size (some ⟨gb, 0, none⟩) (rg gf N) from K6.out.ws LG.out gl6.out).step d7)
  have Yg := Lib.hid Yg
  have d7 := Lib.hid d7
  have c7 := Lib.hid (c6.out.trans (d7.out.mono c6.out.size))
  have V7 := Lib.hid (V6.out.below d7.out)
  have Y7 := Lib.hid (Y6.out.step d7.out)
  clear t0 t1 t2 V6 K6 Y6 d7 c6
  obtain ⟨t0, t1, t2⟩ := V7.out
  go_wp2_with fail
  refine (SG.out _ NL.out _ _ (fun _ _ => rfl) _ _ _ _ _ XG.out Yg.out).mono ?_
  rintro e w8 ⟨rfl, d8⟩
  have d8 := Lib.hid d8
  have c8 := Lib.hid (c7.out.trans (d8.out.mono c7.out.size))
  have V8 := Lib.hid (V7.out.below d8.out)
  have Y8 := Lib.hid (Y7.out.step d8.out)
  clear t0 t1 t2 V7 Y7 d8 c7
  obtain ⟨t0, t1, t2⟩ := V8.out
  go_wp2_with fail
  refine (SR.out _ (by rw [RE.out]; exact R.out.step c8.out)).mono ?_
  rintro e w9 ⟨As, ks, rfl, Ys, d9⟩
  have XS := Lib.hid (Y8.out.step d9)
  have Ys := Lib.hid Ys
  have c9 := Lib.hid (c8.out.trans (d9.mono c8.out.size))
  clear t0 t1 t2 V8 Y8 d9 c8
  go_wp2_with fail
  refine (SG.out _ HLN.out _ _ (fun _ _ => rfl) _ _ _ _ _ (by rw [RE.out]; exact XS.out) Ys.out).mono ?_
  rintro e w10 ⟨rfl, d10⟩
  have d10 := Lib.hid d10
  have c10 := Lib.hid (c9.out.trans (d10.out.mono c9.out.size))
  clear d10 c9
  go_wp2
  go_ret
  exact ⟨by simp [go_sem], c10.out⟩

set_option maxHeartbeats 1000000 in
set_option maxRecDepth 100000 in
theorem walk_in (A : Option Addr) (ca cb n m : Nat) (xs ys : List Nat) (o s N : Nat) (ad : Addr) (hl : n ≤ 100) (hl2 : m ≤ 100) (hv : Vg o s N n) (hm : m = N) (h0 : 0 < N) (hx : xs.length = n) (hy : ys.length = m) (hA : A = none → ca = 0) (w : World) (hT : Ft.Tab w) (R : Ws w w.heap.size A xs) (R2 : Ws w w.heap.size (some ad) ys) :
    Calls Tryd.prog 3 #[.slice A n ca, .agg #[.int .i64 (o : Int), .int .i64 (s : Int), .int .i64 (N : Int)], .slice (some ad) m cb] w fun e w' => e = .returned (.bool true) ∧ Below w.heap.size w w' := by
  have HXE := Lib.hid (show Value.slice A n ca = Value.slice A xs.length ca by rw [hx])
  have HX := Lib.hid hx
  have HA := Lib.hid hA
  have RL := Lib.hid R.lt
  have R := Lib.hid R
  have HT := Lib.hid hT
  have HB := Lib.hid (below_alloc w)
  have h1 : ¬ 100 < (n : Int) := by omega
  have h2 : ¬ 100 < (m : Int) := by omega
  have RE := Lib.hid (show rg (Pn.pl xs) n = xs from rg_pl hx)
  have RG := Lib.hid (fun W => rgood o s N n (by omega) true (by simp [hv.gv]) W)
  have GO := Lib.hid (fun W => good_yes hv (by omega) W)
  have LG := Lib.hid (fun i (hi : i < N) => show gth (Pn.pl xs) o s i < 18446744073709551616 from R.out.lt _ (by have := hv.lt hi; omega))
  have GA := Lib.hid (fun W X => gather A n ca o s N (Pn.pl xs) hv (by omega) W X)
  have GR := Lib.hid (fun W X => rgather A n ca o s N (Pn.pl xs) hv (by omega) W X)
  have SG := Lib.hid (fun k (hk : k ≤ 1048576) (g h : Nat → Nat) (e : ∀ i, i < k → g i = h i) (A B : Option Addr) (ca cb : Nat) W Ra Rb => same_rg (n := k) e hk A B ca cb W Ra Rb)
  have NL := Lib.hid (show N ≤ 1048576 from hv.hN)
  have N0 := Lib.hid (show 0 < n by have := hv.lt h0; omega)
  have RY := Lib.hid (show rg (Pn.pl ys) N = ys from rg_pl (by omega))
  have R2 := Lib.hid R2
  have SC := Lib.hid (fun b ca W J X => show Calls Tryd.prog 12 #[.slice (some ⟨b, 0, none⟩) n ca, .agg #[.int .i64 (o : Int), .int .i64 (s : Int), .int .i64 (N : Int)], .slice (some ad) m cb] W fun e w' => e = .returned (.int .i64 0) ∧ JR b n (sct (Pn.pl xs) o s (Pn.pl ys) N) W w' by
    rw [hm]
    exact scatter b n ca o s N cb ad (Pn.pl xs) (Pn.pl ys) hv h0 (by omega) W J X)
  have SR := Lib.hid (fun W (X : Ws W W.heap.size A (rg (Pn.pl xs) n)) (Y : Ws W W.heap.size (some ad) (rg (Pn.pl ys) N)) => show Calls Tryd.prog 15 #[.slice A n ca, .agg #[.int .i64 (o : Int), .int .i64 (s : Int), .int .i64 (N : Int)], .slice (some ad) m cb] W (RwA (sct (Pn.pl xs) o s (Pn.pl ys) N) n W) by
    rw [hm]
    exact rscatter A (some ad) n ca cb o s N (Pn.pl xs) (Pn.pl ys) hA hv h0 (by omega) W X Y)
  have LS := Lib.hid (fun j (hj : j < n) => show sct (Pn.pl xs) o s (Pn.pl ys) N j < 18446744073709551616 from sct_lt j (R.out.lt j (by omega)) N (fun i hi => R2.out.lt i (by omega)))
  have ne : ((m : Int) != (N : Int)) = false := by simp; omega
  have HLN := Lib.hid (show n ≤ 1048576 by omega)
  generalize sct (Pn.pl xs) o s (Pn.pl ys) N = sf at *
  generalize gth (Pn.pl xs) o s = gf at *
  clear hv hx hA hT hm h0 hy
  go_enter Tryd.func3, Tryd.ntmps3
  go_upto_region 1 with fail
  have V0 := Lib.hid (Vi.fresh w o s N 24)
  have b0 := Lib.hid (HB.out (.cells #[.int .i64 (o : Int), .int .i64 (s : Int), .int .i64 (N : Int)] 24))
  clear HB
  generalize w.alloc (.cells #[.int .i64 (o : Int), .int .i64 (s : Int), .int .i64 (N : Int)] 24) = w0 at *
  go_wp2_with fail
  refine (awake _ (HT.out.below b0.out)).mono ?_
  rintro e w1 ⟨rfl, h1⟩
  have c1 := Lib.hid (b0.out.trans (h1.mono b0.out.size))
  have V1 := Lib.hid (V0.out.below h1)
  have V0B := Lib.hid (show w.heap.size < w1.heap.size from V1.out.lt)
  clear h1 V0 b0
  obtain ⟨t0, t1, t2⟩ := V1.out
  go_wp2_with fail
  refine (RG.out _).mono ?_
  rintro e w2 ⟨rfl, d2⟩
  have d2 := Lib.hid d2
  have c2 := Lib.hid (c1.out.trans (d2.out.mono c1.out.size))
  have V2 := Lib.hid (V1.out.below d2.out)
  have V0B := Lib.hid (show w.heap.size < w2.heap.size from Nat.lt_of_lt_of_le V0B.out d2.out.size)
  clear t0 t1 t2 V1 d2 c1
  obtain ⟨t0, t1, t2⟩ := V2.out
  go_wp2_with fail
  refine (GO.out _).mono ?_
  rintro e w3 ⟨rfl, d3⟩
  have d3 := Lib.hid d3
  have c3 := Lib.hid (c2.out.trans (d3.out.mono c2.out.size))
  have V3 := Lib.hid (V2.out.below d3.out)
  have V0B := Lib.hid (show w.heap.size < w3.heap.size from Nat.lt_of_lt_of_le V0B.out d3.out.size)
  clear t0 t1 t2 V2 d3 c2
  have O3 := Lib.hid (Ow.fresh w3 w3.heap.size (Nat.le_refl _))
  have RA4 := Lib.hid ((R.out.step c3.out).alloc (Nat.le_refl _) (.cells #[] 51))
  have BA4 := Lib.hid (below_alloc w3 (.cells #[] 51))
  go_upto_region 9 with (at_builtin; (refine append_all (w3.alloc (.cells #[] 51)) ?hgd (.tmp 32) (.tmp 33) ?ho w3.heap.size (.slice (some ⟨w3.heap.size, 0, none⟩) 0 0) [] ?hs O3.out w3.heap.size A ca xs ?hx RA4.out HA.out ?c1 ?c2 (fun v4 w4 OO hg => ?_)); (case hgd => rfl); (case ho => rfl); (case hs => rfl); (case hx => exact HXE.out))
  case c1 => have := HX.out; simp only [List.length_nil]; omega
  case c2 => simp
  obtain ⟨b4, k4, rfl, hk4, hk4, hb4, J4, d4⟩ := copied_cap HX.out N0.out O3.out BA4.out OO hg
  have J4 := Lib.hid J4
  have hk4 := Lib.hid hk4
  have hk4 := Lib.hid hk4
  have hb4 := Lib.hid hb4
  have d4 := Lib.hid d4
  have cs3 := Lib.hid c3.out.size
  have c4 := Lib.hid (c3.out.trans (d4.out.mono c3.out.size))
  have V4 := Lib.hid (V3.out.below d4.out)
  clear O3 RA4 BA4 OO hg V3
  obtain ⟨t0, t1, t2⟩ := V4.out
  go_wp2_with fail
  refine (GA.out _ (by rw [RE.out]; exact R.out.step c4.out)).mono ?_
  rintro e w5 ⟨gb, rfl, gb1, gb2, K5, d5⟩
  have d5 := Lib.hid d5
  have gb1 := Lib.hid gb1
  have gb2 := Lib.hid gb2
  have K5 := Lib.hid K5
  have c5 := Lib.hid (c4.out.trans (d5.out.mono c4.out.size))
  have V5 := Lib.hid (V4.out.below d5.out)
  have J5 := Lib.hid (show JR b4 n (Pn.pl xs) w5 w5 from ⟨(J4.out.call d5.out).k, But.refl _ _, (J4.out.call d5.out).s⟩)
  have gne := Lib.hid (show gb ≠ b4 by have := J4.out.s; have := gb1.out; omega)
  clear J4
  clear t0 t1 t2 V4 d5 c4
  obtain ⟨t0, t1, t2⟩ := V5.out
  go_wp2_with fail
  refine (SC.out _ _ _ J5.out (by rw [RY.out]; exact R2.out.step c5.out)).mono ?_
  rintro e w6 ⟨rfl, J6⟩
  have J6 := Lib.hid J6
  have c6 := Lib.hid (c5.out.trans (J6.out.bel.mono (Nat.le_trans cs3.out hb4.out)))
  have V6 := Lib.hid (V5.out.but (by have := V0B.out; have := hb4.out; omega) J6.out.o)
  have K6 := Lib.hid (J6.out.o.wk gne.out gb2.out K5.out)
  have gl6 := Lib.hid (Nat.lt_of_lt_of_le gb2.out J6.out.o.bel.size)
  have Y6 := Lib.hid (show Ws w6 w6.heap.size (some ⟨b4, 0, none⟩) (rg sf n) from J6.out.k.ws LS.out J6.out.s)
  clear t0 t1 t2 V5 J5 J6 c5 K5
  obtain ⟨t0, t1, t2⟩ := V6.out
  go_wp2_with fail
  refine (GR.out _ (by rw [RE.out]; exact R.out.step c6.out)).mono ?_
  rintro e w7 ⟨Ag, kg, rfl, Yg, d7⟩
  have XG := Lib.hid ((show Ws w6 w6.heap.size (some ⟨gb, 0, none⟩) (rg gf N) from K6.out.ws LG.out gl6.out).step d7)
  have Yg := Lib.hid Yg
  have d7 := Lib.hid d7
  have c7 := Lib.hid (c6.out.trans (d7.out.mono c6.out.size))
  have V7 := Lib.hid (V6.out.below d7.out)
  have Y7 := Lib.hid (Y6.out.step d7.out)
  clear t0 t1 t2 V6 K6 Y6 d7 c6
  obtain ⟨t0, t1, t2⟩ := V7.out
  go_wp2_with fail
  refine (SG.out _ NL.out _ _ (fun _ _ => rfl) _ _ _ _ _ XG.out Yg.out).mono ?_
  rintro e w8 ⟨rfl, d8⟩
  have d8 := Lib.hid d8
  have c8 := Lib.hid (c7.out.trans (d8.out.mono c7.out.size))
  have V8 := Lib.hid (V7.out.below d8.out)
  have Y8 := Lib.hid (Y7.out.step d8.out)
  clear t0 t1 t2 V7 Y7 d8 c7
  obtain ⟨t0, t1, t2⟩ := V8.out
  go_wp2_with fail
  refine (SR.out _ (by rw [RE.out]; exact R.out.step c8.out) (by rw [RY.out]; exact R2.out.step c8.out)).mono ?_
  rintro e w9 ⟨As, ks, rfl, Ys, d9⟩
  have XS := Lib.hid (Y8.out.step d9)
  have Ys := Lib.hid Ys
  have c9 := Lib.hid (c8.out.trans (d9.mono c8.out.size))
  clear t0 t1 t2 V8 Y8 d9 c8
  go_wp2_with fail
  refine (SG.out _ HLN.out _ _ (fun _ _ => rfl) _ _ _ _ _ XS.out Ys.out).mono ?_
  rintro e w10 ⟨rfl, d10⟩
  have d10 := Lib.hid d10
  have c10 := Lib.hid (c9.out.trans (d10.out.mono c9.out.size))
  clear d10 c9
  go_wp2
  go_ret
  exact ⟨by simp [go_sem], c10.out⟩

theorem walk (A B : Option Addr) (ca cb n m : Nat) (xs ys : List Nat) (o s N : Int) (hx : xs.length = n) (hy : ys.length = m) (hA : A = none → ca = 0) (hB : B = none → cb = 0) (w : World) (hT : Ft.Tab w) (R : Ws w w.heap.size A xs) (R2 : Ws w w.heap.size B ys) :
    Calls Tryd.prog 3 #[.slice A n ca, .agg #[.int .i64 o, .int .i64 s, .int .i64 N], .slice B m cb] w fun e w' => e = .returned (.bool true) ∧ Below w.heap.size w w' := by
  by_cases hl : n ≤ 100
  · by_cases hl2 : m ≤ 100
    · by_cases hg : Gv o s N n
      · obtain ⟨o, s, N, rfl, rfl, rfl, hv⟩ := hg.nat
        by_cases hm : m = N
        · by_cases h0 : N = 0
          · exact walk_zero A B ca cb n m xs ys o s N hl hl2 hv hm h0 hx hy hA hB w hT R R2
          · obtain ⟨b, off, rfl, _, _⟩ := R2.at_ 0 (by omega)
            exact walk_in A ca cb n m xs ys o s N _ hl hl2 hv hm (by omega) hx hy hA w hT R R2
        · exact walk_len A B ca cb n m xs ys o s N hl hl2 hv hm hx hy hA hB w hT R R2
      · exact walk_no A B ca cb n m xs ys o s N hl hl2 hg hx hy hA hB w hT R R2
    · exact walk_long2 A B ca cb n m o s N hl (by omega) w hT
  · exact walk_long A B ca cb n m o s N (by omega) w hT

theorem g32 : Tryd.prog.globalNamed "math/bits.deBruijn32tab" = some 0 := by kernel_rfl
theorem g64 : Tryd.prog.globalNamed "math/bits.deBruijn64tab" = some 1 := by kernel_rfl
theorem t64 : (Tryd.prog.globals[1]?).map (·.type) = some 106 := by kernel_rfl
/-- What the row's condition gives the walk: the table's cells. -/
theorem of_laid {W : World} (h : laidMetH Tryd.prog Rows.rowsViewsRow.laid W) : Ft.Tab W := by
  rw [MakeChecks.laidMetH_plain _ _ _ (by kernel_rfl)] at h
  obtain ⟨ps, ⟨g0, t0, cs0, f0, p0, q0, hg0, ht0, hv0, hd0, ⟨g1, t1, cs1, f1, p1, q1, hg1, ht1, hv1, hd1, _, _⟩, _⟩, _, _⟩ := h
  obtain rfl := Option.some.inj (g64.symm.trans hg1)
  obtain rfl := Option.some.inj (t64.symm.trans ht1)
  have hd2 : DataW.trod _ Tryd.prog W 0 _ false f1 106 cs1.toList = some (Lib.tabData .u8 (Lib.deBruijn64tab.map Int.ofNat), p1) := hd1
  have hc := Lib.cells_of_tab Tryd.underlying106 Tryd.underlying5 (by kernel_rfl) (by kernel_rfl) hd2
  intro i hi
  have c := World.var?_cell hg1 hv1 i
  rw [c, ← Array.getElem?_toList, hc]
  have hl : Lib.deBruijn64tab.length = 64 := by decide
  simp [List.getD, hl, hi]

/-- The door's own heap meets the condition. -/
theorem door_met (os : Os) (args : Array Value) : laidMetH Tryd.prog Rows.rowsViewsRow.laid ((World.doorLaid Tryd.prog 400 os).forCall (fun _ _ => 0) ⟨#[], args, []⟩).memory :=
  laidMetH_of_parts3 (fuel := 8) (laidMet_of_run' 8 (by kernel_rfl) (by kernel_rfl)) (by kernel_rfl) (by kernel_rfl)
set_option maxRecDepth 100000 in
theorem lifted (os : Os) (started : os.Started) (H : Type) (enc : TypeId × Value → H) :
    ReturnsInHanded {} Tryd.checked os 3 .any (fun w args => (Rows.rowsViewsSpec.pre enc Tryd.prog Tryd.f3 [] false w args ∧ laidMetH Tryd.prog Rows.rowsViewsRow.laid w) ∧ sizedMet enc Tryd.prog Tryd.f3 (OpenSpec.ofChange Rows.rowsViewsSpec) false w args)
      (Rows.rowsViewsSpec.post enc Tryd.prog Tryd.f3 false true false false) := by
  refine returnsInHanded_of_change_and (C := Tryd.checked) (X := fun w _ => laidMetH Tryd.prog Rows.rowsViewsRow.laid w) (fun _ _ _ hh h => h.of_heap hh) Fr.own started (by kernel_rfl) Tryd.func3
    (ChangeSpec.witness_shaped (enc := enc) (C := Tryd.checked) (os := os) (X := fun w _ => laidMetH Tryd.prog Rows.rowsViewsRow.laid w) false (World.doorLaid Tryd.prog 400 os) #[.slice none 0 0, .agg #[.int .i64 0, .int .i64 0, .int .i64 0], .slice none 0 0] 8 rfl (World.shaped_of_RefB (by kernel_rfl) (by kernel_rfl)) (by kernel_rfl) (by kernel_rfl) (by kernel_rfl) (door_met os _)) ?_
  intro W base args ds gs before hval0 hW _ _ hL _
  have hval : ∀ (j : Nat) t v, Tryd.f3.params[j]? = some t → args[j]? = some v → Value.okWide Tryd.prog W .any base t v := hval0
  have hW' := hW
  obtain ⟨p, q, hA0, hV, rfl, hfz, hnd⟩ := hW
  have hA : DataW.TrodAll enc Tryd.prog W 0 (fun _ => true) true Tryd.f3.params.toList args.toList ds p := hA0
  obtain ⟨rfl, rfl⟩ := trodVars_none hV
  rw [Tryd.params3] at hA hval
  obtain ⟨v0, vs0, d0, ds0, p0, q0, hargs, rfl, rfl, h0, r0⟩ := trodAll_cons hA
  obtain ⟨v1, vs1, d1, ds1, p1, q1, rfl, rfl, rfl, h1, r1⟩ := trodAll_cons r0
  obtain ⟨v2, vs2, d2, ds2, p2, q2, rfl, rfl, rfl, h2, r2⟩ := trodAll_cons r1
  obtain ⟨rfl, rfl, rfl⟩ := trodAll_nil r2
  obtain rfl : args = #[v0, v1, v2] := by cases args; simp_all
  obtain ⟨A0, n0, c0, rfl⟩ := okWide_slice Tryd.underlying22 (hval 0 22 v0 rfl rfl)
  obtain ⟨fuel0, hf0⟩ := h0
  obtain ⟨xs0, rfl, lc0, lm0, R0⟩ := Ww.open_words hf0
  obtain ⟨a1, b1, c1, rfl, rfl, _, _⟩ := Vw.open_view (hval 1 24 v1 rfl rfl) h1
  obtain ⟨A2, n2, c2, rfl⟩ := okWide_slice Tryd.underlying22 (hval 2 22 v2 rfl rfl)
  obtain ⟨fuel2, hf2⟩ := h2
  obtain ⟨xs2, rfl, lc2, lm2, R2⟩ := Ww.open_words hf2
  simp only [List.append_nil] at hW' hA0
  refine (walk A0 A2 c0 c2 xs0.length xs2.length xs0 xs2 a1 b1 c1 rfl rfl (nil_cap hf0) (nil_cap hf2) W (of_laid hL) R0 R2).mono fun e W' ⟨he, hb⟩ => ?_
  subst he
  exact ⟨_, rfl, Fr.law_post (tb := 4) hW' hA0 rfl rfl rfl Tryd.underlying4 (by rw [Tryd.params3]; intro t ht; simp at ht; rcases ht with rfl | rfl | rfl; all_goals exact ⟨by kernel_rfl, of_decide_eq_true (by kernel_rfl)⟩) hb⟩

theorem row_holds : Rows.RowsViewsSaid :=
  OpenClaim.holds_of_wide 3 Tryd.f3 rfl rfl rfl rfl rfl rfl rfl ⟨rfl, rfl, rfl, rfl, rfl⟩ rfl rfl rfl rfl rfl (by kernel_rfl) Tryd.func3 (by kernel_rfl)
    (of_decide_eq_true (by kernel_rfl)) (by unfold Func.isWrapper; first | (rw [if_pos (by decide +kernel)]; kernel_rfl) | (rw [if_neg (by decide +kernel)]; exact ⟨rfl, rfl⟩))
    (fun os started H enc _ => lifted os started H enc)

theorem proved : Rows.RowsViewsCardSaid :=
  Claim7.holds_tied_plain_at .later [] [.data, .data] true Rows.rowsViewsCard.stood.harness false
    row_holds (fun _ h => by cases h) (by kernel_rfl) (fun _ h => by cases h) rowsViews_row_tie rfl ⟨rfl, rfl⟩ (by kernel_rfl) rfl
    (fun f fn hf hfn => by
      obtain rfl : f = 3 := Option.some.inj ((show Tryd.prog.funcNamed "abacist/abacistlaw11.RowsViews" = some 3 by kernel_rfl).symm.trans hf) |>.symm
      obtain rfl : fn = Tryd.f3 := (Option.some.inj (Tryd.func3.symm.trans hfn)).symm
      exact ⟨by kernel_rfl, fun j t ht => by
        rw [Tryd.params3] at ht
        have hm : t ∈ [22, 24, 22] := by simpa using Array.mem_of_getElem? ht
        have hall : ([22, 24, 22].all fun u => !Tryd.prog.wantsStandIn u) = true := by kernel_rfl
        exact (show Tryd.prog.wantsStandIn t = false by simpa using List.all_eq_true.1 hall t hm)⟩)
    (by kernel_rfl)
end Go.Proofs.YtfjoacopnkceoaaDoor.rowsViews
