/- RowsAll: of every row, shape and direction the law of transforms of all rows and all columns answers true, and changes nothing, where the library's two tables are as their initialisers lay them (the card ties them to the program's text). -/
import Derived.Test.YtfjoacopnkceoaaDoorFrame
import Derived.Test.YtfjoacopnkceoaaDoorViewS
import Derived.Test.YtfjoacopnkceoaaDoorViewO
import Derived.Test.YtfjoacopnkceoaaDoorTie
import Derived.Test.YtfjoacopnkceoaaDoorCards
import Derived.Lib.LaidTab
import Derived.LaidMore
import Derived.Stop.Joined
import Derived.SevenTiedAt
set_option linter.unusedVariables false
namespace Go.Proofs.YtfjoacopnkceoaaDoor.rowsAll
open Go.ChangeShapes Go.WideShapes Go.ChangeAt Go.RowKit
open Vw Kn Td Tn Ww Pl

set_option maxHeartbeats 1000000 in
set_option maxRecDepth 100000 in
theorem walk_long (A : Option Addr) (ca n : Nat) (p q d : Int) (hl : 64 < n) (w : World) (hT : Ft.Tab w) :
    Calls Tryd.prog 5 #[.slice A n ca, .agg #[.int .i64 p, .int .i64 q], .int .i64 d] w fun e w' => e = .returned (.bool true) ∧ Below w.heap.size w w' := by
  have h1 : 64 < (n : Int) := by omega
  have HT := Lib.hid hT
  have HB := Lib.hid (below_alloc w)
  go_enter Tryd.func5, Tryd.ntmps5
  go_upto_region 1 with fail
  have V0 := Lib.hid (Sh.Tw.fresh w p q 40)
  have b0 := Lib.hid (HB.out (.cells #[.int .i64 p, .int .i64 q] 40))
  clear HB
  generalize w.alloc (.cells #[.int .i64 p, .int .i64 q] 40) = w0 at *
  go_wp2_with fail
  refine (awake _ (HT.out.below b0.out)).mono ?_
  rintro e w1 ⟨rfl, h1⟩
  have c1 := Lib.hid (b0.out.trans (h1.mono b0.out.size))
  have V1 := Lib.hid (V0.out.below h1)
  clear h1 V0 b0
  go_wp2
  go_ret
  exact ⟨by simp [go_sem], c1.out⟩

set_option maxHeartbeats 1000000 in
set_option maxRecDepth 100000 in
theorem walk_shape (A : Option Addr) (ca n : Nat) (xs : List Nat) (p q d : Int) (hl : n ≤ 64) (hg : ¬ Sh.Gd p q) (hx : xs.length = n) (hA : A = none → ca = 0) (w : World) (hT : Ft.Tab w) (R : Ws w w.heap.size A xs) :
    Calls Tryd.prog 5 #[.slice A n ca, .agg #[.int .i64 p, .int .i64 q], .int .i64 d] w fun e w' => e = .returned (.bool true) ∧ Below w.heap.size w w' := by
  have HXE := Lib.hid (show Value.slice A n ca = Value.slice A xs.length ca by rw [hx])
  have HX := Lib.hid hx
  have HA := Lib.hid hA
  have RL := Lib.hid R.lt
  have R := Lib.hid R
  have HT := Lib.hid hT
  have HB := Lib.hid (below_alloc w)
  have SM := Lib.hid (fun (A B : Option Addr) ca cb W Ra Rb => Sm.same A B n n ca cb xs hx.symm hx.symm (by omega) W Ra Rb)
  have h1 : ¬ 64 < (n : Int) := by omega
  have RX := Lib.hid (fun (A : Option Addr) ca W T => rows_err A n ca p q d 19 (by decide) W T (fun m W T => fault_shape A n ca p q d m hg W T))
  have CX := Lib.hid (fun (A : Option Addr) ca W T => cols_err A n ca p q d 19 (by decide) W T (fun m W T => fault_shape A n ca p q d m hg W T))
  have RG := Lib.hid (fun W => Sh.ref p q false (by simp [hg]) W)
  clear hg hx hA hT
  go_enter Tryd.func5, Tryd.ntmps5
  go_upto_region 1 with fail
  have V0 := Lib.hid (Sh.Tw.fresh w p q 40)
  have b0 := Lib.hid (HB.out (.cells #[.int .i64 p, .int .i64 q] 40))
  clear HB
  generalize w.alloc (.cells #[.int .i64 p, .int .i64 q] 40) = w0 at *
  go_wp2_with fail
  refine (awake _ (HT.out.below b0.out)).mono ?_
  rintro e w1 ⟨rfl, h1⟩
  have c1 := Lib.hid (b0.out.trans (h1.mono b0.out.size))
  have V1 := Lib.hid (V0.out.below h1)
  clear h1 V0 b0
  have O2 := Lib.hid (Ow.fresh w1 w1.heap.size (Nat.le_refl _))
  have RA2 := Lib.hid ((R.out.step c1.out).alloc (Nat.le_refl _) (.cells #[] 51))
  have BA2 := Lib.hid (below_alloc w1 (.cells #[] 51))
  go_upto_region 6 with (first
    | (at_builtin; (refine append_all (w1.alloc (.cells #[] 51)) ?hgd (.tmp 17) (.tmp 18) ?ho w1.heap.size (.slice (some ⟨w1.heap.size, 0, none⟩) 0 0) [] ?hs O2.out w1.heap.size A ca xs ?hx RA2.out HA.out ?c1 ?c2 (fun v3 w3 OO hg => ?_)); (case hgd => rfl); (case ho => rfl); (case hs => rfl); (case hx => exact HXE.out); (case c1 => have := HX.out; simp only [List.length_nil]; omega); (case c2 => simp); (obtain ⟨A3, k3, rfl, Y3, d3⟩ := copied HX.out RL.out O2.out BA2.out OO hg); (have Y3 := Lib.hid Y3); (have d3 := Lib.hid d3); (have c3 := Lib.hid (c1.out.trans (d3.out.mono c1.out.size))); (have O4 := Lib.hid (Ow.fresh w3 w3.heap.size (Nat.le_refl _))); (have RA4 := Lib.hid ((R.out.step c3.out).alloc (Nat.le_refl _) (.cells #[] 51))); (have BA4 := Lib.hid (below_alloc w3 (.cells #[] 51))); (clear O2 RA2 BA2 OO hg))
    | (at_builtin; (refine append_all (w3.alloc (.cells #[] 51)) ?hgd (.tmp 20) (.tmp 21) ?ho w3.heap.size (.slice (some ⟨w3.heap.size, 0, none⟩) 0 0) [] ?hs O4.out w3.heap.size A ca xs ?hx RA4.out HA.out ?c1 ?c2 (fun v4 w4 OO hg => ?_)); (case hgd => rfl); (case ho => rfl); (case hs => rfl); (case hx => exact HXE.out); (case c1 => have := HX.out; simp only [List.length_nil]; omega); (case c2 => simp); (obtain ⟨A4, k4, rfl, Z4, d4⟩ := copied HX.out RL.out O4.out BA4.out OO hg); (have Z4 := Lib.hid Z4); (have Y4 := Lib.hid (Y3.out.step d4)); (have d4 := Lib.hid d4); (have c4 := Lib.hid (c3.out.trans (d4.out.mono c3.out.size))); (have V4 := Lib.hid ((V1.out.below d3.out).below d4.out)); (clear O4 RA4 BA4 OO hg)))
  have vl := Lib.hid V4.out.lt
  have T4 := Lib.hid (HT.out.below c4.out)
  clear V1 d3 d4 c1 c3 Y3
  generalize w.heap.size = vb at V4 vl
  have M := (show Va w4 vb p q w4 from ⟨V4.out, Below.refl _ _, vl.out⟩)
  have TX := Lib.hid (fun W (h : Va w4 vb p q W) => show Ft.Tab W from T4.out.below h.d)
  clear V4
  go_cut [9, 10] (fun v9 v10 wx => v9 = .int .i64 19 ∧ v10 = .int .i64 19 ∧ Va w4 vb p q wx)
  case first =>
    go_region_held3 (fun w' => w'.cell? ⟨vb, 0, none⟩ = some (.int .i64 p) ∧ w'.cell? ⟨vb, 1, none⟩ = some (.int .i64 q) ∧ Va w4 vb p q w')
      (exact Va.all (by repeat (first | with_reducible exact M | with_reducible refine Va.drew ?_ | with_reducible refine Va.call ?_ h6 | with_reducible refine Va.call ?_ h5)))
      (first
        | (go_at_call 19; refine (RX.out _ _ _ (TX.out _ (by repeat (first | with_reducible exact M | with_reducible refine Va.drew ?_ | with_reducible refine Va.call ?_ h6)))).mono ?_; rintro e w5 ⟨rfl, h5⟩)
        | (go_at_call 20; refine (CX.out _ _ _ (TX.out _ (by repeat (first | with_reducible exact M | with_reducible refine Va.drew ?_ | with_reducible refine Va.call ?_ h5)))).mono ?_; rintro e w6 ⟨rfl, h6⟩))
    all_goals (go_wp2_with fail; go_meet)
    all_goals exact ⟨rfl, rfl, by repeat (first | with_reducible exact M | with_reducible refine Va.drew ?_ | with_reducible refine Va.call ?_ h6 | with_reducible refine Va.call ?_ h5)⟩
  case rest =>
    obtain ⟨rfl, rfl, M7⟩ := hcut
    clear M TX RX CX
    generalize wc = w7 at *
    have c7 := Lib.hid (c4.out.trans (M7.d.mono c4.out.size))
    have Y7 := Lib.hid (Y4.out.step M7.d)
    have Z7 := Lib.hid (Z4.out.step M7.d)
    have V7 := Lib.hid M7.v
    clear M7 Y4 Z4 c4
    obtain ⟨t0, t1⟩ := V7.out
    go_wp2_with fail
    refine (RG.out _).mono ?_
    rintro e w8 ⟨rfl, d8⟩
    have d8 := Lib.hid d8
    have c8 := Lib.hid (c7.out.trans (d8.out.mono c7.out.size))
    have V8 := Lib.hid (V7.out.below d8.out)
    have Y8 := Lib.hid (Y7.out.step d8.out)
    have Z8 := Lib.hid (Z7.out.step d8.out)
    clear t0 t1 V7 Y7 Z7 d8 c7
    obtain ⟨t0, t1⟩ := V8.out
    go_wp2_with fail
    refine (SM.out _ _ _ _ _ Y8.out (R.out.step c8.out)).mono ?_
    rintro e w9 ⟨rfl, d9⟩
    have d9 := Lib.hid d9
    have c9 := Lib.hid (c8.out.trans (d9.out.mono c8.out.size))
    have V9 := Lib.hid (V8.out.below d9.out)
    have Z9 := Lib.hid (Z8.out.step d9.out)
    clear t0 t1 V8 Z8 d9 c8
    obtain ⟨t0, t1⟩ := V9.out
    go_wp2_with fail
    refine (SM.out _ _ _ _ _ Z9.out (R.out.step c9.out)).mono ?_
    rintro e w10 ⟨rfl, d10⟩
    have d10 := Lib.hid d10
    have c10 := Lib.hid (c9.out.trans (d10.out.mono c9.out.size))
    have V10 := Lib.hid (V9.out.below d10.out)
    clear t0 t1 V9 d10 c9
    go_wp2
    go_ret
    exact ⟨by simp [go_sem], c10.out⟩

set_option maxHeartbeats 1000000 in
set_option maxRecDepth 100000 in
theorem walk_size (A : Option Addr) (ca n : Nat) (xs : List Nat) (p q d : Int) (hl : n ≤ 64) (r : Int) (hg : Sh.Gd p q) (hm : p * q = r) (hne : (n : Int) ≠ r) (hx : xs.length = n) (hA : A = none → ca = 0) (w : World) (hT : Ft.Tab w) (R : Ws w w.heap.size A xs) :
    Calls Tryd.prog 5 #[.slice A n ca, .agg #[.int .i64 p, .int .i64 q], .int .i64 d] w fun e w' => e = .returned (.bool true) ∧ Below w.heap.size w w' := by
  have HXE := Lib.hid (show Value.slice A n ca = Value.slice A xs.length ca by rw [hx])
  have HX := Lib.hid hx
  have HA := Lib.hid hA
  have RL := Lib.hid R.lt
  have R := Lib.hid R
  have HT := Lib.hid hT
  have HB := Lib.hid (below_alloc w)
  have SM := Lib.hid (fun (A B : Option Addr) ca cb W Ra Rb => Sm.same A B n n ca cb xs hx.symm hx.symm (by omega) W Ra Rb)
  have h1 : ¬ 64 < (n : Int) := by omega
  have RX := Lib.hid (fun (A : Option Addr) ca W T => rows_err A n ca p q d 19 (by decide) W T (fun m W T => fault_size A n ca p q d m r hg hm hne W T))
  have CX := Lib.hid (fun (A : Option Addr) ca W T => cols_err A n ca p q d 19 (by decide) W T (fun m W T => fault_size A n ca p q d m r hg hm hne W T))
  have RG := Lib.hid (fun W => Sh.ref p q true (by simp [hg]) W)
  have q1 : IntKind.i64.wrap (p * q) = r := by rw [hm]; exact IntWalk.i64_in _ (by obtain ⟨g1, g2, g3, g4, g5⟩ := hg.bound; have : 0 ≤ p * q := Int.mul_nonneg (by omega) (by omega); omega)
  have ne : (r != (n : Int)) = true := by simp; omega
  clear hg hm hne hx hA hT
  go_enter Tryd.func5, Tryd.ntmps5
  go_upto_region 1 with fail
  have V0 := Lib.hid (Sh.Tw.fresh w p q 40)
  have b0 := Lib.hid (HB.out (.cells #[.int .i64 p, .int .i64 q] 40))
  clear HB
  generalize w.alloc (.cells #[.int .i64 p, .int .i64 q] 40) = w0 at *
  go_wp2_with fail
  refine (awake _ (HT.out.below b0.out)).mono ?_
  rintro e w1 ⟨rfl, h1⟩
  have c1 := Lib.hid (b0.out.trans (h1.mono b0.out.size))
  have V1 := Lib.hid (V0.out.below h1)
  clear h1 V0 b0
  have O2 := Lib.hid (Ow.fresh w1 w1.heap.size (Nat.le_refl _))
  have RA2 := Lib.hid ((R.out.step c1.out).alloc (Nat.le_refl _) (.cells #[] 51))
  have BA2 := Lib.hid (below_alloc w1 (.cells #[] 51))
  go_upto_region 6 with (first
    | (at_builtin; (refine append_all (w1.alloc (.cells #[] 51)) ?hgd (.tmp 17) (.tmp 18) ?ho w1.heap.size (.slice (some ⟨w1.heap.size, 0, none⟩) 0 0) [] ?hs O2.out w1.heap.size A ca xs ?hx RA2.out HA.out ?c1 ?c2 (fun v3 w3 OO hg => ?_)); (case hgd => rfl); (case ho => rfl); (case hs => rfl); (case hx => exact HXE.out); (case c1 => have := HX.out; simp only [List.length_nil]; omega); (case c2 => simp); (obtain ⟨A3, k3, rfl, Y3, d3⟩ := copied HX.out RL.out O2.out BA2.out OO hg); (have Y3 := Lib.hid Y3); (have d3 := Lib.hid d3); (have c3 := Lib.hid (c1.out.trans (d3.out.mono c1.out.size))); (have O4 := Lib.hid (Ow.fresh w3 w3.heap.size (Nat.le_refl _))); (have RA4 := Lib.hid ((R.out.step c3.out).alloc (Nat.le_refl _) (.cells #[] 51))); (have BA4 := Lib.hid (below_alloc w3 (.cells #[] 51))); (clear O2 RA2 BA2 OO hg))
    | (at_builtin; (refine append_all (w3.alloc (.cells #[] 51)) ?hgd (.tmp 20) (.tmp 21) ?ho w3.heap.size (.slice (some ⟨w3.heap.size, 0, none⟩) 0 0) [] ?hs O4.out w3.heap.size A ca xs ?hx RA4.out HA.out ?c1 ?c2 (fun v4 w4 OO hg => ?_)); (case hgd => rfl); (case ho => rfl); (case hs => rfl); (case hx => exact HXE.out); (case c1 => have := HX.out; simp only [List.length_nil]; omega); (case c2 => simp); (obtain ⟨A4, k4, rfl, Z4, d4⟩ := copied HX.out RL.out O4.out BA4.out OO hg); (have Z4 := Lib.hid Z4); (have Y4 := Lib.hid (Y3.out.step d4)); (have d4 := Lib.hid d4); (have c4 := Lib.hid (c3.out.trans (d4.out.mono c3.out.size))); (have V4 := Lib.hid ((V1.out.below d3.out).below d4.out)); (clear O4 RA4 BA4 OO hg)))
  have vl := Lib.hid V4.out.lt
  have T4 := Lib.hid (HT.out.below c4.out)
  clear V1 d3 d4 c1 c3 Y3
  generalize w.heap.size = vb at V4 vl
  have M := (show Va w4 vb p q w4 from ⟨V4.out, Below.refl _ _, vl.out⟩)
  have TX := Lib.hid (fun W (h : Va w4 vb p q W) => show Ft.Tab W from T4.out.below h.d)
  clear V4
  go_cut [9, 10] (fun v9 v10 wx => v9 = .int .i64 19 ∧ v10 = .int .i64 19 ∧ Va w4 vb p q wx)
  case first =>
    go_region_held3 (fun w' => w'.cell? ⟨vb, 0, none⟩ = some (.int .i64 p) ∧ w'.cell? ⟨vb, 1, none⟩ = some (.int .i64 q) ∧ Va w4 vb p q w')
      (exact Va.all (by repeat (first | with_reducible exact M | with_reducible refine Va.drew ?_ | with_reducible refine Va.call ?_ h6 | with_reducible refine Va.call ?_ h5)))
      (first
        | (go_at_call 19; refine (RX.out _ _ _ (TX.out _ (by repeat (first | with_reducible exact M | with_reducible refine Va.drew ?_ | with_reducible refine Va.call ?_ h6)))).mono ?_; rintro e w5 ⟨rfl, h5⟩)
        | (go_at_call 20; refine (CX.out _ _ _ (TX.out _ (by repeat (first | with_reducible exact M | with_reducible refine Va.drew ?_ | with_reducible refine Va.call ?_ h5)))).mono ?_; rintro e w6 ⟨rfl, h6⟩))
    all_goals (go_wp2_with fail; go_meet)
    all_goals exact ⟨rfl, rfl, by repeat (first | with_reducible exact M | with_reducible refine Va.drew ?_ | with_reducible refine Va.call ?_ h6 | with_reducible refine Va.call ?_ h5)⟩
  case rest =>
    obtain ⟨rfl, rfl, M7⟩ := hcut
    clear M TX RX CX
    generalize wc = w7 at *
    have c7 := Lib.hid (c4.out.trans (M7.d.mono c4.out.size))
    have Y7 := Lib.hid (Y4.out.step M7.d)
    have Z7 := Lib.hid (Z4.out.step M7.d)
    have V7 := Lib.hid M7.v
    clear M7 Y4 Z4 c4
    obtain ⟨t0, t1⟩ := V7.out
    go_wp2_with fail
    refine (RG.out _).mono ?_
    rintro e w8 ⟨rfl, d8⟩
    have d8 := Lib.hid d8
    have c8 := Lib.hid (c7.out.trans (d8.out.mono c7.out.size))
    have V8 := Lib.hid (V7.out.below d8.out)
    have Y8 := Lib.hid (Y7.out.step d8.out)
    have Z8 := Lib.hid (Z7.out.step d8.out)
    clear t0 t1 V7 Y7 Z7 d8 c7
    obtain ⟨t0, t1⟩ := V8.out
    go_wp2_with fail
    refine (SM.out _ _ _ _ _ Y8.out (R.out.step c8.out)).mono ?_
    rintro e w9 ⟨rfl, d9⟩
    have d9 := Lib.hid d9
    have c9 := Lib.hid (c8.out.trans (d9.out.mono c8.out.size))
    have V9 := Lib.hid (V8.out.below d9.out)
    have Z9 := Lib.hid (Z8.out.step d9.out)
    clear t0 t1 V8 Z8 d9 c8
    obtain ⟨t0, t1⟩ := V9.out
    go_wp2_with fail
    refine (SM.out _ _ _ _ _ Z9.out (R.out.step c9.out)).mono ?_
    rintro e w10 ⟨rfl, d10⟩
    have d10 := Lib.hid d10
    have c10 := Lib.hid (c9.out.trans (d10.out.mono c9.out.size))
    have V10 := Lib.hid (V9.out.below d10.out)
    clear t0 t1 V9 d10 c9
    go_wp2
    go_ret
    exact ⟨by simp [go_sem], c10.out⟩

set_option maxHeartbeats 1000000 in
set_option maxRecDepth 100000 in
theorem walk_kind (A : Option Addr) (ca n : Nat) (xs : List Nat) (p q d : Int) (hl : n ≤ 64) (hg : Sh.Gd p q) (hm : p * q = (n : Int)) (h0 : d ≠ 0) (h01 : d ≠ 1) (hx : xs.length = n) (hA : A = none → ca = 0) (w : World) (hT : Ft.Tab w) (R : Ws w w.heap.size A xs) :
    Calls Tryd.prog 5 #[.slice A n ca, .agg #[.int .i64 p, .int .i64 q], .int .i64 d] w fun e w' => e = .returned (.bool true) ∧ Below w.heap.size w w' := by
  have HXE := Lib.hid (show Value.slice A n ca = Value.slice A xs.length ca by rw [hx])
  have HX := Lib.hid hx
  have HA := Lib.hid hA
  have RL := Lib.hid R.lt
  have R := Lib.hid R
  have HT := Lib.hid hT
  have HB := Lib.hid (below_alloc w)
  have SM := Lib.hid (fun (A B : Option Addr) ca cb W Ra Rb => Sm.same A B n n ca cb xs hx.symm hx.symm (by omega) W Ra Rb)
  have h1 : ¬ 64 < (n : Int) := by omega
  have RX := Lib.hid (fun (A : Option Addr) ca W T => rows_err A n ca p q d 18 (by decide) W T (fun m W T => fault_kind A n ca p q d m hg hm h0 h01 W T))
  have CX := Lib.hid (fun (A : Option Addr) ca W T => cols_err A n ca p q d 18 (by decide) W T (fun m W T => fault_kind A n ca p q d m hg hm h0 h01 W T))
  have RG := Lib.hid (fun W => Sh.ref p q true (by simp [hg]) W)
  have q1 : IntKind.i64.wrap (p * q) = (n : Int) := by rw [hm]; exact IntWalk.i64_in _ (by omega)
  have ne : ((n : Int) != (n : Int)) = false := by simp
  have d0 : (d != 0) = true := by simp [h0]
  have d1 : (d != 1) = true := by simp [h01]
  clear hg hm h0 h01 hx hA hT
  go_enter Tryd.func5, Tryd.ntmps5
  go_upto_region 1 with fail
  have V0 := Lib.hid (Sh.Tw.fresh w p q 40)
  have b0 := Lib.hid (HB.out (.cells #[.int .i64 p, .int .i64 q] 40))
  clear HB
  generalize w.alloc (.cells #[.int .i64 p, .int .i64 q] 40) = w0 at *
  go_wp2_with fail
  refine (awake _ (HT.out.below b0.out)).mono ?_
  rintro e w1 ⟨rfl, h1⟩
  have c1 := Lib.hid (b0.out.trans (h1.mono b0.out.size))
  have V1 := Lib.hid (V0.out.below h1)
  clear h1 V0 b0
  have O2 := Lib.hid (Ow.fresh w1 w1.heap.size (Nat.le_refl _))
  have RA2 := Lib.hid ((R.out.step c1.out).alloc (Nat.le_refl _) (.cells #[] 51))
  have BA2 := Lib.hid (below_alloc w1 (.cells #[] 51))
  go_upto_region 6 with (first
    | (at_builtin; (refine append_all (w1.alloc (.cells #[] 51)) ?hgd (.tmp 17) (.tmp 18) ?ho w1.heap.size (.slice (some ⟨w1.heap.size, 0, none⟩) 0 0) [] ?hs O2.out w1.heap.size A ca xs ?hx RA2.out HA.out ?c1 ?c2 (fun v3 w3 OO hg => ?_)); (case hgd => rfl); (case ho => rfl); (case hs => rfl); (case hx => exact HXE.out); (case c1 => have := HX.out; simp only [List.length_nil]; omega); (case c2 => simp); (obtain ⟨A3, k3, rfl, Y3, d3⟩ := copied HX.out RL.out O2.out BA2.out OO hg); (have Y3 := Lib.hid Y3); (have d3 := Lib.hid d3); (have c3 := Lib.hid (c1.out.trans (d3.out.mono c1.out.size))); (have O4 := Lib.hid (Ow.fresh w3 w3.heap.size (Nat.le_refl _))); (have RA4 := Lib.hid ((R.out.step c3.out).alloc (Nat.le_refl _) (.cells #[] 51))); (have BA4 := Lib.hid (below_alloc w3 (.cells #[] 51))); (clear O2 RA2 BA2 OO hg))
    | (at_builtin; (refine append_all (w3.alloc (.cells #[] 51)) ?hgd (.tmp 20) (.tmp 21) ?ho w3.heap.size (.slice (some ⟨w3.heap.size, 0, none⟩) 0 0) [] ?hs O4.out w3.heap.size A ca xs ?hx RA4.out HA.out ?c1 ?c2 (fun v4 w4 OO hg => ?_)); (case hgd => rfl); (case ho => rfl); (case hs => rfl); (case hx => exact HXE.out); (case c1 => have := HX.out; simp only [List.length_nil]; omega); (case c2 => simp); (obtain ⟨A4, k4, rfl, Z4, d4⟩ := copied HX.out RL.out O4.out BA4.out OO hg); (have Z4 := Lib.hid Z4); (have Y4 := Lib.hid (Y3.out.step d4)); (have d4 := Lib.hid d4); (have c4 := Lib.hid (c3.out.trans (d4.out.mono c3.out.size))); (have V4 := Lib.hid ((V1.out.below d3.out).below d4.out)); (clear O4 RA4 BA4 OO hg)))
  have vl := Lib.hid V4.out.lt
  have T4 := Lib.hid (HT.out.below c4.out)
  clear V1 d3 d4 c1 c3 Y3
  generalize w.heap.size = vb at V4 vl
  have M := (show Va w4 vb p q w4 from ⟨V4.out, Below.refl _ _, vl.out⟩)
  have TX := Lib.hid (fun W (h : Va w4 vb p q W) => show Ft.Tab W from T4.out.below h.d)
  clear V4
  go_cut [9, 10] (fun v9 v10 wx => v9 = .int .i64 18 ∧ v10 = .int .i64 18 ∧ Va w4 vb p q wx)
  case first =>
    go_region_held3 (fun w' => w'.cell? ⟨vb, 0, none⟩ = some (.int .i64 p) ∧ w'.cell? ⟨vb, 1, none⟩ = some (.int .i64 q) ∧ Va w4 vb p q w')
      (exact Va.all (by repeat (first | with_reducible exact M | with_reducible refine Va.drew ?_ | with_reducible refine Va.call ?_ h6 | with_reducible refine Va.call ?_ h5)))
      (first
        | (go_at_call 19; refine (RX.out _ _ _ (TX.out _ (by repeat (first | with_reducible exact M | with_reducible refine Va.drew ?_ | with_reducible refine Va.call ?_ h6)))).mono ?_; rintro e w5 ⟨rfl, h5⟩)
        | (go_at_call 20; refine (CX.out _ _ _ (TX.out _ (by repeat (first | with_reducible exact M | with_reducible refine Va.drew ?_ | with_reducible refine Va.call ?_ h5)))).mono ?_; rintro e w6 ⟨rfl, h6⟩))
    all_goals (go_wp2_with fail; go_meet)
    all_goals exact ⟨rfl, rfl, by repeat (first | with_reducible exact M | with_reducible refine Va.drew ?_ | with_reducible refine Va.call ?_ h6 | with_reducible refine Va.call ?_ h5)⟩
  case rest =>
    obtain ⟨rfl, rfl, M7⟩ := hcut
    clear M TX RX CX
    generalize wc = w7 at *
    have c7 := Lib.hid (c4.out.trans (M7.d.mono c4.out.size))
    have Y7 := Lib.hid (Y4.out.step M7.d)
    have Z7 := Lib.hid (Z4.out.step M7.d)
    have V7 := Lib.hid M7.v
    clear M7 Y4 Z4 c4
    obtain ⟨t0, t1⟩ := V7.out
    go_wp2_with fail
    refine (RG.out _).mono ?_
    rintro e w8 ⟨rfl, d8⟩
    have d8 := Lib.hid d8
    have c8 := Lib.hid (c7.out.trans (d8.out.mono c7.out.size))
    have V8 := Lib.hid (V7.out.below d8.out)
    have Y8 := Lib.hid (Y7.out.step d8.out)
    have Z8 := Lib.hid (Z7.out.step d8.out)
    clear t0 t1 V7 Y7 Z7 d8 c7
    obtain ⟨t0, t1⟩ := V8.out
    go_wp2_with fail
    refine (SM.out _ _ _ _ _ Y8.out (R.out.step c8.out)).mono ?_
    rintro e w9 ⟨rfl, d9⟩
    have d9 := Lib.hid d9
    have c9 := Lib.hid (c8.out.trans (d9.out.mono c8.out.size))
    have V9 := Lib.hid (V8.out.below d9.out)
    have Z9 := Lib.hid (Z8.out.step d9.out)
    clear t0 t1 V8 Z8 d9 c8
    obtain ⟨t0, t1⟩ := V9.out
    go_wp2_with fail
    refine (SM.out _ _ _ _ _ Z9.out (R.out.step c9.out)).mono ?_
    rintro e w10 ⟨rfl, d10⟩
    have d10 := Lib.hid d10
    have c10 := Lib.hid (c9.out.trans (d10.out.mono c9.out.size))
    have V10 := Lib.hid (V9.out.below d10.out)
    clear t0 t1 V9 d10 c9
    go_wp2
    go_ret
    exact ⟨by simp [go_sem], c10.out⟩

set_option maxHeartbeats 1000000 in
set_option maxRecDepth 100000 in
theorem walk_in (A : Option Addr) (ca n : Nat) (xs : List Nat) (P Q ra rc d : Nat) (hl : n ≤ 64) (hP : P = 2 ^ ra) (hQ : Q = 2 ^ rc) (hk : ra + rc ≤ 32) (hn : n = P * Q) (hd : d ≤ 1) (hx : xs.length = n) (hA : A = none → ca = 0) (w : World) (hT : Ft.Tab w) (R : Ws w w.heap.size A xs) :
    Calls Tryd.prog 5 #[.slice A n ca, .agg #[.int .i64 (P : Int), .int .i64 (Q : Int)], .int .i64 (d : Int)] w fun e w' => e = .returned (.bool true) ∧ Below w.heap.size w w' := by
  have HXE := Lib.hid (show Value.slice A n ca = Value.slice A xs.length ca by rw [hx])
  have HX := Lib.hid hx
  have HA := Lib.hid hA
  have RL := Lib.hid R.lt
  have R := Lib.hid R
  have HT := Lib.hid hT
  have HB := Lib.hid (below_alloc w)
  have h1 : ¬ 64 < (n : Int) := by omega
  have hn2 : n = 2 ^ (ra + rc) := by rw [hn, hP, hQ, Nat.pow_add]
  have N0 := Lib.hid (show 0 < n by rw [hn2]; exact Nat.two_pow_pos _)
  have hg : Sh.Gd (P : Int) (Q : Int) := ⟨ra, rc, hk, by rw [hP], by rw [hQ]⟩
  have LT : ∀ i, i < n → Pn.pl xs i < 18446744073709551616 := fun i hi => R.out.lt i (by omega)
  have RE := Lib.hid (show rg (Pn.pl xs) n = xs from rg_pl hx)
  have RX := Lib.hid (fun b ca W T (hb : 1 < b) J => rows_ok b n ca P Q ra rc d (Pn.pl xs) hP hQ hk hn (by omega) hd LT W T hb J)
  have CX := Lib.hid (fun b ca W T (hb : 1 < b) J => cols_ok b n ca P Q ra rc d (Pn.pl xs) hP hQ hk hn (by omega) hd LT W T hb J)
  have RR := Lib.hid (fun W X => rrows A n ca P Q ra rc d (Pn.pl xs) hP hQ hn (by omega) hd W X)
  have CR := Lib.hid (fun W X => rcols A n ca P Q ra rc d (Pn.pl xs) hP hQ hn (by omega) hd W X)
  have G1 := Lib.hid (fun j (hj : j < n) => show ev rc d (fun i => i * Q) 1 Q (Pn.pl xs) P j < 18446744073709551616 from ev_lt j (LT j hj) P)
  have G2 := Lib.hid (fun j (hj : j < n) => show ev ra d (fun i => i) Q P (Pn.pl xs) Q j < 18446744073709551616 from ev_lt j (LT j hj) Q)
  have RG := Lib.hid (fun W => Sh.ref (P : Int) (Q : Int) true (by simp [hg]) W)
  have SG := Lib.hid (fun (g h : Nat → Nat) (e : ∀ i, i < n → g i = h i) (A B : Option Addr) (ca cb : Nat) W Ra Rb => same_rg (n := n) e (by omega) A B ca cb W Ra Rb)
  have q1 : IntKind.i64.wrap ((P : Int) * (Q : Int)) = (n : Int) := by rw [← Int.natCast_mul, ← hn]; exact IntWalk.i64_in _ (by omega)
  have ne : ((n : Int) != (n : Int)) = false := by simp
  generalize ev rc d (fun i => i * Q) 1 Q (Pn.pl xs) P = g1 at *
  generalize ev ra d (fun i => i) Q P (Pn.pl xs) Q = g2 at *
  have DD : d = 0 ∨ d = 1 := by omega
  clear LT hd hn hn2 hg hP hQ hk hx hA hT
  rcases DD with rfl | rfl
  · skip
    go_enter Tryd.func5, Tryd.ntmps5
    go_upto_region 1 with fail
    have V0 := Lib.hid (Sh.Tw.fresh w P Q 40)
    have b0 := Lib.hid (HB.out (.cells #[.int .i64 (P : Int), .int .i64 (Q : Int)] 40))
    clear HB
    generalize w.alloc (.cells #[.int .i64 (P : Int), .int .i64 (Q : Int)] 40) = w0 at *
    go_wp2_with fail
    refine (awake _ (HT.out.below b0.out)).mono ?_
    rintro e w1 ⟨rfl, h1⟩
    have c1 := Lib.hid (b0.out.trans (h1.mono b0.out.size))
    have V1 := Lib.hid (V0.out.below h1)
    clear h1 V0 b0
    have O2 := Lib.hid (Ow.fresh w1 w1.heap.size (Nat.le_refl _))
    have RA2 := Lib.hid ((R.out.step c1.out).alloc (Nat.le_refl _) (.cells #[] 51))
    have BA2 := Lib.hid (below_alloc w1 (.cells #[] 51))
    go_upto_region 6 with (first
      | (at_builtin; (refine append_all (w1.alloc (.cells #[] 51)) ?hgd (.tmp 17) (.tmp 18) ?ho w1.heap.size (.slice (some ⟨w1.heap.size, 0, none⟩) 0 0) [] ?hs O2.out w1.heap.size A ca xs ?hx RA2.out HA.out ?c1 ?c2 (fun v3 w3 OO hg => ?_)); (case hgd => rfl); (case ho => rfl); (case hs => rfl); (case hx => exact HXE.out); (case c1 => have := HX.out; simp only [List.length_nil]; omega); (case c2 => simp); (obtain ⟨b3, k3, rfl, hk3, hb3, J3, d3⟩ := copied_wk HX.out N0.out O2.out BA2.out OO hg); (have J3 := Lib.hid J3); (have d3 := Lib.hid d3); (have c3 := Lib.hid (c1.out.trans (d3.out.mono c1.out.size))); (have O4 := Lib.hid (Ow.fresh w3 w3.heap.size (Nat.le_refl _))); (have RA4 := Lib.hid ((R.out.step c3.out).alloc (Nat.le_refl _) (.cells #[] 51))); (have BA4 := Lib.hid (below_alloc w3 (.cells #[] 51))); (clear O2 RA2 BA2 OO hg))
      | (at_builtin; (refine append_all (w3.alloc (.cells #[] 51)) ?hgd (.tmp 20) (.tmp 21) ?ho w3.heap.size (.slice (some ⟨w3.heap.size, 0, none⟩) 0 0) [] ?hs O4.out w3.heap.size A ca xs ?hx RA4.out HA.out ?c1 ?c2 (fun v4 w4 OO hg => ?_)); (case hgd => rfl); (case ho => rfl); (case hs => rfl); (case hx => exact HXE.out); (case c1 => have := HX.out; simp only [List.length_nil]; omega); (case c2 => simp); (obtain ⟨b4, k4, rfl, hk4, hb4, J4, d4⟩ := copied_wk HX.out N0.out O4.out BA4.out OO hg); (have I0 := Lib.hid (show Kq.AB w1.heap.size n b3 b4 (Pn.pl xs) (Pn.pl xs) w1 w4 from ⟨J3.out.k.step d4, J4.k, Nat.ne_of_lt (Nat.lt_of_lt_of_le J3.out.s hb4), hb3, Nat.le_trans d3.out.size hb4, Nat.lt_of_lt_of_le J3.out.s d4.size, J4.s, d3.out.trans (d4.mono d3.out.size)⟩)); (have d4 := Lib.hid d4); (have c4 := Lib.hid (c3.out.trans (d4.out.mono c3.out.size))); (have V4 := Lib.hid ((V1.out.below d3.out).below d4.out)); (clear O4 RA4 BA4 OO hg)))
    have vl := Lib.hid V1.out.lt
    have T1 := Lib.hid (HT.out.below c1.out)
    have TL := Lib.hid (Nat.lt_of_lt_of_le (tab_lt HT.out) c1.out.size)
    clear d3 d4 c3 J3 c4
    generalize w.heap.size = vb at V1 V4 vl
    have M := (show Va w1 vb P Q w4 from ⟨V4.out, I0.out.d, vl.out⟩)
    have TX := Lib.hid (fun W (h : Va w1 vb P Q W) => show Ft.Tab W from T1.out.below h.d)
    have la := Lib.hid I0.out.la
    have lb := Lib.hid I0.out.lb
    have I1 := Lib.hid I0.out.drew
    have ta := Lib.hid (Nat.lt_of_lt_of_le TL.out la.out)
    have tb := Lib.hid (Nat.lt_of_lt_of_le TL.out lb.out)
    have VX := Lib.hid (fun W (h : Below w1.heap.size w1 W) => tw_low V1.out vl.out h)
    clear V4 I0 V1
    go_cut [9, 10] (fun v9 v10 wx => v9 = .int .i64 0 ∧ v10 = .int .i64 0 ∧ Kq.AB w1.heap.size n b3 b4 g1 g2 w1 wx)
    case first =>
      go_region_held3 (fun w' => w'.cell? ⟨vb, 0, none⟩ = some (.int .i64 (P : Int)) ∧ w'.cell? ⟨vb, 1, none⟩ = some (.int .i64 (Q : Int)) ∧ Va w1 vb P Q w')
        (exact Va.all (by repeat (first | with_reducible exact M | with_reducible refine Va.drew ?_ | with_reducible refine Va.jr ?_ J6 lb.out | with_reducible refine Va.jr ?_ J5 la.out)))
        (first
          | (go_at_call 19; refine (RX.out _ _ _ (TX.out _ (by repeat (first | with_reducible exact M | with_reducible refine Va.drew ?_ | with_reducible refine Va.jr ?_ J6 lb.out))) ta.out (by first | exact ab_ja (ab_stepb I1.out J6) | exact ab_ja I1.out)).mono ?_; rintro e w5 ⟨rfl, J5⟩)
          | (go_at_call 20; refine (CX.out _ _ _ (TX.out _ (by repeat (first | with_reducible exact M | with_reducible refine Va.drew ?_ | with_reducible refine Va.jr ?_ J5 la.out))) tb.out (by first | exact ab_jb (ab_stepa I1.out J5) | exact ab_jb I1.out)).mono ?_; rintro e w6 ⟨rfl, J6⟩))
      all_goals (go_wp2_with fail; go_meet)
      all_goals exact ⟨rfl, rfl, by first | exact ab_stepb (ab_stepa I1.out J5) J6 | exact ab_stepa (ab_stepb I1.out J6) J5⟩
    case rest =>
      obtain ⟨rfl, rfl, I7⟩ := hcut
      clear M TX RX CX I1 la lb ta tb T1 TL
      generalize wc = w7 at *
      have c7 := Lib.hid (c1.out.trans (I7.d.mono c1.out.size))
      have Y7 := Lib.hid (show Ws w7 w7.heap.size (some ⟨b3, 0, none⟩) (rg g1 n) from I7.a.ws G1.out I7.sa)
      have Z7 := Lib.hid (show Ws w7 w7.heap.size (some ⟨b4, 0, none⟩) (rg g2 n) from I7.b.ws G2.out I7.sb)
      have V7 := Lib.hid (VX.out _ I7.d)
      clear I7 c1 VX
      obtain ⟨t0, t1⟩ := V7.out
      go_wp2_with fail
      refine (RG.out _).mono ?_
      rintro e w8 ⟨rfl, d8⟩
      have d8 := Lib.hid d8
      have c8 := Lib.hid (c7.out.trans (d8.out.mono c7.out.size))
      have V8 := Lib.hid (V7.out.below d8.out)
      have Y8 := Lib.hid (Y7.out.step d8.out)
      have Z8 := Lib.hid (Z7.out.step d8.out)
      clear t0 t1 V7 Y7 Z7 d8 c7
      obtain ⟨t0, t1⟩ := V8.out
      go_wp2_with fail
      refine (RR.out _ (by rw [RE.out]; exact R.out.step c8.out)).mono ?_
      rintro e w9 ⟨Ar, kr, rfl, Yr, d9⟩
      have Yr := Lib.hid Yr
      have d9 := Lib.hid d9
      have c9 := Lib.hid (c8.out.trans (d9.out.mono c8.out.size))
      have V9 := Lib.hid (V8.out.below d9.out)
      have Y9 := Lib.hid (Y8.out.step d9.out)
      have Z9 := Lib.hid (Z8.out.step d9.out)
      clear t0 t1 V8 Y8 Z8 d9 c8
      obtain ⟨t0, t1⟩ := V9.out
      go_wp2_with fail
      refine (SG.out _ _ (fun _ _ => rfl) _ _ _ _ _ Y9.out Yr.out).mono ?_
      rintro e w10 ⟨rfl, d10⟩
      have d10 := Lib.hid d10
      have c10 := Lib.hid (c9.out.trans (d10.out.mono c9.out.size))
      have V10 := Lib.hid (V9.out.below d10.out)
      have Z10 := Lib.hid (Z9.out.step d10.out)
      clear Yr
      clear t0 t1 V9 Z9 d10 c9
      obtain ⟨t0, t1⟩ := V10.out
      go_wp2_with fail
      refine (CR.out _ (by rw [RE.out]; exact R.out.step c10.out)).mono ?_
      rintro e w11 ⟨Ar, kr, rfl, Yr, d11⟩
      have Yr := Lib.hid Yr
      have d11 := Lib.hid d11
      have c11 := Lib.hid (c10.out.trans (d11.out.mono c10.out.size))
      have V11 := Lib.hid (V10.out.below d11.out)
      have Z11 := Lib.hid (Z10.out.step d11.out)
      clear t0 t1 V10 Z10  d11 c10
      obtain ⟨t0, t1⟩ := V11.out
      go_wp2_with fail
      refine (SG.out _ _ (fun _ _ => rfl) _ _ _ _ _ Z11.out Yr.out).mono ?_
      rintro e w12 ⟨rfl, d12⟩
      have d12 := Lib.hid d12
      have c12 := Lib.hid (c11.out.trans (d12.out.mono c11.out.size))
      have V12 := Lib.hid (V11.out.below d12.out)
      clear Yr
      clear t0 t1 V11 d12 c11
      go_wp2
      go_ret
      exact ⟨by simp [go_sem], c12.out⟩
  · skip
    go_enter Tryd.func5, Tryd.ntmps5
    go_upto_region 1 with fail
    have V0 := Lib.hid (Sh.Tw.fresh w P Q 40)
    have b0 := Lib.hid (HB.out (.cells #[.int .i64 (P : Int), .int .i64 (Q : Int)] 40))
    clear HB
    generalize w.alloc (.cells #[.int .i64 (P : Int), .int .i64 (Q : Int)] 40) = w0 at *
    go_wp2_with fail
    refine (awake _ (HT.out.below b0.out)).mono ?_
    rintro e w1 ⟨rfl, h1⟩
    have c1 := Lib.hid (b0.out.trans (h1.mono b0.out.size))
    have V1 := Lib.hid (V0.out.below h1)
    clear h1 V0 b0
    have O2 := Lib.hid (Ow.fresh w1 w1.heap.size (Nat.le_refl _))
    have RA2 := Lib.hid ((R.out.step c1.out).alloc (Nat.le_refl _) (.cells #[] 51))
    have BA2 := Lib.hid (below_alloc w1 (.cells #[] 51))
    go_upto_region 6 with (first
      | (at_builtin; (refine append_all (w1.alloc (.cells #[] 51)) ?hgd (.tmp 17) (.tmp 18) ?ho w1.heap.size (.slice (some ⟨w1.heap.size, 0, none⟩) 0 0) [] ?hs O2.out w1.heap.size A ca xs ?hx RA2.out HA.out ?c1 ?c2 (fun v3 w3 OO hg => ?_)); (case hgd => rfl); (case ho => rfl); (case hs => rfl); (case hx => exact HXE.out); (case c1 => have := HX.out; simp only [List.length_nil]; omega); (case c2 => simp); (obtain ⟨b3, k3, rfl, hk3, hb3, J3, d3⟩ := copied_wk HX.out N0.out O2.out BA2.out OO hg); (have J3 := Lib.hid J3); (have d3 := Lib.hid d3); (have c3 := Lib.hid (c1.out.trans (d3.out.mono c1.out.size))); (have O4 := Lib.hid (Ow.fresh w3 w3.heap.size (Nat.le_refl _))); (have RA4 := Lib.hid ((R.out.step c3.out).alloc (Nat.le_refl _) (.cells #[] 51))); (have BA4 := Lib.hid (below_alloc w3 (.cells #[] 51))); (clear O2 RA2 BA2 OO hg))
      | (at_builtin; (refine append_all (w3.alloc (.cells #[] 51)) ?hgd (.tmp 20) (.tmp 21) ?ho w3.heap.size (.slice (some ⟨w3.heap.size, 0, none⟩) 0 0) [] ?hs O4.out w3.heap.size A ca xs ?hx RA4.out HA.out ?c1 ?c2 (fun v4 w4 OO hg => ?_)); (case hgd => rfl); (case ho => rfl); (case hs => rfl); (case hx => exact HXE.out); (case c1 => have := HX.out; simp only [List.length_nil]; omega); (case c2 => simp); (obtain ⟨b4, k4, rfl, hk4, hb4, J4, d4⟩ := copied_wk HX.out N0.out O4.out BA4.out OO hg); (have I0 := Lib.hid (show Kq.AB w1.heap.size n b3 b4 (Pn.pl xs) (Pn.pl xs) w1 w4 from ⟨J3.out.k.step d4, J4.k, Nat.ne_of_lt (Nat.lt_of_lt_of_le J3.out.s hb4), hb3, Nat.le_trans d3.out.size hb4, Nat.lt_of_lt_of_le J3.out.s d4.size, J4.s, d3.out.trans (d4.mono d3.out.size)⟩)); (have d4 := Lib.hid d4); (have c4 := Lib.hid (c3.out.trans (d4.out.mono c3.out.size))); (have V4 := Lib.hid ((V1.out.below d3.out).below d4.out)); (clear O4 RA4 BA4 OO hg)))
    have vl := Lib.hid V1.out.lt
    have T1 := Lib.hid (HT.out.below c1.out)
    have TL := Lib.hid (Nat.lt_of_lt_of_le (tab_lt HT.out) c1.out.size)
    clear d3 d4 c3 J3 c4
    generalize w.heap.size = vb at V1 V4 vl
    have M := (show Va w1 vb P Q w4 from ⟨V4.out, I0.out.d, vl.out⟩)
    have TX := Lib.hid (fun W (h : Va w1 vb P Q W) => show Ft.Tab W from T1.out.below h.d)
    have la := Lib.hid I0.out.la
    have lb := Lib.hid I0.out.lb
    have I1 := Lib.hid I0.out.drew
    have ta := Lib.hid (Nat.lt_of_lt_of_le TL.out la.out)
    have tb := Lib.hid (Nat.lt_of_lt_of_le TL.out lb.out)
    have VX := Lib.hid (fun W (h : Below w1.heap.size w1 W) => tw_low V1.out vl.out h)
    clear V4 I0 V1
    go_cut [9, 10] (fun v9 v10 wx => v9 = .int .i64 0 ∧ v10 = .int .i64 0 ∧ Kq.AB w1.heap.size n b3 b4 g1 g2 w1 wx)
    case first =>
      go_region_held3 (fun w' => w'.cell? ⟨vb, 0, none⟩ = some (.int .i64 (P : Int)) ∧ w'.cell? ⟨vb, 1, none⟩ = some (.int .i64 (Q : Int)) ∧ Va w1 vb P Q w')
        (exact Va.all (by repeat (first | with_reducible exact M | with_reducible refine Va.drew ?_ | with_reducible refine Va.jr ?_ J6 lb.out | with_reducible refine Va.jr ?_ J5 la.out)))
        (first
          | (go_at_call 19; refine (RX.out _ _ _ (TX.out _ (by repeat (first | with_reducible exact M | with_reducible refine Va.drew ?_ | with_reducible refine Va.jr ?_ J6 lb.out))) ta.out (by first | exact ab_ja (ab_stepb I1.out J6) | exact ab_ja I1.out)).mono ?_; rintro e w5 ⟨rfl, J5⟩)
          | (go_at_call 20; refine (CX.out _ _ _ (TX.out _ (by repeat (first | with_reducible exact M | with_reducible refine Va.drew ?_ | with_reducible refine Va.jr ?_ J5 la.out))) tb.out (by first | exact ab_jb (ab_stepa I1.out J5) | exact ab_jb I1.out)).mono ?_; rintro e w6 ⟨rfl, J6⟩))
      all_goals (go_wp2_with fail; go_meet)
      all_goals exact ⟨rfl, rfl, by first | exact ab_stepb (ab_stepa I1.out J5) J6 | exact ab_stepa (ab_stepb I1.out J6) J5⟩
    case rest =>
      obtain ⟨rfl, rfl, I7⟩ := hcut
      clear M TX RX CX I1 la lb ta tb T1 TL
      generalize wc = w7 at *
      have c7 := Lib.hid (c1.out.trans (I7.d.mono c1.out.size))
      have Y7 := Lib.hid (show Ws w7 w7.heap.size (some ⟨b3, 0, none⟩) (rg g1 n) from I7.a.ws G1.out I7.sa)
      have Z7 := Lib.hid (show Ws w7 w7.heap.size (some ⟨b4, 0, none⟩) (rg g2 n) from I7.b.ws G2.out I7.sb)
      have V7 := Lib.hid (VX.out _ I7.d)
      clear I7 c1 VX
      obtain ⟨t0, t1⟩ := V7.out
      go_wp2_with fail
      refine (RG.out _).mono ?_
      rintro e w8 ⟨rfl, d8⟩
      have d8 := Lib.hid d8
      have c8 := Lib.hid (c7.out.trans (d8.out.mono c7.out.size))
      have V8 := Lib.hid (V7.out.below d8.out)
      have Y8 := Lib.hid (Y7.out.step d8.out)
      have Z8 := Lib.hid (Z7.out.step d8.out)
      clear t0 t1 V7 Y7 Z7 d8 c7
      obtain ⟨t0, t1⟩ := V8.out
      go_wp2_with fail
      refine (RR.out _ (by rw [RE.out]; exact R.out.step c8.out)).mono ?_
      rintro e w9 ⟨Ar, kr, rfl, Yr, d9⟩
      have Yr := Lib.hid Yr
      have d9 := Lib.hid d9
      have c9 := Lib.hid (c8.out.trans (d9.out.mono c8.out.size))
      have V9 := Lib.hid (V8.out.below d9.out)
      have Y9 := Lib.hid (Y8.out.step d9.out)
      have Z9 := Lib.hid (Z8.out.step d9.out)
      clear t0 t1 V8 Y8 Z8 d9 c8
      obtain ⟨t0, t1⟩ := V9.out
      go_wp2_with fail
      refine (SG.out _ _ (fun _ _ => rfl) _ _ _ _ _ Y9.out Yr.out).mono ?_
      rintro e w10 ⟨rfl, d10⟩
      have d10 := Lib.hid d10
      have c10 := Lib.hid (c9.out.trans (d10.out.mono c9.out.size))
      have V10 := Lib.hid (V9.out.below d10.out)
      have Z10 := Lib.hid (Z9.out.step d10.out)
      clear Yr
      clear t0 t1 V9 Z9 d10 c9
      obtain ⟨t0, t1⟩ := V10.out
      go_wp2_with fail
      refine (CR.out _ (by rw [RE.out]; exact R.out.step c10.out)).mono ?_
      rintro e w11 ⟨Ar, kr, rfl, Yr, d11⟩
      have Yr := Lib.hid Yr
      have d11 := Lib.hid d11
      have c11 := Lib.hid (c10.out.trans (d11.out.mono c10.out.size))
      have V11 := Lib.hid (V10.out.below d11.out)
      have Z11 := Lib.hid (Z10.out.step d11.out)
      clear t0 t1 V10 Z10  d11 c10
      obtain ⟨t0, t1⟩ := V11.out
      go_wp2_with fail
      refine (SG.out _ _ (fun _ _ => rfl) _ _ _ _ _ Z11.out Yr.out).mono ?_
      rintro e w12 ⟨rfl, d12⟩
      have d12 := Lib.hid d12
      have c12 := Lib.hid (c11.out.trans (d12.out.mono c11.out.size))
      have V12 := Lib.hid (V11.out.below d12.out)
      clear Yr
      clear t0 t1 V11 d12 c11
      go_wp2
      go_ret
      exact ⟨by simp [go_sem], c12.out⟩

theorem walk (A : Option Addr) (ca n : Nat) (xs : List Nat) (p q d : Int) (hx : xs.length = n) (hA : A = none → ca = 0) (w : World) (hT : Ft.Tab w) (R : Ws w w.heap.size A xs) :
    Calls Tryd.prog 5 #[.slice A n ca, .agg #[.int .i64 p, .int .i64 q], .int .i64 d] w fun e w' => e = .returned (.bool true) ∧ Below w.heap.size w w' := by
  by_cases hl : n ≤ 64
  · by_cases hg : Sh.Gd p q
    · by_cases hm : p * q = (n : Int)
      · by_cases h0 : d = 0 ∨ d = 1
        · obtain ⟨dn, rfl, hd⟩ : ∃ dn : Nat, d = (dn : Int) ∧ dn ≤ 1 := by
            rcases h0 with h | h
            · exact ⟨0, h, by omega⟩
            · exact ⟨1, h, by omega⟩
          obtain ⟨ra, rc, hk, rfl, rfl⟩ := hg
          exact walk_in A ca n xs (2 ^ ra) (2 ^ rc) ra rc dn hl rfl rfl hk (by rw [← Int.natCast_mul] at hm; omega) hd hx hA w hT R
        · exact walk_kind A ca n xs p q d hl hg hm (fun h => h0 (Or.inl h)) (fun h => h0 (Or.inr h)) hx hA w hT R
      · exact walk_size A ca n xs p q d hl _ hg rfl (fun h => hm h.symm) hx hA w hT R
    · exact walk_shape A ca n xs p q d hl hg hx hA w hT R
  · exact walk_long A ca n p q d (by omega) w hT

theorem g32 : Tryd.prog.globalNamed "math/bits.deBruijn32tab" = some 0 := by kernel_rfl
theorem g64 : Tryd.prog.globalNamed "math/bits.deBruijn64tab" = some 1 := by kernel_rfl
theorem t64 : (Tryd.prog.globals[1]?).map (·.type) = some 106 := by kernel_rfl
/-- What the row's condition gives the walk: the table's cells. -/
theorem of_laid {W : World} (h : laidMetH Tryd.prog Rows.rowsAllRow.laid W) : Ft.Tab W := by
  rw [MakeChecks.laidMetH_plain _ _ _ (by kernel_rfl)] at h
  obtain ⟨ps, ⟨g0, t0, cs0, f0, p0, q0, hg0, ht0, hv0, hd0, ⟨g1, t1, cs1, f1, p1, q1, hg1, ht1, hv1, hd1, _, _⟩, _⟩, _, _⟩ := h
  obtain rfl := Option.some.inj (g64.symm.trans hg1)
  obtain rfl := Option.some.inj (t64.symm.trans ht1)
  have hd2 : DataW.trod _ Tryd.prog W 0 _ false f1 106 cs1.toList = some (Lib.tabData .u8 (Lib.deBruijn64tab.map Int.ofNat), p1) := hd1
  have hc := Lib.cells_of_tab Tryd.underlying106 Tryd.underlying5 (by kernel_rfl) (by kernel_rfl) hd2
  intro i hi
  have c := World.var?_cell hg1 hv1 i
  rw [c, ← Array.getElem?_toList, hc]
  have hl : Lib.deBruijn64tab.length = 64 := by decide
  simp [List.getD, hl, hi]

/-- The door's own heap meets the condition. -/
theorem door_met (os : Os) (args : Array Value) : laidMetH Tryd.prog Rows.rowsAllRow.laid ((World.doorLaid Tryd.prog 400 os).forCall (fun _ _ => 0) ⟨#[], args, []⟩).memory :=
  laidMetH_of_parts3 (fuel := 8) (laidMet_of_run' 8 (by kernel_rfl) (by kernel_rfl)) (by kernel_rfl) (by kernel_rfl)
set_option maxRecDepth 100000 in
theorem lifted (os : Os) (started : os.Started) (H : Type) (enc : TypeId × Value → H) :
    ReturnsInHanded {} Tryd.checked os 5 .any (fun w args => (Rows.rowsAllSpec.pre enc Tryd.prog Tryd.f5 [] false w args ∧ laidMetH Tryd.prog Rows.rowsAllRow.laid w) ∧ sizedMet enc Tryd.prog Tryd.f5 (OpenSpec.ofChange Rows.rowsAllSpec) false w args)
      (Rows.rowsAllSpec.post enc Tryd.prog Tryd.f5 false true false false) := by
  refine returnsInHanded_of_change_and (C := Tryd.checked) (X := fun w _ => laidMetH Tryd.prog Rows.rowsAllRow.laid w) (fun _ _ _ hh h => h.of_heap hh) Fr.own started (by kernel_rfl) Tryd.func5
    (ChangeSpec.witness_shaped (enc := enc) (C := Tryd.checked) (os := os) (X := fun w _ => laidMetH Tryd.prog Rows.rowsAllRow.laid w) false (World.doorLaid Tryd.prog 400 os) #[.slice none 0 0, .agg #[.int .i64 0, .int .i64 0], .int .i64 0] 8 rfl (World.shaped_of_RefB (by kernel_rfl) (by kernel_rfl)) (by kernel_rfl) (by kernel_rfl) (by kernel_rfl) (door_met os _)) ?_
  intro W base args ds gs before hval0 hW _ _ hL _
  have hval : ∀ (j : Nat) t v, Tryd.f5.params[j]? = some t → args[j]? = some v → Value.okWide Tryd.prog W .any base t v := hval0
  have hW' := hW
  obtain ⟨p, q, hA0, hV, rfl, hfz, hnd⟩ := hW
  have hA : DataW.TrodAll enc Tryd.prog W 0 (fun _ => true) true Tryd.f5.params.toList args.toList ds p := hA0
  obtain ⟨rfl, rfl⟩ := trodVars_none hV
  rw [Tryd.params5] at hA hval
  obtain ⟨v0, vs0, d0, ds0, p0, q0, hargs, rfl, rfl, h0, r0⟩ := trodAll_cons hA
  obtain ⟨v1, vs1, d1, ds1, p1, q1, rfl, rfl, rfl, h1, r1⟩ := trodAll_cons r0
  obtain ⟨v2, vs2, d2, ds2, p2, q2, rfl, rfl, rfl, h2, r2⟩ := trodAll_cons r1
  obtain ⟨rfl, rfl, rfl⟩ := trodAll_nil r2
  obtain rfl : args = #[v0, v1, v2] := by cases args; simp_all
  obtain ⟨A0, n0, c0, rfl⟩ := okWide_slice Tryd.underlying22 (hval 0 22 v0 rfl rfl)
  obtain ⟨fuel0, hf0⟩ := h0
  obtain ⟨xs0, rfl, lc0, lm0, R0⟩ := Ww.open_words hf0
  obtain ⟨a1, b1, rfl, rfl⟩ := Vw.open_shape (hval 1 40 v1 rfl rfl) h1
  obtain ⟨x2, rfl, rfl, rfl, w2⟩ := open_int Tryd.underlying3 (hval 2 3 v2 rfl rfl) h2
  have b2 : -9223372036854775808 ≤ x2 ∧ x2 ≤ 9223372036854775807 := by simpa [Lit.wf, IntKind.min, IntKind.max, IntKind.signed, IntKind.bits] using w2
  simp only [List.append_nil] at hW' hA0
  refine (walk A0 c0 xs0.length xs0 a1 b1 x2 rfl (nil_cap hf0) W (of_laid hL) R0).mono fun e W' ⟨he, hb⟩ => ?_
  subst he
  exact ⟨_, rfl, Fr.law_post (tb := 4) hW' hA0 rfl rfl rfl Tryd.underlying4 (by rw [Tryd.params5]; intro t ht; simp at ht; rcases ht with rfl | rfl | rfl; all_goals exact ⟨by kernel_rfl, of_decide_eq_true (by kernel_rfl)⟩) hb⟩

theorem row_holds : Rows.RowsAllSaid :=
  OpenClaim.holds_of_wide 5 Tryd.f5 rfl rfl rfl rfl rfl rfl rfl ⟨rfl, rfl, rfl, rfl, rfl⟩ rfl rfl rfl rfl rfl (by kernel_rfl) Tryd.func5 (by kernel_rfl)
    (of_decide_eq_true (by kernel_rfl)) (by unfold Func.isWrapper; first | (rw [if_pos (by decide +kernel)]; kernel_rfl) | (rw [if_neg (by decide +kernel)]; exact ⟨rfl, rfl⟩))
    (fun os started H enc _ => lifted os started H enc)

theorem proved : Rows.RowsAllCardSaid :=
  Claim7.holds_tied_plain_at .later [] [.data, .data] true Rows.rowsAllCard.stood.harness false
    row_holds (fun _ h => by cases h) (by kernel_rfl) (fun _ h => by cases h) rowsAll_row_tie rfl ⟨rfl, rfl⟩ (by kernel_rfl) rfl
    (fun f fn hf hfn => by
      obtain rfl : f = 5 := Option.some.inj ((show Tryd.prog.funcNamed "abacist/abacistlaw11.RowsAll" = some 5 by kernel_rfl).symm.trans hf) |>.symm
      obtain rfl : fn = Tryd.f5 := (Option.some.inj (Tryd.func5.symm.trans hfn)).symm
      exact ⟨by kernel_rfl, fun j t ht => by
        rw [Tryd.params5] at ht
        have hm : t ∈ [22, 40, 3] := by simpa using Array.mem_of_getElem? ht
        have hall : ([22, 40, 3].all fun u => !Tryd.prog.wantsStandIn u) = true := by kernel_rfl
        exact (show Tryd.prog.wantsStandIn t = false by simpa using List.all_eq_true.1 hall t hm)⟩)
    (by kernel_rfl)
end Go.Proofs.YtfjoacopnkceoaaDoor.rowsAll
