/- TwidTiles: of every row, tile, exponent and direction the law of a tile's twiddles answers true, and changes nothing, where the library's two tables are as their initialisers lay them (the card ties them to the program's text). -/
import Derived.Test.YtikdoagljabjaaaDoorFrame
import Derived.Test.YtikdoagljabjaaaDoorTwidG
import Derived.Test.YtikdoagljabjaaaDoorTileA
import Derived.Test.YtikdoagljabjaaaDoorTie
import Derived.Test.YtikdoagljabjaaaDoorCards
import Derived.Lib.LaidTab
import Derived.LaidMore
import Derived.Stop.Joined
import Derived.SevenTiedAt
set_option linter.unusedVariables false
namespace Go.Proofs.YtikdoagljabjaaaDoor.twidTiles
open Go.ChangeShapes Go.WideShapes Go.ChangeAt Go.RowKit
open Td Tn Ww Pl Go.Sort

set_option maxHeartbeats 1000000 in
set_option maxRecDepth 100000 in
theorem walk_long (A : Option Addr) (ca n : Nat) (a b r c k d : Int) (hl : 64 < n) (w : World) (hT : Ft.Tab w) :
    Calls Tryd.prog 5 #[.slice A n ca, .agg #[.int .i64 a, .int .i64 b, .int .i64 r, .int .i64 c], .int .i64 k, .int .i64 d] w fun e w' => e = .returned (.bool true) ∧ Below w.heap.size w w' := by
  have h1 : 64 < (n : Int) := by omega
  have HT := Lib.hid hT
  have HB := Lib.hid (below_alloc w)
  clear hT
  go_enter Tryd.func5, Tryd.ntmps5
  go_wp2_with fail
  refine (Td.awake _ (HT.out.below (HB.out _))).mono ?_
  rintro e w1 ⟨rfl, d1⟩
  have c1 := (HB.out _).trans (d1.mono (HB.out _).size)
  have T1 := (Fo.fresh w a b r c 43).below d1
  clear d1
  have t0 := T1.c0
  have t1 := T1.c1
  have t2 := T1.c2
  have t3 := T1.c3
  go_wp2
  go_ret
  exact ⟨by simp [go_sem], c1⟩

set_option maxHeartbeats 1000000 in
set_option maxRecDepth 100000 in
theorem walk_bad (A : Option Addr) (ca n : Nat) (a b r c : Int) {k d : Int} {x : Nat} {e : Int} (h : Rs k d x e) (he : e ≠ 0) (hl : n ≤ 64) (w : World) (hT : Ft.Tab w) :
    Calls Tryd.prog 5 #[.slice A n ca, .agg #[.int .i64 a, .int .i64 b, .int .i64 r, .int .i64 c], .int .i64 k, .int .i64 d] w fun e w' => e = .returned (.bool true) ∧ Below w.heap.size w w' := by
  have h1 : ¬ 64 < (n : Int) := by omega
  have TI := Lib.hid (fun W (_ : Ft.Tab W) => tile_bad h he A n ca a b r c W)
  have WR := Lib.hid (fun W => h.wrong W)
  have e1 : (e != 0) = true := by simp [he]
  clear h he
  have HT := Lib.hid hT
  have HB := Lib.hid (below_alloc w)
  clear hT
  go_enter Tryd.func5, Tryd.ntmps5
  go_wp2_with fail
  refine (Td.awake _ (HT.out.below (HB.out _))).mono ?_
  rintro e w1 ⟨rfl, d1⟩
  have c1 := (HB.out _).trans (d1.mono (HB.out _).size)
  have T1 := (Fo.fresh w a b r c 43).below d1
  clear d1
  have t0 := T1.c0
  have t1 := T1.c1
  have t2 := T1.c2
  have t3 := T1.c3
  go_wp2_with fail
  refine (TI.out _ (HT.out.below c1)).mono ?_
  rintro e w2 ⟨rfl, d2⟩
  have c2 := c1.trans (d2.mono c1.size)
  have T2 := T1.below d2
  clear c1 d2 T1 t0 t1 t2 t3
  have t0 := T2.c0
  have t1 := T2.c1
  have t2 := T2.c2
  have t3 := T2.c3
  go_wp2_with fail
  refine (WR.out _).mono ?_
  rintro e w' ⟨rfl, rfl⟩
  go_wp2
  go_ret
  exact ⟨by simp [go_sem], c2⟩

set_option maxHeartbeats 1000000 in
set_option maxRecDepth 100000 in
theorem walk_shape (A : Option Addr) (ca n : Nat) (k d : Nat) (a b r c : Int) (hk : k ≤ 32) (hd : d ≤ 1) (hg : ¬ Sh.Gd a b) (hl : n ≤ 64) (w : World) (hT : Ft.Tab w) :
    Calls Tryd.prog 5 #[.slice A n ca, .agg #[.int .i64 a, .int .i64 b, .int .i64 r, .int .i64 c], .int .i64 (k : Int), .int .i64 (d : Int)] w fun e w' => e = .returned (.bool true) ∧ Below w.heap.size w w' := by
  have h1 : ¬ 64 < (n : Int) := by omega
  have TI := Lib.hid (fun W T => tile_shape k d hk hd A n ca a b r c hg W T)
  have GO := Lib.hid (fun W => Sh.ref a b false (by simp [hg]) W)
  have WR := Lib.hid (fun W => wrong_in (k : Int) (d : Int) (by omega) (by omega) W)
  clear hg hk hd
  have HT := Lib.hid hT
  have HB := Lib.hid (below_alloc w)
  clear hT
  go_enter Tryd.func5, Tryd.ntmps5
  go_wp2_with fail
  refine (Td.awake _ (HT.out.below (HB.out _))).mono ?_
  rintro e w1 ⟨rfl, d1⟩
  have c1 := (HB.out _).trans (d1.mono (HB.out _).size)
  have T1 := (Fo.fresh w a b r c 43).below d1
  clear d1
  have t0 := T1.c0
  have t1 := T1.c1
  have t2 := T1.c2
  have t3 := T1.c3
  go_wp2_with fail
  refine (TI.out _ (HT.out.below c1)).mono ?_
  rintro e w2 ⟨rfl, d2⟩
  have c2 := c1.trans (d2.mono c1.size)
  have T2 := T1.below d2
  clear c1 d2 T1 t0 t1 t2 t3
  have t0 := T2.c0
  have t1 := T2.c1
  have t2 := T2.c2
  have t3 := T2.c3
  go_wp2_with fail
  refine (WR.out _).mono ?_
  rintro e w' ⟨rfl, rfl⟩
  go_wp2_with fail
  refine (GO.out _).mono ?_
  rintro e w3 ⟨rfl, d3⟩
  have c3 := c2.trans (d3.mono c2.size)
  have T3 := T2.below d3
  clear c2 d3 T2 t0 t1 t2 t3
  have t0 := T3.c0
  have t1 := T3.c1
  have t2 := T3.c2
  have t3 := T3.c3
  go_wp2
  go_ret
  exact ⟨by simp [go_sem], c3⟩

set_option maxHeartbeats 1000000 in
set_option maxRecDepth 100000 in
theorem walk_size (A : Option Addr) (ca n : Nat) (k d : Nat) (a b r c m : Int) (hk : k ≤ 32) (hd : d ≤ 1) (hg : Sh.Gd a b) (hm : a * b = m) (hne : (n : Int) ≠ m) (hl : n ≤ 64) (w : World) (hT : Ft.Tab w) :
    Calls Tryd.prog 5 #[.slice A n ca, .agg #[.int .i64 a, .int .i64 b, .int .i64 r, .int .i64 c], .int .i64 (k : Int), .int .i64 (d : Int)] w fun e w' => e = .returned (.bool true) ∧ Below w.heap.size w w' := by
  have h1 : ¬ 64 < (n : Int) := by omega
  have TI := Lib.hid (fun W T => tile_size k d hk hd A n ca a b r c m hg hm hne W T)
  have GO := Lib.hid (fun W => Sh.ref a b true (by simp [hg]) W)
  obtain ⟨g1, g2, g3, g4, g5⟩ := hg.bound
  have g6 : 0 < a * b := Int.mul_pos g1 g3
  have q1 : IntKind.i64.wrap (a * b) = m := by rw [← hm]; exact IntWalk.i64_in _ (by omega)
  have nm : (m != (n : Int)) = true := by simp; omega
  have WR := Lib.hid (fun W => wrong_in (k : Int) (d : Int) (by omega) (by omega) W)
  clear hg hk hd g1 g2 g3 g4 g5 g6 hm hne
  have HT := Lib.hid hT
  have HB := Lib.hid (below_alloc w)
  clear hT
  go_enter Tryd.func5, Tryd.ntmps5
  go_wp2_with fail
  refine (Td.awake _ (HT.out.below (HB.out _))).mono ?_
  rintro e w1 ⟨rfl, d1⟩
  have c1 := (HB.out _).trans (d1.mono (HB.out _).size)
  have T1 := (Fo.fresh w a b r c 43).below d1
  clear d1
  have t0 := T1.c0
  have t1 := T1.c1
  have t2 := T1.c2
  have t3 := T1.c3
  go_wp2_with fail
  refine (TI.out _ (HT.out.below c1)).mono ?_
  rintro e w2 ⟨rfl, d2⟩
  have c2 := c1.trans (d2.mono c1.size)
  have T2 := T1.below d2
  clear c1 d2 T1 t0 t1 t2 t3
  have t0 := T2.c0
  have t1 := T2.c1
  have t2 := T2.c2
  have t3 := T2.c3
  go_wp2_with fail
  refine (WR.out _).mono ?_
  rintro e w' ⟨rfl, rfl⟩
  go_wp2_with fail
  refine (GO.out _).mono ?_
  rintro e w3 ⟨rfl, d3⟩
  have c3 := c2.trans (d3.mono c2.size)
  have T3 := T2.below d3
  clear c2 d3 T2 t0 t1 t2 t3
  have t0 := T3.c0
  have t1 := T3.c1
  have t2 := T3.c2
  have t3 := T3.c3
  go_wp2
  go_ret
  exact ⟨by simp [go_sem], c3⟩

set_option maxHeartbeats 1000000 in
set_option maxRecDepth 100000 in
theorem walk_range (A : Option Addr) (ca n : Nat) (k d : Nat) (a b r c : Int) (hk : k ≤ 32) (hd : d ≤ 1) (hg : Sh.Gd a b) (hm : a * b = (n : Int)) (h : ¬ (0 ≤ r ∧ r ≤ 4294967296 - a) ∨ ¬ (0 ≤ c ∧ c ≤ 4294967296 - b)) (hl : n ≤ 64) (w : World) (hT : Ft.Tab w) :
    Calls Tryd.prog 5 #[.slice A n ca, .agg #[.int .i64 a, .int .i64 b, .int .i64 r, .int .i64 c], .int .i64 (k : Int), .int .i64 (d : Int)] w fun e w' => e = .returned (.bool true) ∧ Below w.heap.size w w' := by
  have h1 : ¬ 64 < (n : Int) := by omega
  have TI := Lib.hid (fun W T => tile_range k d hk hd A n ca a b r c hg hm h W T)
  have GO := Lib.hid (fun W => Sh.ref a b true (by simp [hg]) W)
  obtain ⟨g1, g2, g3, g4, g5⟩ := hg.bound
  have q1 : IntKind.i64.wrap (a * b) = (n : Int) := by rw [hm]; exact IntWalk.i64_in _ (by omega)
  obtain ⟨m1, hm1⟩ : ∃ m1 : Int, m1 = 4294967296 - a := ⟨_, rfl⟩
  obtain ⟨m2, hm2⟩ : ∃ m2 : Int, m2 = 4294967296 - b := ⟨_, rfl⟩
  have q2 : IntKind.i64.wrap (4294967296 - a) = m1 := by rw [IntKind.wrap_i64]; omega
  have q3 : IntKind.i64.wrap (4294967296 - b) = m2 := by rw [IntKind.wrap_i64]; omega
  rw [← hm1, ← hm2] at h
  have H := Lib.hid h
  have WR := Lib.hid (fun W => wrong_in (k : Int) (d : Int) (by omega) (by omega) W)
  clear hg hk hd g1 g2 g3 g4 g5 hm h hm1 hm2
  have HT := Lib.hid hT
  have HB := Lib.hid (below_alloc w)
  clear hT
  go_enter Tryd.func5, Tryd.ntmps5
  go_wp2_with fail
  refine (Td.awake _ (HT.out.below (HB.out _))).mono ?_
  rintro e w1 ⟨rfl, d1⟩
  have c1 := (HB.out _).trans (d1.mono (HB.out _).size)
  have T1 := (Fo.fresh w a b r c 43).below d1
  clear d1
  have t0 := T1.c0
  have t1 := T1.c1
  have t2 := T1.c2
  have t3 := T1.c3
  go_wp2_with fail
  refine (TI.out _ (HT.out.below c1)).mono ?_
  rintro e w2 ⟨rfl, d2⟩
  have c2 := c1.trans (d2.mono c1.size)
  have T2 := T1.below d2
  clear c1 d2 T1 t0 t1 t2 t3
  have t0 := T2.c0
  have t1 := T2.c1
  have t2 := T2.c2
  have t3 := T2.c3
  go_wp2_with fail
  refine (WR.out _).mono ?_
  rintro e w' ⟨rfl, rfl⟩
  go_wp2_with fail
  refine (GO.out _).mono ?_
  rintro e w3 ⟨rfl, d3⟩
  have c3 := c2.trans (d3.mono c2.size)
  have T3 := T2.below d3
  clear c2 d3 T2 t0 t1 t2 t3
  have t0 := T3.c0
  have t1 := T3.c1
  have t2 := T3.c2
  have t3 := T3.c3
  by_cases r0 : r < 0
  · as_aux_lemma =>
    go_wp2
    go_ret
    exact ⟨by simp [go_sem], c3⟩
  by_cases k0 : c < 0
  · as_aux_lemma =>
    go_wp2
    go_ret
    exact ⟨by simp [go_sem], c3⟩
  by_cases r1 : m1 < r
  · as_aux_lemma =>
    go_wp2
    go_ret
    exact ⟨by simp [go_sem], c3⟩
  have k1 : m2 < c := by have := H.out; omega
  go_wp2
  go_ret
  exact ⟨by simp [go_sem], c3⟩

/-- What the law's loop keeps. -/
structure LR (G : Nat → Nat) (xs : List Nat) (A : Option Addr) (b2 n a c R C : Nat) (w wr : World) : Prop where
  y : Ws wr wr.heap.size (some ⟨b2, 0, none⟩) (rg G n)
  x : Ws wr wr.heap.size A xs
  t : Fo wr w.heap.size a c R C
  b : Below w.heap.size w wr
theorem LR.step {G : Nat → Nat} {xs : List Nat} {A : Option Addr} {b2 n a c R C : Nat} {w wr w1 : World} (h : LR G xs A b2 n a c R C w wr) (hb : Below wr.heap.size wr w1) : LR G xs A b2 n a c R C w w1 :=
  ⟨h.y.step hb, h.x.step hb, h.t.below hb, h.b.trans (hb.mono h.b.size)⟩
theorem LR.drewN {G : Nat → Nat} {xs : List Nat} {A : Option Addr} {b2 n a c R C : Nat} {w wr : World} (h : LR G xs A b2 n a c R C w wr) (m : Nat) : LR G xs A b2 n a c R C w (wr.drewN m) :=
  h.step (Ww.below_drewN (Below.refl _ _) m)
set_option maxHeartbeats 2000000 in
set_option maxRecDepth 100000 in
theorem walk_core (A : Option Addr) (ca n k d a c R C : Nat) (xs : List Nat) (hx : xs.length = n) (hn : n = a * c) (hl : n ≤ 64) (hc : 0 < c) (hR : R + a ≤ 4294967296) (hC : C + c ≤ 4294967296) (G Z : Nat → Nat) (hG : ∀ i, G i < 18446744069414584321)
    (hTI : ∀ W, Ft.Tab W → Ws W W.heap.size A xs → Calls Tryd.prog 18 #[.slice A n ca, .agg #[.int .i64 (a : Int), .int .i64 (c : Int), .int .i64 (R : Int), .int .i64 (C : Int)], .int .i64 (k : Int), .int .i64 (d : Int)] W (RwE G n W))
    (hWR : ∀ W, Calls Tryd.prog 10 #[.int .i64 (k : Int), .int .i64 (d : Int)] W fun e w' => e = .returned (.int .i64 0) ∧ W = w')
    (hGO : ∀ W, Calls Tryd.prog 19 #[.agg #[.int .i64 (a : Int), .int .i64 (c : Int)]] W fun e w' => e = .returned (.bool true) ∧ Below W.heap.size W w')
    (hTW : ∀ i, i < n → ∀ W, Calls Tryd.prog 16 #[.int .i64 ((R + i / c : Nat) : Int), .int .i64 ((C + i % c : Nat) : Int), .int .i64 (k : Int), .int .i64 (d : Int)] W fun e w' => e = .returned (.tuple #[.int .u64 (Z i : Nat), .int .i64 0]) ∧ Below W.heap.size W w')
    (hM : ∀ i, i < n → ∀ W, Calls Tryd.prog 20 #[.int .u64 (Pn.pl xs i : Nat), .int .u64 (Z i : Nat)] W fun e w' => e = .returned (.int .u64 (G i : Nat)) ∧ W = w')
    (w : World) (hT : Ft.Tab w) (X : Ws w w.heap.size A xs) :
    Calls Tryd.prog 5 #[.slice A n ca, .agg #[.int .i64 (a : Int), .int .i64 (c : Int), .int .i64 (R : Int), .int .i64 (C : Int)], .int .i64 (k : Int), .int .i64 (d : Int)] w fun e w' => e = .returned (.bool true) ∧ Below w.heap.size w w' := by
  have h1 : ¬ 64 < (n : Int) := by omega
  have ha : a ≤ 64 := Nat.le_trans (Nat.le_trans (Nat.le_mul_of_pos_right a hc) (Nat.le_of_eq hn.symm)) hl
  have TI := Lib.hid hTI
  have WR := Lib.hid hWR
  have GO := Lib.hid hGO
  have TW := Lib.hid hTW
  have MU := Lib.hid hM
  have GL := Lib.hid hG
  have HX := Lib.hid hx
  have DV := Lib.hid (fun i (hi : i < n) => show i / c < a ∧ i % c < c from ⟨(Nat.div_lt_iff_lt_mul hc).2 (by omega), Nat.mod_lt _ hc⟩)
  have q1 : IntKind.i64.wrap ((a : Int) * (c : Int)) = (n : Int) := by rw [hn, Int.natCast_mul]; exact IntWalk.i64_in _ (by rw [← Int.natCast_mul]; omega)
  obtain ⟨m1, hm1⟩ : ∃ m1 : Int, m1 = 4294967296 - (a : Int) := ⟨_, rfl⟩
  obtain ⟨m2, hm2⟩ : ∃ m2 : Int, m2 = 4294967296 - (c : Int) := ⟨_, rfl⟩
  have q2 : IntKind.i64.wrap (4294967296 - (a : Int)) = m1 := by rw [IntKind.wrap_i64]; omega
  have q3 : IntKind.i64.wrap (4294967296 - (c : Int)) = m2 := by rw [IntKind.wrap_i64]; omega
  have r1 : ¬ m1 < (R : Int) := by omega
  have k1 : ¬ m2 < (C : Int) := by omega
  have z0 : ((c : Int) == 0) = false := by rw [beq_eq_false_iff_ne]; omega
  clear hTI hWR hGO hTW hM hG hm1 hm2 hx hn
  have HT := Lib.hid hT
  have HB := Lib.hid (below_alloc w)
  clear hT
  go_enter Tryd.func5, Tryd.ntmps5
  go_wp2_with fail
  refine (Td.awake _ (HT.out.below (HB.out _))).mono ?_
  rintro e w1 ⟨rfl, d1⟩
  have c1 := (HB.out _).trans (d1.mono (HB.out _).size)
  have T1 := (Fo.fresh w a c R C 43).below d1
  clear d1
  have t0 := T1.c0
  have t1 := T1.c1
  have t2 := T1.c2
  have t3 := T1.c3
  have X1 := X.step c1
  clear X
  go_wp2_with fail
  refine (TI.out _ (HT.out.below c1) X1).mono ?_
  rintro e w2 ⟨b2, rfl, _, hb2, K2, d2⟩
  have Y2 := wk_ws K2 GL.out hb2
  have L2 : LR G xs A b2 n a c R C w w2 := ⟨Y2, X1.step d2, T1.below d2, c1.trans (d2.mono c1.size)⟩
  clear c1 d2 T1 t0 t1 t2 t3 X1 Y2 K2 hb2 TI
  have t0 := L2.t.c0
  have t1 := L2.t.c1
  have t2 := L2.t.c2
  have t3 := L2.t.c3
  go_wp2_with fail
  refine (WR.out _).mono ?_
  rintro e w' ⟨rfl, rfl⟩
  go_wp2_with fail
  refine (GO.out _).mono ?_
  rintro e w3 ⟨rfl, d3⟩
  have L3 := L2.step d3
  clear L2 d3 t0 t1 t2 t3 GO WR
  have t0 := L3.t.c0
  have t1 := L3.t.c1
  have t2 := L3.t.c2
  have t3 := L3.t.c3
  go_wp2_with fail
  go_loopw [12] (fun v12 wr => ∃ i : Nat, v12 = .int .i64 (i : Int) ∧ i ≤ n ∧ LR G xs A b2 n a c R C w wr) (fun v12 _ => n - (Lib.intOf v12).toNat)
  case atStart => exact ⟨0, rfl, Nat.zero_le _, L3⟩
  case round =>
    obtain ⟨i, rfl, hi, L⟩ := hrel
    clear L3 t0 t1 t2 t3
    by_cases hlt : i < n
    · have i1 : (i : Int) < n := by omega
      have T4 := L.t
      have t0 := T4.c0
      have t1 := T4.c1
      have t2 := T4.c2
      have t3 := T4.c3
      have p1 := cell_regrown T4.c1
      have p2 := cell_regrown T4.c2
      have p3 := cell_regrown T4.c3
      obtain ⟨hu, hv⟩ := DV.out i hlt
      have TW1 := TW.out i hlt
      have M1 := Lib.hid (MU.out i hlt)
      obtain ⟨u, eu⟩ : ∃ u, u = i / c := ⟨_, rfl⟩
      obtain ⟨v, ev⟩ : ∃ v, v = i % c := ⟨_, rfl⟩
      have s1 : (i : Int).tdiv (c : Int) = (u : Int) := by rw [Int.tdiv_eq_ediv_of_nonneg (by omega), eu]; rfl
      have s2 : (i : Int).tmod (c : Int) = (v : Int) := by rw [Int.tmod_eq_emod_of_nonneg (by omega), ev]; rfl
      have s3 : (i : Int) / (c : Int) = (u : Int) := by rw [eu]; rfl
      have s4 : (i : Int) % (c : Int) = (v : Int) := by rw [ev]; rfl
      rw [← eu] at TW1 hu
      rw [← ev] at TW1 hv
      obtain ⟨U, eU⟩ : ∃ U, U = R + u := ⟨_, rfl⟩
      obtain ⟨V, eV⟩ : ∃ V, V = C + v := ⟨_, rfl⟩
      rw [← eU, ← eV] at TW1
      have s5 : IntKind.i64.wrap ((R : Int) + (u : Int)) = (U : Int) := by rw [IntKind.wrap_i64]; omega
      have s6 : IntKind.i64.wrap ((C : Int) + (v : Int)) = (V : Int) := by rw [IntKind.wrap_i64]; omega
      have s7 : IntKind.i64.wrap (u : Int) = (u : Int) := IntWalk.i64_in _ (by omega)
      have s8 : IntKind.i64.wrap (v : Int) = (v : Int) := IntWalk.i64_in _ (by omega)
      have D1 := Lib.hid (fun d os => Calls.regrown_of (TW1 (grow (redrawn wr d) os)))
      clear eu ev eU eV TW1 TW MU hu hv hR hC
      go_upto_region 18 with fail
      refine wp_region_quiet_below (by as_aux_lemma => kernel_rfl) (by as_aux_lemma => kernel_rfl) ?_
      repeat (go_big_quiet_step ((go_at_call 16; with_reducible exact D1.out _ _)))
      refine wpQuiet_nil ?_
      intro _ hw'
      obtain ⟨⟨dq, osq⟩, hw''⟩ := hw'
      subst hw''
      have L5 := L.step (below_regrown wr dq osq)
      clear t0 t1 t2 t3 p1 p2 p3 D1 T4 L s1 s2 s3 s4 s5 s6 s7 s8
      show Exit.then _ _ _ _ (grow (redrawn wr dq) osq)
      generalize grow (redrawn wr dq) osq = w5 at *
      obtain ⟨b6, o6, rfl, hB6, x6⟩ := L5.x.at_ i (by rw [HX.out]; exact hlt)
      have x7 : w5.cell? ⟨b6, o6 + i, none⟩ = some (.int .u64 (Pn.pl xs i : Nat)) := x6
      obtain ⟨b7, o7, e7, hB7, y6⟩ := L5.y.at_ i (by rw [rg_len]; exact hlt)
      injection e7 with e7
      injection e7 with e8 e9
      subst e8 e9
      rw [Nat.zero_add, rg_at _ _ _ hlt] at y6
      clear x6 hB6 hB7
      generalize Pn.pl xs i = y at *
      generalize Z i = z at *
      generalize G i = g at y6 M1
      go_upto_region 19 with fail
      go_quiet ((go_at_call 20; exact qs (M1.out _)))
      have L8 := L5.drewN nq
      clear L5 x7 y6 M1
      go_wp2_with fail
      go_roundw
      case rel => exact ⟨i + 1, rfl, by omega, L8⟩
      case measure => simp [Lib.intOf]; omega
    · have i1 : ¬ (i : Int) < n := by omega
      have cf := L.b
      clear L
      go_wp2
      go_ret
      exact ⟨by simp [go_sem], cf⟩

theorem walk_in (A : Option Addr) (ca n k d a c R C : Nat) (xs : List Nat) (hx : xs.length = n) (hn : n = a * c) (hl : n ≤ 64) (hg : Sh.Gd (a : Int) (c : Int)) (hR : R + a ≤ 4294967296) (hC : C + c ≤ 4294967296) (hk : k ≤ 32) (hd : d ≤ 1) (hca : n ≤ ca) (hca2 : ca ≤ 9223372036854775807) (w : World) (hT : Ft.Tab w) (X : Ws w w.heap.size A xs) :
    Calls Tryd.prog 5 #[.slice A n ca, .agg #[.int .i64 (a : Int), .int .i64 (c : Int), .int .i64 (R : Int), .int .i64 (C : Int)], .int .i64 (k : Int), .int .i64 (d : Int)] w fun e w' => e = .returned (.bool true) ∧ Below w.heap.size w w' := by
  obtain ⟨g1, g2, g3, g4, g5⟩ := hg.bound
  have hc : 0 < c := by omega
  refine walk_core A ca n k d a c R C xs hx hn hl hc hR hC (tl xs (rd k d) R C c) (fun i => tw (rd k d) R C (i / c) (i % c)) (fun i => tl_lt _ _ _ _ _ _)
    (fun W T Y => tile k d hk hd A n ca a c R C xs hx hg hn (by omega) hca hca2 hR hC W T Y) (fun W => wrong_in _ _ (by omega) (by omega) W) (fun W => Sh.ref _ _ true (by simp [hg]) W) (fun i hi W => ?_) (fun i hi W => Gr.mul _ _ (Nat.lt_trans (tw_lt _ _ _ _ _) (by decide)) W) w hT X
  have h1 : i / c < a := (Nat.div_lt_iff_lt_mul hc).2 (by omega)
  have h2 : i % c < c := Nat.mod_lt _ hc
  exact twiddle k d hk hd (R + i / c) (C + i % c) (by omega) (by omega) W
theorem walk (A : Option Addr) (ca n : Nat) (xs : List Nat) (a b r c k d : Int) (hx : xs.length = n) (hca : n ≤ ca) (hca2 : ca ≤ 9223372036854775807) (w : World) (X : Ws w w.heap.size A xs) (hT : Ft.Tab w) :
    Calls Tryd.prog 5 #[.slice A n ca, .agg #[.int .i64 a, .int .i64 b, .int .i64 r, .int .i64 c], .int .i64 k, .int .i64 d] w fun e w' => e = .returned (.bool true) ∧ Below w.heap.size w w' := by
  by_cases hl : 64 < n
  · exact walk_long A ca n a b r c k d hl w hT
  obtain ⟨x, e, h⟩ := rs_ex k d
  by_cases he : e = 0
  · rcases h with ⟨h, rfl, rfl⟩ | ⟨h, h2, rfl, rfl⟩ | ⟨kn, dn, rfl, rfl, hk, hd, rfl, rfl⟩
    · cases he
    · cases he
    · by_cases hg : Sh.Gd a b
      · by_cases hm : a * b = (n : Int)
        · by_cases hr : ¬ (0 ≤ r ∧ r ≤ 4294967296 - a) ∨ ¬ (0 ≤ c ∧ c ≤ 4294967296 - b)
          · exact walk_range A ca n kn dn a b r c hk hd hg hm hr (by omega) w hT
          · obtain ⟨g1, g2, g3, g4, g5⟩ := hg.bound
            obtain ⟨an, rfl⟩ := Int.eq_ofNat_of_zero_le (show 0 ≤ a by omega)
            obtain ⟨bn, rfl⟩ := Int.eq_ofNat_of_zero_le (show 0 ≤ b by omega)
            obtain ⟨rn, rfl⟩ := Int.eq_ofNat_of_zero_le (show 0 ≤ r by omega)
            obtain ⟨cn, rfl⟩ := Int.eq_ofNat_of_zero_le (show 0 ≤ c by omega)
            exact walk_in A ca n kn dn an bn rn cn xs hx (by rw [← Int.natCast_mul] at hm; omega) (by omega) hg (by omega) (by omega) hk hd hca hca2 w hT X
        · exact walk_size A ca n kn dn a b r c _ hk hd hg rfl (fun e => hm e.symm) (by omega) w hT
      · exact walk_shape A ca n kn dn a b r c hk hd hg (by omega) w hT
  · exact walk_bad A ca n a b r c h he (by omega) w hT

theorem g32 : Tryd.prog.globalNamed "math/bits.deBruijn32tab" = some 0 := by kernel_rfl
theorem g64 : Tryd.prog.globalNamed "math/bits.deBruijn64tab" = some 1 := by kernel_rfl
theorem t64 : (Tryd.prog.globals[1]?).map (·.type) = some 77 := by kernel_rfl
/-- What the row's condition gives the walk: the table's cells. -/
theorem of_laid {W : World} (h : laidMetH Tryd.prog Rows.twidTilesRow.laid W) : Ft.Tab W := by
  rw [MakeChecks.laidMetH_plain _ _ _ (by kernel_rfl)] at h
  obtain ⟨ps, ⟨g0, t0, cs0, f0, p0, q0, hg0, ht0, hv0, hd0, ⟨g1, t1, cs1, f1, p1, q1, hg1, ht1, hv1, hd1, _, _⟩, _⟩, _, _⟩ := h
  obtain rfl := Option.some.inj (g64.symm.trans hg1)
  obtain rfl := Option.some.inj (t64.symm.trans ht1)
  have hd2 : DataW.trod _ Tryd.prog W 0 _ false f1 77 cs1.toList = some (Lib.tabData .u8 (Lib.deBruijn64tab.map Int.ofNat), p1) := hd1
  have hc := Lib.cells_of_tab Tryd.underlying77 Tryd.underlying5 (by kernel_rfl) (by kernel_rfl) hd2
  intro i hi
  have c := World.var?_cell hg1 hv1 i
  rw [c, ← Array.getElem?_toList, hc]
  have hl : Lib.deBruijn64tab.length = 64 := by decide
  simp [List.getD, hl, hi]

/-- The door's own heap meets the condition. -/
theorem door_met (os : Os) (args : Array Value) : laidMetH Tryd.prog Rows.twidTilesRow.laid ((World.doorLaid Tryd.prog 400 os).forCall (fun _ _ => 0) ⟨#[], args, []⟩).memory :=
  laidMetH_of_parts3 (fuel := 8) (laidMet_of_run' 8 (by kernel_rfl) (by kernel_rfl)) (by kernel_rfl) (by kernel_rfl)
set_option maxRecDepth 100000 in
theorem lifted (os : Os) (started : os.Started) (H : Type) (enc : TypeId × Value → H) :
    ReturnsInHanded {} Tryd.checked os 5 .any (fun w args => (Rows.twidTilesSpec.pre enc Tryd.prog Tryd.f5 [] false w args ∧ laidMetH Tryd.prog Rows.twidTilesRow.laid w) ∧ sizedMet enc Tryd.prog Tryd.f5 (OpenSpec.ofChange Rows.twidTilesSpec) false w args)
      (Rows.twidTilesSpec.post enc Tryd.prog Tryd.f5 false true false false) := by
  refine returnsInHanded_of_change_and (C := Tryd.checked) (X := fun w _ => laidMetH Tryd.prog Rows.twidTilesRow.laid w) (fun _ _ _ hh h => h.of_heap hh) Fr.own started (by kernel_rfl) Tryd.func5
    (ChangeSpec.witness_shaped (enc := enc) (C := Tryd.checked) (os := os) (X := fun w _ => laidMetH Tryd.prog Rows.twidTilesRow.laid w) false (World.doorLaid Tryd.prog 400 os) #[.slice none 0 0, .agg #[.int .i64 0, .int .i64 0, .int .i64 0, .int .i64 0], .int .i64 0, .int .i64 0] 8 rfl (World.shaped_of_RefB (by kernel_rfl) (by kernel_rfl)) (by kernel_rfl) (by kernel_rfl) (by kernel_rfl) (door_met os _)) ?_
  intro W base args ds gs before hval0 hW _ _ hL _
  have hval : ∀ (j : Nat) t v, Tryd.f5.params[j]? = some t → args[j]? = some v → Value.okWide Tryd.prog W .any base t v := hval0
  have hW' := hW
  obtain ⟨p, q, hA0, hV, rfl, hfz, hnd⟩ := hW
  have hA : DataW.TrodAll enc Tryd.prog W 0 (fun _ => true) true Tryd.f5.params.toList args.toList ds p := hA0
  obtain ⟨rfl, rfl⟩ := trodVars_none hV
  rw [Tryd.params5] at hA hval
  obtain ⟨v0, vs0, d0, ds0, p0, q0, hargs, rfl, rfl, h0, r0⟩ := trodAll_cons hA
  obtain ⟨v1, vs1, d1, ds1, p1, q1, rfl, rfl, rfl, h1, r1⟩ := trodAll_cons r0
  obtain ⟨v2, vs2, d2, ds2, p2, q2, rfl, rfl, rfl, h2, r2⟩ := trodAll_cons r1
  obtain ⟨v3, vs3, d3, ds3, p3, q3, rfl, rfl, rfl, h3, r3⟩ := trodAll_cons r2
  obtain ⟨rfl, rfl, rfl⟩ := trodAll_nil r3
  obtain rfl : args = #[v0, v1, v2, v3] := by cases args; simp_all
  obtain ⟨A0, n0, c0, rfl⟩ := okWide_slice Tryd.underlying30 (hval 0 30 v0 rfl rfl)
  obtain ⟨fuel0, hf0⟩ := h0
  obtain ⟨xs0, rfl, lc0, lm0, R0⟩ := Ww.open_words hf0
  obtain ⟨a1, b1, r1', c1', rfl, rfl, _, _⟩ := open_tile (hval 1 43 v1 rfl rfl) h1
  obtain ⟨x2, rfl, rfl, rfl, w2⟩ := open_int Tryd.underlying3 (hval 2 3 v2 rfl rfl) h2
  have b2 : -9223372036854775808 ≤ x2 ∧ x2 ≤ 9223372036854775807 := by simpa [Lit.wf, IntKind.min, IntKind.max, IntKind.signed, IntKind.bits] using w2
  obtain ⟨x3, rfl, rfl, rfl, w3⟩ := open_int Tryd.underlying3 (hval 3 3 v3 rfl rfl) h3
  have b3 : -9223372036854775808 ≤ x3 ∧ x3 ≤ 9223372036854775807 := by simpa [Lit.wf, IntKind.min, IntKind.max, IntKind.signed, IntKind.bits] using w3
  simp only [List.append_nil] at hW' hA0
  refine (walk A0 c0 xs0.length xs0 a1 b1 r1' c1' x2 x3 rfl lc0 lm0 W R0 (of_laid hL)).mono fun e W' ⟨he, hb⟩ => ?_
  subst he
  exact ⟨_, rfl, Fr.law_post (tb := 4) hW' hA0 rfl rfl rfl Tryd.underlying4 (by rw [Tryd.params5]; intro t ht; simp at ht; rcases ht with rfl | rfl | rfl | rfl; all_goals exact ⟨by kernel_rfl, of_decide_eq_true (by kernel_rfl)⟩) hb⟩

theorem row_holds : Rows.TwidTilesSaid :=
  OpenClaim.holds_of_wide 5 Tryd.f5 rfl rfl rfl rfl rfl rfl rfl ⟨rfl, rfl, rfl, rfl, rfl⟩ rfl rfl rfl rfl rfl (by kernel_rfl) Tryd.func5 (by kernel_rfl)
    (of_decide_eq_true (by kernel_rfl)) (by unfold Func.isWrapper; first | (rw [if_pos (by decide +kernel)]; kernel_rfl) | (rw [if_neg (by decide +kernel)]; exact ⟨rfl, rfl⟩))
    (fun os started H enc _ => lifted os started H enc)

theorem proved : Rows.TwidTilesCardSaid :=
  Claim7.holds_tied_plain_at .later [] [.data, .data] true Rows.twidTilesCard.stood.harness false
    row_holds (fun _ h => by cases h) (by kernel_rfl) (fun _ h => by cases h) twidTiles_row_tie rfl ⟨rfl, rfl⟩ (by kernel_rfl) rfl
    (fun f fn hf hfn => by
      obtain rfl : f = 5 := Option.some.inj ((show Tryd.prog.funcNamed "abacist/abacistlaw08.TwidTiles" = some 5 by kernel_rfl).symm.trans hf) |>.symm
      obtain rfl : fn = Tryd.f5 := (Option.some.inj (Tryd.func5.symm.trans hfn)).symm
      exact ⟨by kernel_rfl, fun j t ht => by
        rw [Tryd.params5] at ht
        have hm : t ∈ [30, 43, 3] := by simpa using Array.mem_of_getElem? ht
        have hall : ([30, 43, 3].all fun u => !Tryd.prog.wantsStandIn u) = true := by kernel_rfl
        exact (show Tryd.prog.wantsStandIn t = false by simpa using List.all_eq_true.1 hall t hm)⟩)
    (by kernel_rfl)
end Go.Proofs.YtikdoagljabjaaaDoor.twidTiles
