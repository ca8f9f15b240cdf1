/- Contracts of package twid: twist, Tile. -/
import Derived.Test.YtfjoacopnkceoaaDoorTwidE
import Derived.Test.YtfjoacopnkceoaaDoorShape
set_option linter.unusedVariables false
namespace Go.Proofs.YtfjoacopnkceoaaDoor
open Go.RowKit Go.Lib Go.Sort
namespace Td
open Nm Ww Tn Pl

set_option maxHeartbeats 1000000 in
set_option maxRecDepth 100000 in
theorem twist (b L off n cr : Nat) (A : Option Addr) (ca : Nat) (ys : List Nat) (hy : ys.length = n) (G Φ : Nat → Nat) (x s : Nat) (hs : s < 18446744073709551616) (hx : x = Φ 0) (hΦ : ∀ i, Φ i * s % 18446744069414584321 = Φ (i + 1)) (hlt : ∀ i, Φ i < 18446744073709551616)
    (hG : ∀ i, i < n → Pn.pl ys i * Φ i % 18446744069414584321 = G (off + i)) (hL : off + n ≤ L) (hn : n ≤ 4294967296) (w0 w : World) (BD : Bd G L b w0 w (fun j => j < off)) (R : Ws w0 w0.heap.size A ys) :
    Calls Tryd.prog 57 #[.slice (some ⟨b, off, none⟩) n cr, .slice A n ca, .int .u64 (x : Nat), .int .u64 (s : Nat)] w fun e w' => e = .returned (.tuple #[]) ∧ Bd G L b w0 w' (fun j => j < off + n) := by
  have M := Lib.hid (fun i (hi : i < n) (h : Pn.pl ys i < 18446744073709551616) W => show Calls Tryd.prog 58 #[.int .u64 (Pn.pl ys i : Nat), .int .u64 (Φ i : Nat)] W fun e w' => e = .returned (.int .u64 (G (off + i) : Nat)) ∧ Below W.heap.size W w' by
    have c := Gd.mul (Pn.pl ys i) (Φ i) h (hlt i) W
    rw [hG i hi] at c
    exact c)
  have P := Lib.hid (fun i W => show Calls Tryd.prog 58 #[.int .u64 (Φ i : Nat), .int .u64 (s : Nat)] W fun e w' => e = .returned (.int .u64 (Φ (i + 1) : Nat)) ∧ Below W.heap.size W w' by
    have c := Gd.mul (Φ i) s (hlt i) hs W
    rw [hΦ i] at c
    exact c)
  have HX := Lib.hid hx
  have HY := Lib.hid hy
  have ST := Lib.hid (show Bd G L b w0 w (fun j => j < off + 0) from BD)
  clear hx hy hΦ hlt hG BD hs
  go_enter Tryd.func57, Tryd.ntmps57
  go_wp2_with fail
  go_loopw [2, 12] (fun v2 v12 wr => ∃ i f : Nat, v12 = .int .i64 (i : Int) ∧ v2 = .int .u64 (f : Nat) ∧ i ≤ n ∧ f = Φ i ∧ Bd G L b w0 wr (fun j => j < off + i)) (fun _ v12 _ => n - (Lib.intOf v12).toNat)
  case atStart => exact ⟨0, x, rfl, rfl, Nat.zero_le _, HX.out, ST.out⟩
  case round =>
    obtain ⟨i, f, rfl, rfl, hi, hf, BD⟩ := hrel
    clear ST HX
    by_cases hlt : i < n
    · have i1 : (i : Int) < n := by omega
      have R1 := R.below BD.bel
      obtain ⟨b2, off2, rfl, hB, c⟩ := R1.at_ i (by rw [HY.out]; exact hlt)
      have c2 : wr.cell? ⟨b2, off2 + i, none⟩ = some (.int .u64 (Pn.pl ys i : Nat)) := c
      have O := Lib.hid (M.out i hlt (R1.lt i (by rw [HY.out]; exact hlt)))
      have P1 := Lib.hid (P.out i)
      rw [← hf] at O P1
      have PUT := Lib.hid (fun w1 (h : Bd G L b w0 w1 (fun j => j < off + i)) => h.put (off + i) (by omega) (D' := fun j => j < off + (i + 1)) (fun j hj => by omega))
      obtain ⟨f2, hf2⟩ : ∃ f2, f2 = Φ (i + 1) := ⟨_, rfl⟩
      rw [← hf2] at P1
      have HF := Lib.hid hf2
      clear c hf hf2 M P
      generalize Pn.pl ys i = y at *
      generalize G (off + i) = g at *
      go_wp2_with fail
      refine (O.out _).mono ?_
      rintro e w1 ⟨rfl, b1⟩
      have B1 := BD.call b1
      obtain ⟨⟨v, k0⟩, k1⟩ := B1.at_ (off + i) (by omega)
      have PU := Lib.hid (PUT.out _ B1)
      clear B1 b1 PUT BD R1 c2
      go_wp2_with fail
      refine (P1.out _).mono ?_
      rintro e w2 ⟨rfl, b2⟩
      have B2 := Lib.hid (PU.out.call b2)
      clear PU b2 k0 k1
      go_wp2_with fail
      go_roundw
      case rel => exact ⟨i + 1, f2, rfl, rfl, by omega, HF.out, B2.out⟩
      case measure => simp [Lib.intOf]; omega
    · have i1 : ¬ (i : Int) < n := by omega
      obtain rfl : i = n := by omega
      have OK := Lib.hid BD
      clear BD
      go_wp2
      exact bodyPost_end (v := .tuple #[]) (by simp [results, Tryd.results57, go_sem]) rfl ⟨rfl, OK.out⟩

/-- Four cells of a tile. -/
structure Fo (w : World) (b : Nat) (p q r s : Int) : Prop where
  c0 : w.cell? ⟨b, 0, none⟩ = some (.int .i64 p)
  c1 : w.cell? ⟨b, 1, none⟩ = some (.int .i64 q)
  c2 : w.cell? ⟨b, 2, none⟩ = some (.int .i64 r)
  c3 : w.cell? ⟨b, 3, none⟩ = some (.int .i64 s)
theorem Fo.lt {w : World} {b : Nat} {p q r s : Int} (h : Fo w b p q r s) : b < w.heap.size := World.block_lt_of_cell? w _ h.c0
theorem Fo.below {w w' : World} {b : Nat} {p q r s : Int} (h : Fo w b p q r s) (hb : Below w.heap.size w w') : Fo w' b p q r s :=
  ⟨(hb.cell (p := ⟨b, 0, none⟩) h.lt).trans h.c0, (hb.cell (p := ⟨b, 1, none⟩) h.lt).trans h.c1, (hb.cell (p := ⟨b, 2, none⟩) h.lt).trans h.c2, (hb.cell (p := ⟨b, 3, none⟩) h.lt).trans h.c3⟩
theorem Fo.fresh (w : World) (p q r s : Int) (t : TypeId) : Fo (w.alloc (.cells #[.int .i64 p, .int .i64 q, .int .i64 r, .int .i64 s] t)) w.heap.size p q r s := ⟨by simp [go_sem], by simp [go_sem], by simp [go_sem], by simp [go_sem]⟩

theorem good_g (a b : Int) (g : Bool) (hg : g = true ↔ Sh.Gd a b) (w : World) (hT : Ft.Tab w) :
    Calls Tryd.prog 50 #[.agg #[.int .i64 a, .int .i64 b]] w fun e w' => e = .returned (.bool g) ∧ Below w.heap.size w w' := Sh.good a b g hg w hT
set_option maxHeartbeats 400000 in
theorem tile_bad {k d : Int} {x : Nat} {e : Int} (h : Rs k d x e) (he : e ≠ 0) (A : Option Addr) (n ca : Nat) (p q r s : Int) (w : World) :
    Calls Tryd.prog 37 #[.slice A n ca, .agg #[.int .i64 p, .int .i64 q, .int .i64 r, .int .i64 s], .int .i64 k, .int .i64 d] w fun e1 w' => e1 = .returned (.tuple #[.slice none 0 0, .int .i64 e]) ∧ Below w.heap.size w w' := by
  have C := Lib.hid (fun W => h.root W)
  have e1 : (e != 0) = true := by simp [he]
  have HB := Lib.hid (below_alloc w)
  clear h he
  go_enter Tryd.func37, Tryd.ntmps37
  go_wp2_with fail
  refine (C.out _).mono ?_
  rintro e w1 ⟨rfl, h1⟩
  have c1 := (HB.out _).trans (h1.mono (HB.out _).size)
  clear h1
  go_wp2
  go_ret2
  exact ⟨rfl, c1⟩
set_option maxHeartbeats 400000 in
theorem tile_shape (k d : Nat) (hk : k ≤ 32) (hd : d ≤ 1) (A : Option Addr) (n ca : Nat) (p q r s : Int) (hg : ¬ Sh.Gd p q) (w : World) (hT : Ft.Tab w) :
    Calls Tryd.prog 37 #[.slice A n ca, .agg #[.int .i64 p, .int .i64 q, .int .i64 r, .int .i64 s], .int .i64 (k : Int), .int .i64 (d : Int)] w fun e1 w' => e1 = .returned (.tuple #[.slice none 0 0, .int .i64 19]) ∧ Below w.heap.size w w' := by
  have C := Lib.hid (fun W => root_in k d hk hd W)
  have G := Lib.hid (fun W T => Sh.good p q false (by simp [hg]) W T)
  generalize rd k d = x at *
  have HB := Lib.hid (below_alloc w)
  have HT := Lib.hid hT
  clear hg hk hd hT
  go_enter Tryd.func37, Tryd.ntmps37
  go_wp2_with fail
  refine (C.out _).mono ?_
  rintro e w1 ⟨rfl, h1⟩
  have c1 := (HB.out _).trans (h1.mono (HB.out _).size)
  have T1 := (Fo.fresh w p q r s 64).below h1
  have t0 := T1.c0
  have t1 := T1.c1
  have t2 := T1.c2
  have t3 := T1.c3
  clear h1
  go_wp2_with fail
  refine (G.out _ (HT.out.below c1)).mono ?_
  rintro e w2 ⟨rfl, h2⟩
  have c2 := c1.trans (h2.mono c1.size)
  clear c1 h2 T1
  go_wp2
  go_ret2
  exact ⟨rfl, c2⟩
set_option maxHeartbeats 400000 in
theorem tile_size (k d : Nat) (hk : k ≤ 32) (hd : d ≤ 1) (A : Option Addr) (n ca : Nat) (p q r s m : Int) (hg : Sh.Gd p q) (hm : p * q = m) (hne : (n : Int) ≠ m) (w : World) (hT : Ft.Tab w) :
    Calls Tryd.prog 37 #[.slice A n ca, .agg #[.int .i64 p, .int .i64 q, .int .i64 r, .int .i64 s], .int .i64 (k : Int), .int .i64 (d : Int)] w fun e1 w' => e1 = .returned (.tuple #[.slice none 0 0, .int .i64 19]) ∧ Below w.heap.size w w' := by
  have C := Lib.hid (fun W => root_in k d hk hd W)
  have G := Lib.hid (fun W T => Sh.good p q true (by simp [hg]) W T)
  have Z := Lib.hid (fun W T => Sh.size_yes p q m hg hm W T)
  have nm : ((n : Int) != m) = true := by simp [hne]
  generalize rd k d = x at *
  have HB := Lib.hid (below_alloc w)
  have HT := Lib.hid hT
  clear hg hk hd hm hne hT
  go_enter Tryd.func37, Tryd.ntmps37
  go_wp2_with fail
  refine (C.out _).mono ?_
  rintro e w1 ⟨rfl, h1⟩
  have c1 := (HB.out _).trans (h1.mono (HB.out _).size)
  have T1 := (Fo.fresh w p q r s 64).below h1
  have t0 := T1.c0
  have t1 := T1.c1
  have t2 := T1.c2
  have t3 := T1.c3
  clear h1
  go_wp2_with fail
  refine (G.out _ (HT.out.below c1)).mono ?_
  rintro e w2 ⟨rfl, h2⟩
  have c2 := c1.trans (h2.mono c1.size)
  have T2 := T1.below h2
  clear c1 h2 T1 t0 t1 t2 t3
  have t0 := T2.c0
  have t1 := T2.c1
  have t2 := T2.c2
  have t3 := T2.c3
  go_wp2_with fail
  refine (Z.out _ (HT.out.below c2)).mono ?_
  rintro e w3 ⟨rfl, h3⟩
  have c3 := c2.trans (h3.mono c2.size)
  clear c2 h3 T2
  go_wp2
  go_ret2
  exact ⟨rfl, c3⟩
set_option maxHeartbeats 1000000 in
theorem tile_range (k d : Nat) (hk : k ≤ 32) (hd : d ≤ 1) (A : Option Addr) (n ca : Nat) (p q r s : Int) (hg : Sh.Gd p q) (hm : p * q = (n : Int)) (h : ¬ (0 ≤ r ∧ r ≤ 4294967296 - p) ∨ ¬ (0 ≤ s ∧ s ≤ 4294967296 - q)) (w : World) (hT : Ft.Tab w) :
    Calls Tryd.prog 37 #[.slice A n ca, .agg #[.int .i64 p, .int .i64 q, .int .i64 r, .int .i64 s], .int .i64 (k : Int), .int .i64 (d : Int)] w fun e1 w' => e1 = .returned (.tuple #[.slice none 0 0, .int .i64 2]) ∧ Below w.heap.size w w' := by
  have C := Lib.hid (fun W => root_in k d hk hd W)
  have G := Lib.hid (fun W T => Sh.good p q true (by simp [hg]) W T)
  have Z := Lib.hid (fun W T => Sh.size_yes p q (n : Int) hg hm W T)
  obtain ⟨g1, g2, g3, g4, g5⟩ := hg.bound
  generalize rd k d = x at *
  have HB := Lib.hid (below_alloc w)
  have HT := Lib.hid hT
  have PL := Lib.hid (fun g hg W => placed r p (by omega) g hg W)
  have PS := Lib.hid (fun g hg W => placed s q (by omega) g hg W)
  have H := Lib.hid h
  clear hg hk hd hm hT h g1 g2 g3 g4 g5
  go_enter Tryd.func37, Tryd.ntmps37
  go_wp2_with fail
  refine (C.out _).mono ?_
  rintro e w1 ⟨rfl, h1⟩
  have c1 := (HB.out _).trans (h1.mono (HB.out _).size)
  have T1 := (Fo.fresh w p q r s 64).below h1
  have t0 := T1.c0
  have t1 := T1.c1
  have t2 := T1.c2
  have t3 := T1.c3
  clear h1
  go_wp2_with fail
  refine (G.out _ (HT.out.below c1)).mono ?_
  rintro e w2 ⟨rfl, h2⟩
  have c2 := c1.trans (h2.mono c1.size)
  have T2 := T1.below h2
  clear c1 h2 T1 t0 t1 t2 t3
  have t0 := T2.c0
  have t1 := T2.c1
  have t2 := T2.c2
  have t3 := T2.c3
  go_wp2_with fail
  refine (Z.out _ (HT.out.below c2)).mono ?_
  rintro e w3 ⟨rfl, h3⟩
  have c3 := c2.trans (h3.mono c2.size)
  have T3 := T2.below h3
  clear c2 h3 T2 t0 t1 t2 t3
  have t0 := T3.c0
  have t1 := T3.c1
  have t2 := T3.c2
  have t3 := T3.c3
  by_cases hr : 0 ≤ r ∧ r ≤ 4294967296 - p
  · have P1 := Lib.hid (fun W => PL.out true (by simp; exact hr) W)
    have P2 := Lib.hid (fun W => PS.out false (by simp; rcases H.out with h | h; exact absurd hr h; omega) W)
    clear hr H PL PS
    go_wp2_with fail
    refine (P1.out _).mono ?_
    rintro e w4 ⟨rfl, rfl⟩
    go_wp2_with fail
    refine (P2.out _).mono ?_
    rintro e w4 ⟨rfl, rfl⟩
    go_wp2
    go_ret2
    exact ⟨rfl, c3⟩
  · have P1 := Lib.hid (fun W => PL.out false (by simp; omega) W)
    clear hr H PL PS
    go_wp2_with fail
    refine (P1.out _).mono ?_
    rintro e w4 ⟨rfl, rfl⟩
    go_wp2
    go_ret2
    exact ⟨rfl, c3⟩
end Td
end Go.Proofs.YtfjoacopnkceoaaDoor
