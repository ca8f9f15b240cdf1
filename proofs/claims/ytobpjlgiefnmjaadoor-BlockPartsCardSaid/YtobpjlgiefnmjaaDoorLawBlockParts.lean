/- BlockParts: of every shape, row of words, tile and word the law of a block's parts answers true, and changes nothing, where the library's two tables are as their initialisers lay them (the card ties them to the program's text). -/
import Derived.Test.YtobpjlgiefnmjaaDoorFrame
import Derived.Test.YtobpjlgiefnmjaaDoorTileA
import Derived.Test.YtobpjlgiefnmjaaDoorViewO
import Derived.Test.YtobpjlgiefnmjaaDoorBlockI
import Derived.Test.YtobpjlgiefnmjaaDoorTie
import Derived.Test.YtobpjlgiefnmjaaDoorCards
import Derived.Lib.LaidTab
import Derived.LaidMore
import Derived.Stop.Joined
import Derived.SevenTiedAt
set_option linter.unusedVariables false
namespace Go.Proofs.YtobpjlgiefnmjaaDoor.blockParts
open Go.ChangeShapes Go.WideShapes Go.ChangeAt Go.RowKit
open Bl Ww Pl

/-- The first m words are v. -/
def pf (v : Nat) (g : Nat → Nat) (m j : Nat) : Nat := if j < m then v else g j
theorem pf_zero (v : Nat) (g : Nat → Nat) : pf v g 0 = g := by funext j; exact if_neg (Nat.not_lt_zero j)
theorem pf_at (v : Nat) (g : Nat → Nat) (m : Nat) : pf v g m m = g m := if_neg (Nat.lt_irrefl m)
theorem pf_put (v : Nat) (g : Nat → Nat) (m : Nat) : upd (pf v g m) m v = pf v g (m + 1) := by
  funext j
  unfold upd pf
  by_cases e : j = m
  · subst e; rw [if_pos rfl, if_pos (Nat.lt_succ_self j)]
  · rw [if_neg e]
    by_cases h : j < m
    · rw [if_pos h, if_pos (by omega)]
    · rw [if_neg h, if_neg (by omega)]
theorem pf_end (v : Nat) (g : Nat → Nat) (m j : Nat) (h : j < m) : pf v g m j = v := if_pos h
theorem pf_lt {v n : Nat} {g : Nat → Nat} (hv : v < 18446744073709551616) (hg : ∀ i, i < n → g i < 18446744073709551616) (m : Nat) : ∀ i, i < n → pf v g m i < 18446744073709551616 := by
  intro i hi
  unfold pf
  split
  · exact hv
  · exact hg i hi

set_option maxHeartbeats 1000000 in
set_option maxRecDepth 100000 in
theorem walk_none (a b : Int) (A : Option Addr) (n ca : Nat) (xs : List Nat) (ta tb tr tc : Int) (z : Nat) (h : ¬ (Sh.Gd a b ∧ n ≤ 256 ∧ a * b = (n : Int))) (w : World) (hT : Ft.Tab w) (R : Ws w w.heap.size A xs) :
    Calls Tryd.prog 5 #[.agg #[.int .i64 a, .int .i64 b], .slice A n ca, .agg #[.int .i64 ta, .int .i64 tb, .int .i64 tr, .int .i64 tc], .int .u64 (z : Nat)] w fun e w' => e = .returned (.bool true) ∧ Below w.heap.size w w' := by
  have MD := Lib.hid (fun W => made_no A n ca a b h W)
  clear h
  have V0 := Sh.Tw.fresh w a b 23
  have b0 := below_alloc w (.cells #[.int .i64 a, .int .i64 b] 23)
  have U0 := Ti.fresh (w.alloc (.cells #[.int .i64 a, .int .i64 b] 23)) ta tb tr tc 45
  have b1 := below_alloc (w.alloc (.cells #[.int .i64 a, .int .i64 b] 23)) (.cells #[.int .i64 ta, .int .i64 tb, .int .i64 tr, .int .i64 tc] 45)
  have V0 := V0.below b1
  have b0 := b0.trans (b1.mono b0.size)
  have e1 : (w.alloc (.cells #[.int .i64 a, .int .i64 b] 23)).heap.size = w.heap.size + 1 := by simp
  rw [e1] at U0
  clear b1 e1
  go_enter Tryd.func5, Tryd.ntmps5
  go_upto_region 1 with fail
  generalize (w.alloc (.cells #[.int .i64 a, .int .i64 b] 23)).alloc (.cells #[.int .i64 ta, .int .i64 tb, .int .i64 tr, .int .i64 tc] 45) = w0 at *
  go_wp2_with fail
  refine (awake _ (hT.below b0)).mono ?_
  rintro e w1 ⟨rfl, h1⟩
  have V1 := Lib.hid (V0.below h1)
  have U1 := Lib.hid (U0.below h1)
  have c1 := Lib.hid (b0.trans (h1.mono b0.size))
  have R1 := Lib.hid (R.step c1.out)
  have T1 := Lib.hid (hT.below c1.out)
  generalize w.heap.size = vb at V1 U1
  have M1 := Lib.hid (Kd.refl w1)
  have TW := Lib.hid (fun W (hk : Kd w1 W) => hk.tw V1.out)
  have UW := Lib.hid (fun W (hk : Kd w1 W) => show Ti W (vb + 1) ta tb tr tc from U1.out.below hk.d)
  have RX := Lib.hid (fun W (hk : Kd w1 W) => R1.out.step hk.d)
  have TX := Lib.hid (fun W (hk : Kd w1 W) => show Ft.Tab W from T1.out.below hk.d)
  have CW := Lib.hid (fun W (hk : Kd w1 W) => c1.out.trans (hk.d.mono c1.out.size))
  clear V0 U0 b0 h1 V1 U1 R1 T1 c1 hT R
  obtain ⟨t0, t1⟩ := TW.out _ M1.out
  obtain ⟨y0, y1, y2, y3⟩ := UW.out _ M1.out
  go_wp2_with fail
  refine (MD.out _).mono ?_
  rintro e w2 ⟨rfl, d2⟩
  have M2 := Lib.hid (M1.out.call d2)
  clear t0 t1 y0 y1 y2 y3 d2 M1 
  have C2 := Lib.hid (CW.out _ M2.out)
  clear M2 CW TW UW RX TX
  go_wp2
  go_ret
  exact ⟨by simp [go_sem], C2.out⟩

set_option maxHeartbeats 1000000 in
set_option maxRecDepth 100000 in
theorem walk_out (R C n ca xb xo : Nat) (xs : List Nat) (ta tb tr tc : Int) (z : Nat) (h : ¬ Ins R C ta tb tr tc) (hx : xs.length = n) (hg : Sh.Gd (R : Int) (C : Int)) (hn : R * C = n) (hl : n ≤ 256) (w : World) (hT : Ft.Tab w) (X : Ws w w.heap.size (some ⟨xb, xo, none⟩) xs) :
    Calls Tryd.prog 5 #[.agg #[.int .i64 (R : Int), .int .i64 (C : Int)], .slice (some ⟨xb, xo, none⟩) n ca, .agg #[.int .i64 ta, .int .i64 tb, .int .i64 tr, .int .i64 tc], .int .u64 (z : Nat)] w fun e w' => e = .returned (.bool true) ∧ Below w.heap.size w w' := by
  have MD := Lib.hid (fun W T X => made_ok ⟨xb, xo, none⟩ ca R C n xs hx hg hn hl W T X)
  obtain ⟨g1, g2, g3, g4, g5⟩ := hg.bound
  have PN := Lib.hid (fun W p b cap (B : Bx W p b R C n cap (Pn.pl xs)) T => part_no B ta tb tr tc h T)
  have I1 := Lib.hid (fun W => inside R C ta tb tr tc false (by omega) (by omega) (by simp [h]) W)
  have LN := Lib.hid (fun (p : Option Addr) W => lay_nil p 0 0 W)
  clear h hg hn hx
  have V0 := Sh.Tw.fresh w (R : Int) (C : Int) 23
  have b0 := below_alloc w (.cells #[.int .i64 (R : Int), .int .i64 (C : Int)] 23)
  have U0 := Ti.fresh (w.alloc (.cells #[.int .i64 (R : Int), .int .i64 (C : Int)] 23)) ta tb tr tc 45
  have b1 := below_alloc (w.alloc (.cells #[.int .i64 (R : Int), .int .i64 (C : Int)] 23)) (.cells #[.int .i64 ta, .int .i64 tb, .int .i64 tr, .int .i64 tc] 45)
  have V0 := V0.below b1
  have b0 := b0.trans (b1.mono b0.size)
  have e1 : (w.alloc (.cells #[.int .i64 (R : Int), .int .i64 (C : Int)] 23)).heap.size = w.heap.size + 1 := by simp
  rw [e1] at U0
  clear b1 e1
  go_enter Tryd.func5, Tryd.ntmps5
  go_upto_region 1 with fail
  generalize (w.alloc (.cells #[.int .i64 (R : Int), .int .i64 (C : Int)] 23)).alloc (.cells #[.int .i64 ta, .int .i64 tb, .int .i64 tr, .int .i64 tc] 45) = w0 at *
  go_wp2_with fail
  refine (awake _ (hT.below b0)).mono ?_
  rintro e w1 ⟨rfl, h1⟩
  have V1 := Lib.hid (V0.below h1)
  have U1 := Lib.hid (U0.below h1)
  have c1 := Lib.hid (b0.trans (h1.mono b0.size))
  have R1 := Lib.hid (X.step c1.out)
  have T1 := Lib.hid (hT.below c1.out)
  generalize w.heap.size = vb at V1 U1
  have M1 := Lib.hid (Kd.refl w1)
  have TW := Lib.hid (fun W (hk : Kd w1 W) => hk.tw V1.out)
  have UW := Lib.hid (fun W (hk : Kd w1 W) => show Ti W (vb + 1) ta tb tr tc from U1.out.below hk.d)
  have RX := Lib.hid (fun W (hk : Kd w1 W) => R1.out.step hk.d)
  have TX := Lib.hid (fun W (hk : Kd w1 W) => show Ft.Tab W from T1.out.below hk.d)
  have CW := Lib.hid (fun W (hk : Kd w1 W) => c1.out.trans (hk.d.mono c1.out.size))
  clear V0 U0 b0 h1 V1 U1 R1 T1 c1 hT X
  obtain ⟨t0, t1⟩ := TW.out _ M1.out
  obtain ⟨y0, y1, y2, y3⟩ := UW.out _ M1.out
  go_wp2_with fail
  refine (MD.out _ (TX.out _ M1.out) (RX.out _ M1.out)).mono ?_
  rintro e w2 ⟨v2, rfl, p, b, cap, rfl, B2, hp, hb, d2⟩
  have M2 := Lib.hid (M1.out.call d2)
  have B2 := Lib.hid B2
  have hp := Lib.hid hp
  have hb := Lib.hid hb
  clear t0 t1 y0 y1 y2 y3 d2 M1 MD
  obtain ⟨t0, t1⟩ := TW.out _ M2.out
  obtain ⟨y0, y1, y2, y3⟩ := UW.out _ M2.out
  go_wp2_with fail
  refine (PN.out _ _ _ _ B2.out (TX.out _ M2.out)).mono ?_
  rintro e w3 ⟨rfl, d3⟩
  have M3 := Lib.hid (M2.out.call d3)
  clear t0 t1 y0 y1 y2 y3 d3 M2 B2 PN
  obtain ⟨t0, t1⟩ := TW.out _ M3.out
  obtain ⟨y0, y1, y2, y3⟩ := UW.out _ M3.out
  go_wp2_with fail
  refine (I1.out _).mono ?_
  rintro e w4 ⟨rfl, d4⟩
  have M4 := Lib.hid (M3.out.call d4)
  clear t0 t1 y0 y1 y2 y3 d4 M3 I1
  go_wp2_with fail
  refine (LN.out _ _).mono ?_
  rintro e w' ⟨rfl, rfl⟩
  have C4 := Lib.hid (CW.out _ M4.out)
  clear M4 CW TW UW RX TX LN
  go_wp2
  go_ret
  exact ⟨by simp [go_sem], C4.out⟩

set_option maxHeartbeats 1000000 in
set_option maxRecDepth 100000 in
theorem walk_in (R C n ca xb xo : Nat) (xs : List Nat) (h k u v z : Nat) (hz : z < 18446744073709551616) (ht : Sh.Gd (h : Int) (k : Int)) (hu : u + h ≤ R) (hv : v + k ≤ C) (hx : xs.length = n) (hg : Sh.Gd (R : Int) (C : Int)) (hn : R * C = n) (hl : n ≤ 256) (w : World) (hT : Ft.Tab w) (X : Ws w w.heap.size (some ⟨xb, xo, none⟩) xs) :
    Calls Tryd.prog 5 #[.agg #[.int .i64 (R : Int), .int .i64 (C : Int)], .slice (some ⟨xb, xo, none⟩) n ca, .agg #[.int .i64 (h : Int), .int .i64 (k : Int), .int .i64 (u : Int), .int .i64 (v : Int)], .int .u64 (z : Nat)] w fun e w' => e = .returned (.bool true) ∧ Below w.heap.size w w' := by
  have MD := Lib.hid (fun W T X => made_ok ⟨xb, xo, none⟩ ca R C n xs hx hg hn hl W T X)
  obtain ⟨g1, g2, g3, g4, g5⟩ := hg.bound
  obtain ⟨p1, p2', p3, p4, p5⟩ := ht.bound
  have hk : 0 < h ∧ 0 < k := by omega
  have RE := Lib.hid (show rg (Pn.pl xs) n = xs from rg_pl hx)
  have WD := Lib.hid (fun W p b cap (f : Nat → Nat) (B : Bx W p b R C n cap f) => words B)
  have SM := Lib.hid (fun (f : Nat → Nat) (A B : Option Addr) ca cb W Ra Rb => same_rg (n := n) (f := f) (g := f) (fun _ _ => rfl) (by omega) A B ca cb W Ra Rb)
  have PI := Lib.hid (fun W p b cap (B : Bx W p b R C n cap (Pn.pl xs)) T => part_in B h k u v ht hu hv T)
  have I1 := Lib.hid (fun W => inside R C h k u v true (by omega) (by omega) (by simp only [true_iff]; exact ⟨ht, ⟨by omega, by omega⟩, by omega, by omega⟩) W)
  have SP := Lib.hid (fun W p b cap (B : Bx W p b h k (h * k) cap (Bk.part C u v k (Pn.pl xs))) => Bl.shape B.c)
  have fl : ∀ i, i < n → Pn.pl xs i < 18446744073709551616 := fun i hi => X.lt i (by omega)
  have GL := Lib.hid (fun m => pf_lt hz (part_lt hn hu hv fl) m)
  have GT := Lib.hid (fun i j x W p b cap (hi : i < h) (hj : j < k) (hxx : x = (u + i) * C + v + j) (B : Bx W p b h k (h * k) cap (pf z (Bk.part C u v k (Pn.pl xs)) (i * k + j))) T => show Calls Tryd.prog 18 #[.pointer (some ⟨p, 0, none⟩), .int .i64 (i : Int), .int .i64 (j : Int)] W fun e w' => e = .returned (.tuple #[.int .u64 (Pn.pl xs x : Nat), .int .i64 0]) ∧ Below W.heap.size W w' from by
    have e := get_in B i j _ hi hj rfl T
    rw [pf_at] at e
    unfold Bk.part at e
    rw [Bk.pt_at hj, ← Nat.add_assoc, ← hxx] at e
    exact e)
  have PT := Lib.hid (fun i j W p b cap (hi : i < h) (hj : j < k) (B : Bx W p b h k (h * k) cap (pf z (Bk.part C u v k (Pn.pl xs)) (i * k + j))) T => show Calls Tryd.prog 19 #[.pointer (some ⟨p, 0, none⟩), .int .i64 (i : Int), .int .i64 (j : Int), .int .u64 (z : Nat)] W fun e w' => e = .returned (.int .i64 0) ∧ Ta b (h * k) (pf z (Bk.part C u v k (Pn.pl xs)) (i * k + (j + 1))) W w' from by
    have e := put_in B i j _ z hi hj rfl T
    rw [pf_put] at e
    exact e)
  have LI := Lib.hid (fun W p b cap p2 b2 cap2 (B : Bx W p b R C n cap (Pn.pl xs)) (S : Bx W p2 b2 h k (h * k) cap2 (pf z (Bk.part C u v k (Pn.pl xs)) (h * k))) n1 np T => lay_in B S u v hu hv n1 np T)
  have LW := Lib.hid (fun i (hi : i < n) => show Bk.lay C u v h k (Bk.part k 0 0 k (pf z (Bk.part C u v k (Pn.pl xs)) (h * k))) (Pn.pl xs) i = (if Bk.In C u v h k i then z else Pn.pl xs i) from by
    unfold Bk.lay
    by_cases hI : Bk.In C u v h k i
    · rw [if_pos hI, if_pos hI]
      exact pf_end _ _ _ _ (Bk.pt_lt (by omega) (by omega) (Bk.no_lt hI))
    · rw [if_neg hI, if_neg hI])
  have LL := Lib.hid (lay_lt (q := C) (r0 := u) (c0 := v) (h := h) (w := k) fl (part_lt (R := h) (C := k) (r := 0) (c := 0) (h := h) (k := k) rfl (by omega) (by omega) (GL.out (h * k))))
  have LO := Lib.hid (fun W p b cap p2 b2 cap2 (f : Nat → Nat) (B : Bx W p b R C n cap f) (S : Bx W p2 b2 h k (h * k) cap2 (pf z (Bk.part C u v k (Pn.pl xs)) (h * k))) T => lay_no B S (R : Int) 0 (fun ⟨_, ⟨_, q⟩, _⟩ => by omega) T)
  have PZ := Lib.hid (pf_zero z (Bk.part C u v k (Pn.pl xs)))
  have J1 := Lib.hid (fun i (hi : i < h) => row_in hn hu hv hi)
  have LX := Lib.hid (fun W (X : Ws W W.heap.size (some ⟨xb, xo, none⟩) xs) y (hy : y < n) => ws_cell X y (by omega))
  have hb1 : u + h ≤ 4294967296 ∧ v + k ≤ 4294967296 ∧ C ≤ 4294967296 ∧ R ≤ 4294967296 := by omega
  have c0' : ((C : Int) == 0) = false := by rw [beq_eq_false_iff_ne]; omega
  have HL := Lib.hid hl
  have q5 : IntKind.i64.wrap ((u : Int) + (h : Int)) = ((u + h : Nat) : Int) := by rw [IntKind.wrap_i64]; omega
  have q6 : IntKind.i64.wrap ((v : Int) + (k : Int)) = ((v + k : Nat) : Int) := by rw [IntKind.wrap_i64]; omega
  obtain ⟨G, hG⟩ : ∃ G : Nat → Nat → Nat, G = pf z (Bk.part C u v k (Pn.pl xs)) := ⟨_, rfl⟩
  obtain ⟨Q, hQ⟩ : ∃ Q : Nat → Nat, Q = Bk.part C u v k (Pn.pl xs) := ⟨_, rfl⟩
  rw [← hG] at GL GT PT LI LW LL LO PZ
  rw [← hQ] at PI SP PZ
  obtain ⟨D, hD⟩ : ∃ D : Nat → Nat, D = Bk.lay C u v h k (Bk.part k 0 0 k (G (h * k))) (Pn.pl xs) := ⟨_, rfl⟩
  rw [← hD] at LI LW LL
  clear hG hQ hD ht hu hv fl hg hn hx p1 p2' p3 p4 p5 hz
  have V0 := Sh.Tw.fresh w (R : Int) (C : Int) 23
  have b0 := below_alloc w (.cells #[.int .i64 (R : Int), .int .i64 (C : Int)] 23)
  have U0 := Ti.fresh (w.alloc (.cells #[.int .i64 (R : Int), .int .i64 (C : Int)] 23)) (h : Int) (k : Int) (u : Int) (v : Int) 45
  have b1 := below_alloc (w.alloc (.cells #[.int .i64 (R : Int), .int .i64 (C : Int)] 23)) (.cells #[.int .i64 (h : Int), .int .i64 (k : Int), .int .i64 (u : Int), .int .i64 (v : Int)] 45)
  have V0 := V0.below b1
  have b0 := b0.trans (b1.mono b0.size)
  have e1 : (w.alloc (.cells #[.int .i64 (R : Int), .int .i64 (C : Int)] 23)).heap.size = w.heap.size + 1 := by simp
  rw [e1] at U0
  clear b1 e1
  go_enter Tryd.func5, Tryd.ntmps5
  go_upto_region 1 with fail
  generalize (w.alloc (.cells #[.int .i64 (R : Int), .int .i64 (C : Int)] 23)).alloc (.cells #[.int .i64 (h : Int), .int .i64 (k : Int), .int .i64 (u : Int), .int .i64 (v : Int)] 45) = w0 at *
  go_wp2_with fail
  refine (awake _ (hT.below b0)).mono ?_
  rintro e w1 ⟨rfl, h1⟩
  have V1 := Lib.hid (V0.below h1)
  have U1 := Lib.hid (U0.below h1)
  have c1 := Lib.hid (b0.trans (h1.mono b0.size))
  have R1 := Lib.hid (X.step c1.out)
  have T1 := Lib.hid (hT.below c1.out)
  generalize w.heap.size = vb at V1 U1
  have M1 := Lib.hid (Kd.refl w1)
  have TW := Lib.hid (fun W (hk : Kd w1 W) => hk.tw V1.out)
  have UW := Lib.hid (fun W (hk : Kd w1 W) => show Ti W (vb + 1) (h : Int) (k : Int) (u : Int) (v : Int) from U1.out.below hk.d)
  have RX := Lib.hid (fun W (hk : Kd w1 W) => R1.out.step hk.d)
  have TX := Lib.hid (fun W (hk : Kd w1 W) => show Ft.Tab W from T1.out.below hk.d)
  have CW := Lib.hid (fun W (hk : Kd w1 W) => c1.out.trans (hk.d.mono c1.out.size))
  clear V0 U0 b0 h1 V1 U1 R1 T1 c1 hT X
  obtain ⟨t0, t1⟩ := TW.out _ M1.out
  obtain ⟨y0, y1, y2, y3⟩ := UW.out _ M1.out
  go_wp2_with fail
  refine (MD.out _ (TX.out _ M1.out) (RX.out _ M1.out)).mono ?_
  rintro e w2 ⟨v2, rfl, p, b, cap, rfl, B2, hp, hb, d2⟩
  have M2 := Lib.hid (M1.out.call d2)
  have B2 := Lib.hid B2
  have hp := Lib.hid hp
  have hb := Lib.hid hb
  clear t0 t1 y0 y1 y2 y3 d2 M1 MD
  obtain ⟨t0, t1⟩ := TW.out _ M2.out
  obtain ⟨y0, y1, y2, y3⟩ := UW.out _ M2.out
  go_wp2_with fail
  refine (PI.out _ _ _ _ B2.out (TX.out _ M2.out)).mono ?_
  rintro e w3 ⟨v3, rfl, p2, b2, cap2, rfl, P3, hp2, hb2, d3⟩
  have M3 := Lib.hid (M2.out.call d3)
  have B3 := Lib.hid (B2.out.below d3)
  have P3 := Lib.hid P3
  have n1 := Lib.hid (show p ≠ b2 ∧ b ≠ b2 ∧ p2 ≠ b by have := B2.out.c.lt; have := B2.out.s; omega)
  have hb3 := Lib.hid (Nat.le_trans M2.out.d.size hb2)
  clear t0 t1 y0 y1 y2 y3 d3 M2 B2 PI hp2 hb2
  obtain ⟨t0, t1⟩ := TW.out _ M3.out
  obtain ⟨y0, y1, y2, y3⟩ := UW.out _ M3.out
  go_wp2_with fail
  refine (I1.out _).mono ?_
  rintro e w4 ⟨rfl, d4⟩
  have M4 := Lib.hid (M3.out.call d4)
  have B4 := Lib.hid (B3.out.below d4)
  have P4 := Lib.hid (P3.out.below d4)
  clear t0 t1 y0 y1 y2 y3 d4 M3 B3 P3 I1
  have M := Kd.refl w4
  have PX := Lib.hid (fun W (hk : Kd w4 W) => show W.cell? ⟨vb + 1, 0, none⟩ = some (.int .i64 (h : Int)) ∧ W.cell? ⟨vb + 1, 1, none⟩ = some (.int .i64 (k : Int)) ∧ Kd w4 W from
    ⟨(UW.out _ (M4.out.trans hk)).c0, (UW.out _ (M4.out.trans hk)).c1, hk⟩)
  have S4 := Lib.hid (fun W (hk : Kd w4 W) => SP.out _ _ _ _ (P4.out.below hk.d))
  obtain ⟨y0, y1, y2, y3⟩ := UW.out _ M4.out
  go_upto_region 9 with fail
  go_cut [61] (fun v61 wx => v61 = .bool false ∧ Kd w4 wx)
  case first =>
    go_region_held3 (fun w' => w'.cell? ⟨vb + 1, 0, none⟩ = some (.int .i64 (h : Int)) ∧ w'.cell? ⟨vb + 1, 1, none⟩ = some (.int .i64 (k : Int)) ∧ Kd w4 w')
      (exact PX.out _ (by repeat (first | with_reducible exact M | with_reducible refine Kd.drew ?_ | with_reducible refine Kd.alloc ?_ _ | with_reducible refine Kd.call ?_ h5)))
      (first
        | (go_at_call 11; (with_reducible refine (S4.out _ (by repeat (first | with_reducible exact M | with_reducible refine Kd.drew ?_ | with_reducible refine Kd.alloc ?_ _))).mono ?_); rintro e w5 ⟨rfl, h5⟩))
    all_goals (go_wp2_with fail; go_meet)
    all_goals exact ⟨by first | rfl | simp, by repeat (first | with_reducible exact M | with_reducible refine Kd.drew ?_ | with_reducible refine Kd.alloc ?_ _ | with_reducible refine Kd.call ?_ h5)⟩
  case rest =>
    obtain ⟨rfl, hcut⟩ := hcut
    clear M PX S4 y0 y1 y2 y3 SP
    generalize wc = w5 at *
    have M5 := Lib.hid (M4.out.trans hcut)
    have B5 := Lib.hid (B4.out.below hcut.d)
    have P5 := Lib.hid (P4.out.below hcut.d)
    clear hcut M4 B4 P4
    have ST := Lib.hid (show Ta b2 (h * k) (G (0 * k)) w5 w5 by rw [Nat.zero_mul, PZ.out]; exact P5.out.ta)
    have MX := Lib.hid (fun wr (o : But b2 w5 wr) => M5.out.but o hb3.out)
    have s5 := Lib.hid P5.out.s
    obtain ⟨y0, y1, y2, y3⟩ := UW.out _ M5.out
    obtain ⟨t0, t1⟩ := TW.out _ M5.out
    go_wp2_with fail
    clear y0 y1 y2 y3 t0 t1
    go_loopw [12] (fun v12 wr => ∃ i : Nat, v12 = .int .i64 (i : Int) ∧ i ≤ h ∧ Ta b2 (h * k) (G (i * k)) w5 wr) (fun v12 _ => h - (Lib.intOf v12).toNat)
    case atStart => exact ⟨0, rfl, Nat.zero_le _, ST.out⟩
    case round =>
      obtain ⟨i, rfl, hi, T⟩ := hrel
      clear ST
      obtain ⟨t0, t1⟩ := TW.out _ (MX.out _ T.o)
      obtain ⟨y0, y1, y2, y3⟩ := UW.out _ (MX.out _ T.o)
      by_cases hlt : i < h
      · have i1 : (i : Int) < h := by omega
        have T0 := Lib.hid (show Ta b2 (h * k) (G (i * k + 0)) w5 wr from T)
        obtain ⟨wo, rfl⟩ : ∃ wo : World, wo = wr := ⟨_, rfl⟩
        clear T
        go_wp2_with fail
        clear y0 y1 y2 y3 t0 t1
        go_loopw [13] (fun v13 wr => ∃ j : Nat, v13 = .int .i64 (j : Int) ∧ j ≤ k ∧ Ta b2 (h * k) (G (i * k + j)) w5 wr) (fun v13 _ => k - (Lib.intOf v13).toNat)
        case atStart => exact ⟨0, rfl, Nat.zero_le _, T0.out⟩
        case round =>
          obtain ⟨j, rfl, hj, T⟩ := hrel
          clear T0
          obtain ⟨t0, t1⟩ := TW.out _ (MX.out _ T.o)
          obtain ⟨y0, y1, y2, y3⟩ := UW.out _ (MX.out _ T.o)
          by_cases hjlt : j < k
          · have j1 : (j : Int) < k := by omega
            have a1 := J1.out i hlt
            obtain ⟨p1, hp1⟩ : ∃ p1, p1 = u + i := ⟨_, rfl⟩
            obtain ⟨s1, hs1⟩ : ∃ s1, s1 = p1 * C := ⟨_, rfl⟩
            obtain ⟨l1, hl1⟩ : ∃ l1, l1 = s1 + v := ⟨_, rfl⟩
            obtain ⟨x, hxx⟩ : ∃ x, x = l1 + j := ⟨_, rfl⟩
            have ex : x = (u + i) * C + v + j := by rw [← hp1, ← hs1, ← hl1]; exact hxx
            rw [← hp1, ← hs1, ← hl1] at a1
            have hl' := HL.out
            have q1 : IntKind.i64.wrap ((u : Int) + (i : Int)) = (p1 : Int) := by rw [IntKind.wrap_i64]; omega
            have q3 : IntKind.i64.wrap ((p1 : Int) * (C : Int)) = (s1 : Int) := by rw [← Int.natCast_mul, ← hs1]; exact IntWalk.i64_in _ (by omega)
            have q7 : IntKind.i64.wrap ((s1 : Int) + (v : Int)) = (l1 : Int) := by rw [IntKind.wrap_i64]; omega
            have q9 : IntKind.i64.wrap ((l1 : Int) + (j : Int)) = (x : Int) := by rw [IntKind.wrap_i64]; omega
            have x1 : x < n := by omega
            have PB := P5.out.wrote T (GL.out _)
            have CG := Lib.hid (GT.out i j x wr p2 b2 cap2 hlt hjlt ex PB (TX.out _ (MX.out _ T.o)))
            have CP := Lib.hid (fun W (d : Below wr.heap.size wr W) => PT.out i j W p2 b2 cap2 hlt hjlt (PB.below d) (TX.out _ ((MX.out _ T.o).call d)))
            have TN := Lib.hid (fun W W2 (d : Below wr.heap.size wr W) (T2 : Ta b2 (h * k) (G (i * k + (j + 1))) W W2) => show Ta b2 (h * k) (G (i * k + (j + 1))) w5 W2 from ⟨T2.k, But.trans (T.o.call s5.out d) T2.o⟩)
            have OM := Lib.hid (fun W (d : Below wr.heap.size wr W) => (MX.out _ T.o).call d)
            have lx0 := Lib.hid x1
            clear hp1 hs1 hl1 hxx ex a1 T PB x1 hl'
            obtain ⟨fx, hfx⟩ : ∃ fx, fx = Pn.pl xs x := ⟨_, rfl⟩
            rw [← hfx] at CG
            replace hfx := Lib.hid hfx
            go_wp2_with fail
            refine CG.out.mono ?_
            rintro e w6 ⟨rfl, d6⟩
            clear t0 t1 y0 y1 y2 y3
            obtain ⟨t0, t1⟩ := TW.out _ (OM.out _ d6)
            obtain ⟨y0, y1, y2, y3⟩ := UW.out _ (OM.out _ d6)
            have lx := LX.out _ (RX.out _ (OM.out _ d6)) x lx0.out
            rw [← hfx.out] at lx
            have CP6 := Lib.hid (CP.out _ d6)
            have TN6 := Lib.hid (fun W2 T2 => TN.out w6 W2 d6 T2)
            have x1 := lx0.out
            clear d6 CP TN OM CG lx0
            go_wp2_with fail
            refine CP6.out.mono ?_
            rintro e w7 ⟨rfl, T7⟩
            have T8 := Lib.hid (TN6.out _ T7)
            clear T7 TN6 CP6 t0 t1 y0 y1 y2 y3 lx q1 q3 q7 q9 x1
            go_wp2_with fail
            go_roundw
            case rel => exact ⟨j + 1, rfl, by omega, T8.out⟩
            case measure => simp [Lib.intOf]; omega
          · have j1 : ¬ (j : Int) < k := by omega
            obtain rfl : k = j := by omega
            have T' := Lib.hid (show Ta b2 (h * k) (G ((i + 1) * k)) w5 wr by rw [Nat.succ_mul]; exact T)
            clear T
            go_wp2_with fail
            go_roundw
            case rel => exact ⟨i + 1, rfl, by omega, T'.out⟩
            case measure => simp [Lib.intOf]; omega
      · have i1 : ¬ (i : Int) < h := by omega
        obtain rfl : h = i := by omega
        have M6 := Lib.hid (MX.out _ T.o)
        have B6 := Lib.hid (B5.out.but T.o n1.out.1 n1.out.2.1)
        have P6 := Lib.hid (P5.out.wrote T (GL.out _))
        clear T MX B5 P5 M5 s5 GT PT J1 PZ
        generalize wr = w6 at *
        go_wp2_with fail
        refine (WD.out _ _ _ _ _ B6.out).mono ?_
        rintro e w7 ⟨A7, c7, rfl, X7, d7⟩
        have M7 := Lib.hid (M6.out.call d7)
        have X7 := Lib.hid X7
        have B7 := Lib.hid (B6.out.below d7)
        have P7 := Lib.hid (P6.out.below d7)
        clear d7 M6 B6 P6 t0 t1 y0 y1 y2 y3
        go_wp2_with fail
        refine (SM.out _ _ _ _ _ _ X7.out (by rw [RE.out]; exact RX.out _ M7.out)).mono ?_
        rintro e w8 ⟨rfl, d8⟩
        have M8 := Lib.hid (M7.out.call d8)
        have B8 := Lib.hid (B7.out.below d8)
        have P8 := Lib.hid (P7.out.below d8)
        clear d8 M7 B7 P7 X7
        obtain ⟨y0, y1, y2, y3⟩ := UW.out _ M8.out
        go_wp2_with fail
        refine (LI.out _ _ _ _ _ _ _ B8.out P8.out (Ne.symm n1.out.2.1) n1.out.2.2 (TX.out _ M8.out)).mono ?_
        rintro e w9 ⟨rfl, T9⟩
        have M9 := Lib.hid (M8.out.but T9.o hb.out)
        have B9 := Lib.hid (B8.out.wrote T9 LL.out)
        have P9 := Lib.hid (P8.out.but T9.o n1.out.2.2 (Ne.symm n1.out.2.1))
        clear T9 M8 B8 P8 y0 y1 y2 y3 LI
        go_wp2_with fail
        refine (WD.out _ _ _ _ _ B9.out).mono ?_
        rintro e w10 ⟨A10, c10, rfl, X10, d10⟩
        have M10 := Lib.hid (M9.out.call d10)
        have B10 := Lib.hid (B9.out.below d10)
        have P10 := Lib.hid (P9.out.below d10)
        have X10 := Lib.hid X10
        clear d10 M9 B9 P9
        go_wp2_with fail
        go_loopw [17] (fun v17 wr => ∃ i m : Nat, v17 = .int .i64 (i : Int) ∧ i ≤ n ∧ wr = w10.drewN m) (fun v17 _ => n - (Lib.intOf v17).toNat)
        case atStart => exact ⟨0, 0, rfl, Nat.zero_le _, rfl⟩
        case round =>
          obtain ⟨y, m, rfl, hy, hw⟩ := hrel
          have MM := Lib.hid (show Kd w1 wr from by rw [hw]; exact ⟨below_drewN M10.out.d m⟩)
          have XX := Lib.hid (show Ws wr w10.heap.size A10 (rg D n) from by rw [hw]; exact X10.out.drewN m)
          have BB := Lib.hid (show Bx wr p b R C n cap D from by rw [hw]; exact B10.out.drewN m)
          have PP := Lib.hid (show Bx wr p2 b2 h k (h * k) cap2 (G (h * k)) from by rw [hw]; exact P10.out.drewN m)
          replace hw := Lib.hid hw
          obtain ⟨t0, t1⟩ := TW.out _ MM.out
          obtain ⟨y0, y1, y2, y3⟩ := UW.out _ MM.out
          by_cases hlt : y < n
          · have i1 : (y : Int) < n := by omega
            have lx := LX.out _ (RX.out _ MM.out) y hlt
            obtain ⟨mb, mo, rfl, hB, mx⟩ := XX.out.at_ y (by rw [rg_len]; exact hlt)
            rw [rg_at _ _ _ hlt, LW.out y hlt] at mx
            obtain ⟨yq, hyq⟩ : ∃ yq, yq = y / C := ⟨_, rfl⟩
            obtain ⟨yr, hyr⟩ : ∃ yr, yr = y % C := ⟨_, rfl⟩
            have e1 : (y : Int).tdiv (C : Int) = (yq : Int) := by rw [Int.tdiv_eq_ediv_of_nonneg (by omega), hyq]; rfl
            have e2 : (y : Int).tmod (C : Int) = (yr : Int) := by rw [Int.tmod_eq_emod_of_nonneg (by omega), hyr]; rfl
            have yl : yq ≤ y := by rw [hyq]; exact Nat.div_le_self _ _
            have e3 : IntKind.i64.wrap (yq : Int) = (yq : Int) := by rw [IntKind.wrap_i64]; have := HL.out; omega
            have II := Lib.hid (show Bk.In C u v h k y ↔ (u ≤ yq ∧ yq < u + h) ∧ v ≤ yr ∧ yr < v + k by unfold Bk.In; rw [hyq, hyr])
            have hl' := HL.out
            clear hyq hyr hB MM BB PP XX
            generalize Pn.pl xs y = fy at *
            go_upto_region 26 with fail
            go_quiet (fail)
            clear t0 t1 y0 y1 y2 y3 lx mx e1 e2 e3 yl
            obtain ⟨m2, hw2⟩ : ∃ m2, wr.drewN nq = w10.drewN m2 := ⟨m + nq, by rw [hw.out, World.drewN_drewN]⟩
            clear hw
            generalize wr.drewN nq = w11 at *
            have MM := Lib.hid (show Kd w1 w11 from by rw [hw2]; exact ⟨below_drewN M10.out.d m2⟩)
            have XX := Lib.hid (show Ws w11 w10.heap.size (some ⟨mb, mo, none⟩) (rg D n) from by rw [hw2]; exact X10.out.drewN m2)
            replace hw2 := Lib.hid hw2
            have SF := Lib.hid (fun (b : Bool) (hb : b = true ↔ (u ≤ yq ∧ yq < u + h) ∧ v ≤ yr ∧ yr < v + k) => show b = true ↔ Bk.In C u v h k y from hb.trans II.out.symm)
            clear II
            obtain ⟨y0, y1, y2, y3⟩ := UW.out _ MM.out
            go_upto_region 27 with fail
            go_cut [20] (fun v20 wx => ∃ s : Bool, v20 = .bool s ∧ (s = true ↔ Bk.In C u v h k y) ∧ wx = w11)
            case first =>
              by_cases m1 : (u : Int) ≤ yq
              · skip
                by_cases m2 : (yq : Int) < ((u + h : Nat) : Int)
                · skip
                  by_cases m3 : (v : Int) ≤ yr
                  · skip
                    by_cases m4 : (yr : Int) < ((v + k : Nat) : Int)
                    · skip
                      go_wp2_with fail
                      go_meet
                      exact ⟨true, by first | rfl | (simp; done) | (simp; omega), SF.out true ⟨fun _ => ⟨⟨by omega, by omega⟩, by omega, by omega⟩, fun _ => rfl⟩, rfl⟩
                    · skip
                      go_wp2_with fail
                      go_meet
                      exact ⟨false, by first | rfl | (simp; done) | (simp; omega), SF.out false ⟨fun e => (by cases e), fun ⟨⟨e1, e2⟩, e3, e4⟩ => (by exfalso; omega)⟩, rfl⟩
                  · skip
                    go_wp2_with fail
                    go_meet
                    exact ⟨false, by first | rfl | (simp; done) | (simp; omega), SF.out false ⟨fun e => (by cases e), fun ⟨⟨e1, e2⟩, e3, e4⟩ => (by exfalso; omega)⟩, rfl⟩
                · skip
                  go_wp2_with fail
                  go_meet
                  exact ⟨false, by first | rfl | (simp; done) | (simp; omega), SF.out false ⟨fun e => (by cases e), fun ⟨⟨e1, e2⟩, e3, e4⟩ => (by exfalso; omega)⟩, rfl⟩
              · skip
                go_wp2_with fail
                go_meet
                exact ⟨false, by first | rfl | (simp; done) | (simp; omega), SF.out false ⟨fun e => (by cases e), fun ⟨⟨e1, e2⟩, e3, e4⟩ => (by exfalso; omega)⟩, rfl⟩
            case rest =>
              obtain ⟨s, rfl, hs, rfl⟩ := hcut
              have lx := LX.out _ (RX.out _ MM.out) y hlt
              obtain ⟨mb', mo', em, hB, mx⟩ := XX.out.at_ y (by rw [rg_len]; exact hlt)
              injection em with em
              injection em with em1 em2
              subst em1 em2
              rw [rg_at _ _ _ hlt, LW.out y hlt] at mx
              obtain ⟨fy, hfy⟩ : ∃ fy, fy = Pn.pl xs y := ⟨_, rfl⟩
              rw [← hfy] at lx mx
              clear hfy hB y0 y1 y2 y3 MM XX SF
              cases s
              · rw [if_neg (fun h => by cases hs.2 h)] at mx
                clear hs
                go_upto_region 28 with fail
                go_quiet (fail)
                clear lx mx
                go_wp2_with fail
                go_roundw
                case rel => exact ⟨y + 1, m2 + nq, rfl, by omega, by rw [hw2.out, World.drewN_drewN]⟩
                case measure => simp [Lib.intOf]; omega
              · rw [if_pos (hs.1 rfl)] at mx
                clear hs
                go_upto_region 28 with fail
                go_quiet (fail)
                clear lx mx
                go_wp2_with fail
                go_roundw
                case rel => exact ⟨y + 1, m2 + nq, rfl, by omega, by rw [hw2.out, World.drewN_drewN]⟩
                case measure => simp [Lib.intOf]; omega
          · have i1 : ¬ (y : Int) < n := by omega
            have CL := Lib.hid (LO.out _ _ _ _ _ _ _ _ BB PP (TX.out _ MM.out))
            clear XX BB PP y0 y1 y2 y3
            go_wp2_with fail
            refine CL.out.mono ?_
            rintro e w12 ⟨rfl, d12⟩
            have C12 := Lib.hid (CW.out _ (MM.out.call d12))
            clear d12 MM CL CW TW UW RX TX t0 t1
            go_wp2
            go_ret
            exact ⟨by simp [go_sem], C12.out⟩

theorem walk (a b : Int) (A : Option Addr) (n ca : Nat) (xs : List Nat) (ta tb tr tc : Int) (z : Nat) (hx : xs.length = n) (hz : z < 18446744073709551616) (w : World) (hT : Ft.Tab w) (R : Ws w w.heap.size A xs) :
    Calls Tryd.prog 5 #[.agg #[.int .i64 a, .int .i64 b], .slice A n ca, .agg #[.int .i64 ta, .int .i64 tb, .int .i64 tr, .int .i64 tc], .int .u64 (z : Nat)] w fun e w' => e = .returned (.bool true) ∧ Below w.heap.size w w' := by
  by_cases h : Sh.Gd a b ∧ n ≤ 256 ∧ a * b = (n : Int)
  · obtain ⟨hg, hl, hm⟩ := h
    obtain ⟨g1, g2, g3, g4, g5⟩ := hg.bound
    obtain ⟨R', rfl⟩ := Int.eq_ofNat_of_zero_le (show 0 ≤ a by omega)
    obtain ⟨C', rfl⟩ := Int.eq_ofNat_of_zero_le (show 0 ≤ b by omega)
    have hn : R' * C' = n := by rw [← Int.natCast_mul] at hm; omega
    have h0 : 0 < n := by rw [← hn]; exact Nat.mul_pos (by omega) (by omega)
    obtain ⟨xb, xo, rfl, _, _⟩ := R.at_ 0 (by omega)
    by_cases h1 : Ins R' C' ta tb tr tc
    · obtain ⟨ht, ⟨u0, u1⟩, v0, v1⟩ := h1
      obtain ⟨t1, t2, t3, t4, t5⟩ := ht.bound
      obtain ⟨h, rfl⟩ := Int.eq_ofNat_of_zero_le (show 0 ≤ ta by omega)
      obtain ⟨k, rfl⟩ := Int.eq_ofNat_of_zero_le (show 0 ≤ tb by omega)
      obtain ⟨u, rfl⟩ := Int.eq_ofNat_of_zero_le (show 0 ≤ tr by omega)
      obtain ⟨v, rfl⟩ := Int.eq_ofNat_of_zero_le (show 0 ≤ tc by omega)
      exact walk_in R' C' n ca xb xo xs h k u v z hz ht (by omega) (by omega) hx hg hn hl w hT R
    · exact walk_out R' C' n ca xb xo xs ta tb tr tc z h1 hx hg hn hl w hT R
  · exact walk_none a b A n ca xs ta tb tr tc z h w hT R

theorem g32 : Tryd.prog.globalNamed "math/bits.deBruijn32tab" = some 0 := by kernel_rfl
theorem g64 : Tryd.prog.globalNamed "math/bits.deBruijn64tab" = some 1 := by kernel_rfl
theorem t64 : (Tryd.prog.globals[1]?).map (·.type) = some 82 := by kernel_rfl
/-- What the row's condition gives the walk: the table's cells. -/
theorem of_laid {W : World} (h : laidMetH Tryd.prog Rows.blockPartsRow.laid W) : Ft.Tab W := by
  rw [MakeChecks.laidMetH_plain _ _ _ (by kernel_rfl)] at h
  obtain ⟨ps, ⟨g0, t0, cs0, f0, p0, q0, hg0, ht0, hv0, hd0, ⟨g1, t1, cs1, f1, p1, q1, hg1, ht1, hv1, hd1, _, _⟩, _⟩, _, _⟩ := h
  obtain rfl := Option.some.inj (g64.symm.trans hg1)
  obtain rfl := Option.some.inj (t64.symm.trans ht1)
  have hd2 : DataW.trod _ Tryd.prog W 0 _ false f1 82 cs1.toList = some (Lib.tabData .u8 (Lib.deBruijn64tab.map Int.ofNat), p1) := hd1
  have hc := Lib.cells_of_tab Tryd.underlying82 Tryd.underlying5 (by kernel_rfl) (by kernel_rfl) hd2
  intro i hi
  have c := World.var?_cell hg1 hv1 i
  rw [c, ← Array.getElem?_toList, hc]
  have hl : Lib.deBruijn64tab.length = 64 := by decide
  simp [List.getD, hl, hi]

/-- The door's own heap meets the condition. -/
theorem door_met (os : Os) (args : Array Value) : laidMetH Tryd.prog Rows.blockPartsRow.laid ((World.doorLaid Tryd.prog 400 os).forCall (fun _ _ => 0) ⟨#[], args, []⟩).memory :=
  laidMetH_of_parts3 (fuel := 8) (laidMet_of_run' 8 (by kernel_rfl) (by kernel_rfl)) (by kernel_rfl) (by kernel_rfl)
set_option maxRecDepth 100000 in
theorem lifted (os : Os) (started : os.Started) (H : Type) (enc : TypeId × Value → H) :
    ReturnsInHanded {} Tryd.checked os 5 .any (fun w args => (Rows.blockPartsSpec.pre enc Tryd.prog Tryd.f5 [] false w args ∧ laidMetH Tryd.prog Rows.blockPartsRow.laid w) ∧ sizedMet enc Tryd.prog Tryd.f5 (OpenSpec.ofChange Rows.blockPartsSpec) false w args)
      (Rows.blockPartsSpec.post enc Tryd.prog Tryd.f5 false true false false) := by
  refine returnsInHanded_of_change_and (C := Tryd.checked) (X := fun w _ => laidMetH Tryd.prog Rows.blockPartsRow.laid w) (fun _ _ _ hh h => h.of_heap hh) Fr.own started (by kernel_rfl) Tryd.func5
    (ChangeSpec.witness_shaped (enc := enc) (C := Tryd.checked) (os := os) (X := fun w _ => laidMetH Tryd.prog Rows.blockPartsRow.laid w) false (World.doorLaid Tryd.prog 400 os) #[.agg #[.int .i64 0, .int .i64 0], .slice none 0 0, .agg #[.int .i64 0, .int .i64 0, .int .i64 0, .int .i64 0], .int .u64 0] 8 rfl (World.shaped_of_RefB (by kernel_rfl) (by kernel_rfl)) (by kernel_rfl) (by kernel_rfl) (by kernel_rfl) (door_met os _)) ?_
  intro W base args ds gs before hval0 hW _ _ hL _
  have hval : ∀ (j : Nat) t v, Tryd.f5.params[j]? = some t → args[j]? = some v → Value.okWide Tryd.prog W .any base t v := hval0
  have hW' := hW
  obtain ⟨p, q, hA0, hV, rfl, hfz, hnd⟩ := hW
  have hA : DataW.TrodAll enc Tryd.prog W 0 (fun _ => true) true Tryd.f5.params.toList args.toList ds p := hA0
  obtain ⟨rfl, rfl⟩ := trodVars_none hV
  rw [Tryd.params5] at hA hval
  obtain ⟨v0, vs0, d0, ds0, p0, q0, hargs, rfl, rfl, h0, r0⟩ := trodAll_cons hA
  obtain ⟨v1, vs1, d1, ds1, p1, q1, rfl, rfl, rfl, h1, r1⟩ := trodAll_cons r0
  obtain ⟨v2, vs2, d2, ds2, p2, q2, rfl, rfl, rfl, h2, r2⟩ := trodAll_cons r1
  obtain ⟨v3, vs3, d3, ds3, p3, q3, rfl, rfl, rfl, h3, r3⟩ := trodAll_cons r2
  obtain ⟨rfl, rfl, rfl⟩ := trodAll_nil r3
  obtain rfl : args = #[v0, v1, v2, v3] := by cases args; simp_all
  obtain ⟨a0, b0, rfl, rfl⟩ := Vw.open_shape (hval 0 23 v0 rfl rfl) h0
  obtain ⟨A1, n1, c1, rfl⟩ := okWide_slice Tryd.underlying24 (hval 1 24 v1 rfl rfl)
  obtain ⟨fuel1, hf1⟩ := h1
  obtain ⟨xs1, rfl, lc1, lm1, R1⟩ := Ww.open_words hf1
  obtain ⟨a2, b2, r2', c2', rfl, rfl, rb2, cb2⟩ := Td.open_tile (hval 2 45 v2 rfl rfl) h2
  obtain ⟨a3, rfl, rfl, rfl, w3⟩ := open_int Tryd.underlying37 (hval 3 37 v3 rfl rfl) h3
  have b3 : 0 ≤ a3 ∧ a3 ≤ 18446744073709551615 := by simpa [Lit.wf, IntKind.min, IntKind.max, IntKind.signed, IntKind.bits] using w3
  obtain ⟨x3, rfl⟩ := Int.eq_ofNat_of_zero_le b3.1
  simp only [List.append_nil] at hW' hA0
  refine (walk a0 b0 A1 xs1.length c1 xs1 a2 b2 r2' c2' x3 rfl (by omega) W (of_laid hL) R1).mono fun e W' ⟨he, hb⟩ => ?_
  subst he
  exact ⟨_, rfl, Fr.law_post (tb := 4) hW' hA0 rfl rfl rfl Tryd.underlying4 (by rw [Tryd.params5]; intro t ht; simp at ht; rcases ht with rfl | rfl | rfl | rfl; all_goals exact ⟨by kernel_rfl, of_decide_eq_true (by kernel_rfl)⟩) hb⟩

theorem row_holds : Rows.BlockPartsSaid :=
  OpenClaim.holds_of_wide 5 Tryd.f5 rfl rfl rfl rfl rfl rfl rfl ⟨rfl, rfl, rfl, rfl, rfl⟩ rfl rfl rfl rfl rfl (by kernel_rfl) Tryd.func5 (by kernel_rfl)
    (of_decide_eq_true (by kernel_rfl)) (by unfold Func.isWrapper; first | (rw [if_pos (by decide +kernel)]; kernel_rfl) | (rw [if_neg (by decide +kernel)]; exact ⟨rfl, rfl⟩))
    (fun os started H enc _ => lifted os started H enc)

theorem proved : Rows.BlockPartsCardSaid :=
  Claim7.holds_tied_plain_at .later [] [.data, .data] true Rows.blockPartsCard.stood.harness false
    row_holds (fun _ h => by cases h) (by kernel_rfl) (fun _ h => by cases h) blockParts_row_tie rfl ⟨rfl, rfl⟩ (by kernel_rfl) rfl
    (fun f fn hf hfn => by
      obtain rfl : f = 5 := Option.some.inj ((show Tryd.prog.funcNamed "abacist/abacistlaw12.BlockParts" = some 5 by kernel_rfl).symm.trans hf) |>.symm
      obtain rfl : fn = Tryd.f5 := (Option.some.inj (Tryd.func5.symm.trans hfn)).symm
      exact ⟨by kernel_rfl, fun j t ht => by
        rw [Tryd.params5] at ht
        have hm : t ∈ [23, 24, 45, 37] := by simpa using Array.mem_of_getElem? ht
        have hall : ([23, 24, 45, 37].all fun u => !Tryd.prog.wantsStandIn u) = true := by kernel_rfl
        exact (show Tryd.prog.wantsStandIn t = false by simpa using List.all_eq_true.1 hall t hm)⟩)
    (by kernel_rfl)
end Go.Proofs.YtobpjlgiefnmjaaDoor.blockParts
