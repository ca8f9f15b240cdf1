/- QuartersRun: of every row, exponent, direction and way the law of transforms in their place answers true, and changes nothing, where the library's two tables are as their initialisers lay them (the card ties them to the program's text). -/
import Derived.Test.YtfkhnfaammfbeaaDoorFrame
import Derived.Test.YtfkhnfaammfbeaaDoorKernG
import Derived.Test.YtfkhnfaammfbeaaDoorQuartE
import Derived.Test.YtfkhnfaammfbeaaDoorQuartW
import Derived.Test.YtfkhnfaammfbeaaDoorTie
import Derived.Test.YtfkhnfaammfbeaaDoorCards
import Derived.Lib.LaidTab
import Derived.LaidMore
import Derived.Stop.Joined
import Derived.SevenTiedAt
set_option linter.unusedVariables false
namespace Go.Proofs.YtfkhnfaammfbeaaDoor.quartersRun
open Go.ChangeShapes Go.WideShapes Go.ChangeAt Go.RowKit
open Kn Td Tn Ww Pl

set_option maxHeartbeats 1000000 in
set_option maxRecDepth 100000 in
theorem walk_long (A : Option Addr) (ca n : Nat) (k d : Int) (q : Bool) (hl : 64 < n) (w : World) (hT : Ft.Tab w) :
    Calls Tryd.prog 3 #[.slice A n ca, .int .i64 k, .int .i64 d, .bool q] w fun e w' => e = .returned (.bool true) ∧ Below w.heap.size w w' := by
  have h1 : 64 < (n : Int) := by omega
  go_enter Tryd.func3, Tryd.ntmps3
  go_wp2_with fail
  refine (Kq.awake _).mono ?_
  rintro e w1 ⟨rfl, c1⟩
  go_wp2
  go_ret
  exact ⟨by simp [go_sem], c1⟩

set_option maxHeartbeats 1000000 in
set_option maxRecDepth 100000 in
theorem walk_mid (A : Option Addr) (ca n : Nat) (k d : Int) (q : Bool) (hl : n ≤ 64) (h6 : 6 < k) (h20 : k ≤ 20) (w : World) (hT : Ft.Tab w) :
    Calls Tryd.prog 3 #[.slice A n ca, .int .i64 k, .int .i64 d, .bool q] w fun e w' => e = .returned (.bool true) ∧ Below w.heap.size w w' := by
  have h1 : ¬ 64 < (n : Int) := by omega
  go_enter Tryd.func3, Tryd.ntmps3
  go_wp2_with fail
  refine (Kq.awake _).mono ?_
  rintro e w1 ⟨rfl, c1⟩
  go_wp2
  go_ret
  exact ⟨by simp [go_sem], c1⟩

set_option maxHeartbeats 1000000 in
set_option maxRecDepth 100000 in
theorem walk_low (A : Option Addr) (ca n : Nat) (k d : Int) (q : Bool) (hl : n ≤ 64) (h0 : k < 0) (w : World) (hT : Ft.Tab w) :
    Calls Tryd.prog 3 #[.slice A n ca, .int .i64 k, .int .i64 d, .bool q] w fun e w' => e = .returned (.bool true) ∧ Below w.heap.size w w' := by
  have h1 : ¬ 64 < (n : Int) := by omega
  have h6 : ¬ 6 < k := by omega
  have N := Lib.hid (fun W => Kq.new_bad k (Or.inl h0) W)
  go_enter Tryd.func3, Tryd.ntmps3
  go_wp2_with fail
  refine (Kq.awake _).mono ?_
  rintro e w1 ⟨rfl, c1⟩
  go_wp2_with fail
  refine (N.out _).mono ?_
  rintro e w' ⟨rfl, rfl⟩
  go_wp2
  go_ret
  exact ⟨by simp [go_sem], c1⟩

set_option maxHeartbeats 1000000 in
set_option maxRecDepth 100000 in
theorem walk_high (A : Option Addr) (ca n : Nat) (k d : Int) (q : Bool) (hl : n ≤ 64) (h0 : 20 < k) (w : World) (hT : Ft.Tab w) :
    Calls Tryd.prog 3 #[.slice A n ca, .int .i64 k, .int .i64 d, .bool q] w fun e w' => e = .returned (.bool true) ∧ Below w.heap.size w w' := by
  have h1 : ¬ 64 < (n : Int) := by omega
  have h6 : 6 < k := by omega
  have h20 : ¬ k ≤ 20 := by omega
  have k0 : ¬ k < 0 := by omega
  have N := Lib.hid (fun W => Kq.new_bad k (Or.inr h0) W)
  go_enter Tryd.func3, Tryd.ntmps3
  go_wp2_with fail
  refine (Kq.awake _).mono ?_
  rintro e w1 ⟨rfl, c1⟩
  go_wp2_with fail
  refine (N.out _).mono ?_
  rintro e w' ⟨rfl, rfl⟩
  go_wp2
  go_ret
  exact ⟨by simp [go_sem], c1⟩

set_option maxHeartbeats 1000000 in
set_option maxRecDepth 100000 in
theorem walk_len_f (A : Option Addr) (ca n : Nat) (xs : List Nat) (k : Nat) (d : Int) (hl : n ≤ 64) (hk : k ≤ 6) (hn : n ≠ 2 ^ k) (hx : xs.length = n) (hA : A = none → ca = 0) (w : World) (hT : Ft.Tab w) (R : Ws w w.heap.size A xs) :
    Calls Tryd.prog 3 #[.slice A n ca, .int .i64 (k : Int), .int .i64 d, .bool false] w fun e w' => e = .returned (.bool true) ∧ Below w.heap.size w w' := by
  have h1 : ¬ 64 < (n : Int) := by omega
  have k0 : ¬ (k : Int) < 0 := by omega
  have k6 : ¬ 6 < (k : Int) := by omega
  have k20 : ¬ 20 < (k : Int) := by omega
  have s1 := Bt.pow_i64 k (by omega)
  have s2 := Bt.wrapN k (by omega)
  have NE := Lib.hid (fun W => Kq.new k (by omega) W)
  have HXE := Lib.hid (show Value.slice A n ca = Value.slice A xs.length ca by rw [hx])
  have HX := Lib.hid hx
  have HA := Lib.hid hA
  have RL := Lib.hid R.lt
  have R := Lib.hid R
  have HT := Lib.hid hT
  have RU := Lib.hid (fun (w : World) p p2 bf bi bp b (Z : Kq.Kf w b k p p2 bf bi bp) A ca => Kq.run_len k (by omega) Z A n ca d hn)
  have PL := Lib.hid (fun (w : World) p p2 bf bi bp b (Z : Kq.Kf w b k p p2 bf bi bp) A ca => Kq.plain_len k (by omega) Z A n ca d hn)
  have SM := Lib.hid (fun (A B : Option Addr) ca cb W Ra Rb => Sm.same A B n n ca cb xs hx.symm hx.symm (by omega) W Ra Rb)
  obtain ⟨N, hN⟩ : ∃ N, N = 2 ^ k := ⟨_, rfl⟩
  rw [← hN] at s1 hn
  have ne : ((n : Int) != (N : Int)) = true := by simp; omega
  clear hN hn hx hA hT
  go_enter Tryd.func3, Tryd.ntmps3
  go_wp2_with fail
  refine (Kq.awake _).mono ?_
  rintro e w1 ⟨rfl, c1⟩
  go_wp2_with fail
  refine (NE.out _).mono ?_
  rintro e w2 ⟨p, p2, bf, bi, bp, rfl, Z, d2⟩
  have c2 := c1.trans (d2.mono c1.size)
  have y0 := Z.c.c0
  go_wp2_with fail
  refine (kOf Z.z.c).mono ?_
  rintro e w' ⟨rfl, rfl⟩
  have O3 := Lib.hid (Ow.fresh w2 w2.heap.size (Nat.le_refl _))
  have RA3 := Lib.hid ((R.out.step c2).alloc (Nat.le_refl _) (.cells #[] 28))
  have BA3 := Lib.hid (below_alloc w2 (.cells #[] 28))
  go_wp2_with (at_builtin; (refine append_all (w2.alloc (.cells #[] 28)) ?hgd (.tmp 49) (.tmp 50) ?ho w2.heap.size (.slice (some ⟨w2.heap.size, 0, none⟩) 0 0) [] ?hs O3.out w2.heap.size A ca xs ?hx RA3.out HA.out ?c1 ?c2 (fun v3 w3 OO hg => ?_)); (case hgd => rfl); (case ho => rfl); (case hs => rfl); (case hx => exact HXE.out))
  case c1 => have := HX.out; simp only [List.length_nil]; omega
  case c2 => simp
  obtain ⟨A3, k3, rfl, Y3, d3⟩ := copied HX.out RL.out O3.out BA3.out OO hg
  have c3 := c2.trans (d3.mono c2.size)
  have z3 := d3
  clear O3 RA3 BA3 OO hg d3
  go_wp2_with fail
  refine (RU.out _ _ _ _ _ _ _ (Z.below z3) _ _).mono ?_
  rintro e w' ⟨rfl, rfl⟩
  go_wp2_with fail
  refine (SM.out _ _ _ _ _ Y3 (R.out.step c3)).mono ?_
  rintro e w4 ⟨rfl, d4⟩
  have c4 := c3.trans (d4.mono c3.size)
  clear c1 c2 c3 d4 d2 z3 Y3 Z
  go_wp2
  go_ret
  exact ⟨by simp [go_sem], c4⟩

set_option maxHeartbeats 1000000 in
set_option maxRecDepth 100000 in
theorem walk_kind_f (A : Option Addr) (ca n : Nat) (xs : List Nat) (k : Nat) (d : Int) (hl : n ≤ 64) (hk : k ≤ 6) (hn : n = 2 ^ k) (h0 : d ≠ 0) (h1 : d ≠ 1) (hx : xs.length = n) (hA : A = none → ca = 0) (w : World) (hT : Ft.Tab w) (R : Ws w w.heap.size A xs) :
    Calls Tryd.prog 3 #[.slice A n ca, .int .i64 (k : Int), .int .i64 d, .bool false] w fun e w' => e = .returned (.bool true) ∧ Below w.heap.size w w' := by
  have g1 : ¬ 64 < (n : Int) := by omega
  have k0 : ¬ (k : Int) < 0 := by omega
  have k6 : ¬ 6 < (k : Int) := by omega
  have k20 : ¬ 20 < (k : Int) := by omega
  have s1 := Bt.pow_i64 k (by omega)
  have s2 := Bt.wrapN k (by omega)
  have NE := Lib.hid (fun W => Kq.new k (by omega) W)
  have HXE := Lib.hid (show Value.slice A n ca = Value.slice A xs.length ca by rw [hx])
  have HX := Lib.hid hx
  have HA := Lib.hid hA
  have RL := Lib.hid R.lt
  have R := Lib.hid R
  have HT := Lib.hid hT
  have RU := Lib.hid (fun (w : World) p p2 bf bi bp b (Z : Kq.Kf w b k p p2 bf bi bp) A ca => Kq.run_kind k (by omega) Z A n ca d hn h0 h1)
  have PL := Lib.hid (fun (w : World) p p2 bf bi bp b (Z : Kq.Kf w b k p p2 bf bi bp) A ca => Kq.plain_kind k (by omega) Z A n ca d hn h0 h1)
  have SM := Lib.hid (fun (A B : Option Addr) ca cb W Ra Rb => Sm.same A B n n ca cb xs hx.symm hx.symm (by omega) W Ra Rb)
  have d0 : (d != 0) = true := by simp [h0]
  have d1 : (d != 1) = true := by simp [h1]
  rw [← hn] at s1
  clear h0 h1 hn hx hA hT
  go_enter Tryd.func3, Tryd.ntmps3
  go_wp2_with fail
  refine (Kq.awake _).mono ?_
  rintro e w1 ⟨rfl, c1⟩
  go_wp2_with fail
  refine (NE.out _).mono ?_
  rintro e w2 ⟨p, p2, bf, bi, bp, rfl, Z, d2⟩
  have c2 := c1.trans (d2.mono c1.size)
  have y0 := Z.c.c0
  go_wp2_with fail
  refine (kOf Z.z.c).mono ?_
  rintro e w' ⟨rfl, rfl⟩
  have O3 := Lib.hid (Ow.fresh w2 w2.heap.size (Nat.le_refl _))
  have RA3 := Lib.hid ((R.out.step c2).alloc (Nat.le_refl _) (.cells #[] 28))
  have BA3 := Lib.hid (below_alloc w2 (.cells #[] 28))
  go_wp2_with (at_builtin; (refine append_all (w2.alloc (.cells #[] 28)) ?hgd (.tmp 49) (.tmp 50) ?ho w2.heap.size (.slice (some ⟨w2.heap.size, 0, none⟩) 0 0) [] ?hs O3.out w2.heap.size A ca xs ?hx RA3.out HA.out ?c1 ?c2 (fun v3 w3 OO hg => ?_)); (case hgd => rfl); (case ho => rfl); (case hs => rfl); (case hx => exact HXE.out))
  case c1 => have := HX.out; simp only [List.length_nil]; omega
  case c2 => simp
  obtain ⟨A3, k3, rfl, Y3, d3⟩ := copied HX.out RL.out O3.out BA3.out OO hg
  have c3 := c2.trans (d3.mono c2.size)
  have z3 := d3
  clear O3 RA3 BA3 OO hg d3
  go_wp2_with fail
  refine (RU.out _ _ _ _ _ _ _ (Z.below z3) _ _).mono ?_
  rintro e w' ⟨rfl, rfl⟩
  go_wp2_with fail
  refine (SM.out _ _ _ _ _ Y3 (R.out.step c3)).mono ?_
  rintro e w4 ⟨rfl, d4⟩
  have c4 := c3.trans (d4.mono c3.size)
  clear c1 c2 c3 d4 d2 z3 Y3 Z
  go_wp2
  go_ret
  exact ⟨by simp [go_sem], c4⟩

set_option maxHeartbeats 1000000 in
set_option maxRecDepth 100000 in
theorem walk_in_f (A : Option Addr) (ca n : Nat) (xs : List Nat) (k d : Nat) (hl : n ≤ 64) (hk : k ≤ 6) (hd : d ≤ 1) (hn : n = 2 ^ k) (hx : xs.length = n) (hA : A = none → ca = 0) (w : World) (hT : Ft.Tab w) (R : Ws w w.heap.size A xs) :
    Calls Tryd.prog 3 #[.slice A n ca, .int .i64 (k : Int), .int .i64 (d : Int), .bool false] w fun e w' => e = .returned (.bool true) ∧ Below w.heap.size w w' := by
  have h1 : ¬ 64 < (n : Int) := by omega
  have k0 : ¬ (k : Int) < 0 := by omega
  have k6 : ¬ 6 < (k : Int) := by omega
  have k20 : ¬ 20 < (k : Int) := by omega
  have s1 := Bt.pow_i64 k (by omega)
  have s2 := Bt.wrapN k (by omega)
  have NE := Lib.hid (fun W => Kq.new k (by omega) W)
  have HXE := Lib.hid (show Value.slice A n ca = Value.slice A xs.length ca by rw [hx])
  have HX := Lib.hid hx
  have HA := Lib.hid hA
  have RL := Lib.hid R.lt
  have R := Lib.hid R
  have HT := Lib.hid hT
  have N0 := Lib.hid (show 0 < n by rw [hn]; exact Nat.two_pow_pos k)
  have LT : ∀ i, i < n → Pn.pl xs i < 18446744073709551616 := fun i hi => R.out.lt i (by omega)
  have RU := Lib.hid (fun (w : World) p p2 bf bi bp b ca T (Z : Kq.Kf w b k p p2 bf bi bp) J hc => Kq.run k d (by omega) hd b n ca hn hc (Pn.pl xs) LT T Z J)
  have PL := Lib.hid (fun (w : World) p p2 bf bi bp b ca T (Z : Kq.Kf w b k p p2 bf bi bp) J hc => Kq.plain k d (by omega) hd b n ca hn hc (Pn.pl xs) LT T Z J)
  have G1 := Lib.hid (ft_lt k d (Pn.pl xs))
  have G2 := Lib.hid (fun j => tf_lt (Pn.pl xs) n (rd k d) j)
  have TR := Lib.hid (fun W R => rtransform A ca n k d xs hx (by omega) (by omega) hd hn W R)
  have DF := Lib.hid (fun W R => rdft A ca n k d xs hx (by omega) (by omega) hd W R)
  have SG := Lib.hid (fun (g h : Nat → Nat) (e : ∀ i, i < n → g i = h i) (A B : Option Addr) (ca cb : Nat) W Ra Rb => same_rg (n := n) e (by omega) A B ca cb W Ra Rb)
  have DD : d = 0 ∨ d = 1 := by omega
  rw [← hn] at s1
  generalize ft k d (Pn.pl xs) = g1 at *
  generalize tf (Pn.pl xs) n (rd k d) = g2 at *
  clear LT hd hn hx hk hl hA hT
  rcases DD with rfl | rfl
  · skip
    go_enter Tryd.func3, Tryd.ntmps3
    go_wp2_with fail
    refine (Kq.awake _).mono ?_
    rintro e w1 ⟨rfl, c1⟩
    go_wp2_with fail
    refine (NE.out _).mono ?_
    rintro e w2 ⟨p, p2, bf, bi, bp, rfl, Z, d2⟩
    have c2 := c1.trans (d2.mono c1.size)
    have y0 := Z.c.c0
    go_wp2_with fail
    refine (kOf Z.z.c).mono ?_
    rintro e w' ⟨rfl, rfl⟩
    have O3 := Lib.hid (Ow.fresh w2 w2.heap.size (Nat.le_refl _))
    have RA3 := Lib.hid ((R.out.step c2).alloc (Nat.le_refl _) (.cells #[] 28))
    have BA3 := Lib.hid (below_alloc w2 (.cells #[] 28))
    go_wp2_with (at_builtin; (refine append_all (w2.alloc (.cells #[] 28)) ?hgd (.tmp 49) (.tmp 50) ?ho w2.heap.size (.slice (some ⟨w2.heap.size, 0, none⟩) 0 0) [] ?hs O3.out w2.heap.size A ca xs ?hx RA3.out HA.out ?c1 ?c2 (fun v3 w3 OO hg => ?_)); (case hgd => rfl); (case ho => rfl); (case hs => rfl); (case hx => exact HXE.out))
    case c1 => have := HX.out; simp only [List.length_nil]; omega
    case c2 => simp
    obtain ⟨b3, k3, rfl, hk3, hb3, J3, d3⟩ := copied_wk HX.out N0.out O3.out BA3.out OO hg
    have c3 := c2.trans (d3.mono c2.size)
    have z3 := d3
    clear O3 RA3 BA3 OO hg d3
    have U := Lib.hid (RU.out w3 p p2 bf bi bp b3 k3 (HT.out.below c3) ((Z.below z3).more hb3) J3 hk3)
    clear J3
    go_wp2_with fail
    refine U.out.mono ?_
    rintro e w4 ⟨rfl, J4⟩
    have c4 := c3.trans (J4.bel.mono (Nat.le_trans c2.size hb3))
    have z4 := z3.trans (J4.bel.mono hb3)
    clear U RU
    have V4 := wk_ws J4.k G1.out J4.s
    clear J4
    go_wp2_with fail
    refine (TR.out _ (R.out.step c4)).mono ?_
    rintro e w5 ⟨A5, k5, rfl, V5, d5⟩
    have c5 := c4.trans (d5.mono c4.size)
    have Y5 := V4.step d5
    clear d5 V4
    go_wp2_with fail
    refine (SG.out _ _ (fun _ _ => rfl) _ _ _ _ _ Y5 V5).mono ?_
    rintro e w6 ⟨rfl, d6⟩
    have c6 := c5.trans (d6.mono c5.size)
    clear c1 c2 c3 c4 c5 d6 d2 z3 z4 Y5 V5 Z
    go_wp2
    go_ret
    exact ⟨by simp [go_sem], c6⟩
  · skip
    go_enter Tryd.func3, Tryd.ntmps3
    go_wp2_with fail
    refine (Kq.awake _).mono ?_
    rintro e w1 ⟨rfl, c1⟩
    go_wp2_with fail
    refine (NE.out _).mono ?_
    rintro e w2 ⟨p, p2, bf, bi, bp, rfl, Z, d2⟩
    have c2 := c1.trans (d2.mono c1.size)
    have y0 := Z.c.c0
    go_wp2_with fail
    refine (kOf Z.z.c).mono ?_
    rintro e w' ⟨rfl, rfl⟩
    have O3 := Lib.hid (Ow.fresh w2 w2.heap.size (Nat.le_refl _))
    have RA3 := Lib.hid ((R.out.step c2).alloc (Nat.le_refl _) (.cells #[] 28))
    have BA3 := Lib.hid (below_alloc w2 (.cells #[] 28))
    go_wp2_with (at_builtin; (refine append_all (w2.alloc (.cells #[] 28)) ?hgd (.tmp 49) (.tmp 50) ?ho w2.heap.size (.slice (some ⟨w2.heap.size, 0, none⟩) 0 0) [] ?hs O3.out w2.heap.size A ca xs ?hx RA3.out HA.out ?c1 ?c2 (fun v3 w3 OO hg => ?_)); (case hgd => rfl); (case ho => rfl); (case hs => rfl); (case hx => exact HXE.out))
    case c1 => have := HX.out; simp only [List.length_nil]; omega
    case c2 => simp
    obtain ⟨b3, k3, rfl, hk3, hb3, J3, d3⟩ := copied_wk HX.out N0.out O3.out BA3.out OO hg
    have c3 := c2.trans (d3.mono c2.size)
    have z3 := d3
    clear O3 RA3 BA3 OO hg d3
    have U := Lib.hid (RU.out w3 p p2 bf bi bp b3 k3 (HT.out.below c3) ((Z.below z3).more hb3) J3 hk3)
    clear J3
    go_wp2_with fail
    refine U.out.mono ?_
    rintro e w4 ⟨rfl, J4⟩
    have c4 := c3.trans (J4.bel.mono (Nat.le_trans c2.size hb3))
    have z4 := z3.trans (J4.bel.mono hb3)
    clear U RU
    have V4 := wk_ws J4.k G1.out J4.s
    clear J4
    go_wp2_with fail
    refine (TR.out _ (R.out.step c4)).mono ?_
    rintro e w5 ⟨A5, k5, rfl, V5, d5⟩
    have c5 := c4.trans (d5.mono c4.size)
    have Y5 := V4.step d5
    clear d5 V4
    go_wp2_with fail
    refine (SG.out _ _ (fun _ _ => rfl) _ _ _ _ _ Y5 V5).mono ?_
    rintro e w6 ⟨rfl, d6⟩
    have c6 := c5.trans (d6.mono c5.size)
    clear c1 c2 c3 c4 c5 d6 d2 z3 z4 Y5 V5 Z
    go_wp2
    go_ret
    exact ⟨by simp [go_sem], c6⟩

set_option maxHeartbeats 1000000 in
set_option maxRecDepth 100000 in
theorem walk_len_t (A : Option Addr) (ca n : Nat) (xs : List Nat) (k : Nat) (d : Int) (hl : n ≤ 64) (hk : k ≤ 6) (hn : n ≠ 2 ^ k) (hx : xs.length = n) (hA : A = none → ca = 0) (w : World) (hT : Ft.Tab w) (R : Ws w w.heap.size A xs) :
    Calls Tryd.prog 3 #[.slice A n ca, .int .i64 (k : Int), .int .i64 d, .bool true] w fun e w' => e = .returned (.bool true) ∧ Below w.heap.size w w' := by
  have h1 : ¬ 64 < (n : Int) := by omega
  have k0 : ¬ (k : Int) < 0 := by omega
  have k6 : ¬ 6 < (k : Int) := by omega
  have k20 : ¬ 20 < (k : Int) := by omega
  have s1 := Bt.pow_i64 k (by omega)
  have s2 := Bt.wrapN k (by omega)
  have NE := Lib.hid (fun W => Kq.new k (by omega) W)
  have HXE := Lib.hid (show Value.slice A n ca = Value.slice A xs.length ca by rw [hx])
  have HX := Lib.hid hx
  have HA := Lib.hid hA
  have RL := Lib.hid R.lt
  have R := Lib.hid R
  have HT := Lib.hid hT
  have RU := Lib.hid (fun (w : World) p p2 bf bi bp b (Z : Kq.Kf w b k p p2 bf bi bp) A ca => Kq.run_len k (by omega) Z A n ca d hn)
  have PL := Lib.hid (fun (w : World) p p2 bf bi bp b (Z : Kq.Kf w b k p p2 bf bi bp) A ca => Kq.plain_len k (by omega) Z A n ca d hn)
  have SM := Lib.hid (fun (A B : Option Addr) ca cb W Ra Rb => Sm.same A B n n ca cb xs hx.symm hx.symm (by omega) W Ra Rb)
  obtain ⟨N, hN⟩ : ∃ N, N = 2 ^ k := ⟨_, rfl⟩
  rw [← hN] at s1 hn
  have ne : ((n : Int) != (N : Int)) = true := by simp; omega
  clear hN hn hx hA hT
  go_enter Tryd.func3, Tryd.ntmps3
  go_wp2_with fail
  refine (Kq.awake _).mono ?_
  rintro e w1 ⟨rfl, c1⟩
  go_wp2_with fail
  refine (NE.out _).mono ?_
  rintro e w2 ⟨p, p2, bf, bi, bp, rfl, Z, d2⟩
  have c2 := c1.trans (d2.mono c1.size)
  have y0 := Z.c.c0
  go_wp2_with fail
  refine (kOf Z.z.c).mono ?_
  rintro e w' ⟨rfl, rfl⟩
  have O3 := Lib.hid (Ow.fresh w2 w2.heap.size (Nat.le_refl _))
  have RA3 := Lib.hid ((R.out.step c2).alloc (Nat.le_refl _) (.cells #[] 28))
  have BA3 := Lib.hid (below_alloc w2 (.cells #[] 28))
  go_wp2_with (at_builtin; (refine append_all (w2.alloc (.cells #[] 28)) ?hgd (.tmp 49) (.tmp 50) ?ho w2.heap.size (.slice (some ⟨w2.heap.size, 0, none⟩) 0 0) [] ?hs O3.out w2.heap.size A ca xs ?hx RA3.out HA.out ?c1 ?c2 (fun v3 w3 OO hg => ?_)); (case hgd => rfl); (case ho => rfl); (case hs => rfl); (case hx => exact HXE.out))
  case c1 => have := HX.out; simp only [List.length_nil]; omega
  case c2 => simp
  obtain ⟨A3, k3, rfl, Y3, d3⟩ := copied HX.out RL.out O3.out BA3.out OO hg
  have c3 := c2.trans (d3.mono c2.size)
  have z3 := d3
  clear O3 RA3 BA3 OO hg d3
  go_wp2_with fail
  refine (RU.out _ _ _ _ _ _ _ (Z.below z3) _ _).mono ?_
  rintro e w' ⟨rfl, rfl⟩
  have O4 := Lib.hid (Ow.fresh w3 w3.heap.size (Nat.le_refl _))
  have RA4 := Lib.hid ((R.out.step c3).alloc (Nat.le_refl _) (.cells #[] 28))
  have BA4 := Lib.hid (below_alloc w3 (.cells #[] 28))
  go_wp2_with (at_builtin; (refine append_all (w3.alloc (.cells #[] 28)) ?hgd (.tmp 57) (.tmp 58) ?ho w3.heap.size (.slice (some ⟨w3.heap.size, 0, none⟩) 0 0) [] ?hs O4.out w3.heap.size A ca xs ?hx RA4.out HA.out ?c1 ?c2 (fun v4 w4 OO hg => ?_)); (case hgd => rfl); (case ho => rfl); (case hs => rfl); (case hx => exact HXE.out))
  case c1 => have := HX.out; simp only [List.length_nil]; omega
  case c2 => simp
  obtain ⟨A4, k4, rfl, Y4, d4⟩ := copied HX.out RL.out O4.out BA4.out OO hg
  have c4 := c3.trans (d4.mono c3.size)
  have z4 := z3.trans (d4.mono z3.size)
  clear O4 RA4 BA4 OO hg d4
  go_wp2_with fail
  refine (PL.out _ _ _ _ _ _ _ (Z.below z4) _ _).mono ?_
  rintro e w' ⟨rfl, rfl⟩
  go_wp2_with fail
  refine (SM.out _ _ _ _ _ Y4 (R.out.step c4)).mono ?_
  rintro e w5 ⟨rfl, d5⟩
  have c5 := c4.trans (d5.mono c4.size)
  clear c1 c2 c3 c4 d5 d2 z3 z4 Y3 Y4 Z
  go_wp2
  go_ret
  exact ⟨by simp [go_sem], c5⟩

set_option maxHeartbeats 1000000 in
set_option maxRecDepth 100000 in
theorem walk_kind_t (A : Option Addr) (ca n : Nat) (xs : List Nat) (k : Nat) (d : Int) (hl : n ≤ 64) (hk : k ≤ 6) (hn : n = 2 ^ k) (h0 : d ≠ 0) (h1 : d ≠ 1) (hx : xs.length = n) (hA : A = none → ca = 0) (w : World) (hT : Ft.Tab w) (R : Ws w w.heap.size A xs) :
    Calls Tryd.prog 3 #[.slice A n ca, .int .i64 (k : Int), .int .i64 d, .bool true] w fun e w' => e = .returned (.bool true) ∧ Below w.heap.size w w' := by
  have g1 : ¬ 64 < (n : Int) := by omega
  have k0 : ¬ (k : Int) < 0 := by omega
  have k6 : ¬ 6 < (k : Int) := by omega
  have k20 : ¬ 20 < (k : Int) := by omega
  have s1 := Bt.pow_i64 k (by omega)
  have s2 := Bt.wrapN k (by omega)
  have NE := Lib.hid (fun W => Kq.new k (by omega) W)
  have HXE := Lib.hid (show Value.slice A n ca = Value.slice A xs.length ca by rw [hx])
  have HX := Lib.hid hx
  have HA := Lib.hid hA
  have RL := Lib.hid R.lt
  have R := Lib.hid R
  have HT := Lib.hid hT
  have RU := Lib.hid (fun (w : World) p p2 bf bi bp b (Z : Kq.Kf w b k p p2 bf bi bp) A ca => Kq.run_kind k (by omega) Z A n ca d hn h0 h1)
  have PL := Lib.hid (fun (w : World) p p2 bf bi bp b (Z : Kq.Kf w b k p p2 bf bi bp) A ca => Kq.plain_kind k (by omega) Z A n ca d hn h0 h1)
  have SM := Lib.hid (fun (A B : Option Addr) ca cb W Ra Rb => Sm.same A B n n ca cb xs hx.symm hx.symm (by omega) W Ra Rb)
  have d0 : (d != 0) = true := by simp [h0]
  have d1 : (d != 1) = true := by simp [h1]
  rw [← hn] at s1
  clear h0 h1 hn hx hA hT
  go_enter Tryd.func3, Tryd.ntmps3
  go_wp2_with fail
  refine (Kq.awake _).mono ?_
  rintro e w1 ⟨rfl, c1⟩
  go_wp2_with fail
  refine (NE.out _).mono ?_
  rintro e w2 ⟨p, p2, bf, bi, bp, rfl, Z, d2⟩
  have c2 := c1.trans (d2.mono c1.size)
  have y0 := Z.c.c0
  go_wp2_with fail
  refine (kOf Z.z.c).mono ?_
  rintro e w' ⟨rfl, rfl⟩
  have O3 := Lib.hid (Ow.fresh w2 w2.heap.size (Nat.le_refl _))
  have RA3 := Lib.hid ((R.out.step c2).alloc (Nat.le_refl _) (.cells #[] 28))
  have BA3 := Lib.hid (below_alloc w2 (.cells #[] 28))
  go_wp2_with (at_builtin; (refine append_all (w2.alloc (.cells #[] 28)) ?hgd (.tmp 49) (.tmp 50) ?ho w2.heap.size (.slice (some ⟨w2.heap.size, 0, none⟩) 0 0) [] ?hs O3.out w2.heap.size A ca xs ?hx RA3.out HA.out ?c1 ?c2 (fun v3 w3 OO hg => ?_)); (case hgd => rfl); (case ho => rfl); (case hs => rfl); (case hx => exact HXE.out))
  case c1 => have := HX.out; simp only [List.length_nil]; omega
  case c2 => simp
  obtain ⟨A3, k3, rfl, Y3, d3⟩ := copied HX.out RL.out O3.out BA3.out OO hg
  have c3 := c2.trans (d3.mono c2.size)
  have z3 := d3
  clear O3 RA3 BA3 OO hg d3
  go_wp2_with fail
  refine (RU.out _ _ _ _ _ _ _ (Z.below z3) _ _).mono ?_
  rintro e w' ⟨rfl, rfl⟩
  have O4 := Lib.hid (Ow.fresh w3 w3.heap.size (Nat.le_refl _))
  have RA4 := Lib.hid ((R.out.step c3).alloc (Nat.le_refl _) (.cells #[] 28))
  have BA4 := Lib.hid (below_alloc w3 (.cells #[] 28))
  go_wp2_with (at_builtin; (refine append_all (w3.alloc (.cells #[] 28)) ?hgd (.tmp 57) (.tmp 58) ?ho w3.heap.size (.slice (some ⟨w3.heap.size, 0, none⟩) 0 0) [] ?hs O4.out w3.heap.size A ca xs ?hx RA4.out HA.out ?c1 ?c2 (fun v4 w4 OO hg => ?_)); (case hgd => rfl); (case ho => rfl); (case hs => rfl); (case hx => exact HXE.out))
  case c1 => have := HX.out; simp only [List.length_nil]; omega
  case c2 => simp
  obtain ⟨A4, k4, rfl, Y4, d4⟩ := copied HX.out RL.out O4.out BA4.out OO hg
  have c4 := c3.trans (d4.mono c3.size)
  have z4 := z3.trans (d4.mono z3.size)
  clear O4 RA4 BA4 OO hg d4
  go_wp2_with fail
  refine (PL.out _ _ _ _ _ _ _ (Z.below z4) _ _).mono ?_
  rintro e w' ⟨rfl, rfl⟩
  go_wp2_with fail
  refine (SM.out _ _ _ _ _ Y4 (R.out.step c4)).mono ?_
  rintro e w5 ⟨rfl, d5⟩
  have c5 := c4.trans (d5.mono c4.size)
  clear c1 c2 c3 c4 d5 d2 z3 z4 Y3 Y4 Z
  go_wp2
  go_ret
  exact ⟨by simp [go_sem], c5⟩

set_option maxHeartbeats 1000000 in
set_option maxRecDepth 100000 in
theorem walk_in_t (A : Option Addr) (ca n : Nat) (xs : List Nat) (k d : Nat) (hl : n ≤ 64) (hk : k ≤ 6) (hd : d ≤ 1) (hn : n = 2 ^ k) (hx : xs.length = n) (hA : A = none → ca = 0) (w : World) (hT : Ft.Tab w) (R : Ws w w.heap.size A xs) :
    Calls Tryd.prog 3 #[.slice A n ca, .int .i64 (k : Int), .int .i64 (d : Int), .bool true] w fun e w' => e = .returned (.bool true) ∧ Below w.heap.size w w' := by
  have h1 : ¬ 64 < (n : Int) := by omega
  have k0 : ¬ (k : Int) < 0 := by omega
  have k6 : ¬ 6 < (k : Int) := by omega
  have k20 : ¬ 20 < (k : Int) := by omega
  have s1 := Bt.pow_i64 k (by omega)
  have s2 := Bt.wrapN k (by omega)
  have NE := Lib.hid (fun W => Kq.new k (by omega) W)
  have HXE := Lib.hid (show Value.slice A n ca = Value.slice A xs.length ca by rw [hx])
  have HX := Lib.hid hx
  have HA := Lib.hid hA
  have RL := Lib.hid R.lt
  have R := Lib.hid R
  have HT := Lib.hid hT
  have N0 := Lib.hid (show 0 < n by rw [hn]; exact Nat.two_pow_pos k)
  have LT : ∀ i, i < n → Pn.pl xs i < 18446744073709551616 := fun i hi => R.out.lt i (by omega)
  have RU := Lib.hid (fun (w : World) p p2 bf bi bp b ca T (Z : Kq.Kf w b k p p2 bf bi bp) J hc => Kq.run k d (by omega) hd b n ca hn hc (Pn.pl xs) LT T Z J)
  have PL := Lib.hid (fun (w : World) p p2 bf bi bp b ca T (Z : Kq.Kf w b k p p2 bf bi bp) J hc => Kq.plain k d (by omega) hd b n ca hn hc (Pn.pl xs) LT T Z J)
  have G1 := Lib.hid (ft_lt k d (Pn.pl xs))
  have G2 := Lib.hid (fun j => tf_lt (Pn.pl xs) n (rd k d) j)
  have TR := Lib.hid (fun W R => rtransform A ca n k d xs hx (by omega) (by omega) hd hn W R)
  have DF := Lib.hid (fun W R => rdft A ca n k d xs hx (by omega) (by omega) hd W R)
  have SG := Lib.hid (fun (g h : Nat → Nat) (e : ∀ i, i < n → g i = h i) (A B : Option Addr) (ca cb : Nat) W Ra Rb => same_rg (n := n) e (by omega) A B ca cb W Ra Rb)
  have DD : d = 0 ∨ d = 1 := by omega
  rw [← hn] at s1
  generalize ft k d (Pn.pl xs) = g1 at *
  generalize tf (Pn.pl xs) n (rd k d) = g2 at *
  clear LT hd hn hx hk hl hA hT
  rcases DD with rfl | rfl
  · skip
    go_enter Tryd.func3, Tryd.ntmps3
    go_wp2_with fail
    refine (Kq.awake _).mono ?_
    rintro e w1 ⟨rfl, c1⟩
    go_wp2_with fail
    refine (NE.out _).mono ?_
    rintro e w2 ⟨p, p2, bf, bi, bp, rfl, Z, d2⟩
    have c2 := c1.trans (d2.mono c1.size)
    have y0 := Z.c.c0
    go_wp2_with fail
    refine (kOf Z.z.c).mono ?_
    rintro e w' ⟨rfl, rfl⟩
    have O3 := Lib.hid (Ow.fresh w2 w2.heap.size (Nat.le_refl _))
    have RA3 := Lib.hid ((R.out.step c2).alloc (Nat.le_refl _) (.cells #[] 28))
    have BA3 := Lib.hid (below_alloc w2 (.cells #[] 28))
    go_wp2_with (at_builtin; (refine append_all (w2.alloc (.cells #[] 28)) ?hgd (.tmp 49) (.tmp 50) ?ho w2.heap.size (.slice (some ⟨w2.heap.size, 0, none⟩) 0 0) [] ?hs O3.out w2.heap.size A ca xs ?hx RA3.out HA.out ?c1 ?c2 (fun v3 w3 OO hg => ?_)); (case hgd => rfl); (case ho => rfl); (case hs => rfl); (case hx => exact HXE.out))
    case c1 => have := HX.out; simp only [List.length_nil]; omega
    case c2 => simp
    obtain ⟨b3, k3, rfl, hk3, hb3, J3, d3⟩ := copied_wk HX.out N0.out O3.out BA3.out OO hg
    have c3 := c2.trans (d3.mono c2.size)
    have z3 := d3
    clear O3 RA3 BA3 OO hg d3
    have U := Lib.hid (RU.out w3 p p2 bf bi bp b3 k3 (HT.out.below c3) ((Z.below z3).more hb3) J3 hk3)
    clear J3
    go_wp2_with fail
    refine U.out.mono ?_
    rintro e w4 ⟨rfl, J4⟩
    have c4 := c3.trans (J4.bel.mono (Nat.le_trans c2.size hb3))
    have z4 := z3.trans (J4.bel.mono hb3)
    clear U RU
    clear J4
    have O5 := Lib.hid (Ow.fresh w4 w4.heap.size (Nat.le_refl _))
    have RA5 := Lib.hid ((R.out.step c4).alloc (Nat.le_refl _) (.cells #[] 28))
    have BA5 := Lib.hid (below_alloc w4 (.cells #[] 28))
    go_wp2_with (at_builtin; (refine append_all (w4.alloc (.cells #[] 28)) ?hgd (.tmp 57) (.tmp 58) ?ho w4.heap.size (.slice (some ⟨w4.heap.size, 0, none⟩) 0 0) [] ?hs O5.out w4.heap.size A ca xs ?hx RA5.out HA.out ?c1 ?c2 (fun v5 w5 OO hg => ?_)); (case hgd => rfl); (case ho => rfl); (case hs => rfl); (case hx => exact HXE.out))
    case c1 => have := HX.out; simp only [List.length_nil]; omega
    case c2 => simp
    obtain ⟨b5, k5, rfl, hk5, hb5, J5, d5⟩ := copied_wk HX.out N0.out O5.out BA5.out OO hg
    have c5 := c4.trans (d5.mono c4.size)
    have z5 := z4.trans (d5.mono z4.size)
    clear O5 RA5 BA5 OO hg d5
    have U := Lib.hid (PL.out w5 p p2 bf bi bp b5 k5 (HT.out.below c5) ((Z.below z5).more (Nat.le_trans z4.size hb5)) J5 hk5)
    clear J5
    go_wp2_with fail
    refine U.out.mono ?_
    rintro e w6 ⟨rfl, J6⟩
    have c6 := c5.trans (J6.bel.mono (Nat.le_trans c4.size hb5))
    clear U PL
    have V6 := wk_ws J6.k G2.out J6.s
    clear J6
    go_wp2_with fail
    refine (TR.out _ (R.out.step c6)).mono ?_
    rintro e w7 ⟨A7, k7, rfl, V7, d7⟩
    have c7 := c6.trans (d7.mono c6.size)
    have Y7 := V6.step d7
    clear d7 V6 V7
    go_wp2_with fail
    refine (DF.out _ (R.out.step c7)).mono ?_
    rintro e w8 ⟨A8, k8, rfl, V8, d8⟩
    have c8 := c7.trans (d8.mono c7.size)
    have Y8 := Y7.step d8
    clear d8 Y7
    go_wp2_with fail
    refine (SG.out _ _ (fun _ _ => rfl) _ _ _ _ _ Y8 V8).mono ?_
    rintro e w9 ⟨rfl, d9⟩
    have c9 := c8.trans (d9.mono c8.size)
    clear c1 c2 c3 c4 c5 c6 c7 c8 d9 d2 z3 z4 z5 Y8 V8 Z
    go_wp2
    go_ret
    exact ⟨by simp [go_sem], c9⟩
  · skip
    go_enter Tryd.func3, Tryd.ntmps3
    go_wp2_with fail
    refine (Kq.awake _).mono ?_
    rintro e w1 ⟨rfl, c1⟩
    go_wp2_with fail
    refine (NE.out _).mono ?_
    rintro e w2 ⟨p, p2, bf, bi, bp, rfl, Z, d2⟩
    have c2 := c1.trans (d2.mono c1.size)
    have y0 := Z.c.c0
    go_wp2_with fail
    refine (kOf Z.z.c).mono ?_
    rintro e w' ⟨rfl, rfl⟩
    have O3 := Lib.hid (Ow.fresh w2 w2.heap.size (Nat.le_refl _))
    have RA3 := Lib.hid ((R.out.step c2).alloc (Nat.le_refl _) (.cells #[] 28))
    have BA3 := Lib.hid (below_alloc w2 (.cells #[] 28))
    go_wp2_with (at_builtin; (refine append_all (w2.alloc (.cells #[] 28)) ?hgd (.tmp 49) (.tmp 50) ?ho w2.heap.size (.slice (some ⟨w2.heap.size, 0, none⟩) 0 0) [] ?hs O3.out w2.heap.size A ca xs ?hx RA3.out HA.out ?c1 ?c2 (fun v3 w3 OO hg => ?_)); (case hgd => rfl); (case ho => rfl); (case hs => rfl); (case hx => exact HXE.out))
    case c1 => have := HX.out; simp only [List.length_nil]; omega
    case c2 => simp
    obtain ⟨b3, k3, rfl, hk3, hb3, J3, d3⟩ := copied_wk HX.out N0.out O3.out BA3.out OO hg
    have c3 := c2.trans (d3.mono c2.size)
    have z3 := d3
    clear O3 RA3 BA3 OO hg d3
    have U := Lib.hid (RU.out w3 p p2 bf bi bp b3 k3 (HT.out.below c3) ((Z.below z3).more hb3) J3 hk3)
    clear J3
    go_wp2_with fail
    refine U.out.mono ?_
    rintro e w4 ⟨rfl, J4⟩
    have c4 := c3.trans (J4.bel.mono (Nat.le_trans c2.size hb3))
    have z4 := z3.trans (J4.bel.mono hb3)
    clear U RU
    clear J4
    have O5 := Lib.hid (Ow.fresh w4 w4.heap.size (Nat.le_refl _))
    have RA5 := Lib.hid ((R.out.step c4).alloc (Nat.le_refl _) (.cells #[] 28))
    have BA5 := Lib.hid (below_alloc w4 (.cells #[] 28))
    go_wp2_with (at_builtin; (refine append_all (w4.alloc (.cells #[] 28)) ?hgd (.tmp 57) (.tmp 58) ?ho w4.heap.size (.slice (some ⟨w4.heap.size, 0, none⟩) 0 0) [] ?hs O5.out w4.heap.size A ca xs ?hx RA5.out HA.out ?c1 ?c2 (fun v5 w5 OO hg => ?_)); (case hgd => rfl); (case ho => rfl); (case hs => rfl); (case hx => exact HXE.out))
    case c1 => have := HX.out; simp only [List.length_nil]; omega
    case c2 => simp
    obtain ⟨b5, k5, rfl, hk5, hb5, J5, d5⟩ := copied_wk HX.out N0.out O5.out BA5.out OO hg
    have c5 := c4.trans (d5.mono c4.size)
    have z5 := z4.trans (d5.mono z4.size)
    clear O5 RA5 BA5 OO hg d5
    have U := Lib.hid (PL.out w5 p p2 bf bi bp b5 k5 (HT.out.below c5) ((Z.below z5).more (Nat.le_trans z4.size hb5)) J5 hk5)
    clear J5
    go_wp2_with fail
    refine U.out.mono ?_
    rintro e w6 ⟨rfl, J6⟩
    have c6 := c5.trans (J6.bel.mono (Nat.le_trans c4.size hb5))
    clear U PL
    have V6 := wk_ws J6.k G2.out J6.s
    clear J6
    go_wp2_with fail
    refine (TR.out _ (R.out.step c6)).mono ?_
    rintro e w7 ⟨A7, k7, rfl, V7, d7⟩
    have c7 := c6.trans (d7.mono c6.size)
    have Y7 := V6.step d7
    clear d7 V6 V7
    go_wp2_with fail
    refine (DF.out _ (R.out.step c7)).mono ?_
    rintro e w8 ⟨A8, k8, rfl, V8, d8⟩
    have c8 := c7.trans (d8.mono c7.size)
    have Y8 := Y7.step d8
    clear d8 Y7
    go_wp2_with fail
    refine (SG.out _ _ (fun _ _ => rfl) _ _ _ _ _ Y8 V8).mono ?_
    rintro e w9 ⟨rfl, d9⟩
    have c9 := c8.trans (d9.mono c8.size)
    clear c1 c2 c3 c4 c5 c6 c7 c8 d9 d2 z3 z4 z5 Y8 V8 Z
    go_wp2
    go_ret
    exact ⟨by simp [go_sem], c9⟩

theorem walk (A : Option Addr) (ca n : Nat) (xs : List Nat) (k d : Int) (q : Bool) (hx : xs.length = n) (hA : A = none → ca = 0) (w : World) (hT : Ft.Tab w) (R : Ws w w.heap.size A xs) :
    Calls Tryd.prog 3 #[.slice A n ca, .int .i64 k, .int .i64 d, .bool q] w fun e w' => e = .returned (.bool true) ∧ Below w.heap.size w w' := by
  by_cases hl : 64 < n
  · exact walk_long A ca n k d q hl w hT
  by_cases h0 : k < 0
  · exact walk_low A ca n k d q (by omega) h0 w hT
  by_cases h20 : 20 < k
  · exact walk_high A ca n k d q (by omega) h20 w hT
  by_cases h6 : 6 < k
  · exact walk_mid A ca n k d q (by omega) h6 (by omega) w hT
  obtain ⟨kn, rfl⟩ := Int.eq_ofNat_of_zero_le (show 0 ≤ k by omega)
  by_cases hn : n = 2 ^ kn
  · by_cases hd : d ≠ 0 ∧ d ≠ 1
    · cases q
      · exact walk_kind_f A ca n xs kn d (by omega) (by omega) hn hd.1 hd.2 hx hA w hT R
      · exact walk_kind_t A ca n xs kn d (by omega) (by omega) hn hd.1 hd.2 hx hA w hT R
    · obtain ⟨dn, rfl⟩ := Int.eq_ofNat_of_zero_le (show 0 ≤ d by omega)
      cases q
      · exact walk_in_f A ca n xs kn dn (by omega) (by omega) (by omega) hn hx hA w hT R
      · exact walk_in_t A ca n xs kn dn (by omega) (by omega) (by omega) hn hx hA w hT R
  · cases q
    · exact walk_len_f A ca n xs kn d (by omega) (by omega) hn hx hA w hT R
    · exact walk_len_t A ca n xs kn d (by omega) (by omega) hn hx hA w hT R

theorem g32 : Tryd.prog.globalNamed "math/bits.deBruijn32tab" = some 0 := by kernel_rfl
theorem g64 : Tryd.prog.globalNamed "math/bits.deBruijn64tab" = some 1 := by kernel_rfl
theorem t64 : (Tryd.prog.globals[1]?).map (·.type) = some 87 := by kernel_rfl
/-- What the row's condition gives the walk: the table's cells. -/
theorem of_laid {W : World} (h : laidMetH Tryd.prog Rows.quartersRunRow.laid W) : Ft.Tab W := by
  rw [MakeChecks.laidMetH_plain _ _ _ (by kernel_rfl)] at h
  obtain ⟨ps, ⟨g0, t0, cs0, f0, p0, q0, hg0, ht0, hv0, hd0, ⟨g1, t1, cs1, f1, p1, q1, hg1, ht1, hv1, hd1, _, _⟩, _⟩, _, _⟩ := h
  obtain rfl := Option.some.inj (g64.symm.trans hg1)
  obtain rfl := Option.some.inj (t64.symm.trans ht1)
  have hd2 : DataW.trod _ Tryd.prog W 0 _ false f1 87 cs1.toList = some (Lib.tabData .u8 (Lib.deBruijn64tab.map Int.ofNat), p1) := hd1
  have hc := Lib.cells_of_tab Tryd.underlying87 Tryd.underlying5 (by kernel_rfl) (by kernel_rfl) hd2
  intro i hi
  have c := World.var?_cell hg1 hv1 i
  rw [c, ← Array.getElem?_toList, hc]
  have hl : Lib.deBruijn64tab.length = 64 := by decide
  simp [List.getD, hl, hi]

/-- The door's own heap meets the condition. -/
theorem door_met (os : Os) (args : Array Value) : laidMetH Tryd.prog Rows.quartersRunRow.laid ((World.doorLaid Tryd.prog 400 os).forCall (fun _ _ => 0) ⟨#[], args, []⟩).memory :=
  laidMetH_of_parts3 (fuel := 8) (laidMet_of_run' 8 (by kernel_rfl) (by kernel_rfl)) (by kernel_rfl) (by kernel_rfl)
set_option maxRecDepth 100000 in
theorem lifted (os : Os) (started : os.Started) (H : Type) (enc : TypeId × Value → H) :
    ReturnsInHanded {} Tryd.checked os 3 .any (fun w args => (Rows.quartersRunSpec.pre enc Tryd.prog Tryd.f3 [] false w args ∧ laidMetH Tryd.prog Rows.quartersRunRow.laid w) ∧ sizedMet enc Tryd.prog Tryd.f3 (OpenSpec.ofChange Rows.quartersRunSpec) false w args)
      (Rows.quartersRunSpec.post enc Tryd.prog Tryd.f3 false true false false) := by
  refine returnsInHanded_of_change_and (C := Tryd.checked) (X := fun w _ => laidMetH Tryd.prog Rows.quartersRunRow.laid w) (fun _ _ _ hh h => h.of_heap hh) Fr.own started (by kernel_rfl) Tryd.func3
    (ChangeSpec.witness_shaped (enc := enc) (C := Tryd.checked) (os := os) (X := fun w _ => laidMetH Tryd.prog Rows.quartersRunRow.laid w) false (World.doorLaid Tryd.prog 400 os) #[.slice none 0 0, .int .i64 0, .int .i64 0, .bool false] 8 rfl (World.shaped_of_RefB (by kernel_rfl) (by kernel_rfl)) (by kernel_rfl) (by kernel_rfl) (by kernel_rfl) (door_met os _)) ?_
  intro W base args ds gs before hval0 hW _ _ hL _
  have hval : ∀ (j : Nat) t v, Tryd.f3.params[j]? = some t → args[j]? = some v → Value.okWide Tryd.prog W .any base t v := hval0
  have hW' := hW
  obtain ⟨p, q, hA0, hV, rfl, hfz, hnd⟩ := hW
  have hA : DataW.TrodAll enc Tryd.prog W 0 (fun _ => true) true Tryd.f3.params.toList args.toList ds p := hA0
  obtain ⟨rfl, rfl⟩ := trodVars_none hV
  rw [Tryd.params3] at hA hval
  obtain ⟨v0, vs0, d0, ds0, p0, q0, hargs, rfl, rfl, h0, r0⟩ := trodAll_cons hA
  obtain ⟨v1, vs1, d1, ds1, p1, q1, rfl, rfl, rfl, h1, r1⟩ := trodAll_cons r0
  obtain ⟨v2, vs2, d2, ds2, p2, q2, rfl, rfl, rfl, h2, r2⟩ := trodAll_cons r1
  obtain ⟨v3, vs3, d3, ds3, p3, q3, rfl, rfl, rfl, h3, r3⟩ := trodAll_cons r2
  obtain ⟨rfl, rfl, rfl⟩ := trodAll_nil r3
  obtain rfl : args = #[v0, v1, v2, v3] := by cases args; simp_all
  obtain ⟨A0, n0, c0, rfl⟩ := okWide_slice Tryd.underlying22 (hval 0 22 v0 rfl rfl)
  obtain ⟨fuel0, hf0⟩ := h0
  obtain ⟨xs0, rfl, lc0, lm0, R0⟩ := Ww.open_words hf0
  obtain ⟨x1, rfl, rfl, rfl, w1⟩ := open_int Tryd.underlying3 (hval 1 3 v1 rfl rfl) h1
  have b1 : -9223372036854775808 ≤ x1 ∧ x1 ≤ 9223372036854775807 := by simpa [Lit.wf, IntKind.min, IntKind.max, IntKind.signed, IntKind.bits] using w1
  obtain ⟨x2, rfl, rfl, rfl, w2⟩ := open_int Tryd.underlying3 (hval 2 3 v2 rfl rfl) h2
  have b2 : -9223372036854775808 ≤ x2 ∧ x2 ≤ 9223372036854775807 := by simpa [Lit.wf, IntKind.min, IntKind.max, IntKind.signed, IntKind.bits] using w2
  obtain ⟨q3, rfl, rfl, rfl⟩ := Go.RowKit.open_bool Tryd.underlying4 (hval 3 4 v3 rfl rfl) h3
  simp only [List.append_nil] at hW' hA0
  refine (walk A0 c0 xs0.length xs0 x1 x2 q3 rfl (nil_cap hf0) W (of_laid hL) R0).mono fun e W' ⟨he, hb⟩ => ?_
  subst he
  exact ⟨_, rfl, Fr.law_post (tb := 4) hW' hA0 rfl rfl rfl Tryd.underlying4 (by rw [Tryd.params3]; intro t ht; simp at ht; rcases ht with rfl | rfl | rfl | rfl; all_goals exact ⟨by kernel_rfl, of_decide_eq_true (by kernel_rfl)⟩) hb⟩

theorem row_holds : Rows.QuartersRunSaid :=
  OpenClaim.holds_of_wide 3 Tryd.f3 rfl rfl rfl rfl rfl rfl rfl ⟨rfl, rfl, rfl, rfl, rfl⟩ rfl rfl rfl rfl rfl (by kernel_rfl) Tryd.func3 (by kernel_rfl)
    (of_decide_eq_true (by kernel_rfl)) (by unfold Func.isWrapper; first | (rw [if_pos (by decide +kernel)]; kernel_rfl) | (rw [if_neg (by decide +kernel)]; exact ⟨rfl, rfl⟩))
    (fun os started H enc _ => lifted os started H enc)

theorem proved : Rows.QuartersRunCardSaid :=
  Claim7.holds_tied_plain_at .later [] [.data, .data] true Rows.quartersRunCard.stood.harness false
    row_holds (fun _ h => by cases h) (by kernel_rfl) (fun _ h => by cases h) quartersRun_row_tie rfl ⟨rfl, rfl⟩ (by kernel_rfl) rfl
    (fun f fn hf hfn => by
      obtain rfl : f = 3 := Option.some.inj ((show Tryd.prog.funcNamed "abacist/abacistlaw10.QuartersRun" = some 3 by kernel_rfl).symm.trans hf) |>.symm
      obtain rfl : fn = Tryd.f3 := (Option.some.inj (Tryd.func3.symm.trans hfn)).symm
      exact ⟨by kernel_rfl, fun j t ht => by
        rw [Tryd.params3] at ht
        have hm : t ∈ [22, 3, 4] := by simpa using Array.mem_of_getElem? ht
        have hall : ([22, 3, 4].all fun u => !Tryd.prog.wantsStandIn u) = true := by kernel_rfl
        exact (show Tryd.prog.wantsStandIn t = false by simpa using List.all_eq_true.1 hall t hm)⟩)
    (by kernel_rfl)
end Go.Proofs.YtfkhnfaammfbeaaDoor.quartersRun
