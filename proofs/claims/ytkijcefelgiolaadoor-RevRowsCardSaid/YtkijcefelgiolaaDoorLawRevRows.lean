/- RevRows: of every row and number of a digit's bits the law of rows turned about answers true, and changes nothing, where the library's two tables are as their initialisers lay them (the card ties them to the program's text). -/
import Derived.Test.YtkijcefelgiolaaDoorFrame
import Derived.Test.YtkijcefelgiolaaDoorRevP
import Derived.Test.YtkijcefelgiolaaDoorSame
import Derived.Test.YtkijcefelgiolaaDoorTie
import Derived.Test.YtkijcefelgiolaaDoorCards
import Derived.Lib.LaidTab
import Derived.LaidMore
import Derived.Stop.Joined
import Derived.SevenTiedAt
set_option linter.unusedVariables false
namespace Go.Proofs.YtkijcefelgiolaaDoor.revRows
open Go.ChangeShapes Go.WideShapes Go.ChangeAt Go.RowKit
open Rn Rv Ww

set_option maxHeartbeats 1000000 in
set_option maxRecDepth 100000 in
theorem walk_long (A : Option Addr) (ca : Nat) (xs : List Nat) (r : Int) (hl : 256 < xs.length) (hm : xs.length ≤ 9223372036854775807) (w : World) :
    Calls Tryd.prog 3 #[.slice A xs.length ca, .int .i64 r] w fun e w' => e = .returned (.bool true) ∧ Below w.heap.size w w' := by
  have h1 : 256 < (xs.length : Int) := by omega
  go_enter Tryd.func3, Tryd.ntmps3
  go_wp2_with fail
  refine (Rv.awake _).mono ?_
  rintro e w1 ⟨rfl, c1⟩
  go_wp2
  go_ret
  exact ⟨by simp [go_sem], c1⟩

set_option maxHeartbeats 1000000 in
set_option maxRecDepth 100000 in
theorem walk_none (A : Option Addr) (ca : Nat) (xs : List Nat) (r : Int) (hl : xs.length ≤ 256) (h : ∀ j : Nat, j ≤ 32 → (xs.length : Int) ≠ ((2 ^ j : Nat) : Int)) (w : World) :
    Calls Tryd.prog 3 #[.slice A xs.length ca, .int .i64 r] w fun e w' => e = .returned (.bool true) ∧ Below w.heap.size w w' := by
  have h1 : ¬ 256 < (xs.length : Int) := by omega
  have nf := fun W => Ft.fits_none (xs.length : Int) h W
  have NR := Lib.hid (fun W => Ft.ref_any (xs.length : Int) (-1) (fun i hi e => absurd e (h i hi)) (fun _ => rfl) W)
  have T1 := Lib.hid (fun W => turn_none A xs.length ca (by omega) nf W)
  have T2 := Lib.hid (fun W => turnBy_none A xs.length ca r (by omega) nf W)
  clear h nf
  go_enter Tryd.func3, Tryd.ntmps3
  go_wp2_with fail
  refine (Rv.awake _).mono ?_
  rintro e w1 ⟨rfl, c1⟩
  go_wp2_with fail
  refine (NR.out _).mono ?_
  rintro e w2 ⟨rfl, rfl⟩
  go_wp2_with fail
  refine (T1.out _).mono ?_
  rintro e w2 ⟨rfl, rfl⟩
  go_wp2_with fail
  refine (T2.out _).mono ?_
  rintro e w2 ⟨rfl, rfl⟩
  go_wp2
  go_ret
  exact ⟨by simp [go_sem], c1⟩

set_option maxHeartbeats 1000000 in
set_option maxRecDepth 100000 in
theorem walk_low (A : Option Addr) (ca : Nat) (xs : List Nat) (k : Nat) (r : Int) (hr : r < 1) (ho : Odd k r) (hl : xs.length = 2 ^ k) (hx : xs.length ≤ 256) (hk : k ≤ 32) (w : World) (hT : Ft.Tab w) (R : Ws w w.heap.size A xs) :
    Calls Tryd.prog 3 #[.slice A xs.length ca, .int .i64 r] w fun e w' => e = .returned (.bool true) ∧ Below w.heap.size w w' := by
  have h1 : ¬ 256 < (xs.length : Int) := by omega
  have k0 : ¬ (k : Int) < 0 := by omega
  have hpos : 0 < xs.length := by rw [hl]; exact Nat.two_pow_pos k
  have hA : A = none → ca = 0 := fun h => by obtain ⟨b, off, e, _⟩ := R.at_ 0 hpos; rw [h] at e; cases e
  have NR := Lib.hid (fun W => Ft.ref_any ((2 ^ k : Nat) : Int) (k : Int) (fun i hi e => by
      have e2 : 2 ^ k = 2 ^ i := by omega
      rw [Nat.pow_right_inj (a := 2) (by decide) |>.mp e2]) (fun h => absurd rfl (h k hk)) W)
  rw [← hl] at NR
  have L1 : (tl k 1 xs).length = xs.length := tl_len k 1 xs
  have T1 := Lib.hid (fun W T R => turn A ca k xs hl hk W T R)
  have T3 := Lib.hid (fun A1 W T R => turn A1 (tl k 1 xs).length k (tl k 1 xs) (by rw [L1]; exact hl) hk W T R)
  rw [tl_tl k 1 xs hl (Nat.mod_one k)] at T3
  have Q1 := Lib.hid (fun W R => refTurn A ca k 1 xs hA hl hk (by decide) (by decide) (Nat.mod_one k) W R)
  have nf := fun W T => Ft.fits_some k hk W T
  rw [← hl] at nf
  have T2 := Lib.hid (fun W T => turnBy_odd A xs.length ca k r (by omega) nf ho W T)
  clear nf ho
  generalize tl k 1 xs = ys at *
  have HT := Lib.hid hT
  have HL1 := Lib.hid L1
  clear hl hA hT L1
  go_enter Tryd.func3, Tryd.ntmps3
  go_wp2_with fail
  refine (Rv.awake _).mono ?_
  rintro e w1 ⟨rfl, c1⟩
  have X1 := R.step c1
  go_wp2_with fail
  refine (NR.out _).mono ?_
  rintro e w2 ⟨rfl, rfl⟩
  go_wp2_with fail
  refine (T1.out _ (HT.out.below c1) X1).mono ?_
  rintro e w2 ⟨A1, rfl, Y2, _, d2⟩
  have c2 := c1.trans (d2.mono c1.size)
  have X2 := X1.step d2
  clear d2 c1
  go_wp2_with fail
  refine (T2.out _ (HT.out.below c2)).mono ?_
  rintro e w3 ⟨rfl, rfl⟩
  go_wp2_with fail
  refine (T3.out A1 _ (HT.out.below c2) Y2).mono ?_
  rintro e w3 ⟨A3, rfl, U3, _, d3⟩
  have c3 := c2.trans (d3.mono c2.size)
  have X3 := X2.step d3
  have Y3 := Y2.step d3
  clear d3 c2
  go_wp2_with fail
  refine (Q1.out _ X3).mono ?_
  rintro e w4 ⟨A4, cap4, rfl, V4, d4⟩
  have c4 := c3.trans (d4.mono c3.size)
  have X4 := X3.step d4
  have Y4 := Y3.step d4
  have U4 := U3.step d4
  clear d4 c3
  go_wp2_with fail
  refine (Sm.same A1 A4 _ _ _ _ ys rfl rfl (by rw [HL1.out]; omega) _ Y4 V4).mono ?_
  rintro e w5 ⟨rfl, d5⟩
  have c5 := c4.trans (d5.mono c4.size)
  have X5 := X4.step d5
  have Y5 := Y4.step d5
  have U5 := U4.step d5
  have V5 := V4.step d5
  clear d5 c4
  go_wp2_with fail
  refine (Sm.same A3 A _ _ _ _ xs rfl rfl (by omega) _ U5 X5).mono ?_
  rintro e w6 ⟨rfl, d6⟩
  have c6 := c5.trans (d6.mono c5.size)
  have X6 := X5.step d6
  have Y6 := Y5.step d6
  have U6 := U5.step d6
  have V6 := V5.step d6
  clear d6 c5
  go_wp2
  go_ret
  exact ⟨by simp [go_sem], c6⟩

set_option maxHeartbeats 1000000 in
set_option maxRecDepth 100000 in
theorem walk_high (A : Option Addr) (ca : Nat) (xs : List Nat) (k : Nat) (r : Int) (hr : 8 < r) (ho : Odd k r) (hl : xs.length = 2 ^ k) (hx : xs.length ≤ 256) (hk : k ≤ 32) (w : World) (hT : Ft.Tab w) (R : Ws w w.heap.size A xs) :
    Calls Tryd.prog 3 #[.slice A xs.length ca, .int .i64 r] w fun e w' => e = .returned (.bool true) ∧ Below w.heap.size w w' := by
  have h1 : ¬ 256 < (xs.length : Int) := by omega
  have k0 : ¬ (k : Int) < 0 := by omega
  have hpos : 0 < xs.length := by rw [hl]; exact Nat.two_pow_pos k
  have hA : A = none → ca = 0 := fun h => by obtain ⟨b, off, e, _⟩ := R.at_ 0 hpos; rw [h] at e; cases e
  have NR := Lib.hid (fun W => Ft.ref_any ((2 ^ k : Nat) : Int) (k : Int) (fun i hi e => by
      have e2 : 2 ^ k = 2 ^ i := by omega
      rw [Nat.pow_right_inj (a := 2) (by decide) |>.mp e2]) (fun h => absurd rfl (h k hk)) W)
  rw [← hl] at NR
  have L1 : (tl k 1 xs).length = xs.length := tl_len k 1 xs
  have T1 := Lib.hid (fun W T R => turn A ca k xs hl hk W T R)
  have T3 := Lib.hid (fun A1 W T R => turn A1 (tl k 1 xs).length k (tl k 1 xs) (by rw [L1]; exact hl) hk W T R)
  rw [tl_tl k 1 xs hl (Nat.mod_one k)] at T3
  have Q1 := Lib.hid (fun W R => refTurn A ca k 1 xs hA hl hk (by decide) (by decide) (Nat.mod_one k) W R)
  have nf := fun W T => Ft.fits_some k hk W T
  rw [← hl] at nf
  have T2 := Lib.hid (fun W T => turnBy_odd A xs.length ca k r (by omega) nf ho W T)
  clear nf ho
  generalize tl k 1 xs = ys at *
  have r1 : ¬ r < 1 := by omega
  have HT := Lib.hid hT
  have HL1 := Lib.hid L1
  clear hl hA hT L1
  go_enter Tryd.func3, Tryd.ntmps3
  go_wp2_with fail
  refine (Rv.awake _).mono ?_
  rintro e w1 ⟨rfl, c1⟩
  have X1 := R.step c1
  go_wp2_with fail
  refine (NR.out _).mono ?_
  rintro e w2 ⟨rfl, rfl⟩
  go_wp2_with fail
  refine (T1.out _ (HT.out.below c1) X1).mono ?_
  rintro e w2 ⟨A1, rfl, Y2, _, d2⟩
  have c2 := c1.trans (d2.mono c1.size)
  have X2 := X1.step d2
  clear d2 c1
  go_wp2_with fail
  refine (T2.out _ (HT.out.below c2)).mono ?_
  rintro e w3 ⟨rfl, rfl⟩
  go_wp2_with fail
  refine (T3.out A1 _ (HT.out.below c2) Y2).mono ?_
  rintro e w3 ⟨A3, rfl, U3, _, d3⟩
  have c3 := c2.trans (d3.mono c2.size)
  have X3 := X2.step d3
  have Y3 := Y2.step d3
  clear d3 c2
  go_wp2_with fail
  refine (Q1.out _ X3).mono ?_
  rintro e w4 ⟨A4, cap4, rfl, V4, d4⟩
  have c4 := c3.trans (d4.mono c3.size)
  have X4 := X3.step d4
  have Y4 := Y3.step d4
  have U4 := U3.step d4
  clear d4 c3
  go_wp2_with fail
  refine (Sm.same A1 A4 _ _ _ _ ys rfl rfl (by rw [HL1.out]; omega) _ Y4 V4).mono ?_
  rintro e w5 ⟨rfl, d5⟩
  have c5 := c4.trans (d5.mono c4.size)
  have X5 := X4.step d5
  have Y5 := Y4.step d5
  have U5 := U4.step d5
  have V5 := V4.step d5
  clear d5 c4
  go_wp2_with fail
  refine (Sm.same A3 A _ _ _ _ xs rfl rfl (by omega) _ U5 X5).mono ?_
  rintro e w6 ⟨rfl, d6⟩
  have c6 := c5.trans (d6.mono c5.size)
  have X6 := X5.step d6
  have Y6 := Y5.step d6
  have U6 := U5.step d6
  have V6 := V5.step d6
  clear d6 c5
  go_wp2
  go_ret
  exact ⟨by simp [go_sem], c6⟩

set_option maxHeartbeats 1000000 in
set_option maxRecDepth 100000 in
theorem walk_odd (A : Option Addr) (ca : Nat) (xs : List Nat) (k : Nat) (r m : Nat) (h0 : 0 < r) (h8 : r ≤ 8) (hm : m = k % r) (hm0 : 0 < m) (ho : Odd k (r : Int)) (hl : xs.length = 2 ^ k) (hx : xs.length ≤ 256) (hk : k ≤ 32) (w : World) (hT : Ft.Tab w) (R : Ws w w.heap.size A xs) :
    Calls Tryd.prog 3 #[.slice A xs.length ca, .int .i64 (r : Nat)] w fun e w' => e = .returned (.bool true) ∧ Below w.heap.size w w' := by
  have h1 : ¬ 256 < (xs.length : Int) := by omega
  have k0 : ¬ (k : Int) < 0 := by omega
  have hpos : 0 < xs.length := by rw [hl]; exact Nat.two_pow_pos k
  have hA : A = none → ca = 0 := fun h => by obtain ⟨b, off, e, _⟩ := R.at_ 0 hpos; rw [h] at e; cases e
  have NR := Lib.hid (fun W => Ft.ref_any ((2 ^ k : Nat) : Int) (k : Int) (fun i hi e => by
      have e2 : 2 ^ k = 2 ^ i := by omega
      rw [Nat.pow_right_inj (a := 2) (by decide) |>.mp e2]) (fun h => absurd rfl (h k hk)) W)
  rw [← hl] at NR
  have L1 : (tl k 1 xs).length = xs.length := tl_len k 1 xs
  have T1 := Lib.hid (fun W T R => turn A ca k xs hl hk W T R)
  have T3 := Lib.hid (fun A1 W T R => turn A1 (tl k 1 xs).length k (tl k 1 xs) (by rw [L1]; exact hl) hk W T R)
  rw [tl_tl k 1 xs hl (Nat.mod_one k)] at T3
  have Q1 := Lib.hid (fun W R => refTurn A ca k 1 xs hA hl hk (by decide) (by decide) (Nat.mod_one k) W R)
  have nf := fun W T => Ft.fits_some k hk W T
  rw [← hl] at nf
  have T2 := Lib.hid (fun W T => turnBy_odd A xs.length ca k (r : Nat) (by omega) nf ho W T)
  clear nf ho
  generalize tl k 1 xs = ys at *
  have r1 : ¬ (r : Int) < 1 := by omega
  have r2 : ¬ 8 < (r : Int) := by omega
  have r3 : ((r : Int) == 0) = false := by rw [beq_eq_false_iff_ne]; omega
  have hq : (k : Int).tmod (r : Int) = (m : Int) := by rw [hm]; rfl
  have m8 : m < 8 := by have := Nat.mod_lt k h0; omega
  have m1 : ((m : Int) != 0) = true := by simp; omega
  clear hm
  have HT := Lib.hid hT
  have HL1 := Lib.hid L1
  clear hl hA hT L1
  go_enter Tryd.func3, Tryd.ntmps3
  go_wp2_with fail
  refine (Rv.awake _).mono ?_
  rintro e w1 ⟨rfl, c1⟩
  have X1 := R.step c1
  go_wp2_with fail
  refine (NR.out _).mono ?_
  rintro e w2 ⟨rfl, rfl⟩
  go_wp2_with fail
  refine (T1.out _ (HT.out.below c1) X1).mono ?_
  rintro e w2 ⟨A1, rfl, Y2, _, d2⟩
  have c2 := c1.trans (d2.mono c1.size)
  have X2 := X1.step d2
  clear d2 c1
  go_wp2_with fail
  refine (T2.out _ (HT.out.below c2)).mono ?_
  rintro e w3 ⟨rfl, rfl⟩
  go_wp2_with fail
  refine (T3.out A1 _ (HT.out.below c2) Y2).mono ?_
  rintro e w3 ⟨A3, rfl, U3, _, d3⟩
  have c3 := c2.trans (d3.mono c2.size)
  have X3 := X2.step d3
  have Y3 := Y2.step d3
  clear d3 c2
  go_wp2_with fail
  refine (Q1.out _ X3).mono ?_
  rintro e w4 ⟨A4, cap4, rfl, V4, d4⟩
  have c4 := c3.trans (d4.mono c3.size)
  have X4 := X3.step d4
  have Y4 := Y3.step d4
  have U4 := U3.step d4
  clear d4 c3
  go_wp2_with fail
  refine (Sm.same A1 A4 _ _ _ _ ys rfl rfl (by rw [HL1.out]; omega) _ Y4 V4).mono ?_
  rintro e w5 ⟨rfl, d5⟩
  have c5 := c4.trans (d5.mono c4.size)
  have X5 := X4.step d5
  have Y5 := Y4.step d5
  have U5 := U4.step d5
  have V5 := V4.step d5
  clear d5 c4
  go_wp2_with fail
  refine (Sm.same A3 A _ _ _ _ xs rfl rfl (by omega) _ U5 X5).mono ?_
  rintro e w6 ⟨rfl, d6⟩
  have c6 := c5.trans (d6.mono c5.size)
  have X6 := X5.step d6
  have Y6 := Y5.step d6
  have U6 := U5.step d6
  have V6 := V5.step d6
  clear d6 c5
  go_wp2
  go_ret
  exact ⟨by simp [go_sem], c6⟩

set_option maxHeartbeats 1000000 in
set_option maxRecDepth 100000 in
theorem walk_in (A : Option Addr) (ca : Nat) (xs : List Nat) (k : Nat) (r : Nat) (h0 : 0 < r) (h8 : r ≤ 8) (hm : k % r = 0) (hl : xs.length = 2 ^ k) (hx : xs.length ≤ 256) (hk : k ≤ 32) (w : World) (hT : Ft.Tab w) (R : Ws w w.heap.size A xs) :
    Calls Tryd.prog 3 #[.slice A xs.length ca, .int .i64 (r : Nat)] w fun e w' => e = .returned (.bool true) ∧ Below w.heap.size w w' := by
  have h1 : ¬ 256 < (xs.length : Int) := by omega
  have k0 : ¬ (k : Int) < 0 := by omega
  have hpos : 0 < xs.length := by rw [hl]; exact Nat.two_pow_pos k
  have hA : A = none → ca = 0 := fun h => by obtain ⟨b, off, e, _⟩ := R.at_ 0 hpos; rw [h] at e; cases e
  have NR := Lib.hid (fun W => Ft.ref_any ((2 ^ k : Nat) : Int) (k : Int) (fun i hi e => by
      have e2 : 2 ^ k = 2 ^ i := by omega
      rw [Nat.pow_right_inj (a := 2) (by decide) |>.mp e2]) (fun h => absurd rfl (h k hk)) W)
  rw [← hl] at NR
  have L1 : (tl k 1 xs).length = xs.length := tl_len k 1 xs
  have T1 := Lib.hid (fun W T R => turn A ca k xs hl hk W T R)
  have T3 := Lib.hid (fun A1 W T R => turn A1 (tl k 1 xs).length k (tl k 1 xs) (by rw [L1]; exact hl) hk W T R)
  rw [tl_tl k 1 xs hl (Nat.mod_one k)] at T3
  have Q1 := Lib.hid (fun W R => refTurn A ca k 1 xs hA hl hk (by decide) (by decide) (Nat.mod_one k) W R)
  have L2 : (tl k r xs).length = xs.length := tl_len k r xs
  have T2 := Lib.hid (fun W T R => turnBy A ca k r xs hl hk h0 h8 hm W T R)
  have Q2 := Lib.hid (fun W R => refTurn A ca k r xs hA hl hk h0 h8 hm W R)
  generalize tl k r xs = zs at *
  generalize tl k 1 xs = ys at *
  have r1 : ¬ (r : Int) < 1 := by omega
  have r2 : ¬ 8 < (r : Int) := by omega
  have r3 : ((r : Int) == 0) = false := by rw [beq_eq_false_iff_ne]; omega
  have hq : (k : Int).tmod (r : Int) = 0 := by show ((k % r : Nat) : Int) = 0; rw [hm]; rfl
  clear hm
  have HT := Lib.hid hT
  have HL1 := Lib.hid L1
  have HL2 := Lib.hid L2
  clear L2
  clear hl hA hT L1
  go_enter Tryd.func3, Tryd.ntmps3
  go_wp2_with fail
  refine (Rv.awake _).mono ?_
  rintro e w1 ⟨rfl, c1⟩
  have X1 := R.step c1
  go_wp2_with fail
  refine (NR.out _).mono ?_
  rintro e w2 ⟨rfl, rfl⟩
  go_wp2_with fail
  refine (T1.out _ (HT.out.below c1) X1).mono ?_
  rintro e w2 ⟨A1, rfl, Y2, _, d2⟩
  have c2 := c1.trans (d2.mono c1.size)
  have X2 := X1.step d2
  clear d2 c1
  go_wp2_with fail
  refine (T2.out _ (HT.out.below c2) X2).mono ?_
  rintro e w3 ⟨A2, rfl, Z3, _, d3⟩
  have c3 := c2.trans (d3.mono c2.size)
  have X3 := X2.step d3
  have Y3 := Y2.step d3
  clear d3 c2
  go_wp2_with fail
  refine (T3.out A1 _ (HT.out.below c3) Y3).mono ?_
  rintro e w4 ⟨A3, rfl, U4, _, d4⟩
  have c4 := c3.trans (d4.mono c3.size)
  have X4 := X3.step d4
  have Y4 := Y3.step d4
  have Z4 := Z3.step d4
  clear d4 c3
  go_wp2_with fail
  refine (Q1.out _ X4).mono ?_
  rintro e w5 ⟨A4, cap4, rfl, V5, d5⟩
  have c5 := c4.trans (d5.mono c4.size)
  have X5 := X4.step d5
  have Y5 := Y4.step d5
  have Z5 := Z4.step d5
  have U5 := U4.step d5
  clear d5 c4
  go_wp2_with fail
  refine (Sm.same A1 A4 _ _ _ _ ys rfl rfl (by rw [HL1.out]; omega) _ Y5 V5).mono ?_
  rintro e w6 ⟨rfl, d6⟩
  have c6 := c5.trans (d6.mono c5.size)
  have X6 := X5.step d6
  have Y6 := Y5.step d6
  have Z6 := Z5.step d6
  have U6 := U5.step d6
  have V6 := V5.step d6
  clear d6 c5
  go_wp2_with fail
  refine (Sm.same A3 A _ _ _ _ xs rfl rfl (by omega) _ U6 X6).mono ?_
  rintro e w7 ⟨rfl, d7⟩
  have c7 := c6.trans (d7.mono c6.size)
  have X7 := X6.step d7
  have Y7 := Y6.step d7
  have Z7 := Z6.step d7
  have U7 := U6.step d7
  have V7 := V6.step d7
  clear d7 c6
  go_wp2_with fail
  refine (Q2.out _ X7).mono ?_
  rintro e w8 ⟨A5, cap5, rfl, S8, d8⟩
  have c8 := c7.trans (d8.mono c7.size)
  have X8 := X7.step d8
  have Y8 := Y7.step d8
  have Z8 := Z7.step d8
  have U8 := U7.step d8
  have V8 := V7.step d8
  clear d8 c7
  go_wp2_with fail
  refine (Sm.same A2 A5 _ _ _ _ zs rfl rfl (by rw [HL2.out]; omega) _ Z8 S8).mono ?_
  rintro e w9 ⟨rfl, d9⟩
  have c9 := c8.trans (d9.mono c8.size)
  have X9 := X8.step d9
  have Y9 := Y8.step d9
  have Z9 := Z8.step d9
  have U9 := U8.step d9
  have V9 := V8.step d9
  have S9 := S8.step d9
  clear d9 c8
  go_wp2
  go_ret
  exact ⟨by simp [go_sem], c9⟩

theorem walk (A : Option Addr) (ca : Nat) (xs : List Nat) (r : Int) (hm : xs.length ≤ 9223372036854775807) (w : World) (hT : Ft.Tab w) (R : Ws w w.heap.size A xs) :
    Calls Tryd.prog 3 #[.slice A xs.length ca, .int .i64 r] w fun e w' => e = .returned (.bool true) ∧ Below w.heap.size w w' := by
  by_cases hl : 256 < xs.length
  · exact walk_long A ca xs r hl hm w
  by_cases h : ∃ j : Nat, j ≤ 32 ∧ (xs.length : Int) = ((2 ^ j : Nat) : Int)
  · obtain ⟨k, hk, e⟩ := h
    have e2 : xs.length = 2 ^ k := by omega
    rcases odd_or k r with ho | ⟨s, rfl, h0, h8, hm⟩
    · have ho2 := ho
      rcases ho with c | c | ⟨s, rfl, h0, h8, hm⟩
      · exact walk_low A ca xs k r c ho2 e2 (by omega) hk w hT R
      · exact walk_high A ca xs k r c ho2 e2 (by omega) hk w hT R
      · exact walk_odd A ca xs k s _ h0 h8 rfl (by omega) ho2 e2 (by omega) hk w hT R
    · exact walk_in A ca xs k s h0 h8 hm e2 (by omega) hk w hT R
  · exact walk_none A ca xs r (by omega) (fun j hj e => h ⟨j, hj, e⟩) w

theorem g32 : Tryd.prog.globalNamed "math/bits.deBruijn32tab" = some 0 := by kernel_rfl
theorem g64 : Tryd.prog.globalNamed "math/bits.deBruijn64tab" = some 1 := by kernel_rfl
theorem t64 : (Tryd.prog.globals[1]?).map (·.type) = some 51 := by kernel_rfl
/-- What the row's condition gives the walk: the table's cells. -/
theorem of_laid {W : World} (h : laidMetH Tryd.prog Rows.revRowsRow.laid W) : Ft.Tab W := by
  rw [MakeChecks.laidMetH_plain _ _ _ (by kernel_rfl)] at h
  obtain ⟨ps, ⟨g0, t0, cs0, f0, p0, q0, hg0, ht0, hv0, hd0, ⟨g1, t1, cs1, f1, p1, q1, hg1, ht1, hv1, hd1, _, _⟩, _⟩, _, _⟩ := h
  obtain rfl := Option.some.inj (g64.symm.trans hg1)
  obtain rfl := Option.some.inj (t64.symm.trans ht1)
  have hd2 : DataW.trod _ Tryd.prog W 0 _ false f1 51 cs1.toList = some (Lib.tabData .u8 (Lib.deBruijn64tab.map Int.ofNat), p1) := hd1
  have hc := Lib.cells_of_tab Tryd.underlying51 Tryd.underlying5 (by kernel_rfl) (by kernel_rfl) hd2
  intro i hi
  have c := World.var?_cell hg1 hv1 i
  rw [c, ← Array.getElem?_toList, hc]
  have hl : Lib.deBruijn64tab.length = 64 := by decide
  simp [List.getD, hl, hi]

/-- The door's own heap meets the condition. -/
theorem door_met (os : Os) (args : Array Value) : laidMetH Tryd.prog Rows.revRowsRow.laid ((World.doorLaid Tryd.prog 400 os).forCall (fun _ _ => 0) ⟨#[], args, []⟩).memory :=
  laidMetH_of_parts3 (fuel := 8) (laidMet_of_run' 8 (by kernel_rfl) (by kernel_rfl)) (by kernel_rfl) (by kernel_rfl)
set_option maxRecDepth 100000 in
theorem lifted (os : Os) (started : os.Started) (H : Type) (enc : TypeId × Value → H) :
    ReturnsInHanded {} Tryd.checked os 3 .any (fun w args => (Rows.revRowsSpec.pre enc Tryd.prog Tryd.f3 [] false w args ∧ laidMetH Tryd.prog Rows.revRowsRow.laid w) ∧ sizedMet enc Tryd.prog Tryd.f3 (OpenSpec.ofChange Rows.revRowsSpec) false w args)
      (Rows.revRowsSpec.post enc Tryd.prog Tryd.f3 false true false false) := by
  refine returnsInHanded_of_change_and (C := Tryd.checked) (X := fun w _ => laidMetH Tryd.prog Rows.revRowsRow.laid w) (fun _ _ _ hh h => h.of_heap hh) Fr.own started (by kernel_rfl) Tryd.func3
    (ChangeSpec.witness_shaped (enc := enc) (C := Tryd.checked) (os := os) (X := fun w _ => laidMetH Tryd.prog Rows.revRowsRow.laid w) false (World.doorLaid Tryd.prog 400 os) #[.slice none 0 0, .int .i64 0] 8 rfl (World.shaped_of_RefB (by kernel_rfl) (by kernel_rfl)) (by kernel_rfl) (by kernel_rfl) (by kernel_rfl) (door_met os _)) ?_
  intro W base args ds gs before hval0 hW _ _ hL _
  have hval : ∀ (j : Nat) t v, Tryd.f3.params[j]? = some t → args[j]? = some v → Value.okWide Tryd.prog W .any base t v := hval0
  have hW' := hW
  obtain ⟨p, q, hA0, hV, rfl, hfz, hnd⟩ := hW
  have hA : DataW.TrodAll enc Tryd.prog W 0 (fun _ => true) true Tryd.f3.params.toList args.toList ds p := hA0
  obtain ⟨rfl, rfl⟩ := trodVars_none hV
  rw [Tryd.params3] at hA hval
  obtain ⟨v0, vs0, d0, ds0, p0, q0, hargs, rfl, rfl, h0, r0⟩ := trodAll_cons hA
  obtain ⟨v1, vs1, d1, ds1, p1, q1, rfl, rfl, rfl, h1, r1⟩ := trodAll_cons r0
  obtain ⟨rfl, rfl, rfl⟩ := trodAll_nil r1
  obtain rfl : args = #[v0, v1] := by cases args; simp_all
  obtain ⟨A0, n0, c0, rfl⟩ := okWide_slice Tryd.underlying22 (hval 0 22 v0 rfl rfl)
  obtain ⟨fuel0, hf0⟩ := h0
  obtain ⟨xs0, rfl, lc0, lm0, R0⟩ := Ww.open_words hf0
  obtain ⟨x1, rfl, rfl, rfl, w1⟩ := open_int Tryd.underlying3 (hval 1 3 v1 rfl rfl) h1
  have b1 : -9223372036854775808 ≤ x1 ∧ x1 ≤ 9223372036854775807 := by simpa [Lit.wf, IntKind.min, IntKind.max, IntKind.signed, IntKind.bits] using w1
  simp only [List.append_nil] at hW' hA0
  refine (walk A0 c0 xs0 x1 (by omega) W (of_laid hL) R0).mono fun e W' ⟨he, hb⟩ => ?_
  subst he
  exact ⟨_, rfl, Fr.law_post (tb := 4) hW' hA0 rfl rfl rfl Tryd.underlying4 (by rw [Tryd.params3]; intro t ht; simp at ht; rcases ht with rfl | rfl; all_goals exact ⟨by kernel_rfl, of_decide_eq_true (by kernel_rfl)⟩) hb⟩

theorem row_holds : Rows.RevRowsSaid :=
  OpenClaim.holds_of_wide 3 Tryd.f3 rfl rfl rfl rfl rfl rfl rfl ⟨rfl, rfl, rfl, rfl, rfl⟩ rfl rfl rfl rfl rfl (by kernel_rfl) Tryd.func3 (by kernel_rfl)
    (of_decide_eq_true (by kernel_rfl)) (by unfold Func.isWrapper; first | (rw [if_pos (by decide +kernel)]; kernel_rfl) | (rw [if_neg (by decide +kernel)]; exact ⟨rfl, rfl⟩))
    (fun os started H enc _ => lifted os started H enc)

theorem proved : Rows.RevRowsCardSaid :=
  Claim7.holds_tied_plain_at .later [] [.data, .data] true Rows.revRowsCard.stood.harness false
    row_holds (fun _ h => by cases h) (by kernel_rfl) (fun _ h => by cases h) revRows_row_tie rfl ⟨rfl, rfl⟩ (by kernel_rfl) rfl
    (fun f fn hf hfn => by
      obtain rfl : f = 3 := Option.some.inj ((show Tryd.prog.funcNamed "abacist/abacistlaw05.RevRows" = some 3 by kernel_rfl).symm.trans hf) |>.symm
      obtain rfl : fn = Tryd.f3 := (Option.some.inj (Tryd.func3.symm.trans hfn)).symm
      exact ⟨by kernel_rfl, fun j t ht => by
        rw [Tryd.params3] at ht
        have hm : t ∈ [22, 3] := by simpa using Array.mem_of_getElem? ht
        have hall : ([22, 3].all fun u => !Tryd.prog.wantsStandIn u) = true := by kernel_rfl
        exact (show Tryd.prog.wantsStandIn t = false by simpa using List.all_eq_true.1 hall t hm)⟩)
    (by kernel_rfl)
end Go.Proofs.YtkijcefelgiolaaDoor.revRows
