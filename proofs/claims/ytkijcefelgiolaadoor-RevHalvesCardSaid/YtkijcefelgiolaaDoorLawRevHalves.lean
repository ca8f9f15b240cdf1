/- RevHalves: of every two rows the law of even and odd parts answers true, and changes nothing, where the library's two tables are as their initialisers lay them (the card ties them to the program's text). -/
import Derived.Test.YtkijcefelgiolaaDoorFrame
import Derived.Test.YtkijcefelgiolaaDoorRevE
import Derived.Test.YtkijcefelgiolaaDoorSame
import Derived.Test.YtkijcefelgiolaaDoorTie
import Derived.Test.YtkijcefelgiolaaDoorCards
import Derived.Lib.LaidTab
import Derived.LaidMore
import Derived.Stop.Joined
import Derived.SevenTiedAt
set_option linter.unusedVariables false
namespace Go.Proofs.YtkijcefelgiolaaDoor.revHalves
open Go.ChangeShapes Go.WideShapes Go.ChangeAt Go.RowKit
open Rn Rv Ww

theorem ev_lt (xs : List Nat) (hx : ∀ i, i < xs.length → xs.getD i 0 < 18446744073709551616) : ∀ i, i < (ev xs xs.length).length → (ev xs xs.length).getD i 0 < 18446744073709551616 := fun i hi => by
  rw [ev_len] at hi
  rw [ev_at _ _ _ hi]
  exact hx _ (by omega)
theorem od_lt (xs : List Nat) (hx : ∀ i, i < xs.length → xs.getD i 0 < 18446744073709551616) : ∀ i, i < (od xs xs.length).length → (od xs xs.length).getD i 0 < 18446744073709551616 := fun i hi => by
  rw [od_len] at hi
  rw [od_at _ _ _ hi]
  exact hx _ (by omega)
theorem tl_lt (k : Nat) (xs : List Nat) (hl : xs.length = 2 ^ k) (hx : ∀ i, i < xs.length → xs.getD i 0 < 18446744073709551616) : ∀ i, i < (tl k 1 xs).length → (tl k 1 xs).getD i 0 < 18446744073709551616 := fun i hi => by
  rw [tl_len] at hi
  rw [tl_at _ _ _ _ hi]
  exact hx _ (by rw [hl]; exact tn_lt k 1 i (Nat.mod_one k))
/-- To turn about a row is to turn about its even and its odd part. -/
theorem tl_halves (k : Nat) (xs : List Nat) (hl : xs.length = 2 ^ (k + 1)) : tl k 1 (ev xs xs.length) ++ tl k 1 (od xs xs.length) = tl (k + 1) 1 xs := by
  have hp : xs.length = 2 * 2 ^ k := by rw [hl, Nat.pow_succ, Nat.mul_comm]
  have le : (ev xs xs.length).length = 2 ^ k := by rw [ev_len]; omega
  have lo : (od xs xs.length).length = 2 ^ k := by rw [od_len]; omega
  refine list_ext _ _ (by rw [List.length_append, tl_len, tl_len, tl_len, le, lo]; omega) fun i hi => ?_
  rw [List.length_append, tl_len, tl_len, le, lo] at hi
  rw [tl_at (k + 1) 1 xs i (by omega)]
  by_cases h : i < 2 ^ k
  · have e := tn_half k 0 i (by decide) h
    rw [Nat.zero_mul, Nat.zero_add, Nat.add_zero] at e
    have ht := tn_lt k 1 i (Nat.mod_one k)
    rw [e, show (tl k 1 (ev xs xs.length) ++ tl k 1 (od xs xs.length)).getD i 0 = (tl k 1 (ev xs xs.length)).getD i 0 from by simp only [List.getD]; rw [List.getElem?_append_left (by rw [tl_len, le]; exact h)],
      tl_at k 1 _ i (by omega), ev_at _ _ _ (by omega)]
    rfl
  · have e := tn_half k 1 (i - 2 ^ k) (by decide) (by omega)
    rw [Nat.one_mul, show 2 ^ k + (i - 2 ^ k) = i by omega] at e
    have ht := tn_lt k 1 (i - 2 ^ k) (Nat.mod_one k)
    rw [e, show (tl k 1 (ev xs xs.length) ++ tl k 1 (od xs xs.length)).getD i 0 = (tl k 1 (od xs xs.length)).getD (i - 2 ^ k) 0 from by simp only [List.getD]; rw [List.getElem?_append_right (by rw [tl_len, le]; omega), tl_len, le],
      tl_at k 1 _ (i - 2 ^ k) (by omega), od_at _ _ _ (by omega)]
/-- What Even answers of a woven row. -/
theorem even_wv (A : Option Addr) (c : Nat) (xs ys : List Nat) (h : xs.length = ys.length ∨ xs.length = ys.length + 1) (hn : xs.length ≤ 256) (hm : ys.length ≤ 256) (w : World) (R : Ws w w.heap.size A (wv xs ys)) :
    Calls Tryd.prog 11 #[.slice A (wv xs ys).length c] w fun e w' => ∃ v u, e = .returned (.tuple #[v, u]) ∧ Ow w' w.heap.size v xs ∧ Ow w' w.heap.size u ys ∧ Below w.heap.size w w' := by
  refine (even A c (wv xs ys) (by rw [wv_len]; omega) w R).mono ?_
  rintro e w' ⟨v, u, rfl, O, P, b⟩
  rw [ev_wv xs ys h] at O
  rw [od_wv xs ys h] at P
  exact ⟨v, u, rfl, O, P, b⟩
/-- What Weave answers of both parts of a row. -/
theorem weave_parts (A B : Option Addr) (ca cb : Nat) (xs : List Nat) (hn : xs.length ≤ 256) (w : World) (R : Ws w w.heap.size A (ev xs xs.length)) (S : Ws w w.heap.size B (od xs xs.length)) :
    Calls Tryd.prog 12 #[.slice A (ev xs xs.length).length ca, .slice B (od xs xs.length).length cb] w (RowOut xs w) := by
  have := weave A B ca cb (ev xs xs.length) (od xs xs.length) (by rw [ev_len]; omega) (by rw [od_len]; omega) (by rw [ev_len, od_len]; omega) w R S
  rwa [wv_ev_od] at this
theorem diff (xs : List Nat) : ((ev xs xs.length).length : Int) - ((od xs xs.length).length : Int) = ((xs.length % 2 : Nat) : Int) := by rw [ev_len, od_len]; omega

set_option maxHeartbeats 1000000 in
set_option maxRecDepth 100000 in
theorem walk_long (A B : Option Addr) (ca cb : Nat) (xs ys : List Nat) (hl : 256 < xs.length) (hm : xs.length ≤ 9223372036854775807) (w : World) :
    Calls Tryd.prog 4 #[.slice A xs.length ca, .slice B ys.length cb] w fun e w' => e = .returned (.bool true) ∧ Below w.heap.size w w' := by
  have h1 : 256 < (xs.length : Int) := by omega
  go_enter Tryd.func4, Tryd.ntmps4
  go_wp2_with fail
  refine (Rv.awake _).mono ?_
  rintro e w1 ⟨rfl, c1⟩
  go_wp2
  go_ret
  exact ⟨by simp [go_sem], c1⟩

set_option maxHeartbeats 1000000 in
set_option maxRecDepth 100000 in
theorem walk_long2 (A B : Option Addr) (ca cb : Nat) (xs ys : List Nat) (hl : xs.length ≤ 256) (hm : 256 < ys.length) (hm2 : ys.length ≤ 9223372036854775807) (w : World) :
    Calls Tryd.prog 4 #[.slice A xs.length ca, .slice B ys.length cb] w fun e w' => e = .returned (.bool true) ∧ Below w.heap.size w w' := by
  have h1 : ¬ 256 < (xs.length : Int) := by omega
  have h2 : 256 < (ys.length : Int) := by omega
  go_enter Tryd.func4, Tryd.ntmps4
  go_wp2_with fail
  refine (Rv.awake _).mono ?_
  rintro e w1 ⟨rfl, c1⟩
  go_wp2
  go_ret
  exact ⟨by simp [go_sem], c1⟩

set_option maxHeartbeats 1000000 in
set_option maxRecDepth 100000 in
theorem walk_lt_none (A B : Option Addr) (ca cb : Nat) (xs ys : List Nat) (hx : xs.length ≤ 256) (hy : ys.length ≤ 256) (h : xs.length < ys.length) (hf : ∀ j : Nat, j ≤ 32 → (xs.length : Int) ≠ ((2 ^ j : Nat) : Int)) (w : World) (hT : Ft.Tab w) (R : Ws w w.heap.size A xs) (S : Ws w w.heap.size B ys) :
    Calls Tryd.prog 4 #[.slice A xs.length ca, .slice B ys.length cb] w fun e w' => e = .returned (.bool true) ∧ Below w.heap.size w w' := by
  have g1 : ¬ 256 < (xs.length : Int) := by omega
  have g2 : ¬ 256 < (ys.length : Int) := by omega
  have EL := Lib.hid (ev_lt xs R.lt)
  have OL := Lib.hid (od_lt xs R.lt)
  have XL := Lib.hid R.lt
  have YL := Lib.hid S.lt
  have HT := Lib.hid hT
  have E1 := Lib.hid (fun W R => even A ca xs (by omega) W R)
  have V1 := Lib.hid (fun A1 B1 c1 d1 W R S => weave_parts A1 B1 c1 d1 xs hx W R S)
  have DF := diff xs
  obtain ⟨d, hd⟩ : ∃ d, d = xs.length % 2 := ⟨_, rfl⟩
  rw [← hd] at DF
  have DM : (xs.length : Int).tmod 2 = (d : Int) := by rw [hd]; rfl
  have d2 : d < 2 := by omega
  have l1 : (ev xs xs.length).length ≤ 256 := by rw [ev_len]; omega
  have l2 : (od xs xs.length).length ≤ 256 := by rw [od_len]; omega
  have o1 : (xs.length : Int) < (ys.length : Int) := by omega
  have V2 := Lib.hid (fun W => weave_bad A B xs.length ys.length ca cb (by omega) (by omega) (by omega) (by omega) W)
  have nf := fun W => Ft.fits_none (xs.length : Int) hf W
  have T1 := Lib.hid (fun W => turn_none A xs.length ca (by omega) nf W)
  clear nf hf
  clear hT hd h
  go_enter Tryd.func4, Tryd.ntmps4
  go_wp2_with fail
  refine (Rv.awake _).mono ?_
  rintro e w1 ⟨rfl, c1⟩
  have X1 := R.step c1
  have Y1 := S.step c1
  go_wp2_with fail
  refine (E1.out _ X1).mono ?_
  rintro e w2 ⟨va, vb, rfl, Oa, Ob, d2⟩
  have c2 := c1.trans (d2.mono c1.size)
  have X2 := X1.step d2
  have Y2 := Y1.step d2
  clear d2 c1
  obtain ⟨Aa, pa, rfl, P2⟩ := Oa.ws EL.out
  obtain ⟨Ab, pb, rfl, Q2⟩ := Ob.ws OL.out
  clear Oa Ob
  go_wp2_with fail
  refine (V1.out Aa Ab _ _ _ P2 Q2).mono ?_
  rintro e w3 ⟨Aw, rfl, Z3, _, d3⟩
  have c3 := c2.trans (d3.mono c2.size)
  have X3 := X2.step d3
  have Y3 := Y2.step d3
  have P3 := P2.step d3
  have Q3 := Q2.step d3
  clear d3 c2
  go_wp2_with fail
  refine (Sm.same Aw A _ _ _ _ xs rfl rfl (by omega) _ Z3 X3).mono ?_
  rintro e w4 ⟨rfl, d4⟩
  have c4 := c3.trans (d4.mono c3.size)
  have X4 := X3.step d4
  have Y4 := Y3.step d4
  have P4 := P3.step d4
  have Q4 := Q3.step d4
  have Z4 := Z3.step d4
  clear d4 c3
  go_wp2_with fail
  refine (V2.out _).mono ?_
  rintro e w5 ⟨rfl, rfl⟩
  go_wp2_with fail
  refine (T1.out _).mono ?_
  rintro e w5 ⟨rfl, rfl⟩
  go_wp2
  go_ret
  exact ⟨by simp [go_sem], c4⟩

set_option maxHeartbeats 1000000 in
set_option maxRecDepth 100000 in
theorem walk_lt_one (A B : Option Addr) (ca cb : Nat) (xs ys : List Nat) (hx : xs.length ≤ 256) (hy : ys.length ≤ 256) (h : xs.length < ys.length) (h1l : xs.length = 2 ^ 0) (w : World) (hT : Ft.Tab w) (R : Ws w w.heap.size A xs) (S : Ws w w.heap.size B ys) :
    Calls Tryd.prog 4 #[.slice A xs.length ca, .slice B ys.length cb] w fun e w' => e = .returned (.bool true) ∧ Below w.heap.size w w' := by
  have g1 : ¬ 256 < (xs.length : Int) := by omega
  have g2 : ¬ 256 < (ys.length : Int) := by omega
  have EL := Lib.hid (ev_lt xs R.lt)
  have OL := Lib.hid (od_lt xs R.lt)
  have XL := Lib.hid R.lt
  have YL := Lib.hid S.lt
  have HT := Lib.hid hT
  have E1 := Lib.hid (fun W R => even A ca xs (by omega) W R)
  have V1 := Lib.hid (fun A1 B1 c1 d1 W R S => weave_parts A1 B1 c1 d1 xs hx W R S)
  have DF := diff xs
  obtain ⟨d, hd⟩ : ∃ d, d = xs.length % 2 := ⟨_, rfl⟩
  rw [← hd] at DF
  have DM : (xs.length : Int).tmod 2 = (d : Int) := by rw [hd]; rfl
  have d2 : d < 2 := by omega
  have l1 : (ev xs xs.length).length ≤ 256 := by rw [ev_len]; omega
  have l2 : (od xs xs.length).length ≤ 256 := by rw [od_len]; omega
  have o1 : (xs.length : Int) < (ys.length : Int) := by omega
  have V2 := Lib.hid (fun W => weave_bad A B xs.length ys.length ca cb (by omega) (by omega) (by omega) (by omega) W)
  have T1 := Lib.hid (fun W T R => turn A ca 0 xs h1l (by decide) W T R)
  have t1 : (xs.length : Int) < 2 := by rw [h1l]; decide
  clear h1l
  clear hT hd h
  go_enter Tryd.func4, Tryd.ntmps4
  go_wp2_with fail
  refine (Rv.awake _).mono ?_
  rintro e w1 ⟨rfl, c1⟩
  have X1 := R.step c1
  have Y1 := S.step c1
  go_wp2_with fail
  refine (E1.out _ X1).mono ?_
  rintro e w2 ⟨va, vb, rfl, Oa, Ob, d2⟩
  have c2 := c1.trans (d2.mono c1.size)
  have X2 := X1.step d2
  have Y2 := Y1.step d2
  clear d2 c1
  obtain ⟨Aa, pa, rfl, P2⟩ := Oa.ws EL.out
  obtain ⟨Ab, pb, rfl, Q2⟩ := Ob.ws OL.out
  clear Oa Ob
  go_wp2_with fail
  refine (V1.out Aa Ab _ _ _ P2 Q2).mono ?_
  rintro e w3 ⟨Aw, rfl, Z3, _, d3⟩
  have c3 := c2.trans (d3.mono c2.size)
  have X3 := X2.step d3
  have Y3 := Y2.step d3
  have P3 := P2.step d3
  have Q3 := Q2.step d3
  clear d3 c2
  go_wp2_with fail
  refine (Sm.same Aw A _ _ _ _ xs rfl rfl (by omega) _ Z3 X3).mono ?_
  rintro e w4 ⟨rfl, d4⟩
  have c4 := c3.trans (d4.mono c3.size)
  have X4 := X3.step d4
  have Y4 := Y3.step d4
  have P4 := P3.step d4
  have Q4 := Q3.step d4
  have Z4 := Z3.step d4
  clear d4 c3
  go_wp2_with fail
  refine (V2.out _).mono ?_
  rintro e w5 ⟨rfl, rfl⟩
  go_wp2_with fail
  refine (T1.out _ (HT.out.below c4) X4).mono ?_
  rintro e w5 ⟨At, rfl, T5, _, d5⟩
  have c5 := c4.trans (d5.mono c4.size)
  have X5 := X4.step d5
  have Y5 := Y4.step d5
  have P5 := P4.step d5
  have Q5 := Q4.step d5
  clear d5 c4
  go_wp2
  go_ret
  exact ⟨by simp [go_sem], c5⟩

set_option maxHeartbeats 1000000 in
set_option maxRecDepth 100000 in
theorem walk_lt_many (A B : Option Addr) (ca cb : Nat) (xs ys : List Nat) (hx : xs.length ≤ 256) (hy : ys.length ≤ 256) (h : xs.length < ys.length) (k : Nat) (hk : k ≤ 31) (hkl : xs.length = 2 ^ (k + 1)) (w : World) (hT : Ft.Tab w) (R : Ws w w.heap.size A xs) (S : Ws w w.heap.size B ys) :
    Calls Tryd.prog 4 #[.slice A xs.length ca, .slice B ys.length cb] w fun e w' => e = .returned (.bool true) ∧ Below w.heap.size w w' := by
  have g1 : ¬ 256 < (xs.length : Int) := by omega
  have g2 : ¬ 256 < (ys.length : Int) := by omega
  have EL := Lib.hid (ev_lt xs R.lt)
  have OL := Lib.hid (od_lt xs R.lt)
  have XL := Lib.hid R.lt
  have YL := Lib.hid S.lt
  have HT := Lib.hid hT
  have E1 := Lib.hid (fun W R => even A ca xs (by omega) W R)
  have V1 := Lib.hid (fun A1 B1 c1 d1 W R S => weave_parts A1 B1 c1 d1 xs hx W R S)
  have DF := diff xs
  obtain ⟨d, hd⟩ : ∃ d, d = xs.length % 2 := ⟨_, rfl⟩
  rw [← hd] at DF
  have DM : (xs.length : Int).tmod 2 = (d : Int) := by rw [hd]; rfl
  have d2 : d < 2 := by omega
  have l1 : (ev xs xs.length).length ≤ 256 := by rw [ev_len]; omega
  have l2 : (od xs xs.length).length ≤ 256 := by rw [od_len]; omega
  have o1 : (xs.length : Int) < (ys.length : Int) := by omega
  have V2 := Lib.hid (fun W => weave_bad A B xs.length ys.length ca cb (by omega) (by omega) (by omega) (by omega) W)
  have hp : xs.length = 2 * 2 ^ k := by rw [hkl, Nat.pow_succ, Nat.mul_comm]
  have hp0 : 0 < 2 ^ k := Nat.two_pow_pos k
  have t1 : ¬ (xs.length : Int) < 2 := by omega
  have T1 := Lib.hid (fun W T R => turn A ca (k + 1) xs hkl (by omega) W T R)
  have T2 := Lib.hid (fun A1 c1 W T R => turn A1 c1 k (ev xs xs.length) (by rw [ev_len]; omega) (by omega) W T R)
  have T3 := Lib.hid (fun A1 c1 W T R => turn A1 c1 k (od xs xs.length) (by rw [od_len]; omega) (by omega) W T R)
  have TH := Lib.hid (tl_halves k xs hkl)
  have TLT := Lib.hid (tl_lt (k + 1) xs hkl R.lt)
  have L3 := Lib.hid (tl_len (k + 1) 1 xs)
  have L4 := Lib.hid (tl_len k 1 (ev xs xs.length))
  have L5 := Lib.hid (tl_len k 1 (od xs xs.length))
  have h256 := Lib.hid l1
  have h257 := Lib.hid l2
  generalize tl (k + 1) 1 xs = ts at *
  generalize tl k 1 (ev xs xs.length) = ps at *
  generalize tl k 1 (od xs xs.length) = qs at *
  have Z1 := Lib.hid (show 0 < (ev xs xs.length).length by rw [ev_len]; omega)
  have Z2 := Lib.hid (show 0 < (od xs xs.length).length by rw [od_len]; omega)
  clear hp hp0 hkl
  clear hT hd h
  go_enter Tryd.func4, Tryd.ntmps4
  go_wp2_with fail
  refine (Rv.awake _).mono ?_
  rintro e w1 ⟨rfl, c1⟩
  have X1 := R.step c1
  have Y1 := S.step c1
  go_wp2_with fail
  refine (E1.out _ X1).mono ?_
  rintro e w2 ⟨va, vb, rfl, Oa, Ob, d2⟩
  have c2 := c1.trans (d2.mono c1.size)
  have X2 := X1.step d2
  have Y2 := Y1.step d2
  clear d2 c1
  obtain ⟨Aa, pa, rfl, P2⟩ := Oa.ws EL.out
  obtain ⟨Ab, pb, rfl, Q2⟩ := Ob.ws OL.out
  clear Oa Ob
  go_wp2_with fail
  refine (V1.out Aa Ab _ _ _ P2 Q2).mono ?_
  rintro e w3 ⟨Aw, rfl, Z3, _, d3⟩
  have c3 := c2.trans (d3.mono c2.size)
  have X3 := X2.step d3
  have Y3 := Y2.step d3
  have P3 := P2.step d3
  have Q3 := Q2.step d3
  clear d3 c2
  go_wp2_with fail
  refine (Sm.same Aw A _ _ _ _ xs rfl rfl (by omega) _ Z3 X3).mono ?_
  rintro e w4 ⟨rfl, d4⟩
  have c4 := c3.trans (d4.mono c3.size)
  have X4 := X3.step d4
  have Y4 := Y3.step d4
  have P4 := P3.step d4
  have Q4 := Q3.step d4
  have Z4 := Z3.step d4
  clear d4 c3
  go_wp2_with fail
  refine (V2.out _).mono ?_
  rintro e w5 ⟨rfl, rfl⟩
  go_wp2_with fail
  refine (T1.out _ (HT.out.below c4) X4).mono ?_
  rintro e w5 ⟨At, rfl, T5, _, d5⟩
  have c5 := c4.trans (d5.mono c4.size)
  have X5 := X4.step d5
  have Y5 := Y4.step d5
  have P5 := P4.step d5
  have Q5 := Q4.step d5
  clear d5 c4
  go_wp2_with fail
  refine (T2.out Aa _ _ (HT.out.below c5) P5).mono ?_
  rintro e w6 ⟨Ap, rfl, G6, np, d6⟩
  have c6 := c5.trans (d6.mono c5.size)
  have X6 := X5.step d6
  have Y6 := Y5.step d6
  have P6 := P5.step d6
  have Q6 := Q5.step d6
  have T6 := T5.step d6
  clear d6 c5
  go_wp2_with fail
  refine (T3.out Ab _ _ (HT.out.below c6) Q6).mono ?_
  rintro e w7 ⟨Aq, rfl, H7, nq, d7⟩
  have c7 := c6.trans (d7.mono c6.size)
  have X7 := X6.step d7
  have Y7 := Y6.step d7
  have P7 := P6.step d7
  have Q7 := Q6.step d7
  have T7 := T6.step d7
  have G7 := G6.step d7
  clear d7 c6
  have F0 := Ow.fresh w7 w7.heap.size (Nat.le_refl _)
  obtain ⟨bp, op, rfl, _, _⟩ := G7.at_ 0 (by rw [L4.out]; exact Z1.out)
  obtain ⟨bq, oq, rfl, _, _⟩ := H7.at_ 0 (by rw [L5.out]; exact Z2.out)
  have GA := G7.alloc (Nat.le_refl _) (.cells #[] 42)
  have HA := H7.alloc (Nat.le_refl _) (.cells #[] 42)
  have BA := (Below.refl w7.heap.size w7).alloc (Nat.le_refl _) (.cells #[] 42)
  go_wp2_with (at_builtin; first
    | (refine append_some_g (w7.alloc (.cells #[] 42)) ?hgd (.tmp 134) (.tmp 135) ?ho w7.heap.size (.slice (some ⟨w7.heap.size, 0, none⟩) 0 0) [] ?hs F0 w7.heap.size ⟨bp, op, none⟩ ps.length ps ?hx GA ?c1 ?c2 (fun v1 wa O1 hg => ?_); (case hgd => rfl); (case ho => rfl); (case hs => rfl); (case hx => rfl); (case c1 => (have e1 := L4.out; have e2 := h256.out; simp; omega)); (case c2 => simp); rw [List.nil_append] at O1; have ba := F0.grow BA hg (by simp); have Hq := HA.below (F0.grow (Below.refl _ _) hg (by simp)); clear hg)
    | (go_loud (refine append_some_g wa ?hgd (.tmp 136) (.tmp 137) ?ho w7.heap.size v1 ps ?hs O1 w7.heap.size ⟨bq, oq, none⟩ qs.length qs ?hx Hq ?c1 ?c2 (fun v2 wb O2 hg2 => ?_)); (case hgd => rfl); (case ho => rfl); (case hs => rfl); (case hx => rfl); (case c1 => (have e1 := L4.out; have e2 := h256.out; have e3 := L5.out; have e4 := h257.out; omega)); (case c2 => exact ba.size); rw [TH.out] at O2; have bb := O1.grow ba hg2 ba.size; obtain ⟨Az, cz, rfl, Wz⟩ := O2.ws TLT.out; clear O2 hg2))
  have Tz := T7.step bb
  have cz2 := c7.trans (bb.mono c7.size)
  clear O1 ba bb Hq c7
  refine (Sm.same At Az _ _ _ _ ts rfl rfl (by rw [L3.out]; omega) _ Tz Wz).mono ?_
  rintro e wc ⟨rfl, dc⟩
  have cc := cz2.trans (dc.mono cz2.size)
  clear dc cz2
  go_wp2
  go_ret
  exact ⟨by simp [go_sem], cc⟩

set_option maxHeartbeats 1000000 in
set_option maxRecDepth 100000 in
theorem walk_gt_none (A B : Option Addr) (ca cb : Nat) (xs ys : List Nat) (hx : xs.length ≤ 256) (hy : ys.length ≤ 256) (h : ys.length + 1 < xs.length) (hf : ∀ j : Nat, j ≤ 32 → (xs.length : Int) ≠ ((2 ^ j : Nat) : Int)) (w : World) (hT : Ft.Tab w) (R : Ws w w.heap.size A xs) (S : Ws w w.heap.size B ys) :
    Calls Tryd.prog 4 #[.slice A xs.length ca, .slice B ys.length cb] w fun e w' => e = .returned (.bool true) ∧ Below w.heap.size w w' := by
  have g1 : ¬ 256 < (xs.length : Int) := by omega
  have g2 : ¬ 256 < (ys.length : Int) := by omega
  have EL := Lib.hid (ev_lt xs R.lt)
  have OL := Lib.hid (od_lt xs R.lt)
  have XL := Lib.hid R.lt
  have YL := Lib.hid S.lt
  have HT := Lib.hid hT
  have E1 := Lib.hid (fun W R => even A ca xs (by omega) W R)
  have V1 := Lib.hid (fun A1 B1 c1 d1 W R S => weave_parts A1 B1 c1 d1 xs hx W R S)
  have DF := diff xs
  obtain ⟨d, hd⟩ : ∃ d, d = xs.length % 2 := ⟨_, rfl⟩
  rw [← hd] at DF
  have DM : (xs.length : Int).tmod 2 = (d : Int) := by rw [hd]; rfl
  have d2 : d < 2 := by omega
  have l1 : (ev xs xs.length).length ≤ 256 := by rw [ev_len]; omega
  have l2 : (od xs xs.length).length ≤ 256 := by rw [od_len]; omega
  have o1 : ¬ (xs.length : Int) < (ys.length : Int) := by omega
  have o2 : 1 < (xs.length : Int) - (ys.length : Int) := by omega
  have V2 := Lib.hid (fun W => weave_bad A B xs.length ys.length ca cb (by omega) (by omega) (by omega) (by omega) W)
  have nf := fun W => Ft.fits_none (xs.length : Int) hf W
  have T1 := Lib.hid (fun W => turn_none A xs.length ca (by omega) nf W)
  clear nf hf
  clear hT hd h
  go_enter Tryd.func4, Tryd.ntmps4
  go_wp2_with fail
  refine (Rv.awake _).mono ?_
  rintro e w1 ⟨rfl, c1⟩
  have X1 := R.step c1
  have Y1 := S.step c1
  go_wp2_with fail
  refine (E1.out _ X1).mono ?_
  rintro e w2 ⟨va, vb, rfl, Oa, Ob, d2⟩
  have c2 := c1.trans (d2.mono c1.size)
  have X2 := X1.step d2
  have Y2 := Y1.step d2
  clear d2 c1
  obtain ⟨Aa, pa, rfl, P2⟩ := Oa.ws EL.out
  obtain ⟨Ab, pb, rfl, Q2⟩ := Ob.ws OL.out
  clear Oa Ob
  go_wp2_with fail
  refine (V1.out Aa Ab _ _ _ P2 Q2).mono ?_
  rintro e w3 ⟨Aw, rfl, Z3, _, d3⟩
  have c3 := c2.trans (d3.mono c2.size)
  have X3 := X2.step d3
  have Y3 := Y2.step d3
  have P3 := P2.step d3
  have Q3 := Q2.step d3
  clear d3 c2
  go_wp2_with fail
  refine (Sm.same Aw A _ _ _ _ xs rfl rfl (by omega) _ Z3 X3).mono ?_
  rintro e w4 ⟨rfl, d4⟩
  have c4 := c3.trans (d4.mono c3.size)
  have X4 := X3.step d4
  have Y4 := Y3.step d4
  have P4 := P3.step d4
  have Q4 := Q3.step d4
  have Z4 := Z3.step d4
  clear d4 c3
  go_wp2_with fail
  refine (V2.out _).mono ?_
  rintro e w5 ⟨rfl, rfl⟩
  go_wp2_with fail
  refine (T1.out _).mono ?_
  rintro e w5 ⟨rfl, rfl⟩
  go_wp2
  go_ret
  exact ⟨by simp [go_sem], c4⟩

set_option maxHeartbeats 1000000 in
set_option maxRecDepth 100000 in
theorem walk_gt_many (A B : Option Addr) (ca cb : Nat) (xs ys : List Nat) (hx : xs.length ≤ 256) (hy : ys.length ≤ 256) (h : ys.length + 1 < xs.length) (k : Nat) (hk : k ≤ 31) (hkl : xs.length = 2 ^ (k + 1)) (w : World) (hT : Ft.Tab w) (R : Ws w w.heap.size A xs) (S : Ws w w.heap.size B ys) :
    Calls Tryd.prog 4 #[.slice A xs.length ca, .slice B ys.length cb] w fun e w' => e = .returned (.bool true) ∧ Below w.heap.size w w' := by
  have g1 : ¬ 256 < (xs.length : Int) := by omega
  have g2 : ¬ 256 < (ys.length : Int) := by omega
  have EL := Lib.hid (ev_lt xs R.lt)
  have OL := Lib.hid (od_lt xs R.lt)
  have XL := Lib.hid R.lt
  have YL := Lib.hid S.lt
  have HT := Lib.hid hT
  have E1 := Lib.hid (fun W R => even A ca xs (by omega) W R)
  have V1 := Lib.hid (fun A1 B1 c1 d1 W R S => weave_parts A1 B1 c1 d1 xs hx W R S)
  have DF := diff xs
  obtain ⟨d, hd⟩ : ∃ d, d = xs.length % 2 := ⟨_, rfl⟩
  rw [← hd] at DF
  have DM : (xs.length : Int).tmod 2 = (d : Int) := by rw [hd]; rfl
  have d2 : d < 2 := by omega
  have l1 : (ev xs xs.length).length ≤ 256 := by rw [ev_len]; omega
  have l2 : (od xs xs.length).length ≤ 256 := by rw [od_len]; omega
  have o1 : ¬ (xs.length : Int) < (ys.length : Int) := by omega
  have o2 : 1 < (xs.length : Int) - (ys.length : Int) := by omega
  have V2 := Lib.hid (fun W => weave_bad A B xs.length ys.length ca cb (by omega) (by omega) (by omega) (by omega) W)
  have hp : xs.length = 2 * 2 ^ k := by rw [hkl, Nat.pow_succ, Nat.mul_comm]
  have hp0 : 0 < 2 ^ k := Nat.two_pow_pos k
  have t1 : ¬ (xs.length : Int) < 2 := by omega
  have T1 := Lib.hid (fun W T R => turn A ca (k + 1) xs hkl (by omega) W T R)
  have T2 := Lib.hid (fun A1 c1 W T R => turn A1 c1 k (ev xs xs.length) (by rw [ev_len]; omega) (by omega) W T R)
  have T3 := Lib.hid (fun A1 c1 W T R => turn A1 c1 k (od xs xs.length) (by rw [od_len]; omega) (by omega) W T R)
  have TH := Lib.hid (tl_halves k xs hkl)
  have TLT := Lib.hid (tl_lt (k + 1) xs hkl R.lt)
  have L3 := Lib.hid (tl_len (k + 1) 1 xs)
  have L4 := Lib.hid (tl_len k 1 (ev xs xs.length))
  have L5 := Lib.hid (tl_len k 1 (od xs xs.length))
  have h256 := Lib.hid l1
  have h257 := Lib.hid l2
  generalize tl (k + 1) 1 xs = ts at *
  generalize tl k 1 (ev xs xs.length) = ps at *
  generalize tl k 1 (od xs xs.length) = qs at *
  have Z1 := Lib.hid (show 0 < (ev xs xs.length).length by rw [ev_len]; omega)
  have Z2 := Lib.hid (show 0 < (od xs xs.length).length by rw [od_len]; omega)
  clear hp hp0 hkl
  clear hT hd h
  go_enter Tryd.func4, Tryd.ntmps4
  go_wp2_with fail
  refine (Rv.awake _).mono ?_
  rintro e w1 ⟨rfl, c1⟩
  have X1 := R.step c1
  have Y1 := S.step c1
  go_wp2_with fail
  refine (E1.out _ X1).mono ?_
  rintro e w2 ⟨va, vb, rfl, Oa, Ob, d2⟩
  have c2 := c1.trans (d2.mono c1.size)
  have X2 := X1.step d2
  have Y2 := Y1.step d2
  clear d2 c1
  obtain ⟨Aa, pa, rfl, P2⟩ := Oa.ws EL.out
  obtain ⟨Ab, pb, rfl, Q2⟩ := Ob.ws OL.out
  clear Oa Ob
  go_wp2_with fail
  refine (V1.out Aa Ab _ _ _ P2 Q2).mono ?_
  rintro e w3 ⟨Aw, rfl, Z3, _, d3⟩
  have c3 := c2.trans (d3.mono c2.size)
  have X3 := X2.step d3
  have Y3 := Y2.step d3
  have P3 := P2.step d3
  have Q3 := Q2.step d3
  clear d3 c2
  go_wp2_with fail
  refine (Sm.same Aw A _ _ _ _ xs rfl rfl (by omega) _ Z3 X3).mono ?_
  rintro e w4 ⟨rfl, d4⟩
  have c4 := c3.trans (d4.mono c3.size)
  have X4 := X3.step d4
  have Y4 := Y3.step d4
  have P4 := P3.step d4
  have Q4 := Q3.step d4
  have Z4 := Z3.step d4
  clear d4 c3
  go_wp2_with fail
  refine (V2.out _).mono ?_
  rintro e w5 ⟨rfl, rfl⟩
  go_wp2_with fail
  refine (T1.out _ (HT.out.below c4) X4).mono ?_
  rintro e w5 ⟨At, rfl, T5, _, d5⟩
  have c5 := c4.trans (d5.mono c4.size)
  have X5 := X4.step d5
  have Y5 := Y4.step d5
  have P5 := P4.step d5
  have Q5 := Q4.step d5
  clear d5 c4
  go_wp2_with fail
  refine (T2.out Aa _ _ (HT.out.below c5) P5).mono ?_
  rintro e w6 ⟨Ap, rfl, G6, np, d6⟩
  have c6 := c5.trans (d6.mono c5.size)
  have X6 := X5.step d6
  have Y6 := Y5.step d6
  have P6 := P5.step d6
  have Q6 := Q5.step d6
  have T6 := T5.step d6
  clear d6 c5
  go_wp2_with fail
  refine (T3.out Ab _ _ (HT.out.below c6) Q6).mono ?_
  rintro e w7 ⟨Aq, rfl, H7, nq, d7⟩
  have c7 := c6.trans (d7.mono c6.size)
  have X7 := X6.step d7
  have Y7 := Y6.step d7
  have P7 := P6.step d7
  have Q7 := Q6.step d7
  have T7 := T6.step d7
  have G7 := G6.step d7
  clear d7 c6
  have F0 := Ow.fresh w7 w7.heap.size (Nat.le_refl _)
  obtain ⟨bp, op, rfl, _, _⟩ := G7.at_ 0 (by rw [L4.out]; exact Z1.out)
  obtain ⟨bq, oq, rfl, _, _⟩ := H7.at_ 0 (by rw [L5.out]; exact Z2.out)
  have GA := G7.alloc (Nat.le_refl _) (.cells #[] 42)
  have HA := H7.alloc (Nat.le_refl _) (.cells #[] 42)
  have BA := (Below.refl w7.heap.size w7).alloc (Nat.le_refl _) (.cells #[] 42)
  go_wp2_with (at_builtin; first
    | (refine append_some_g (w7.alloc (.cells #[] 42)) ?hgd (.tmp 134) (.tmp 135) ?ho w7.heap.size (.slice (some ⟨w7.heap.size, 0, none⟩) 0 0) [] ?hs F0 w7.heap.size ⟨bp, op, none⟩ ps.length ps ?hx GA ?c1 ?c2 (fun v1 wa O1 hg => ?_); (case hgd => rfl); (case ho => rfl); (case hs => rfl); (case hx => rfl); (case c1 => (have e1 := L4.out; have e2 := h256.out; simp; omega)); (case c2 => simp); rw [List.nil_append] at O1; have ba := F0.grow BA hg (by simp); have Hq := HA.below (F0.grow (Below.refl _ _) hg (by simp)); clear hg)
    | (go_loud (refine append_some_g wa ?hgd (.tmp 136) (.tmp 137) ?ho w7.heap.size v1 ps ?hs O1 w7.heap.size ⟨bq, oq, none⟩ qs.length qs ?hx Hq ?c1 ?c2 (fun v2 wb O2 hg2 => ?_)); (case hgd => rfl); (case ho => rfl); (case hs => rfl); (case hx => rfl); (case c1 => (have e1 := L4.out; have e2 := h256.out; have e3 := L5.out; have e4 := h257.out; omega)); (case c2 => exact ba.size); rw [TH.out] at O2; have bb := O1.grow ba hg2 ba.size; obtain ⟨Az, cz, rfl, Wz⟩ := O2.ws TLT.out; clear O2 hg2))
  have Tz := T7.step bb
  have cz2 := c7.trans (bb.mono c7.size)
  clear O1 ba bb Hq c7
  refine (Sm.same At Az _ _ _ _ ts rfl rfl (by rw [L3.out]; omega) _ Tz Wz).mono ?_
  rintro e wc ⟨rfl, dc⟩
  have cc := cz2.trans (dc.mono cz2.size)
  clear dc cz2
  go_wp2
  go_ret
  exact ⟨by simp [go_sem], cc⟩

set_option maxHeartbeats 1000000 in
set_option maxRecDepth 100000 in
theorem walk_ok_none (A B : Option Addr) (ca cb : Nat) (xs ys : List Nat) (hx : xs.length ≤ 256) (hy : ys.length ≤ 256) (h : xs.length = ys.length ∨ xs.length = ys.length + 1) (hf : ∀ j : Nat, j ≤ 32 → (xs.length : Int) ≠ ((2 ^ j : Nat) : Int)) (w : World) (hT : Ft.Tab w) (R : Ws w w.heap.size A xs) (S : Ws w w.heap.size B ys) :
    Calls Tryd.prog 4 #[.slice A xs.length ca, .slice B ys.length cb] w fun e w' => e = .returned (.bool true) ∧ Below w.heap.size w w' := by
  have g1 : ¬ 256 < (xs.length : Int) := by omega
  have g2 : ¬ 256 < (ys.length : Int) := by omega
  have EL := Lib.hid (ev_lt xs R.lt)
  have OL := Lib.hid (od_lt xs R.lt)
  have XL := Lib.hid R.lt
  have YL := Lib.hid S.lt
  have HT := Lib.hid hT
  have E1 := Lib.hid (fun W R => even A ca xs (by omega) W R)
  have V1 := Lib.hid (fun A1 B1 c1 d1 W R S => weave_parts A1 B1 c1 d1 xs hx W R S)
  have DF := diff xs
  obtain ⟨d, hd⟩ : ∃ d, d = xs.length % 2 := ⟨_, rfl⟩
  rw [← hd] at DF
  have DM : (xs.length : Int).tmod 2 = (d : Int) := by rw [hd]; rfl
  have d2 : d < 2 := by omega
  have l1 : (ev xs xs.length).length ≤ 256 := by rw [ev_len]; omega
  have l2 : (od xs xs.length).length ≤ 256 := by rw [od_len]; omega
  have o1 : ¬ (xs.length : Int) < (ys.length : Int) := by omega
  have o2 : ¬ 1 < (xs.length : Int) - (ys.length : Int) := by omega
  have V2 := Lib.hid (fun W R S => weave A B ca cb xs ys (by omega) (by omega) h W R S)
  have E2 := Lib.hid (fun A1 c1 W R => even_wv A1 c1 xs ys h hx hy W R)
  have nf := fun W => Ft.fits_none (xs.length : Int) hf W
  have T1 := Lib.hid (fun W => turn_none A xs.length ca (by omega) nf W)
  clear nf hf
  clear hT hd h
  go_enter Tryd.func4, Tryd.ntmps4
  go_wp2_with fail
  refine (Rv.awake _).mono ?_
  rintro e w1 ⟨rfl, c1⟩
  have X1 := R.step c1
  have Y1 := S.step c1
  go_wp2_with fail
  refine (E1.out _ X1).mono ?_
  rintro e w2 ⟨va, vb, rfl, Oa, Ob, d2⟩
  have c2 := c1.trans (d2.mono c1.size)
  have X2 := X1.step d2
  have Y2 := Y1.step d2
  clear d2 c1
  obtain ⟨Aa, pa, rfl, P2⟩ := Oa.ws EL.out
  obtain ⟨Ab, pb, rfl, Q2⟩ := Ob.ws OL.out
  clear Oa Ob
  go_wp2_with fail
  refine (V1.out Aa Ab _ _ _ P2 Q2).mono ?_
  rintro e w3 ⟨Aw, rfl, Z3, _, d3⟩
  have c3 := c2.trans (d3.mono c2.size)
  have X3 := X2.step d3
  have Y3 := Y2.step d3
  have P3 := P2.step d3
  have Q3 := Q2.step d3
  clear d3 c2
  go_wp2_with fail
  refine (Sm.same Aw A _ _ _ _ xs rfl rfl (by omega) _ Z3 X3).mono ?_
  rintro e w4 ⟨rfl, d4⟩
  have c4 := c3.trans (d4.mono c3.size)
  have X4 := X3.step d4
  have Y4 := Y3.step d4
  have P4 := P3.step d4
  have Q4 := Q3.step d4
  have Z4 := Z3.step d4
  clear d4 c3
  go_wp2_with fail
  refine (V2.out _ X4 Y4).mono ?_
  rintro e w5 ⟨Ax, rfl, Z5, _, d5⟩
  have c5 := c4.trans (d5.mono c4.size)
  have X5 := X4.step d5
  have Y5 := Y4.step d5
  have P5 := P4.step d5
  have Q5 := Q4.step d5
  clear d5 c4
  go_wp2_with fail
  refine (E2.out Ax _ _ Z5).mono ?_
  rintro e w6 ⟨vc, vd, rfl, Oc, Od, d6⟩
  have c6 := c5.trans (d6.mono c5.size)
  have X6 := X5.step d6
  have Y6 := Y5.step d6
  have P6 := P5.step d6
  have Q6 := Q5.step d6
  have Z6 := Z5.step d6
  clear d6 c5
  obtain ⟨Ac, pc, rfl, U6⟩ := Oc.ws XL.out
  obtain ⟨Ad, pd, rfl, V6⟩ := Od.ws YL.out
  clear Oc Od
  go_wp2_with fail
  refine (Sm.same Ac A _ _ _ _ xs rfl rfl (by omega) _ U6 X6).mono ?_
  rintro e w7 ⟨rfl, d7⟩
  have c7 := c6.trans (d7.mono c6.size)
  have X7 := X6.step d7
  have Y7 := Y6.step d7
  have P7 := P6.step d7
  have Q7 := Q6.step d7
  have U7 := U6.step d7
  have V7 := V6.step d7
  clear d7 c6
  go_wp2_with fail
  refine (Sm.same Ad B _ _ _ _ ys rfl rfl (by omega) _ V7 Y7).mono ?_
  rintro e w8 ⟨rfl, d8⟩
  have c8 := c7.trans (d8.mono c7.size)
  have X8 := X7.step d8
  have Y8 := Y7.step d8
  have P8 := P7.step d8
  have Q8 := Q7.step d8
  have U8 := U7.step d8
  have V8 := V7.step d8
  clear d8 c7
  go_wp2_with fail
  refine (T1.out _).mono ?_
  rintro e w9 ⟨rfl, rfl⟩
  go_wp2
  go_ret
  exact ⟨by simp [go_sem], c8⟩

set_option maxHeartbeats 1000000 in
set_option maxRecDepth 100000 in
theorem walk_ok_one (A B : Option Addr) (ca cb : Nat) (xs ys : List Nat) (hx : xs.length ≤ 256) (hy : ys.length ≤ 256) (h : xs.length = ys.length ∨ xs.length = ys.length + 1) (h1l : xs.length = 2 ^ 0) (w : World) (hT : Ft.Tab w) (R : Ws w w.heap.size A xs) (S : Ws w w.heap.size B ys) :
    Calls Tryd.prog 4 #[.slice A xs.length ca, .slice B ys.length cb] w fun e w' => e = .returned (.bool true) ∧ Below w.heap.size w w' := by
  have g1 : ¬ 256 < (xs.length : Int) := by omega
  have g2 : ¬ 256 < (ys.length : Int) := by omega
  have EL := Lib.hid (ev_lt xs R.lt)
  have OL := Lib.hid (od_lt xs R.lt)
  have XL := Lib.hid R.lt
  have YL := Lib.hid S.lt
  have HT := Lib.hid hT
  have E1 := Lib.hid (fun W R => even A ca xs (by omega) W R)
  have V1 := Lib.hid (fun A1 B1 c1 d1 W R S => weave_parts A1 B1 c1 d1 xs hx W R S)
  have DF := diff xs
  obtain ⟨d, hd⟩ : ∃ d, d = xs.length % 2 := ⟨_, rfl⟩
  rw [← hd] at DF
  have DM : (xs.length : Int).tmod 2 = (d : Int) := by rw [hd]; rfl
  have d2 : d < 2 := by omega
  have l1 : (ev xs xs.length).length ≤ 256 := by rw [ev_len]; omega
  have l2 : (od xs xs.length).length ≤ 256 := by rw [od_len]; omega
  have o1 : ¬ (xs.length : Int) < (ys.length : Int) := by omega
  have o2 : ¬ 1 < (xs.length : Int) - (ys.length : Int) := by omega
  have V2 := Lib.hid (fun W R S => weave A B ca cb xs ys (by omega) (by omega) h W R S)
  have E2 := Lib.hid (fun A1 c1 W R => even_wv A1 c1 xs ys h hx hy W R)
  have T1 := Lib.hid (fun W T R => turn A ca 0 xs h1l (by decide) W T R)
  have t1 : (xs.length : Int) < 2 := by rw [h1l]; decide
  clear h1l
  clear hT hd h
  go_enter Tryd.func4, Tryd.ntmps4
  go_wp2_with fail
  refine (Rv.awake _).mono ?_
  rintro e w1 ⟨rfl, c1⟩
  have X1 := R.step c1
  have Y1 := S.step c1
  go_wp2_with fail
  refine (E1.out _ X1).mono ?_
  rintro e w2 ⟨va, vb, rfl, Oa, Ob, d2⟩
  have c2 := c1.trans (d2.mono c1.size)
  have X2 := X1.step d2
  have Y2 := Y1.step d2
  clear d2 c1
  obtain ⟨Aa, pa, rfl, P2⟩ := Oa.ws EL.out
  obtain ⟨Ab, pb, rfl, Q2⟩ := Ob.ws OL.out
  clear Oa Ob
  go_wp2_with fail
  refine (V1.out Aa Ab _ _ _ P2 Q2).mono ?_
  rintro e w3 ⟨Aw, rfl, Z3, _, d3⟩
  have c3 := c2.trans (d3.mono c2.size)
  have X3 := X2.step d3
  have Y3 := Y2.step d3
  have P3 := P2.step d3
  have Q3 := Q2.step d3
  clear d3 c2
  go_wp2_with fail
  refine (Sm.same Aw A _ _ _ _ xs rfl rfl (by omega) _ Z3 X3).mono ?_
  rintro e w4 ⟨rfl, d4⟩
  have c4 := c3.trans (d4.mono c3.size)
  have X4 := X3.step d4
  have Y4 := Y3.step d4
  have P4 := P3.step d4
  have Q4 := Q3.step d4
  have Z4 := Z3.step d4
  clear d4 c3
  go_wp2_with fail
  refine (V2.out _ X4 Y4).mono ?_
  rintro e w5 ⟨Ax, rfl, Z5, _, d5⟩
  have c5 := c4.trans (d5.mono c4.size)
  have X5 := X4.step d5
  have Y5 := Y4.step d5
  have P5 := P4.step d5
  have Q5 := Q4.step d5
  clear d5 c4
  go_wp2_with fail
  refine (E2.out Ax _ _ Z5).mono ?_
  rintro e w6 ⟨vc, vd, rfl, Oc, Od, d6⟩
  have c6 := c5.trans (d6.mono c5.size)
  have X6 := X5.step d6
  have Y6 := Y5.step d6
  have P6 := P5.step d6
  have Q6 := Q5.step d6
  have Z6 := Z5.step d6
  clear d6 c5
  obtain ⟨Ac, pc, rfl, U6⟩ := Oc.ws XL.out
  obtain ⟨Ad, pd, rfl, V6⟩ := Od.ws YL.out
  clear Oc Od
  go_wp2_with fail
  refine (Sm.same Ac A _ _ _ _ xs rfl rfl (by omega) _ U6 X6).mono ?_
  rintro e w7 ⟨rfl, d7⟩
  have c7 := c6.trans (d7.mono c6.size)
  have X7 := X6.step d7
  have Y7 := Y6.step d7
  have P7 := P6.step d7
  have Q7 := Q6.step d7
  have U7 := U6.step d7
  have V7 := V6.step d7
  clear d7 c6
  go_wp2_with fail
  refine (Sm.same Ad B _ _ _ _ ys rfl rfl (by omega) _ V7 Y7).mono ?_
  rintro e w8 ⟨rfl, d8⟩
  have c8 := c7.trans (d8.mono c7.size)
  have X8 := X7.step d8
  have Y8 := Y7.step d8
  have P8 := P7.step d8
  have Q8 := Q7.step d8
  have U8 := U7.step d8
  have V8 := V7.step d8
  clear d8 c7
  go_wp2_with fail
  refine (T1.out _ (HT.out.below c8) X8).mono ?_
  rintro e w9 ⟨At, rfl, T9, _, d9⟩
  have c9 := c8.trans (d9.mono c8.size)
  have X9 := X8.step d9
  have Y9 := Y8.step d9
  have P9 := P8.step d9
  have Q9 := Q8.step d9
  clear d9 c8
  go_wp2
  go_ret
  exact ⟨by simp [go_sem], c9⟩

set_option maxHeartbeats 1000000 in
set_option maxRecDepth 100000 in
theorem walk_ok_many (A B : Option Addr) (ca cb : Nat) (xs ys : List Nat) (hx : xs.length ≤ 256) (hy : ys.length ≤ 256) (h : xs.length = ys.length ∨ xs.length = ys.length + 1) (k : Nat) (hk : k ≤ 31) (hkl : xs.length = 2 ^ (k + 1)) (w : World) (hT : Ft.Tab w) (R : Ws w w.heap.size A xs) (S : Ws w w.heap.size B ys) :
    Calls Tryd.prog 4 #[.slice A xs.length ca, .slice B ys.length cb] w fun e w' => e = .returned (.bool true) ∧ Below w.heap.size w w' := by
  have g1 : ¬ 256 < (xs.length : Int) := by omega
  have g2 : ¬ 256 < (ys.length : Int) := by omega
  have EL := Lib.hid (ev_lt xs R.lt)
  have OL := Lib.hid (od_lt xs R.lt)
  have XL := Lib.hid R.lt
  have YL := Lib.hid S.lt
  have HT := Lib.hid hT
  have E1 := Lib.hid (fun W R => even A ca xs (by omega) W R)
  have V1 := Lib.hid (fun A1 B1 c1 d1 W R S => weave_parts A1 B1 c1 d1 xs hx W R S)
  have DF := diff xs
  obtain ⟨d, hd⟩ : ∃ d, d = xs.length % 2 := ⟨_, rfl⟩
  rw [← hd] at DF
  have DM : (xs.length : Int).tmod 2 = (d : Int) := by rw [hd]; rfl
  have d2 : d < 2 := by omega
  have l1 : (ev xs xs.length).length ≤ 256 := by rw [ev_len]; omega
  have l2 : (od xs xs.length).length ≤ 256 := by rw [od_len]; omega
  have o1 : ¬ (xs.length : Int) < (ys.length : Int) := by omega
  have o2 : ¬ 1 < (xs.length : Int) - (ys.length : Int) := by omega
  have V2 := Lib.hid (fun W R S => weave A B ca cb xs ys (by omega) (by omega) h W R S)
  have E2 := Lib.hid (fun A1 c1 W R => even_wv A1 c1 xs ys h hx hy W R)
  have hp : xs.length = 2 * 2 ^ k := by rw [hkl, Nat.pow_succ, Nat.mul_comm]
  have hp0 : 0 < 2 ^ k := Nat.two_pow_pos k
  have t1 : ¬ (xs.length : Int) < 2 := by omega
  have T1 := Lib.hid (fun W T R => turn A ca (k + 1) xs hkl (by omega) W T R)
  have T2 := Lib.hid (fun A1 c1 W T R => turn A1 c1 k (ev xs xs.length) (by rw [ev_len]; omega) (by omega) W T R)
  have T3 := Lib.hid (fun A1 c1 W T R => turn A1 c1 k (od xs xs.length) (by rw [od_len]; omega) (by omega) W T R)
  have TH := Lib.hid (tl_halves k xs hkl)
  have TLT := Lib.hid (tl_lt (k + 1) xs hkl R.lt)
  have L3 := Lib.hid (tl_len (k + 1) 1 xs)
  have L4 := Lib.hid (tl_len k 1 (ev xs xs.length))
  have L5 := Lib.hid (tl_len k 1 (od xs xs.length))
  have h256 := Lib.hid l1
  have h257 := Lib.hid l2
  generalize tl (k + 1) 1 xs = ts at *
  generalize tl k 1 (ev xs xs.length) = ps at *
  generalize tl k 1 (od xs xs.length) = qs at *
  have Z1 := Lib.hid (show 0 < (ev xs xs.length).length by rw [ev_len]; omega)
  have Z2 := Lib.hid (show 0 < (od xs xs.length).length by rw [od_len]; omega)
  clear hp hp0 hkl
  clear hT hd h
  go_enter Tryd.func4, Tryd.ntmps4
  go_wp2_with fail
  refine (Rv.awake _).mono ?_
  rintro e w1 ⟨rfl, c1⟩
  have X1 := R.step c1
  have Y1 := S.step c1
  go_wp2_with fail
  refine (E1.out _ X1).mono ?_
  rintro e w2 ⟨va, vb, rfl, Oa, Ob, d2⟩
  have c2 := c1.trans (d2.mono c1.size)
  have X2 := X1.step d2
  have Y2 := Y1.step d2
  clear d2 c1
  obtain ⟨Aa, pa, rfl, P2⟩ := Oa.ws EL.out
  obtain ⟨Ab, pb, rfl, Q2⟩ := Ob.ws OL.out
  clear Oa Ob
  go_wp2_with fail
  refine (V1.out Aa Ab _ _ _ P2 Q2).mono ?_
  rintro e w3 ⟨Aw, rfl, Z3, _, d3⟩
  have c3 := c2.trans (d3.mono c2.size)
  have X3 := X2.step d3
  have Y3 := Y2.step d3
  have P3 := P2.step d3
  have Q3 := Q2.step d3
  clear d3 c2
  go_wp2_with fail
  refine (Sm.same Aw A _ _ _ _ xs rfl rfl (by omega) _ Z3 X3).mono ?_
  rintro e w4 ⟨rfl, d4⟩
  have c4 := c3.trans (d4.mono c3.size)
  have X4 := X3.step d4
  have Y4 := Y3.step d4
  have P4 := P3.step d4
  have Q4 := Q3.step d4
  have Z4 := Z3.step d4
  clear d4 c3
  go_wp2_with fail
  refine (V2.out _ X4 Y4).mono ?_
  rintro e w5 ⟨Ax, rfl, Z5, _, d5⟩
  have c5 := c4.trans (d5.mono c4.size)
  have X5 := X4.step d5
  have Y5 := Y4.step d5
  have P5 := P4.step d5
  have Q5 := Q4.step d5
  clear d5 c4
  go_wp2_with fail
  refine (E2.out Ax _ _ Z5).mono ?_
  rintro e w6 ⟨vc, vd, rfl, Oc, Od, d6⟩
  have c6 := c5.trans (d6.mono c5.size)
  have X6 := X5.step d6
  have Y6 := Y5.step d6
  have P6 := P5.step d6
  have Q6 := Q5.step d6
  have Z6 := Z5.step d6
  clear d6 c5
  obtain ⟨Ac, pc, rfl, U6⟩ := Oc.ws XL.out
  obtain ⟨Ad, pd, rfl, V6⟩ := Od.ws YL.out
  clear Oc Od
  go_wp2_with fail
  refine (Sm.same Ac A _ _ _ _ xs rfl rfl (by omega) _ U6 X6).mono ?_
  rintro e w7 ⟨rfl, d7⟩
  have c7 := c6.trans (d7.mono c6.size)
  have X7 := X6.step d7
  have Y7 := Y6.step d7
  have P7 := P6.step d7
  have Q7 := Q6.step d7
  have U7 := U6.step d7
  have V7 := V6.step d7
  clear d7 c6
  go_wp2_with fail
  refine (Sm.same Ad B _ _ _ _ ys rfl rfl (by omega) _ V7 Y7).mono ?_
  rintro e w8 ⟨rfl, d8⟩
  have c8 := c7.trans (d8.mono c7.size)
  have X8 := X7.step d8
  have Y8 := Y7.step d8
  have P8 := P7.step d8
  have Q8 := Q7.step d8
  have U8 := U7.step d8
  have V8 := V7.step d8
  clear d8 c7
  go_wp2_with fail
  refine (T1.out _ (HT.out.below c8) X8).mono ?_
  rintro e w9 ⟨At, rfl, T9, _, d9⟩
  have c9 := c8.trans (d9.mono c8.size)
  have X9 := X8.step d9
  have Y9 := Y8.step d9
  have P9 := P8.step d9
  have Q9 := Q8.step d9
  clear d9 c8
  go_wp2_with fail
  refine (T2.out Aa _ _ (HT.out.below c9) P9).mono ?_
  rintro e w10 ⟨Ap, rfl, G10, np, d10⟩
  have c10 := c9.trans (d10.mono c9.size)
  have X10 := X9.step d10
  have Y10 := Y9.step d10
  have P10 := P9.step d10
  have Q10 := Q9.step d10
  have T10 := T9.step d10
  clear d10 c9
  go_wp2_with fail
  refine (T3.out Ab _ _ (HT.out.below c10) Q10).mono ?_
  rintro e w11 ⟨Aq, rfl, H11, nq, d11⟩
  have c11 := c10.trans (d11.mono c10.size)
  have X11 := X10.step d11
  have Y11 := Y10.step d11
  have P11 := P10.step d11
  have Q11 := Q10.step d11
  have T11 := T10.step d11
  have G11 := G10.step d11
  clear d11 c10
  have F0 := Ow.fresh w11 w11.heap.size (Nat.le_refl _)
  obtain ⟨bp, op, rfl, _, _⟩ := G11.at_ 0 (by rw [L4.out]; exact Z1.out)
  obtain ⟨bq, oq, rfl, _, _⟩ := H11.at_ 0 (by rw [L5.out]; exact Z2.out)
  have GA := G11.alloc (Nat.le_refl _) (.cells #[] 42)
  have HA := H11.alloc (Nat.le_refl _) (.cells #[] 42)
  have BA := (Below.refl w11.heap.size w11).alloc (Nat.le_refl _) (.cells #[] 42)
  go_wp2_with (at_builtin; first
    | (refine append_some_g (w11.alloc (.cells #[] 42)) ?hgd (.tmp 134) (.tmp 135) ?ho w11.heap.size (.slice (some ⟨w11.heap.size, 0, none⟩) 0 0) [] ?hs F0 w11.heap.size ⟨bp, op, none⟩ ps.length ps ?hx GA ?c1 ?c2 (fun v1 wa O1 hg => ?_); (case hgd => rfl); (case ho => rfl); (case hs => rfl); (case hx => rfl); (case c1 => (have e1 := L4.out; have e2 := h256.out; simp; omega)); (case c2 => simp); rw [List.nil_append] at O1; have ba := F0.grow BA hg (by simp); have Hq := HA.below (F0.grow (Below.refl _ _) hg (by simp)); clear hg)
    | (go_loud (refine append_some_g wa ?hgd (.tmp 136) (.tmp 137) ?ho w11.heap.size v1 ps ?hs O1 w11.heap.size ⟨bq, oq, none⟩ qs.length qs ?hx Hq ?c1 ?c2 (fun v2 wb O2 hg2 => ?_)); (case hgd => rfl); (case ho => rfl); (case hs => rfl); (case hx => rfl); (case c1 => (have e1 := L4.out; have e2 := h256.out; have e3 := L5.out; have e4 := h257.out; omega)); (case c2 => exact ba.size); rw [TH.out] at O2; have bb := O1.grow ba hg2 ba.size; obtain ⟨Az, cz, rfl, Wz⟩ := O2.ws TLT.out; clear O2 hg2))
  have Tz := T11.step bb
  have cz2 := c11.trans (bb.mono c11.size)
  clear O1 ba bb Hq c11
  refine (Sm.same At Az _ _ _ _ ts rfl rfl (by rw [L3.out]; omega) _ Tz Wz).mono ?_
  rintro e wc ⟨rfl, dc⟩
  have cc := cz2.trans (dc.mono cz2.size)
  clear dc cz2
  go_wp2
  go_ret
  exact ⟨by simp [go_sem], cc⟩

theorem walk (A B : Option Addr) (ca cb : Nat) (xs ys : List Nat) (hm : xs.length ≤ 9223372036854775807) (hm2 : ys.length ≤ 9223372036854775807) (w : World) (hT : Ft.Tab w) (R : Ws w w.heap.size A xs) (S : Ws w w.heap.size B ys) :
    Calls Tryd.prog 4 #[.slice A xs.length ca, .slice B ys.length cb] w fun e w' => e = .returned (.bool true) ∧ Below w.heap.size w w' := by
  by_cases hx : 256 < xs.length
  · exact walk_long A B ca cb xs ys hx hm w
  by_cases hy : 256 < ys.length
  · exact walk_long2 A B ca cb xs ys (by omega) hy hm2 w
  have hx' : xs.length ≤ 256 := by omega
  have hy' : ys.length ≤ 256 := by omega
  by_cases h : ∃ j : Nat, j ≤ 32 ∧ (xs.length : Int) = ((2 ^ j : Nat) : Int)
  · obtain ⟨k, hk, e⟩ := h
    have e2 : xs.length = 2 ^ k := by omega
    clear e
    rcases k with _ | k
    · rcases (show xs.length < ys.length ∨ ys.length + 1 < xs.length ∨ (xs.length = ys.length ∨ xs.length = ys.length + 1) by omega) with c | c | c
      · exact walk_lt_one A B ca cb xs ys hx' hy' c e2 w hT R S
      · exact absurd (show xs.length = 1 from e2) (by omega)
      · exact walk_ok_one A B ca cb xs ys hx' hy' c e2 w hT R S
    · rcases (show xs.length < ys.length ∨ ys.length + 1 < xs.length ∨ (xs.length = ys.length ∨ xs.length = ys.length + 1) by omega) with c | c | c
      · exact walk_lt_many A B ca cb xs ys hx' hy' c k (by omega) e2 w hT R S
      · exact walk_gt_many A B ca cb xs ys hx' hy' c k (by omega) e2 w hT R S
      · exact walk_ok_many A B ca cb xs ys hx' hy' c k (by omega) e2 w hT R S
  · have hf : ∀ j : Nat, j ≤ 32 → (xs.length : Int) ≠ ((2 ^ j : Nat) : Int) := fun j hj e => h ⟨j, hj, e⟩
    rcases (show xs.length < ys.length ∨ ys.length + 1 < xs.length ∨ (xs.length = ys.length ∨ xs.length = ys.length + 1) by omega) with c | c | c
    · exact walk_lt_none A B ca cb xs ys hx' hy' c hf w hT R S
    · exact walk_gt_none A B ca cb xs ys hx' hy' c hf w hT R S
    · exact walk_ok_none A B ca cb xs ys hx' hy' c hf w hT R S

theorem g32 : Tryd.prog.globalNamed "math/bits.deBruijn32tab" = some 0 := by kernel_rfl
theorem g64 : Tryd.prog.globalNamed "math/bits.deBruijn64tab" = some 1 := by kernel_rfl
theorem t64 : (Tryd.prog.globals[1]?).map (·.type) = some 51 := by kernel_rfl
/-- What the row's condition gives the walk: the table's cells. -/
theorem of_laid {W : World} (h : laidMetH Tryd.prog Rows.revHalvesRow.laid W) : Ft.Tab W := by
  rw [MakeChecks.laidMetH_plain _ _ _ (by kernel_rfl)] at h
  obtain ⟨ps, ⟨g0, t0, cs0, f0, p0, q0, hg0, ht0, hv0, hd0, ⟨g1, t1, cs1, f1, p1, q1, hg1, ht1, hv1, hd1, _, _⟩, _⟩, _, _⟩ := h
  obtain rfl := Option.some.inj (g64.symm.trans hg1)
  obtain rfl := Option.some.inj (t64.symm.trans ht1)
  have hd2 : DataW.trod _ Tryd.prog W 0 _ false f1 51 cs1.toList = some (Lib.tabData .u8 (Lib.deBruijn64tab.map Int.ofNat), p1) := hd1
  have hc := Lib.cells_of_tab Tryd.underlying51 Tryd.underlying5 (by kernel_rfl) (by kernel_rfl) hd2
  intro i hi
  have c := World.var?_cell hg1 hv1 i
  rw [c, ← Array.getElem?_toList, hc]
  have hl : Lib.deBruijn64tab.length = 64 := by decide
  simp [List.getD, hl, hi]

/-- The door's own heap meets the condition. -/
theorem door_met (os : Os) (args : Array Value) : laidMetH Tryd.prog Rows.revHalvesRow.laid ((World.doorLaid Tryd.prog 400 os).forCall (fun _ _ => 0) ⟨#[], args, []⟩).memory :=
  laidMetH_of_parts3 (fuel := 8) (laidMet_of_run' 8 (by kernel_rfl) (by kernel_rfl)) (by kernel_rfl) (by kernel_rfl)
set_option maxRecDepth 100000 in
theorem lifted (os : Os) (started : os.Started) (H : Type) (enc : TypeId × Value → H) :
    ReturnsInHanded {} Tryd.checked os 4 .any (fun w args => (Rows.revHalvesSpec.pre enc Tryd.prog Tryd.f4 [] false w args ∧ laidMetH Tryd.prog Rows.revHalvesRow.laid w) ∧ sizedMet enc Tryd.prog Tryd.f4 (OpenSpec.ofChange Rows.revHalvesSpec) false w args)
      (Rows.revHalvesSpec.post enc Tryd.prog Tryd.f4 false true false false) := by
  refine returnsInHanded_of_change_and (C := Tryd.checked) (X := fun w _ => laidMetH Tryd.prog Rows.revHalvesRow.laid w) (fun _ _ _ hh h => h.of_heap hh) Fr.own started (by kernel_rfl) Tryd.func4
    (ChangeSpec.witness_shaped (enc := enc) (C := Tryd.checked) (os := os) (X := fun w _ => laidMetH Tryd.prog Rows.revHalvesRow.laid w) false (World.doorLaid Tryd.prog 400 os) #[.slice none 0 0, .slice none 0 0] 8 rfl (World.shaped_of_RefB (by kernel_rfl) (by kernel_rfl)) (by kernel_rfl) (by kernel_rfl) (by kernel_rfl) (door_met os _)) ?_
  intro W base args ds gs before hval0 hW _ _ hL _
  have hval : ∀ (j : Nat) t v, Tryd.f4.params[j]? = some t → args[j]? = some v → Value.okWide Tryd.prog W .any base t v := hval0
  have hW' := hW
  obtain ⟨p, q, hA0, hV, rfl, hfz, hnd⟩ := hW
  have hA : DataW.TrodAll enc Tryd.prog W 0 (fun _ => true) true Tryd.f4.params.toList args.toList ds p := hA0
  obtain ⟨rfl, rfl⟩ := trodVars_none hV
  rw [Tryd.params4] at hA hval
  obtain ⟨v0, vs0, d0, ds0, p0, q0, hargs, rfl, rfl, h0, r0⟩ := trodAll_cons hA
  obtain ⟨v1, vs1, d1, ds1, p1, q1, rfl, rfl, rfl, h1, r1⟩ := trodAll_cons r0
  obtain ⟨rfl, rfl, rfl⟩ := trodAll_nil r1
  obtain rfl : args = #[v0, v1] := by cases args; simp_all
  obtain ⟨A0, n0, c0, rfl⟩ := okWide_slice Tryd.underlying22 (hval 0 22 v0 rfl rfl)
  obtain ⟨fuel0, hf0⟩ := h0
  obtain ⟨xs0, rfl, lc0, lm0, R0⟩ := Ww.open_words hf0
  obtain ⟨A1, n1, c1, rfl⟩ := okWide_slice Tryd.underlying22 (hval 1 22 v1 rfl rfl)
  obtain ⟨fuel1, hf1⟩ := h1
  obtain ⟨xs1, rfl, lc1, lm1, R1⟩ := Ww.open_words hf1
  simp only [List.append_nil] at hW' hA0
  refine (walk A0 A1 c0 c1 xs0 xs1 (by omega) (by omega) W (of_laid hL) R0 R1).mono fun e W' ⟨he, hb⟩ => ?_
  subst he
  exact ⟨_, rfl, Fr.law_post (tb := 4) hW' hA0 rfl rfl rfl Tryd.underlying4 (by rw [Tryd.params4]; intro t ht; simp at ht; rcases ht with rfl | rfl; all_goals exact ⟨by kernel_rfl, of_decide_eq_true (by kernel_rfl)⟩) hb⟩

theorem row_holds : Rows.RevHalvesSaid :=
  OpenClaim.holds_of_wide 4 Tryd.f4 rfl rfl rfl rfl rfl rfl rfl ⟨rfl, rfl, rfl, rfl, rfl⟩ rfl rfl rfl rfl rfl (by kernel_rfl) Tryd.func4 (by kernel_rfl)
    (of_decide_eq_true (by kernel_rfl)) (by unfold Func.isWrapper; first | (rw [if_pos (by decide +kernel)]; kernel_rfl) | (rw [if_neg (by decide +kernel)]; exact ⟨rfl, rfl⟩))
    (fun os started H enc _ => lifted os started H enc)

theorem proved : Rows.RevHalvesCardSaid :=
  Claim7.holds_tied_plain_at .later [] [.data, .data] true Rows.revHalvesCard.stood.harness false
    row_holds (fun _ h => by cases h) (by kernel_rfl) (fun _ h => by cases h) revHalves_row_tie rfl ⟨rfl, rfl⟩ (by kernel_rfl) rfl
    (fun f fn hf hfn => by
      obtain rfl : f = 4 := Option.some.inj ((show Tryd.prog.funcNamed "abacist/abacistlaw05.RevHalves" = some 4 by kernel_rfl).symm.trans hf) |>.symm
      obtain rfl : fn = Tryd.f4 := (Option.some.inj (Tryd.func4.symm.trans hfn)).symm
      exact ⟨by kernel_rfl, fun j t ht => by
        rw [Tryd.params4] at ht
        have hm : t ∈ [22] := by simpa using Array.mem_of_getElem? ht
        have hall : ([22].all fun u => !Tryd.prog.wantsStandIn u) = true := by kernel_rfl
        exact (show Tryd.prog.wantsStandIn t = false by simpa using List.all_eq_true.1 hall t hm)⟩)
    (by kernel_rfl)
end Go.Proofs.YtkijcefelgiolaaDoor.revHalves
