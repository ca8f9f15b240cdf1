/- Contracts of package rev's Even and Weave. -/
import Derived.Test.YtkijcefelgiolaaDoorRevP
set_option linter.unusedVariables false
namespace Go.Proofs.YtkijcefelgiolaaDoor
open Go.RowKit Go.Lib
namespace Rv
open Rn Ww

/-- Of the first j words those at even places. -/
def ev (xs : List Nat) (j : Nat) : List Nat := (List.range ((j + 1) / 2)).map fun i => xs.getD (2 * i) 0
/-- .. those at odd ones. -/
def od (xs : List Nat) (j : Nat) : List Nat := (List.range (j / 2)).map fun i => xs.getD (2 * i + 1) 0
theorem ev_len (xs : List Nat) (j : Nat) : (ev xs j).length = (j + 1) / 2 := by simp [ev]
theorem od_len (xs : List Nat) (j : Nat) : (od xs j).length = j / 2 := by simp [od]
theorem ev_at (xs : List Nat) (j i : Nat) (h : i < (j + 1) / 2) : (ev xs j).getD i 0 = xs.getD (2 * i) 0 := by simp [ev, List.getD, h]
theorem od_at (xs : List Nat) (j i : Nat) (h : i < j / 2) : (od xs j).getD i 0 = xs.getD (2 * i + 1) 0 := by simp [od, List.getD, h]
theorem ev_even (xs : List Nat) (j : Nat) (h : j % 2 = 0) : ev xs (j + 1) = ev xs j ++ [xs.getD j 0] := by
  unfold ev
  rw [show (j + 1 + 1) / 2 = (j + 1) / 2 + 1 by omega, List.range_succ, List.map_append, List.map_singleton, show 2 * ((j + 1) / 2) = j by omega]
theorem ev_odd (xs : List Nat) (j : Nat) (h : j % 2 = 1) : ev xs (j + 1) = ev xs j := by
  unfold ev
  rw [show (j + 1 + 1) / 2 = (j + 1) / 2 by omega]
theorem od_odd (xs : List Nat) (j : Nat) (h : j % 2 = 1) : od xs (j + 1) = od xs j ++ [xs.getD j 0] := by
  unfold od
  rw [show (j + 1) / 2 = j / 2 + 1 by omega, List.range_succ, List.map_append, List.map_singleton, show 2 * (j / 2) + 1 = j by omega]
theorem od_even (xs : List Nat) (j : Nat) (h : j % 2 = 0) : od xs (j + 1) = od xs j := by
  unfold od
  rw [show (j + 1) / 2 = j / 2 by omega]
/-- What Even's loop has built. -/
structure EvI (w wr : World) (v u : Value) (j : Nat) (xs : List Nat) : Prop where
  e : Ow wr w.heap.size v (ev xs j)
  o : Ow wr w.heap.size u (od xs j)
  a : Apart v u
  b : Below w.heap.size w wr
/-- What Even answers. -/
def EvOut (xs : List Nat) (w : World) (e : Ending) (w' : World) : Prop :=
  ∃ v u, e = .returned (.tuple #[v, u]) ∧ Ow w' w.heap.size v (ev xs xs.length) ∧ Ow w' w.heap.size u (od xs xs.length) ∧ Below w.heap.size w w'
theorem EvI.even {w wr w1 : World} {v u v1 : Value} {j : Nat} {xs : List Nat} {ob : Obj} (I : EvI w wr v u j xs) (h : j % 2 = 0) (O1 : Ow w1 w.heap.size v1 (ev xs j ++ [xs.getD j 0])) (hg : (wr.alloc ob).grownBy w1 v.ownBlock) (hat : v1.ownBlock = v.ownBlock ∨ v1.ownBlock = some (wr.alloc ob).heap.size) : EvI w w1 v1 u (j + 1) xs :=
  ⟨by rw [ev_even xs j h]; exact O1, by rw [od_even xs j h]; exact (I.o.alloc ob).other I.a hg, I.a.grown (I.o.alloc ob) hat, (I.e.alloc ob).grow (I.b.alloc I.b.size _) hg (by have := I.b.size; simp; omega)⟩
theorem EvI.odd {w wr w1 : World} {v u u1 : Value} {j : Nat} {xs : List Nat} {ob : Obj} (I : EvI w wr v u j xs) (h : j % 2 = 1) (O1 : Ow w1 w.heap.size u1 (od xs j ++ [xs.getD j 0])) (hg : (wr.alloc ob).grownBy w1 u.ownBlock) (hat : u1.ownBlock = u.ownBlock ∨ u1.ownBlock = some (wr.alloc ob).heap.size) : EvI w w1 v u1 (j + 1) xs :=
  ⟨by rw [ev_odd xs j h]; exact (I.e.alloc ob).other I.a.symm hg, by rw [od_odd xs j h]; exact O1, (I.a.symm.grown (I.e.alloc ob) hat).symm, (I.o.alloc ob).grow (I.b.alloc I.b.size _) hg (by have := I.b.size; simp; omega)⟩

set_option maxHeartbeats 1000000 in
set_option maxRecDepth 100000 in
theorem even (A : Option Addr) (ca : Nat) (xs : List Nat) (hn : xs.length ≤ 1048576) (w : World) (R : Ws w w.heap.size A xs) :
    Calls Tryd.prog 11 #[.slice A xs.length ca] w (EvOut xs w) := by
  have I0 := Lib.hid (show EvI w w (.slice none 0 0) (.slice none 0 0) 0 xs from ⟨Ow.nil_ _ _, Ow.nil_ _ _, fun g h => by simp [Value.ownBlock] at h, Below.refl _ _⟩)
  have RR := Lib.hid R
  clear R
  go_enter Tryd.func11, Tryd.ntmps11
  go_wp2_with fail
  go_loopw [2, 3, 8] (fun v2 v3 v8 wr => ∃ j : Nat, v8 = .int .i64 (j : Int) ∧ j ≤ xs.length ∧ EvI w wr v2 v3 j xs) (fun _ _ v8 _ => xs.length - (Lib.intOf v8).toNat)
  case atStart => exact ⟨0, rfl, Nat.zero_le _, I0.out⟩
  case round =>
    obtain ⟨j, rfl, hj, I⟩ := hrel
    clear I0
    by_cases hlt : j < xs.length
    · have j1 : (j : Int) < xs.length := by omega
      have Rr := RR.out.below I.b
      obtain ⟨b, off, rfl, hB, c0⟩ := Rr.at_ j hlt
      have L1 := Lib.hid (ev_len xs j)
      have L2 := Lib.hid (od_len xs j)
      have hsz := I.b.size
      rcases Nat.mod_two_eq_zero_or_one j with hm | hm
      · have q1 : (j : Int).tmod 2 = 0 := by show ((j % 2 : Nat) : Int) = 0; rw [hm]; rfl
        have ST := Lib.hid (fun v1 w1 ob => I.even (w1 := w1) (v1 := v1) (ob := ob) hm)
        obtain ⟨x, hx⟩ : ∃ x, x = xs.getD j 0 := ⟨_, rfl⟩
        rw [← hx] at c0 ST
        clear Rr hm hx
        go_wp2_with (at_builtin; go_loud (refine append1_at (wr.alloc (.cells #[.int .u64 x] 42)) ?hgd (.tmp 16) (.tmp 18) ?ho w.heap.size u2 (ev xs j) ?hs (I.e.alloc _) wr.heap.size x ?hx (cut1 _ _ _) ?c1 ?c2 (fun v6 w1 O1 hg hat => ?_)); (case hgd => rfl); (case ho => rfl); (case hs => rfl); (case hx => rfl))
        case c1 => rw [L1.out]; omega
        case c2 => simp; omega
        have I2 := ST.out _ _ _ O1 hg hat
        clear ST O1 hg hat I
        go_wp2_with fail
        go_roundw
        case rel => exact ⟨j + 1, rfl, by omega, I2⟩
        case measure => simp [Lib.intOf]; omega
      · have q1 : (j : Int).tmod 2 = 1 := by show ((j % 2 : Nat) : Int) = 1; rw [hm]; rfl
        have ST := Lib.hid (fun v1 w1 ob => I.odd (w1 := w1) (u1 := v1) (ob := ob) hm)
        obtain ⟨x, hx⟩ : ∃ x, x = xs.getD j 0 := ⟨_, rfl⟩
        rw [← hx] at c0 ST
        clear Rr hm hx
        go_wp2_with (at_builtin; go_loud (refine append1_at (wr.alloc (.cells #[.int .u64 x] 42)) ?hgd (.tmp 20) (.tmp 22) ?ho w.heap.size u3 (od xs j) ?hs (I.o.alloc _) wr.heap.size x ?hx (cut1 _ _ _) ?c1 ?c2 (fun v6 w1 O1 hg hat => ?_)); (case hgd => rfl); (case ho => rfl); (case hs => rfl); (case hx => rfl))
        case c1 => rw [L2.out]; omega
        case c2 => simp; omega
        have I2 := ST.out _ _ _ O1 hg hat
        clear ST O1 hg hat I
        go_wp2_with fail
        go_roundw
        case rel => exact ⟨j + 1, rfl, by omega, I2⟩
        case measure => simp [Lib.intOf]; omega
    · have j1 : ¬ (j : Int) < xs.length := by omega
      obtain rfl : j = xs.length := by omega
      have OUT := Lib.hid (show EvOut xs w (.returned (.tuple #[u2, u3])) wr from ⟨_, _, rfl, I.e, I.o, I.b⟩)
      clear I RR
      go_wp2
      exact bodyPost_ret (v := .tuple #[u2, u3]) (by simp [results, Tryd.results11, go_sem]) rfl OUT.out

set_option maxHeartbeats 400000 in
theorem goes_even (i : Nat) (hi : i ≤ 1048576) (w : World) : Calls Tryd.prog 19 #[.int .i64 (i : Nat)] w fun e w' => e = .returned (.int .i64 ((2 * i : Nat) : Int)) ∧ w = w' := by
  obtain ⟨x, hx⟩ : ∃ x, x = 2 * i := ⟨_, rfl⟩
  have q : 2 * (i : Int) = (x : Int) := by omega
  rw [← hx]
  clear hx
  go_enter Tryd.func19, Tryd.ntmps19
  go_wp2
  go_ret
  exact ⟨rfl, rfl⟩
set_option maxHeartbeats 400000 in
theorem goes_odd (i : Nat) (hi : i ≤ 1048576) (w : World) : Calls Tryd.prog 20 #[.int .i64 (i : Nat)] w fun e w' => e = .returned (.int .i64 ((2 * i + 1 : Nat) : Int)) ∧ w = w' := by
  obtain ⟨x, hx⟩ : ∃ x, x = 2 * i := ⟨_, rfl⟩
  obtain ⟨y, hy⟩ : ∃ y, y = x + 1 := ⟨_, rfl⟩
  have q : 2 * (i : Int) = (x : Int) := by omega
  have q2 : (x : Int) + 1 = (y : Int) := by omega
  rw [← hx, ← hy]
  clear hx hy
  go_enter Tryd.func20, Tryd.ntmps20
  go_wp2
  go_ret
  exact ⟨rfl, rfl⟩
/-- The row of both. -/
def wv (xs ys : List Nat) : List Nat := (List.range (xs.length + ys.length)).map fun p => if p % 2 = 0 then xs.getD (p / 2) 0 else ys.getD (p / 2) 0
theorem wv_len (xs ys : List Nat) : (wv xs ys).length = xs.length + ys.length := by simp [wv]
theorem wv_at (xs ys : List Nat) (p : Nat) (h : p < xs.length + ys.length) : (wv xs ys).getD p 0 = if p % 2 = 0 then xs.getD (p / 2) 0 else ys.getD (p / 2) 0 := by
  simp only [wv, List.getD]
  rw [List.getElem?_map, List.getElem?_range h]
  rfl
/-- A row is woven of its even and its odd part. -/
theorem wv_ev_od (xs : List Nat) : wv (ev xs xs.length) (od xs xs.length) = xs := by
  have hl : (wv (ev xs xs.length) (od xs xs.length)).length = xs.length := by rw [wv_len, ev_len, od_len]; omega
  refine list_ext _ _ hl fun i hi => ?_
  rw [hl] at hi
  rw [wv_at _ _ i (by rw [ev_len, od_len]; omega)]
  by_cases h : i % 2 = 0
  · rw [if_pos h, ev_at _ _ _ (by omega), show 2 * (i / 2) = i by omega]
  · rw [if_neg h, od_at _ _ _ (by omega), show 2 * (i / 2) + 1 = i by omega]
theorem ev_wv (xs ys : List Nat) (h : xs.length = ys.length ∨ xs.length = ys.length + 1) : ev (wv xs ys) (wv xs ys).length = xs := by
  have hl : (ev (wv xs ys) (wv xs ys).length).length = xs.length := by rw [ev_len, wv_len]; omega
  refine list_ext _ _ hl fun i hi => ?_
  rw [hl] at hi
  rw [ev_at _ _ _ (by rw [wv_len]; omega), wv_at _ _ _ (by omega), if_pos (by omega), show 2 * i / 2 = i by omega]
theorem od_wv (xs ys : List Nat) (h : xs.length = ys.length ∨ xs.length = ys.length + 1) : od (wv xs ys) (wv xs ys).length = ys := by
  have hl : (od (wv xs ys) (wv xs ys).length).length = ys.length := by rw [od_len, wv_len]; omega
  refine list_ext _ _ hl fun i hi => ?_
  rw [hl] at hi
  rw [od_at _ _ _ (by rw [wv_len]; omega), wv_at _ _ _ (by omega), if_neg (by omega), show (2 * i + 1) / 2 = i by omega]
theorem weave_end {w1 w2 w3 : World} {g : Nat} {xs ys : List Nat} {f0 : Nat → Nat} {I1 I2 : World → Prop} (h : xs.length = ys.length ∨ xs.length = ys.length + 1) {f1 : Nat → Nat} (hf : ∀ i, i < xs.length → f1 (2 * i) = xs.getD i 0)
    (P2 : PutI w2 w3 g (xs.length + ys.length) ys.length (fun i => 2 * i + 1) ys f1 I2) (hx : ∀ i, i < xs.length → xs.getD i 0 < 18446744073709551616) (hy : ∀ i, i < ys.length → ys.getD i 0 < 18446744073709551616) (hg : g < w2.heap.size) :
    Ws w3 w3.heap.size (some ⟨g, 0, none⟩) (wv xs ys) := by
  obtain ⟨f, K, h1, h2⟩ := P2.k
  have e : ∀ p, p < xs.length + ys.length → f p = if p % 2 = 0 then xs.getD (p / 2) 0 else ys.getD (p / 2) 0 := fun p hp => by
    by_cases hm : p % 2 = 0
    · rw [if_pos hm, h2 p (fun i _ => by omega), ← hf (p / 2) (by omega), show 2 * (p / 2) = p by omega]
    · rw [if_neg hm, ← h1 (p / 2) (by omega), show 2 * (p / 2) + 1 = p by omega]
  have E : wv xs ys = (List.range (xs.length + ys.length)).map f := List.map_congr_left fun p hp => (e p (by simpa using hp)).symm
  rw [E]
  refine K.ws (fun i hi => ?_) (by rw [P2.s]; exact hg)
  rw [e i hi]
  split
  · exact hx _ (by omega)
  · exact hy _ (by omega)

set_option maxHeartbeats 400000 in
theorem weave_bad (A B : Option Addr) (n m ca cb : Nat) (hn : n ≤ 1048576) (hm : m ≤ 1048576) (h : n ≠ m) (h2 : n ≠ m + 1) (w : World) :
    Calls Tryd.prog 12 #[.slice A n ca, .slice B m cb] w fun e w' => e = .returned (.tuple #[.slice none 0 0, .int .i64 19]) ∧ w = w' := by
  have c1 : ((n : Int) != (m : Int)) = true := by simp; omega
  have c2 : ((n : Int) != (m : Int) + 1) = true := by simp; omega
  clear h h2
  go_enter Tryd.func12, Tryd.ntmps12
  go_wp2
  go_ret2
  exact ⟨rfl, rfl⟩
set_option maxHeartbeats 1000000 in
theorem weave (A B : Option Addr) (ca cb : Nat) (xs ys : List Nat) (hn : xs.length ≤ 1048576) (hm : ys.length ≤ 1048576) (h : xs.length = ys.length ∨ xs.length = ys.length + 1) (w : World) (R : Ws w w.heap.size A xs) (S : Ws w w.heap.size B ys) :
    Calls Tryd.prog 12 #[.slice A xs.length ca, .slice B ys.length cb] w (RowOut (wv xs ys) w) := by
  have cond : (((xs.length : Int) != (ys.length : Int)) = false) ∨ (((xs.length : Int) != (ys.length : Int)) = true ∧ ((xs.length : Int) != (ys.length : Int) + 1) = false) := by
    rcases h with h | h
    · left; simp; omega
    · right; constructor <;> simp <;> omega
  have H := Lib.hid h
  have mk := make_words (xs.length + ys.length) (by omega) (by omega)
  have TL := Lib.hid (wv_len xs ys)
  have K1 := Lib.hid (Wk.made w (xs.length + ys.length) 42)
  have b1 := (Below.refl w.heap.size w).alloc (Nat.le_refl _) (.cells (madeCells #[.int .u64 0] (xs.length + ys.length)) 42)
  have R1 := Lib.hid (R.alloc (Nat.le_refl _) (.cells (madeCells #[.int .u64 0] (xs.length + ys.length)) 42))
  have S1 := Lib.hid (S.alloc (Nat.le_refl _) (.cells (madeCells #[.int .u64 0] (xs.length + ys.length)) 42))
  have Z1 := Lib.hid (show w.heap.size < (w.alloc (.cells (madeCells #[.int .u64 0] (xs.length + ys.length)) 42)).heap.size by simp)
  have B1 := Lib.hid b1
  have HX := Lib.hid R.lt
  have HY := Lib.hid S.lt
  have PU1 := Lib.hid (fun g c W K Q => put 19 Tryd.call19 #[] g (xs.length + ys.length) c ca A xs (fun i => 2 * i) (fun _ => 0) (fun _ => True) (by omega) (fun i i' _ _ e => by omega) (fun i hi => by omega) (by omega) (fun _ _ _ => trivial) (fun _ _ _ _ => trivial)
    (fun i W hi _ => (goes_even i (by omega) W).mono fun e w' ⟨he, hw⟩ => ⟨he, 0, hw.symm⟩) W trivial K Q)
  have PU2 := Lib.hid (fun g c W f0 K Q => put 20 Tryd.call20 #[] g (xs.length + ys.length) c cb B ys (fun i => 2 * i + 1) f0 (fun _ => True) (by omega) (fun i i' _ _ e => by omega) (fun i hi => by omega) (by omega) (fun _ _ _ => trivial) (fun _ _ _ _ => trivial)
    (fun i W hi _ => (goes_odd i (by omega) W).mono fun e w' ⟨he, hw⟩ => ⟨he, 0, hw.symm⟩) W trivial K Q)
  obtain ⟨N, hN⟩ : ∃ N, N = xs.length + ys.length := ⟨_, rfl⟩
  have q : (xs.length : Int) + (ys.length : Int) = (N : Int) := by omega
  have HN := Lib.hid hN
  have n1 : N ≤ 2097152 := by omega
  rw [← hN] at mk K1 R1 S1 Z1 B1 PU1 PU2 TL
  generalize hzs : wv xs ys = zs at *
  have HZ := Lib.hid hzs
  clear R S h b1 hN hzs
  rcases cond with c1 | ⟨c1, c2⟩
  all_goals
    go_enter Tryd.func12, Tryd.ntmps12
    go_wp2_with fail
    refine (PU1.out _ _ _ K1.out R1.out).mono ?_
    generalize w.alloc (.cells (madeCells #[.int .u64 0] N) 42) = w1 at *
    rintro e w2 ⟨rfl, P1⟩
    obtain ⟨f1, K2, hf1, _⟩ := P1.k
    have S2 := S1.out.below P1.b
    have b2 := B1.out.trans P1.b
    have s2 := P1.s
    clear P1
    go_wp2_with fail
    refine (PU2.out _ _ _ f1 K2 S2).mono ?_
    rintro e w3 ⟨rfl, P2⟩
    have b3 := b2.trans P2.b
    have O : Ws w3 w3.heap.size (some ⟨w.heap.size, 0, none⟩) zs := by
      rw [← HZ.out]
      exact weave_end (w1 := w1) (f0 := f1) (I1 := fun _ => True) H.out hf1 (by rw [← HN.out]; exact P2) HX.out HY.out (by rw [s2]; exact Z1.out)
    have OUT := Lib.hid (show RowOut zs w (.returned (.tuple #[.slice (some ⟨w.heap.size, 0, none⟩) N N, .int .i64 0])) w3 from ⟨some ⟨w.heap.size, 0, none⟩, by rw [TL.out], O, (fun h => nomatch h), b3⟩)
    clear P2 O b3 K2 b2 hf1 PU1 PU2
    go_wp2
    exact bodyPost_ret (v := .tuple #[.slice (some ⟨w.heap.size, 0, none⟩) N N, .int .i64 0]) (by simp [results, Tryd.results12, go_sem]) rfl OUT.out
end Rv
end Go.Proofs.YtkijcefelgiolaaDoor
