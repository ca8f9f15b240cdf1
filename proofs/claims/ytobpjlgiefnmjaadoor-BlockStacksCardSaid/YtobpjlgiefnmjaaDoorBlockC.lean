/- Contracts of package block: turnTile, Turn. -/
import Derived.Test.YtobpjlgiefnmjaaDoorBlockB
set_option linter.unusedVariables false
namespace Go.Proofs.YtobpjlgiefnmjaaDoor
open Go.RowKit Go.Lib Go.Sort
namespace Bl
open Ww Pl

/-- A row that is turned piece by piece, in its own block bt; all other blocks are as they were. -/
structure Tr (bt n R C : Nat) (f : Nat → Nat) (w wr : World) (P : Nat → Nat → Prop) : Prop where
  o : ∃ out, Ta bt n out w wr ∧ Bk.Fl R C f out P
section
variable {bt n R C : Nat} {f : Nat → Nat} {w wr w1 : World} {P Q : Nat → Nat → Prop}
theorem Tr.iff (h : Tr bt n R C f w wr P) (e : ∀ r c, r < R → c < C → Q r c → P r c) : Tr bt n R C f w wr Q := by
  obtain ⟨out, T, F⟩ := h.o
  exact ⟨out, T, F.iff e⟩
theorem Tr.bel (h : Tr bt n R C f w wr P) : But bt w wr := by
  obtain ⟨out, T, F⟩ := h.o
  exact T.o
theorem Tr.self (h : Tr bt n R C f w wr P) : Tr bt n R C f wr wr P := by
  obtain ⟨out, T, F⟩ := h.o
  exact ⟨out, ⟨T.k, But.refl _ _⟩, F⟩
theorem Tr.trans (o : But bt w w1) (h : Tr bt n R C f w1 wr P) : Tr bt n R C f w wr P := by
  obtain ⟨out, T, F⟩ := h.o
  exact ⟨out, ⟨T.k, But.trans o T.o⟩, F⟩
theorem Tr.drew (h : Tr bt n R C f w wr P) : Tr bt n R C f w wr.drew P := by
  obtain ⟨out, T, F⟩ := h.o
  exact ⟨out, T.drew, F⟩
theorem Tr.at_ (h : Tr bt n R C f w wr P) (i : Nat) (hi : i < n) : (∃ v : Nat, wr.cell? ⟨bt, i, none⟩ = some (.int .u64 (v : Nat))) ∧ wr.frozen? ⟨bt, i, none⟩ = false := by
  obtain ⟨out, T, F⟩ := h.o
  exact ⟨⟨_, (T.at_ i hi).1⟩, (T.at_ i hi).2⟩
theorem Tr.put (h : Tr bt n R C f w wr P) (hn : R * C = n) {r c : Nat} (hr : r < R) (hc : c < C) (e : ∀ r' c', r' < R → c' < C → Q r' c' → P r' c' ∨ r' = r ∧ c' = c) : Tr bt n R C f w (wr.setCell ⟨bt, c * R + r, none⟩ (.int .u64 (f (r * C + c) : Nat))) Q := by
  obtain ⟨out, T, F⟩ := h.o
  exact ⟨_, T.put _ _ (by rw [← hn, Nat.mul_comm R C]; exact Bk.lt_of hc hr), F.put hr hc e⟩
end
/-- The words of a row that is turned. -/
def tr (R C : Nat) (f : Nat → Nat) : Nat → Nat := fun x => f (x % R * C + x / R)
theorem Tr.all {bt n R C : Nat} {f : Nat → Nat} {w wr : World} {P : Nat → Nat → Prop} (h : Tr bt n R C f w wr P) (hn : R * C = n) (h0 : 0 < R) (e : ∀ r c, r < R → c < C → P r c) : Ta bt n (tr R C f) w wr := by
  obtain ⟨out, T, F⟩ := h.o
  exact T.congr fun j hj => F.end_ h0 e j (by rw [hn]; exact hj)
theorem tr_lt {R C n : Nat} {f : Nat → Nat} (hn : R * C = n) (h0 : 0 < R) (hf : ∀ i, i < n → f i < 18446744073709551616) : ∀ i, i < n → tr R C f i < 18446744073709551616 := by
  intro i hi
  refine hf _ ?_
  rw [← hn]
  exact Bk.lt_of (Nat.mod_lt _ h0) ((Nat.div_lt_iff_lt_mul h0).2 (by rw [Nat.mul_comm, hn]; exact hi))
theorem tr_tr {R C n : Nat} {f : Nat → Nat} (hn : R * C = n) (h0 : 0 < R) (h1 : 0 < C) (i : Nat) (hi : i < n) : tr C R (tr R C f) i = f i := by
  show f ((i % C * R + i / C) % R * C + (i % C * R + i / C) / R) = f i
  rw [Bk.turned_twice h0 h1 (by rw [hn]; exact hi)]
theorem gd_comm {a b : Int} (h : Sh.Gd a b) : Sh.Gd b a := by
  obtain ⟨i, j, hij, h1, h2⟩ := h
  exact ⟨j, i, by omega, h2, h1⟩
/-- What is written behind the rows of a tile from row to r, and the words from col to c of row r. -/
def Tp (P0 : Nat → Nat → Prop) (row col ce r c : Nat) (r' c' : Nat) : Prop := P0 r' c' ∨ ((row ≤ r' ∧ r' < r) ∧ col ≤ c' ∧ c' < ce) ∨ (r' = r ∧ col ≤ c' ∧ c' < c)

set_option maxHeartbeats 1000000 in
set_option maxRecDepth 100000 in
theorem turnTile {w : World} {p b R C n cap : Nat} {f : Nat → Nat} (B : Bx w p b R C n cap f) (bt row col re ce ct : Nat) (side rs cs : Int) (P0 : Nat → Nat → Prop)
    (hrs : IntKind.i64.wrap ((row : Int) + side) = rs) (hcs : IntKind.i64.wrap ((col : Int) + side) = cs) (hre : min rs (R : Int) = (re : Int)) (hce : min cs (C : Int) = (ce : Int)) (hr : row ≤ re) (hc : col ≤ ce)
    (T : Tr bt n R C f w w P0) (nb : b ≠ bt) (np : p ≠ bt) :
    Calls Tryd.prog 30 #[.pointer (some ⟨p, 0, none⟩), .slice (some ⟨bt, 0, none⟩) n ct, .int .i64 (row : Int), .int .i64 (col : Int), .int .i64 side] w fun e w' => e = .returned (.tuple #[]) ∧ Tr bt n R C f w w' (fun r' c' => P0 r' c' ∨ (row ≤ r' ∧ r' < re) ∧ col ≤ c' ∧ c' < ce) := by
  have hn := Lib.hid B.hn
  have hRe : re ≤ R := by omega
  have hCe : ce ≤ C := by omega
  have hl := B.l
  have hRC : R ≤ 1048576 ∧ C ≤ 1048576 := by have := B.pos; omega
  have PA := Lib.hid (fun r c (hr : r < R) (hc : c < C) => show r * C + c < n ∧ c * R + r < n ∧ r * C ≤ n ∧ c * R ≤ n by
    have a1 := Bk.lt_of hr hc
    have a2 := Bk.lt_of hc hr
    rw [Nat.mul_comm C R] at a2
    rw [hn.out] at a1 a2
    omega)
  replace B := Lib.hid B
  have ST := Lib.hid (show Tr bt n R C f w w (Tp P0 row col ce row col) from T.iff fun r c _ _ h => by
    rcases h with h | ⟨⟨h1, h2⟩, _⟩ | ⟨_, h1, h2⟩
    · exact h
    · omega
    · omega)
  have ROW := Lib.hid (fun r (wr : World) (h : Tr bt n R C f w wr (Tp P0 row col ce r ce)) => show Tr bt n R C f w wr (Tp P0 row col ce (r + 1) col) from h.iff fun r' c' _ _ h => by
    rcases h with h | ⟨⟨h1, h2⟩, h3, h4⟩ | ⟨_, h1, h2⟩
    · exact Or.inl h
    · by_cases e : r' = r
      · exact Or.inr (Or.inr ⟨e, h3, h4⟩)
      · exact Or.inr (Or.inl ⟨⟨h1, by omega⟩, h3, h4⟩)
    · omega)
  have FI := Lib.hid (fun (wr : World) (h : Tr bt n R C f w wr (Tp P0 row col ce re col)) => show Tr bt n R C f w wr (fun r' c' => P0 r' c' ∨ (row ≤ r' ∧ r' < re) ∧ col ≤ c' ∧ c' < ce) from h.iff fun r' c' _ _ h => h.elim Or.inl fun h => Or.inr (Or.inl h))
  clear T
  go_enter Tryd.func30, Tryd.ntmps30
  go_wp2_with fail
  go_loopw [10] (fun v10 wr => ∃ r : Nat, v10 = .int .i64 (r : Int) ∧ row ≤ r ∧ r ≤ re ∧ Tr bt n R C f w wr (Tp P0 row col ce r col)) (fun v10 _ => re - (Lib.intOf v10).toNat)
  case atStart => exact ⟨row, rfl, Nat.le_refl _, hr, ST.out⟩
  case round =>
    obtain ⟨r, rfl, hr0, hr1, T⟩ := hrel
    clear ST
    have B1 := B.out.but T.bel np nb
    have t0 := B1.c.c0
    have t1 := B1.c.c1
    by_cases hrlt : r < re
    · have r1 : (r : Int) < re := by omega
      have T0 := Lib.hid T
      obtain ⟨wo, rfl⟩ : ∃ wo : World, wo = wr := ⟨_, rfl⟩
      clear T B1
      go_wp2_with fail
      go_loopw [11] (fun v11 wr => ∃ c : Nat, v11 = .int .i64 (c : Int) ∧ col ≤ c ∧ c ≤ ce ∧ Tr bt n R C f w wr (Tp P0 row col ce r c)) (fun v11 _ => ce - (Lib.intOf v11).toNat)
      case atStart => exact ⟨col, rfl, Nat.le_refl _, hc, T0.out⟩
      case round =>
        obtain ⟨c, rfl, hc0, hc1, T⟩ := hrel
        clear T0 t0 t1
        have B1 := B.out.but T.bel np nb
        have t0 := B1.c.c0
        have t1 := B1.c.c1
        have t2 := B1.c.c2
        by_cases hclt : c < ce
        · have c1 : (c : Int) < ce := by omega
          obtain ⟨p1, p2, p3, p4⟩ := PA.out r c (by omega) (by omega)
          have x0 := B1.k.c (r * C + c) p1
          rw [Nat.zero_add] at x0
          obtain ⟨⟨v, u0⟩, u1⟩ := T.at_ (c * R + r) p2
          have PU := Lib.hid (fun wx (h : Tr bt n R C f w wx (Tp P0 row col ce r c)) => h.put hn.out (r := r) (c := c) (by omega) (by omega) (Q := Tp P0 row col ce r (c + 1)) (fun r' c' _ _ h => by
            rcases h with h | h | ⟨h1, h2, h3⟩
            · exact Or.inl (Or.inl h)
            · exact Or.inl (Or.inr (Or.inl h))
            · by_cases e : c' = c
              · exact Or.inr ⟨h1, e⟩
              · exact Or.inl (Or.inr (Or.inr ⟨h1, h2, by omega⟩))))
          obtain ⟨s, hs⟩ : ∃ s, s = c * R := ⟨_, rfl⟩
          obtain ⟨t, ht⟩ : ∃ t, t = r * C := ⟨_, rfl⟩
          rw [← ht] at p1 p3 x0 PU
          rw [← hs] at p2 p4 u0 u1 PU
          have q1 : IntKind.i64.wrap ((c : Int) * (R : Int)) = (s : Int) := by rw [← Int.natCast_mul, ← hs]; exact IntWalk.i64_in _ (by omega)
          have q2 : IntKind.i64.wrap ((r : Int) * (C : Int)) = (t : Int) := by rw [← Int.natCast_mul, ← ht]; exact IntWalk.i64_in _ (by omega)
          obtain ⟨x, hx⟩ : ∃ x, x = t + c := ⟨_, rfl⟩
          obtain ⟨y, hy⟩ : ∃ y, y = s + r := ⟨_, rfl⟩
          rw [← hx] at p1 x0 PU
          rw [← hy] at p2 u0 u1 PU
          have q3 : IntKind.i64.wrap ((t : Int) + (c : Int)) = (x : Int) := by rw [IntKind.wrap_i64]; omega
          have q4 : IntKind.i64.wrap ((s : Int) + (r : Int)) = (y : Int) := by rw [IntKind.wrap_i64]; omega
          have l0 : wr.drew.cell? ⟨b, x, none⟩ = some (.int .u64 (f x : Nat)) := x0
          have l1 : wr.drew.cell? ⟨p, 0, none⟩ = some (.int .i64 (R : Int)) := t0
          have l2 : wr.drew.cell? ⟨p, 1, none⟩ = some (.int .i64 (C : Int)) := t1
          have l5 : wr.drew.cell? ⟨p, 2, none⟩ = some (.slice (some ⟨b, 0, none⟩) n cap) := t2
          have l3 : wr.drew.cell? ⟨bt, y, none⟩ = some (.int .u64 (v : Nat)) := u0
          have l4 : wr.drew.frozen? ⟨bt, y, none⟩ = false := u1
          have BH := Lib.hid T
          clear hx hy hs ht T B1
          generalize f x = z at *
          go_upto_region 10 with fail
          go_region
          go_wp2_with fail
          go_roundw
          case rel => exact ⟨c + 1, rfl, by omega, by omega, PU.out _ BH.out.drew⟩
          case measure => simp [Lib.intOf]; omega
        · have c1 : ¬ (c : Int) < ce := by omega
          obtain rfl : c = ce := by omega
          have OK := Lib.hid (ROW.out r _ T)
          clear T B1
          go_wp2_with fail
          go_roundw
          case rel => exact ⟨r + 1, rfl, by omega, by omega, OK.out⟩
          case measure => simp [Lib.intOf]; omega
    · have r1 : ¬ (r : Int) < re := by omega
      obtain rfl : r = re := by omega
      have OK := Lib.hid (FI.out _ T)
      clear T B1
      go_wp2
      exact bodyPost_end (v := .tuple #[]) (by simp [results, Tryd.results30, go_sem]) rfl ⟨rfl, OK.out⟩
end Bl
end Go.Proofs.YtobpjlgiefnmjaaDoor
