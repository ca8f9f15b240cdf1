/- Contract of the document's own Transpose. -/
import Derived.Test.YtobpjlgiefnmjaaDoorBlockC
set_option linter.unusedVariables false
namespace Go.Proofs.YtobpjlgiefnmjaaDoor
open Go.RowKit Go.Lib Go.Sort
namespace Bl
open Ww Pl

/-- A row that was copied by append, and may be written, if it has words. -/
theorem copied_wk {w w1 w' : World} {v : Value} {xs : List Nat} {n : Nat} (hx : xs.length = n) (h0 : 0 < n) (O1 : Ow w1 w.heap.size (.slice (some ⟨w.heap.size, 0, none⟩) 0 0) []) (b1 : Below w.heap.size w w1) (O : Ow w' w.heap.size v ([] ++ xs)) (hg : w1.grownBy w' (Value.slice (some ⟨w.heap.size, 0, none⟩) 0 0).ownBlock) :
    ∃ b ca, v = .slice (some ⟨b, 0, none⟩) n ca ∧ n ≤ ca ∧ w.heap.size ≤ b ∧ b < w'.heap.size ∧ Wk w' b 0 n (Pn.pl xs) ∧ Below w.heap.size w w' := by
  rw [List.nil_append] at O
  have b2 := O1.grow b1 hg b1.size
  subst hx
  obtain ⟨b, ca, rfl, h1, h2, h3, K⟩ := O.wk h0
  exact ⟨b, ca, rfl, h3, h1, h2, K, b2⟩

set_option maxHeartbeats 1000000 in
set_option maxRecDepth 100000 in
theorem rtranspose (ad : Addr) (n ca R C : Nat) (f : Nat → Nat) (hn : R * C = n) (h0 : 0 < n) (hl : n ≤ 1048576) (hf : ∀ i, i < n → f i < 18446744073709551616) (w : World) (X : Ws w w.heap.size (some ad) (rg f n)) :
    Calls Tryd.prog 15 #[.slice (some ad) n ca, .agg #[.int .i64 (R : Int), .int .i64 (C : Int)]] w (Wr (tr R C f) n w) := by
  have R0 : 0 < R := by
    apply Nat.pos_of_ne_zero
    rintro rfl
    rw [Nat.zero_mul] at hn
    omega
  have C0 : 0 < C := by
    apply Nat.pos_of_ne_zero
    rintro rfl
    rw [Nat.mul_zero] at hn
    omega
  have hRC : R ≤ 1048576 ∧ C ≤ 1048576 := by
    have a1 : R ≤ R * C := Nat.le_mul_of_pos_right R C0
    have a2 : C ≤ R * C := Nat.le_mul_of_pos_left C R0
    rw [hn] at a1 a2
    omega
  have PA := Lib.hid (fun r c (hr : r < R) (hc : c < C) => show r * C + c < n ∧ c * R + r < n ∧ r * C ≤ n ∧ c * R ≤ n by
    have a1 := Bk.lt_of hr hc
    have a2 := Bk.lt_of hc hr
    rw [Nat.mul_comm C R] at a2
    rw [hn] at a1 a2
    omega)
  have TL := Lib.hid (tr_lt hn R0 hf)
  have AL := Lib.hid (fun b (w1 wr : World) (T : Tr b n R C f w1 wr (Tp (fun _ _ => False) 0 0 C R 0)) => T.all hn R0 (fun r c h h2 => Or.inr (Or.inl ⟨⟨Nat.zero_le _, h⟩, Nat.zero_le _, h2⟩)))
  have PT := Lib.hid (fun b (w1 wx : World) r c (hr : r < R) (hc : c < C) (h : Tr b n R C f w1 wx (Tp (fun _ _ => False) 0 0 C r c)) => h.put hn hr hc (Q := Tp (fun _ _ => False) 0 0 C r (c + 1)) (fun r' c' _ _ h => by
    rcases h with h | h | ⟨h1, h2, h3⟩
    · exact h.elim
    · exact Or.inl (Or.inr (Or.inl h))
    · by_cases e : c' = c
      · exact Or.inr ⟨h1, e⟩
      · exact Or.inl (Or.inr (Or.inr ⟨h1, h2, by omega⟩))))
  have ROW := Lib.hid (fun b (w1 wr : World) r (h : Tr b n R C f w1 wr (Tp (fun _ _ => False) 0 0 C r C)) => show Tr b n R C f w1 wr (Tp (fun _ _ => False) 0 0 C (r + 1) 0) from h.iff fun r' c' _ _ h => by
    rcases h with h | ⟨⟨h1, h2⟩, h3, h4⟩ | ⟨_, h1, h2⟩
    · exact h.elim
    · by_cases e : r' = r
      · exact Or.inr (Or.inr ⟨e, h3, h4⟩)
      · exact Or.inr (Or.inl ⟨⟨h1, by omega⟩, h3, h4⟩)
    · omega)
  have HX := Lib.hid (rg_len f n)
  have HXE := Lib.hid (show Value.slice (some ad) n ca = .slice (some ad) (rg f n).length ca by rw [rg_len])
  have HB := Lib.hid (below_alloc w)
  have X := Lib.hid X
  have X := X
  clear R0 C0 hf hn
  go_enter Tryd.func15, Tryd.ntmps15
  go_upto_region 1 with fail
  have V0 := Lib.hid (Sh.Tw.fresh w R C 23)
  have b0 := Lib.hid (HB.out (.cells #[.int .i64 (R : Int), .int .i64 (C : Int)] 23))
  have X0 := Lib.hid (X.out.step b0.out)
  clear HB X
  generalize w.alloc (.cells #[.int .i64 (R : Int), .int .i64 (C : Int)] 23) = w1 at *
  have OK := Lib.hid (fun wr b cb (hs : b < wr.heap.size) (h : Below w1.heap.size w1 wr) (K : Wk wr b 0 n (tr R C f)) => show Wr (tr R C f) n w (.returned (.slice (some ⟨b, 0, none⟩) n cb)) wr from ⟨_, cb, rfl, K.ws TL.out hs, b0.out.trans (h.mono b0.out.size)⟩)
  clear b0 TL
  generalize w.heap.size = vb at V0
  have O2 := Lib.hid (Ow.fresh w1 w1.heap.size (Nat.le_refl _))
  have RA2 := Lib.hid (X0.out.alloc (Nat.le_refl _) (.cells #[] 37))
  have BA2 := Lib.hid (below_alloc w1 (.cells #[] 37))
  go_upto_region 2 with (at_builtin; (refine append_all (w1.alloc (.cells #[] 37)) ?hgd (.tmp 8) (.tmp 9) ?ho w1.heap.size (.slice (some ⟨w1.heap.size, 0, none⟩) 0 0) [] ?hs O2.out w1.heap.size (some ad) ca (rg f n) ?hx RA2.out ?hA ?c1 ?c2 (fun v3 w3 OO hg => ?_)); (case hgd => rfl); (case ho => rfl); (case hs => rfl); (case hx => exact HXE.out); (case hA => intro h; cases h); (case c1 => have := HX.out; simp only [List.length_nil]; omega); (case c2 => simp); (obtain ⟨b3, k3, rfl, hk3, hb3, hs3, K3, d3⟩ := copied_wk HX.out h0 O2.out BA2.out OO hg))
  have V3 := Lib.hid (V0.out.below d3)
  have X3 := Lib.hid (X0.out.below d3)
  have ST := Lib.hid (show Tr b3 n R C f w3 w3 (Tp (fun _ _ => False) 0 0 C 0 0) from ⟨_, ⟨K3, But.refl _ _⟩, Bk.Fl.none_ fun r c _ _ h => by
    rcases h with h | ⟨⟨h1, h2⟩, _⟩ | ⟨_, h1, h2⟩
    · exact h
    · omega
    · omega⟩)
  have hs3 := Lib.hid hs3
  have hb3 := Lib.hid hb3
  have vl := Lib.hid V0.out.lt
  have D3 := Lib.hid d3
  have BW := Lib.hid (fun wr (o : But b3 w3 wr) => show Below w1.heap.size w1 wr from D3.out.trans (o.bel.mono hb3.out))
  clear O2 RA2 BA2 OO hg K3 d3 X0
  go_wp2_with fail
  go_loopw [6] (fun v6 wr => ∃ r : Nat, v6 = .int .i64 (r : Int) ∧ r ≤ R ∧ Tr b3 n R C f w3 wr (Tp (fun _ _ => False) 0 0 C r 0)) (fun v6 _ => R - (Lib.intOf v6).toNat)
  case atStart => exact ⟨0, rfl, Nat.zero_le _, ST.out⟩
  case round =>
    obtain ⟨r, rfl, hr1, T⟩ := hrel
    clear ST
    obtain ⟨t0, t1⟩ := (show Sh.Tw wr vb R C from ⟨(T.bel.bel.cell (p := ⟨vb, 0, none⟩) (Nat.lt_of_lt_of_le vl.out hb3.out)).trans V3.out.c0, (T.bel.bel.cell (p := ⟨vb, 1, none⟩) (Nat.lt_of_lt_of_le vl.out hb3.out)).trans V3.out.c1⟩)
    by_cases hrlt : r < R
    · have r1 : (r : Int) < R := by omega
      have T0 := Lib.hid T
      obtain ⟨wo, rfl⟩ : ∃ wo : World, wo = wr := ⟨_, rfl⟩
      clear T
      go_wp2_with fail
      go_loopw [7] (fun v7 wr => ∃ c : Nat, v7 = .int .i64 (c : Int) ∧ c ≤ C ∧ Tr b3 n R C f w3 wr (Tp (fun _ _ => False) 0 0 C r c)) (fun v7 _ => C - (Lib.intOf v7).toNat)
      case atStart => exact ⟨0, rfl, Nat.zero_le _, T0.out⟩
      case round =>
        obtain ⟨c, rfl, hc1, T⟩ := hrel
        clear T0 t0 t1
        obtain ⟨t0, t1⟩ := (show Sh.Tw wr vb R C from ⟨(T.bel.bel.cell (p := ⟨vb, 0, none⟩) (Nat.lt_of_lt_of_le vl.out hb3.out)).trans V3.out.c0, (T.bel.bel.cell (p := ⟨vb, 1, none⟩) (Nat.lt_of_lt_of_le vl.out hb3.out)).trans V3.out.c1⟩)
        by_cases hclt : c < C
        · have c1 : (c : Int) < C := by omega
          obtain ⟨p1, p2, p3, p4⟩ := PA.out r c (by omega) (by omega)
          have X4 := X3.out.below (T.bel.bel.mono hb3.out)
          obtain ⟨xb, xo, ea, hB, x0⟩ := X4.at_ (r * C + c) (by rw [rg_len]; exact p1)
          replace ea := Option.some.inj ea
          subst ea
          rw [rg_at _ _ _ p1] at x0
          obtain ⟨⟨v, u0⟩, u1⟩ := T.at_ (c * R + r) p2
          have PU := Lib.hid (fun wx h => PT.out b3 w3 wx r c hrlt hclt h)
          obtain ⟨s, hs⟩ : ∃ s, s = c * R := ⟨_, rfl⟩
          obtain ⟨t, ht⟩ : ∃ t, t = r * C := ⟨_, rfl⟩
          rw [← ht] at p1 p3 x0 PU
          rw [← hs] at p2 p4 u0 u1 PU
          have q1 : IntKind.i64.wrap ((c : Int) * (R : Int)) = (s : Int) := by rw [← Int.natCast_mul, ← hs]; exact IntWalk.i64_in _ (by omega)
          have q2 : IntKind.i64.wrap ((r : Int) * (C : Int)) = (t : Int) := by rw [← Int.natCast_mul, ← ht]; exact IntWalk.i64_in _ (by omega)
          obtain ⟨x, hx⟩ : ∃ x, x = t + c := ⟨_, rfl⟩
          obtain ⟨y, hy⟩ : ∃ y, y = s + r := ⟨_, rfl⟩
          rw [← hx] at p1 x0 PU
          rw [← hy] at p2 u0 u1 PU
          have q3 : IntKind.i64.wrap ((t : Int) + (c : Int)) = (x : Int) := by rw [IntKind.wrap_i64]; omega
          have q4 : IntKind.i64.wrap ((s : Int) + (r : Int)) = (y : Int) := by rw [IntKind.wrap_i64]; omega
          have l0 : wr.drew.cell? ⟨xb, xo + x, none⟩ = some (.int .u64 (f x : Nat)) := x0
          have l1 : wr.drew.cell? ⟨vb, 0, none⟩ = some (.int .i64 (R : Int)) := t0
          have l2 : wr.drew.cell? ⟨vb, 1, none⟩ = some (.int .i64 (C : Int)) := t1
          have l3 : wr.drew.cell? ⟨b3, y, none⟩ = some (.int .u64 (v : Nat)) := u0
          have l4 : wr.drew.frozen? ⟨b3, y, none⟩ = false := u1
          have BH := Lib.hid T
          clear hx hy hs ht T X4
          generalize f x = z at *
          go_upto_region 10 with fail
          go_region
          go_wp2_with fail
          go_roundw
          case rel => exact ⟨c + 1, rfl, by omega, PU.out _ BH.out.drew⟩
          case measure => simp [Lib.intOf]; omega
        · have c1 : ¬ (c : Int) < C := by omega
          obtain rfl : c = C := by omega
          have OK := Lib.hid (ROW.out _ _ _ r T)
          clear T
          go_wp2_with fail
          go_roundw
          case rel => exact ⟨r + 1, rfl, by omega, OK.out⟩
          case measure => simp [Lib.intOf]; omega
    · have r1 : ¬ (r : Int) < R := by omega
      obtain rfl : r = R := by omega
      have F := Lib.hid (OK.out wr b3 k3 (Nat.lt_of_lt_of_le hs3.out T.bel.bel.size) (BW.out _ T.bel) (AL.out _ _ _ T).k)
      clear T OK
      go_wp2
      exact bodyPost_ret (v := .slice (some ⟨b3, 0, none⟩) n k3) (by simp [results, Tryd.results15, go_sem]) rfl F.out
end Bl
end Go.Proofs.YtobpjlgiefnmjaaDoor
