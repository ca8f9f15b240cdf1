/- Contracts of package block: Of, Shape, Words, Get, Put, line, meet. -/
import Derived.Test.YtobpjlgiefnmjaaDoorBlockA
set_option linter.unusedVariables false
namespace Go.Proofs.YtobpjlgiefnmjaaDoor
open Go.RowKit Go.Lib Go.Sort
namespace Bl
open Ww Pl

/-- (Words of a block.) append of all words of a slice onto a row of one's own. -/
theorem append_allB (w : World) {ops : Array Oper} {rest : List Oper} {o : Oper} {a : Act} {Q : Exit → Act → World → Prop} (hgd : o.guard = none) (s x : Operand)
    (ho : o.op = .call { callee := .builtin .append, args := #[s, x], argTypes := #[59, 59] })
    (base : Nat) (v : Value) (ys : List Nat) (hs : a.eval s = v) (hown : Ow w base v ys) (B : Nat) (A : Option Addr) (cap : Nat) (xs : List Nat) (hx : a.eval x = .slice A xs.length cap) (R : Ws w B A xs) (hA : A = none → cap = 0)
    (hlen : ys.length + xs.length ≤ 17592186044416) (hbase : base ≤ w.heap.size)
    (h : ∀ v' w', Ow w' base v' (ys ++ xs) → w.grownBy w' v.ownBlock → wpList Tryd.prog ops Q rest (a.put o.dst v') w') : wpList Tryd.prog ops Q (o :: rest) a w := by
  obtain ⟨i, hi⟩ : ∃ i, Tryd.prog.info? 37 = some i := by
    cases e : Tryd.prog.info? 37 with
    | none => have := infoU; rw [e] at this; cases this
    | some i => exact ⟨i, rfl⟩
  have hU := infoU
  rw [hi] at hU
  simp only [Option.map_some, Option.some.injEq, Prod.mk.injEq] at hU
  cases A with
  | none =>
    have hc := hA rfl
    subst hc
    have hb0 : xs = [] := by
      apply Classical.byContradiction
      intro hne
      obtain ⟨b, off, e, _⟩ := R.at_ 0 (List.length_pos_iff.2 hne)
      cases e
    subst hb0
    refine wpList_append_own_none hgd s x _ ho base _ i 1 Tryd.underlying59 hi v ys.length (ys.map cw) hs hown hx (h v w ?_ (World.grownBy.refl w _))
    rw [List.append_nil]
    exact hown
  | some ad =>
    refine wpList_append_own w hgd s x _ ho base _ i (.int .u64 0) 1 8 Tryd.underlying59 hi hU.1 hU.2.1 hU.2.2 rfl (by decide) v ys.length (ys.map cw) hs hown ad xs.length cap (xs.map cw) hx ?_ ?_ ?_ ?_ ?_ hbase fun v' w' h1 h2 _ => h v' w' ?_ h2
    · simp
    · intro j u hu
      have hj : j < xs.length := by
        have := (List.getElem?_eq_some_iff.1 hu).1
        simpa using this
      obtain ⟨b, off, e, _, c⟩ := R.at_ j hj
      replace e := Option.some.inj e
      subst e
      rw [add_none, c]
      simp [hj] at hu
      rw [← hu]
      simp [cw, List.getD, hj]
    · intro u hu
      simp at hu
      obtain ⟨b, _, rfl⟩ := hu
      rfl
    · simp only [maxLen]; omega
    · omega
    · unfold Ow
      rw [List.map_append, List.length_append]
      exact h1
/-- A row in a new block, with a capacity. -/
def ClN (xs : List Nat) (n : Nat) (w : World) (e : Ending) (w' : World) : Prop :=
  ∃ b ca, e = .returned (.slice (some ⟨b, 0, none⟩) n ca) ∧ n ≤ ca ∧ w.heap.size ≤ b ∧ b < w'.heap.size ∧ Wk w' b 0 n (Pn.pl xs) ∧ Below w.heap.size w w'
theorem clN_of {xs : List Nat} {n : Nat} (hn : xs.length = n) (h0 : 0 < n) {w w' : World} {v : Value} (O : Ow w' w.heap.size v xs) (hb : Below w.heap.size w w') : ClN xs n w (.returned v) w' := by
  subst hn
  obtain ⟨g, cap, rfl, h1, h2, h3, K⟩ := O.wk h0
  exact ⟨g, cap, rfl, h3, h1, h2, K, hb⟩
set_option maxHeartbeats 400000 in
theorem clone (ad : Addr) (ca n : Nat) (xs : List Nat) (hn : xs.length = n) (h0 : 0 < n) (hl : n ≤ 1048576) (w : World) (R : Ws w w.heap.size (some ad) xs) :
    Calls Tryd.prog 27 #[.slice (some ad) n ca] w (ClN xs n w) := by
  have O1 := Lib.hid (Ow.fresh w w.heap.size (Nat.le_refl _))
  have R1 := Lib.hid (R.alloc (Nat.le_refl _) (.cells #[] 37))
  have B1 := Lib.hid (below_alloc w (.cells #[] 37))
  have CO := Lib.hid (fun (w' : World) (v : Value) (O : Ow w' w.heap.size v xs) hb => clN_of hn h0 O hb)
  have qn : ∀ (W : World), (binOp .eql 24 (.slice (some ad) n ca) (.slice none 0 0)).run Tryd.prog W = .ok (.bool false) W := fun W => Lib.run_eql_slice_nil W _ _ _ _ _ _ _ Tryd.underlying24
  clear R h0
  subst hn
  go_enter Tryd.func27, Tryd.ntmps27
  go_wp2_with (at_builtin; (refine append_all (w.alloc (.cells #[] 37)) ?hgd (.tmp 5) (.tmp 6) ?ho w.heap.size (.slice (some ⟨w.heap.size, 0, none⟩) 0 0) [] ?hs O1.out w.heap.size (some ad) ca xs ?hx R1.out ?c3 ?c1 ?c2 (fun v7 w2 O2 hg => ?_)); (case hgd => rfl); (case ho => rfl); (case hs => rfl); (case hx => rfl))
  case c3 => intro h; cases h
  case c1 => simp; omega
  case c2 => simp
  rw [List.nil_append] at O2
  have b2 := O1.out.grow B1.out hg B1.out.size
  have F := Lib.hid (CO.out _ _ O2 b2)
  clear O1 R1 B1 O2 hg b2 CO
  go_wp2
  exact bodyPost_ret (v := v7) (by simp [results, Tryd.results27, go_sem]) rfl F.out
set_option maxHeartbeats 400000 in
theorem cloneB (ad : Addr) (ca n : Nat) (xs : List Nat) (hn : xs.length = n) (h0 : 0 < n) (hl : n ≤ 1048576) (w : World) (R : Ws w w.heap.size (some ad) xs) :
    Calls Tryd.prog 29 #[.slice (some ad) n ca] w (ClN xs n w) := by
  have O1 := Lib.hid (Ow.fresh w w.heap.size (Nat.le_refl _))
  have R1 := Lib.hid (R.alloc (Nat.le_refl _) (.cells #[] 37))
  have B1 := Lib.hid (below_alloc w (.cells #[] 37))
  have CO := Lib.hid (fun (w' : World) (v : Value) (O : Ow w' w.heap.size v xs) hb => clN_of hn h0 O hb)
  have qn : ∀ (W : World), (binOp .eql 59 (.slice (some ad) n ca) (.slice none 0 0)).run Tryd.prog W = .ok (.bool false) W := fun W => Lib.run_eql_slice_nil W _ _ _ _ _ _ _ Tryd.underlying59
  clear R h0
  subst hn
  go_enter Tryd.func29, Tryd.ntmps29
  go_wp2_with (at_builtin; (refine append_allB (w.alloc (.cells #[] 37)) ?hgd (.tmp 5) (.tmp 6) ?ho w.heap.size (.slice (some ⟨w.heap.size, 0, none⟩) 0 0) [] ?hs O1.out w.heap.size (some ad) ca xs ?hx R1.out ?c3 ?c1 ?c2 (fun v7 w2 O2 hg => ?_)); (case hgd => rfl); (case ho => rfl); (case hs => rfl); (case hx => rfl))
  case c3 => intro h; cases h
  case c1 => simp; omega
  case c2 => simp
  rw [List.nil_append] at O2
  have b2 := O1.out.grow B1.out hg B1.out.size
  have F := Lib.hid (CO.out _ _ O2 b2)
  clear O1 R1 B1 O2 hg b2 CO
  go_wp2
  exact bodyPost_ret (v := v7) (by simp [results, Tryd.results29, go_sem]) rfl F.out

set_option maxHeartbeats 400000 in
theorem of_no (A : Option Addr) (n ca : Nat) (a b : Int) (h : ¬ (Sh.Gd a b ∧ a * b ≤ 1048576)) (w : World) (hT : Ft.Tab w) :
    Calls Tryd.prog 9 #[.agg #[.int .i64 a, .int .i64 b], .slice A n ca] w fun e w' => e = .returned (.tuple #[.pointer none, .int .i64 19]) ∧ Below w.heap.size w w' := by
  have G := Lib.hid (fun W T => has a b false (by simp only [Bool.false_eq_true, false_iff]; exact h) W T)
  have HB := Lib.hid (below_alloc w)
  have HT := Lib.hid hT
  clear h hT
  go_enter Tryd.func9, Tryd.ntmps9
  go_wp2_with fail
  refine (G.out _ (HT.out.below (HB.out _))).mono ?_
  rintro e w1 ⟨rfl, h1⟩
  have c1 := Lib.hid ((HB.out _).trans (h1.mono (HB.out _).size))
  clear h1 HB
  go_wp2
  go_ret2
  exact ⟨rfl, c1.out⟩
set_option maxHeartbeats 400000 in
theorem of_len (A : Option Addr) (n ca : Nat) (a b m : Int) (h : Sh.Gd a b) (hm : a * b = m) (hl : m ≤ 1048576) (hne : (n : Int) ≠ m) (w : World) (hT : Ft.Tab w) :
    Calls Tryd.prog 9 #[.agg #[.int .i64 a, .int .i64 b], .slice A n ca] w fun e w' => e = .returned (.tuple #[.pointer none, .int .i64 19]) ∧ Below w.heap.size w w' := by
  have G := Lib.hid (fun W T => has a b true (by simp only [true_iff]; exact ⟨h, by rw [hm]; exact hl⟩) W T)
  have Z := Lib.hid (fun W T => Sh.size_yes a b m h hm W T)
  have ne : ((n : Int) != m) = true := by simp [hne]
  have HB := Lib.hid (below_alloc w)
  have HT := Lib.hid hT
  clear h hT hm hl hne
  go_enter Tryd.func9, Tryd.ntmps9
  go_wp2_with fail
  refine (G.out _ (HT.out.below (HB.out _))).mono ?_
  rintro e w1 ⟨rfl, h1⟩
  have c1 := (HB.out _).trans (h1.mono (HB.out _).size)
  have T1 := (Sh.Tw.fresh w a b 23).below h1
  have t0 := T1.c0
  have t1 := T1.c1
  clear h1 HB
  go_wp2_with fail
  refine (Z.out _ (HT.out.below c1)).mono ?_
  rintro e w2 ⟨rfl, h2⟩
  have c2 := Lib.hid (c1.trans (h2.mono c1.size))
  clear h2 c1 T1 t0 t1
  go_wp2
  go_ret2
  exact ⟨rfl, c2.out⟩
/-- No block: its shape isn't right, it is too large, or the words are not as many. -/
theorem of_odd (A : Option Addr) (n ca : Nat) (a b : Int) (h : ¬ (Sh.Gd a b ∧ a * b = (n : Int)) ∨ 1048576 < a * b) (w : World) (hT : Ft.Tab w) :
    Calls Tryd.prog 9 #[.agg #[.int .i64 a, .int .i64 b], .slice A n ca] w fun e w' => e = .returned (.tuple #[.pointer none, .int .i64 19]) ∧ Below w.heap.size w w' := by
  by_cases g : Sh.Gd a b ∧ a * b ≤ 1048576
  · rcases h with h | h
    · exact of_len A n ca a b _ g.1 rfl g.2 (fun e => h ⟨g.1, e.symm⟩) w hT
    · have := g.2; omega
  · exact of_no A n ca a b g w hT
/-- A block of words that were copied just now. -/
theorem bx_of {w w1 : World} {b R C n cap : Nat} {f : Nat → Nat} (K : Wk w1 b 0 n f) (hs : b < w1.heap.size) (hc : n ≤ cap) (hn : R * C = n) (hg : Sh.Gd (R : Int) (C : Int)) (hl : n ≤ 1048576) (lt : ∀ i, i < n → f i < 18446744073709551616) (t : TypeId) :
    Bx (w1.alloc (.cells #[.int .i64 R, .int .i64 C, .slice (some ⟨b, 0, none⟩) n cap] t)) w1.heap.size b R C n cap f :=
  ⟨Sc.fresh w1 R C _ t, K.below hs (below_alloc w1 _), by simp; omega, by omega, hc, hn, hg, hl, lt⟩
set_option maxHeartbeats 1000000 in
set_option maxRecDepth 100000 in
theorem of_ok (ad : Addr) (ca R C n : Nat) (xs : List Nat) (hx : xs.length = n) (hg : Sh.Gd (R : Int) (C : Int)) (hn : R * C = n) (hl : n ≤ 1048576) (w : World) (hT : Ft.Tab w) (X : Ws w w.heap.size (some ad) xs) :
    Calls Tryd.prog 9 #[.agg #[.int .i64 (R : Int), .int .i64 (C : Int)], .slice (some ad) n ca] w fun e w' => ∃ v, e = .returned (.tuple #[v, .int .i64 0]) ∧ BxN R C n (Pn.pl xs) w w' v := by
  have hm : (R : Int) * (C : Int) = (n : Int) := by rw [← hn]; simp
  have h0 : 0 < n := by
    obtain ⟨g1, _, g3, _, _⟩ := hg.bound
    rw [← hn]; exact Nat.mul_pos (by omega) (by omega)
  have G := Lib.hid (fun W T => has R C true (by simp only [true_iff]; exact ⟨hg, by rw [hm]; omega⟩) W T)
  have Z := Lib.hid (fun W T => Sh.size_yes R C n hg hm W T)
  have CL := Lib.hid (fun W R => clone ad ca n xs hx h0 hl W R)
  have HB := Lib.hid (below_alloc w)
  have HT := Lib.hid hT
  have X := Lib.hid X
  have ne : ((n : Int) != (n : Int)) = false := by simp
  have b1 := build_sides (R : Int) (C : Int)
  have b2 := fun s n c => build_block (R : Int) (C : Int) s n c
  have BM := Lib.hid (fun (w1 : World) b cap K hs hc t => bx_of (w := w1) (w1 := w1) (b := b) (R := R) (C := C) (n := n) (cap := cap) (f := Pn.pl xs) K hs hc hn hg hl (fun i hi => X.out.lt i (by omega)) t)
  clear hg hT hm hn h0
  go_enter Tryd.func9, Tryd.ntmps9
  go_wp2_with fail
  refine (G.out _ (HT.out.below (HB.out _))).mono ?_
  rintro e w1 ⟨rfl, h1⟩
  have c1 := (HB.out _).trans (h1.mono (HB.out _).size)
  have V1 := (Sh.Tw.fresh w R C 23).below h1
  have t0 := V1.c0
  have t1 := V1.c1
  clear h1 HB G
  go_wp2_with fail
  refine (Z.out _ (HT.out.below c1)).mono ?_
  rintro e w2 ⟨rfl, h2⟩
  have c2 := Lib.hid (c1.trans (h2.mono c1.size))
  have M := Ke.of (V1.below h2)
  have X2 := Lib.hid (X.out.step c2.out)
  clear h2 c1 V1 t0 t1 Z HT X
  generalize w.heap.size = vb at M
  have XX := Lib.hid (fun W (h : Ke w2 vb R C W) => show Ws W W.heap.size (some ad) xs from X2.out.step h.d)
  have FI := Lib.hid (fun W b cap (h : Ke w2 vb R C W) (K : Wk W b 0 n (Pn.pl xs)) (hs : b < W.heap.size) (hc : n ≤ cap) (hb : w2.heap.size ≤ b) t => show BxN R C n (Pn.pl xs) w2 (W.alloc (.cells #[.int .i64 R, .int .i64 C, .slice (some ⟨b, 0, none⟩) n cap] t)) (.pointer (some ⟨W.heap.size, 0, none⟩)) from
    ⟨_, _, _, rfl, BM.out W b cap K hs hc t, h.d.size, hb, (h.alloc _).d⟩)
  go_upto_region 2 with fail
  go_cut [4, 5] (fun v4 v5 wx => v5 = .int .i64 0 ∧ BxN R C n (Pn.pl xs) w2 wx v4)
  case first =>
    go_region_held3 (fun w' => w'.cell? ⟨vb, 0, none⟩ = some (.int .i64 (R : Int)) ∧ w'.cell? ⟨vb, 1, none⟩ = some (.int .i64 (C : Int)) ∧ Ke w2 vb R C w')
      (exact Ke.all (by repeat (first | with_reducible exact M | with_reducible refine Ke.drew ?_ | with_reducible refine Ke.alloc ?_ _ | with_reducible refine Ke.call ?_ h3)))
      (first
        | (go_at_call 27; refine (CL.out _ (XX.out _ (by repeat (first | with_reducible exact M | with_reducible refine Ke.drew ?_)))).mono ?_; rintro e w3 ⟨b, cb, rfl, hcb, hb1, hb2, K3, h3⟩))
    all_goals (go_wp2_with fail; go_meet)
    all_goals exact ⟨rfl, FI.out _ _ _ (by repeat (first | with_reducible exact M | with_reducible refine Ke.drew ?_ | with_reducible refine Ke.call ?_ h3)) K3 hb2 hcb hb1 _⟩
  case rest =>
    obtain ⟨rfl, hcut⟩ := hcut
    have F := Lib.hid (show BxN R C n (Pn.pl xs) w wc u4 from by
      obtain ⟨p, b, cap, e, B, h1, h2, h3⟩ := hcut
      exact ⟨p, b, cap, e, B, Nat.le_trans c2.out.size h1, Nat.le_trans c2.out.size h2, c2.out.trans (h3.mono c2.out.size)⟩)
    clear hcut BM FI M X2 CL
    go_wp2
    exact bodyPost_ret (v := .tuple #[u4, .int .i64 0]) (by simp [results, Tryd.results9, go_sem]) rfl ⟨u4, rfl, F.out⟩

set_option maxHeartbeats 400000 in
theorem shape {w : World} {p : Nat} {R C : Int} {s : Value} (S : Sc w p R C s) :
    Calls Tryd.prog 11 #[.pointer (some ⟨p, 0, none⟩)] w fun e w' => e = .returned (.agg #[.int .i64 R, .int .i64 C]) ∧ Below w.heap.size w w' := by
  have HB := Lib.hid (below_alloc w)
  have B1 := Lib.hid (fun o (v : Value) q (hq : q.block = w.heap.size) => ((HB.out o).drew.setCell (p := q) (by rw [hq]; exact Nat.le_refl _) v))
  have a := S.below (HB.out (.cells #[.int .i64 0, .int .i64 0] 23))
  have t0 := a.c0
  have t1 := a.c1
  have l0 := a.drew.c0
  have l1 := a.drew.c1
  have hl := S.lt
  clear S a
  go_enter Tryd.func11, Tryd.ntmps11
  go_upto_region 1 with fail
  go_region
  go_wp2
  exact bodyPost_ret (v := .agg #[.int .i64 R, .int .i64 C]) (by simp [results, Tryd.results11, go_sem]) rfl ⟨rfl, (HB.out _).drew⟩
/-- A row of words that a call answers. -/
def Wr (f : Nat → Nat) (n : Nat) (w : World) (e : Ending) (w' : World) : Prop := ∃ A cap, e = .returned (.slice A n cap) ∧ Ws w' w'.heap.size A (rg f n) ∧ Below w.heap.size w w'
theorem ta_ws {w : World} {b n : Nat} {f : Nat → Nat} (K : Wk w b 0 n f) (hs : b < w.heap.size) (lt : ∀ i, i < n → f i < 18446744073709551616) : Ws w w.heap.size (some ⟨b, 0, none⟩) (rg f n) := K.ws lt hs
set_option maxHeartbeats 400000 in
theorem words {w : World} {p b R C n cap : Nat} {f : Nat → Nat} (B : Bx w p b R C n cap f) :
    Calls Tryd.prog 13 #[.pointer (some ⟨p, 0, none⟩)] w (Wr f n w) := by
  have CL := Lib.hid (cloneB ⟨b, 0, none⟩ cap n (rg f n) (rg_len _ _) B.pos.2.2.1 B.l w (ta_ws B.k B.s B.lt))
  have t2 := B.c.c2
  have LT := Lib.hid B.lt
  clear B
  go_enter Tryd.func13, Tryd.ntmps13
  go_wp2_with fail
  refine CL.out.mono ?_
  rintro e w1 ⟨b1, c1, rfl, h1, h2, h3, K, hb⟩
  have F := Lib.hid (show Wr f n w (.returned (.slice (some ⟨b1, 0, none⟩) n c1)) w1 from ⟨_, c1, rfl, by
    have R := K.ws (fun i hi => by rw [Pn.pl, rg_at _ _ _ hi]; exact LT.out i hi) h3
    rw [show (List.range n).map (Pn.pl (rg f n)) = rg f n from rg_congr n (fun i hi => rg_at f n i hi)] at R
    exact R, hb⟩)
  clear K CL t2 h1 h2 h3 hb LT
  go_wp2
  exact bodyPost_ret (v := .slice (some ⟨b1, 0, none⟩) n c1) (by simp [results, Tryd.results13, go_sem]) rfl F.out

theorem at_no (a b r c : Int) (h : Sh.Gd a b) (hr : r < 0 ∨ a ≤ r ∨ c < 0 ∨ b ≤ c) (w : World) (hT : Ft.Tab w) :
    Calls Tryd.prog 31 #[.agg #[.int .i64 a, .int .i64 b], .int .i64 r, .int .i64 c] w fun e w' => e = .returned (.tuple #[.int .i64 0, .int .i64 2]) ∧ Below w.heap.size w w' := by
  by_cases h1 : r < 0 ∨ a ≤ r
  · exact Sh.at_row a b r c h h1 w hT
  · exact Sh.at_col a b r c h (by omega) (by omega) (by omega) w hT
set_option maxHeartbeats 400000 in
theorem get_no {w : World} {p b R C n cap : Nat} {f : Nat → Nat} (B : Bx w p b R C n cap f) (r c : Int) (h : r < 0 ∨ (R : Int) ≤ r ∨ c < 0 ∨ (C : Int) ≤ c) (hT : Ft.Tab w) :
    Calls Tryd.prog 18 #[.pointer (some ⟨p, 0, none⟩), .int .i64 r, .int .i64 c] w fun e w' => e = .returned (.tuple #[.int .u64 0, .int .i64 2]) ∧ Below w.heap.size w w' := by
  have S := Lib.hid (shape B.c)
  have A := Lib.hid (fun W T => at_no R C r c B.g h W T)
  have HT := Lib.hid hT
  clear B h hT
  go_enter Tryd.func18, Tryd.ntmps18
  go_wp2_with fail
  refine S.out.mono ?_
  rintro e w1 ⟨rfl, h1⟩
  go_wp2_with fail
  refine (A.out _ (HT.out.below h1)).mono ?_
  rintro e w2 ⟨rfl, h2⟩
  have c2 := Lib.hid (h1.trans (h2.mono h1.size))
  clear h1 h2
  go_wp2
  go_ret2
  exact ⟨rfl, c2.out⟩
set_option maxHeartbeats 400000 in
theorem get_in {w : World} {p b R C n cap : Nat} {f : Nat → Nat} (B : Bx w p b R C n cap f) (r c x : Nat) (hr : r < R) (hc : c < C) (hx : x = r * C + c) (hT : Ft.Tab w) :
    Calls Tryd.prog 18 #[.pointer (some ⟨p, 0, none⟩), .int .i64 (r : Int), .int .i64 (c : Int)] w fun e w' => e = .returned (.tuple #[.int .u64 (f x : Nat), .int .i64 0]) ∧ Below w.heap.size w w' := by
  have S := Lib.hid (shape B.c)
  have A := Lib.hid (fun W T => Sh.at_in R C r c x B.g (by omega) (by omega) (by omega) (by omega) (by rw [hx]; simp) W T)
  have HT := Lib.hid hT
  have hx1 : x < n := by rw [hx, ← B.hn]; exact Bk.lt_of hr hc
  have hl := B.l
  replace B := Lib.hid B
  obtain ⟨v, hv⟩ : ∃ v, v = f x := ⟨_, rfl⟩
  rw [← hv]
  replace hv := Lib.hid hv
  clear hx hr hc hT
  go_enter Tryd.func18, Tryd.ntmps18
  go_wp2_with fail
  refine S.out.mono ?_
  rintro e w1 ⟨rfl, h1⟩
  go_wp2_with fail
  refine (A.out _ (HT.out.below h1)).mono ?_
  rintro e w2 ⟨rfl, h2⟩
  have c2 := Lib.hid (h1.trans (h2.mono h1.size))
  have B2 := B.out.below c2.out
  have t2 := B2.c.c2
  have k0 := B2.k.c x hx1
  rw [Nat.zero_add, ← hv.out] at k0
  clear h1 h2 A S B B2 HT
  go_wp2
  go_ret2
  exact ⟨rfl, c2.out⟩
set_option maxHeartbeats 400000 in
theorem put_no {w : World} {p b R C n cap : Nat} {f : Nat → Nat} (B : Bx w p b R C n cap f) (r c : Int) (v : Nat) (h : r < 0 ∨ (R : Int) ≤ r ∨ c < 0 ∨ (C : Int) ≤ c) (hT : Ft.Tab w) :
    Calls Tryd.prog 19 #[.pointer (some ⟨p, 0, none⟩), .int .i64 r, .int .i64 c, .int .u64 (v : Nat)] w fun e w' => e = .returned (.int .i64 2) ∧ Below w.heap.size w w' := by
  have S := Lib.hid (shape B.c)
  have A := Lib.hid (fun W T => at_no R C r c B.g h W T)
  have HT := Lib.hid hT
  clear B h hT
  go_enter Tryd.func19, Tryd.ntmps19
  go_wp2_with fail
  refine S.out.mono ?_
  rintro e w1 ⟨rfl, h1⟩
  go_wp2_with fail
  refine (A.out _ (HT.out.below h1)).mono ?_
  rintro e w2 ⟨rfl, h2⟩
  have c2 := Lib.hid (h1.trans (h2.mono h1.size))
  clear h1 h2
  go_wp2
  go_ret
  exact ⟨by simp [go_sem], c2.out⟩
set_option maxHeartbeats 400000 in
theorem put_in {w : World} {p b R C n cap : Nat} {f : Nat → Nat} (B : Bx w p b R C n cap f) (r c x v : Nat) (hr : r < R) (hc : c < C) (hx : x = r * C + c) (hT : Ft.Tab w) :
    Calls Tryd.prog 19 #[.pointer (some ⟨p, 0, none⟩), .int .i64 (r : Int), .int .i64 (c : Int), .int .u64 (v : Nat)] w fun e w' => e = .returned (.int .i64 0) ∧ Ta b n (upd f x v) w w' := by
  have S := Lib.hid (shape B.c)
  have A := Lib.hid (fun W T => Sh.at_in R C r c x B.g (by omega) (by omega) (by omega) (by omega) (by rw [hx]; simp) W T)
  have HT := Lib.hid hT
  have hx1 : x < n := by rw [hx, ← B.hn]; exact Bk.lt_of hr hc
  have hl := B.l
  replace B := Lib.hid B
  clear hx hr hc hT
  go_enter Tryd.func19, Tryd.ntmps19
  go_wp2_with fail
  refine S.out.mono ?_
  rintro e w1 ⟨rfl, h1⟩
  go_wp2_with fail
  refine (A.out _ (HT.out.below h1)).mono ?_
  rintro e w2 ⟨rfl, h2⟩
  have c2 := h1.trans (h2.mono h1.size)
  have B2 := B.out.below c2
  have t2 := B2.c.c2
  have T2 : Ta b n f w w2 := ⟨B2.k, But.of_below c2 (Nat.le_of_lt B.out.s)⟩
  obtain ⟨k0, k1⟩ := T2.at_ x hx1
  have F := Lib.hid (T2.put x v hx1)
  clear h1 h2 A S B B2 HT T2 c2
  generalize f x = v0 at *
  go_wp2
  go_ret
  exact ⟨by simp [go_sem], F.out⟩

theorem slice_bothB (W : World) (b off len cap l h n : Nat) (hn : l + n = h) (h0 : 0 < n) (hh : h ≤ cap) : (Instr.slice 59 (.slice (some ⟨b, off, none⟩) len cap) (some (.int .i64 (l : Int))) (some (.int .i64 (h : Int))) none).run Tryd.prog W = .ok (.slice (some ⟨b, off + l, none⟩) n (cap - l)) W := by
  have ht := Tryd.underlying59
  have ht' : Tryd.prog.underlying 59 = some (.slice (Tryd.prog.elem 59)) := by simp [Program.elem, ht]
  have he : Tryd.prog.elem 59 = 37 := by simp [Program.elem, ht]
  rw [run_slice_lh W 59 _ _ _ ht' .i64 .i64 _ _ (by omega) (by omega) (by omega), he, sizeU]
  have h1 : ¬ cap = l := by omega
  have h2 : h - l = n := by omega
  simp [Result.andThen, sliced, h1, h2, add_none]
set_option maxHeartbeats 400000 in
/-- Some words of a row, in the block's own memory. -/
theorem line {w : World} {p b R C n cap : Nat} {f : Nat → Nat} (B : Bx w p b R C n cap f) (r c k x : Nat) (hx : x = r * C + c) (hk : x + k ≤ n) (k0 : 0 < k) (m : Nat) :
    Calls Tryd.prog 35 #[.pointer (some ⟨p, 0, none⟩), .int .i64 (r : Int), .int .i64 (c : Int), .int .i64 (k : Int)] (w.drewN m) fun e w' => e = .returned (.slice (some ⟨b, x, none⟩) k (cap - x)) ∧ w.drewN m = w' := by
  have hl := B.l
  obtain ⟨s, hs⟩ : ∃ s, s = r * C := ⟨_, rfl⟩
  obtain ⟨y, hy⟩ : ∃ y, y = x + k := ⟨_, rfl⟩
  have q1 : IntKind.i64.wrap ((r : Int) * (C : Int)) = (s : Int) := by rw [← Int.natCast_mul, ← hs]; exact IntWalk.i64_in _ (by omega)
  have q2 : IntKind.i64.wrap ((s : Int) + (c : Int)) = (x : Int) := by rw [IntKind.wrap_i64]; omega
  have q3 : IntKind.i64.wrap ((x : Int) + (k : Int)) = (y : Int) := by rw [IntKind.wrap_i64]; omega
  have SB := slice_bothB (w.drewN m) b 0 n cap x y k hy.symm k0 (by have := B.hc; omega)
  rw [Nat.zero_add] at SB
  have B1 := B.drewN m
  have t1 := B1.c.c1
  have t2 := B1.c.c2
  clear hs hy hx B B1 hk k0 hl
  go_enter Tryd.func35, Tryd.ntmps35
  go_wp2
  go_ret
  exact ⟨rfl, rfl⟩
set_option maxHeartbeats 400000 in
theorem meet (i j k s t : Int) (o : Bool) (hs : IntKind.i64.wrap (j + k) = s) (ht : IntKind.i64.wrap (i + k) = t) (ho : (decide (i < s) && decide (j < t)) = o) (w : World) :
    Calls Tryd.prog 34 #[.int .i64 i, .int .i64 j, .int .i64 k] w fun e w' => e = .returned (.bool o) ∧ w = w' := by
  by_cases h1 : i < s
  · by_cases h2 : j < t
    · simp [h1, h2] at ho; subst ho
      go_enter Tryd.func34, Tryd.ntmps34
      go_wp2
      go_ret
      exact ⟨by simp [go_sem]; try omega, rfl⟩
    · simp [h1, h2] at ho; subst ho
      go_enter Tryd.func34, Tryd.ntmps34
      go_wp2
      go_ret
      exact ⟨by simp [go_sem]; try omega, rfl⟩
  · simp [h1] at ho; subst ho
    go_enter Tryd.func34, Tryd.ntmps34
    go_wp2
    go_ret
    exact ⟨by simp [go_sem], rfl⟩
end Bl
end Go.Proofs.YtobpjlgiefnmjaaDoor
