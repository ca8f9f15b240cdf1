/- Contract of package rows' Parts, of a length that is a multiple. -/
import Derived.Test.YtfjoacopnkceoaaDoorPartB
set_option linter.unusedVariables false
namespace Go.Proofs.YtfjoacopnkceoaaDoor
open Go.RowKit Go.Shelf
namespace Pt
open Ww Pl
attribute [local go_sem] Oper.semAt_some

/-- The parts of m words of a row. -/
def chunks (xs : List Nat) (m q : Nat) : List (List Nat) := (List.range q).map fun j => rg (fun t => Pn.pl xs (j * m + t)) m
/-- What Parts answers. -/
def PartsOut (xs : List Nat) (m q : Nat) (w : World) (e : Ending) (w' : World) : Prop :=
  ∃ A c, e = .returned (.tuple #[.slice A q c, .int .i64 0]) ∧ Jn.Rj w' w'.heap.size A (chunks xs m q) ∧ Below w.heap.size w w'
theorem chunks_len (xs : List Nat) (m q : Nat) : (chunks xs m q).length = q := by simp [chunks]
theorem chunks_at (xs : List Nat) (m q i : Nat) (h : i < q) : (chunks xs m q).getD i [] = rg (fun t => Pn.pl xs (i * m + t)) m := by simp [chunks, List.getD, h]
/-- The parts that the loop has made. -/
theorem parts_out {xs : List Nat} {m q n₀ : Nat} {v : Value} {vals : List Value} {ys : List (Fin q)} {W : World} (h0 : 0 < m) (hys : ys.map Fin.val = List.range q) (P : Pv xs m q n₀ v vals ys W) (hx : ∀ j, Pn.pl xs j < 18446744073709551616) :
    ∃ A' c', v = .slice A' q c' ∧ Jn.Rj W W.heap.size A' (chunks xs m q) := by
  have hl : ys.length = q := by have := congrArg List.length hys; simpa using this
  have ho := P.o0
  rw [hl] at ho
  have cells : ∀ g : Nat, v.ownBlock = some g → ∀ (i : Nat) (u : Value), vals[i]? = some u → W.cell? ⟨g, 0 + i, none⟩ = some u := fun g hg i u hu => by
    have := World.ownsRow.cells ho hg i u hu
    rwa [add_none] at this
  rcases ho.2 with ⟨rfl, h⟩ | ⟨g, cap, cur, rfl, hg, hgg, _⟩
  · subst h
    exact ⟨none, 0, rfl, ⟨fun i hi => by simp [chunks] at hi⟩⟩
  · refine ⟨some ⟨g, 0, none⟩, cap, rfl, ⟨fun i hi => ?_⟩⟩
    rw [chunks_len] at hi
    rw [chunks_at _ _ _ _ hi, rg_len]
    have hiy : i < ys.length := by omega
    have hv : ys[i].val = i := by
      have e : (ys.map Fin.val)[i]? = (List.range q)[i]? := by rw [hys]
      simpa [hiy, hi] using e
    obtain ⟨bi, ci, e, _, _, K⟩ := P.r0 i ys[i] (by simp [hiy])
    rw [hv] at K
    refine ⟨g, 0, some ⟨bi, 0, none⟩, ci, rfl, (Array.getElem?_eq_some_iff.1 hgg).1, cells g rfl i _ e, K.ws (fun t _ => hx _) (K.lt h0), fun h => by cases h⟩
theorem wk_rg {w : World} {b n : Nat} {f : Nat → Nat} (K : Wk w b 0 n (Pn.pl (rg f n))) : Wk w b 0 n f := ⟨fun i hi => by rw [K.c i hi, pl_rg f n i hi], K.z⟩
theorem infoS : (Tryd.prog.info? 22).map (fun i => (i.zero, i.size, i.bytes)) = some (some (.slice none 0 0), 1, 24) := by kernel_rfl

set_option maxRecDepth 100000 in
set_option maxHeartbeats 2000000 in
theorem parts (A : Option Addr) (ca n m q : Nat) (xs : List Nat) (hm : 0 < m) (hq : n = q * m) (hx : xs.length = n) (hl : n ≤ 1048576) (hca : n ≤ ca) (w : World) (R : Ws w w.heap.size A xs) :
    Calls Tryd.prog 27 #[.slice A n ca, .int .i64 (m : Int)] w (PartsOut xs m q w) := by
  have hmx : Tryd.prog.follows .mixedOrders = true := by kernel_rfl
  have h1 : ¬ (m : Int) < 1 := by omega
  have h2 : ((m : Int) == 0) = false := by rw [beq_eq_false_iff_ne]; omega
  have h3 : (n : Int).tmod (m : Int) = 0 := by
    show ((n % m : Nat) : Int) = 0
    rw [hq, Nat.mul_mod_left]; rfl
  obtain ⟨b, off, hA⟩ : ∃ b off, 0 < q → A = some ⟨b, off, none⟩ := by
    by_cases h : 0 < q
    · have hn : 0 < xs.length := by rw [hx, hq]; exact Nat.mul_pos h hm
      obtain ⟨b, off, e, _⟩ := R.at_ 0 hn
      exact ⟨b, off, fun _ => e⟩
    · exact ⟨0, 0, fun g => absurd g h⟩
  have HQ := Lib.hid hq
  have HX := Lib.hid hx
  clear hq hx
  refine (callsIn_wide (n := 10)).1 ?_
  refine callsIn_of_wp_marks Tryd.func27 rfl trivial ?_ rfl
  simp only [Tryd.ntmps27, List.size_toArray, List.length_cons, List.length_nil, Nat.reduceAdd, Nat.reduceSub, Array.replicate_succ, Array.replicate_zero, List.push_toArray, List.append_toArray, List.nil_append, List.cons_append]
  gi_wp2_with (refine ⟨trivial, ?_⟩; gi_at_call 43; refine (callsIn_wide.2 (chunk A n ca m hm _)).mono ?_; rintro e w' ⟨rfl, rfl⟩)
  have hbs : ((((w.alloc (.cells #[.slice none 0 0] 46)).alloc (.cells #[.slice A n ca] 22)).alloc (.cells #[.int .i64 (m : Int)] 3))).cell? ⟨w.heap.size + 1, 0, none⟩ = some (.slice A n ca) := by simp [go_sem]
  have hbn : ((((w.alloc (.cells #[.slice none 0 0] 46)).alloc (.cells #[.slice A n ca] 22)).alloc (.cells #[.int .i64 (m : Int)] 3))).cell? ⟨w.heap.size + 2, 0, none⟩ = some (.int .i64 (m : Int)) := by simp [go_sem]
  have hbx := ((Boxed.new w 46 (.slice none 0 0)).alloc (.cells #[.slice A n ca] 22)).alloc (.cells #[.int .i64 (m : Int)] 3)
  have hsz : ((((w.alloc (.cells #[.slice none 0 0] 46)).alloc (.cells #[.slice A n ca] 22)).alloc (.cells #[.int .i64 (m : Int)] 3))).heap.size = w.heap.size + 3 := by simp
  have B0 : Below w.heap.size w ((((w.alloc (.cells #[.slice none 0 0] 46)).alloc (.cells #[.slice A n ca] 22)).alloc (.cells #[.int .i64 (m : Int)] 3))) := (((Below.refl _ w).alloc (Nat.le_refl _) _).alloc (by simp) _).alloc (by simp; omega) _
  obtain ⟨W0, hW0⟩ : ∃ W0, (((w.alloc (.cells #[.slice none 0 0] 46)).alloc (.cells #[.slice A n ca] 22)).alloc (.cells #[.int .i64 (m : Int)] 3)) = W0 := ⟨_, rfl⟩
  rw [hW0] at hbs hbn hbx hsz B0 ⊢
  clear hW0
  refine wpIn_rangeFunc_ownF (F := Fence.wide) (n := 10) rfl (by omega) (gf := 65) (lb := #[.pointer (some ⟨w.heap.size + 1, 0, none⟩), .pointer (some ⟨w.heap.size + 1 + 1, 0, none⟩)]) rfl trivial (enters_of Tryd.func65 (by kernel_rfl) rfl)
    (encs := fun x : Fin q => #[Value.slice (some ⟨b, off + x.1 * m, none⟩) m m]) (Kp := Kp (w.heap.size + 1) (w.heap.size + 2)) (S := fun ys : List (Fin q) => ys.map Fin.val = List.range q) (Sp := fun _ => True) (N := q) (w0 := W0)
    (fun l J Jx W hW hJ hJx hY h0 => chunk_in l (w.heap.size + 1) (w.heap.size + 2) b off ca n m q A hA hm HQ.out hl hca J Jx hY (fun pre W1 h => hJ pre W1 _ none h (grown_drew W1) (fun r e => by cases e)) W ((hW.cell (p := ⟨w.heap.size + 1, 0, none⟩) (by show w.heap.size + 1 < _; omega)).trans hbs) ((hW.cell (p := ⟨w.heap.size + 2, 0, none⟩) (by show w.heap.size + 2 < _; omega)).trans hbn) h0)
    kp_t (kp_b (by omega) (by omega)) (Below.refl _ _) (fun _ => rfl)
    (fun pre W => ((∃ v vals, Pv xs m q w.heap.size v vals pre W) ∧ w.heap.size + 3 ≤ W.heap.size) ∧ Below w.heap.size w W)
    (fun _ _ _ => False)
    (OwnFrom.and (fun pre W W' row ⟨⟨v, vals, P⟩, hz⟩ hg hr => ⟨⟨v, vals, P.same hm (sc_grown hg (fun r e => (hr r e).2))⟩, Nat.le_trans hz hg.size⟩) (ownFrom_below (Nat.le_refl _) (by omega)))
    (fun _ _ _ _ _ hs _ _ => hs)
    ⟨⟨⟨_, [], ⟨hbx, World.ownsRow_nil _ _ _ _, fun i x hx => by simp at hx⟩⟩, by omega⟩, B0⟩
    (fun x => { tmps := #[.slice A n ca, .int .i64 (m : Int), undef, undef, .slice none 0 0, .int .i64 0, .pointer (some ⟨w.heap.size, 0, none⟩), .slice (some ⟨b, off + x.1 * m, none⟩) m m, .int .i64 (m : Int), .bool false,
      .slice A n ca, .int .i64 (n : Int), .int .i64 (m : Int), .int .i64 0, .bool false, .slice A n ca, .int .i64 (m : Int), .func (.func 65) #[] #[.pointer (some ⟨w.heap.size + 1, 0, none⟩), .pointer (some ⟨w.heap.size + 1 + 1, 0, none⟩)], .slice (some ⟨b, off + x.1 * m, none⟩) m m, undef, undef, undef, undef, undef, undef], defers := [] }) ?assign ?body ?done ?stop
  case assign =>
    intro l x W K hK
    gi_wp2
    exact hK
  case body =>
    rintro l pre x W ⟨⟨⟨v, vals, P⟩, hz⟩, hB⟩ hlt
    have hxq := x.2
    obtain rfl := hA (by omega)
    obtain ⟨i0, hi, hz0, hz1, hz2⟩ := info_parts infoS
    have hb1 : (x.1 + 1) * m ≤ q * m := Nat.mul_le_mul_right m hxq
    rw [Nat.succ_mul, ← HQ.out] at hb1
    have hmn : m ≤ 1048576 := by omega
    have Rx := (ws_sub ((R.below hB).more hB.size) (x.1 * m) m (by rw [HX.out]; exact hb1)).drew
    have CL := Lib.hid (Kn.clone ⟨b, off + x.1 * m, none⟩ m m _ (rg_len _ _) hm hmn W.drew Rx)
    have PB := P.b0
    have pd : W.drew.cell? ⟨w.heap.size, 0, none⟩ = some v := PB.cell
    have pl1 := hlt
    clear hbs hbn hbx
    gi_wp2
    gi_region_with_o (refine ⟨trivial, ?_⟩; gi_at_call 28; refine (CallsIn.inRound l (callsIn_wide.2 CL.out)).mono ?_; rintro e w2 ⟨bC, cC, rfl, hc1, hbC, hbC2, K, h2⟩; have h2' : Below W.heap.size W w2 := (Below.refl W.heap.size W).drew.trans h2; have P3 := P.same hm (sc_below (h2'.trans ((below_alloc w2 (.cells #[.slice (some ⟨bC, 0, none⟩) m cC] 22)).mono h2'.size))); have c2 : w2.cell? ⟨w.heap.size, 0, none⟩ = some v := (P.same hm (sc_below h2')).b0.cell; have c3 := P3.b0.cell; obtain ⟨v', w4, hr, O4, hg, _, hat⟩ := run_append_own_at (P := Tryd.prog) (w2.alloc (.cells #[.slice (some ⟨bC, 0, none⟩) m cC] 22)) (w.heap.size + 3) 46 46 22 i0 (.slice none 0 0) 1 24 Tryd.underlying46 hi hz0 hz1 hz2 rfl (by decide) v pre.length vals P3.o0 ⟨w2.heap.size, 0, none⟩ 1 1 [.slice (some ⟨bC, 0, none⟩) m cC] rfl (cell_one_new _ _ _) (by simp [Value.oneCell']) (by unfold maxLen; have := HQ.out; have := Nat.le_mul_of_pos_right q hm; omega) (by have := HQ.out; have := Nat.le_mul_of_pos_right q hm; omega) (by have := h2'.size; simp; omega); obtain ⟨g', c', rfl⟩ := ownsRow_succ O4; have hr2 := hr; simp [go_sem] at hr2; obtain ⟨b4, KO, KP, PV, BB⟩ := part_step hm P hz h2' hbC hbC2 (wk_rg K) O4 hg hat; have hc4 := b4.cell; have hf4 := b4.frozen)
    all_goals gi_wp2
    all_goals exact ⟨KO, KP, ⟨⟨_, _, PV⟩, Nat.le_trans hz KO.size⟩, hB.trans BB⟩
  case done =>
    rintro D ys W hD hys ⟨⟨⟨v, vals, P⟩, hz⟩, hB⟩ hK
    have hc := P.b0.cell
    have PO := Lib.hid (fun W' (hs : Sc W W') => parts_out hm hys (P.same hm hs) (fun j => pl64 R j))
    obtain ⟨A1, c1, rfl, _⟩ := PO.out W (fun _ _ h _ => h)
    gi_wp2
    refine ⟨by simp, .inl ⟨_, _, rfl, run_takeDeferred hK, ?_⟩⟩
    obtain ⟨A2, c2, e, RJ⟩ := PO.out (W.putObj D (.deferred none)) (sc_grown (grownBy_putObj' W D (.deferred none)) (fun r e => by cases e; exact ⟨_, hK, rfl⟩))
    injection e with e1 e2 e3
    subst e1 e3
    exact ⟨_, results_tmp2 rfl _ _ _, A1, c1, rfl, RJ, hB.trans (belowK_b (w := w) (Nat.le_refl _) W D _ _ (by omega) hK rfl rfl)⟩
  case stop =>
    rintro D c pre W _ _ h _
    exact h.elim

set_option maxHeartbeats 400000 in
theorem parts_arg (A : Option Addr) (n ca : Nat) (m : Int) (hm : m < 1) (w : World) :
    Calls Tryd.prog 27 #[.slice A n ca, .int .i64 m] w fun e w' => e = .returned (.tuple #[.slice none 0 0, .int .i64 1]) ∧ Below w.heap.size w w' := by
  have HB := Lib.hid (below_alloc w)
  go_enter Tryd.func27, Tryd.ntmps27
  go_wp2
  exact bodyPost_ret (v := .tuple #[.slice none 0 0, .int .i64 1]) (by simp [results, Tryd.results27, go_sem]) rfl ⟨rfl, by first | exact Below.refl _ _ | exact HB.out _⟩
set_option maxHeartbeats 400000 in
theorem parts_odd (A : Option Addr) (n ca m : Nat) (hm : 0 < m) (ho : n % m ≠ 0) (w : World) :
    Calls Tryd.prog 27 #[.slice A n ca, .int .i64 (m : Int)] w fun e w' => e = .returned (.tuple #[.slice none 0 0, .int .i64 19]) ∧ Below w.heap.size w w' := by
  have h1 : ¬ (m : Int) < 1 := by omega
  have h2 : ((m : Int) == 0) = false := by rw [beq_eq_false_iff_ne]; omega
  obtain ⟨r, hr⟩ : ∃ r, r = n % m := ⟨_, rfl⟩
  have h3 : (n : Int).tmod (m : Int) = (r : Int) := by rw [hr]; rfl
  have h4 : ((r : Int) != 0) = true := by rw [bne_iff_ne]; omega
  have HB := Lib.hid (below_alloc w)
  clear hr ho
  go_enter Tryd.func27, Tryd.ntmps27
  go_wp2
  exact bodyPost_ret (v := .tuple #[.slice none 0 0, .int .i64 19]) (by simp [results, Tryd.results27, go_sem]) rfl ⟨rfl, by first | exact Below.refl _ _ | exact HB.out _⟩
theorem chunks_flat (xs : List Nat) (m : Nat) : ∀ q, xs.length = q * m → (chunks xs m q).flatten = xs := by
  have key : ∀ q, q * m ≤ xs.length → (chunks xs m q).flatten = xs.take (q * m) := by
    intro q
    induction q with
    | zero => intro _; simp [chunks]
    | succ q ih =>
      intro h
      have e : (q + 1) * m = q * m + m := Nat.succ_mul q m
      have e2 : chunks xs m (q + 1) = chunks xs m q ++ [rg (fun t => Pn.pl xs (q * m + t)) m] := by
        unfold chunks
        rw [List.range_succ, List.map_append]; rfl
      rw [e2, List.flatten_append, ih (by omega), e, List.take_add]
      congr 1
      simp only [List.flatten_cons, List.flatten_nil, List.append_nil]
      apply List.ext_getElem?
      intro i
      by_cases hi : i < m
      · have h1 : q * m + i < xs.length := by omega
        have h2 := rg_at (fun t => Pn.pl xs (q * m + t)) m i hi
        rw [List.getElem?_take_of_lt hi, List.getElem?_drop]
        have h3 : i < (rg (fun t => Pn.pl xs (q * m + t)) m).length := by rw [rg_len]; exact hi
        rw [List.getElem?_eq_getElem h3, List.getElem?_eq_getElem h1]
        have h4 : (rg (fun t => Pn.pl xs (q * m + t)) m)[i] = Pn.pl xs (q * m + i) := by simpa [List.getD, h3] using h2
        rw [h4]
        simp [Pn.pl, List.getD, h1]
      · rw [List.getElem?_eq_none (by rw [rg_len]; omega), List.getElem?_eq_none (by simp; omega)]
  intro q h
  rw [key q (by omega), ← h, List.take_length]
/-- The argument: rows of words. -/
theorem open_rows {H : Type} {enc : TypeId × Value → H} {fuel : Nat} {A : Option Addr} {n cap : Nat} {y : DataW H × List MemPlace} {W : World} (hf : DataW.trod enc Tryd.prog W 0 (fun _ => true) true fuel 46 [.slice A n cap] = some y) :
    ∃ ls : List (List Nat), ls.length = n ∧ n ≤ 9223372036854775807 ∧ Jn.Rj W W.heap.size A ls := by
  rcases Deep.open_slice1 Tryd.underlying46 (by kernel_rfl) hf with ⟨hcs, _⟩ | ⟨a, len, cap', m, k, V, D, Pl, hcs, _, hl, hm, hmm, _, hall⟩
  · obtain ⟨rfl, rfl, rfl⟩ : A = none ∧ n = 0 ∧ cap = 0 := by simpa using hcs
    exact ⟨[], rfl, by decide, Jn.Rj.nil_ _ _ _⟩
  · obtain ⟨rfl, rfl, rfl⟩ : A = some a ∧ n = len ∧ cap = cap' := by simpa using hcs
    have hm' : cap ≤ 9223372036854775807 := by unfold maxLen at hm; exact hm
    by_cases hl0 : n = 0
    · subst hl0
      exact ⟨[], rfl, by decide, Jn.Rj.nil_ _ _ _⟩
    have hlm : n ≤ m := by rw [hmm]; split <;> omega
    have c := (hall 0 (by omega)).1
    obtain ⟨b, off, spot⟩ := a
    have hsp : spot = none := by
      cases spot with
      | none => rfl
      | some s => exfalso; simp [World.cell?, Addr.add] at c; split at c <;> simp at c
    subst hsp
    have hB : b < W.heap.size := by rw [add_none] at c; exact World.block_lt_of_cell? W _ c
    have each : ∀ i, i < n → ∃ (xs : List Nat) (Ai : Option Addr) (ci : Nat), W.cell? ⟨b, off + i, none⟩ = some (.slice Ai xs.length ci) ∧ Ws W W.heap.size Ai xs ∧ (Ai = none → ci = 0) := by
      intro i hi
      obtain ⟨c0, t0⟩ := hall i (by omega)
      have hv : ∃ Ai ni ci, V i = .slice Ai ni ci := by
        rcases Deep.open_slice1 Tryd.underlying22 cellsU t0 with ⟨h, _⟩ | ⟨a, len, cap', m, k, V', D', Pl', h, _⟩
        · exact ⟨none, 0, 0, by simpa using h⟩
        · exact ⟨_, _, _, by simpa using h⟩
      obtain ⟨Ai, ni, ci, e⟩ := hv
      rw [e] at t0 c0
      obtain ⟨xs, rfl, _, _, R⟩ := open_words t0
      rw [add_none] at c0
      exact ⟨xs, Ai, ci, c0, R, Kn.nil_cap t0⟩
    have build : ∀ j, j ≤ n → ∃ ls : List (List Nat), ls.length = j ∧ ∀ i, i < j → ∃ (Ai : Option Addr) (ci : Nat), W.cell? ⟨b, off + i, none⟩ = some (.slice Ai (ls.getD i []).length ci) ∧ Ws W W.heap.size Ai (ls.getD i []) ∧ (Ai = none → ci = 0) := by
      intro j
      induction j with
      | zero => intro _; exact ⟨[], rfl, fun i hi => by omega⟩
      | succ j ih =>
        intro h
        obtain ⟨ls, hl, hls⟩ := ih (by omega)
        obtain ⟨xs, Ai, ci, h1, h2, h3⟩ := each j (by omega)
        refine ⟨ls ++ [xs], by simp [hl], fun i hi => ?_⟩
        by_cases hij : i < j
        · have e : (ls ++ [xs]).getD i [] = ls.getD i [] := by simp [List.getD, List.getElem?_append_left (show i < ls.length by omega)]
          rw [e]; exact hls i hij
        · obtain rfl : i = j := by omega
          have e : (ls ++ [xs]).getD i [] = xs := by simp [List.getD, ← hl]
          rw [e]; exact ⟨Ai, ci, h1, h2, h3⟩
    obtain ⟨ls, hll, hls⟩ := build n (Nat.le_refl _)
    refine ⟨ls, hll, by omega, ⟨fun i hi => ?_⟩⟩
    obtain ⟨Ai, ci, h1, h2, h3⟩ := hls i (by omega)
    exact ⟨b, off, Ai, ci, rfl, hB, h1, h2, h3⟩
theorem tot_rows (ls : List (List Nat)) (h : ∀ i, i < ls.length → (ls.getD i []).length ≤ 100) : ∀ i, i ≤ ls.length → Jn.tot ls i ≤ 100 * i := by
  intro i
  induction i with
  | zero => intro _; simp [Jn.tot]
  | succ i ih =>
    intro hi
    have := ih (by omega)
    have := h i (by omega)
    rw [Jn.tot_succ ls i (by omega)]
    omega
end Pt
end Go.Proofs.YtfjoacopnkceoaaDoor
