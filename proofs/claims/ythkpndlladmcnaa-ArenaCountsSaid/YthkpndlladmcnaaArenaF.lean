/- Laws of layer 14: rows of buffers and of ints that a law builds by append; the example. -/
import Derived.Test.YthkpndlladmcnaaArenaE
import Derived.OwnWalk
import Derived.Deep.SlicePairs
set_option linter.unusedVariables false
namespace Go.Proofs.Ythkpndlladmcnaa
open Go.RowKit Go.ChangeMaps Go.Lib
namespace Ar
open Ww

/-- A row of one's own stays where another one is written. -/
theorem owns_other {w w' : World} {base n : Nat} {e : TypeId} {v u : Value} {xs : List Value} (h : w.ownsRow base e 1 v n xs) (ha : ∀ g, v.ownBlock = some g → u.ownBlock ≠ some g) (hg : w.grownBy w' u.ownBlock) : w'.ownsRow base e 1 v n xs := by
  have hl := World.ownsRow.lt h
  refine ⟨h.1, ?_⟩
  rcases h.2 with h0 | ⟨g, cap, cur, rfl, h1, h2, h3⟩
  · exact Or.inl h0
  · exact Or.inr ⟨g, cap, cur, rfl, h1, by rw [hg.block g (hl g rfl).2 (fun e => ha g rfl e.symm)]; exact h2, h3⟩
/-- Rows of unlike types lie in unlike blocks. -/
theorem owns_apart {w : World} {b1 b2 n m : Nat} {e1 e2 : TypeId} {v u : Value} {xs ys : List Value} (h : w.ownsRow b1 e1 1 v n xs) (h2 : w.ownsRow b2 e2 1 u m ys) (hne : e1 ≠ e2) : ∀ g, v.ownBlock = some g → u.ownBlock ≠ some g := by
  intro g hv hu
  rcases h.2 with ⟨rfl, _⟩ | ⟨g1, cap, cur, rfl, _, c1, _⟩
  · cases hv
  · rcases h2.2 with ⟨rfl, _⟩ | ⟨g2, cap2, cur2, rfl, _, c2, _⟩
    · cases hu
    · cases hv
      cases hu
      rw [c1] at c2
      injection c2 with c2
      injection c2 with _ c2
      exact hne c2
theorem owns_fr {w w' : World} {M : Nat → Prop} {base n : Nat} {e : TypeId} {v : Value} {xs : List Value} (h : w.ownsRow base e 1 v n xs) (f : Fr M w w') (hm : ∀ g, v.ownBlock = some g → ¬ M g) : w'.ownsRow base e 1 v n xs := by
  have hl := World.ownsRow.lt h
  refine ⟨h.1, ?_⟩
  rcases h.2 with h0 | ⟨g, cap, cur, rfl, h1, h2, h3⟩
  · exact Or.inl h0
  · exact Or.inr ⟨g, cap, cur, rfl, h1, f.at_ h2 (hm g rfl), h3⟩
theorem Ab.aside {w : World} {p m cap peak k : Nat} {q n g : Nat → Nat} (h : Ab w p m cap peak k q n g) {b : Nat} {cur : Array Value} {e : TypeId} (hb : w.heap[b]? = some (.cells cur e)) (h1 : e ≠ 44) (h2 : e ≠ 48) : ¬ Mine p m k q b := by
  rintro (rfl | rfl | ⟨i, hi, rfl⟩)
  · rw [h.hp] at hb
    injection hb with hb
    injection hb with _ hb
    exact h1 hb.symm
  · rw [h.hm] at hb
    cases hb
  · rw [h.hq i hi] at hb
    injection hb with hb
    injection hb with _ hb
    exact h2 hb.symm
theorem owns_aside {w : World} {p m cap peak k : Nat} {q n g : Nat → Nat} (h : Ab w p m cap peak k q n g) {base l : Nat} {e : TypeId} {v : Value} {xs : List Value} (hr : w.ownsRow base e 1 v l xs) (h1 : e ≠ 44) (h2 : e ≠ 48) : ∀ b, v.ownBlock = some b → ¬ Mine p m k q b := by
  intro b hb
  rcases hr.2 with ⟨rfl, _⟩ | ⟨g1, cap, cur, rfl, _, c1, _⟩
  · cases hb
  · cases hb
    exact h.aside c1 h1 h2
/-- A block of another type isn't the row's. -/
theorem owns_ne {w : World} {base l b : Nat} {e e' : TypeId} {v : Value} {xs : List Value} {cur : Array Value} (hr : w.ownsRow base e 1 v l xs) (hb : w.heap[b]? = some (.cells cur e')) (hne : e' ≠ e) : v.ownBlock ≠ some b := by
  intro h
  rcases hr.2 with ⟨rfl, _⟩ | ⟨g1, cap, cur1, rfl, _, c1, _⟩
  · cases h
  · cases h
    rw [hb] at c1
    injection c1 with c1
    injection c1 with _ c1
    exact hne c1
theorem owns_slice {w : World} {base l : Nat} {e : TypeId} {v : Value} {xs : List Value} (hr : w.ownsRow base e 1 v l xs) : ∃ A c, v = .slice A l c := by
  rcases hr.2 with ⟨rfl, rfl⟩ | ⟨g1, cap, cur, rfl, _⟩
  · exact ⟨none, 0, rfl⟩
  · exact ⟨_, cap, rfl⟩
/-- A place of it. -/
theorem owns_at {w : World} {base l c : Nat} {e : TypeId} {A : Option Addr} {xs : List Value} (hr : w.ownsRow base e 1 (.slice A l c) l xs) (i : Nat) (x : Value) (hx : xs[i]? = some x) :
    ∃ g, A = some ⟨g, 0, none⟩ ∧ base ≤ g ∧ w.cell? ⟨g, i, none⟩ = some x ∧ w.frozen? ⟨g, i, none⟩ = false := by
  have hi : i < l := by
    have := (List.getElem?_eq_some_iff.1 hx).1
    rw [hr.1] at this
    omega
  rcases hr.2 with ⟨h, rfl⟩ | ⟨g, cap, cur, h, hb, hg, hl, hm, hs, ht⟩
  · omega
  · cases h
    refine ⟨g, rfl, hb, ?_, blk_frz hg i⟩
    rw [blk_cell hg i, ← hx, ← ht, List.getElem?_take, if_pos (by omega), Array.getElem?_toList]
theorem owns_put {w : World} {base l c g : Nat} {e : TypeId} {xs : List Value} (hr : w.ownsRow base e 1 (.slice (some ⟨g, 0, none⟩) l c) l xs) (i : Nat) (hi : i < l) (x : Value) :
    (w.setCell ⟨g, i, none⟩ x).ownsRow base e 1 (.slice (some ⟨g, 0, none⟩) l c) l (xs.set i x) := by
  refine ⟨by rw [List.length_set]; exact hr.1, ?_⟩
  rcases hr.2 with ⟨h, rfl⟩ | ⟨g', cap, cur, h, hb, hg, hl, hm, hs, ht⟩
  · cases h
  · cases h
    refine Or.inr ⟨g, c, cur.setIfInBounds i x, rfl, hb, blk_put hg i x, hl, hm, by rw [Array.size_setIfInBounds]; exact hs, ?_⟩
    rw [← ht, Array.toList_setIfInBounds, List.take_set]

/-- A row of the buffers. -/
def pws (q : Nat → Nat) (k : Nat) : List Value := (List.range k).map fun i => .pointer (some ⟨q i, 0, none⟩)
def Pw (w : World) (base : Nat) (v : Value) (q : Nat → Nat) (k : Nat) : Prop := w.ownsRow base 31 1 v k (pws q k)
theorem pws_new (q : Nat → Nat) (k Q : Nat) : pws (upd q k Q) (k + 1) = pws q k ++ [.pointer (some ⟨Q, 0, none⟩)] := by
  unfold pws
  rw [List.range_succ, List.map_append]
  congr 1
  · apply List.map_congr_left
    intro i hi
    rw [upd_other q k Q (by have := List.mem_range.1 hi; omega)]
  · simp [upd_same]
theorem pws_at {q : Nat → Nat} {k i : Nat} (hi : i < k) : (pws q k)[i]? = some (.pointer (some ⟨q i, 0, none⟩)) := by simp [pws, hi]
theorem Pw.nil_ (w : World) (base : Nat) (q : Nat → Nat) : Pw w base (.slice none 0 0) q 0 := World.ownsRow_nil w base _ 1
theorem infoB : (Try.prog.info? 31).map (fun i => (i.zero, i.size, i.bytes)) = some (some (.pointer none), 1, 8) := by kernel_rfl
/-- append of one buffer. -/
theorem appendB (w : World) {ops : Array Oper} {rest : List Oper} {o : Oper} {a : Act} {Q : Exit → Act → World → Prop} (hgd : o.guard = none) (s x : Operand)
    (ho : o.op = .call { callee := .builtin .append, args := #[s, x], argTypes := #[27, 27] })
    (base : Nat) (v : Value) (k : Nat) (f : Nat → Nat) (hs : a.eval s = v) (hown : Pw w base v f k) (b : Nat) (y : Nat) (hx : a.eval x = .slice (some ⟨b, 0, none⟩) 1 1) (hc : w.cell? ⟨b, 0, none⟩ = some (.pointer (some ⟨y, 0, none⟩)))
    (hlen : k + 1 ≤ 17592186044416) (hbase : base ≤ w.heap.size)
    (h : ∀ v' w', Pw w' base v' (upd f k y) (k + 1) → w.grownBy w' v.ownBlock → wpList Try.prog ops Q rest (a.put o.dst v') w') : wpList Try.prog ops Q (o :: rest) a w := by
  obtain ⟨i, hi⟩ : ∃ i, Try.prog.info? 31 = some i := by
    cases e : Try.prog.info? 31 with
    | none => have := infoB; rw [e] at this; cases this
    | some i => exact ⟨i, rfl⟩
  have hU := infoB
  rw [hi] at hU
  simp only [Option.map_some, Option.some.injEq, Prod.mk.injEq] at hU
  refine wpList_append_own w hgd s x _ ho base _ i (.pointer none) 1 8 Try.underlying27 hi hU.1 hU.2.1 hU.2.2 rfl (by decide) v k _ hs hown ⟨b, 0, none⟩ 1 1 [.pointer (some ⟨y, 0, none⟩)] hx rfl ?_ ?_ ?_ ?_ hbase fun v' w' h1 h2 _ => h v' w' ?_ h2
  · intro j u hu
    rcases j with _ | j
    · simp at hu; subst hu; exact hc
    · simp at hu
  · intro u hu; simp at hu; subst hu; rfl
  · simp only [maxLen]; omega
  · omega
  · unfold Pw
    rw [pws_new]
    exact h1

/-- A row of how many words they have. -/
def iws (n : Nat → Nat) (k : Nat) : List Value := (List.range k).map fun i => .int .i64 (n i : Nat)
def Iw (w : World) (base : Nat) (v : Value) (n : Nat → Nat) (k : Nat) : Prop := w.ownsRow base 3 1 v k (iws n k)
theorem iws_new (n : Nat → Nat) (k x : Nat) : iws (upd n k x) (k + 1) = iws n k ++ [.int .i64 (x : Nat)] := by
  unfold iws
  rw [List.range_succ, List.map_append]
  congr 1
  · apply List.map_congr_left
    intro i hi
    rw [upd_other n k x (by have := List.mem_range.1 hi; omega)]
  · simp [upd_same]
theorem iws_at {n : Nat → Nat} {k i : Nat} (hi : i < k) : (iws n k)[i]? = some (.int .i64 (n i : Nat)) := by simp [iws, hi]
theorem iws_set (n : Nat → Nat) (k i x : Nat) : (iws n k).set i (.int .i64 (x : Nat)) = iws (upd n i x) k := by
  apply List.ext_getElem?
  intro j
  unfold iws
  rw [List.getElem?_set]
  by_cases hj : j < k
  · by_cases e : i = j
    · subst e
      simp [hj, upd_same]
    · rw [if_neg e]
      simp [hj, upd_other n i x (Ne.symm e)]
  · have hl : ¬ j < (List.range k).length := by simpa using hj
    by_cases e : i = j
    · subst e
      simp [hj]
    · rw [if_neg e]
      simp [hj]
theorem iws_congr {n n' : Nat → Nat} {k : Nat} (h : ∀ i, i < k → n i = n' i) : iws n k = iws n' k := by
  unfold iws
  apply List.map_congr_left
  intro i hi
  rw [h i (List.mem_range.1 hi)]
theorem Iw.nil_ (w : World) (base : Nat) (n : Nat → Nat) : Iw w base (.slice none 0 0) n 0 := World.ownsRow_nil w base _ 1
theorem infoN : (Try.prog.info? 3).map (fun i => (i.zero, i.size, i.bytes)) = some (some (.int .i64 0), 1, 8) := by kernel_rfl
/-- append of one int. -/
theorem appendN (w : World) {ops : Array Oper} {rest : List Oper} {o : Oper} {a : Act} {Q : Exit → Act → World → Prop} (hgd : o.guard = none) (s x : Operand)
    (ho : o.op = .call { callee := .builtin .append, args := #[s, x], argTypes := #[28, 28] })
    (base : Nat) (v : Value) (k : Nat) (f : Nat → Nat) (hs : a.eval s = v) (hown : Iw w base v f k) (b : Nat) (y : Nat) (hx : a.eval x = .slice (some ⟨b, 0, none⟩) 1 1) (hc : w.cell? ⟨b, 0, none⟩ = some (.int .i64 (y : Nat)))
    (hlen : k + 1 ≤ 17592186044416) (hbase : base ≤ w.heap.size)
    (h : ∀ v' w', Iw w' base v' (upd f k y) (k + 1) → w.grownBy w' v.ownBlock → wpList Try.prog ops Q rest (a.put o.dst v') w') : wpList Try.prog ops Q (o :: rest) a w := by
  obtain ⟨i, hi⟩ : ∃ i, Try.prog.info? 3 = some i := by
    cases e : Try.prog.info? 3 with
    | none => have := infoN; rw [e] at this; cases this
    | some i => exact ⟨i, rfl⟩
  have hU := infoN
  rw [hi] at hU
  simp only [Option.map_some, Option.some.injEq, Prod.mk.injEq] at hU
  refine wpList_append_own w hgd s x _ ho base _ i (.int .i64 0) 1 8 Try.underlying28 hi hU.1 hU.2.1 hU.2.2 rfl (by decide) v k _ hs hown ⟨b, 0, none⟩ 1 1 [.int .i64 (y : Nat)] hx rfl ?_ ?_ ?_ ?_ hbase fun v' w' h1 h2 _ => h v' w' ?_ h2
  · intro j u hu
    rcases j with _ | j
    · simp at hu; subst hu; exact hc
    · simp at hu
  · intro u hu; simp at hu; subst hu; rfl
  · simp only [maxLen]; omega
  · omega
  · unfold Iw
    rw [iws_new]
    exact h1

/-- A slice of things that are done: what, and of which. -/
structure Aw (w : World) (B : Nat) (A : Option Addr) (L : Nat) (ks ns : Nat → Int) : Prop where
  at_ : ∀ i, i < L → ∃ b off, A = some ⟨b, off, none⟩ ∧ b < B ∧ w.cell? ⟨b, off + i * 2, none⟩ = some (.int .i64 (ks i)) ∧ w.cell? ⟨b, off + i * 2 + 1, none⟩ = some (.int .i64 (ns i))
  lk : ∀ i, i < L → -9223372036854775808 ≤ ks i ∧ ks i ≤ 9223372036854775807
  ln : ∀ i, i < L → -9223372036854775808 ≤ ns i ∧ ns i ≤ 9223372036854775807
theorem Aw.below {w w' : World} {B : Nat} {A : Option Addr} {L : Nat} {ks ns : Nat → Int} (h : Aw w B A L ks ns) (d : Below B w w') : Aw w' B A L ks ns :=
  ⟨fun i hi => by
    obtain ⟨b, off, e, hb, c0, c1⟩ := h.at_ i hi
    exact ⟨b, off, e, hb, (d.cell (p := ⟨b, off + i * 2, none⟩) hb).trans c0, (d.cell (p := ⟨b, off + i * 2 + 1, none⟩) hb).trans c1⟩, h.lk, h.ln⟩
theorem choose2 {n : Nat} {R : Nat → Int → Int → Prop} (h : ∀ i, i < n → ∃ a b, R i a b) : ∃ f g : Nat → Int, ∀ i, i < n → R i (f i) (g i) := by
  refine ⟨fun i => if hi : i < n then (h i hi).choose else 0, fun i => if hi : i < n then (h i hi).choose_spec.choose else 0, fun i hi => ?_⟩
  simp only [hi, dif_pos]
  exact (h i hi).choose_spec.choose_spec
theorem open_acts {H : Type} {enc : TypeId × Value → H} {fuel : Nat} {A : Option Addr} {n cap : Nat} {y : DataW H × List MemPlace} {W : World} (hf : DataW.trod enc Try.prog W 0 (fun _ => true) true fuel 22 [.slice A n cap] = some y) :
    ∃ ks ns : Nat → Int, n ≤ 9223372036854775807 ∧ Aw W W.heap.size A n ks ns := by
  rcases Deep.open_slice_pairs Try.underlying22 Try.underlying30 (by kernel_rfl) rfl rfl (by kernel_rfl) (by kernel_rfl) hf with ⟨hcs, _⟩ | ⟨a, len, cap', m, k, V0, V1, D0, D1, P0, P1, hcs, _, hl, hm, hmm, _, hall⟩
  · obtain ⟨rfl, rfl, rfl⟩ : A = none ∧ n = 0 ∧ cap = 0 := by simpa using hcs
    exact ⟨fun _ => 0, fun _ => 0, by decide, fun i hi => absurd hi (by omega), fun i hi => absurd hi (by omega), fun i hi => absurd hi (by omega)⟩
  · obtain ⟨rfl, rfl, rfl⟩ : A = some a ∧ n = len ∧ cap = cap' := by simpa using hcs
    have hm' : cap ≤ 9223372036854775807 := by unfold maxLen at hm; exact hm
    by_cases hl0 : n = 0
    · subst hl0
      exact ⟨fun _ => 0, fun _ => 0, by decide, fun i hi => absurd hi (by omega), fun i hi => absurd hi (by omega), fun i hi => absurd hi (by omega)⟩
    have hlm : n ≤ m := by rw [hmm]; split <;> omega
    have c := (hall 0 (by omega)).1
    obtain ⟨b, off, spot⟩ := a
    have hsp : spot = none := by
      cases spot with
      | none => rfl
      | some s => exfalso; simp [World.cell?, Addr.add] at c; split at c <;> simp at c
    subst hsp
    have hB : b < W.heap.size := by rw [add_none] at c; exact World.block_lt_of_cell? W _ c
    obtain ⟨ks, ns, h⟩ := choose2 (n := n) (R := fun i x z => W.cell? ⟨b, off + i * 2, none⟩ = some (.int .i64 x) ∧ W.cell? ⟨b, off + i * 2 + 1, none⟩ = some (.int .i64 z) ∧ (-9223372036854775808 ≤ x ∧ x ≤ 9223372036854775807) ∧ -9223372036854775808 ≤ z ∧ z ≤ 9223372036854775807) (fun i hi => by
      obtain ⟨c0, c1, t0, t1⟩ := hall i (by omega)
      obtain ⟨x, e0, _, wx⟩ := DataW.trod_int Try.underlying3 t0
      obtain ⟨z, e1, _, wz⟩ := DataW.trod_int Try.underlying3 t1
      simp at e0 e1
      rw [add_none, e0] at c0
      rw [add_none, e1] at c1
      exact ⟨x, z, c0, c1, by simpa [Lit.wf, IntKind.min, IntKind.max, IntKind.signed, IntKind.bits] using wx, by simpa [Lit.wf, IntKind.min, IntKind.max, IntKind.signed, IntKind.bits] using wz⟩)
    exact ⟨ks, ns, by omega, fun i hi => ⟨b, off, rfl, hB, (h i hi).1, (h i hi).2.1⟩, fun i hi => (h i hi).2.2.1, fun i hi => (h i hi).2.2.2⟩


set_option maxHeartbeats 1000000 in
theorem awake (w : World) : Calls Try.prog 5 #[] w fun e w' => e = .returned (.bool true) ∧ Below w.heap.size w w' := by
  have NW := Lib.hid (new_ok 10 (by omega) (by omega) (fun _ => 0) (fun _ => 0) (fun _ => 0) w)
  go_enter Try.func5, Try.ntmps5
  go_wp2_with fail
  refine NW.out.mono ?_
  rintro e w1 ⟨rfl, A1, h1⟩
  obtain ⟨p, hp⟩ : ∃ p, p = w.heap.size + 1 := ⟨_, rfl⟩
  obtain ⟨m, hm⟩ : ∃ m, m = w.heap.size := ⟨_, rfl⟩
  have hp2 := Lib.hid (show w.heap.size ≤ p by omega)
  have hm2 := Lib.hid (show w.heap.size ≤ m by omega)
  rw [← hp, ← hm] at A1
  rw [← hp]
  have hs := Lib.hid h1.size
  have F1 := Lib.hid (Fr.of_below (S := fun b => w.heap.size ≤ b) h1)
  have TK := Lib.hid (take_ok 6 A1 (by omega) (by show 0 + 6 ≤ 10; omega) (by omega))
  clear NW A1 h1 hp hm
  go_wp2_with fail
  refine TK.out.mono ?_
  rintro e w2 ⟨rfl, A2, f2, _⟩
  have q0 := upd_same (fun _ => 0) 0 (w1.heap.size + 1)
  have n0 := upd_same (fun _ => 0) 0 6
  have et : tot (upd (fun _ => 0) 0 6) 1 = 6 := by show 0 + upd (fun _ => 0) 0 6 0 = 6; rw [n0]
  have F2 := Lib.hid (F1.out.step (f2.mono (T := fun b => w.heap.size ≤ b) (fun b hb => by rcases hb with rfl | rfl; exact hp2.out; exact hm2.out)))
  have TF := Lib.hid (take_far 5 4 A2 (by rw [et]) (by omega) (by omega))
  have A2 := Lib.hid A2
  have q0 := Lib.hid q0
  have n0 := Lib.hid n0
  have et := Lib.hid et
  clear TK F1 f2
  go_wp2_with fail
  refine TF.out.mono ?_
  rintro e w3 ⟨rfl, j, rfl⟩
  have A3 := A2.out.drewN j
  have LN := A3.hq 0 (by omega)
  rw [q0.out, n0.out] at LN
  have LN := Lib.hid (len LN)
  have US := used A3
  rw [et.out] at US
  have US := Lib.hid US
  have F3 := Lib.hid (F2.out.drewN j)
  clear A3 A2 TF q0 n0 et F2
  go_wp2_with fail
  refine LN.out.mono ?_
  rintro e w4 ⟨rfl, rfl⟩
  go_wp2_with fail
  refine US.out.mono ?_
  rintro e w4 ⟨rfl, rfl⟩
  clear US LN
  go_wp2
  go_ret
  exact ⟨by simp [go_sem], F3.out.below (fun _ h => h) (Nat.le_refl _)⟩
end Ar
end Go.Proofs.Ythkpndlladmcnaa
