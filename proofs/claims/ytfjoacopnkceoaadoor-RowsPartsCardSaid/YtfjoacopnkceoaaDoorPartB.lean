/- Contract of package rows' Parts. -/
import Derived.Test.YtfjoacopnkceoaaDoorPartA
import Derived.Test.YtfjoacopnkceoaaDoorJoinA
import Derived.Test.YtfjoacopnkceoaaDoorKernG
set_option linter.unusedVariables false
namespace Go.Proofs.YtfjoacopnkceoaaDoor
open Go.RowKit Go.Shelf
namespace Pt
open Ww Pl
attribute [local go_sem] Oper.semAt_some

set_option maxHeartbeats 400000 in
theorem chunk (A : Option Addr) (L cap m : Nat) (hm : 0 < m) (w : World) :
    Calls Tryd.prog 43 #[.slice A L cap, .int .i64 (m : Int)] w fun e w' => e = .returned (.func (.func 65) #[] #[.pointer (some ⟨w.heap.size, 0, none⟩), .pointer (some ⟨w.heap.size + 1, 0, none⟩)]) ∧ w' = (w.alloc (.cells #[.slice A L cap] 22)).alloc (.cells #[.int .i64 (m : Int)] 3) := by
  have h1 : ¬ (m : Int) < 1 := by omega
  go_enter Tryd.func43, Tryd.ntmps43
  go_wp2
  go_ret
  exact ⟨by simp, rfl⟩

/-- What the loop keeps: the box's value v owns the row of the parts made so far; each lies in a block of its own. -/
structure Pv (xs : List Nat) (m q n₀ : Nat) (v : Value) (vals : List Value) (pre : List (Fin q)) (W : World) : Prop where
  b0 : Boxed W n₀ 46 v
  o0 : W.ownsRow (n₀ + 3) 22 1 v pre.length vals
  r0 : ∀ (i : Nat) (x : Fin q), pre[i]? = some x → ∃ bi ci : Nat, vals[i]? = some (Value.slice (some ⟨bi, 0, none⟩) m ci) ∧ some bi ≠ v.ownBlock ∧ bi ≠ n₀ ∧ Wk W bi 0 m (fun t => Pn.pl xs (x.1 * m + t))
/-- All blocks of cells lie as they lay. -/
def Sc (W W' : World) : Prop := ∀ (k : Nat) (o : Obj), W.heap[k]? = some o → o.isCells = true → W'.heap[k]? = some o
theorem sc_grown {W W' : World} {row : Option Nat} (hg : W.grownBy W' row) (hr : ∀ r, row = some r → ∃ o : Obj, W.heap[r]? = some o ∧ o.isCells = false) : Sc W W' :=
  fun k o hk hc => (grownBy_keeps_cells hg hr hk hc).trans hk
theorem sc_below {W W' : World} (h : Below W.heap.size W W') : Sc W W' := fun k o hk _ => (h.block k (Array.getElem?_eq_some_iff.1 hk).1).trans hk
theorem wk_of {W W' : World} {b n : Nat} {f : Nat → Nat} (K : Wk W b 0 n f) (h : W'.heap[b]? = W.heap[b]?) : Wk W' b 0 n f :=
  ⟨fun i hi => (World.cell?_of_block (a := ⟨b, 0 + i, none⟩) h).trans (K.c i hi), fun i hi => (World.frozen?_of_block (a := ⟨b, 0 + i, none⟩) h).trans (K.z i hi)⟩
theorem own_ne {W : World} {base n₀ : Nat} {e : TypeId} {size k : Nat} {v : Value} {vals : List Value} (h : W.ownsRow base e size v k vals) (hb : n₀ < base) : some n₀ ≠ v.ownBlock := by
  intro e
  have := (World.ownsRow.lt h n₀ e.symm).1
  omega
theorem own_same {W W' : World} {base : Nat} {e : TypeId} {size k : Nat} {v : Value} {vals : List Value} (h : W.ownsRow base e size v k vals) (hs : Sc W W') : W'.ownsRow base e size v k vals := by
  refine ⟨h.1, ?_⟩
  rcases h.2 with hn | ⟨g, cap, cur, rfl, hb, hgg, rest⟩
  · exact .inl hn
  · exact .inr ⟨g, cap, cur, rfl, hb, hs _ _ hgg rfl, rest⟩
section
variable {xs : List Nat} {m q n₀ : Nat} {v v' : Value} {vals : List Value} {pre : List (Fin q)} {x : Fin q} {W W' w2 w4 : World}
theorem Pv.same (h0 : 0 < m) (h : Pv xs m q n₀ v vals pre W) (hs : Sc W W') : Pv xs m q n₀ v vals pre W' :=
  ⟨hs _ _ h.b0 rfl, own_same h.o0 hs, fun i x hx => by
    obtain ⟨bi, ci, e, h1, h2, K⟩ := h.r0 i x hx
    refine ⟨bi, ci, e, h1, h2, wk_of K ?_⟩
    obtain ⟨o, ho, hc⟩ := cells_of_cell (K.c 0 h0)
    exact (hs _ _ ho hc).trans ho.symm⟩
theorem part_step (h0 : 0 < m) (h : Pv xs m q n₀ v vals pre W) (hn : n₀ + 3 ≤ W.heap.size) (h2 : Below W.heap.size W w2) {bC cC : Nat} (hb : W.heap.size ≤ bC) (hb2 : bC < w2.heap.size) (K : Wk w2 bC 0 m (fun t => Pn.pl xs (x.1 * m + t))) {t : TypeId}
    (O4 : w4.ownsRow (n₀ + 3) 22 1 v' (pre.length + 1) (vals ++ [Value.slice (some ⟨bC, 0, none⟩) m cC])) (hg : (w2.alloc (.cells #[.slice (some ⟨bC, 0, none⟩) m cC] t)).grownBy w4 v.ownBlock)
    (hat : v'.ownBlock = v.ownBlock ∨ v'.ownBlock = some (w2.alloc (.cells #[.slice (some ⟨bC, 0, none⟩) m cC] t)).heap.size) :
    Boxed w4 n₀ 46 v ∧ KeepsOthers W (w4.setCell ⟨n₀, 0, none⟩ v') ∧ Kp (n₀ + 1) (n₀ + 2) W (w4.setCell ⟨n₀, 0, none⟩ v') ∧ Pv xs m q n₀ v' (vals ++ [Value.slice (some ⟨bC, 0, none⟩) m cC]) (pre ++ [x]) (w4.setCell ⟨n₀, 0, none⟩ v') ∧ Below n₀ W (w4.setCell ⟨n₀, 0, none⟩ v') := by
  have hs3 : Sc W (w2.alloc (.cells #[.slice (some ⟨bC, 0, none⟩) m cC] t)) := sc_below (h2.trans ((below_alloc w2 _).mono h2.size))
  have P3 := h.same h0 hs3
  have hz : (w2.alloc (.cells #[.slice (some ⟨bC, 0, none⟩) m cC] t)).heap.size = w2.heap.size + 1 := by simp
  have K3 : Wk (w2.alloc (.cells #[.slice (some ⟨bC, 0, none⟩) m cC] t)) bC 0 m (fun t => Pn.pl xs (x.1 * m + t)) := K.step (below_alloc w2 _)
  have hvl : ∀ k, v.ownBlock = some k → n₀ + 3 ≤ k ∧ k < W.heap.size := World.ownsRow.lt h.o0
  have b4 : Boxed w4 n₀ 46 v := P3.b0.kept hg (own_ne P3.o0 (by omega))
  have hw : ∀ bi, bi < w2.heap.size + 1 → some bi ≠ v.ownBlock → some bi ≠ v'.ownBlock := by
    intro bi hbi hne
    rcases hat with e | e
    · rw [e]; exact hne
    · rw [e, hz]; simp; omega
  have keep : ∀ bi (f : Nat → Nat), some bi ≠ v.ownBlock → bi ≠ n₀ → bi < w2.heap.size + 1 → Wk (w2.alloc (.cells #[.slice (some ⟨bC, 0, none⟩) m cC] t)) bi 0 m f → Wk (w4.setCell ⟨n₀, 0, none⟩ v') bi 0 m f := fun bi f h1 h2 h3 k =>
    (wk_of k (hg.block bi (by rw [hz]; exact h3) h1)).other (a := ⟨n₀, 0, none⟩) (Ne.symm h2) v'
  have hbC : some bC ≠ v.ownBlock := by
    intro e
    have := (hvl bC e.symm).2
    omega
  have cellk : ∀ B, B < n₀ + 3 → B ≠ n₀ → (w4.setCell ⟨n₀, 0, none⟩ v').cell? ⟨B, 0, none⟩ = W.cell? ⟨B, 0, none⟩ := by
    intro B hB hne
    rw [World.cell?_setCell_other _ _ _ _ (by first | (simp; omega) | simp)]
    refine (World.cell?_of_block (a := ⟨B, 0, none⟩) (hg.block B (by rw [hz]; have := h2.size; omega) (fun e => ?_))).trans ?_
    · have := (hvl B e.symm).1; omega
    · exact (h2.trans ((below_alloc w2 _).mono h2.size)).cell (p := ⟨B, 0, none⟩) (by show B < _; omega)
  refine ⟨b4, ?_, ⟨cellk _ (by omega) (by omega), cellk _ (by omega) (by omega)⟩, ⟨b4.set v', ?_, ?_⟩, ?_⟩
  · refine (KeepsOthers.trans ⟨h2.size, fun k o hk _ => (h2.block k (Array.getElem?_eq_some_iff.1 hk).1).trans hk⟩ (KeepsOthers.alloc w2 _)).trans ((KeepsOthers.of_grownBy hg fun j o ej hj => ?_).trans (KeepsOthers.setCell _ _ _))
    rcases P3.o0.2 with ⟨rfl, _⟩ | ⟨g, cap, cur, rfl, _, hgb, _⟩
    · simp [Value.ownBlock] at ej
    · obtain rfl : g = j := by simpa [Value.ownBlock] using ej
      rw [hgb] at hj; cases hj; rfl
  · rw [List.length_append]
    exact O4.kept (grownBy_setCell' w4 n₀ v') (.inr (Ne.symm (own_ne O4 (by omega))))
  · intro i y hy
    by_cases hi : i < pre.length
    · rw [List.getElem?_append_left hi] at hy
      obtain ⟨bi, ci, e, h1, h3, k⟩ := P3.r0 i y hy
      have hl := k.lt h0
      rw [hz] at hl
      have hil : i < vals.length := (List.getElem?_eq_some_iff.1 e).1
      exact ⟨bi, ci, by rw [List.getElem?_append_left hil]; exact e, hw bi hl h1, h3, keep bi _ h1 h3 hl k⟩
    · have hlen : vals.length = pre.length := by rw [h.o0.1, Nat.mul_one]
      rw [List.getElem?_append_right (by omega)] at hy
      have hi0 : i - pre.length = 0 := by
        have := (List.getElem?_eq_some_iff.1 hy).1
        simp at this
        omega
      rw [hi0] at hy
      obtain rfl : x = y := by simpa using hy
      refine ⟨bC, cC, ?_, hw bC (by omega) hbC, by omega, keep bC _ hbC (by omega) (by omega) K3⟩
      rw [List.getElem?_append_right (by omega), hlen, hi0]
      rfl
  · have m1 : Below n₀ W w2 := h2.mono (by omega)
    have m2 := h2.size
    refine ((m1.alloc (by omega) _).grown hg (by omega) fun j ej => ?_).setCell (p := ⟨n₀, 0, none⟩) (Nat.le_refl _) v'
    have := (hvl j ej).1
    omega
end
end Pt
end Go.Proofs.YtfjoacopnkceoaaDoor
