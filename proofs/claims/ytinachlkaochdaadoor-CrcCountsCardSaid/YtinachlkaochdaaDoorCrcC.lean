/- Layer 16: what the sums' contracts speak of. -/
import Derived.Test.YtinachlkaochdaaDoorCrcA
import Derived.Deep.Strs
set_option linter.unusedVariables false
namespace Go.Proofs.YtinachlkaochdaaDoor
open Go.RowKit Go.Lib
namespace Cx
open Ww Cr Cd
/-- Of what was there, nothing has turned but block p. -/
structure Fp (p : Nat) (w w' : World) : Prop where
  os : w'.os = w.os
  tape : w'.tape = w.tape
  output : w'.output = w.output
  size : w.heap.size ≤ w'.heap.size
  block : ∀ b, b < w.heap.size → b ≠ p → w'.heap[b]? = w.heap[b]?
section
variable {w w1 w' : World} {p B : Nat}
theorem Fp.refl (p : Nat) (w : World) : Fp p w w := ⟨rfl, rfl, rfl, Nat.le_refl _, fun _ _ _ => rfl⟩
theorem Fp.trans (h : Fp p w w1) (h1 : Fp p w1 w') : Fp p w w' :=
  ⟨h1.os.trans h.os, h1.tape.trans h.tape, h1.output.trans h.output, Nat.le_trans h.size h1.size, fun b hb hs => (h1.block b (Nat.lt_of_lt_of_le hb h.size) hs).trans (h.block b hb hs)⟩
theorem Fp.of_below (h : Below w.heap.size w w') : Fp p w w' := ⟨h.os, h.tape, h.output, h.size, fun b hb _ => h.block b hb⟩
theorem Fp.below (h : Fp p w w') (hp : B ≤ p) (hw : B ≤ w.heap.size) : Below B w w' :=
  ⟨h.os, h.tape, h.output, h.size, fun b hb => h.block b (by omega) (by omega)⟩
theorem Fp.put (h : Fp p w w1) (i : Nat) (v : Value) : Fp p w (w1.setCell ⟨p, i, none⟩ v) :=
  h.trans ⟨rfl, rfl, rfl, by simp [World.setCell], fun b _ hb => Below.heap_setCell _ _ _ _ hb⟩
end
/-- Slices of bytes in a row. -/
def Rb (w : World) (B : Nat) (A : Option Addr) (n : Nat) (bs : Nat → List UInt8) : Prop :=
  ∀ i, i < n → ∃ b off Ai ci, A = some ⟨b, off, none⟩ ∧ b < B ∧ w.cell? ⟨b, off + i, none⟩ = some (.slice Ai (bs i).length ci) ∧ Bs w B Ai (bs i)
theorem Rb.below {w w' : World} {B n : Nat} {A : Option Addr} {bs : Nat → List UInt8} (h : Rb w B A n bs) (d : Below B w w') : Rb w' B A n bs := fun i hi => by
  obtain ⟨b, off, Ai, ci, e, hb, c, R⟩ := h i hi
  exact ⟨b, off, Ai, ci, e, hb, (d.cell (p := ⟨b, off + i, none⟩) hb).trans c, R.below d⟩
theorem Rb.more {w : World} {B B' n : Nat} {A : Option Addr} {bs : Nat → List UInt8} (h : Rb w B A n bs) (d : B ≤ B') : Rb w B' A n bs := fun i hi => by
  obtain ⟨b, off, Ai, ci, e, hb, c, R⟩ := h i hi
  exact ⟨b, off, Ai, ci, e, Nat.lt_of_lt_of_le hb d, c, R.more d⟩
/-- Slices of words in a row. -/
def Rw (w : World) (B : Nat) (A : Option Addr) (n : Nat) (xs : Nat → List Nat) : Prop :=
  ∀ i, i < n → ∃ b off Ai ci, A = some ⟨b, off, none⟩ ∧ b < B ∧ w.cell? ⟨b, off + i, none⟩ = some (.slice Ai (xs i).length ci) ∧ Ws w B Ai (xs i)
theorem Rw.below {w w' : World} {B n : Nat} {A : Option Addr} {xs : Nat → List Nat} (h : Rw w B A n xs) (d : Below B w w') : Rw w' B A n xs := fun i hi => by
  obtain ⟨b, off, Ai, ci, e, hb, c, R⟩ := h i hi
  exact ⟨b, off, Ai, ci, e, hb, (d.cell (p := ⟨b, off + i, none⟩) hb).trans c, R.below d⟩
theorem choose1 {α : Type} [Inhabited α] {n : Nat} {R : Nat → α → Prop} (h : ∀ i, i < n → ∃ a, R i a) : ∃ f : Nat → α, ∀ i, i < n → R i (f i) := by
  refine ⟨fun i => if hi : i < n then (h i hi).choose else default, fun i hi => ?_⟩
  simp only [hi, dif_pos]
  exact (h i hi).choose_spec
set_option maxRecDepth 100000 in
theorem open_parts {H : Type} {enc : TypeId × Value → H} {fuel : Nat} {A : Option Addr} {n cap : Nat} {y : DataW H × List MemPlace} {W : World} (hf : DataW.trod enc Tryd.prog W 0 (fun _ => true) true fuel 35 [.slice A n cap] = some y) :
    ∃ bs : Nat → List UInt8, n ≤ 9223372036854775807 ∧ Rb W W.heap.size A n bs := by
  rcases Deep.open_slice1 Tryd.underlying35 (by kernel_rfl) hf with ⟨hcs, _⟩ | ⟨a, len, cap', m, k, V, D, Pl, hcs, _, hl, hm, hmm, _, hall⟩
  · obtain ⟨rfl, rfl, rfl⟩ : A = none ∧ n = 0 ∧ cap = 0 := by simpa using hcs
    exact ⟨fun _ => [], by decide, fun i hi => absurd hi (by omega)⟩
  · obtain ⟨rfl, rfl, rfl⟩ : A = some a ∧ n = len ∧ cap = cap' := by simpa using hcs
    have hm' : cap ≤ 9223372036854775807 := by unfold maxLen at hm; exact hm
    by_cases hl0 : n = 0
    · subst hl0
      exact ⟨fun _ => [], by decide, fun i hi => absurd hi (by omega)⟩
    have hlm : n ≤ m := by rw [hmm]; split <;> omega
    have c := (hall 0 (by omega)).1
    obtain ⟨b, off, spot⟩ := a
    have hsp : spot = none := by
      cases spot with
      | none => rfl
      | some s => exfalso; simp [World.cell?, Addr.add] at c; split at c <;> simp at c
    subst hsp
    have hB : b < W.heap.size := by rw [add_none] at c; exact World.block_lt_of_cell? W _ c
    obtain ⟨f, hf2⟩ := choose1 (n := n) (R := fun i (bs : List UInt8) => ∃ (Ai : Option Addr) (ci : Nat), W.cell? ⟨b, off + i, none⟩ = some (.slice Ai bs.length ci) ∧ Bs W W.heap.size Ai bs) (fun i hi => by
      obtain ⟨c0, t0⟩ := hall i (by omega)
      have hv : ∃ Ai ni ci, V i = .slice Ai ni ci := by
        rcases Deep.open_slice1 Tryd.underlying22 cellsB t0 with ⟨h, _⟩ | ⟨a, len, cap', m, k, V', D', Pl', h, _⟩
        · exact ⟨none, 0, 0, by simpa using h⟩
        · exact ⟨_, _, _, by simpa using h⟩
      obtain ⟨Ai, ni, ci, e⟩ := hv
      rw [e] at t0 c0
      obtain ⟨xs, rfl, _, _, R⟩ := open_bytes t0
      rw [add_none] at c0
      exact ⟨xs, Ai, ci, c0, R⟩)
    refine ⟨f, by omega, fun i hi => ?_⟩
    obtain ⟨Ai, ci, h1, h2⟩ := hf2 i hi
    exact ⟨b, off, Ai, ci, rfl, hB, h1, h2⟩
set_option maxRecDepth 100000 in
theorem open_rows {H : Type} {enc : TypeId × Value → H} {fuel : Nat} {A : Option Addr} {n cap : Nat} {y : DataW H × List MemPlace} {W : World} (hf : DataW.trod enc Tryd.prog W 0 (fun _ => true) true fuel 36 [.slice A n cap] = some y) :
    ∃ xs : Nat → List Nat, n ≤ 9223372036854775807 ∧ Rw W W.heap.size A n xs := by
  rcases Deep.open_slice1 Tryd.underlying36 (by kernel_rfl) hf with ⟨hcs, _⟩ | ⟨a, len, cap', m, k, V, D, Pl, hcs, _, hl, hm, hmm, _, hall⟩
  · obtain ⟨rfl, rfl, rfl⟩ : A = none ∧ n = 0 ∧ cap = 0 := by simpa using hcs
    exact ⟨fun _ => [], by decide, fun i hi => absurd hi (by omega)⟩
  · obtain ⟨rfl, rfl, rfl⟩ : A = some a ∧ n = len ∧ cap = cap' := by simpa using hcs
    have hm' : cap ≤ 9223372036854775807 := by unfold maxLen at hm; exact hm
    by_cases hl0 : n = 0
    · subst hl0
      exact ⟨fun _ => [], by decide, fun i hi => absurd hi (by omega)⟩
    have hlm : n ≤ m := by rw [hmm]; split <;> omega
    have c := (hall 0 (by omega)).1
    obtain ⟨b, off, spot⟩ := a
    have hsp : spot = none := by
      cases spot with
      | none => rfl
      | some s => exfalso; simp [World.cell?, Addr.add] at c; split at c <;> simp at c
    subst hsp
    have hB : b < W.heap.size := by rw [add_none] at c; exact World.block_lt_of_cell? W _ c
    obtain ⟨f, hf2⟩ := choose1 (n := n) (R := fun i (bs : List Nat) => ∃ (Ai : Option Addr) (ci : Nat), W.cell? ⟨b, off + i, none⟩ = some (.slice Ai bs.length ci) ∧ Ws W W.heap.size Ai bs) (fun i hi => by
      obtain ⟨c0, t0⟩ := hall i (by omega)
      have hv : ∃ Ai ni ci, V i = .slice Ai ni ci := by
        rcases Deep.open_slice1 Tryd.underlying23 cellsU t0 with ⟨h, _⟩ | ⟨a, len, cap', m, k, V', D', Pl', h, _⟩
        · exact ⟨none, 0, 0, by simpa using h⟩
        · exact ⟨_, _, _, by simpa using h⟩
      obtain ⟨Ai, ni, ci, e⟩ := hv
      rw [e] at t0 c0
      obtain ⟨xs, rfl, _, _, R⟩ := open_words t0
      rw [add_none] at c0
      exact ⟨xs, Ai, ci, c0, R⟩)
    refine ⟨f, by omega, fun i hi => ?_⟩
    obtain ⟨Ai, ci, h1, h2⟩ := hf2 i hi
    exact ⟨b, off, Ai, ci, rfl, hB, h1, h2⟩
end Cx
end Go.Proofs.YtinachlkaochdaaDoor
