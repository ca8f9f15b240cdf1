/- Four cells in memory, of a struct or of an array. -/
import Derived.Test.YtnnieiedkjekpaaDoorGold
set_option linter.unusedVariables false
namespace Go.Proofs.YtnnieiedkjekpaaDoor
open Go.RowKit Go.Lib
namespace Kn

/-- Four cells of a struct in memory. -/
structure Ce (w : World) (b : Nat) (v0 v1 v2 v3 : Value) : Prop where
  c0 : w.cell? ⟨b, 0, none⟩ = some v0
  c1 : w.cell? ⟨b, 1, none⟩ = some v1
  c2 : w.cell? ⟨b, 2, none⟩ = some v2
  c3 : w.cell? ⟨b, 3, none⟩ = some v3
  f0 : w.frozen? ⟨b, 0, none⟩ = false
  f1 : w.frozen? ⟨b, 1, none⟩ = false
  f2 : w.frozen? ⟨b, 2, none⟩ = false
  f3 : w.frozen? ⟨b, 3, none⟩ = false
section
variable {w w' : World} {b : Nat} {v0 v1 v2 v3 : Value}
theorem Ce.lt (h : Ce w b v0 v1 v2 v3) : b < w.heap.size := World.block_lt_of_cell? w _ h.c0
theorem Ce.low {B : Nat} (h : Ce w b v0 v1 v2 v3) (hB : b < B) (hb : Below B w w') : Ce w' b v0 v1 v2 v3 :=
  ⟨(hb.cell (p := ⟨b, 0, none⟩) hB).trans h.c0, (hb.cell (p := ⟨b, 1, none⟩) hB).trans h.c1, (hb.cell (p := ⟨b, 2, none⟩) hB).trans h.c2, (hb.cell (p := ⟨b, 3, none⟩) hB).trans h.c3,
   (hb.frozen (p := ⟨b, 0, none⟩) hB).trans h.f0, (hb.frozen (p := ⟨b, 1, none⟩) hB).trans h.f1, (hb.frozen (p := ⟨b, 2, none⟩) hB).trans h.f2, (hb.frozen (p := ⟨b, 3, none⟩) hB).trans h.f3⟩
theorem Ce.below (h : Ce w b v0 v1 v2 v3) (hb : Below w.heap.size w w') : Ce w' b v0 v1 v2 v3 := h.low h.lt hb
theorem Ce.fresh (w : World) (v0 v1 v2 v3 : Value) (t : TypeId) : Ce (w.alloc (.cells #[v0, v1, v2, v3] t)) w.heap.size v0 v1 v2 v3 := by
  constructor <;> simp [go_sem]
theorem put_c (w : World) (b i : Nat) (v u : Value) (c : w.cell? ⟨b, i, none⟩ = some u) : (w.setCell ⟨b, i, none⟩ v).cell? ⟨b, i, none⟩ = some v := World.cell?_setCell_same _ _ _ c
theorem put_o (w : World) (b i j : Nat) (v u : Value) (hne : i ≠ j) (c : w.cell? ⟨b, j, none⟩ = some u) : (w.setCell ⟨b, i, none⟩ v).cell? ⟨b, j, none⟩ = some u := by
  rw [World.cell?_setCell_other w _ _ v (by simp)]; exact c
theorem Ce.put0 (h : Ce w b v0 v1 v2 v3) (v : Value) : Ce (w.setCell ⟨b, 0, none⟩ v) b v v1 v2 v3 :=
  ⟨put_c _ _ _ _ _ h.c0, put_o _ _ _ _ _ _ (by decide) h.c1, put_o _ _ _ _ _ _ (by decide) h.c2, put_o _ _ _ _ _ _ (by decide) h.c3, by rw [World.frozen?_setCell]; exact h.f0, by rw [World.frozen?_setCell]; exact h.f1, by rw [World.frozen?_setCell]; exact h.f2, by rw [World.frozen?_setCell]; exact h.f3⟩
theorem Ce.put1 (h : Ce w b v0 v1 v2 v3) (v : Value) : Ce (w.setCell ⟨b, 1, none⟩ v) b v0 v v2 v3 :=
  ⟨put_o _ _ _ _ _ _ (by decide) h.c0, put_c _ _ _ _ _ h.c1, put_o _ _ _ _ _ _ (by decide) h.c2, put_o _ _ _ _ _ _ (by decide) h.c3, by rw [World.frozen?_setCell]; exact h.f0, by rw [World.frozen?_setCell]; exact h.f1, by rw [World.frozen?_setCell]; exact h.f2, by rw [World.frozen?_setCell]; exact h.f3⟩
theorem Ce.put2 (h : Ce w b v0 v1 v2 v3) (v : Value) : Ce (w.setCell ⟨b, 2, none⟩ v) b v0 v1 v v3 :=
  ⟨put_o _ _ _ _ _ _ (by decide) h.c0, put_o _ _ _ _ _ _ (by decide) h.c1, put_c _ _ _ _ _ h.c2, put_o _ _ _ _ _ _ (by decide) h.c3, by rw [World.frozen?_setCell]; exact h.f0, by rw [World.frozen?_setCell]; exact h.f1, by rw [World.frozen?_setCell]; exact h.f2, by rw [World.frozen?_setCell]; exact h.f3⟩
theorem Ce.put3 (h : Ce w b v0 v1 v2 v3) (v : Value) : Ce (w.setCell ⟨b, 3, none⟩ v) b v0 v1 v2 v :=
  ⟨put_o _ _ _ _ _ _ (by decide) h.c0, put_o _ _ _ _ _ _ (by decide) h.c1, put_o _ _ _ _ _ _ (by decide) h.c2, put_c _ _ _ _ _ h.c3, by rw [World.frozen?_setCell]; exact h.f0, by rw [World.frozen?_setCell]; exact h.f1, by rw [World.frozen?_setCell]; exact h.f2, by rw [World.frozen?_setCell]; exact h.f3⟩
end
end Kn
end Go.Proofs.YtnnieiedkjekpaaDoor
