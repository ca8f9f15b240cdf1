/- Two words of a struct in memory, which may be written. -/
import Derived.Test.YtnnieiedkjekpaaDoorChecked
import Derived.WalkKit
set_option linter.unusedVariables false
namespace Go.Proofs.YtnnieiedkjekpaaDoor
open Go.RowKit
namespace Rf
/-- Two cells of a struct of two words, which may be written. -/
structure Two (w : World) (b p q : Nat) : Prop where
  c0 : w.cell? ⟨b, 0, none⟩ = some (.int .u64 p)
  c1 : w.cell? ⟨b, 1, none⟩ = some (.int .u64 q)
  f0 : w.frozen? ⟨b, 0, none⟩ = false
  f1 : w.frozen? ⟨b, 1, none⟩ = false
theorem Two.below {w w' : World} {b p q : Nat} (h : Two w b p q) (hb : Below w.heap.size w w') : Two w' b p q := by
  have hB : b < w.heap.size := World.block_lt_of_cell? w _ h.c0
  exact ⟨(hb.cell (p := ⟨b, 0, none⟩) hB).trans h.c0, (hb.cell (p := ⟨b, 1, none⟩) hB).trans h.c1, (hb.frozen (p := ⟨b, 0, none⟩) hB).trans h.f0, (hb.frozen (p := ⟨b, 1, none⟩) hB).trans h.f1⟩
theorem Two.other {w : World} {b p q : Nat} (h : Two w b p q) {a : Addr} (ha : a.block ≠ b) (v : Value) : Two (w.setCell a v) b p q :=
  ⟨(World.cell?_setCell_other w a ⟨b, 0, none⟩ v (fun e => ha (by rw [e]))).trans h.c0, (World.cell?_setCell_other w a ⟨b, 1, none⟩ v (fun e => ha (by rw [e]))).trans h.c1,
   by rw [World.frozen?_setCell]; exact h.f0, by rw [World.frozen?_setCell]; exact h.f1⟩
theorem Two.put {w : World} {b p q : Nat} (h : Two w b p q) (p' q' : Nat) : Two ((w.setCell ⟨b, 0, none⟩ (.int .u64 p')).setCell ⟨b, 1, none⟩ (.int .u64 q')) b p' q' :=
  ⟨by rw [World.cell?_setCell_other _ _ _ _ (by simp), World.cell?_setCell_same _ _ _ h.c0], by rw [World.cell?_setCell_same _ _ _ ((World.cell?_setCell_other _ _ _ _ (by simp)).trans h.c1)],
   by simp only [World.frozen?_setCell]; exact h.f0, by simp only [World.frozen?_setCell]; exact h.f1⟩
theorem Two.fresh (w : World) (p q : Nat) (t : TypeId) : Two (w.alloc (.cells #[.int .u64 p, .int .u64 q] t)) w.heap.size p q := ⟨by simp [go_sem], by simp [go_sem], by simp [go_sem], by simp [go_sem]⟩
theorem Two.alloc {w : World} {b p q : Nat} (h : Two w b p q) (o : Obj) : Two (w.alloc o) b p q := h.below ((Below.refl _ _).alloc (Nat.le_refl _) _)

theorem Two.cast {w : World} {b b' p q : Nat} (h : Two w b p q) (e : b = b') : Two w b' p q := e ▸ h
theorem Two.drew {w : World} {b p q : Nat} (h : Two w b p q) : Two w.drew b p q := ⟨h.c0, h.c1, h.f0, h.f1⟩
end Rf
end Go.Proofs.YtnnieiedkjekpaaDoor
