/- Words for memory: structs of two words that are kept while new ones are made. -/
import Derived.Test.YtkbhbnadkoainaaRefF
set_option linter.unusedVariables false
namespace Go.Proofs.Ytkbhbnadkoainaa
open Go.RowKit
namespace Rf

theorem Two.zero (w : World) (t : TypeId) : Two (w.alloc (.cells #[.int .u64 0, .int .u64 0] t)) w.heap.size 0 0 := Two.fresh w 0 0 t
theorem Two.zero1 (w : World) (o : Obj) (t : TypeId) : Two ((w.alloc o).alloc (.cells #[.int .u64 0, .int .u64 0] t)) (w.heap.size + 1) 0 0 := Two.cast (Two.zero (w.alloc o) t) (by simp)

/-- All structs of the list (block, upper half, lower half) stand in the world w'; below the heap's size of w nothing has turned. -/
structure KP (w w' : World) (L : List (Nat × Nat × Nat)) : Prop where
  all : ∀ x, x ∈ L → Two w' x.1 x.2.1 x.2.2
  below : Below w.heap.size w w'
theorem KP.drew {w w' : World} {L : List (Nat × Nat × Nat)} (h : KP w w' L) : KP w w'.drew L := ⟨fun x hx => (h.all x hx).drew, h.below.drew⟩
theorem KP.call {w w' w1 : World} {L : List (Nat × Nat × Nat)} (h : KP w w' L) (hb : Below w'.heap.size w' w1) : KP w w1 L := ⟨fun x hx => (h.all x hx).below hb, h.below.trans (hb.mono h.below.size)⟩
theorem KP.alloc {w w' : World} {L : List (Nat × Nat × Nat)} (h : KP w w' L) (o : Obj) : KP w (w'.alloc o) L := h.call ((Below.refl _ _).alloc (Nat.le_refl _) _)
theorem KP.store {w w' : World} {L : List (Nat × Nat × Nat)} (h : KP w w' L) {g o : Nat} (hg : w.heap.size ≤ g) (hn : ∀ x, x ∈ L → x.1 ≠ g) (v : Value) : KP w (w'.setCell ⟨g, o, none⟩ v) L :=
  ⟨fun x hx => (h.all x hx).other (fun e => hn x hx e.symm) v, h.below.setCell hg v⟩
theorem KP.put {w w' : World} {L : List (Nat × Nat × Nat)} (h : KP w w' L) {g : Nat} (hg : w.heap.size ≤ g) (hn : ∀ x, x ∈ L → x.1 ≠ g) {p q : Nat} (t : Two w' g p q) (p' q' : Nat) :
    KP w ((w'.setCell ⟨g, 0, none⟩ (.int .u64 p')).setCell ⟨g, 1, none⟩ (.int .u64 q')) ((g, p', q') :: L) :=
  ⟨fun x hx => by
    rcases List.mem_cons.1 hx with rfl | hx
    · exact t.put p' q'
    · exact ((h.all x hx).other (fun e => hn x hx e.symm) _).other (fun e => hn x hx e.symm) _,
   (h.below.setCell hg _).setCell hg _⟩
theorem KP.lt {w w' : World} {L : List (Nat × Nat × Nat)} (h : KP w w' L) (x : Nat × Nat × Nat) (hx : x ∈ L) : x.1 < w'.heap.size := World.block_lt_of_cell? w' _ (h.all x hx).c0
theorem KP.ne {w w' : World} {L : List (Nat × Nat × Nat)} (h : KP w w' L) {g : Nat} (hg : w'.heap.size ≤ g) : ∀ x, x ∈ L → x.1 ≠ g := fun x hx => by have := h.lt x hx; omega
theorem KP.fresh {w w' : World} {L : List (Nat × Nat × Nat)} (h : KP w w' L) (p q : Nat) (t : TypeId) : KP w (w'.alloc (.cells #[.int .u64 p, .int .u64 q] t)) ((w'.heap.size, p, q) :: L) :=
  ⟨fun x hx => by
    rcases List.mem_cons.1 hx with rfl | hx
    · exact Two.fresh w' p q t
    · exact (h.all x hx).alloc _,
   (h.alloc _).below⟩
theorem KP.swap {w w' : World} {L : List (Nat × Nat × Nat)} {a b : Nat × Nat × Nat} (h : KP w w' (a :: b :: L)) : KP w w' (b :: a :: L) :=
  ⟨fun x hx => h.all x (by simp at hx ⊢; rcases hx with h | h | h <;> simp [h]), h.below⟩
theorem KP.tail {w w' : World} {L : List (Nat × Nat × Nat)} {a : Nat × Nat × Nat} (h : KP w w' (a :: L)) : KP w w' L := ⟨fun x hx => h.all x (List.mem_cons_of_mem _ hx), h.below⟩
theorem KP.head {w w' : World} {L : List (Nat × Nat × Nat)} {b p q : Nat} (h : KP w w' ((b, p, q) :: L)) : Two w' b p q := h.all _ (List.mem_cons_self ..)

/- Two new structs, made and filled in whatever order: what stands then. -/
section
variable {w v : World} {L : List (Nat × Nat × Nat)} {x1 x2 y1 y2 : Nat}
theorem KP.fin1 (K : KP w v L) (t t' : TypeId) : KP w ((v.alloc (.cells #[.int .u64 x1, .int .u64 x2] t)).alloc (.cells #[.int .u64 y1, .int .u64 y2] t')) ((v.heap.size + 1, y1, y2) :: (v.heap.size, x1, x2) :: L) := by
  have h := (K.fresh x1 x2 t).fresh y1 y2 t'
  rw [World.size_alloc] at h
  exact h
theorem KP.fin2 (K : KP w v L) (t t' : TypeId) : KP w ((v.alloc (.cells #[.int .u64 y1, .int .u64 y2] t)).alloc (.cells #[.int .u64 x1, .int .u64 x2] t')) ((v.heap.size, y1, y2) :: (v.heap.size + 1, x1, x2) :: L) :=
  (K.fin1 t t').swap
theorem size_put (v : World) (a b : Addr) (x y : Value) : ((v.setCell a x).setCell b y).heap.size = v.heap.size := by simp [World.setCell]
theorem KP.fin3 (K : KP w v L) {g p q : Nat} (T : Two v g p q) (hg : w.heap.size ≤ g) (hn : ∀ x, x ∈ L → x.1 ≠ g) (t : TypeId) :
    KP w (((v.setCell ⟨g, 0, none⟩ (.int .u64 x1)).setCell ⟨g, 1, none⟩ (.int .u64 x2)).alloc (.cells #[.int .u64 y1, .int .u64 y2] t)) ((v.heap.size, y1, y2) :: (g, x1, x2) :: L) := by
  have h := (K.put hg hn T x1 x2).fresh y1 y2 t
  rw [size_put] at h
  exact h
theorem KP.fin3' (K : KP w v L) {g p q : Nat} (T : Two v g p q) (hg : w.heap.size ≤ g) (hn : ∀ x, x ∈ L → x.1 ≠ g) (t : TypeId) :
    KP w (((v.setCell ⟨g, 0, none⟩ (.int .u64 y1)).setCell ⟨g, 1, none⟩ (.int .u64 y2)).alloc (.cells #[.int .u64 x1, .int .u64 x2] t)) ((g, y1, y2) :: (v.heap.size, x1, x2) :: L) :=
  (K.fin3 T hg hn t).swap
theorem KP.fin4 (K : KP w v L) {g g' p q p' q' : Nat} (T : Two v g p q) (T' : Two v g' p' q') (hne : g ≠ g') (hg : w.heap.size ≤ g) (hg' : w.heap.size ≤ g') (hn : ∀ x, x ∈ L → x.1 ≠ g) (hn' : ∀ x, x ∈ L → x.1 ≠ g') :
    KP w ((((v.setCell ⟨g, 0, none⟩ (.int .u64 x1)).setCell ⟨g, 1, none⟩ (.int .u64 x2)).setCell ⟨g', 0, none⟩ (.int .u64 y1)).setCell ⟨g', 1, none⟩ (.int .u64 y2)) ((g', y1, y2) :: (g, x1, x2) :: L) :=
  (K.put hg hn T x1 x2).put hg' (fun x hx => by
    rcases List.mem_cons.1 hx with rfl | hx
    · exact hne
    · exact hn' x hx) ((T'.other (by simpa using hne) _).other (by simpa using hne) _) y1 y2
end
end Rf
end Go.Proofs.Ytkbhbnadkoainaa
