/- What the law of tiles keeps in memory: the shape, the tiles, the places that were met. -/
import Derived.Test.YtfmjmopmlimnnaaDoorShapeT
set_option linter.unusedVariables false
namespace Go.Proofs.YtfmjmopmlimnnaaDoor
open Go.RowKit
namespace Sh
open Tl
theorem infoM : (Tryd.prog.info? 43).map (fun i => i.zero) = some (some (.agg (Array.replicate 256 (.int .i64 0)))) := by kernel_rfl
/-- The zero value of [256]int: its cells are a letter. -/
theorem zeroM : ∃ zs : Array Value, (∀ w : World, Sem.run Tryd.prog (zeroValue 43) w = .ok (.agg zs) w) ∧ zs.size = 256 ∧ zs ≠ #[] ∧ ∀ i, i < 256 → zs[i]? = some (.int .i64 0) := by
  refine ⟨Array.replicate 256 (.int .i64 0), fun w => ?_, by simp, by simp, fun i hi => by simp [hi]⟩
  obtain ⟨i, hi, hz⟩ := Option.map_eq_some_iff.1 infoM
  simp [zeroValue, typeInfo, hi, hz]
def um (f : Nat → Nat) (k v : Nat) : Nat → Nat := fun j => if j = k then v else f j
theorem um_same (f : Nat → Nat) (k v : Nat) : um f k v k = v := if_pos rfl
theorem um_other (f : Nat → Nat) (k v : Nat) {j : Nat} (h : j ≠ k) : um f k v j = f j := if_neg h
/-- An array of 256 ints of one's own. -/
structure Mk (w : World) (b : Nat) (f : Nat → Nat) : Prop where
  c : ∀ i, i < 256 → w.cell? ⟨b, i, none⟩ = some (.int .i64 (f i : Nat))
  z : ∀ i, i < 256 → w.frozen? ⟨b, i, none⟩ = false
theorem Mk.lt {w : World} {b : Nat} {f : Nat → Nat} (h : Mk w b f) : b < w.heap.size := World.block_lt_of_cell? w _ (h.c 0 (by decide))
theorem Mk.below {w w' : World} {b : Nat} {f : Nat → Nat} (h : Mk w b f) (hb : Below w.heap.size w w') : Mk w' b f :=
  ⟨fun i hi => (hb.cell (p := ⟨b, i, none⟩) h.lt).trans (h.c i hi), fun i hi => (hb.frozen (p := ⟨b, i, none⟩) h.lt).trans (h.z i hi)⟩
theorem Mk.put {w : World} {b : Nat} {f : Nat → Nat} (h : Mk w b f) (k v : Nat) (hk : k < 256) : Mk (w.setCell ⟨b, k, none⟩ (.int .i64 (v : Nat))) b (um f k v) := by
  refine ⟨fun i hi => ?_, fun i hi => ?_⟩
  · by_cases e : i = k
    · subst e
      rw [World.cell?_setCell_same _ _ _ (h.c i hk), um_same]
    · rw [World.cell?_setCell_other w _ _ _ (by simp <;> omega), h.c i hi, um_other f k v e]
  · rw [World.frozen?_setCell]
    exact h.z i hi
theorem Mk.fresh (w : World) (zs : Array Value) (t : TypeId) (hc : ∀ i, i < 256 → zs[i]? = some (.int .i64 0)) : Mk (w.alloc (.cells zs t)) w.heap.size (fun _ => 0) :=
  ⟨fun i hi => by simp [go_sem, hc i hi], fun i hi => by simp [go_sem]⟩
/-- What the loops keep. -/
structure Bg (w wr : World) (bs g bm N a b h k : Nat) (f : Nat → Nat) : Prop where
  s : Tw wr bs a b
  l : Tk wr g N a b h k
  m : Mk wr bm f
  b : Below w.heap.size w wr
  n1 : bm ≠ bs
  n2 : bm ≠ g
  n3 : w.heap.size ≤ bm
  n0 : 0 < N
section
variable {w wr w1 : World} {bs g bm N a b h k : Nat} {f : Nat → Nat}
theorem Bg.call (H : Bg w wr bs g bm N a b h k f) (hb : Below wr.heap.size wr w1) : Bg w w1 bs g bm N a b h k f :=
  ⟨H.s.below hb, H.l.step H.n0 hb, H.m.below hb, H.b.trans (hb.mono H.b.size), H.n1, H.n2, H.n3, H.n0⟩
theorem Bg.put (H : Bg w wr bs g bm N a b h k f) (i v : Nat) (hi : i < 256) : Bg w (wr.setCell ⟨bm, i, none⟩ (.int .i64 (v : Nat))) bs g bm N a b h k (um f i v) :=
  ⟨⟨(World.cell?_setCell_other wr _ _ _ (fun e => H.n1 (congrArg Addr.block e))).trans H.s.c0, (World.cell?_setCell_other wr _ _ _ (fun e => H.n1 (congrArg Addr.block e))).trans H.s.c1⟩,
   H.l.put (a := ⟨bm, i, none⟩) H.n2 _, H.m.put i v hi, H.b.setCell H.n3 _, H.n1, H.n2, H.n3, H.n0⟩
theorem Bg.drewN (H : Bg w wr bs g bm N a b h k f) (n : Nat) : Bg w (wr.drewN n) bs g bm N a b h k f := H.call (below_drewN (Below.refl _ _) n)
end
/-- A tile's four cells. -/
structure Q4 (w : World) (b r c x y : Nat) : Prop where
  c0 : w.cell? ⟨b, 0, none⟩ = some (.int .i64 (r : Nat))
  c1 : w.cell? ⟨b, 1, none⟩ = some (.int .i64 (c : Nat))
  c2 : w.cell? ⟨b, 2, none⟩ = some (.int .i64 (x : Nat))
  c3 : w.cell? ⟨b, 3, none⟩ = some (.int .i64 (y : Nat))
theorem Q4.fresh (w : World) (r c x y : Nat) (t : TypeId) : Q4 (w.alloc (.cells #[.int .i64 (r : Nat), .int .i64 (c : Nat), .int .i64 (x : Nat), .int .i64 (y : Nat)] t)) w.heap.size r c x y :=
  ⟨by simp [go_sem], by simp [go_sem], by simp [go_sem], by simp [go_sem]⟩
theorem Q4.drewN {w : World} {b r c x y : Nat} (h : Q4 w b r c x y) (n : Nat) : Q4 (w.drewN n) b r c x y := ⟨h.c0, h.c1, h.c2, h.c3⟩
theorem Q4.put {w : World} {b r c x y : Nat} (h : Q4 w b r c x y) {a : Addr} (ha : a.block ≠ b) (v : Value) : Q4 (w.setCell a v) b r c x y :=
  ⟨(World.cell?_setCell_other w a _ v (fun e => ha (by rw [e]))).trans h.c0, (World.cell?_setCell_other w a _ v (fun e => ha (by rw [e]))).trans h.c1,
   (World.cell?_setCell_other w a _ v (fun e => ha (by rw [e]))).trans h.c2, (World.cell?_setCell_other w a _ v (fun e => ha (by rw [e]))).trans h.c3⟩
/-- What the law's tests ask of a tile. -/
theorem tile_facts (p q h k n : Nat) (hp : 0 < p) (hq : 0 < q) (hh : 0 < h) (hk : 0 < k) (hn : n < up p h * up q k) :
    0 < rws p q h k n ∧ rws p q h k n ≤ h ∧ 0 < cls q k n ∧ cls q k n ≤ k ∧ row q h k n + rws p q h k n ≤ p ∧ col q k n + cls q k n ≤ q ∧
    (rws p q h k n < h → row q h k n + rws p q h k n = p) ∧ (cls q k n < k → col q k n + cls q k n = q) := by
  have a1 := rws_pos hp hh hn
  have a2 := cls_pos (n := n) hq hk
  have a3 := row_lt (q := q) (w := k) hp hn
  have a4 := col_lt (w := k) (n := n) hq
  unfold rws cls at *
  omega
end Sh
end Go.Proofs.YtfmjmopmlimnnaaDoor
