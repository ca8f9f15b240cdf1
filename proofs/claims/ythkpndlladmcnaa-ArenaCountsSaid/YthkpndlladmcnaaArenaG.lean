/- ArenaCounts: what its loop keeps, and the arms of its switch. -/
import Derived.Test.YthkpndlladmcnaaArenaF
set_option linter.unusedVariables false
namespace Go.Proofs.Ythkpndlladmcnaa
open Go.RowKit Go.ChangeMaps Go.Lib
namespace Ar
open Ww

/-- The arena and the law's two rows. -/
structure Sg (w wr : World) (p m c k peak : Nat) (q n g : Nat → Nat) (v6 v7 : Value) : Prop where
  a : Ab wr p m c peak k q n g
  r6 : Pw wr w.heap.size v6 q k
  r7 : Iw wr w.heap.size v7 n k
  d : Below w.heap.size w wr
  o : ∀ b, Mine p m k q b → w.heap.size ≤ b
/-- What the loop keeps. -/
def Ls (w wr : World) (p m c lim : Nat) (v6 v7 v8 v9 : Value) : Prop :=
  ∃ (k peak : Nat) (q n g : Nat → Nat), k ≤ lim ∧ v8 = .int .i64 (tot n k : Nat) ∧ v9 = .int .i64 (peak : Nat) ∧ Sg w wr p m c k peak q n g v6 v7
section
variable {w wr w' : World} {p m c k peak : Nat} {q n g : Nat → Nat} {v6 v7 : Value}
/-- A call of the arena's that leaves the law's rows alone. -/
theorem Sg.call {k' peak' : Nat} {q' n' g' : Nat → Nat} (h : Sg w wr p m c k peak q n g v6 v7) (a : Ab w' p m c peak' k' q' n' g') (f : Fr (Mine p m k q) wr w') :
    Pw w' w.heap.size v6 q k ∧ Iw w' w.heap.size v7 n k ∧ Below w.heap.size w w' :=
  ⟨owns_fr h.r6 f (owns_aside h.a h.r6 (by decide) (by decide)), owns_fr h.r7 f (owns_aside h.a h.r7 (by decide) (by decide)), h.d.trans (f.below h.o h.d.size)⟩
theorem Sg.drewN (h : Sg w wr p m c k peak q n g v6 v7) (j : Nat) : Sg w (wr.drewN j) p m c k peak q n g v6 v7 := ⟨h.a.drewN j, h.r6, h.r7, ⟨h.d.os, h.d.tape, h.d.output, h.d.size, h.d.block⟩, h.o⟩
theorem Sg.start (a : Ab wr p m c 0 0 q n g) (d : Below w.heap.size w wr) (hp : w.heap.size ≤ p) (hm : w.heap.size ≤ m) : Sg w wr p m c 0 0 q n g (.slice none 0 0) (.slice none 0 0) :=
  ⟨a, Pw.nil_ _ _ _, Iw.nil_ _ _ _, d, by
    rintro b (rfl | rfl | ⟨i, hi, _⟩)
    · exact hp
    · exact hm
    · omega⟩
end
theorem type_bi : 31 ≠ 3 := by decide
section
variable {w w4 w6 : World} {p m c pk kk k l : Nat} {q n g Q N : Nat → Nat} {v6 v7 : Value}
/-- A buffer more in the law's row of buffers. -/
theorem grow1 (o : Obj) (a : Ab w4 p m c pk kk q n g) (P : Pw w4 w.heap.size v6 Q k) (I : Iw w4 w.heap.size v7 N l) (d : Below w.heap.size w w4) (hg : (w4.alloc o).grownBy w6 v6.ownBlock) :
    Ab w6 p m c pk kk q n g ∧ Iw w6 w.heap.size v7 N l ∧ Below w.heap.size w w6 := by
  have b1 : Below w4.heap.size w4 (w4.alloc o) := (Below.refl _ _).alloc (Nat.le_refl _) _
  have s := d.size
  exact ⟨(a.below b1).fr (Fr.grown (S := fun b => v6.ownBlock = some b) hg (fun _ h => h)) (fun b hb h => owns_aside a P (by decide) (by decide) b h hb),
    owns_other (World.ownsRow.alloc I o) (owns_apart (World.ownsRow.alloc I o) (World.ownsRow.alloc P o) (Ne.symm type_bi)) hg,
    (d.alloc s o).grown hg (by simp; omega) (fun j hj => (World.ownsRow.lt P j hj).1)⟩
/-- A number more in the law's row of numbers. -/
theorem grow2 (o : Obj) (a : Ab w4 p m c pk kk q n g) (P : Pw w4 w.heap.size v6 Q k) (I : Iw w4 w.heap.size v7 N l) (d : Below w.heap.size w w4) (hg : (w4.alloc o).grownBy w6 v7.ownBlock) :
    Ab w6 p m c pk kk q n g ∧ Pw w6 w.heap.size v6 Q k ∧ Below w.heap.size w w6 := by
  have b1 : Below w4.heap.size w4 (w4.alloc o) := (Below.refl _ _).alloc (Nat.le_refl _) _
  have s := d.size
  exact ⟨(a.below b1).fr (Fr.grown (S := fun b => v7.ownBlock = some b) hg (fun _ h => h)) (fun b hb h => owns_aside a I (by decide) (by decide) b h hb),
    owns_other (World.ownsRow.alloc P o) (owns_apart (World.ownsRow.alloc P o) (World.ownsRow.alloc I o) type_bi) hg,
    (d.alloc s o).grown hg (by simp; omega) (fun j hj => (World.ownsRow.lt I j hj).1)⟩
/-- A number of the law's own is written. -/
theorem put0 {A : Option Addr} {c7 : Nat} (i x : Nat) (hi : i < l) (a : Ab w4 p m c pk kk q n g) (P : Pw w4 w.heap.size v6 Q k) (I : Iw w4 w.heap.size (.slice A l c7) N l) (d : Below w.heap.size w w4) :
    ∃ b, A = some ⟨b, 0, none⟩ ∧ w4.cell? ⟨b, i, none⟩ = some (.int .i64 (N i : Nat)) ∧ w4.frozen? ⟨b, i, none⟩ = false ∧
      Ab (w4.setCell ⟨b, i, none⟩ (.int .i64 (x : Nat))) p m c pk kk q n g ∧ Pw (w4.setCell ⟨b, i, none⟩ (.int .i64 (x : Nat))) w.heap.size v6 Q k ∧
      Iw (w4.setCell ⟨b, i, none⟩ (.int .i64 (x : Nat))) w.heap.size (.slice A l c7) (upd N i x) l ∧ Below w.heap.size w (w4.setCell ⟨b, i, none⟩ (.int .i64 (x : Nat))) := by
  obtain ⟨b, rfl, hb, t, z⟩ := owns_at I i _ (iws_at hi)
  have F : Fr (fun j => j = b) w4 (w4.setCell ⟨b, i, none⟩ (.int .i64 (x : Nat))) := (Fr.refl _ _).put _ _ (Or.inl rfl)
  have I2 := owns_put I i hi (.int .i64 (x : Nat))
  rw [iws_set] at I2
  refine ⟨b, rfl, t, z, a.fr F (fun j hj h => owns_aside a I (by decide) (by decide) b rfl (h ▸ hj)), owns_fr P F (fun j hj h => ?_), I2, d.setCell hb _⟩
  subst h
  exact owns_apart P I type_bi j hj rfl
end
/-- The first j are noughts. -/
def zk (n : Nat → Nat) (j : Nat) : Nat → Nat := fun i => if i < j then 0 else n i
theorem zk_zero (n : Nat → Nat) : zk n 0 = n := by funext i; simp [zk]
theorem zk_step (n : Nat → Nat) (j : Nat) : upd (zk n j) j 0 = zk n (j + 1) := by
  funext i
  unfold upd zk
  by_cases e : i = j
  · subst e; simp
  · rw [if_neg e]
    by_cases h : i < j
    · rw [if_pos h, if_pos (by omega)]
    · rw [if_neg h, if_neg (by omega)]
theorem Iw.congr {w : World} {B : Nat} {v : Value} {n n' : Nat → Nat} {k : Nat} (h : Iw w B v n k) (e : ∀ i, i < k → n i = n' i) : Iw w B v n' k := by
  unfold Iw at h ⊢
  rw [← iws_congr e]
  exact h
theorem giv_all (n : Nat → Nat) : ∀ k i, i < k → giv n (fun j => some j) k i = 0
  | 0, i, h => absurd h (by omega)
  | k + 1, i, h => by
    rw [giv_some (i := k) rfl]
    by_cases e : i = k
    · subst e; exact upd_same _ _ _
    · rw [upd_other _ _ _ e]
      exact giv_all n k i (by omega)
theorem giv_three (n : Nat → Nat) (i : Nat) : giv n (fun j => if j = 1 then none else some i) 3 = upd n i 0 := by
  rw [giv_some (i := i) (by simp), giv_none (by simp), giv_some (i := i) (by simp)]
  exact upd_self (upd_same _ _ _)
theorem lp_all {w : World} {p m c peak k : Nat} {q n g : Nat → Nat} {A : Option Addr} {c6 B : Nat} (a : Ab w p m c peak k q n g) (P : Pw w B (.slice A k c6) q k) : Lp w (Mine p m k q) q A k (fun j => some j) :=
  ⟨fun j hj => by
    obtain ⟨b, rfl, _, t, _⟩ := owns_at P j _ (pws_at hj)
    exact ⟨b, 0, rfl, owns_aside a P (by decide) (by decide) b rfl, by rw [Nat.zero_add]; exact t⟩⟩
theorem lp_three {w : World} {p m c peak k : Nat} {q n g : Nat → Nat} (i : Nat) (t : TypeId) (a : Ab w p m c peak k q n g) :
    Lp (w.alloc (.cells #[.pointer (some ⟨q i, 0, none⟩), .pointer none, .pointer (some ⟨q i, 0, none⟩)] t)) (Mine p m k q) q (some ⟨w.heap.size, 0, none⟩) 3 (fun j => if j = 1 then none else some i) :=
  ⟨fun j hj => ⟨w.heap.size, 0, rfl, fun h => absurd (a.lt h) (Nat.lt_irrefl _), by
    rw [blk_cell (blk_new w _)]
    rcases (show j = 0 ∨ j = 1 ∨ j = 2 by omega) with rfl | rfl | rfl <;> rfl⟩⟩
end Ar
end Go.Proofs.Ythkpndlladmcnaa
