/- Layer 15: a disk beside two rows of texts (DiskSafe): what its loops keep. -/
import Derived.Test.YtfjlhbamldgklaaDiskQ
import Derived.Test.YtfjlhbamldgklaaDiskP
set_option linter.unusedVariables false
namespace Go.Proofs.Ytfjlhbamldgklaa
open Go.RowKit Go.Lib Go.ChangeMaps
namespace Dk
open Ww
/-- A row of twelve texts. -/
def Tx (w : World) (q : Nat) (S : Nat → ByteArray) : Prop := w.rowIs q 62 12 (fun i => .string (S i))
section
variable {w w' wr : World} {q q' : Nat} {S T : Nat → ByteArray}
theorem Tx.nob (h : Tx w q S) : NoBytes w (fun b => b = q) := by
  rintro b off x hx rfl
  obtain ⟨cs, h1, h2, h3⟩ := h
  rw [blk_cell h1 off] at hx
  have ho : off < 12 := by rw [← h2]; exact (Array.getElem?_eq_some_iff.1 hx).1
  rw [h3 off ho] at hx
  cases hx
theorem Tx.fr {R : Nat → Prop} (h : Tx w q S) (F : Fr R w w') (hs : ¬ R q) : Tx w' q S := World.rowIs.of_block h (F.block q (World.rowIs.lt h) hs)
theorem Tx.below (h : Tx w q S) (F : Below w.heap.size w w') : Tx w' q S := h.fr (R := fun _ => False) (Fr.of_below F) id
theorem Tx.put (h : Tx w q S) (i : Nat) (t : ByteArray) (hT : ∀ j, j < 12 → T j = if j = i then t else S j) : Tx (w.setCell ⟨q, i, none⟩ (.string t)) q T :=
  World.rowIs.congr (World.rowIs.set h i (.string t)) fun j hj => by
    rw [hT j hj]
    split <;> rfl
theorem Tx.other (h : Tx w q S) (hq : q ≠ q') (i : Nat) (v : Value) : Tx (w.setCell ⟨q', i, none⟩ v) q S := World.rowIs.setOther h hq v
theorem Tx.cell (h : Tx w q S) {i : Nat} (hi : i < 12) : w.cell? ⟨q, i, none⟩ = some (.string (S i)) := World.rowIs.cell h hi
theorem Tx.frozen (h : Tx w q S) (i : Nat) : w.frozen? ⟨q, i, none⟩ = false := World.rowIs.frozen h i
theorem Tx.congr (h : Tx w q S) (e : ∀ i, i < 12 → S i = T i) : Tx w q T := World.rowIs.congr h fun i hi => by rw [e i hi]
end
/-- A disk of twelve sectors beside two rows, behind what was there. -/
structure Lp (w wr : World) (L : Ly) (q q' k b : Nat) (S T : Nat → ByteArray) (d : Dm) : Prop where
  db : Db wr L 32 12 d k
  ct : d.r ≤ b ∧ d.w ≤ b ∧ d.s ≤ b
  bl : Below w.heap.size w wr
  a : Tx wr q S
  b : Tx wr q' T
/-- Where the rows lie. -/
structure Qs (w : World) (L : Ly) (q q' : Nat) : Prop where
  m : ∀ b, Mine L b → w.heap.size ≤ b
  n : ¬ Mine L q
  n' : ¬ Mine L q'
  g : w.heap.size ≤ q
  g' : w.heap.size ≤ q'
  ne : q ≠ q'
section
variable {w w' wr : World} {L : Ly} {q q' k k' b b' : Nat} {S T S' T' : Nat → ByteArray} {d d' : Dm}
theorem Lp.go (X : Lp w wr L q q' k b S T d) (Q : Qs w L q q') (D : Db w' L 32 12 d' k') (F : Fr (Mine L) wr w') (h : d'.r ≤ b' ∧ d'.w ≤ b' ∧ d'.s ≤ b') : Lp w w' L q q' k' b' S T d' :=
  ⟨D, h, X.bl.trans (F.below Q.m X.bl.size), X.a.fr F Q.n, X.b.fr F Q.n'⟩
theorem Lp.below (X : Lp w wr L q q' k b S T d) (B : Below wr.heap.size wr w') : Lp w w' L q q' k b S T d :=
  ⟨X.db.below B, X.ct, X.bl.trans (B.mono X.bl.size), X.a.below B, X.b.below B⟩
theorem db_aside (D : Db wr L 32 12 d k) (h : Tx wr q S) (hq : ¬ Mine L q) (i : Nat) (v : Value) : Db (wr.setCell ⟨q, i, none⟩ v) L 32 12 d k := by
  obtain ⟨φ, sf, c, D⟩ := D
  exact ⟨φ, sf, c, D.fr (S := fun b => b = q) ((Fr.refl _ _).put ⟨q, i, none⟩ v (Or.inl rfl)) h.nob (fun b hb e => hq (by rw [← e]; exact hb))⟩
theorem bs_aside {A : Option Addr} {bs : List UInt8} (R : Bs wr wr.heap.size A bs) (h : Tx wr q S) (i : Nat) (v : Value) : Bs (wr.setCell ⟨q, i, none⟩ v) (wr.setCell ⟨q, i, none⟩ v).heap.size A bs :=
  bs_fr R (S := fun b => b = q) ((Fr.refl _ _).put ⟨q, i, none⟩ v (Or.inl rfl)) h.nob
theorem Lp.putA (X : Lp w wr L q q' k b S T d) (Q : Qs w L q q') (i : Nat) (t : ByteArray) (h : ∀ j, j < 12 → S' j = if j = i then t else S j) : Lp w (wr.setCell ⟨q, i, none⟩ (.string t)) L q q' k b S' T d :=
  ⟨db_aside X.db X.a Q.n i _, X.ct, X.bl.setCell (p := ⟨q, i, none⟩) Q.g _, X.a.put i t h, X.b.other (fun e => Q.ne e.symm) i _⟩
theorem Lp.putB (X : Lp w wr L q q' k b S T d) (Q : Qs w L q q') (i : Nat) (t : ByteArray) (h : ∀ j, j < 12 → T' j = if j = i then t else T j) : Lp w (wr.setCell ⟨q', i, none⟩ (.string t)) L q q' k b S T' d :=
  ⟨db_aside X.db X.b Q.n' i _, X.ct, X.bl.setCell (p := ⟨q', i, none⟩) Q.g' _, X.a.other Q.ne i _, X.b.put i t h⟩
/-- The first j rows' texts. -/
def arr (g : Nat → Sec) (j i : Nat) : ByteArray := if i < j then (g i).now else ⟨#[]⟩
theorem arr_step (g : Nat → Sec) (j : Nat) (i : Nat) : arr g (j + 1) i = if i = j then (g j).now else arr g j i := by
  unfold arr
  by_cases e : i = j
  · subst e; rw [if_pos (by omega), if_pos rfl]
  · rw [if_neg e]
    by_cases h : i < j
    · rw [if_pos (by omega), if_pos h]
    · rw [if_neg (by omega), if_neg h]
theorem booted_now (s : Sec) (k : Bool) : ((booted s k).now = s.safe ∨ (booted s k).now = s.now) ∧ (booted s k).dirty = false := by
  unfold booted
  split
  · cases k
    · exact ⟨Or.inl rfl, rfl⟩
    · exact ⟨Or.inr rfl, rfl⟩
  · rename_i h
    exact ⟨Or.inr rfl, by simpa using h⟩
/-- An act of the law's second list: nothing is kept, or a sector's bytes. -/
theorem stp_more (d : Dm) (a : ActV) (hd : d.down = false) (hf : d.fuse = 0) (hk : a.kind ≤ 2) : (stp 32 12 d a).1.down = false ∧ (stp 32 12 d a).1.fuse = 0 ∧
    (((stp 32 12 d a).1.f = d.f ∧ ((stp 32 12 d a).2.1 ≠ 0 ∨ (stp 32 12 d a).2.1 = 0 ∧ (a.kind = 2 ∨ a.kind < 0))) ∨
     ((stp 32 12 d a).2.1 = 0 ∧ 0 ≤ a.kind ∧ a.kind ≤ 1 ∧ ∃ i : Nat, a.i = (i : Int) ∧ i < 12 ∧ (stp 32 12 d a).1.f = put d.f i (wrote (d.f i) ⟨(lb a.bs 32).toArray⟩))) := by
  by_cases h0 : a.kind < 0
  · rw [stp_other (Or.inl h0)]
    exact ⟨hd, hf, Or.inl ⟨rfl, Or.inr ⟨rfl, Or.inr h0⟩⟩⟩
  have hop : Opk a := ⟨by omega, by omega, by omega, by omega, by omega, by omega⟩
  have ee := er_std (z := 32) (n := 12) (a := a) (by omega) (by omega)
  by_cases he : adm d (er 32 12 a) = 0
  · have e1 := he
    rw [ee] at e1
    obtain ⟨f0, f1, _⟩ := flt_zero (adm_zero e1).1
    by_cases h2 : a.kind = 2
    · rw [stp_read h2 he]
      exact ⟨hd, by show d.fuse - 1 = 0; omega, Or.inl ⟨rfl, Or.inr ⟨rfl, Or.inl h2⟩⟩⟩
    · rw [stp_write (by omega) he]
      exact ⟨hd, by show d.fuse - 1 = 0; omega, Or.inr ⟨rfl, by omega, by omega, a.i.toNat, by omega, by omega, rfl⟩⟩
  · have en : er 32 12 a ≠ 0 := fun e => he (by rw [e]; exact adm_ok hd (by omega))
    obtain ⟨q1, q2⟩ := adm_err hd en
    rw [stp_err hop he, q1, q2]
    exact ⟨hd, hf, Or.inl ⟨rfl, Or.inl en⟩⟩
end
end Dk
end Go.Proofs.Ytfjlhbamldgklaa
