/- Layer 15: a disk where it lies; contracts of its power, counts and plates that turn few cells. -/
import Derived.Test.YtfjlhbamldgklaaDiskA
import Derived.Deep.OwnRows
import Derived.StillTailTactics
set_option linter.unusedVariables false
namespace Go.Proofs.Ytfjlhbamldgklaa
open Go.RowKit Go.Lib Go.ChangeMaps
namespace Dk
open Ww

/-- Of what was there, nothing has turned but the blocks of S. -/
structure Fr (S : Nat → Prop) (w w' : World) : Prop where
  os : w'.os = w.os
  tape : w'.tape = w.tape
  output : w'.output = w.output
  size : w.heap.size ≤ w'.heap.size
  block : ∀ b, b < w.heap.size → ¬ S b → w'.heap[b]? = w.heap[b]?
section
variable {S T : Nat → Prop} {w w1 w' : World} {B : Nat}
theorem Fr.refl (S : Nat → Prop) (w : World) : Fr S w w := ⟨rfl, rfl, rfl, Nat.le_refl _, fun _ _ _ => rfl⟩
theorem Fr.trans (h : Fr S w w1) (h1 : Fr T w1 w') (ht : ∀ b, T b → S b ∨ w.heap.size ≤ b) : Fr S w w' :=
  ⟨h1.os.trans h.os, h1.tape.trans h.tape, h1.output.trans h.output, Nat.le_trans h.size h1.size, fun b hb hs => (h1.block b (Nat.lt_of_lt_of_le hb h.size) (fun e => by
    rcases ht b e with e1 | e1
    · exact hs e1
    · omega)).trans (h.block b hb hs)⟩
theorem Fr.step (h : Fr S w w1) (h1 : Fr S w1 w') : Fr S w w' := h.trans h1 fun _ e => Or.inl e
theorem Fr.mono (h : Fr S w w') (ht : ∀ b, S b → T b) : Fr T w w' := ⟨h.os, h.tape, h.output, h.size, fun b hb hs => h.block b hb fun e => hs (ht b e)⟩
theorem Fr.of_below (h : Below w.heap.size w w') : Fr S w w' := ⟨h.os, h.tape, h.output, h.size, fun b hb _ => h.block b hb⟩
theorem Fr.below (h : Fr S w w') (hB : ∀ b, S b → B ≤ b) (hw : B ≤ w.heap.size) : Below B w w' :=
  ⟨h.os, h.tape, h.output, h.size, fun b hb => h.block b (by omega) fun e => by have := hB b e; omega⟩
theorem Fr.put (h : Fr S w w1) (p : Addr) (v : Value) (hp : S p.block ∨ w.heap.size ≤ p.block) : Fr S w (w1.setCell p v) :=
  h.trans (T := fun b => b = p.block) ⟨rfl, rfl, rfl, by simp [World.setCell], fun b _ hb => Below.heap_setCell _ _ _ _ hb⟩ (fun b e => by subst e; exact hp)
theorem Fr.map {m : Nat} (h : Fr S w w1) (hm : w1.mapTurned w' m) (hp : S m ∨ w.heap.size ≤ m) : Fr S w w' := by
  obtain ⟨es, clock, es', clock', hb, rfl⟩ := hm
  exact h.trans (T := fun b => b = m) ⟨rfl, rfl, rfl, by simp [setBlock], fun b _ hb' => heap_setBlock_other hb _ hb'⟩ (fun b e => by subst e; exact hp)
theorem Fr.grown {row : Option Nat} (h : Fr S w w1) (hg : w1.grownBy w' row) (ht : ∀ b, row = some b → S b ∨ w.heap.size ≤ b) : Fr S w w' :=
  h.trans (T := fun b => row = some b) ⟨hg.os, hg.tape, hg.output, hg.size, fun b hb hs => hg.block b hb fun e => hs e.symm⟩ ht
theorem Fr.at_ {b : Nat} {o : Obj} (h : Fr S w w') (hb : w.heap[b]? = some o) (hs : ¬ S b) : w'.heap[b]? = some o :=
  (h.block b (Array.getElem?_eq_some_iff.1 hb).1 hs).trans hb
end
theorem blk_cell {w : World} {b : Nat} {cs : Array Value} {t : TypeId} (h : w.heap[b]? = some (.cells cs t)) (i : Nat) : w.cell? ⟨b, i, none⟩ = cs[i]? := by
  simp [World.cell?, h]
theorem blk_frz {w : World} {b : Nat} {cs : Array Value} {t : TypeId} (h : w.heap[b]? = some (.cells cs t)) (i : Nat) : w.frozen? ⟨b, i, none⟩ = false := by
  simp [World.frozen?, h]
theorem blk_put {w : World} {b : Nat} {cs : Array Value} {t : TypeId} (h : w.heap[b]? = some (.cells cs t)) (i : Nat) (v : Value) : (w.setCell ⟨b, i, none⟩ v).heap[b]? = some (.cells (cs.setIfInBounds i v) t) := by
  simp [World.setCell, Array.getElem?_modify, h]

/-- A slice that holds the bytes t, z of them; what isn't there is noughts. -/
def Hs (w : World) (z : Nat) (v : Value) (t : ByteArray) : Prop := ∃ A c bs, v = .slice A bs.length c ∧ Bs w w.heap.size A bs ∧ t = ⟨(lb bs z).toArray⟩
/-- Blocks of bytes are none of S. -/
def NoBytes (w : World) (S : Nat → Prop) : Prop := ∀ b off x, w.cell? ⟨b, off, none⟩ = some (.int .u8 x) → ¬ S b
theorem bs_fr {S : Nat → Prop} {w w' : World} {A : Option Addr} {bs : List UInt8} (h : Bs w w.heap.size A bs) (f : Fr S w w') (hS : NoBytes w S) : Bs w' w'.heap.size A bs :=
  ⟨fun i hi => by
    obtain ⟨b, off, e, hb, c⟩ := h.at_ i hi
    exact ⟨b, off, e, Nat.lt_of_lt_of_le hb f.size, (World.cell?_of_block (f.block b hb (hS _ _ _ c))).trans c⟩⟩
theorem Hs.fr {S : Nat → Prop} {w w' : World} {z : Nat} {v : Value} {t : ByteArray} (h : Hs w z v t) (f : Fr S w w') (hS : NoBytes w S) : Hs w' z v t := by
  obtain ⟨A, c, bs, e, h1, h2⟩ := h
  exact ⟨A, c, bs, e, bs_fr h1 f hS, h2⟩
theorem Hs.none_ (w : World) (z : Nat) : Hs w z (.slice none 0 0) (zb z) := by
  refine ⟨none, 0, [], rfl, Bs.nil_ _ _ _, ?_⟩
  unfold zb
  congr 2
  apply List.ext_getElem?
  intro i
  by_cases h : i < z <;> simp [lb, h]

/-- Where a disk lies: itself, its safe sectors, whether each was written, its cache. -/
structure Ly where
  p : Nat
  s : Nat
  t : Nat
  m : Nat
def Mine (L : Ly) (b : Nat) : Prop := b = L.p ∨ b = L.s ∨ b = L.t ∨ b = L.m
def dobj (L : Ly) (z n : Nat) (d : Dm) (φ : Int) : Obj :=
  .cells #[.int .i64 (z : Nat), .slice (some ⟨L.s, 0, none⟩) n n, .map (some L.m), .slice (some ⟨L.t, 0, none⟩) n n, .int .i64 (d.r : Nat), .int .i64 (d.w : Nat), .int .i64 (d.s : Nat), .bool d.down, .int .i64 φ] 40
/-- The disk d, of n sectors of z bytes. -/
structure Dc (w : World) (L : Ly) (z n : Nat) (d : Dm) (φ : Int) (sf : Nat → Value) (c : Nat → Option Value) (k : Nat) : Prop where
  hp : w.heap[L.p]? = some (dobj L z n d φ)
  hs : w.rowIs L.s 47 n sf
  ht : w.rowIs L.t 4 n (fun i => .bool (d.f i).touched)
  hm : Mp w L.m n c k
  hv : ∀ i, i < n → Hs w z (sf i) (d.f i).safe
  hn : ∀ i, i < n → c i = none → (d.f i).dirty = false ∧ (d.f i).now = (d.f i).safe
  hc : ∀ i v, i < n → c i = some v → (d.f i).dirty = true ∧ Hs w z v (d.f i).now
  hφ : (d.fuse : Int) = max φ 0
  bφ : -9223372036854775808 ≤ φ ∧ φ ≤ 9223372036854775807
  ln : 1 ≤ n ∧ n ≤ 1048576
  lz : 32 ≤ z ∧ z ≤ 4096
section
variable {w w' : World} {L : Ly} {z n k : Nat} {d d' : Dm} {φ φ' : Int} {sf : Nat → Value} {c : Nat → Option Value}
theorem Dc.ps (h : Dc w L z n d φ sf c k) : L.p ≠ L.s := by
  intro e
  obtain ⟨cs, h1, _⟩ := h.hs
  have h2 := h.hp
  rw [e, h1] at h2
  injection h2 with h2
  injection h2 with _ h2
  cases h2
theorem Dc.pt (h : Dc w L z n d φ sf c k) : L.p ≠ L.t := by
  intro e
  obtain ⟨cs, h1, _⟩ := h.ht
  have h2 := h.hp
  rw [e, h1] at h2
  injection h2 with h2
  injection h2 with _ h2
  cases h2
theorem Dc.st (h : Dc w L z n d φ sf c k) : L.s ≠ L.t := by
  intro e
  obtain ⟨cs, h1, _⟩ := h.ht
  obtain ⟨cs2, h2, _⟩ := h.hs
  rw [e, h1] at h2
  injection h2 with h2
  injection h2 with _ h2
  cases h2
theorem Dc.pm (h : Dc w L z n d φ sf c k) : L.p ≠ L.m := by
  intro e
  obtain ⟨es, cl, h1⟩ := h.hm.block
  have h2 := h.hp
  rw [e, h1] at h2
  cases h2
theorem Dc.sm (h : Dc w L z n d φ sf c k) : L.s ≠ L.m := by
  intro e
  obtain ⟨es, cl, h1⟩ := h.hm.block
  obtain ⟨cs2, h2, _⟩ := h.hs
  rw [e, h1] at h2
  cases h2
theorem Dc.tm (h : Dc w L z n d φ sf c k) : L.t ≠ L.m := by
  intro e
  obtain ⟨es, cl, h1⟩ := h.hm.block
  obtain ⟨cs2, h2, _⟩ := h.ht
  rw [e, h1] at h2
  cases h2
theorem Dc.lt (h : Dc w L z n d φ sf c k) {b : Nat} (hb : Mine L b) : b < w.heap.size := by
  rcases hb with rfl | rfl | rfl | rfl
  · exact (Array.getElem?_eq_some_iff.1 h.hp).1
  · exact h.hs.lt
  · exact h.ht.lt
  · obtain ⟨es, cl, h1⟩ := h.hm.block
    exact (Array.getElem?_eq_some_iff.1 h1).1
/-- Its own blocks are no blocks of bytes. -/
theorem Dc.nob (h : Dc w L z n d φ sf c k) (h0 : ∀ i, i < n → ∃ A l q, sf i = .slice A l q) : NoBytes w (Mine L) := by
  rintro b off x hx (rfl | rfl | rfl | rfl)
  · rw [blk_cell h.hp off] at hx
    match off, hx with
    | 0, hx => cases hx
    | 1, hx => cases hx
    | 2, hx => cases hx
    | 3, hx => cases hx
    | 4, hx => cases hx
    | 5, hx => cases hx
    | 6, hx => cases hx
    | 7, hx => cases hx
    | 8, hx => cases hx
    | o + 9, hx => simp at hx
  · obtain ⟨cs, h1, h2, h3⟩ := h.hs
    rw [blk_cell h1 off] at hx
    have ho : off < n := by rw [← h2]; exact (Array.getElem?_eq_some_iff.1 hx).1
    obtain ⟨A, l, q, e⟩ := h0 off ho
    rw [h3 off ho, e] at hx
    cases hx
  · obtain ⟨cs, h1, h2, h3⟩ := h.ht
    rw [blk_cell h1 off] at hx
    have ho : off < n := by rw [← h2]; exact (Array.getElem?_eq_some_iff.1 hx).1
    rw [h3 off ho] at hx
    cases hx
  · obtain ⟨es, cl, h1⟩ := h.hm.block
    simp [World.cell?, h1] at hx
theorem Dc.nobytes (h : Dc w L z n d φ sf c k) : NoBytes w (Mine L) := h.nob fun i hi => by
  obtain ⟨A, c, bs, e, _⟩ := h.hv i hi
  exact ⟨A, _, c, e⟩
theorem NoBytes.mono {S T : Nat → Prop} (h : NoBytes w S) (ht : ∀ b, T b → S b) : NoBytes w T := fun b off x hx e => h b off x hx (ht b e)
/-- Only its own block has turned, or blocks that aren't its. -/
theorem Dc.turn {S : Nat → Prop} (h : Dc w L z n d φ sf c k) (f : Fr S w w') (hS : NoBytes w S) (h1 : ¬ S L.s) (h2 : ¬ S L.t) (h3 : ¬ S L.m) (hp : w'.heap[L.p]? = some (dobj L z n d' φ')) (hf : d'.f = d.f)
    (hφ : (d'.fuse : Int) = max φ' 0) (bφ : -9223372036854775808 ≤ φ' ∧ φ' ≤ 9223372036854775807) : Dc w' L z n d' φ' sf c k :=
  ⟨hp, h.hs.of_block (f.block _ h.hs.lt h1), by rw [hf]; exact h.ht.of_block (f.block _ h.ht.lt h2), h.hm.keep (f.block _ (h.lt (Or.inr (Or.inr (Or.inr rfl)))) h3),
    fun i hi => by rw [hf]; exact (h.hv i hi).fr f hS, fun i hi => by rw [hf]; exact h.hn i hi, fun i v hi hc => by rw [hf]; exact ⟨(h.hc i v hi hc).1, (h.hc i v hi hc).2.fr f hS⟩, hφ, bφ, h.ln, h.lz⟩
/-- None of its blocks has turned. -/
theorem Dc.fr {S : Nat → Prop} (h : Dc w L z n d φ sf c k) (f : Fr S w w') (hS : NoBytes w S) (h1 : ∀ b, Mine L b → ¬ S b) : Dc w' L z n d φ sf c k :=
  h.turn f hS (h1 _ (Or.inr (Or.inl rfl))) (h1 _ (Or.inr (Or.inr (Or.inl rfl)))) (h1 _ (Or.inr (Or.inr (Or.inr rfl)))) (f.at_ h.hp (h1 _ (Or.inl rfl))) rfl h.hφ h.bφ
theorem Dc.below (h : Dc w L z n d φ sf c k) (b : Below w.heap.size w w') : Dc w' L z n d φ sf c k :=
  h.fr (S := fun _ => False) (Fr.of_below b) (fun _ _ _ _ e => e) (fun _ _ e => e)
theorem Dc.cells (h : Dc w L z n d φ sf c k) : w.cell? ⟨L.p, 0, none⟩ = some (.int .i64 (z : Nat)) ∧ w.cell? ⟨L.p, 1, none⟩ = some (.slice (some ⟨L.s, 0, none⟩) n n) ∧ w.cell? ⟨L.p, 2, none⟩ = some (.map (some L.m)) ∧
    w.cell? ⟨L.p, 3, none⟩ = some (.slice (some ⟨L.t, 0, none⟩) n n) ∧ w.cell? ⟨L.p, 4, none⟩ = some (.int .i64 (d.r : Nat)) ∧ w.cell? ⟨L.p, 5, none⟩ = some (.int .i64 (d.w : Nat)) ∧ w.cell? ⟨L.p, 6, none⟩ = some (.int .i64 (d.s : Nat)) ∧
    w.cell? ⟨L.p, 7, none⟩ = some (.bool d.down) ∧ w.cell? ⟨L.p, 8, none⟩ = some (.int .i64 φ) :=
  ⟨blk_cell h.hp 0, blk_cell h.hp 1, blk_cell h.hp 2, blk_cell h.hp 3, blk_cell h.hp 4, blk_cell h.hp 5, blk_cell h.hp 6, blk_cell h.hp 7, blk_cell h.hp 8⟩
theorem Dc.frz (h : Dc w L z n d φ sf c k) (i : Nat) : w.frozen? ⟨L.p, i, none⟩ = false := blk_frz h.hp i
/-- A cell of its own block is written. -/
theorem Dc.put (h : Dc w L z n d φ sf c k) (i : Nat) (v : Value) (ho : (w.setCell ⟨L.p, i, none⟩ v).heap[L.p]? = some (dobj L z n d' φ')) (hf : d'.f = d.f) (hφ : (d'.fuse : Int) = max φ' 0) (bφ : -9223372036854775808 ≤ φ' ∧ φ' ≤ 9223372036854775807) :
    Dc (w.setCell ⟨L.p, i, none⟩ v) L z n d' φ' sf c k :=
  h.turn (S := fun b => b = L.p) ((Fr.refl _ _).put _ _ (Or.inl rfl)) (h.nobytes.mono fun b e => Or.inl e) (fun e => h.ps e.symm) (fun e => h.pt e.symm) (fun e => h.pm e.symm) ho hf hφ bφ
end

/-- A disk, whatever lies in its cells. -/
def Db (w : World) (L : Ly) (z n : Nat) (d : Dm) (k : Nat) : Prop := ∃ φ sf c, Dc w L z n d φ sf c k
section
variable {w w' : World} {L : Ly} {z n k : Nat} {d d' : Dm}
theorem Db.below (h : Db w L z n d k) (b : Below w.heap.size w w') : Db w' L z n d k := by
  obtain ⟨φ, sf, c, h⟩ := h
  exact ⟨φ, sf, c, h.below b⟩
theorem Db.nobytes (h : Db w L z n d k) : NoBytes w (Mine L) := by
  obtain ⟨φ, sf, c, h⟩ := h
  exact h.nobytes
theorem Db.lt (h : Db w L z n d k) {b : Nat} (hb : Mine L b) : b < w.heap.size := by
  obtain ⟨φ, sf, c, h⟩ := h
  exact h.lt hb
theorem Db.mono {k' : Nat} (h : Db w L z n d k) (hk : k ≤ k') : Db w L z n d k' := by
  obtain ⟨φ, sf, c, h⟩ := h
  exact ⟨φ, sf, c, ⟨h.hp, h.hs, h.ht, h.hm.mono hk, h.hv, h.hn, h.hc, h.hφ, h.bφ, h.ln, h.lz⟩⟩
end

/-- A call that answers v, and leaves the disk as d', having turned its own blocks alone. -/
def DO (L : Ly) (z n : Nat) (d' : Dm) (k : Nat) (v : Value) (w : World) (e : Ending) (w' : World) : Prop := e = .returned v ∧ Db w' L z n d' k ∧ Fr (Mine L) w w'

section
variable {w : World} {L : Ly} {z n k : Nat} {d : Dm}
theorem sectors (h : Db w L z n d k) : Calls Try.prog 9 #[.pointer (some ⟨L.p, 0, none⟩)] w fun e w' => e = .returned (.int .i64 (n : Nat)) ∧ w = w' := by
  obtain ⟨φ, sf, c, h⟩ := h
  obtain ⟨c0, c1, _⟩ := h.cells
  clear h
  obtain ⟨p, s, t, m⟩ := L
  go_enter Try.func9, Try.ntmps9
  go_wp2
  go_ret
  exact ⟨by simp [go_sem], rfl⟩
theorem size_ (h : Db w L z n d k) : Calls Try.prog 10 #[.pointer (some ⟨L.p, 0, none⟩)] w fun e w' => e = .returned (.int .i64 (z : Nat)) ∧ w = w' := by
  obtain ⟨φ, sf, c, h⟩ := h
  obtain ⟨c0, c1, _⟩ := h.cells
  clear h
  obtain ⟨p, s, t, m⟩ := L
  go_enter Try.func10, Try.ntmps10
  go_wp2
  go_ret
  exact ⟨by simp [go_sem], rfl⟩
theorem down (h : Db w L z n d k) : Calls Try.prog 15 #[.pointer (some ⟨L.p, 7, none⟩)] w fun e w' => e = .returned (.bool d.down) ∧ w = w' := by
  obtain ⟨φ, sf, c, h⟩ := h
  obtain ⟨_, _, _, _, _, _, _, c7, _⟩ := h.cells
  clear h
  obtain ⟨p, s, t, m⟩ := L
  obtain ⟨f, dn, fu, r, ww, s⟩ := d
  go_enter Try.func15, Try.ntmps15
  go_wp2
  go_ret
  exact ⟨by simp [go_sem], rfl⟩
theorem count (h : Db w L z n d k) : Calls Try.prog 17 #[.pointer (some ⟨L.p, 4, none⟩)] w fun e w' => e = .returned (.agg #[.int .i64 (d.r : Nat), .int .i64 (d.w : Nat), .int .i64 (d.s : Nat)]) ∧ Below w.heap.size w w' := by
  obtain ⟨φ, sf, c, h⟩ := h
  obtain ⟨_, _, _, _, c4, c5, c6, _, _⟩ := h.cells
  have hl := h.lt (Or.inl rfl)
  have t4 : ∀ X, (w.alloc X).cell? ⟨L.p, 4, none⟩ = some (.int .i64 (d.r : Nat)) := fun X => (((Below.refl w.heap.size w).alloc (Nat.le_refl _) X).cell (p := ⟨L.p, 4, none⟩) hl).trans c4
  have t5 : ∀ X, (w.alloc X).cell? ⟨L.p, 5, none⟩ = some (.int .i64 (d.w : Nat)) := fun X => (((Below.refl w.heap.size w).alloc (Nat.le_refl _) X).cell (p := ⟨L.p, 5, none⟩) hl).trans c5
  have t6 : ∀ X, (w.alloc X).cell? ⟨L.p, 6, none⟩ = some (.int .i64 (d.s : Nat)) := fun X => (((Below.refl w.heap.size w).alloc (Nat.le_refl _) X).cell (p := ⟨L.p, 6, none⟩) hl).trans c6
  clear h c4 c5 c6 hl
  obtain ⟨p, s', t, m⟩ := L
  obtain ⟨f, dn, fu, r, ww, s⟩ := d
  go_enter Try.func17, Try.ntmps17
  go_wp2
  exact bodyPost_ret (v := .agg #[.int .i64 (r : Nat), .int .i64 (ww : Nat), .int .i64 (s : Nat)]) (by simp [results, Try.results17, go_sem]) rfl ⟨rfl, (Below.refl w.heap.size w).alloc (Nat.le_refl _) _⟩
/-- The power goes. -/
theorem crash (h : Db w L z n d k) : Calls Try.prog 23 #[.pointer (some ⟨L.p, 7, none⟩)] w (DO L z n { d with down := true, fuse := 0 } k (.tuple #[]) w) := by
  obtain ⟨φ, sf, c, h⟩ := h
  obtain ⟨_, _, _, _, _, _, _, c7, c8⟩ := h.cells
  have z7 := h.frz 7
  have z8 := h.frz 8
  obtain ⟨f, dn, fu, r, ww, s⟩ := d
  have F := Lib.hid (show DO L z n ⟨f, true, 0, r, ww, s⟩ k (.tuple #[]) w (.returned (.tuple #[])) ((w.setCell ⟨L.p, 7, none⟩ (.bool true)).setCell ⟨L.p, 8, none⟩ (.int .i64 0)) from by
    have h1 := h.put (d' := ⟨f, true, fu, r, ww, s⟩) 7 (.bool true) (blk_put h.hp 7 _) rfl h.hφ h.bφ
    have h2 := h1.put (d' := ⟨f, true, 0, r, ww, s⟩) 8 (.int .i64 0) (blk_put h1.hp 8 _) rfl rfl (by omega)
    exact ⟨rfl, ⟨_, _, _, h2⟩, ((Fr.refl _ _).put _ _ (Or.inl (Or.inl rfl))).put _ _ (Or.inl (Or.inl rfl))⟩)
  clear h
  obtain ⟨p, s, t, m⟩ := L
  go_enter Try.func23, Try.ntmps23
  go_wp2
  exact bodyPost_ret (v := .tuple #[]) (by simp [results, Try.results23, go_sem]) rfl F.out
/-- A fuse. -/
theorem fuse (h : Db w L z n d k) (x : Int) (F : Nat) (hx : -9223372036854775808 ≤ x ∧ x ≤ 9223372036854775807) (hF : (F : Int) = max x 0) : Calls Try.prog 18 #[.pointer (some ⟨L.p, 7, none⟩), .int .i64 x] w (DO L z n { d with fuse := F } k (.tuple #[]) w) := by
  obtain ⟨φ, sf, c, h⟩ := h
  obtain ⟨_, _, _, _, _, _, _, c7, c8⟩ := h.cells
  have z8 := h.frz 8
  obtain ⟨f, dn, fu, r, ww, s⟩ := d
  have G := Lib.hid (show DO L z n ⟨f, dn, F, r, ww, s⟩ k (.tuple #[]) w (.returned (.tuple #[])) (w.setCell ⟨L.p, 8, none⟩ (.int .i64 x)) from by
    have h2 := h.put (d' := ⟨f, dn, F, r, ww, s⟩) 8 (.int .i64 x) (blk_put h.hp 8 _) rfl hF hx
    exact ⟨rfl, ⟨_, _, _, h2⟩, (Fr.refl _ _).put _ _ (Or.inl (Or.inl rfl))⟩)
  clear h hx hF
  obtain ⟨p, s, t, m⟩ := L
  go_enter Try.func18, Try.ntmps18
  go_wp2
  exact bodyPost_ret (v := .tuple #[]) (by simp [results, Try.results18, go_sem]) rfl G.out
end
end Dk
end Go.Proofs.Ytfjlhbamldgklaa
