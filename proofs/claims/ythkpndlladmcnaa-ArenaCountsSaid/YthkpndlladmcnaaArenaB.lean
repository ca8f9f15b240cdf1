/- Contracts of package arena: New, Len, Words, Cap, Used, Peak, Free. -/
import Derived.Test.YthkpndlladmcnaaArenaA
set_option linter.unusedVariables false
namespace Go.Proofs.Ythkpndlladmcnaa
open Go.RowKit Go.ChangeMaps
namespace Ar
open Ww

/-- What a buffer's field holds: n words at block g; nothing, once it was given back. -/
def sl (n g : Nat) : Value := if n = 0 then .slice none 0 0 else .slice (some ⟨g, 0, none⟩) n n
theorem sl_ex (n g : Nat) : ∃ A c, sl n g = .slice A n c := by
  unfold sl
  by_cases h : n = 0
  · subst h; exact ⟨none, 0, if_pos rfl⟩
  · exact ⟨_, n, if_neg h⟩
theorem sl_pos {n g : Nat} (h : n ≠ 0) : sl n g = .slice (some ⟨g, 0, none⟩) n n := if_neg h
theorem sl_zero (g : Nat) : sl 0 g = .slice none 0 0 := if_pos rfl

/-- A buffer's block: its number, its words. -/
def bo (i : Nat) (s : Value) : Obj := .cells #[.int .i64 (i : Nat), s] 48
/-- An arena's block. -/
def ao (c u p k m : Nat) : Obj := .cells #[.int .i64 (c : Nat), .int .i64 (u : Nat), .int .i64 (p : Nat), .int .i64 (k : Nat), .map (some m)] 44
/-- An arena at block p, its map at block m: k buffers were taken ever, at the blocks q; they have n words, at the blocks g. -/
structure Ab (w : World) (p m cap peak k : Nat) (q n g : Nat → Nat) : Prop where
  hp : w.heap[p]? = some (ao cap (tot n k) peak k m)
  hm : w.heap[m]? = some (.map (ents q n k) k)
  hq : ∀ i, i < k → w.heap[q i]? = some (bo i (sl (n i) (g i)))
  lp : tot n k ≤ peak
  lc : peak ≤ cap
  l24 : cap ≤ 16777216
/-- The blocks of an arena that its methods write. -/
def Mine (p m k : Nat) (q : Nat → Nat) (b : Nat) : Prop := b = p ∨ b = m ∨ ∃ i, i < k ∧ b = q i
/-- Of what was there, nothing has turned but the blocks of S. -/
structure Fr (S : Nat → Prop) (w w' : World) : Prop where
  os : w'.os = w.os
  tape : w'.tape = w.tape
  output : w'.output = w.output
  size : w.heap.size ≤ w'.heap.size
  block : ∀ b, b < w.heap.size → ¬ S b → w'.heap[b]? = w.heap[b]?
section
variable {S T : Nat → Prop} {w w1 w' : World} {B : Nat}
theorem Fr.refl (S : Nat → Prop) (w : World) : Fr S w w := ⟨rfl, rfl, rfl, Nat.le_refl _, fun _ _ _ => rfl⟩
theorem Fr.trans (h : Fr S w w1) (h1 : Fr T w1 w') (ht : ∀ b, T b → S b ∨ w.heap.size ≤ b) : Fr S w w' :=
  ⟨h1.os.trans h.os, h1.tape.trans h.tape, h1.output.trans h.output, Nat.le_trans h.size h1.size, fun b hb hs => (h1.block b (Nat.lt_of_lt_of_le hb h.size) (fun e => by
    rcases ht b e with e1 | e1
    · exact hs e1
    · omega)).trans (h.block b hb hs)⟩
theorem Fr.step (h : Fr S w w1) (h1 : Fr S w1 w') : Fr S w w' := h.trans h1 fun _ e => Or.inl e
theorem Fr.mono (h : Fr S w w') (ht : ∀ b, S b → T b) : Fr T w w' := ⟨h.os, h.tape, h.output, h.size, fun b hb hs => h.block b hb fun e => hs (ht b e)⟩
theorem Fr.of_below (h : Below w.heap.size w w') : Fr S w w' := ⟨h.os, h.tape, h.output, h.size, fun b hb _ => h.block b hb⟩
theorem Fr.below (h : Fr S w w') (hB : ∀ b, S b → B ≤ b) (hw : B ≤ w.heap.size) : Below B w w' :=
  ⟨h.os, h.tape, h.output, h.size, fun b hb => h.block b (by omega) fun e => by have := hB b e; omega⟩
theorem Fr.grown {row : Option Nat} (h : w.grownBy w' row) (ht : ∀ b, row = some b → S b) : Fr S w w' :=
  ⟨h.os, h.tape, h.output, h.size, fun b hb hs => h.block b hb fun e => hs (ht b e.symm)⟩
theorem Fr.alloc (h : Fr S w w1) (o : Obj) : Fr S w (w1.alloc o) :=
  h.step (Fr.of_below ((Below.refl _ _).alloc (Nat.le_refl _) o))
theorem Fr.drew (h : Fr S w w1) : Fr S w w1.drew := ⟨h.os, h.tape, h.output, h.size, h.block⟩
theorem Fr.drewN (h : Fr S w w1) (j : Nat) : Fr S w (w1.drewN j) := ⟨h.os, h.tape, h.output, h.size, h.block⟩
theorem Fr.put (h : Fr S w w1) (p : Addr) (v : Value) (hp : S p.block ∨ w.heap.size ≤ p.block) : Fr S w (w1.setCell p v) :=
  h.trans (T := fun b => b = p.block) ⟨rfl, rfl, rfl, by simp [World.setCell], fun b _ hb => Below.heap_setCell _ _ _ _ hb⟩ (fun b e => by subst e; exact hp)
theorem Fr.map {es es' : Array MapEntry} {c c' m : Nat} (h : Fr S w w1) (hm : w1.heap[m]? = some (.map es c)) (hp : S m ∨ w.heap.size ≤ m) : Fr S w (setBlock w1 m (.map es' c')) :=
  h.trans (T := fun b => b = m) ⟨rfl, rfl, rfl, by simp [setBlock], fun b _ hb => heap_setBlock_other hm _ hb⟩ (fun b e => by subst e; exact hp)
/-- A block that is not among those that were written. -/
theorem Fr.at_ {b : Nat} {o : Obj} (h : Fr S w w') (hb : w.heap[b]? = some o) (hs : ¬ S b) : w'.heap[b]? = some o :=
  (h.block b (Array.getElem?_eq_some_iff.1 hb).1 hs).trans hb
end
theorem blk_cell {w : World} {b : Nat} {cs : Array Value} {t : TypeId} (h : w.heap[b]? = some (.cells cs t)) (i : Nat) : w.cell? ⟨b, i, none⟩ = cs[i]? := by
  simp [World.cell?, h]
theorem blk_frz {w : World} {b : Nat} {cs : Array Value} {t : TypeId} (h : w.heap[b]? = some (.cells cs t)) (i : Nat) : w.frozen? ⟨b, i, none⟩ = false := by
  simp [World.frozen?, h]
theorem blk_put {w : World} {b : Nat} {cs : Array Value} {t : TypeId} (h : w.heap[b]? = some (.cells cs t)) (i : Nat) (v : Value) : (w.setCell ⟨b, i, none⟩ v).heap[b]? = some (.cells (cs.setIfInBounds i v) t) := by
  simp [World.setCell, Array.getElem?_modify, h]
theorem blk_new (w : World) (o : Obj) : (w.alloc o).heap[w.heap.size]? = some o := heap_alloc_new w o
section
variable {w w' : World} {p m cap peak k : Nat} {q n g : Nat → Nat}
theorem Ab.pm (h : Ab w p m cap peak k q n g) : p ≠ m := by
  intro e
  have h1 := h.hp
  rw [e, h.hm] at h1
  simp [ao] at h1
theorem Ab.mq (h : Ab w p m cap peak k q n g) {i : Nat} (hi : i < k) : q i ≠ m := by
  intro e
  have h1 := h.hq i hi
  rw [e, h.hm] at h1
  simp [bo] at h1
theorem Ab.pq (h : Ab w p m cap peak k q n g) {i : Nat} (hi : i < k) : q i ≠ p := by
  intro e
  have h1 := h.hq i hi
  rw [e, h.hp] at h1
  have h2 := congrArg (fun o => match o with | some (Obj.cells c _ _) => c.size | _ => 0) h1
  simp [bo, ao] at h2
theorem Ab.inj (h : Ab w p m cap peak k q n g) {i j : Nat} (hi : i < k) (hj : j < k) (e : q i = q j) : i = j := by
  have h1 := h.hq i hi
  rw [e, h.hq j hj] at h1
  simp [bo] at h1
  omega
theorem Ab.keep (h : Ab w p m cap peak k q n g) (hb : ∀ b, Mine p m k q b → w'.heap[b]? = w.heap[b]?) : Ab w' p m cap peak k q n g :=
  ⟨(hb _ (Or.inl rfl)).trans h.hp, (hb _ (Or.inr (Or.inl rfl))).trans h.hm, fun i hi => (hb _ (Or.inr (Or.inr ⟨i, hi, rfl⟩))).trans (h.hq i hi), h.lp, h.lc, h.l24⟩
theorem Ab.lt (h : Ab w p m cap peak k q n g) {b : Nat} (hb : Mine p m k q b) : b < w.heap.size := by
  rcases hb with rfl | rfl | ⟨i, hi, rfl⟩
  · exact (Array.getElem?_eq_some_iff.1 h.hp).1
  · exact (Array.getElem?_eq_some_iff.1 h.hm).1
  · exact (Array.getElem?_eq_some_iff.1 (h.hq i hi)).1
theorem Ab.fr {S : Nat → Prop} (h : Ab w p m cap peak k q n g) (hf : Fr S w w') (hs : ∀ b, Mine p m k q b → ¬ S b) : Ab w' p m cap peak k q n g :=
  h.keep fun b hb => hf.block b (h.lt hb) (hs b hb)
theorem Ab.below (h : Ab w p m cap peak k q n g) (hb : Below w.heap.size w w') : Ab w' p m cap peak k q n g := h.keep fun b hm => hb.block b (h.lt hm)
theorem Ab.c0 (h : Ab w p m cap peak k q n g) : w.cell? ⟨p, 0, none⟩ = some (.int .i64 (cap : Nat)) := blk_cell h.hp 0
theorem Ab.c1 (h : Ab w p m cap peak k q n g) : w.cell? ⟨p, 1, none⟩ = some (.int .i64 (tot n k : Nat)) := blk_cell h.hp 1
theorem Ab.c2 (h : Ab w p m cap peak k q n g) : w.cell? ⟨p, 2, none⟩ = some (.int .i64 (peak : Nat)) := blk_cell h.hp 2
theorem Ab.c3 (h : Ab w p m cap peak k q n g) : w.cell? ⟨p, 3, none⟩ = some (.int .i64 (k : Nat)) := blk_cell h.hp 3
theorem Ab.c4 (h : Ab w p m cap peak k q n g) : w.cell? ⟨p, 4, none⟩ = some (.map (some m)) := blk_cell h.hp 4
theorem Ab.z (h : Ab w p m cap peak k q n g) (i : Nat) : w.frozen? ⟨p, i, none⟩ = false := blk_frz h.hp i
theorem Ab.b0 (h : Ab w p m cap peak k q n g) {i : Nat} (hi : i < k) : w.cell? ⟨q i, 0, none⟩ = some (.int .i64 (i : Nat)) := blk_cell (h.hq i hi) 0
theorem Ab.b1 (h : Ab w p m cap peak k q n g) {i : Nat} (hi : i < k) : w.cell? ⟨q i, 1, none⟩ = some (sl (n i) (g i)) := blk_cell (h.hq i hi) 1
theorem Ab.bz (h : Ab w p m cap peak k q n g) {i : Nat} (hi : i < k) (j : Nat) : w.frozen? ⟨q i, j, none⟩ = false := blk_frz (h.hq i hi) j
theorem Ab.drewN (h : Ab w p m cap peak k q n g) (j : Nat) : Ab (w.drewN j) p m cap peak k q n g := ⟨h.hp, h.hm, h.hq, h.lp, h.lc, h.l24⟩
theorem Ab.drew (h : Ab w p m cap peak k q n g) : Ab w.drew p m cap peak k q n g := ⟨h.hp, h.hm, h.hq, h.lp, h.lc, h.l24⟩
theorem Ab.congr {n' : Nat → Nat} (h : Ab w p m cap peak k q n g) (e : ∀ i, i < k → n i = n' i) : Ab w p m cap peak k q n' g :=
  ⟨by rw [← tot_congr k e]; exact h.hp, by rw [← ents_congr (q := q) (q' := q) e (fun _ _ => rfl)]; exact h.hm, fun i hi => by rw [← e i hi]; exact h.hq i hi, by rw [← tot_congr k e]; exact h.lp, h.lc, h.l24⟩
end

section
variable {w : World} {p m cap peak k : Nat} {q n g : Nat → Nat}
theorem len {b i s t : Nat} (h : w.heap[b]? = some (bo i (sl s t))) : Calls Try.prog 9 #[.pointer (some ⟨b, 0, none⟩)] w fun e w' => e = .returned (.int .i64 (s : Nat)) ∧ w = w' := by
  obtain ⟨A, c, e⟩ := sl_ex s t
  rw [e] at h
  have c1 := blk_cell h 1
  simp at c1
  clear h e
  go_enter Try.func9, Try.ntmps9
  go_wp2
  go_ret
  exact ⟨by simp [go_sem], rfl⟩
theorem words {b i s t : Nat} (h : w.heap[b]? = some (bo i (sl s t))) : Calls Try.prog 10 #[.pointer (some ⟨b, 0, none⟩)] w fun e w' => e = .returned (sl s t) ∧ w = w' := by
  obtain ⟨A, c, e⟩ := sl_ex s t
  rw [e] at h ⊢
  have c1 := blk_cell h 1
  simp at c1
  clear h e
  go_enter Try.func10, Try.ntmps10
  go_wp2
  go_ret
  exact ⟨by simp [go_sem], rfl⟩
theorem cap_ (h : Ab w p m cap peak k q n g) : Calls Try.prog 7 #[.pointer (some ⟨p, 0, none⟩)] w fun e w' => e = .returned (.int .i64 (cap : Nat)) ∧ w = w' := by
  have c0 := h.c0
  clear h
  go_enter Try.func7, Try.ntmps7
  go_wp2
  go_ret
  exact ⟨by simp [go_sem], rfl⟩
theorem used (h : Ab w p m cap peak k q n g) : Calls Try.prog 13 #[.pointer (some ⟨p, 0, none⟩)] w fun e w' => e = .returned (.int .i64 (tot n k : Nat)) ∧ w = w' := by
  have c1 := h.c1
  clear h
  go_enter Try.func13, Try.ntmps13
  go_wp2
  go_ret
  exact ⟨by simp [go_sem], rfl⟩
theorem peak_ (h : Ab w p m cap peak k q n g) : Calls Try.prog 14 #[.pointer (some ⟨p, 0, none⟩)] w fun e w' => e = .returned (.int .i64 (peak : Nat)) ∧ w = w' := by
  have c2 := h.c2
  clear h
  go_enter Try.func14, Try.ntmps14
  go_wp2
  go_ret
  exact ⟨by simp [go_sem], rfl⟩
theorem free (f : Nat) (h : Ab w p m cap peak k q n g) (hf : tot n k + f = cap) : Calls Try.prog 15 #[.pointer (some ⟨p, 0, none⟩)] w fun e w' => e = .returned (.int .i64 (f : Nat)) ∧ ∃ j, w' = w.drewN j := by
  have c0 := h.c0
  have c1 := h.c1
  have hc := h.l24
  clear h
  generalize tot n k = u at hf c1
  have e1 : IntKind.i64.wrap ((cap : Int) - (u : Int)) = (f : Int) := by rw [IntKind.wrap_i64]; omega
  clear hf hc
  go_enter Try.func15, Try.ntmps15
  go_wp2
  go_quiet (fail)
  go_wp2
  go_ret
  exact ⟨by simp [go_sem], _, rfl⟩
end

theorem build_arena (c : Int) (m : Nat) (W : World) : (Instr.build 44 #[(0, .int .i64 c), (4, .map (some m))]).run Try.prog W = .ok (.agg #[.int .i64 c, .int .i64 0, .int .i64 0, .int .i64 0, .map (some m)]) W := by kernel_rfl
theorem new_no (c : Int) (h : c < 1 ∨ 16777216 < c) (w : World) : Calls Try.prog 6 #[.int .i64 c] w fun e w' => e = .returned (.pointer none) ∧ w = w' := by
  by_cases h1 : c < 1
  · clear h
    go_enter Try.func6, Try.ntmps6
    go_wp2
    go_ret
    exact ⟨by simp [go_sem], rfl⟩
  · have h2 : 16777216 < c := by omega
    clear h
    go_enter Try.func6, Try.ntmps6
    go_wp2
    go_ret
    exact ⟨by simp [go_sem], rfl⟩
theorem new_ok (c : Nat) (h0 : 1 ≤ c) (h : c ≤ 16777216) (q n g : Nat → Nat) (w : World) : Calls Try.prog 6 #[.int .i64 (c : Nat)] w fun e w' =>
    e = .returned (.pointer (some ⟨w.heap.size + 1, 0, none⟩)) ∧ Ab w' (w.heap.size + 1) w.heap.size c 0 0 q n g ∧ Below w.heap.size w w' := by
  have h1 : ¬ (c : Int) < 1 := by omega
  have h2 : ¬ 16777216 < (c : Int) := by omega
  have hmm := @run_makeMap Try.prog
  have bd := build_arena
  have HC := Lib.hid h
  clear h h0
  go_enter Try.func6, Try.ntmps6
  go_wp2
  go_ret
  refine ⟨by simp [go_sem], ⟨?_, ?_, fun i hi => absurd hi (by omega), Nat.le_refl _, by omega, HC.out⟩, ?_⟩
  · have e : (w.alloc (.map #[] 0)).heap.size = w.heap.size + 1 := by simp
    rw [← e]
    exact blk_new (w.alloc (.map #[] 0)) (ao c 0 0 0 w.heap.size)
  · show ((w.alloc (.map #[] 0)).alloc _).heap[w.heap.size]? = _
    rw [Below.heap_alloc _ _ _ (by simp)]
    exact blk_new w _
  · exact ((Below.refl _ _).alloc (Nat.le_refl _) _).alloc (by simp) _
end Ar
end Go.Proofs.Ythkpndlladmcnaa
