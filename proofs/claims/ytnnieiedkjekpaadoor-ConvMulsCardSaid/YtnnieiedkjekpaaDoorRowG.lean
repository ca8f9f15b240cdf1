/- Rows that calls answer, blocks that are written while all others stay, s[i:], s[:h]: what layers of rows share. -/
import Derived.Test.YtnnieiedkjekpaaDoorPlain
import Derived.Test.YtnnieiedkjekpaaDoorOwnA
import Derived.Lib.QuietBelow
import Derived.Lib.Walk
set_option linter.unusedVariables false
namespace Go.Proofs.YtnnieiedkjekpaaDoor
open Go.RowKit Go.Lib Go.Sort
namespace Pl
open Ww Pn Nt

/-- A row that a call answers. -/
def Row (zs : List Nat) (w : World) (e : Ending) (w' : World) : Prop := ∃ A cap, e = .returned (.slice A zs.length cap) ∧ Ws w' w'.heap.size A zs ∧ Below w.heap.size w w'
/-- The first n words of a rule. -/
def rg (g : Nat → Nat) (n : Nat) : List Nat := (List.range n).map g
theorem rg_len (g : Nat → Nat) (n : Nat) : (rg g n).length = n := by simp [rg]
theorem rg_succ (g : Nat → Nat) (n : Nat) : rg g n ++ [g n] = rg g (n + 1) := by simp [rg, List.range_succ]
theorem rg_at (g : Nat → Nat) (n i : Nat) (h : i < n) : (rg g n).getD i 0 = g i := by simp [rg, List.getD, h]
theorem pl_rg (g : Nat → Nat) (n i : Nat) (h : i < n) : pl (rg g n) i = g i := rg_at g n i h
theorem rg_congr {g h : Nat → Nat} (n : Nat) (e : ∀ i, i < n → g i = h i) : rg g n = rg h n := List.map_congr_left fun i hi => e i (by simpa using hi)
theorem mod64 (a : Nat) : a % 18446744069414584321 < 18446744073709551616 := Nat.lt_trans (Nat.mod_lt _ (by decide)) (by decide)
theorem pl64 {w : World} {B : Nat} {A : Option Addr} {xs : List Nat} (R : Ws w B A xs) (i : Nat) : pl xs i < 18446744073709551616 := by
  by_cases h : i < xs.length
  · exact R.lt i h
  · rw [pl_far xs i (by omega)]; decide
theorem Row.more {zs : List Nat} {w w1 w' : World} {e : Ending} (h : Row zs w1 e w') (hb : Below w.heap.size w w1) : Row zs w e w' := by
  obtain ⟨A, cap, h1, h2, h3⟩ := h
  exact ⟨A, cap, h1, h2, hb.trans (h3.mono hb.size)⟩
theorem Row.of_out {zs : List Nat} {w w' : World} {e : Ending} (hx : ∀ i, i < zs.length → zs.getD i 0 < 18446744073709551616) (h : Out zs w e w') : Row zs w e w' := by
  obtain ⟨v, rfl, O, hb⟩ := h
  obtain ⟨A, cap, rfl, R⟩ := O.ws hx
  exact ⟨A, cap, rfl, R, hb⟩
theorem below_alloc (w : World) (o : Obj) : Below w.heap.size w (w.alloc o) := (Below.refl _ _).alloc (Nat.le_refl _) _
/-- A block of one's own of n words, of which those at D are g's. -/
structure Bd (g : Nat → Nat) (n b : Nat) (w wr : World) (D : Nat → Prop) : Prop where
  k : ∃ f, Wk wr b 0 n f ∧ ∀ j, D j → j < n → f j = g j
  s : b < wr.heap.size
  hb : w.heap.size ≤ b
  bel : Below w.heap.size w wr
section
variable {g : Nat → Nat} {n b : Nat} {w wr w1 : World} {D : Nat → Prop}
theorem Bd.start (g : Nat → Nat) (n : Nat) (hw : Below w.heap.size w w1) (e : TypeId) (hD : ∀ j, D j → ¬ j < n) : Bd g n w1.heap.size w (w1.alloc (.cells (madeCells #[.int .u64 0] n) e)) D :=
  ⟨⟨_, Wk.made w1 n e, fun j hj h => absurd h (hD j hj)⟩, by simp, hw.size, hw.alloc hw.size _⟩
theorem Bd.call (h : Bd g n b w wr D) (hc : Below wr.heap.size wr w1) : Bd g n b w w1 D := by
  obtain ⟨f, K, hf⟩ := h.k
  exact ⟨⟨f, K.step hc, hf⟩, Nat.lt_of_lt_of_le h.s hc.size, h.hb, h.bel.trans (hc.mono h.bel.size)⟩
theorem Bd.put (h : Bd g n b w wr D) (i : Nat) (hi : i < n) {D' : Nat → Prop} (hD : ∀ j, D' j → D j ∨ j = i) : Bd g n b w (wr.setCell ⟨b, i, none⟩ (.int .u64 (g i : Nat))) D' := by
  obtain ⟨f, K, hf⟩ := h.k
  have K1 := K.put i (g i) hi
  rw [Nat.zero_add] at K1
  refine ⟨⟨_, K1, fun j hj hn => ?_⟩, by simp [World.setCell]; exact h.s, h.hb, h.bel.setCell h.hb _⟩
  by_cases e : j = i
  · subst e; rw [upd_same]
  · rw [upd_other _ _ _ e]; exact hf j ((hD j hj).resolve_right e) hn
theorem Bd.at_ (h : Bd g n b w wr D) (i : Nat) (hi : i < n) : (∃ v : Nat, wr.cell? ⟨b, i, none⟩ = some (.int .u64 (v : Nat))) ∧ wr.frozen? ⟨b, i, none⟩ = false := by
  obtain ⟨f, K, hf⟩ := h.k
  have c := K.c i hi
  have z := K.z i hi
  rw [Nat.zero_add] at c z
  exact ⟨⟨_, c⟩, z⟩
theorem Bd.wk (h : Bd g n b w wr D) (hD : ∀ j, j < n → D j) : Wk wr b 0 n g := by
  obtain ⟨f, K, hf⟩ := h.k
  exact ⟨fun i hi => by rw [K.c i hi, hf i (hD i hi) hi], K.z⟩
theorem Bd.ws (h : Bd g n b w wr D) (hD : ∀ j, j < n → D j) (hg : ∀ i, g i < 18446744073709551616) : Ws wr wr.heap.size (some ⟨b, 0, none⟩) (rg g n) := (h.wk hD).ws (fun i _ => hg i) h.s
end
/-- All blocks but b are as they were. -/
structure But (b : Nat) (w w' : World) : Prop where
  bel : Below b w w'
  cell : ∀ p : Addr, p.block ≠ b → p.block < w.heap.size → w'.cell? p = w.cell? p
  frz : ∀ p : Addr, p.block ≠ b → p.block < w.heap.size → w'.frozen? p = w.frozen? p
section
variable {b : Nat} {w w1 w2 : World}
theorem But.refl (b : Nat) (w : World) : But b w w := ⟨Below.refl _ _, fun _ _ _ => rfl, fun _ _ _ => rfl⟩
theorem But.call (h : But b w w1) (hb : b < w.heap.size) (hc : Below w1.heap.size w1 w2) : But b w w2 :=
  have hs := h.bel.size
  ⟨h.bel.trans (hc.mono (by omega)), fun p h1 h2 => (hc.cell (p := p) (by omega)).trans (h.cell p h1 h2), fun p h1 h2 => (hc.frozen (p := p) (by omega)).trans (h.frz p h1 h2)⟩
theorem But.drew (h : But b w w1) : But b w w1.drew := ⟨h.bel.drew, h.cell, h.frz⟩
theorem But.put (h : But b w w1) (i : Nat) (v : Value) : But b w (w1.setCell ⟨b, i, none⟩ v) :=
  ⟨h.bel.setCell (Nat.le_refl b) v, fun p h1 h2 => by rw [World.cell?_setCell_other w1 _ p v (fun e => h1 (by subst e; rfl))]; exact h.cell p h1 h2, fun p h1 h2 => by rw [World.frozen?_setCell]; exact h.frz p h1 h2⟩
theorem But.wk (h : But b w w1) {b' off n : Nat} {f : Nat → Nat} (hne : b' ≠ b) (hb : b' < w.heap.size) (K : Wk w b' off n f) : Wk w1 b' off n f :=
  ⟨fun i hi => (h.cell ⟨b', off + i, none⟩ hne hb).trans (K.c i hi), fun i hi => (h.frz ⟨b', off + i, none⟩ hne hb).trans (K.z i hi)⟩
end
/-- A block that is being written, all others as they were. -/
structure Ta (b L : Nat) (f : Nat → Nat) (w wr : World) : Prop where
  k : Wk wr b 0 L f
  o : But b w wr
section
variable {f g : Nat → Nat} {L b : Nat} {w wr w1 : World}
theorem Ta.congr (h : Ta b L f w wr) (e : ∀ j, j < L → f j = g j) : Ta b L g w wr := ⟨⟨fun i hi => by rw [h.k.c i hi, e i hi], h.k.z⟩, h.o⟩
theorem Ta.call (h : Ta b L f w wr) (hb : b < w.heap.size) (hc : Below wr.heap.size wr w1) : Ta b L f w w1 := ⟨h.k.step hc, h.o.call hb hc⟩
theorem Ta.drew (h : Ta b L f w wr) : Ta b L f w wr.drew := ⟨h.k.drew, h.o.drew⟩
theorem Ta.put (h : Ta b L f w wr) (i v : Nat) (hi : i < L) : Ta b L (upd f i v) w (wr.setCell ⟨b, i, none⟩ (.int .u64 (v : Nat))) := by
  have K1 := h.k.put i v hi
  rw [Nat.zero_add] at K1
  exact ⟨K1, h.o.put i _⟩
theorem Ta.at_ (h : Ta b L f w wr) (i : Nat) (hi : i < L) : wr.cell? ⟨b, i, none⟩ = some (.int .u64 (f i : Nat)) ∧ wr.frozen? ⟨b, i, none⟩ = false := by
  have c := h.k.c i hi
  have z := h.k.z i hi
  rw [Nat.zero_add] at c z
  exact ⟨c, z⟩
end
theorem sizeU (W : World) : (Go.sizeOf 32).run Tryd.prog W = .ok 1 W := by
  simp [Go.sizeOf]
  rfl
/-- s[j:], s[:h]. -/
theorem slice_from (W : World) (b L j n : Nat) (hj : j < L) (hn : j + n = L) : (Instr.slice 22 (.slice (some ⟨b, 0, none⟩) L L) (some (.int .i64 (j : Int))) none none).run Tryd.prog W = .ok (.slice (some ⟨b, j, none⟩) n n) W := by
  have ht := Tryd.underlying22
  have ht' : Tryd.prog.underlying 22 = some (.slice (Tryd.prog.elem 22)) := by simp [Program.elem, ht]
  have he : Tryd.prog.elem 22 = 32 := by simp [Program.elem, ht]
  rw [run_slice_l W 22 _ _ _ ht' .i64 _ (by omega) (by omega), he, sizeU]
  have h0 : ¬ L = j := by omega
  have h2 : L - j = n := by omega
  by_cases h1 : j = 0
  · subst h1; simp at h2; simp [Result.andThen, sliced, Addr.add, h2]
  · simp [Result.andThen, sliced, Addr.add, h0, h1, h2]
theorem slice_upto (W : World) (b off len cap h : Nat) (hh : h ≤ cap) : (Instr.slice 22 (.slice (some ⟨b, off, none⟩) len cap) none (some (.int .i64 (h : Int))) none).run Tryd.prog W = .ok (.slice (some ⟨b, off, none⟩) h cap) W := by
  have ht := Tryd.underlying22
  have ht' : Tryd.prog.underlying 22 = some (.slice (Tryd.prog.elem 22)) := by simp [Program.elem, ht]
  have he : Tryd.prog.elem 22 = 32 := by simp [Program.elem, ht]
  rw [run_slice_h W 22 _ _ _ ht' .i64 _ (by omega) (by omega), he, sizeU]
  simp [Result.andThen, sliced, Addr.add]
theorem ws_take {w : World} {B : Nat} {A : Option Addr} {xs : List Nat} (R : Ws w B A xs) (n : Nat) : Ws w B A (xs.take n) := by
  have hl : (xs.take n).length ≤ n ∧ (xs.take n).length ≤ xs.length := by rw [List.length_take]; omega
  have e : ∀ i, i < (xs.take n).length → (xs.take n).getD i 0 = xs.getD i 0 := fun i hi => pl_take xs n i (by omega)
  exact ⟨fun i hi => by rw [e i hi]; exact R.at_ i (by omega), fun i hi => by rw [e i hi]; exact R.lt i (by omega)⟩
/-- A row of one word that was laid just now. -/
theorem ws_one (w : World) (a : Nat) (ha : a < 18446744073709551616) (t : TypeId) : Ws (w.alloc (.cells #[.int .u64 (a : Nat)] t)) (w.alloc (.cells #[.int .u64 (a : Nat)] t)).heap.size (some ⟨w.heap.size, 0, none⟩) [a] :=
  ⟨fun i hi => ⟨w.heap.size, 0, rfl, by simp, by obtain rfl : i = 0 := by simp at hi; omega
                                                 simp [go_sem]⟩, fun i hi => by obtain rfl : i = 0 := by simp at hi; omega
                                                                                exact ha⟩
/-- A row of two words that was laid just now. -/
theorem ws_two (w : World) (a b : Nat) (ha : a < 18446744073709551616) (hb : b < 18446744073709551616) (t : TypeId) : Ws (w.alloc (.cells #[.int .u64 (a : Nat), .int .u64 (b : Nat)] t)) (w.alloc (.cells #[.int .u64 (a : Nat), .int .u64 (b : Nat)] t)).heap.size (some ⟨w.heap.size, 0, none⟩) [a, b] := by
  refine ⟨fun i hi => ⟨w.heap.size, 0, rfl, by simp, ?_⟩, fun i hi => ?_⟩
  · rcases i with _ | _ | i
    · simp [go_sem]
    · simp [go_sem]
    · exact absurd hi (by simp)
  · rcases i with _ | _ | i
    · exact ha
    · exact hb
    · exact absurd hi (by simp)
theorem Bd.drew {g : Nat → Nat} {n b : Nat} {w wr : World} {D : Nat → Prop} (h : Bd g n b w wr D) : Bd g n b w wr.drew D := by
  obtain ⟨f, K, hf⟩ := h.k
  exact ⟨⟨f, K.drew, hf⟩, h.s, h.hb, h.bel.drew⟩
theorem Bd.drewN {g : Nat → Nat} {n b : Nat} {w wr : World} {D : Nat → Prop} (h : Bd g n b w wr D) (k : Nat) : Bd g n b w (wr.drewN k) D := by
  obtain ⟨f, K, hf⟩ := h.k
  exact ⟨⟨f, K.drewN k, hf⟩, h.s, h.hb, Ww.below_drewN h.bel k⟩
theorem Bd.less {g : Nat → Nat} {n b : Nat} {w wr : World} {D D' : Nat → Prop} (h : Bd g n b w wr D) (hD : ∀ j, D' j → D j) : Bd g n b w wr D' := by
  obtain ⟨f, K, hf⟩ := h.k
  exact ⟨⟨f, K, fun j hj hn => hf j (hD j hj) hn⟩, h.s, h.hb, h.bel⟩
/-- s[l:h] of words. -/
theorem slice_both (W : World) (b off len cap l h n : Nat) (hn : l + n = h) (h0 : 0 < n) (hh : h ≤ cap) : (Instr.slice 22 (.slice (some ⟨b, off, none⟩) len cap) (some (.int .i64 (l : Int))) (some (.int .i64 (h : Int))) none).run Tryd.prog W = .ok (.slice (some ⟨b, off + l, none⟩) n (cap - l)) W := by
  have ht := Tryd.underlying22
  have ht' : Tryd.prog.underlying 22 = some (.slice (Tryd.prog.elem 22)) := by simp [Program.elem, ht]
  have he : Tryd.prog.elem 22 = 32 := by simp [Program.elem, ht]
  rw [run_slice_lh W 22 _ _ _ ht' .i64 .i64 _ _ (by omega) (by omega) (by omega), he, sizeU]
  have h1 : ¬ cap = l := by omega
  have h2 : h - l = n := by omega
  simp [Result.andThen, sliced, h1, h2, add_none]
theorem ws_sub {w : World} {B ab ao : Nat} {xs : List Nat} (R : Ws w B (some ⟨ab, ao, none⟩) xs) (l n : Nat) (h : l + n ≤ xs.length) : Ws w B (some ⟨ab, ao + l, none⟩) (rg (fun i => pl xs (l + i)) n) := by
  refine ⟨fun i hi => ?_, fun i hi => ?_⟩
  · rw [rg_len] at hi
    rw [rg_at _ _ _ hi]
    obtain ⟨b, off, e, hB, c⟩ := R.at_ (l + i) (by omega)
    injection e with e
    injection e with e1 e2
    subst e1 e2
    exact ⟨ab, ao + l, rfl, hB, by rw [Nat.add_assoc]; exact c⟩
  · rw [rg_len] at hi
    rw [rg_at _ _ _ hi]
    exact R.lt (l + i) (by omega)
end Pl
end Go.Proofs.YtnnieiedkjekpaaDoor
