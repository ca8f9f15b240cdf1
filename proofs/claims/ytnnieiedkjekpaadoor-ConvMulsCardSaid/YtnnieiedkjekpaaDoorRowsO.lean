/- An argument of type [][]uint64; a part of a slice of rows. -/
import Derived.Test.YtnnieiedkjekpaaDoorJoinA
import Derived.Test.YtnnieiedkjekpaaDoorKernG
import Derived.Deep.Strs
set_option linter.unusedVariables false
namespace Go.Proofs.YtnnieiedkjekpaaDoor
open Go.RowKit
namespace Pt
open Ww Pl

/-- The argument: rows of words. -/
theorem open_rows {H : Type} {enc : TypeId × Value → H} {fuel : Nat} {A : Option Addr} {n cap : Nat} {y : DataW H × List MemPlace} {W : World} (hf : DataW.trod enc Tryd.prog W 0 (fun _ => true) true fuel 31 [.slice A n cap] = some y) :
    ∃ ls : List (List Nat), ls.length = n ∧ n ≤ 9223372036854775807 ∧ Jn.Rj W W.heap.size A ls := by
  rcases Deep.open_slice1 Tryd.underlying31 (by kernel_rfl) hf with ⟨hcs, _⟩ | ⟨a, len, cap', m, k, V, D, Pl, hcs, _, hl, hm, hmm, _, hall⟩
  · obtain ⟨rfl, rfl, rfl⟩ : A = none ∧ n = 0 ∧ cap = 0 := by simpa using hcs
    exact ⟨[], rfl, by decide, Jn.Rj.nil_ _ _ _⟩
  · obtain ⟨rfl, rfl, rfl⟩ : A = some a ∧ n = len ∧ cap = cap' := by simpa using hcs
    have hm' : cap ≤ 9223372036854775807 := by unfold maxLen at hm; exact hm
    by_cases hl0 : n = 0
    · subst hl0
      exact ⟨[], rfl, by decide, Jn.Rj.nil_ _ _ _⟩
    have hlm : n ≤ m := by rw [hmm]; split <;> omega
    have c := (hall 0 (by omega)).1
    obtain ⟨b, off, spot⟩ := a
    have hsp : spot = none := by
      cases spot with
      | none => rfl
      | some s => exfalso; simp [World.cell?, Addr.add] at c; split at c <;> simp at c
    subst hsp
    have hB : b < W.heap.size := by rw [add_none] at c; exact World.block_lt_of_cell? W _ c
    have each : ∀ i, i < n → ∃ (xs : List Nat) (Ai : Option Addr) (ci : Nat), W.cell? ⟨b, off + i, none⟩ = some (.slice Ai xs.length ci) ∧ Ws W W.heap.size Ai xs ∧ (Ai = none → ci = 0) := by
      intro i hi
      obtain ⟨c0, t0⟩ := hall i (by omega)
      have hv : ∃ Ai ni ci, V i = .slice Ai ni ci := by
        rcases Deep.open_slice1 Tryd.underlying22 cellsU t0 with ⟨h, _⟩ | ⟨a, len, cap', m, k, V', D', Pl', h, _⟩
        · exact ⟨none, 0, 0, by simpa using h⟩
        · exact ⟨_, _, _, by simpa using h⟩
      obtain ⟨Ai, ni, ci, e⟩ := hv
      rw [e] at t0 c0
      obtain ⟨xs, rfl, _, _, R⟩ := open_words t0
      rw [add_none] at c0
      exact ⟨xs, Ai, ci, c0, R, Kn.nil_cap t0⟩
    have build : ∀ j, j ≤ n → ∃ ls : List (List Nat), ls.length = j ∧ ∀ i, i < j → ∃ (Ai : Option Addr) (ci : Nat), W.cell? ⟨b, off + i, none⟩ = some (.slice Ai (ls.getD i []).length ci) ∧ Ws W W.heap.size Ai (ls.getD i []) ∧ (Ai = none → ci = 0) := by
      intro j
      induction j with
      | zero => intro _; exact ⟨[], rfl, fun i hi => by omega⟩
      | succ j ih =>
        intro h
        obtain ⟨ls, hl, hls⟩ := ih (by omega)
        obtain ⟨xs, Ai, ci, h1, h2, h3⟩ := each j (by omega)
        refine ⟨ls ++ [xs], by simp [hl], fun i hi => ?_⟩
        by_cases hij : i < j
        · have e : (ls ++ [xs]).getD i [] = ls.getD i [] := by simp [List.getD, List.getElem?_append_left (show i < ls.length by omega)]
          rw [e]; exact hls i hij
        · obtain rfl : i = j := by omega
          have e : (ls ++ [xs]).getD i [] = xs := by simp [List.getD, ← hl]
          rw [e]; exact ⟨Ai, ci, h1, h2, h3⟩
    obtain ⟨ls, hll, hls⟩ := build n (Nat.le_refl _)
    refine ⟨ls, hll, by omega, ⟨fun i hi => ?_⟩⟩
    obtain ⟨Ai, ci, h1, h2, h3⟩ := hls i (by omega)
    exact ⟨b, off, Ai, ci, rfl, hB, h1, h2, h3⟩
theorem tot_rows (ls : List (List Nat)) (h : ∀ i, i < ls.length → (ls.getD i []).length ≤ 100) : ∀ i, i ≤ ls.length → Jn.tot ls i ≤ 100 * i := by
  intro i
  induction i with
  | zero => intro _; simp [Jn.tot]
  | succ i ih =>
    intro hi
    have := ih (by omega)
    have := h i (by omega)
    rw [Jn.tot_succ ls i (by omega)]
    omega
/-- .. its capacity. -/
theorem rows_cap {H : Type} {enc : TypeId × Value → H} {fuel : Nat} {A : Option Addr} {n cap : Nat} {y : DataW H × List MemPlace} {W : World} (hf : DataW.trod enc Tryd.prog W 0 (fun _ => true) true fuel 31 [.slice A n cap] = some y) : n ≤ cap := by
  rcases Deep.open_slice1 Tryd.underlying31 (by kernel_rfl) hf with ⟨hcs, _⟩ | ⟨a, len, cap', m, k, V, D, Pl, hcs, _, hl, hm, hmm, _, hall⟩
  · obtain ⟨rfl, rfl, rfl⟩ : A = none ∧ n = 0 ∧ cap = 0 := by simpa using hcs
    exact Nat.le_refl _
  · obtain ⟨rfl, rfl, rfl⟩ : A = some a ∧ n = len ∧ cap = cap' := by simpa using hcs
    exact hl
theorem sizeR (W : World) : (Go.sizeOf 22).run Tryd.prog W = .ok 1 W := by
  simp [Go.sizeOf]
  rfl
/-- l[j:], l[:h] of rows. -/
theorem rows_from (W : World) (b off len cap j n : Nat) (hj : j < len) (hn : j + n = len) (hc : len ≤ cap) : (Instr.slice 31 (.slice (some ⟨b, off, none⟩) len cap) (some (.int .i64 (j : Int))) none none).run Tryd.prog W = .ok (.slice (some ⟨b, off + j, none⟩) n (cap - j)) W := by
  have ht := Tryd.underlying31
  have ht' : Tryd.prog.underlying 31 = some (.slice (Tryd.prog.elem 31)) := by simp [Program.elem, ht]
  have he : Tryd.prog.elem 31 = 22 := by simp [Program.elem, ht]
  rw [run_slice_l W 31 _ _ _ ht' .i64 _ (by omega) (by omega), he, sizeR]
  have h1 : ¬ cap = j := by omega
  have h2 : len - j = n := by omega
  simp [Result.andThen, sliced, h1, h2, add_none]
theorem rows_upto (W : World) (b off len cap h : Nat) (hh : h ≤ cap) : (Instr.slice 31 (.slice (some ⟨b, off, none⟩) len cap) none (some (.int .i64 (h : Int))) none).run Tryd.prog W = .ok (.slice (some ⟨b, off, none⟩) h cap) W := by
  have ht := Tryd.underlying31
  have ht' : Tryd.prog.underlying 31 = some (.slice (Tryd.prog.elem 31)) := by simp [Program.elem, ht]
  have he : Tryd.prog.elem 31 = 22 := by simp [Program.elem, ht]
  rw [run_slice_h W 31 _ _ _ ht' .i64 _ (by omega) (by omega), he, sizeR]
  simp [Result.andThen, sliced, Addr.add]
theorem rj_take {w : World} {B : Nat} {A : Option Addr} {ls : List (List Nat)} (R : Jn.Rj w B A ls) (j : Nat) : Jn.Rj w B A (ls.take j) :=
  ⟨fun i hi => by
    have hl : i < j ∧ i < ls.length := by rw [List.length_take] at hi; omega
    have e : (ls.take j).getD i [] = ls.getD i [] := by simp [List.getD, hl.1]
    rw [e]
    exact R.at_ i hl.2⟩
theorem rj_drop {w : World} {B b off : Nat} {ls : List (List Nat)} (R : Jn.Rj w B (some ⟨b, off, none⟩) ls) (j : Nat) : Jn.Rj w B (some ⟨b, off + j, none⟩) (ls.drop j) :=
  ⟨fun i hi => by
    have hl : j + i < ls.length := by rw [List.length_drop] at hi; omega
    have e : (ls.drop j).getD i [] = ls.getD (j + i) [] := by simp [List.getD]
    rw [e]
    obtain ⟨b2, o2, Ai, ci, ea, hB, c, R2, z⟩ := R.at_ (j + i) hl
    injection ea with ea
    injection ea with e1 e2
    subst e1 e2
    exact ⟨b, off + j, Ai, ci, rfl, hB, by rw [Nat.add_assoc]; exact c, R2, z⟩⟩
end Pt
end Go.Proofs.YtnnieiedkjekpaaDoor
