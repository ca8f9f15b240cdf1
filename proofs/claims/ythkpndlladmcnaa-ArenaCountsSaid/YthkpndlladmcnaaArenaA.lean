/- Package arena: the map of what is taken (its block's entries, written out), what an arena is in memory, and how the operations on maps run at it. -/
import Derived.Test.YthkpndlladmcnaaWords
import Derived.Maps.RangeRun
import Derived.Maps.OwnSet
import Derived.StillTailTactics
set_option linter.unusedVariables false
namespace Go.Proofs.Ythkpndlladmcnaa
open Go.RowKit Go.ChangeMaps
namespace Ar
open Ww

/-- The numbers below k of buffers that are taken: those that have a word. -/
def live (n : Nat → Nat) (k : Nat) : List Nat := (List.range k).filter fun i => n i != 0
/-- How many words the first k buffers have together. -/
def tot (n : Nat → Nat) : Nat → Nat
  | 0 => 0
  | k + 1 => tot n k + n k
theorem mem_live {n : Nat → Nat} {k i : Nat} : i ∈ live n k ↔ i < k ∧ n i ≠ 0 := by simp [live]
theorem live_nodup (n : Nat → Nat) (k : Nat) : (live n k).Nodup := List.Nodup.sublist List.filter_sublist List.nodup_range
theorem tot_upd_far (n : Nat → Nat) (i v : Nat) : ∀ k, k ≤ i → tot (upd n i v) k = tot n k
  | 0, _ => rfl
  | k + 1, h => by
    show tot (upd n i v) k + upd n i v k = tot n k + n k
    rw [tot_upd_far n i v k (by omega), upd_other n i v (by omega)]
theorem tot_upd (n : Nat → Nat) (i v : Nat) : ∀ k, i < k → tot (upd n i v) k + n i = tot n k + v
  | 0, h => absurd h (by omega)
  | k + 1, h => by
    show tot (upd n i v) k + upd n i v k + n i = tot n k + n k + v
    by_cases e : i = k
    · subst e
      rw [tot_upd_far n i v i (Nat.le_refl _), upd_same]
      omega
    · have := tot_upd n i v k (by omega)
      rw [upd_other n i v (by omega)]
      omega
theorem le_tot (n : Nat → Nat) : ∀ k i, i < k → n i ≤ tot n k
  | 0, i, h => absurd h (by omega)
  | k + 1, i, h => by
    show n i ≤ tot n k + n k
    by_cases e : i = k
    · subst e; omega
    · have := le_tot n k i (by omega)
      omega
theorem tot_congr {n n' : Nat → Nat} : ∀ k, (∀ i, i < k → n i = n' i) → tot n k = tot n' k
  | 0, _ => rfl
  | k + 1, h => by
    show tot n k + n k = tot n' k + n' k
    rw [tot_congr k (fun i hi => h i (by omega)), h k (by omega)]
theorem tot_zero : ∀ k, tot (fun _ => 0) k = 0
  | 0 => rfl
  | k + 1 => by show tot (fun _ => 0) k + 0 = 0; rw [tot_zero k]
theorem live_congr {n n' : Nat → Nat} {k : Nat} (h : ∀ i, i < k → n i = n' i) : live n k = live n' k := by
  unfold live
  apply List.filter_congr
  intro i hi
  rw [h i (List.mem_range.1 hi)]
theorem live_new (n : Nat → Nat) (k v : Nat) (hv : v ≠ 0) : live (upd n k v) (k + 1) = live n k ++ [k] := by
  unfold live
  rw [List.range_succ, List.filter_append]
  congr 1
  · apply List.filter_congr
    intro i hi
    rw [upd_other n k v (by have := List.mem_range.1 hi; omega)]
  · simp [upd_same, hv]
theorem live_gone (n : Nat → Nat) (k i : Nat) : live (upd n i 0) k = (live n k).filter fun j => j != i := by
  unfold live
  rw [List.filter_filter]
  apply List.filter_congr
  intro j _
  by_cases e : j = i
  · subst e; simp [upd_same]
  · simp [upd_other n i 0 e, e]

/-- The entry of buffer i, which lies at block q i. -/
def ent (q : Nat → Nat) (i : Nat) : MapEntry := { key := .int .i64 (i : Nat), val := .pointer (some ⟨q i, 0, none⟩), born := i }
/-- The map's entries. -/
def ents (q n : Nat → Nat) (k : Nat) : Array MapEntry := ((live n k).map (ent q)).toArray
theorem ents_congr {q q' n n' : Nat → Nat} {k : Nat} (hn : ∀ i, i < k → n i = n' i) (hq : ∀ i, i < k → q i = q' i) : ents q n k = ents q' n' k := by
  unfold ents
  rw [← live_congr hn]
  congr 1
  apply List.map_congr_left
  intro i hi
  unfold ent
  rw [hq i (mem_live.1 hi).1]
theorem ents_new (q n : Nat → Nat) (k Q v : Nat) (hv : v ≠ 0) : ents (upd q k Q) (upd n k v) (k + 1) = (ents q n k).push (ent (upd q k Q) k) := by
  unfold ents
  rw [live_new n k v hv, List.map_append]
  have e : (live n k).map (ent (upd q k Q)) = (live n k).map (ent q) := by
    apply List.map_congr_left
    intro i hi
    unfold ent
    rw [upd_other q k Q (by have := (mem_live.1 hi).1; omega)]
  rw [e]
  simp
theorem ents_gone (q n : Nat → Nat) (k i : Nat) (hi : i ∈ live n k) : ents q (upd n i 0) k = (ents q n k).eraseIdxIfInBounds ((live n k).idxOf i) := by
  apply Array.toList_inj.1
  rw [Array.toList_eraseIdxIfInBounds]
  unfold ents
  rw [live_gone]
  show ((live n k).filter fun j => j != i).map (ent q) = ((live n k).map (ent q)).eraseIdx ((live n k).idxOf i)
  rw [← map_eraseIdx, ← List.erase_eq_eraseIdx_of_idxOf rfl, (live_nodup n k).erase_eq_filter]
theorem find_now (q : Nat → Nat) (x : Nat) : ∀ (L : List Nat) (o : Nat), Instr.findNow (.int .i64) (.int .i64 (x : Nat)) (L.map (ent q)) o = some (if x ∈ L then some (o + L.idxOf x, .pointer (some ⟨q x, 0, none⟩)) else none)
  | [], o => by simp [Instr.findNow]
  | a :: r, o => by
    have e : Instr.sameNow (.int .i64) (.int .i64 (x : Nat)) (ent q a).key = some ((x : Int) == (a : Int)) := by simp [Instr.sameNow, ent]
    simp only [List.map_cons, Instr.findNow, e]
    by_cases h : x = a
    · subst h
      simp [ent]
    · have h1 : ((x : Int) == (a : Int)) = false := by simp; omega
      rw [h1]
      simp only [find_now q x r (o + 1)]
      have h2 : ¬ a = x := fun e => h e.symm
      by_cases h3 : x ∈ r
      · rw [if_pos h3, if_pos (List.mem_cons_of_mem a h3), List.idxOf_cons, show (a == x) = false by simpa using h2]
        simp only [cond_false, Option.some.injEq, Prod.mk.injEq, and_true]
        omega
      · simp [h, h3]

section
variable {w : World} {m i k c : Nat} {q n : Nat → Nat}
theorem find_key (x : Nat) (L : List Nat) (w : World) : (Instr.findKey 3 (.int .i64 (x : Nat)) (L.map (ent q))).run Try.prog w = .ok (if x ∈ L then some (L.idxOf x, .pointer (some ⟨q x, 0, none⟩)) else none) w := by
  simp [Instr.findKey, run_underlying Try.underlying3, find_now, Sem.run_bind, Result.andThen]
theorem check_key (b : Bool) (x : Int) (w : World) : (Instr.checkKey b 10000 3 (.int .i64 x)).run Try.prog w = .ok () w := by
  rw [show (10000 : Nat) = 9999 + 1 from rfl, Instr.checkKey]
  simp only [Sem.run_bind, run_underlying Try.underlying3, Result.andThen]
  rfl
theorem look_in (hm : w.heap[m]? = some (.map (ents q n k) c)) (hi : i < k) (h0 : n i ≠ 0) :
    (Instr.lookup 42 (.map (some m)) (.int .i64 (i : Nat)) false).run Try.prog w = .ok (.pointer (some ⟨q i, 0, none⟩)) w := by
  have h := find_key (q := q) i (live n k) w
  rw [if_pos (mem_live.2 ⟨hi, h0⟩)] at h
  simp [Instr.lookup, run_underlying Try.underlying42, MapKept.run_getObj_map hm, check_key, Sem.run_bind, Result.andThen, ents, h]
theorem zero_ptr (w : World) : (zeroValue 31).run Try.prog w = .ok (.pointer none) w := by kernel_rfl
theorem look_out (hm : w.heap[m]? = some (.map (ents q n k) c)) (h0 : n i = 0) :
    (Instr.lookup 42 (.map (some m)) (.int .i64 (i : Nat)) false).run Try.prog w = .ok (.pointer none) w := by
  have h := find_key (q := q) i (live n k) w
  rw [if_neg (fun e => (mem_live.1 e).2 h0)] at h
  simp [Instr.lookup, run_underlying Try.underlying42, MapKept.run_getObj_map hm, check_key, Sem.run_bind, Result.andThen, ents, h]
theorem lay_in (Q v : Nat) (hv : v ≠ 0) (hm : w.heap[m]? = some (.map (ents q n k) k)) :
    (Instr.mapUpdate 42 (.map (some m)) (.int .i64 (k : Nat)) (.pointer (some ⟨Q, 0, none⟩))).run Try.prog w = .ok () (setBlock w m (.map (ents (upd q k Q) (upd n k v) (k + 1)) (k + 1))) := by
  have h := find_key (q := q) k (live n k) w
  rw [if_neg (fun e => Nat.lt_irrefl _ (mem_live.1 e).1)] at h
  have e : ent (upd q k Q) k = { key := .int .i64 (k : Nat), val := .pointer (some ⟨Q, 0, none⟩), born := k } := by unfold ent; rw [upd_same]
  rw [ents_new q n k Q v hv, e]
  simp [Instr.mapUpdate, run_underlying Try.underlying42, MapKept.run_getObj_map hm, MapKept.run_setObj_map _ hm, check_key, Sem.run_bind, Result.andThen, ents, h, setBlock]
theorem strike (ty : TypeId) (hi : i < k) (h0 : n i ≠ 0) (hm : w.heap[m]? = some (.map (ents q n k) c)) :
    (Builtin.delete_ #[42, 3] ty #[.map (some m), .int .i64 (i : Nat)]).run Try.prog w = .ok (.tuple #[]) (setBlock w m (.map (ents q (upd n i 0) k) c)) := by
  have h := find_key (q := q) i (live n k) w
  rw [if_pos (mem_live.2 ⟨hi, h0⟩)] at h
  rw [ents_gone q n k i (mem_live.2 ⟨hi, h0⟩)]
  simp [Builtin.delete_, run_underlying Try.underlying42, MapKept.run_getObj_map hm, MapKept.run_setObj_map _ hm, check_key, Sem.run_bind, Result.andThen, ents, h, setBlock]
end

end Ar
end Go.Proofs.Ythkpndlladmcnaa
