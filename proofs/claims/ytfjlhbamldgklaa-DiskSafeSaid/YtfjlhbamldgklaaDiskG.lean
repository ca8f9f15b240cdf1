/- Layer 15: the contract of Dirty (the cache's keys, sorted). -/
import Derived.Test.YtfjlhbamldgklaaDiskB
import Derived.Test.YtfjlhbamldgklaaShelf
set_option linter.unusedVariables false
namespace Go.Proofs.Ytfjlhbamldgklaa
open Go.RowKit Go.Maps Go.Sort Go.Shelf
namespace Dk
open Ww

theorem sorts (m : Nat) : AnyZI.SortsIn Try.prog Try.sortedA_ren Fence.wide m :=
  ⟨fun blk off cap ss W hH hblk hsz => callsIn_wide.2 (AnyM.slices_Sort_int Try.sortA blk off cap ss W hH hblk hsz),
   fun p cap W => callsIn_wide.2 (AnyM.slices_Sort_int_none Try.sortA p cap W)⟩
/-- A row of numbers that a call answers. -/
def Nw (l : List Nat) (w : World) (e : Ending) (w' : World) : Prop := ∃ v, e = .returned v ∧ w'.ownsRow w.heap.size 3 1 v l.length (l.map fun i : Nat => .int .i64 (i : Int)) ∧ Below w.heap.size w w'
set_option maxHeartbeats 1000000 in
theorem dirty_at {m n k : Nat} {c : Nat → Option Value} {w : World} {p : Nat} (c2 : w.cell? ⟨p, 2, none⟩ = some (.map (some m))) (h : Mp w m n c k) (hk : k ≤ 1000000) :
    Calls Try.prog 16 #[.pointer (some ⟨p, 0, none⟩)] w (Nw (nl (fun i => (c i).isSome) n) w) := by
  obtain ⟨D0, hown, h2, h3⟩ := h
  have hsz := hown.size_le
  refine (callsIn_wide (n := 6)).1 ?_
  have hbl := hown.lt
  have hseq : SeqGives Fence.wide 2 Try.prog 39 #[.pointer (some ⟨w.heap.size, 0, none⟩)] encZ (fun ss => ss.Perm (intKeys D0)) (Maps.size D0) (w.alloc (.cells #[.map (some m)] 29)) :=
    AnyZI.keys_gives (ρ := Try.keysA_ren) { Try.keysA with } Fence.wide _ trivial rfl (by omega) w.heap.size m k D0 _ (by simp) (by simp) (by
      obtain ⟨es, clock, hb, Ft, hs, hD⟩ := hown
      exact ⟨es, clock, (Below.heap_alloc _ _ m hbl).trans hb, Ft, hs, hD⟩)
  have cK : ∀ mb W, CallsIn Fence.wide 5 Try.prog 31 #[.map mb] W fun e w' => e = .returned (.func (.func 39) #[] #[.pointer (some ⟨W.heap.size, 0, none⟩)]) ∧ w' = W.alloc (.cells #[.map mb] 29) := fun mb W => AnyZI.keys_in Try.keysA Fence.wide 5 trivial rfl mb W
  have cS := AnyZI.sorted_in Try.sortedA Fence.wide 5 trivial trivial trivial trivial rfl (by omega) (sorts _) (enters_of Try.func38 (by kernel_rfl) rfl) 39 #[.pointer (some ⟨w.heap.size, 0, none⟩)] trivial (enters_of Try.func39 (by kernel_rfl) rfl) _ _ (by unfold maxLen; omega) (by omega) _ hseq
  change CallsIn _ _ Try.prog 30 _ _ _ at cS
  have hfK : Fence.wide.fn 31 := trivial
  have hfS : Fence.wide.fn 30 := trivial
  have FI := Lib.hid (fun (v : Value) (ss : List Int) (w' : World) (hS : ss.Perm (intKeys D0)) (hrow : w'.ownsRow (w.alloc (.cells #[.map (some m)] 29)).heap.size 3 1 v ss.length ((ss.mergeSort (fun x y => decide (x ≤ y))).map encZ)) (hb : Below (w.alloc (.cells #[.map (some m)] 29)).heap.size (w.alloc (.cells #[.map (some m)] 29)) w') =>
    (show Nw (nl (fun i => (c i).isSome) n) w (.returned v) w' from by
      have e := keys_nl hown h2 hS
      have el : ss.length = (nl (fun i => (c i).isSome) n).length := by
        have := congrArg List.length e
        rwa [List.length_mergeSort, List.length_map] at this
      rw [e, el, List.map_map] at hrow
      exact ⟨v, rfl, ownsRow_base_a hrow (by simp), ((Below.refl _ w).alloc (Nat.le_refl _) _).trans (hb.mono (by simp))⟩))
  clear h2 h3 hown hseq hbl hsz hk
  refine callsIn_of_wp Try.func16 rfl trivial ?_ rfl
  simp only [Try.ntmps16, List.size_toArray, List.length_cons, List.length_nil, Nat.reduceAdd, Nat.reduceSub, Array.replicate_succ, Array.replicate_zero, List.push_toArray, List.append_toArray, List.nil_append, List.cons_append]
  gi_wp2_with (first
    | (gi_at_call 31; refine (cK _ _).mono ?_; rintro e w' ⟨rfl, rfl⟩)
    | (gi_at_call 30; refine cS.mono ?_; rintro e w' ⟨v, ss, rfl, hS, hrow, hnil, hb⟩))
  go_ret
  exact FI.out v ss _ hS hrow hb
end Dk
end Go.Proofs.Ytfjlhbamldgklaa
