/- The library's Chunk at rows of words: what its iterator gives, for every loop body that keeps its two boxes. -/
import Derived.RangeFuncBox
import Derived.RangeFuncNested
import Derived.RangeFuncBound
import Derived.RangeFuncCalls
import Derived.RangeFuncLeaves
import Derived.Shelf.Abstract
import Derived.Shelf.RegionOpen
import Derived.WalkKit
import Derived.OwnWalkIn
import Derived.TacticsInMore
import Derived.LoopNIn
import Derived.LoopIn
import Derived.Maps.AppendAt
import Derived.Test.YtfjoacopnkceoaaDoorQuartA
set_option linter.unusedVariables false
namespace Go.Proofs.YtfjoacopnkceoaaDoor
open Go.RowKit Go.Shelf
namespace Pt
open Ww Pl
attribute [local go_sem] Oper.semAt_some

theorem slice_three (W : World) (b off len cap l h n : Nat) (hn : l + n = h) (h0 : 0 < n) (hh : h ≤ cap) : (Instr.slice 22 (.slice (some ⟨b, off, none⟩) len cap) (some (.int .i64 (l : Int))) (some (.int .i64 (h : Int))) (some (.int .i64 (h : Int)))).run Tryd.prog W = .ok (.slice (some ⟨b, off + l, none⟩) n n) W := by
  have ht := Tryd.underlying22
  have ht' : Tryd.prog.underlying 22 = some (.slice (Tryd.prog.elem 22)) := by simp [Program.elem, ht]
  have he : Tryd.prog.elem 22 = 51 := by simp [Program.elem, ht]
  rw [run_slice_lhm W 22 _ _ _ ht' .i64 .i64 .i64 _ _ _ (by omega) (by omega) (by omega) (by omega), he, sizeU]
  have h1 : ¬ h = l := by omega
  have h2 : h - l = n := by omega
  simp [Result.andThen, sliced, Addr.add, h1, h2]
/-- What a round keeps: the two boxes. -/
def Kp (Bs Bn : Nat) (W W' : World) : Prop := W'.cell? ⟨Bs, 0, none⟩ = W.cell? ⟨Bs, 0, none⟩ ∧ W'.cell? ⟨Bn, 0, none⟩ = W.cell? ⟨Bn, 0, none⟩
theorem kp_t {Bs Bn : Nat} {A B C : World} (h : Kp Bs Bn A B) (k : Kp Bs Bn B C) : Kp Bs Bn A C := ⟨k.1.trans h.1, k.2.trans h.2⟩
theorem kp_b {Bs Bn : Nat} {w : World} (hs : Bs < w.heap.size) (hn : Bn < w.heap.size) (W : World) (l : Nat) (o o' : Obj) (hl : w.heap.size ≤ l) (h : W.heap[l]? = some o) (_ : o.isCells = false) (_ : o.isWalk = false) : Kp Bs Bn W (W.putObj l o') :=
  ⟨World.cell?_of_block (World.putObj_heap_other (fun e => by subst e; simp at hl; omega)), World.cell?_of_block (World.putObj_heap_other (fun e => by subst e; simp at hl; omega))⟩
theorem grown_drewN (W : World) (k : Nat) : W.grownBy (W.drewN k) none := ⟨rfl, rfl, rfl, Nat.le_refl _, fun _ _ _ => rfl⟩
theorem grown_drew (W : World) : W.grownBy W.drew none := ⟨rfl, rfl, rfl, Nat.le_refl _, fun _ _ _ => rfl⟩

set_option maxRecDepth 100000 in
set_option maxHeartbeats 2000000 in
theorem chunk_in (l Bs Bn b off cap L m q : Nat) (A : Option Addr) (hA : 0 < q → A = some ⟨b, off, none⟩) (hm : 0 < m) (hL : L = q * m) (hl : L ≤ 1048576) (hcap : L ≤ cap) (J Jx : List (Fin q) → World → Prop)
    (hY : ∀ pre x W, J pre W → pre.length < q → YieldAt Fence.wide 8 Tryd.prog l #[.slice (some ⟨b, off + x.1 * m, none⟩) m m] W fun e W' =>
      (e = .returned (.bool true) ∧ J (pre ++ [x]) W' ∧ Kp Bs Bn W W') ∨ (e = .returned (.bool false) ∧ Jx (pre ++ [x]) W'))
    (hD : ∀ pre W, J pre W → J pre W.drew)
    (W : World) (hs : W.cell? ⟨Bs, 0, none⟩ = some (.slice A L cap)) (hn : W.cell? ⟨Bn, 0, none⟩ = some (.int .i64 (m : Int))) (h0 : J [] W) :
    CallsIn Fence.wide 9 Tryd.prog 65 #[.func (.yield l) #[] #[], .pointer (some ⟨Bs, 0, none⟩), .pointer (some ⟨Bn, 0, none⟩)] W fun e W' => (∃ v, e = .returned v) ∧
      ((∃ ys : List (Fin q), ys.map Fin.val = List.range q ∧ J ys W') ∨ (∃ pre : List (Fin q), True ∧ Jx pre W')) := by
  have hmx : Tryd.prog.follows .mixedOrders = true := by kernel_rfl
  refine callsIn_of_wp Tryd.func65 rfl trivial ?_ rfl
  simp only [Tryd.ntmps65, List.size_toArray, List.length_cons, List.length_nil, Nat.reduceAdd, Nat.reduceSub, Array.replicate_succ, Array.replicate_zero, List.push_toArray, List.append_toArray, List.nil_append, List.cons_append]
  gi_wp2
  gi_loopw [4] (fun i wr => ∃ (k : Nat) (pre : List (Fin q)), k ≤ q ∧ i = .int .i64 ((k * m : Nat) : Int) ∧ pre.map Fin.val = List.range k ∧ J pre wr ∧ Kp Bs Bn W wr)
    (fun i _ => L - (intOf i).toNat)
  case atStart => exact ⟨0, [], Nat.zero_le _, by simp, rfl, h0, rfl, rfl⟩
  case round =>
    obtain ⟨k, pre, hk, rfl, hp, hJs, hk1, hk2⟩ := hrel
    have s0 := hk1.trans hs
    have n0 := hk2.trans hn
    by_cases hlt : k < q
    · obtain rfl := hA (by omega)
      have hpl : pre.length = k := by have := congrArg List.length hp; simpa using this
      obtain ⟨fn, tmps, assign, body, hy, hR⟩ := hY pre ⟨k, hlt⟩ wr.drew (hD _ _ hJs) (by omega)
      dsimp only at hy
      have e1 : (k + 1) * m ≤ q * m := Nat.mul_le_mul_right m hlt
      have e2 : (k + 1) * m = k * m + m := Nat.succ_mul k m
      have e3 : Hid (((k + 1 : Nat) * m : Nat) = (k + 1) * m) := Lib.hid rfl
      obtain ⟨h, hh⟩ : ∃ h, h = (k + 1) * m := ⟨_, rfl⟩
      obtain ⟨a, ha⟩ : ∃ a, a = k * m := ⟨_, rfl⟩
      rw [← hh, ← hL] at e1
      rw [← hh, ← ha] at e2
      rw [← ha] at hy ⊢
      obtain ⟨r, hr⟩ : ∃ r, r = L - a := ⟨_, rfl⟩
      have i1 : (a : Int) < L := by omega
      have sl1 := fun W => Kq.slice_off W b off L cap a r (by omega) (by omega) hcap
      have sl2 := fun W => slice_three W b off L cap a h m (by omega) hm (by omega)
      have mn : min (m : Int) (r : Int) = (m : Int) := by omega
      have q1 : IntKind.i64.wrap ((a : Int) + (m : Int)) = (h : Int) := by rw [IntKind.wrap_i64]; omega
      have q2 : (a : Int) + (m : Int) = (h : Int) := by omega
      have q3 : L - a = r := by omega
      have q4 : h - a = m := by omega
      have q5 : ¬ h = a := by omega
      have hcc : h ≤ cap := by omega
      have hac : a ≤ h := by omega
      have HH := Lib.hid hh
      have KK := Lib.hid (show Kp Bs Bn W wr.drew from ⟨hk1, hk2⟩)
      have HP := Lib.hid hp
      have s1 : wr.drew.cell? ⟨Bs, 0, none⟩ = some (.slice (some ⟨b, off, none⟩) L cap) := s0
      have n1 : wr.drew.cell? ⟨Bn, 0, none⟩ = some (.int .i64 (m : Int)) := n0
      have HL := Lib.hid hL
      clear e1 e2 e3 hr hh hp ha hL
      gi_wp2
      gi_region_o
      gi_wp2
      refine hR.mono ?_
      rintro e W3 (⟨rfl, hJ3, hk3⟩ | ⟨rfl, hJx3⟩)
      · have K3 := kp_t KK.out hk3
        have n3 := K3.2.trans hn
        gi_wp2
        go_roundw
        case rel => exact ⟨k + 1, pre ++ [⟨k, hlt⟩], by omega, by rw [HH.out], by rw [List.map_append, HP.out, List.range_succ]; rfl, hJ3, K3⟩
        case measure => have := HH.out; simp [intOf]; omega
      · gi_wp2
        refine bodyPost_ret (results_none rfl _ _ _) rfl ?_
        exact ⟨⟨_, rfl⟩, .inr ⟨_, trivial, hJx3⟩⟩
    · obtain rfl : k = q := by omega
      rw [← hL]
      gi_wp2
      go_end0
      exact ⟨⟨_, rfl⟩, .inl ⟨pre, hp, hJs⟩⟩
end Pt
end Go.Proofs.YtfjoacopnkceoaaDoor
