/- Layer 16: contracts of package crc's counters. -/
import Derived.Test.YtinachlkaochdaaDoorCrcP
set_option linter.unusedVariables false
namespace Go.Proofs.YtinachlkaochdaaDoor
open Go.RowKit Go.Lib
namespace Cx
open Ww Cr Cd
/-- A counter that has had the bytes bs. -/
def Ct (w : World) (p : Nat) (bs : List UInt8) : Prop := w.heap[p]? = some (.cells #[.int .u32 (sum bs : Nat), .int .i64 (bs.length : Nat)] 39)
section
variable {w w' : World} {p : Nat} {xs : List UInt8}
theorem Ct.lt (h : Ct w p xs) : p < w.heap.size := (Array.getElem?_eq_some_iff.1 h).1
theorem Ct.below (h : Ct w p xs) (d : Below w.heap.size w w') : Ct w' p xs := (d.block p h.lt).trans h
theorem Ct.apart (h : Ct w p xs) (hT : Tab w) : p ≠ 0 := by
  intro e
  subst e
  have h1 := hT 1 (by omega)
  have h2 : w.cell? ⟨0, 1, none⟩ = some (.int .i64 (xs.length : Nat)) := by simp [World.cell?, show w.heap[0]? = _ from h]
  rw [h1] at h2
  cases h2
theorem new_ct (w : World) : Ct (w.alloc (.cells #[.int .u32 0, .int .i64 0] 39)) w.heap.size [] := by
  unfold Ct
  rw [sum_nil]
  exact heap_alloc_new w _
/-- The two stores behind which a counter has had the bytes ys. -/
theorem stores (h : Ct w p xs) (ys : List UInt8) {w1 : World} (b1 : Below w.heap.size w w1) : w1.cell? ⟨p, 0, none⟩ = some (.int .u32 (sum xs : Nat)) ∧ w1.cell? ⟨p, 1, none⟩ = some (.int .i64 (xs.length : Nat)) ∧ w1.frozen? ⟨p, 0, none⟩ = false ∧ w1.frozen? ⟨p, 1, none⟩ = false ∧
      Ct ((w1.setCell ⟨p, 0, none⟩ (.int .u32 (sum ys : Nat))).setCell ⟨p, 1, none⟩ (.int .i64 (ys.length : Nat))) p ys ∧ Fp p w ((w1.setCell ⟨p, 0, none⟩ (.int .u32 (sum ys : Nat))).setCell ⟨p, 1, none⟩ (.int .i64 (ys.length : Nat))) := by
  have h1 : w1.heap[p]? = _ := h.below b1
  refine ⟨by simp [World.cell?, h1], by simp [World.cell?, h1], by simp [World.frozen?, h1], by simp [World.frozen?, h1], ?_, ((Fp.of_below b1).put 0 _).put 1 _⟩
  unfold Ct
  simp [World.setCell, Array.getElem?_modify, h1]
set_option maxHeartbeats 1000000 in
set_option maxRecDepth 100000 in
theorem add (h : Ct w p xs) (hT : Tab w) (A : Option Addr) (B c : Nat) (bs : List UInt8) (R : Bs w B A bs) (hl : xs.length + bs.length ≤ 9223372036854775807) :
    Calls Tryd.prog 15 #[.pointer (some ⟨p, 0, none⟩), .slice A bs.length c] w fun e w' => e = .returned (.tuple #[]) ∧ Ct w' p (xs ++ bs) ∧ Fp p w w' := by
  have M := more A B c (sum xs) bs w R hT (sum_lt _) (by omega)
  rw [← sum_more] at M
  obtain ⟨e0, e1, z0, z1, E1⟩ := stores h (xs ++ bs) (Below.refl _ w)
  have el : ((xs ++ bs).length : Nat) = xs.length + bs.length := List.length_append
  have hw : IntKind.i64.wrap ((xs.length : Int) + (bs.length : Int)) = (((xs ++ bs).length : Nat) : Int) := by rw [el, IntKind.wrap_i64]; omega
  generalize (xs ++ bs).length = l at *
  generalize sum (xs ++ bs) = s1 at *
  generalize sum xs = s0 at *
  replace M := Lib.hid M
  replace E1 := Lib.hid E1
  clear el hl R hT h
  generalize xs.length = l0 at *
  generalize bs.length = l1 at *
  go_enter Tryd.func15, Tryd.ntmps15
  go_wp2_with (go_at_call 13; refine M.out.mono ?_; rintro e w1 ⟨rfl, rfl⟩)
  go_end0
  exact ⟨rfl, E1.out.1, E1.out.2⟩
set_option maxHeartbeats 1000000 in
set_option maxRecDepth 100000 in
theorem addWords (h : Ct w p xs) (hT : Tab w) (A : Option Addr) (B c : Nat) (l : List Nat) (hB : B ≤ w.heap.size) (R : Ws w B A l) (hl : xs.length + 8 * l.length ≤ 9223372036854775807) :
    Calls Tryd.prog 16 #[.pointer (some ⟨p, 0, none⟩), .slice A l.length c] w fun e w' => e = .returned (.tuple #[]) ∧ Ct w' p (xs ++ form l) ∧ Fp p w w' := by
  have M := moreWords A B c (sum xs) l w hB R hT (sum_lt _) (by omega)
  have em : mw (sum xs) l = sum (xs ++ form l) := (sum_more _ _).symm
  rw [em] at M
  have E := Lib.hid (fun w1 (b1 : Below w.heap.size w w1) => stores h (xs ++ form l) b1)
  obtain ⟨e0, _, z0, _, _⟩ := stores h xs (Below.refl _ w)
  have el : ((xs ++ form l).length : Nat) = xs.length + 8 * l.length := by rw [List.length_append, form_len]
  have hw : IntKind.i64.wrap ((xs.length : Int) + IntKind.i64.wrap (8 * (l.length : Int))) = (((xs ++ form l).length : Nat) : Int) := by rw [el, IntKind.wrap_i64, IntKind.wrap_i64]; omega
  have hw2 : wrap64 ((xs.length : Int) + wrap64 (8 * (l.length : Int))) = (((xs ++ form l).length : Nat) : Int) := by rw [el]; unfold wrap64; omega
  generalize (xs ++ form l).length = n at *
  generalize sum (xs ++ form l) = s1 at *
  generalize sum xs = s0 at *
  replace M := Lib.hid M
  clear em el hl R hT h hB
  generalize xs.length = l0 at *
  generalize l.length = l1 at *
  go_enter Tryd.func16, Tryd.ntmps16
  go_wp2_with (go_at_call 20; refine M.out.mono ?_; rintro e w1 ⟨rfl, b1⟩; obtain ⟨e2, e3, z2, z3, E1⟩ := E.out w1 b1; replace E1 := Lib.hid E1; clear M E e0 z0)
  go_end0
  exact ⟨rfl, E1.out.1, E1.out.2⟩
theorem sumC (h : Ct w p xs) : Calls Tryd.prog 19 #[.pointer (some ⟨p, 0, none⟩)] w fun e w' => e = .returned (.int .u32 (sum xs : Nat)) ∧ w = w' := by
  have k0 : w.cell? ⟨p, 0, none⟩ = some (.int .u32 (sum xs : Nat)) := by simp [World.cell?, show w.heap[p]? = _ from h]
  clear h
  generalize sum xs = s0 at *
  go_enter Tryd.func19, Tryd.ntmps19
  go_wp2
  go_ret
  exact ⟨by simp [go_sem], rfl⟩
theorem lenC (h : Ct w p xs) : Calls Tryd.prog 18 #[.pointer (some ⟨p, 0, none⟩)] w fun e w' => e = .returned (.int .i64 (xs.length : Nat)) ∧ w = w' := by
  have k0 : w.cell? ⟨p, 1, none⟩ = some (.int .i64 (xs.length : Nat)) := by simp [World.cell?, show w.heap[p]? = _ from h]
  clear h
  generalize xs.length = s0 at *
  go_enter Tryd.func18, Tryd.ntmps18
  go_wp2
  go_ret
  exact ⟨by simp [go_sem], rfl⟩
end
end Cx
end Go.Proofs.YtinachlkaochdaaDoor
