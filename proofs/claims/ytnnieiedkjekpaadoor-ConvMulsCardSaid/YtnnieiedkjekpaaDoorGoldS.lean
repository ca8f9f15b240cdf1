/- Contracts of package gold's functions of rows: Sum, Product, Dot, of all rows of words; nothing that was there is written. -/
import Derived.Test.YtnnieiedkjekpaaDoorGoldP
import Derived.Test.YtnnieiedkjekpaaDoorWords
import Derived.Test.YtnnieiedkjekpaaDoorTwo
import Derived.Deep.RegionHeld3
import Derived.Deep.RegionWith
import Derived.Deep.DeepCutAuto
set_option linter.unusedVariables false
namespace Go.Proofs.YtnnieiedkjekpaaDoor
open Go.RowKit Go.Lib
namespace Gd
open Nm Ww

theorem take_sum (xs : List Nat) (k : Nat) (h : k < xs.length) : (xs.take (k + 1)).sum = (xs.take k).sum + xs.getD k 0 := by
  rw [List.take_succ_eq_append_getElem h, List.sum_append]
  simp [List.getD, h]
theorem sum_step (xs : List Nat) (k : Nat) (h : k < xs.length) : ((xs.take k).sum % 18446744069414584321 + xs.getD k 0) % 18446744069414584321 = (xs.take (k + 1)).sum % 18446744069414584321 := by
  rw [take_sum xs k h, Nat.mod_add_mod]


theorem prod_step (xs : List Nat) (k : Nat) (h : k < xs.length) : Nt.prod (xs.take k) % 18446744069414584321 * xs.getD k 0 % 18446744069414584321 = Nt.prod (xs.take (k + 1)) % 18446744069414584321 := by
  rw [Nt.prod_take xs k h, Nat.mod_mul_mod]


/-- The sum of the products so far. -/
def dsum (xs ys : List Nat) (n : Nat) : Nat := Nt.sg (fun i => xs.getD i 0 * ys.getD i 0) n
theorem dsum_succ (xs ys : List Nat) (n : Nat) : dsum xs ys (n + 1) = dsum xs ys n + xs.getD n 0 * ys.getD n 0 := rfl


/-- What holds while the sum is taken: the wide sum T, the carries C. -/
structure DInv (xs ys : List Nat) (i T C : Nat) : Prop where
  e : T + C * 340282366920938463463374607431768211456 = dsum xs ys i
  t : T < 340282366920938463463374607431768211456
  c : C ≤ i
theorem dinv_step {xs ys : List Nat} {i T C : Nat} (h : DInv xs ys i T C) (m : Nat) (hm : m = xs.getD i 0 * ys.getD i 0) (hl : m < 340282366920938463463374607431768211456) :
    DInv xs ys (i + 1) ((T + m) % 340282366920938463463374607431768211456) (C + (T % 340282366920938463463374607431768211456 + m % 340282366920938463463374607431768211456) / 340282366920938463463374607431768211456) := by
  have e := h.e; have t := h.t; have c := h.c
  refine ⟨?_, Nat.mod_lt _ (by decide), ?_⟩
  · rw [dsum_succ, ← e, ← hm, Nat.mod_eq_of_lt t, Nat.mod_eq_of_lt hl]; omega
  · rw [Nat.mod_eq_of_lt t, Nat.mod_eq_of_lt hl]; omega
theorem carry_num (T a b d : Nat) (k : a + b = 18446744069414584321 * d) : (T % 18446744069414584321 + (18446744069414584321 - b % 18446744069414584321)) % 18446744069414584321 = (T + a) % 18446744069414584321 := by omega
/-- A carry stands for 2^128, which leaves -2^32. -/
theorem dinv_end {xs ys : List Nat} {i T C : Nat} (h : DInv xs ys i T C) :
    (T % 18446744069414584321 + (18446744069414584321 - C * 4294967296 % 18446744069414584321 % 18446744069414584321)) % 18446744069414584321 = dsum xs ys i % 18446744069414584321 := by
  rw [← h.e, Nat.mod_mod]
  exact carry_num T _ _ (C * 18446744078004518912) (by omega)

/-- What is kept while the statement that adds a product is done, in whatever order. -/
structure DK (w w' : World) (p q : Nat) (A B : Option Addr) (xs ys : List Nat) : Prop where
  t : Rf.Two w' w.heap.size p q
  ra : Ws w' w.heap.size A xs
  rb : Ws w' w.heap.size B ys
  below : Below w.heap.size w w'
theorem DK.drew {w w' : World} {p q : Nat} {A B : Option Addr} {xs ys : List Nat} (h : DK w w' p q A B xs ys) : DK w w'.drew p q A B xs ys := ⟨h.t.drew, h.ra.drew, h.rb.drew, h.below.drew⟩
theorem DK.call {w w' w1 : World} {p q : Nat} {A B : Option Addr} {xs ys : List Nat} (h : DK w w' p q A B xs ys) (hb : Below w'.heap.size w' w1) : DK w w1 p q A B xs ys :=
  ⟨h.t.below hb, h.ra.below (hb.mono h.below.size), h.rb.below (hb.mono h.below.size), h.below.trans (hb.mono h.below.size)⟩
theorem DK.put {w w' : World} {p q : Nat} {A B : Option Addr} {xs ys : List Nat} (h : DK w w' p q A B xs ys) (p' q' : Nat) :
    DK w ((w'.setCell ⟨w.heap.size, 0, none⟩ (.int .u64 p')).setCell ⟨w.heap.size, 1, none⟩ (.int .u64 q')) p' q' A B xs ys :=
  ⟨h.t.put p' q', (h.ra.setCell (by simp) _).setCell (by simp) _, (h.rb.setCell (by simp) _).setCell (by simp) _, (h.below.setCell (by simp) _).setCell (by simp) _⟩
/-- .. of it what every order keeps. -/
structure DW (w w' : World) (b off i y : Nat) (A : Option Addr) (xs ys : List Nat) : Prop where
  k : ∃ p q, DK w w' p q A (some ⟨b, off, none⟩) xs ys
theorem DK.all {w w' : World} {p q : Nat} {A : Option Addr} {b off : Nat} {xs ys : List Nat} {i y : Nat} (h : DK w w' p q A (some ⟨b, off, none⟩) xs ys) (hi : i < ys.length) (hy : ys.getD i 0 = y) :
    w'.cell? ⟨b, off + i, none⟩ = some (.int .u64 y) ∧ w'.frozen? ⟨w.heap.size, 0, none⟩ = false ∧ w'.frozen? ⟨w.heap.size, 1, none⟩ = false := by
  obtain ⟨b', off', e, _, c⟩ := h.rb.at_ i hi
  injection e with e
  injection e with e1 e2
  subst e1 e2
  exact ⟨by rw [c, hy], h.t.f0, h.t.f1⟩



end Gd
end Go.Proofs.YtnnieiedkjekpaaDoor
