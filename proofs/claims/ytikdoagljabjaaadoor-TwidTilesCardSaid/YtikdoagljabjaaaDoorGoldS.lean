/- Contracts of package gold's functions of rows: Sum, Product, Dot, of all rows of words; nothing that was there is written. -/
import Derived.Test.YtikdoagljabjaaaDoorGoldP
import Derived.Test.YtikdoagljabjaaaDoorWords
import Derived.Test.YtikdoagljabjaaaDoorTwo
import Derived.Deep.RegionHeld3
import Derived.Deep.RegionWith
import Derived.Deep.DeepCutAuto
set_option linter.unusedVariables false
namespace Go.Proofs.YtikdoagljabjaaaDoor
open Go.RowKit Go.Lib
namespace Gd
open Nm Ww

theorem take_sum (xs : List Nat) (k : Nat) (h : k < xs.length) : (xs.take (k + 1)).sum = (xs.take k).sum + xs.getD k 0 := by
  rw [List.take_succ_eq_append_getElem h, List.sum_append]
  simp [List.getD, h]
theorem sum_step (xs : List Nat) (k : Nat) (h : k < xs.length) : ((xs.take k).sum % 18446744069414584321 + xs.getD k 0) % 18446744069414584321 = (xs.take (k + 1)).sum % 18446744069414584321 := by
  rw [take_sum xs k h, Nat.mod_add_mod]


theorem prod_step (xs : List Nat) (k : Nat) (h : k < xs.length) : Nt.prod (xs.take k) % 18446744069414584321 * xs.getD k 0 % 18446744069414584321 = Nt.prod (xs.take (k + 1)) % 18446744069414584321 := by
  rw [Nt.prod_take xs k h, Nat.mod_mul_mod]


/-- The sum of the products so far. -/
def dsum (xs ys : List Nat) (n : Nat) : Nat := Nt.sg (fun i => xs.getD i 0 * ys.getD i 0) n
theorem dsum_succ (xs ys : List Nat) (n : Nat) : dsum xs ys (n + 1) = dsum xs ys n + xs.getD n 0 * ys.getD n 0 := rfl

/-- Add's contract at a number told by its halves and a product. -/
theorem add_prod (T m : Nat) (w : World) :
    Calls Tryd.prog 54 #[.agg #[.int .u64 (hi T : Nat), .int .u64 (lo T : Nat)], .agg #[.int .u64 (hi m : Nat), .int .u64 (lo m : Nat)]] w fun e w' =>
      e = .returned (.tuple #[.agg #[.int .u64 (hi ((T + m) % 340282366920938463463374607431768211456) : Nat), .int .u64 (lo ((T + m) % 340282366920938463463374607431768211456) : Nat)], .int .u64 ((T % 340282366920938463463374607431768211456 + m % 340282366920938463463374607431768211456) / 340282366920938463463374607431768211456 : Nat)]) ∧ Below w.heap.size w w' := by
  have c := Wd.add (hi T) (lo T) (hi m) (lo m) (hi_lt T) (lo_lt T) (hi_lt m) (lo_lt m) w
  rw [vl_hi_lo, vl_hi_lo] at c
  have e1 : hi (T % 340282366920938463463374607431768211456 + m % 340282366920938463463374607431768211456) = hi ((T + m) % 340282366920938463463374607431768211456) := by unfold hi; omega
  have e2 : lo (T % 340282366920938463463374607431768211456 + m % 340282366920938463463374607431768211456) = lo ((T + m) % 340282366920938463463374607431768211456) := by unfold lo; omega
  rw [e1, e2] at c
  exact c

/-- What holds while the sum is taken: the wide sum T, the carries C. -/
structure DInv (xs ys : List Nat) (i T C : Nat) : Prop where
  e : T + C * 340282366920938463463374607431768211456 = dsum xs ys i
  t : T < 340282366920938463463374607431768211456
  c : C ≤ i
theorem dinv_step {xs ys : List Nat} {i T C : Nat} (h : DInv xs ys i T C) (m : Nat) (hm : m = xs.getD i 0 * ys.getD i 0) (hl : m < 340282366920938463463374607431768211456) :
    DInv xs ys (i + 1) ((T + m) % 340282366920938463463374607431768211456) (C + (T % 340282366920938463463374607431768211456 + m % 340282366920938463463374607431768211456) / 340282366920938463463374607431768211456) := by
  have e := h.e; have t := h.t; have c := h.c
  refine ⟨?_, Nat.mod_lt _ (by decide), ?_⟩
  · rw [dsum_succ, ← e, ← hm, Nat.mod_eq_of_lt t, Nat.mod_eq_of_lt hl]; omega
  · rw [Nat.mod_eq_of_lt t, Nat.mod_eq_of_lt hl]; omega
theorem carry_num (T a b d : Nat) (k : a + b = 18446744069414584321 * d) : (T % 18446744069414584321 + (18446744069414584321 - b % 18446744069414584321)) % 18446744069414584321 = (T + a) % 18446744069414584321 := by omega
/-- A carry stands for 2^128, which leaves -2^32. -/
theorem dinv_end {xs ys : List Nat} {i T C : Nat} (h : DInv xs ys i T C) :
    (T % 18446744069414584321 + (18446744069414584321 - C * 4294967296 % 18446744069414584321 % 18446744069414584321)) % 18446744069414584321 = dsum xs ys i % 18446744069414584321 := by
  rw [← h.e, Nat.mod_mod]
  exact carry_num T _ _ (C * 18446744078004518912) (by omega)

/-- What is kept while the statement that adds a product is done, in whatever order. -/
structure DK (w w' : World) (p q : Nat) (A B : Option Addr) (xs ys : List Nat) : Prop where
  t : Rf.Two w' w.heap.size p q
  ra : Ws w' w.heap.size A xs
  rb : Ws w' w.heap.size B ys
  below : Below w.heap.size w w'
theorem DK.drew {w w' : World} {p q : Nat} {A B : Option Addr} {xs ys : List Nat} (h : DK w w' p q A B xs ys) : DK w w'.drew p q A B xs ys := ⟨h.t.drew, h.ra.drew, h.rb.drew, h.below.drew⟩
theorem DK.call {w w' w1 : World} {p q : Nat} {A B : Option Addr} {xs ys : List Nat} (h : DK w w' p q A B xs ys) (hb : Below w'.heap.size w' w1) : DK w w1 p q A B xs ys :=
  ⟨h.t.below hb, h.ra.below (hb.mono h.below.size), h.rb.below (hb.mono h.below.size), h.below.trans (hb.mono h.below.size)⟩
theorem DK.put {w w' : World} {p q : Nat} {A B : Option Addr} {xs ys : List Nat} (h : DK w w' p q A B xs ys) (p' q' : Nat) :
    DK w ((w'.setCell ⟨w.heap.size, 0, none⟩ (.int .u64 p')).setCell ⟨w.heap.size, 1, none⟩ (.int .u64 q')) p' q' A B xs ys :=
  ⟨h.t.put p' q', (h.ra.setCell (by simp) _).setCell (by simp) _, (h.rb.setCell (by simp) _).setCell (by simp) _, (h.below.setCell (by simp) _).setCell (by simp) _⟩
/-- .. of it what every order keeps. -/
structure DW (w w' : World) (b off i y : Nat) (A : Option Addr) (xs ys : List Nat) : Prop where
  k : ∃ p q, DK w w' p q A (some ⟨b, off, none⟩) xs ys
theorem DK.all {w w' : World} {p q : Nat} {A : Option Addr} {b off : Nat} {xs ys : List Nat} {i y : Nat} (h : DK w w' p q A (some ⟨b, off, none⟩) xs ys) (hi : i < ys.length) (hy : ys.getD i 0 = y) :
    w'.cell? ⟨b, off + i, none⟩ = some (.int .u64 y) ∧ w'.frozen? ⟨w.heap.size, 0, none⟩ = false ∧ w'.frozen? ⟨w.heap.size, 1, none⟩ = false := by
  obtain ⟨b', off', e, _, c⟩ := h.rb.at_ i hi
  injection e with e
  injection e with e1 e2
  subst e1 e2
  exact ⟨by rw [c, hy], h.t.f0, h.t.f1⟩

set_option maxHeartbeats 400000 in
theorem dot_odd (A B : Option Addr) (n m ca cb : Nat) (h : n ≠ m) (w : World) :
    Calls Tryd.prog 48 #[.slice A n ca, .slice B m cb] w fun e w' => e = .returned (.tuple #[.int .u64 0, .int .i64 19]) ∧ w = w' := by
  have h1 : ((n : Int) != (m : Int)) = true := by simp; omega
  clear h
  go_enter Tryd.func48, Tryd.ntmps48
  go_wp2
  go_ret2
  exact ⟨rfl, rfl⟩

set_option maxHeartbeats 1000000 in
set_option maxRecDepth 100000 in
theorem dot (A B : Option Addr) (ca cb : Nat) (xs ys : List Nat) (hxy : ys.length = xs.length) (hlen : xs.length ≤ 9223372036854775807) (w : World) (hra : Ws w w.heap.size A xs) (hrb : Ws w w.heap.size B ys) :
    Calls Tryd.prog 48 #[.slice A xs.length ca, .slice B xs.length cb] w fun e w' => e = .returned (.tuple #[.int .u64 ((dsum xs ys xs.length % 18446744069414584321 : Nat) : Int), .int .i64 0]) ∧ Below w.heap.size w w' := by
  obtain ⟨r, hr0⟩ : ∃ r, r = dsum xs ys xs.length % 18446744069414584321 := ⟨_, rfl⟩
  rw [← hr0]
  have HR := Lib.hid hr0
  have HL := Lib.hid hxy
  clear hr0 hxy
  go_enter Tryd.func48, Tryd.ntmps48
  go_wp2_with fail
  go_loopw [7, 18] (fun v7 v18 wr => ∃ i T C : Nat, i ≤ xs.length ∧ v18 = .int .i64 (i : Int) ∧ v7 = .int .u64 C ∧ DInv xs ys i T C ∧ DK w wr (hi T) (lo T) A B xs ys) (fun _ v18 _ => xs.length - (intOf v18).toNat)
  case atStart => exact ⟨0, 0, 0, Nat.zero_le _, rfl, rfl, ⟨rfl, by decide, Nat.le_refl _⟩, Rf.Two.fresh w 0 0 _, hra.alloc (Nat.le_refl _) _, hrb.alloc (Nat.le_refl _) _, (Below.refl _ _).alloc (Nat.le_refl _) _⟩
  case round =>
    obtain ⟨i, T, C, hi, rfl, rfl, I, K⟩ := hrel
    clear hra hrb
    by_cases hlt : i < xs.length
    · have i1 : (i : Int) < xs.length := by omega
      have hlt2 : i < ys.length := by rw [HL.out]; exact hlt
      obtain ⟨b1, o1, rfl, hB1, c1⟩ := K.ra.at_ i hlt
      obtain ⟨b2, o2, rfl, hB2, c2⟩ := K.rb.at_ i hlt2
      have hx := K.ra.lt i hlt
      have hy := K.rb.lt i hlt2
      have hm : xs.getD i 0 * ys.getD i 0 < 340282366920938463463374607431768211456 := Nat.lt_of_lt_of_le (Nat.mul_lt_mul'' hx hy) (by decide)
      have I2 := dinv_step I _ rfl hm
      have M := Lib.hid (fun W => Wd.mul _ _ hx hy W)
      have D := Lib.hid (fun W => add_prod T (xs.getD i 0 * ys.getD i 0) W)
      have cC := I.c
      have cC2 := I2.c
      generalize hc : (T % 340282366920938463463374607431768211456 + xs.getD i 0 * ys.getD i 0 % 340282366920938463463374607431768211456) / 340282366920938463463374607431768211456 = c at *
      generalize hT' : (T + xs.getD i 0 * ys.getD i 0) % 340282366920938463463374607431768211456 = T' at *
      clear hc hT' I hm
      generalize Nm.hi (xs.getD i 0 * ys.getD i 0) = m1 at *
      generalize Nm.lo (xs.getD i 0 * ys.getD i 0) = m2 at *
      generalize xs.getD i 0 = x at *
      generalize hy0 : ys.getD i 0 = y at *
      have HY := Lib.hid hy0
      clear hy0
      generalize hp : Nm.hi T = p at *
      generalize hq : Nm.lo T = q at *
      clear hp hq hx hy
      generalize hp' : Nm.hi T' = p' at *
      generalize hq' : Nm.lo T' = q' at *
      have HP := Lib.hid hp'
      have HQ := Lib.hid hq'
      clear hp' hq'
      have cs : IntKind.u64.wrap ((C : Int) + (c : Int)) = ((C + c : Nat) : Int) := by rw [IntKind.wrap_u64]; omega
      obtain ⟨C', hC'⟩ : ∃ C', C' = C + c := ⟨_, rfl⟩
      rw [← hC'] at cs I2
      clear hC' cC cC2
      have hz : w.heap.size < wr.heap.size := World.block_lt_of_cell? wr _ K.t.c0
      have hz1 : b1 < wr.heap.size := World.block_lt_of_cell? wr _ c1
      go_upto_region 9 with fail
      go_cut [10] (fun v10 wx => v10 = .int .u64 c ∧ DK w wx p' q' (some ⟨b1, o1, none⟩) (some ⟨b2, o2, none⟩) xs ys)
      case first =>
        clear c1 c2
        have k0 := K.t.c0
        have k1 := K.t.c1
        have l0 := (DK.all (K.drew) hlt2 HY.out).1
        have l1 := (DK.all (K.drew) hlt2 HY.out).2.1
        have l2 := (DK.all (K.drew) hlt2 HY.out).2.2
        go_region_with (first
            | (go_at_call 46; refine (M.out _).mono ?_; rintro e w1 ⟨rfl, hb1⟩; have K1 := K.drew.call hb1; have g0 := K1.t.c0; have g1 := K1.t.c1; have g2 := K1.t.f0; have g3 := K1.t.f1)
            | (go_at_call 54; refine (D.out _).mono ?_; rintro e w2 ⟨rfl, hb2⟩; have K2 := K1.call hb2; have z2 := K2.t.f0; have z3 := K2.t.f1; have z0 := K2.t.c0; have z1 := K2.t.c1))
        all_goals (go_wp2_with fail; go_meet)
        all_goals exact ⟨rfl, K2.put p' q'⟩
      case rest =>
        obtain ⟨rfl, K2⟩ := hcut
        go_wp2_with fail
        go_roundw
        case rel => exact ⟨i + 1, T', C', by omega, rfl, rfl, I2, by rw [HP.out, HQ.out]; exact K2⟩
        case measure => simp [intOf]; omega
    · have i1 : ¬ (i : Int) < xs.length := by omega
      obtain rfl : i = xs.length := by omega
      have E := Lib.hid (dinv_end I)
      rw [← HR.out] at E
      have hC : C < 18446744073709551616 := by have := I.c; omega
      have R := Lib.hid (fun W => reduce (Nm.hi T) (Nm.lo T) (hi_lt _) (lo_lt _) W)
      rw [vl_hi_lo, Nat.mod_eq_of_lt I.t] at R
      have M := Lib.hid (fun W => mul C 4294967296 hC (by decide) W)
      have D := Lib.hid (fun W => sub (T % 18446744069414584321) (C * 4294967296 % 18446744069414584321) (Nat.lt_trans (Nat.mod_lt _ (by decide)) (by decide)) (Nat.lt_trans (Nat.mod_lt _ (by decide)) (by decide)) W)
      rw [E.out] at D
      have k0 := K.t.c0
      have k1 := K.t.c1
      generalize Nm.hi T = p at *
      generalize Nm.lo T = q at *
      generalize T % 18446744069414584321 = t at *
      generalize C * 4294967296 % 18446744069414584321 = c at *
      clear E I hC
      go_wp2_with fail
      refine (R.out _).mono ?_
      rintro e w1 ⟨rfl, h1⟩
      go_wp2_with fail
      refine (M.out _).mono ?_
      rintro e w2 ⟨rfl, h2⟩
      go_wp2_with fail
      refine (D.out _).mono ?_
      rintro e w3 ⟨rfl, rfl⟩
      go_wp2
      go_ret2
      exact ⟨rfl, (K.below.trans (h1.mono K.below.size)).trans (h2.mono (Nat.le_trans K.below.size h1.size))⟩

theorem dot_like (A B : Option Addr) (ca cb : Nat) (xs ys : List Nat) (hxy : ys.length = xs.length) (hlen : xs.length ≤ 9223372036854775807) (w : World) (hra : Ws w w.heap.size A xs) (hrb : Ws w w.heap.size B ys) :
    Calls Tryd.prog 48 #[.slice A xs.length ca, .slice B ys.length cb] w fun e w' => e = .returned (.tuple #[.int .u64 ((dsum xs ys xs.length % 18446744069414584321 : Nat) : Int), .int .i64 0]) ∧ Below w.heap.size w w' := by
  rw [hxy]
  exact dot A B ca cb xs ys hxy hlen w hra hrb
end Gd
end Go.Proofs.YtikdoagljabjaaaDoor
