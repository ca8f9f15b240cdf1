/- Contracts of the document's own answers for layer 1: Sub, Mul. -/
import Derived.Test.YtkbhbnadkoainaaRefC
import Derived.Deep.RegionHeld3
import Derived.Deep.DeepCutAuto
set_option linter.unusedVariables false
namespace Go.Proofs.Ytkbhbnadkoainaa
open Go.RowKit
open Go.Sort (grow)
namespace Rf
open Nm

theorem xor_all (a : Nat) (h : a < 18446744073709551616) : bits .xor .u64 (a : Int) 18446744073709551615 = ((18446744073709551615 - a : Nat) : Int) := by
  have e := bits_xor_u64_nat a 18446744073709551615 h (by decide)
  have x : a ^^^ 18446744073709551615 = 18446744073709551615 - a := by
    have b := congrArg BitVec.toNat (BitVec.xor_allOnes (x := BitVec.ofNat 64 a))
    rw [BitVec.toNat_xor, BitVec.toNat_not, BitVec.toNat_ofNat, BitVec.toNat_allOnes, Nat.mod_eq_of_lt (by omega)] at b
    exact b
  rw [x] at e
  exact e

theorem sub_num (v1 v2 : Nat) (h2 : v2 < 340282366920938463463374607431768211456) :
    (v1 + (340282366920938463463374607431768211455 - v2)) % 340282366920938463463374607431768211456 + 1 = (v1 + 340282366920938463463374607431768211456 - v2) % 340282366920938463463374607431768211456 ∨
    ((v1 + (340282366920938463463374607431768211455 - v2)) % 340282366920938463463374607431768211456 + 1) % 340282366920938463463374607431768211456 = (v1 + 340282366920938463463374607431768211456 - v2) % 340282366920938463463374607431768211456 := by omega

/-- Add's contract, the second number told by what it is. -/
theorem add_to (h1 l1 h2 l2 v : Nat) (a1 : h1 < 18446744073709551616) (b1 : l1 < 18446744073709551616) (a2 : h2 < 18446744073709551616) (b2 : l2 < 18446744073709551616) (hv : (vl h1 l1 + vl h2 l2) % 340282366920938463463374607431768211456 = v % 340282366920938463463374607431768211456) (w : World) :
    Calls Try.prog 50 #[.agg #[.int .u64 h1, .int .u64 l1], .agg #[.int .u64 h2, .int .u64 l2]] w fun e w' =>
      e = .returned (.tuple #[.agg #[.int .u64 (hi v : Nat), .int .u64 (lo v : Nat)], .int .u64 ((vl h1 l1 + vl h2 l2) / 340282366920938463463374607431768211456 : Nat)]) ∧ Below w.heap.size w w' := by
  have e := hi_same _ _ hv
  rw [← e.1, ← e.2]
  exact add h1 l1 h2 l2 a1 b1 a2 b2 w

set_option maxHeartbeats 1000000 in
theorem sub (h1 l1 h2 l2 : Nat) (a1 : h1 < 18446744073709551616) (b1 : l1 < 18446744073709551616) (a2 : h2 < 18446744073709551616) (b2 : l2 < 18446744073709551616) (w : World) :
    Calls Try.prog 43 #[.agg #[.int .u64 h1, .int .u64 l1], .agg #[.int .u64 h2, .int .u64 l2]] w fun e w' =>
      e = .returned (.tuple #[.agg #[.int .u64 (hi (vl h1 l1 + 340282366920938463463374607431768211456 - vl h2 l2) : Nat), .int .u64 (lo (vl h1 l1 + 340282366920938463463374607431768211456 - vl h2 l2) : Nat)], .int .u64 ((if vl h1 l1 < vl h2 l2 then 1 else 0 : Nat) : Int)]) ∧ Below w.heap.size w w' := by
  have x1 := xor_all h2 a2
  have x2 := xor_all l2 b2
  have v1 := vl_lt h1 l1 a1 b1
  have v2 := vl_lt h2 l2 a2 b2
  have en : vl (18446744073709551615 - h2) (18446744073709551615 - l2) = 340282366920938463463374607431768211455 - vl h2 l2 := by unfold vl; omega
  have A1 := Lib.hid (fun W => add_to h1 l1 (18446744073709551615 - h2) (18446744073709551615 - l2) _ a1 b1 (by omega) (by omega) rfl W)
  rw [en] at A1
  generalize hx : vl h1 l1 + (340282366920938463463374607431768211455 - vl h2 l2) = X at A1
  have A2 := Lib.hid (fun W => add_to (hi X) (lo X) 0 1 (vl h1 l1 + 340282366920938463463374607431768211456 - vl h2 l2) (hi_lt _) (lo_lt _) (by omega) (by omega) (by rw [vl_hi_lo, show vl 0 1 = 1 from rfl]; omega) W)
  have L := Lib.hid (fun W => less h1 l1 h2 l2 b1 b2 W)
  clear en hx v1 v2 a1 b1 a2 b2
  generalize hi (vl h1 l1 + 340282366920938463463374607431768211456 - vl h2 l2) = p at A2 ⊢
  generalize lo (vl h1 l1 + 340282366920938463463374607431768211456 - vl h2 l2) = q at A2 ⊢
  generalize X / 340282366920938463463374607431768211456 = c1 at A1
  generalize (vl (hi X) (lo X) + vl 0 1) / 340282366920938463463374607431768211456 = c2 at A2
  generalize hi X = s1 at A1 A2
  generalize lo X = s2 at A1 A2
  generalize 18446744073709551615 - h2 = m1 at x1 A1
  generalize 18446744073709551615 - l2 = m2 at x2 A1
  generalize hbv : (if vl h1 l1 < vl h2 l2 then 1 else 0) = bw
  have HB := Lib.hid hbv
  clear hbv
  go_enter Try.func43, Try.ntmps43
  go_wp2_with fail
  refine (A1.out _).mono ?_
  rintro e w1 ⟨rfl, hb1⟩
  have Ta := Two.below ((((Two.fresh w h1 l1 _).alloc _).alloc _).alloc _) hb1
  have Tb := Two.cast (Two.below (((Two.fresh (w.alloc _) h2 l2 _).alloc _).alloc _) hb1) (show _ = w.heap.size + 1 from by simp)
  have Tr := Two.cast (Two.below ((Two.fresh ((w.alloc _).alloc _) 0 0 _).alloc _) hb1) (show _ = w.heap.size + 1 + 1 from by simp)
  have hbl : Below w.heap.size w w1 := ((((((Below.refl w.heap.size w).alloc (Nat.le_refl _) _).alloc (by simp) _).alloc (by simp <;> omega) _).alloc (by simp <;> omega) _)).trans (hb1.mono (by simp <;> omega))
  clear hb1 A1
  go_wp2_with fail
  refine (A2.out _).mono ?_
  rintro e w2 ⟨rfl, hb2⟩
  have Ta2 := (Ta.alloc _).below hb2
  have Tb2 := (Tb.alloc _).below hb2
  have Tr2 := (Tr.alloc _).below hb2
  have hbl2 := (hbl.alloc hbl.size _).trans (hb2.mono (by have := hbl.size; simp; omega))
  clear hb2 A2 Ta Tb Tr hbl
  have a0 := Ta2.c0
  have a1 := Ta2.c1
  have b0 := Tb2.c0
  have b1 := Tb2.c1
  have za := World.block_lt_of_cell? w2 _ a0
  have zb := World.block_lt_of_cell? w2 _ b0
  go_wp2_with fail
  refine (L.out _).mono ?_
  rintro e w3 ⟨rfl, hb3⟩
  have Tr3 := (Tr2.alloc _).below hb3
  have Td3 := (Two.fresh w2 p q _).below hb3
  have hbl3 := (hbl2.alloc hbl2.size _).trans (hb3.mono (by have := hbl2.size; simp; omega))
  clear hb3 L Ta2 Tb2 Tr2 hbl2 a0 a1 b0 b1
  have r0 := Tr3.c0
  have r1 := Tr3.c1
  have r2 := Tr3.f0
  have r3 := Tr3.f1
  have d0 := Td3.c0
  have d1 := Td3.c1
  by_cases hlt : vl h1 l1 < vl h2 l2
  · have hd : decide (vl h1 l1 < vl h2 l2) = true := by simp [hlt]
    have HE : Hid (bw = 1) := by rw [← HB.out, if_pos hlt]; exact rfl
    clear hlt
    go_wp2
    exact bodyPost_ret (v := .tuple #[.agg #[.int .u64 p, .int .u64 q], .int .u64 1]) (by simp [results, Try.results43, go_sem, r0, r1]) rfl ⟨by rw [HE.out]; rfl, (hbl3.setCell (by simp <;> omega) _).setCell (by simp <;> omega) _⟩
  · have hd : decide (vl h1 l1 < vl h2 l2) = false := by simp [hlt]
    have HE : Hid (bw = 0) := by rw [← HB.out, if_neg hlt]; exact rfl
    clear hlt
    go_wp2
    exact bodyPost_ret (v := .tuple #[.agg #[.int .u64 p, .int .u64 q], .int .u64 0]) (by simp [results, Try.results43, go_sem, r0, r1]) rfl ⟨by rw [HE.out]; rfl, (hbl3.setCell (by simp <;> omega) _).setCell (by simp <;> omega) _⟩

theorem mul_step1 (a b i : Nat) (hb : b / 2 ^ i % 2 = 1) : a * (b % 2 ^ i) + a * 2 ^ i = a * (b % 2 ^ (i + 1)) := by
  rw [Nat.mod_pow_succ, hb, Nat.mul_one, Nat.mul_add]
theorem mul_step0 (a b i : Nat) (hb : ¬ b / 2 ^ i % 2 = 1) : a * (b % 2 ^ i) = a * (b % 2 ^ (i + 1)) := by
  have : b / 2 ^ i % 2 = 0 := by omega
  rw [Nat.mod_pow_succ, this, Nat.mul_zero, Nat.add_zero]
theorem vl0 (a : Nat) : vl 0 a = a := by unfold vl; omega


/-- What is kept while the statement that adds is done, in whatever order. -/
structure MK (w w' : World) (p q : Nat) : Prop where
  r : Two w' w.heap.size 0 0
  t : Two w' (w.heap.size + 1) p q
  below : Below w.heap.size w w'
theorem MK.all {w w' : World} {p q : Nat} (h : MK w w' p q) : w'.cell? ⟨w.heap.size + 1, 0, none⟩ = some (.int .u64 p) ∧ w'.cell? ⟨w.heap.size + 1, 1, none⟩ = some (.int .u64 q) ∧ MK w w' p q := ⟨h.t.c0, h.t.c1, h⟩
theorem MK.drew {w w' : World} {p q : Nat} (h : MK w w' p q) : MK w w'.drew p q := ⟨⟨h.r.c0, h.r.c1, h.r.f0, h.r.f1⟩, ⟨h.t.c0, h.t.c1, h.t.f0, h.t.f1⟩, h.below.drew⟩
theorem MK.call {w w' w1 : World} {p q : Nat} (h : MK w w' p q) (hb : Below w'.heap.size w' w1) : MK w w1 p q := ⟨h.r.below hb, h.t.below hb, h.below.trans (hb.mono h.below.size)⟩
theorem MK.alloc {w w' : World} {p q : Nat} (h : MK w w' p q) (o : Obj) : MK w (w'.alloc o) p q := h.call ((Below.refl _ _).alloc (Nat.le_refl _) _)
theorem MK.store {w w' : World} {p q : Nat} (h : MK w w' p q) {g o : Nat} (hg : w.heap.size + 1 < g) (v : Value) : MK w (w'.setCell ⟨g, o, none⟩ v) p q :=
  ⟨h.r.other (by simp <;> omega) _, h.t.other (by simp <;> omega) _, h.below.setCell (by simp <;> omega) _⟩

end Rf
end Go.Proofs.Ytkbhbnadkoainaa
