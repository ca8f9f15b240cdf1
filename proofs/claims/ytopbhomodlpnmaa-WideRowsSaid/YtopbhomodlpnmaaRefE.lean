/- Contracts of the document's own answers for layer 1: Sub, Mul. -/
import Derived.Test.YtopbhomodlpnmaaRefD
import Derived.Deep.RegionHeld3
import Derived.Deep.DeepCutAuto
set_option linter.unusedVariables false
namespace Go.Proofs.Ytopbhomodlpnmaa
open Go.RowKit
open Go.Sort (grow)
namespace Rf
open Nm

theorem xor_all (a : Nat) (h : a < 18446744073709551616) : bits .xor .u64 (a : Int) 18446744073709551615 = ((18446744073709551615 - a : Nat) : Int) := by
  have e := bits_xor_u64_nat a 18446744073709551615 h (by decide)
  have x : a ^^^ 18446744073709551615 = 18446744073709551615 - a := by
    have b := congrArg BitVec.toNat (BitVec.xor_allOnes (x := BitVec.ofNat 64 a))
    rw [BitVec.toNat_xor, BitVec.toNat_not, BitVec.toNat_ofNat, BitVec.toNat_allOnes, Nat.mod_eq_of_lt (by omega)] at b
    exact b
  rw [x] at e
  exact e

theorem sub_num (v1 v2 : Nat) (h2 : v2 < 340282366920938463463374607431768211456) :
    (v1 + (340282366920938463463374607431768211455 - v2)) % 340282366920938463463374607431768211456 + 1 = (v1 + 340282366920938463463374607431768211456 - v2) % 340282366920938463463374607431768211456 ∨
    ((v1 + (340282366920938463463374607431768211455 - v2)) % 340282366920938463463374607431768211456 + 1) % 340282366920938463463374607431768211456 = (v1 + 340282366920938463463374607431768211456 - v2) % 340282366920938463463374607431768211456 := by omega

/-- Add's contract, the second number told by what it is. -/
theorem add_to (h1 l1 h2 l2 v : Nat) (a1 : h1 < 18446744073709551616) (b1 : l1 < 18446744073709551616) (a2 : h2 < 18446744073709551616) (b2 : l2 < 18446744073709551616) (hv : (vl h1 l1 + vl h2 l2) % 340282366920938463463374607431768211456 = v % 340282366920938463463374607431768211456) (w : World) :
    Calls Try.prog 13 #[.agg #[.int .u64 h1, .int .u64 l1], .agg #[.int .u64 h2, .int .u64 l2]] w fun e w' =>
      e = .returned (.tuple #[.agg #[.int .u64 (hi v : Nat), .int .u64 (lo v : Nat)], .int .u64 ((vl h1 l1 + vl h2 l2) / 340282366920938463463374607431768211456 : Nat)]) ∧ Below w.heap.size w w' := by
  have e := hi_same _ _ hv
  rw [← e.1, ← e.2]
  exact add h1 l1 h2 l2 a1 b1 a2 b2 w

set_option maxHeartbeats 1000000 in
theorem sub (h1 l1 h2 l2 : Nat) (a1 : h1 < 18446744073709551616) (b1 : l1 < 18446744073709551616) (a2 : h2 < 18446744073709551616) (b2 : l2 < 18446744073709551616) (w : World) :
    Calls Try.prog 15 #[.agg #[.int .u64 h1, .int .u64 l1], .agg #[.int .u64 h2, .int .u64 l2]] w fun e w' =>
      e = .returned (.tuple #[.agg #[.int .u64 (hi (vl h1 l1 + 340282366920938463463374607431768211456 - vl h2 l2) : Nat), .int .u64 (lo (vl h1 l1 + 340282366920938463463374607431768211456 - vl h2 l2) : Nat)], .int .u64 ((if vl h1 l1 < vl h2 l2 then 1 else 0 : Nat) : Int)]) ∧ Below w.heap.size w w' := by
  have x1 := xor_all h2 a2
  have x2 := xor_all l2 b2
  have v1 := vl_lt h1 l1 a1 b1
  have v2 := vl_lt h2 l2 a2 b2
  have en : vl (18446744073709551615 - h2) (18446744073709551615 - l2) = 340282366920938463463374607431768211455 - vl h2 l2 := by unfold vl; omega
  have A1 := Lib.hid (fun W => add_to h1 l1 (18446744073709551615 - h2) (18446744073709551615 - l2) _ a1 b1 (by omega) (by omega) rfl W)
  rw [en] at A1
  generalize hx : vl h1 l1 + (340282366920938463463374607431768211455 - vl h2 l2) = X at A1
  have A2 := Lib.hid (fun W => add_to (hi X) (lo X) 0 1 (vl h1 l1 + 340282366920938463463374607431768211456 - vl h2 l2) (hi_lt _) (lo_lt _) (by omega) (by omega) (by rw [vl_hi_lo, show vl 0 1 = 1 from rfl]; omega) W)
  have L := Lib.hid (fun W => less h1 l1 h2 l2 b1 b2 W)
  clear en hx v1 v2 a1 b1 a2 b2
  generalize hi (vl h1 l1 + 340282366920938463463374607431768211456 - vl h2 l2) = p at A2 ⊢
  generalize lo (vl h1 l1 + 340282366920938463463374607431768211456 - vl h2 l2) = q at A2 ⊢
  generalize X / 340282366920938463463374607431768211456 = c1 at A1
  generalize (vl (hi X) (lo X) + vl 0 1) / 340282366920938463463374607431768211456 = c2 at A2
  generalize hi X = s1 at A1 A2
  generalize lo X = s2 at A1 A2
  generalize 18446744073709551615 - h2 = m1 at x1 A1
  generalize 18446744073709551615 - l2 = m2 at x2 A1
  generalize hbv : (if vl h1 l1 < vl h2 l2 then 1 else 0) = bw
  have HB := Lib.hid hbv
  clear hbv
  go_enter Try.func15, Try.ntmps15
  go_wp2_with fail
  refine (A1.out _).mono ?_
  rintro e w1 ⟨rfl, hb1⟩
  have Ta := Two.below ((((Two.fresh w h1 l1 _).alloc _).alloc _).alloc _) hb1
  have Tb := Two.cast (Two.below (((Two.fresh (w.alloc _) h2 l2 _).alloc _).alloc _) hb1) (show _ = w.heap.size + 1 from by simp)
  have Tr := Two.cast (Two.below ((Two.fresh ((w.alloc _).alloc _) 0 0 _).alloc _) hb1) (show _ = w.heap.size + 1 + 1 from by simp)
  have hbl : Below w.heap.size w w1 := ((((((Below.refl w.heap.size w).alloc (Nat.le_refl _) _).alloc (by simp) _).alloc (by simp <;> omega) _).alloc (by simp <;> omega) _)).trans (hb1.mono (by simp <;> omega))
  clear hb1 A1
  go_wp2_with fail
  refine (A2.out _).mono ?_
  rintro e w2 ⟨rfl, hb2⟩
  have Ta2 := (Ta.alloc _).below hb2
  have Tb2 := (Tb.alloc _).below hb2
  have Tr2 := (Tr.alloc _).below hb2
  have hbl2 := (hbl.alloc hbl.size _).trans (hb2.mono (by have := hbl.size; simp; omega))
  clear hb2 A2 Ta Tb Tr hbl
  have a0 := Ta2.c0
  have a1 := Ta2.c1
  have b0 := Tb2.c0
  have b1 := Tb2.c1
  have za := World.block_lt_of_cell? w2 _ a0
  have zb := World.block_lt_of_cell? w2 _ b0
  go_wp2_with fail
  refine (L.out _).mono ?_
  rintro e w3 ⟨rfl, hb3⟩
  have Tr3 := (Tr2.alloc _).below hb3
  have Td3 := (Two.fresh w2 p q _).below hb3
  have hbl3 := (hbl2.alloc hbl2.size _).trans (hb3.mono (by have := hbl2.size; simp; omega))
  clear hb3 L Ta2 Tb2 Tr2 hbl2 a0 a1 b0 b1
  have r0 := Tr3.c0
  have r1 := Tr3.c1
  have r2 := Tr3.f0
  have r3 := Tr3.f1
  have d0 := Td3.c0
  have d1 := Td3.c1
  by_cases hlt : vl h1 l1 < vl h2 l2
  · have hd : decide (vl h1 l1 < vl h2 l2) = true := by simp [hlt]
    have HE : Hid (bw = 1) := by rw [← HB.out, if_pos hlt]; exact rfl
    clear hlt
    go_wp2
    exact bodyPost_ret (v := .tuple #[.agg #[.int .u64 p, .int .u64 q], .int .u64 1]) (by simp [results, Try.results15, go_sem, r0, r1]) rfl ⟨by rw [HE.out]; rfl, (hbl3.setCell (by simp <;> omega) _).setCell (by simp <;> omega) _⟩
  · have hd : decide (vl h1 l1 < vl h2 l2) = false := by simp [hlt]
    have HE : Hid (bw = 0) := by rw [← HB.out, if_neg hlt]; exact rfl
    clear hlt
    go_wp2
    exact bodyPost_ret (v := .tuple #[.agg #[.int .u64 p, .int .u64 q], .int .u64 0]) (by simp [results, Try.results15, go_sem, r0, r1]) rfl ⟨by rw [HE.out]; rfl, (hbl3.setCell (by simp <;> omega) _).setCell (by simp <;> omega) _⟩

theorem mul_step1 (a b i : Nat) (hb : b / 2 ^ i % 2 = 1) : a * (b % 2 ^ i) + a * 2 ^ i = a * (b % 2 ^ (i + 1)) := by
  rw [Nat.mod_pow_succ, hb, Nat.mul_one, Nat.mul_add]
theorem mul_step0 (a b i : Nat) (hb : ¬ b / 2 ^ i % 2 = 1) : a * (b % 2 ^ i) = a * (b % 2 ^ (i + 1)) := by
  have : b / 2 ^ i % 2 = 0 := by omega
  rw [Nat.mod_pow_succ, this, Nat.mul_zero, Nat.add_zero]
theorem vl0 (a : Nat) : vl 0 a = a := by unfold vl; omega

theorem Two.drew {w : World} {b p q : Nat} (h : Two w b p q) : Two w.drew b p q := ⟨h.c0, h.c1, h.f0, h.f1⟩

/-- What is kept while the statement that adds is done, in whatever order. -/
structure MK (w w' : World) (p q : Nat) : Prop where
  r : Two w' w.heap.size 0 0
  t : Two w' (w.heap.size + 1) p q
  below : Below w.heap.size w w'
theorem MK.all {w w' : World} {p q : Nat} (h : MK w w' p q) : w'.cell? ⟨w.heap.size + 1, 0, none⟩ = some (.int .u64 p) ∧ w'.cell? ⟨w.heap.size + 1, 1, none⟩ = some (.int .u64 q) ∧ MK w w' p q := ⟨h.t.c0, h.t.c1, h⟩
theorem MK.drew {w w' : World} {p q : Nat} (h : MK w w' p q) : MK w w'.drew p q := ⟨⟨h.r.c0, h.r.c1, h.r.f0, h.r.f1⟩, ⟨h.t.c0, h.t.c1, h.t.f0, h.t.f1⟩, h.below.drew⟩
theorem MK.call {w w' w1 : World} {p q : Nat} (h : MK w w' p q) (hb : Below w'.heap.size w' w1) : MK w w1 p q := ⟨h.r.below hb, h.t.below hb, h.below.trans (hb.mono h.below.size)⟩
theorem MK.alloc {w w' : World} {p q : Nat} (h : MK w w' p q) (o : Obj) : MK w (w'.alloc o) p q := h.call ((Below.refl _ _).alloc (Nat.le_refl _) _)
theorem MK.store {w w' : World} {p q : Nat} (h : MK w w' p q) {g o : Nat} (hg : w.heap.size + 1 < g) (v : Value) : MK w (w'.setCell ⟨g, o, none⟩ v) p q :=
  ⟨h.r.other (by simp <;> omega) _, h.t.other (by simp <;> omega) _, h.below.setCell (by simp <;> omega) _⟩

set_option maxHeartbeats 1000000 in
set_option maxRecDepth 100000 in
theorem mul (a b : Nat) (ha : a < 18446744073709551616) (hb : b < 18446744073709551616) (w : World) :
    Calls Try.prog 11 #[.int .u64 a, .int .u64 b] w fun e w' => e = .returned (.agg #[.int .u64 (hi (a * b) : Nat), .int .u64 (lo (a * b) : Nat)]) ∧ Below w.heap.size w w' := by
  go_enter Try.func11, Try.ntmps11
  go_wp2_with fail
  go_loopg [6] 64 (fun k v6 wr => ∃ i : Nat, k + i = 64 ∧ v6 = .int .i64 i ∧ Two wr w.heap.size 0 0 ∧ Two wr (w.heap.size + 1) (hi (a * (b % 2 ^ i))) (lo (a * (b % 2 ^ i))) ∧ Below w.heap.size w wr)
  case atStart => exact ⟨0, rfl, rfl, (Two.fresh w 0 0 _).alloc _, by rw [Nat.pow_zero, Nat.mod_one, Nat.mul_zero]; exact Two.cast (Two.fresh (w.alloc _) 0 0 _) (by simp), ((Below.refl _ _).alloc (Nat.le_refl _) _).alloc (by simp) _⟩
  case round =>
    obtain ⟨i, hk, rfl, Tr, Tt, hbl⟩ := hrel
    by_cases hi : i < 64
    · have i1 : (i : Int) < 64 := by omega
      have x0 := tmod2 b i
      generalize ex : b / 2 ^ i % 2 = x at x0
      by_cases hx : x = 1
      · have x1 : ((x : Int) == 1) = true := by simp; omega
        have S := Lib.hid (fun W => shln 0 a i ha (by omega) W)
        rw [vl0] at S
        have hlt : a * (b % 2 ^ i) < 340282366920938463463374607431768211456 := Nat.lt_of_lt_of_le ((Nat.mul_lt_mul_right (a := 18446744073709551616) (by decide)).2 ha |> fun h => Nat.lt_of_le_of_lt (Nat.mul_le_mul_left a (Nat.le_of_lt (Nat.lt_of_le_of_lt (Nat.mod_le _ _) hb))) h) (by decide)
        have hlt2 : a * 2 ^ i < 340282366920938463463374607431768211456 := Nat.lt_of_lt_of_le ((Nat.mul_lt_mul_right (a := 18446744073709551616) (by decide)).2 ha |> fun h => Nat.lt_of_le_of_lt (Nat.mul_le_mul_left a (show 2 ^ i ≤ 18446744073709551616 from by rw [← p64]; exact Nat.pow_le_pow_right (by decide) (by omega))) h) (by decide)
        have A := Lib.hid (fun W => add_to (Nm.hi (a * (b % 2 ^ i))) (lo (a * (b % 2 ^ i))) (Nm.hi (a * 2 ^ i)) (lo (a * 2 ^ i)) (a * (b % 2 ^ (i + 1))) (hi_lt _) (lo_lt _) (hi_lt _) (lo_lt _)
          (by rw [vl_hi_lo, vl_hi_lo, Nat.mod_eq_of_lt hlt, Nat.mod_eq_of_lt hlt2, mul_step1 a b i (by rw [ex]; exact hx)]) W)
        clear ex hx hlt hlt2
        have M : MK w wr _ _ := ⟨Tr, Tt, hbl⟩
        have hsz : w.heap.size + 1 < wr.heap.size := World.block_lt_of_cell? wr _ Tt.c0
        clear Tr Tt hbl
        generalize Nm.hi (a * (b % 2 ^ i)) = p at *
        generalize lo (a * (b % 2 ^ i)) = q at *
        generalize Nm.hi (a * 2 ^ i) = s1 at *
        generalize lo (a * 2 ^ i) = s2 at *
        generalize hp' : Nm.hi (a * (b % 2 ^ (i + 1))) = p' at *
        generalize hq' : lo (a * (b % 2 ^ (i + 1))) = q' at *
        have HP := Lib.hid hp'
        have HQ := Lib.hid hq'
        clear hp' hq'
        generalize (vl p q + vl s1 s2) / 340282366920938463463374607431768211456 = cc at A
        go_upto_region 6 with fail
        go_cut [7] (fun v7 wx => ∃ g : Nat, v7 = .pointer (some ⟨g, 0, none⟩) ∧ w.heap.size + 1 < g ∧ Two wx g p' q' ∧ MK w wx p q)
        case first =>
          have Hs := Lib.hid hsz
          go_region_held3 (fun w' => w'.cell? ⟨w.heap.size + 1, 0, none⟩ = some (.int .u64 p) ∧ w'.cell? ⟨w.heap.size + 1, 1, none⟩ = some (.int .u64 q) ∧ MK w w' p q)
            (exact MK.all (by repeat (first | exact M | refine MK.drew ?_ | refine MK.alloc ?_ _ | refine MK.call ?_ hb2 | refine MK.call ?_ hb1 | refine MK.store ?_ (by omega) _)))
            (first
              | (go_at_call 19; refine (S.out _).mono ?_; rintro e w1 ⟨rfl, hb1⟩; have hz1 : w.heap.size + 1 < w1.heap.size := (by have := hb1.size; (try simp at this); omega); (try (have N1 := Two.below (Two.drew (Two.fresh wr 0 0 _)) hb1; have g0 := N1.c0; have g1 := N1.c1; have g2 := N1.f0; have g3 := N1.f1)))
              | (go_at_call 13; refine (A.out _).mono ?_; rintro e w2 ⟨rfl, hb2⟩; have hz2 : w.heap.size + 1 < w2.heap.size := (by have := hb2.size; (try simp at this); omega); (try (first | (have N2 := Two.below N1 hb2; have g0 := N2.c0; have g1 := N2.c1; have g2 := N2.f0; have g3 := N2.f1) | (have N2 := Two.below (Two.fresh w1 0 0 _) hb2; have g0 := N2.c0; have g1 := N2.c1; have g2 := N2.f0; have g3 := N2.f1)))))
          all_goals (go_wp2_with fail; go_meet)
          · exact ⟨_, rfl, hz2, Two.fresh w2 p' q' _, ((M.drew.call hb1).call hb2).alloc _⟩
          · exact ⟨_, rfl, hz1, N2.put p' q', ((((M.drew.call hb1).alloc _).call hb2).store hz1 _).store hz1 _⟩
          · exact ⟨_, rfl, hsz, N2.put p' q', ((((M.alloc _).drew.call hb1).call hb2).store hsz _).store hsz _⟩
        case rest =>
          obtain ⟨g, rfl, hg, Tg, M2⟩ := hcut
          have c0 := Tg.c0
          have c1 := Tg.c1
          have d0 := M2.t.c0
          have d1 := M2.t.c1
          have d2 := M2.t.f0
          have d3 := M2.t.f1
          go_wp2_with fail
          go_roundg (gk - 1)
          case measure => omega
          case rel => exact ⟨i + 1, by omega, rfl, (M2.r.other (by simp) _).other (by simp) _, by rw [HP.out, HQ.out]; exact M2.t.put p' q', (M2.below.setCell (by simp) _).setCell (by simp) _⟩
      · have x1 : ((x : Int) == 1) = false := by simp; omega
        rw [mul_step0 a b i (by rw [ex]; exact hx)] at Tt
        clear ex hx
        go_wp2_with fail
        go_roundg (gk - 1)
        case measure => omega
        case rel => exact ⟨i + 1, by omega, rfl, Tr, Tt, hbl⟩
    · have e : i = 64 := by omega
      rw [e, p64, Nat.mod_eq_of_lt hb] at Tt
      have i1 : ¬ (i : Int) < 64 := by omega
      clear e
      have c0 := Tt.c0
      have c1 := Tt.c1
      have r0 := Tr.c0
      have r1 := Tr.c1
      have r2 := Tr.f0
      have r3 := Tr.f1
      generalize hp : Nm.hi (a * b) = p at *
      generalize hq : lo (a * b) = q at *
      have HP := Lib.hid hp
      have HQ := Lib.hid hq
      clear hp hq
      go_wp2
      refine bodyPost_ret (v := .agg #[.int .u64 p, .int .u64 q]) (by simp [results, Try.results11, go_sem, r0, r1]) rfl ⟨by rw [HP.out, HQ.out], (hbl.setCell (by simp <;> omega) _).setCell (by simp <;> omega) _⟩
end Rf
end Go.Proofs.Ytopbhomodlpnmaa
