/- Contract of package codec's number: the number of at most 20 digits. -/
import Derived.Test.YtggocbblpgaaoaaDoorCodR
import Derived.Test.YtggocbblpgaaoaaDoorWide
import Derived.Test.YtggocbblpgaaoaaDoorTwo
import Derived.Deep.DeepCutAuto
import Derived.Deep.RegionWith
import Derived.Deep.CutBlock
set_option linter.unusedVariables false
namespace Go.Proofs.YtggocbblpgaaoaaDoor
open Go.RowKit
namespace Cc
open Ww Cd Cr Nm

theorem str_len (s : ByteArray) : s.data.toList.length = s.size := Array.length_toList
/-- The block of a number, and what was there. -/
structure NK (w w' : World) (p q : Nat) : Prop where
  t : Rf.Two w' w.heap.size p q
  below : Below w.heap.size w w'
theorem NK.drew {w w' : World} {p q : Nat} (h : NK w w' p q) : NK w w'.drew p q := ⟨h.t.drew, h.below.drew⟩
theorem NK.call {w w' w1 : World} {p q : Nat} (h : NK w w' p q) (hb : Below w'.heap.size w' w1) : NK w w1 p q := ⟨h.t.below hb, h.below.trans (hb.mono h.below.size)⟩
theorem NK.put {w w' : World} {p q : Nat} (h : NK w w' p q) (p' q' : Nat) :
    NK w ((w'.setCell ⟨w.heap.size, 0, none⟩ (.int .u64 p')).setCell ⟨w.heap.size, 1, none⟩ (.int .u64 q')) p' q' :=
  ⟨h.t.put p' q', (h.below.setCell (by simp) _).setCell (by simp) _⟩
theorem dv_take (g : List UInt8) (i : Nat) (h : i < g.length) : dv (g.take (i + 1)) = 10 * dv (g.take i) + ((g.getD i 0).toNat - 48) := by
  have e : g.take (i + 1) = g.take i ++ [g.getD i 0] := by
    rw [List.take_succ_eq_append_getElem h]; simp [List.getD, h]
  rw [e, dv_snoc]
theorem dv_take_lt (g : List UInt8) (i : Nat) (hd : ∀ d, d ∈ g → Dig d) : dv (g.take i) < 10 ^ i := by
  have a := dv_lt (g.take i) (fun d h => hd d (List.mem_of_mem_take h))
  have b : (g.take i).length ≤ i := by simp; omega
  exact Nat.lt_of_lt_of_le a (Nat.pow_le_pow_right (by decide) b)
theorem wide_add (X d : Nat) (hX : X + d < 340282366920938463463374607431768211456) (hd : d < 18446744073709551616) (w : World) :
    Calls Tryd.prog 35 #[.agg #[.int .u64 (hi X : Nat), .int .u64 (lo X : Nat)], .agg #[.int .u64 0, .int .u64 d]] w fun e w' =>
      e = .returned (.tuple #[.agg #[.int .u64 (hi (X + d) : Nat), .int .u64 (lo (X + d) : Nat)], .int .u64 0]) ∧ Below w.heap.size w w' := by
  have A := Wd.add (hi X) (lo X) 0 d (hi_lt _) (lo_lt _) (by decide) hd w
  rw [vl_hi_lo, Nat.mod_eq_of_lt (by omega), show vl 0 d = d from by unfold vl; omega, Nat.div_eq_of_lt hX] at A
  exact A
theorem sub48 (b d : Nat) (h : 48 ≤ b) (hb : b ≤ 57) (e : b - 48 = d) : IntKind.u8.wrap ((b : Int) - 48) = (d : Int) := by
  rw [IntKind.wrap_u8]; omega

set_option maxHeartbeats 1000000 in
set_option maxRecDepth 100000 in
theorem number (s : ByteArray) (hn : s.size ≤ 20) (hd : ∀ d, d ∈ s.data.toList → Dig d) (w : World) :
    Calls Tryd.prog 30 #[.string s] w fun e w' => e = .returned (.agg #[.int .u64 (hi (dv s.data.toList) : Nat), .int .u64 (lo (dv s.data.toList) : Nat)]) ∧ Below w.heap.size w w' := by
  have HD := Lib.hid hd
  obtain ⟨p, hp0⟩ : ∃ p, p = hi (dv s.data.toList) := ⟨_, rfl⟩
  obtain ⟨q, hq0⟩ : ∃ q, q = lo (dv s.data.toList) := ⟨_, rfl⟩
  rw [← hp0, ← hq0]
  have HP0 := Lib.hid hp0
  have HQ0 := Lib.hid hq0
  clear hd hp0 hq0
  go_enter Tryd.func30, Tryd.ntmps30
  go_wp2_with fail
  go_loopw [6] (fun v6 wr => ∃ i : Nat, v6 = .int .i64 (i : Int) ∧ i ≤ s.size ∧ NK w wr (hi (dv (s.data.toList.take i))) (lo (dv (s.data.toList.take i)))) (fun v6 _ => s.size - (intOf v6).toNat)
  case atStart =>
    have z1 : hi (dv (s.data.toList.take 0)) = 0 := by simp [dv, hi]
    have z2 : lo (dv (s.data.toList.take 0)) = 0 := by simp [dv, lo]
    exact ⟨0, rfl, by omega, by rw [z1, z2]; exact ⟨Rf.Two.fresh w 0 0 _, (Below.refl _ _).alloc (Nat.le_refl _) _⟩⟩
  case round =>
    obtain ⟨i, rfl, hi', K⟩ := hrel
    by_cases hlt : i < s.size
    · have i1 : (i : Int) < s.size := by omega
      have hll := str_len s
      have e1 := dv_take s.data.toList i (by omega)
      have e2 := dv_take_lt s.data.toList i HD.out
      have hdi : Dig (s.data.toList.getD i 0) := HD.out _ (by
        have : i < s.data.toList.length := by omega
        simp only [List.getD, List.getElem?_eq_getElem this, Option.getD_some]
        exact List.getElem_mem _)
      rw [← str_at s i hlt] at e1 hdi
      unfold Dig at hdi
      have e3 : (10 : Nat) ^ i ≤ 10 ^ 19 := Nat.pow_le_pow_right (by decide) (by omega)
      clear HP0 HQ0
      obtain ⟨q, hq⟩ : ∃ q, q = dv (s.data.toList.take i) := ⟨_, rfl⟩
      rw [← hq] at e1 e2 K
      have eq1 : hi q = 0 := by unfold hi; omega
      have eq2 : lo q = q := by unfold lo; omega
      rw [eq1, eq2] at K
      obtain ⟨d, hde⟩ : ∃ d, s[i].toNat - 48 = d := ⟨_, rfl⟩
      rw [hde] at e1
      have d1 := sub48 _ d hdi.1 hdi.2 hde
      have d2 := Bt.wrapN d (by omega)
      have M := Lib.hid (fun W => Wd.mul q 10 (by omega) (by decide) W)
      have D := Lib.hid (fun W => wide_add (q * 10) d (by omega) (by omega) W)
      rw [show q * 10 + d = dv (s.data.toList.take (i + 1)) from by omega] at D
      generalize hV : dv (s.data.toList.take (i + 1)) = V at *
      have HV := Lib.hid hV
      clear hV hq e1 e2 e3 eq1 eq2 hdi hde hll
      generalize Nm.hi (q * 10) = m1 at *
      generalize Nm.lo (q * 10) = m2 at *
      generalize hp' : Nm.hi V = p' at *
      generalize hq' : Nm.lo V = q' at *
      have HP := Lib.hid hp'
      have HQ := Lib.hid hq'
      clear hp' hq'
      have hz : w.heap.size < wr.heap.size := World.block_lt_of_cell? wr _ K.t.c0
      go_upto_block 1 with fail
      go_cut [9] (fun v9 wx => NK w wx p' q')
      case first =>
        have k0 := K.t.c0
        have k1 := K.t.c1
        go_wp2_with fail
        go_region_with (first
            | (go_at_call 36; refine (M.out _).mono ?_; rintro e w1 ⟨rfl, hb1⟩; have K1 := K.drew.call hb1; have g0 := K1.t.c0; have g1 := K1.t.c1; have g2 := K1.t.f0; have g3 := K1.t.f1)
            | (go_at_call 35; refine (D.out _).mono ?_; rintro e w2 ⟨rfl, hb2⟩; have K2 := K1.call hb2; have z2 := K2.t.f0; have z3 := K2.t.f1; have z0 := K2.t.c0; have z1 := K2.t.c1))
        all_goals (go_wp2_with fail; go_meet)
        all_goals exact K2.put p' q'
      case rest =>
        have K2 := hcut
        go_wp2_with fail
        go_roundw
        case rel => exact ⟨i + 1, rfl, by omega, by rw [HV.out, HP.out, HQ.out]; exact K2⟩
        case measure => simp [intOf]; omega
    · have i1 : ¬ (i : Int) < s.size := by omega
      obtain rfl : i = s.size := by omega
      rw [List.take_of_length_le (by rw [str_len]; exact Nat.le_refl _), ← HP0.out, ← HQ0.out] at K
      have k0 := K.t.c0
      have k1 := K.t.c1
      have k2 := K.t.f0
      have k3 := K.t.f1
      have K3 := K.put p q
      have y0 := K3.t.c0
      have y1 := K3.t.c1
      clear HD
      go_wp2
      exact bodyPost_ret (v := .agg #[.int .u64 p, .int .u64 q]) (by simp [results, Tryd.results30, go_sem, y0, y1]) rfl ⟨rfl, K3.below⟩
end Cc
end Go.Proofs.YtggocbblpgaaoaaDoor
