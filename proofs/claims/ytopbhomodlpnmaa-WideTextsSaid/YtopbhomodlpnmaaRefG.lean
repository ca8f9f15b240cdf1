/- The contract of the document's own answer for layer 1's Text: the decimal digits. -/
import Derived.Test.YtopbhomodlpnmaaRefF
import Derived.Test.YtopbhomodlpnmaaText
import Derived.Deep.DeepCutAuto
set_option linter.unusedVariables false
namespace Go.Proofs.Ytopbhomodlpnmaa
open Go.RowKit
namespace Rf
open Nm Wd

theorem dgs_succ (v t : Nat) : dgs v (t + 1) = ((48 + v / 10 ^ t % 10 : Nat) : Int) :: dgs v t := by
  unfold dgs
  rw [List.range_succ_eq_map, List.map_cons, List.map_map]
  congr 1
  apply List.map_congr_left
  intro i hi
  simp only [Function.comp]
  rw [show t + 1 - 1 - (i + 1) = t - 1 - i from by omega]
theorem str_cons (x : Int) (xs : List Int) : strOfNums (x :: xs) = strOfNums [x] ++ strOfNums xs := by
  apply ByteArray.ext
  simp [strOfNums]

/-- What holds ahead of each round: t digits are told. -/
structure XRel (w wr : World) (v t p q : Nat) : Prop where
  hp : p < 18446744073709551616
  hq : q < 18446744073709551616
  val : vl p q = v / 10 ^ t
  a : Two wr w.heap.size p q
  below : Below w.heap.size w wr

set_option maxHeartbeats 1000000 in
set_option maxRecDepth 100000 in
theorem text (h l j : Nat) (hh : h < 18446744073709551616) (hl : l < 18446744073709551616) (hj : j ≤ 39) (hj1 : 1 ≤ j) (hz : vl h l / 10 ^ j = 0) (hn : ∀ i, 1 ≤ i → i < j → vl h l / 10 ^ i ≠ 0) (w : World) :
    Calls Try.prog 28 #[.agg #[.int .u64 h, .int .u64 l]] w fun e w' => e = .returned (.string (strOfNums (dgs (vl h l) j))) ∧ Below w.heap.size w w' := by
  have HN := Lib.hid hn
  have HZ := Lib.hid hz
  clear hn hz
  go_enter Try.func28, Try.ntmps28
  go_wp2_with fail
  go_loopg [3] j (fun k v3 wr => ∃ t p q : Nat, k + t = j ∧ 1 ≤ k ∧ v3 = .string (strOfNums (dgs (vl h l) t)) ∧ XRel w wr (vl h l) t p q)
  case atStart => exact ⟨0, h, l, rfl, hj1, rfl, hh, hl, by simp, Two.fresh w h l _, (Below.refl _ _).alloc (Nat.le_refl _) _⟩
  case round =>
    obtain ⟨t, p, q, hk, hk1, rfl, X⟩ := hrel
    have C := Lib.hid (fun W => rem p q 10 X.hp X.hq (by omega) (by omega) W)
    have a0 := X.a.c0
    have a1 := X.a.c1
    have hn1 : strOfNums (dgs (vl h l) (t + 1)) = strOfNums [48 + ((vl p q % 10 : Nat) : Int)] ++ strOfNums (dgs (vl h l) t) := by
      rw [dgs_succ, str_cons, ← X.val, Int.natCast_add]; rfl
    have hv2 : vl (Nm.hi (vl p q / 10)) (Nm.lo (vl p q / 10)) = vl h l / 10 ^ (t + 1) := by
      have := vl_lt p q X.hp X.hq
      rw [vl_word _ (by omega), X.val, div_step]
    have hp2 := hi_lt (vl p q / 10)
    have hq2 := lo_lt (vl p q / 10)
    have hr10 : vl p q % 10 < 10 := Nat.mod_lt _ (by decide)
    have hsz : (strOfNums (dgs (vl h l) t)).size ≤ 39 := by rw [strOfNums_size, dgs_length]; omega
    generalize vl p q % 10 = r at C hn1 hr10
    generalize Nm.hi (vl p q / 10) = p' at C hv2 hp2
    generalize Nm.lo (vl p q / 10) = q' at C hv2 hq2
    have HV := Lib.hid hv2
    clear hv2
    have hc1 : (strOfNums [48 + (r : Int)]).size = 1 := by rw [strOfNums_size]; rfl
    have hcv := fun W (hW : W.cell? ⟨(W.heap.size - 1), 0, none⟩ = some (.int .u8 (48 + (r : Int)))) => run_convert_bytes_arg W 52 5 Try.underlying52 Try.underlying5 (W.heap.size - 1) 0 1 1 [48 + (r : Int)] rfl (fun i hi => by have e : i = 0 := Nat.lt_one_iff.1 hi; subst e; exact hW) 9 Try.underlying9
    have HCV := Lib.hid hcv
    have HN1 := Lib.hid hn1
    clear hcv hn1
    generalize hs : strOfNums (dgs (vl h l) t) = s at hsz HN1 ⊢
    generalize strOfNums [48 + (r : Int)] = c at HCV HN1 hc1
    have n1 : ¬ 9223372036854775807 < c.size + s.size := by omega
    have n2 : c.size + s.size ≤ 9223372036854775807 := by omega
    have HC1 := Lib.hid hc1
    clear hs hc1
    go_wp2_with fail
    refine (C.out _).mono ?_
    rintro e w1 ⟨rfl, hb1⟩
    have A1 := X.a.below hb1
    have A2 := (A1.alloc (.cells #[.int .u64 p', .int .u64 q'] 25)).alloc (.cells #[.int .u8 (48 + (r : Int))] 5)
    have k0 := A1.c0
    have k1 := A1.c1
    have k2 := A1.f0
    have k3 := A1.f1
    have z0 := World.block_lt_of_cell? w1 _ A1.c0
    have hbl := X.below.trans (hb1.mono X.below.size)
    have hconv := HCV.out ((w1.alloc (.cells #[.int .u64 p', .int .u64 q'] 25)).alloc (.cells #[.int .u8 (48 + (r : Int))] 5)) (by simp [go_sem])
    simp only [World.size_alloc, Nat.add_sub_cancel] at hconv
    clear X hb1 C HCV a0 a1
    go_upto_region 5 with fail
    have A3 := ((A1.put p' q').alloc (.cells #[.int .u64 p', .int .u64 q'] 25)).alloc (.cells #[.int .u8 (48 + (r : Int))] 5)
    have hbl3 : Below w.heap.size w ((((w1.setCell ⟨w.heap.size, 0, none⟩ (.int .u64 p')).setCell ⟨w.heap.size, 1, none⟩ (.int .u64 q')).alloc (.cells #[.int .u64 p', .int .u64 q'] 25)).alloc (.cells #[.int .u8 (48 + (r : Int))] 5)) :=
      ((((hbl.setCell (by simp) _).setCell (by simp) _).alloc (by simp [World.setCell]; omega) _).alloc (by simp [World.setCell]; omega) _)
    generalize (((w1.setCell ⟨w.heap.size, 0, none⟩ (.int .u64 p')).setCell ⟨w.heap.size, 1, none⟩ (.int .u64 q')).alloc (.cells #[.int .u64 p', .int .u64 q'] 25)).alloc (.cells #[.int .u8 (48 + (r : Int))] 5) = w3 at A3 hbl3 ⊢
    clear k0 k1 k2 k3 z0 hbl hconv A1 A2
    have d0 := A3.c0
    have d1 := A3.c1
    by_cases hp0 : p' = 0
    · have x1 : ((p' : Int) == 0) = true := by simp; omega
      by_cases hq0 : q' = 0
      · have x2 : ((q' : Int) == 0) = true := by simp; omega
        have htj : t + 1 = j := by
          apply Nat.le_antisymm (by omega)
          apply Nat.le_of_not_lt
          intro hlt
          exact HN.out (t + 1) (by omega) hlt (by rw [← HV.out, hp0, hq0]; rfl)
        have HJ := Lib.hid htj
        clear htj hp0 hq0
        go_wp2
        go_ret
        refine ⟨?_, hbl3⟩
        rw [← HJ.out, HN1.out]
        rfl
      · have x2 : ((q' : Int) == 0) = false := by simp; omega
        have hlt : t + 1 < j := by
          apply Nat.lt_of_le_of_ne (by omega)
          intro e
          have v := HV.out
          rw [e, HZ.out] at v
          unfold vl at v
          omega
        clear hp0 hq0
        go_wp2_with fail
        go_roundg (gk - 1)
        case measure => omega
        case rel => exact ⟨t + 1, p', q', by omega, by omega, by rw [HN1.out], hp2, hq2, HV.out, A3, hbl3⟩
    · have x1 : ((p' : Int) == 0) = false := by simp; omega
      have hlt : t + 1 < j := by
        apply Nat.lt_of_le_of_ne (by omega)
        intro e
        have v := HV.out
        rw [e, HZ.out] at v
        unfold vl at v
        omega
      clear hp0
      go_wp2_with fail
      go_roundg (gk - 1)
      case measure => omega
      case rel => exact ⟨t + 1, p', q', by omega, by omega, by rw [HN1.out], hp2, hq2, HV.out, A3, hbl3⟩
end Rf
end Go.Proofs.Ytopbhomodlpnmaa
