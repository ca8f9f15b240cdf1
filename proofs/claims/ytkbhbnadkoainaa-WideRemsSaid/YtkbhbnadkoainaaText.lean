/- The contract of package wide's Text: the decimal digits of every number; nothing that was there is written. -/
import Derived.Test.YtkbhbnadkoainaaRem
import Derived.Deep.LoopGhost
import Derived.Laws.BytesArg
set_option linter.unusedVariables false
namespace Go.Proofs.Ytkbhbnadkoainaa
open Go.RowKit
namespace Wd
open Nm

/-- The last j decimal digits of v, the first one first, as the bytes of a text. -/
def dgs (v j : Nat) : List Int := (List.range j).map fun i => ((48 + v / 10 ^ (j - 1 - i) % 10 : Nat) : Int)
theorem dgs_length (v j : Nat) : (dgs v j).length = j := by simp [dgs]
theorem dgs_getD (v j i : Nat) (h : i < j) : (dgs v j).getD i 0 = ((48 + v / 10 ^ (j - 1 - i) % 10 : Nat) : Int) := by
  simp [dgs, List.getD, h]

/-- What the array holds behind t rounds: the last t digits, at its end; the other places hold bytes. -/
structure Arr (v t b : Nat) (w : World) : Prop where
  any : ∀ i, i < 39 → ∃ u : Int, w.cell? ⟨b, i, none⟩ = some (.int .u8 u)
  dig : ∀ i, 39 ≤ i + t → i < 39 → w.cell? ⟨b, i, none⟩ = some (.int .u8 ((48 + v / 10 ^ (38 - i) % 10 : Nat) : Int))
  soft : ∀ i, i < 39 → w.frozen? ⟨b, i, none⟩ = false

theorem Arr.below {v t b : Nat} {w w' : World} (h : Arr v t b w) (hb : Below w.heap.size w w') (hB : b < w.heap.size) : Arr v t b w' :=
  ⟨fun i hi => by obtain ⟨u, hu⟩ := h.any i hi; exact ⟨u, (hb.cell (p := ⟨b, i, none⟩) hB).trans hu⟩,
   fun i h1 h2 => (hb.cell (p := ⟨b, i, none⟩) hB).trans (h.dig i h1 h2),
   fun i hi => (hb.frozen (p := ⟨b, i, none⟩) hB).trans (h.soft i hi)⟩
theorem Arr.other {v t b : Nat} {w : World} (h : Arr v t b w) {p : Addr} (hp : p.block ≠ b) (x : Value) : Arr v t b (w.setCell p x) :=
  ⟨fun i hi => by obtain ⟨u, hu⟩ := h.any i hi; exact ⟨u, (World.cell?_setCell_other w p ⟨b, i, none⟩ x (fun e => hp (by rw [e]))).trans hu⟩,
   fun i h1 h2 => (World.cell?_setCell_other w p ⟨b, i, none⟩ x (fun e => hp (by rw [e]))).trans (h.dig i h1 h2),
   fun i hi => by rw [World.frozen?_setCell]; exact h.soft i hi⟩
theorem Arr.next {v t b : Nat} {w : World} (h : Arr v t b w) (ht : t < 39) : Arr v (t + 1) b (w.setCell ⟨b, 38 - t, none⟩ (.int .u8 ((48 + v / 10 ^ t % 10 : Nat) : Int))) := by
  refine ⟨fun i hi => ?_, fun i h1 h2 => ?_, fun i hi => by rw [World.frozen?_setCell]; exact h.soft i hi⟩
  · by_cases e : i = 38 - t
    · subst e
      obtain ⟨u, hu⟩ := h.any (38 - t) (by omega)
      exact ⟨_, World.cell?_setCell_same w _ _ hu⟩
    · obtain ⟨u, hu⟩ := h.any i hi
      exact ⟨u, (World.cell?_setCell_other w _ ⟨b, i, none⟩ _ (fun e' => e (by injection e' with _ e2; exact e2.symm))).trans hu⟩
  · by_cases e : i = 38 - t
    · subst e
      obtain ⟨u, hu⟩ := h.any (38 - t) (by omega)
      rw [World.cell?_setCell_same w _ _ hu, show 38 - (38 - t) = t from by omega]
    · rw [World.cell?_setCell_other w _ ⟨b, i, none⟩ _ (fun e' => e (by injection e' with _ e2; exact e2.symm))]
      exact h.dig i (by omega) h2

/-- What holds ahead of each round: the number that is left, and the array. -/
structure TRel (w wr : World) (v t p q : Nat) : Prop where
  hp : p < 18446744073709551616
  hq : q < 18446744073709551616
  val : vl p q = v / 10 ^ t
  c0 : wr.cell? ⟨w.heap.size, 0, none⟩ = some (.int .u64 p)
  c1 : wr.cell? ⟨w.heap.size, 1, none⟩ = some (.int .u64 q)
  f0 : wr.frozen? ⟨w.heap.size, 0, none⟩ = false
  f1 : wr.frozen? ⟨w.heap.size, 1, none⟩ = false
  arr : Arr v t (w.heap.size + 1) wr
  size : w.heap.size + 2 ≤ wr.heap.size
  below : Below w.heap.size w wr

theorem trel_start (w : World) (h l : Nat) (t1 t2 : TypeId) (hh : h < 18446744073709551616) (hl : l < 18446744073709551616) :
    TRel w ((w.alloc (.cells #[.int .u64 h, .int .u64 l] t1)).alloc (.cells (List.replicate 39 (.int .u8 0)).toArray t2)) (vl h l) 0 h l := by
  have hs : w.heap.size + 1 = (w.alloc (.cells #[.int .u64 h, .int .u64 l] t1)).heap.size := by simp
  refine ⟨hh, hl, by simp, by simp [go_sem], by simp [go_sem], by simp [go_sem], by simp [go_sem], ⟨fun i hi => ⟨0, ?_⟩, fun i h1 h2 => by omega, fun i hi => ?_⟩, by simp, ?_⟩
  · rw [hs, World.cell?_alloc_mark, List.getElem?_toArray, List.getElem?_replicate, if_pos hi]
  · rw [hs]
    simp [go_sem]
  · exact ((Below.refl _ _).alloc (Nat.le_refl _) _).alloc (by simp) _

theorem byte_step (r v : Nat) (hr : v % 10 = r) : (48 + (r : Int)) % 256 = ((48 + v % 10 : Nat) : Int) := by omega
theorem div_step (v t : Nat) : v / 10 ^ t / 10 = v / 10 ^ (t + 1) := by rw [Nat.div_div_eq_div_mul, Nat.pow_succ]

theorem trel_next (w wr w1 : World) (v t p q : Nat) (T : TRel w wr v t p q) (ht : t < 39) (hb : Below wr.heap.size wr w1) :
    TRel w (((w1.setCell ⟨w.heap.size, 0, none⟩ (.int .u64 (hi (vl p q / 10) : Nat))).setCell ⟨w.heap.size, 1, none⟩ (.int .u64 (lo (vl p q / 10) : Nat))).setCell ⟨w.heap.size + 1, 38 - t, none⟩ (.int .u8 ((48 + vl p q % 10 : Nat) : Int))) v (t + 1) (hi (vl p q / 10)) (lo (vl p q / 10)) := by
  have hsz := T.size
  have c0 : w1.cell? ⟨w.heap.size, 0, none⟩ = some (.int .u64 p) := (hb.cell (p := ⟨w.heap.size, 0, none⟩) (by simp; omega)).trans T.c0
  have c1 : w1.cell? ⟨w.heap.size, 1, none⟩ = some (.int .u64 q) := (hb.cell (p := ⟨w.heap.size, 1, none⟩) (by simp; omega)).trans T.c1
  have hlt := vl_lt p q T.hp T.hq
  refine ⟨hi_lt _, lo_lt _, ?_, ?_, ?_, ?_, ?_, ?_, ?_, ?_⟩
  · rw [vl_hi_lo, Nat.mod_eq_of_lt (by omega), T.val, div_step]
  · rw [World.cell?_setCell_other _ _ _ _ (by simp), World.cell?_setCell_other _ _ _ _ (by simp), World.cell?_setCell_same _ _ _ c0]
  · rw [World.cell?_setCell_other _ _ _ _ (by simp), World.cell?_setCell_same _ _ _ ((World.cell?_setCell_other _ _ _ _ (by simp)).trans c1)]
  · simp only [World.frozen?_setCell]
    exact (hb.frozen (p := ⟨w.heap.size, 0, none⟩) (by simp; omega)).trans T.f0
  · simp only [World.frozen?_setCell]
    exact (hb.frozen (p := ⟨w.heap.size, 1, none⟩) (by simp; omega)).trans T.f1
  · have A := ((T.arr.below hb (by omega)).other (p := ⟨w.heap.size, 0, none⟩) (by simp) (.int .u64 (hi (vl p q / 10) : Nat))).other (p := ⟨w.heap.size, 1, none⟩) (by simp) (.int .u64 (lo (vl p q / 10) : Nat))
    have A2 := A.next ht
    rw [← T.val] at A2
    exact A2
  · have := hb.size
    rw [World.size_setCell, World.size_setCell, World.size_setCell]
    omega
  · exact (((T.below.trans (hb.mono (by omega))).setCell (p := ⟨w.heap.size, 0, none⟩) (Nat.le_refl _) _).setCell (p := ⟨w.heap.size, 1, none⟩) (Nat.le_refl _) _).setCell (p := ⟨w.heap.size + 1, 38 - t, none⟩) (by simp) _

set_option maxHeartbeats 1000000 in
set_option maxRecDepth 100000 in
theorem text_a (h l j : Nat) (hh : h < 18446744073709551616) (hl : l < 18446744073709551616) (h0 : ¬ h = 0) (hj : j ≤ 39) (hj1 : 1 ≤ j) (hz : vl h l / 10 ^ j = 0) (hn : ∀ i, i < j → vl h l / 10 ^ i ≠ 0) (w : World) :
    Calls Try.prog 38 #[.agg #[.int .u64 h, .int .u64 l]] w fun e w' => e = .returned (.string (strOfNums (dgs (vl h l) j))) ∧ Below w.heap.size w w' := by
  have HN := Lib.hid hn
  have HZ := Lib.hid hz
  clear hn hz
  go_enter Try.func38, Try.ntmps38
  go_wp2_with fail
  go_loopg [4, 5] j (fun k v4 v5 wr => ∃ t p q : Nat, k + t = j ∧ v4 = .int .i64 ((39 - t : Nat) : Int) ∧ TRel w wr (vl h l) t p q)
  case atStart => exact ⟨0, h, l, rfl, rfl, trel_start w h l _ _ hh hl⟩
  case round =>
    obtain ⟨t, p, q, hk, rfl, T⟩ := hrel
    clear h0
    by_cases hp0 : p = 0
    · subst hp0
      by_cases hq0 : q = 0
      · subst hq0
        have htj : t = j := by
          apply Nat.le_antisymm (by omega)
          apply Nat.le_of_not_lt
          intro hlt
          exact HN.out t hlt (by rw [← T.val]; rfl)
        have Tr := T.arr
        subst htj
        obtain ⟨a, ha⟩ : ∃ a, a + t = 39 := ⟨39 - t, by omega⟩
        rw [show 39 - t = a from by omega]
        have c0 := T.c0
        have c1 := T.c1
        have hsz := T.size
        have i1 : (a : Int) ≤ 39 := by omega
        have i2 : ¬ 39 = a := by omega
        have A39 : Try.prog.arrayLen 61 = 39 := by kernel_rfl
        have hconv := run_convert_bytes_arg wr 62 5 Try.underlying62 Try.underlying5 (w.heap.size + 1) a (39 - a) (39 - a) (dgs (vl h l) t) (by rw [dgs_length]; omega)
          (fun i hi => by rw [dgs_getD _ _ _ (by omega), Tr.dig (a + i) (by omega) (by omega), show 38 - (a + i) = t - 1 - i from by omega]) 9 Try.underlying9
        generalize hs : strOfNums (dgs (vl h l) t) = s at hconv
        have HS := Lib.hid hs
        clear hs ha Tr
        go_wp2
        go_ret
        exact ⟨by rw [HS.out]; rfl, T.below⟩
      · have htj : t < j := by
          apply Nat.lt_of_not_le
          intro hle
          have e : t = j := by omega
          have v := T.val
          rw [e, HZ.out] at v
          unfold vl at v
          omega
        obtain ⟨a, ha⟩ : ∃ a, 39 - t = a + 1 := ⟨38 - t, by omega⟩
        rw [ha]
        have R := Lib.hid (fun W => rem 0 q 10 T.hp T.hq (by omega) (by omega) W)
        generalize hr : vl 0 q % 10 = r at R
        have HE : Hid ((48 + (r : Int)) % 256 = ((48 + vl 0 q % 10 : Nat) : Int)) := byte_step r (vl 0 q) hr
        clear hr
        have c0 := T.c0
        have c1 := T.c1
        have hsz := T.size
        go_wp2_with (go_at_call 12; refine (R.out _).mono ?_; rintro e w1 ⟨rfl, hb⟩; have k0 := (hb.cell (p := ⟨w.heap.size, 0, none⟩) (by simp; omega)).trans T.c0; have k1 := (hb.cell (p := ⟨w.heap.size, 1, none⟩) (by simp; omega)).trans T.c1; have k2 := (hb.frozen (p := ⟨w.heap.size, 0, none⟩) (by simp; omega)).trans T.f0; have k3 := (hb.frozen (p := ⟨w.heap.size, 1, none⟩) (by simp; omega)).trans T.f1; obtain ⟨u, hu⟩ := (T.arr.below hb (by omega)).any a (by omega); have hf := (T.arr.below hb (by omega)).soft a (by omega))
        go_roundg (gk - 1)
        case measure => omega
        case rel =>
          refine ⟨t + 1, hi (vl 0 q / 10), lo (vl 0 q / 10), by omega, by rw [show 39 - (t + 1) = a from by omega], ?_⟩
          rw [HE.out, show a = 38 - t from by omega]
          exact trel_next w wr w1 _ t 0 q T (by omega) hb
    · have htj : t < j := by
        apply Nat.lt_of_not_le
        intro hle
        have e : t = j := by omega
        have v := T.val
        rw [e, HZ.out] at v
        unfold vl at v
        omega
      obtain ⟨a, ha⟩ : ∃ a, 39 - t = a + 1 := ⟨38 - t, by omega⟩
      rw [ha]
      have R := Lib.hid (fun W => rem p q 10 T.hp T.hq (by omega) (by omega) W)
      generalize hr : vl p q % 10 = r at R
      have HE : Hid ((48 + (r : Int)) % 256 = ((48 + vl p q % 10 : Nat) : Int)) := byte_step r (vl p q) hr
      clear hr
      have c0 := T.c0
      have c1 := T.c1
      have hsz := T.size
      go_wp2_with (go_at_call 12; refine (R.out _).mono ?_; rintro e w1 ⟨rfl, hb⟩; have k0 := (hb.cell (p := ⟨w.heap.size, 0, none⟩) (by simp; omega)).trans T.c0; have k1 := (hb.cell (p := ⟨w.heap.size, 1, none⟩) (by simp; omega)).trans T.c1; have k2 := (hb.frozen (p := ⟨w.heap.size, 0, none⟩) (by simp; omega)).trans T.f0; have k3 := (hb.frozen (p := ⟨w.heap.size, 1, none⟩) (by simp; omega)).trans T.f1; obtain ⟨u, hu⟩ := (T.arr.below hb (by omega)).any a (by omega); have hf := (T.arr.below hb (by omega)).soft a (by omega))
      go_roundg (gk - 1)
      case measure => omega
      case rel =>
        refine ⟨t + 1, hi (vl p q / 10), lo (vl p q / 10), by omega, by rw [show 39 - (t + 1) = a from by omega], ?_⟩
        rw [HE.out, show a = 38 - t from by omega]
        exact trel_next w wr w1 _ t p q T (by omega) hb

set_option maxHeartbeats 1000000 in
set_option maxRecDepth 100000 in
theorem text_b (l j : Nat) (hl : l < 18446744073709551616) (l0 : ¬ l = 0) (hj : j ≤ 39) (hj1 : 1 ≤ j) (hz : vl 0 l / 10 ^ j = 0) (hn : ∀ i, i < j → vl 0 l / 10 ^ i ≠ 0) (w : World) :
    Calls Try.prog 38 #[.agg #[.int .u64 0, .int .u64 l]] w fun e w' => e = .returned (.string (strOfNums (dgs (vl 0 l) j))) ∧ Below w.heap.size w w' := by
  have HN := Lib.hid hn
  have HZ := Lib.hid hz
  clear hn hz
  go_enter Try.func38, Try.ntmps38
  go_wp2_with fail
  go_loopg [4, 5] j (fun k v4 v5 wr => ∃ t p q : Nat, k + t = j ∧ v4 = .int .i64 ((39 - t : Nat) : Int) ∧ TRel w wr (vl 0 l) t p q)
  case atStart => exact ⟨0, 0, l, rfl, rfl, trel_start w 0 l _ _ (by omega) hl⟩
  case round =>
    obtain ⟨t, p, q, hk, rfl, T⟩ := hrel
    clear l0
    by_cases hp0 : p = 0
    · subst hp0
      by_cases hq0 : q = 0
      · subst hq0
        have htj : t = j := by
          apply Nat.le_antisymm (by omega)
          apply Nat.le_of_not_lt
          intro hlt
          exact HN.out t hlt (by rw [← T.val]; rfl)
        have Tr := T.arr
        subst htj
        obtain ⟨a, ha⟩ : ∃ a, a + t = 39 := ⟨39 - t, by omega⟩
        rw [show 39 - t = a from by omega]
        have c0 := T.c0
        have c1 := T.c1
        have hsz := T.size
        have i1 : (a : Int) ≤ 39 := by omega
        have i2 : ¬ 39 = a := by omega
        have A39 : Try.prog.arrayLen 61 = 39 := by kernel_rfl
        have hconv := run_convert_bytes_arg wr 62 5 Try.underlying62 Try.underlying5 (w.heap.size + 1) a (39 - a) (39 - a) (dgs (vl 0 l) t) (by rw [dgs_length]; omega)
          (fun i hi => by rw [dgs_getD _ _ _ (by omega), Tr.dig (a + i) (by omega) (by omega), show 38 - (a + i) = t - 1 - i from by omega]) 9 Try.underlying9
        generalize hs : strOfNums (dgs (vl 0 l) t) = s at hconv
        have HS := Lib.hid hs
        clear hs ha Tr
        go_wp2
        go_ret
        exact ⟨by rw [HS.out]; rfl, T.below⟩
      · have htj : t < j := by
          apply Nat.lt_of_not_le
          intro hle
          have e : t = j := by omega
          have v := T.val
          rw [e, HZ.out] at v
          unfold vl at v
          omega
        obtain ⟨a, ha⟩ : ∃ a, 39 - t = a + 1 := ⟨38 - t, by omega⟩
        rw [ha]
        have R := Lib.hid (fun W => rem 0 q 10 T.hp T.hq (by omega) (by omega) W)
        generalize hr : vl 0 q % 10 = r at R
        have HE : Hid ((48 + (r : Int)) % 256 = ((48 + vl 0 q % 10 : Nat) : Int)) := byte_step r (vl 0 q) hr
        clear hr
        have c0 := T.c0
        have c1 := T.c1
        have hsz := T.size
        go_wp2_with (go_at_call 12; refine (R.out _).mono ?_; rintro e w1 ⟨rfl, hb⟩; have k0 := (hb.cell (p := ⟨w.heap.size, 0, none⟩) (by simp; omega)).trans T.c0; have k1 := (hb.cell (p := ⟨w.heap.size, 1, none⟩) (by simp; omega)).trans T.c1; have k2 := (hb.frozen (p := ⟨w.heap.size, 0, none⟩) (by simp; omega)).trans T.f0; have k3 := (hb.frozen (p := ⟨w.heap.size, 1, none⟩) (by simp; omega)).trans T.f1; obtain ⟨u, hu⟩ := (T.arr.below hb (by omega)).any a (by omega); have hf := (T.arr.below hb (by omega)).soft a (by omega))
        go_roundg (gk - 1)
        case measure => omega
        case rel =>
          refine ⟨t + 1, hi (vl 0 q / 10), lo (vl 0 q / 10), by omega, by rw [show 39 - (t + 1) = a from by omega], ?_⟩
          rw [HE.out, show a = 38 - t from by omega]
          exact trel_next w wr w1 _ t 0 q T (by omega) hb
    · have htj : t < j := by
        apply Nat.lt_of_not_le
        intro hle
        have e : t = j := by omega
        have v := T.val
        rw [e, HZ.out] at v
        unfold vl at v
        omega
      obtain ⟨a, ha⟩ : ∃ a, 39 - t = a + 1 := ⟨38 - t, by omega⟩
      rw [ha]
      have R := Lib.hid (fun W => rem p q 10 T.hp T.hq (by omega) (by omega) W)
      generalize hr : vl p q % 10 = r at R
      have HE : Hid ((48 + (r : Int)) % 256 = ((48 + vl p q % 10 : Nat) : Int)) := byte_step r (vl p q) hr
      clear hr
      have c0 := T.c0
      have c1 := T.c1
      have hsz := T.size
      go_wp2_with (go_at_call 12; refine (R.out _).mono ?_; rintro e w1 ⟨rfl, hb⟩; have k0 := (hb.cell (p := ⟨w.heap.size, 0, none⟩) (by simp; omega)).trans T.c0; have k1 := (hb.cell (p := ⟨w.heap.size, 1, none⟩) (by simp; omega)).trans T.c1; have k2 := (hb.frozen (p := ⟨w.heap.size, 0, none⟩) (by simp; omega)).trans T.f0; have k3 := (hb.frozen (p := ⟨w.heap.size, 1, none⟩) (by simp; omega)).trans T.f1; obtain ⟨u, hu⟩ := (T.arr.below hb (by omega)).any a (by omega); have hf := (T.arr.below hb (by omega)).soft a (by omega))
      go_roundg (gk - 1)
      case measure => omega
      case rel =>
        refine ⟨t + 1, hi (vl p q / 10), lo (vl p q / 10), by omega, by rw [show 39 - (t + 1) = a from by omega], ?_⟩
        rw [HE.out, show a = 38 - t from by omega]
        exact trel_next w wr w1 _ t p q T (by omega) hb

set_option maxHeartbeats 400000 in
theorem text_zero (w : World) :
    Calls Try.prog 38 #[.agg #[.int .u64 0, .int .u64 0]] w fun e w' => e = .returned (.string ⟨#[48]⟩) ∧ Below w.heap.size w w' := by
  go_enter Try.func38, Try.ntmps38
  go_wp2
  go_ret
  exact ⟨rfl, (Below.refl _ _).alloc (Nat.le_refl _) _⟩

/-- Text of every number but 0 that has j digits. -/
theorem text (h l j : Nat) (hh : h < 18446744073709551616) (hl : l < 18446744073709551616) (hj : j ≤ 39) (hj1 : 1 ≤ j) (hz : vl h l / 10 ^ j = 0) (hn : ∀ i, i < j → vl h l / 10 ^ i ≠ 0) (w : World) :
    Calls Try.prog 38 #[.agg #[.int .u64 h, .int .u64 l]] w fun e w' => e = .returned (.string (strOfNums (dgs (vl h l) j))) ∧ Below w.heap.size w w' := by
  by_cases h0 : h = 0
  · subst h0
    have l0 : ¬ l = 0 := by
      intro e
      subst e
      exact hn 0 (by omega) (by decide)
    exact text_b l j hl l0 hj hj1 hz hn w
  · exact text_a h l j hh hl h0 hj hj1 hz hn w
end Wd
end Go.Proofs.Ytkbhbnadkoainaa
