/- Contracts of the library's Grow and Concat at rows of words, of package rows' Join. / Contracts of the library's Concat at rows of words, of package rows' Join. -/
import Derived.Test.YtnnieiedkjekpaaDoorRowG
import Derived.Lib.AppendZeros
import Derived.Lib.SliceRun
import Derived.Lib.Walk
import Derived.Lib.Hide
set_option linter.unusedVariables false
namespace Go.Proofs.YtnnieiedkjekpaaDoor
open Go.RowKit Go.Lib Go.Sort
namespace Jn
open Ww Pl

theorem underI : Tryd.prog.underlying 3 = some (.int .i64) := Tryd.underlying3
/-- A new row of so many noughts, cut to none. -/
theorem ow_grown (w : World) (n : Nat) (h0 : 0 < n) (hn : n ≤ 1099511627776) : Ow (w.drew.alloc (.cells (Builtin.zeroCells #[.int .u64 0] n ++ Builtin.zeroCells #[.int .u64 0] (grownCap w n 0 32 - n)) 32)) w.heap.size (.slice (some ⟨w.heap.size, 0, none⟩) 0 (grownCap w n 0 32)) [] := by
  have h1 := grownCap_ge w n 0 32
  have h2 := grownCap_le_maxLen w n 0 32 (by unfold maxLen; omega)
  refine ⟨rfl, Or.inr ⟨w.heap.size, _, _, rfl, Nat.le_refl _, heap_alloc_new w.drew _, Nat.zero_le _, h2, ?_, by simp⟩⟩
  simp [Builtin.zeroCells]
  omega
set_option maxHeartbeats 400000 in
theorem grow_zero (w : World) :
    Calls Tryd.prog 52 #[.slice none 0 0, .int .i64 0] w fun e w' => e = .returned (.slice none 0 0) ∧ w = w' := by
  go_enter Tryd.func52, Tryd.ntmps52
  go_wp2
  go_ret
  exact ⟨rfl, rfl⟩
set_option maxHeartbeats 1000000 in
set_option maxRecDepth 100000 in
theorem grow (n : Nat) (h0 : 0 < n) (hn : n ≤ 1099511627776) (w : World) :
    Calls Tryd.prog 52 #[.slice none 0 0, .int .i64 (n : Int)] w (Out [] w) := by
  have OG := Lib.hid (ow_grown w n h0 hn)
  obtain ⟨i, hi⟩ : ∃ i, Tryd.prog.info? 32 = some i := by
    cases e : Tryd.prog.info? 32 with
    | none => have := infoU; rw [e] at this; cases this
    | some i => exact ⟨i, rfl⟩
  have hU := infoU
  rw [hi] at hU
  simp only [Option.map_some, Option.some.injEq, Prod.mk.injEq] at hU
  have hrz : ∀ ty, (Builtin.append_ #[22, 3] ty #[.slice none 0 0, .int .i64 (n : Int)]).run Tryd.prog w = .ok (.slice (some ⟨w.heap.size, 0, none⟩) n (grownCap w n 0 32)) (w.drew.alloc (.cells (Builtin.zeroCells #[.int .u64 0] n ++ Builtin.zeroCells #[.int .u64 0] (grownCap w n 0 32 - n)) 32)) := fun ty =>
    Lib.run_append_nil_zeros w 22 3 ty 32 i (.int .u64 0) .i64 .i64 Tryd.underlying22 underI hi hU.1 n h0 (by omega) (by omega) (by rw [hU.2.2]; omega)
  have BD := Lib.hid ((Below.refl w.heap.size w).drew.alloc (o := .cells (Builtin.zeroCells #[.int .u64 0] n ++ Builtin.zeroCells #[.int .u64 0] (grownCap w n 0 32 - n)) 32) (Nat.le_refl _))
  have hG := grownCap_ge w n 0 32
  have hG2 := grownCap_le_maxLen w n 0 32 (by unfold maxLen; omega)
  unfold maxLen at hG2
  obtain ⟨G, eG⟩ : ∃ G, G = grownCap w n 0 32 := ⟨_, rfl⟩
  rw [← eG] at hrz hG hG2 OG BD
  obtain ⟨W, eW⟩ : ∃ W, W = w.drew.alloc (.cells (Builtin.zeroCells #[.int .u64 0] n ++ Builtin.zeroCells #[.int .u64 0] (G - n)) 32) := ⟨_, rfl⟩
  rw [← eW] at hrz OG BD
  have n1 : (0 : Int) < n := by omega
  clear eG eW hU hi
  go_enter Tryd.func52, Tryd.ntmps52
  go_wp2_with (at_builtin; refine Lib.wpList_append_run _ rfl _ _ _ _ rfl _ _ rfl rfl _ _ (hrz _) ?_)
  all_goals (go_ret; exact ⟨_, rfl, OG.out, BD.out⟩)
end Jn
end Go.Proofs.YtnnieiedkjekpaaDoor
set_option linter.unusedVariables false
namespace Go.Proofs.YtnnieiedkjekpaaDoor
open Go.RowKit Go.Lib Go.Sort
namespace Jn
open Ww Pl

/-- A slice of rows; a row that is nil has no capacity. -/
structure Rj (w : World) (B : Nat) (A : Option Addr) (ls : List (List Nat)) : Prop where
  at_ : ∀ i, i < ls.length → ∃ (b off : Nat) (Ai : Option Addr) (ci : Nat), A = some ⟨b, off, none⟩ ∧ b < B ∧ w.cell? ⟨b, off + i, none⟩ = some (.slice Ai (ls.getD i []).length ci) ∧ Ws w B Ai (ls.getD i []) ∧ (Ai = none → ci = 0)
section
variable {w w' : World} {B B' : Nat} {A : Option Addr} {ls : List (List Nat)}
theorem Rj.below (h : Rj w B A ls) (hb : Below B w w') : Rj w' B A ls :=
  ⟨fun i hi => by
    obtain ⟨b, off, Ai, ci, e, hB, c, R, z⟩ := h.at_ i hi
    exact ⟨b, off, Ai, ci, e, hB, (hb.cell (p := ⟨b, off + i, none⟩) hB).trans c, R.below hb, z⟩⟩
theorem Rj.more (h : Rj w B A ls) (hB : B ≤ B') : Rj w B' A ls :=
  ⟨fun i hi => by
    obtain ⟨b, off, Ai, ci, e, h2, c, R, z⟩ := h.at_ i hi
    exact ⟨b, off, Ai, ci, e, Nat.lt_of_lt_of_le h2 hB, c, R.more hB, z⟩⟩
theorem Rj.step (h : Rj w w.heap.size A ls) (hb : Below w.heap.size w w') : Rj w' w'.heap.size A ls := (h.below hb).more hb.size
theorem Rj.nil_ (w : World) (B : Nat) (A : Option Addr) : Rj w B A [] := ⟨fun i hi => by simp at hi⟩
/-- A row, laid just now. -/
theorem rj_one {A1 : Option Addr} {n : Nat} (c1 : Nat) {xs : List Nat} (hx : xs.length = n) (R1 : Ws w w.heap.size A1 xs) (z : A1 = none → c1 = 0) (t : TypeId) :
    Rj (w.alloc (.cells #[.slice A1 n c1] t)) (w.alloc (.cells #[.slice A1 n c1] t)).heap.size (some ⟨w.heap.size, 0, none⟩) [xs] := by
  subst hx
  have hb := below_alloc w (.cells #[.slice A1 xs.length c1] t)
  refine ⟨fun i hi => ?_⟩
  rcases i with _ | i
  · exact ⟨w.heap.size, 0, A1, c1, rfl, by simp, by simp [go_sem], R1.step hb, z⟩
  · exact absurd hi (by simp)
/-- How many words the first rows have. -/
def tot (ls : List (List Nat)) (i : Nat) : Nat := (ls.take i).flatten.length
theorem tot_zero (ls : List (List Nat)) : tot ls 0 = 0 := rfl
theorem take_succ_flat (ls : List (List Nat)) (i : Nat) (h : i < ls.length) : (ls.take (i + 1)).flatten = (ls.take i).flatten ++ ls.getD i [] := by
  rw [List.take_succ_eq_append_getElem h, List.flatten_append]
  simp [List.getD, h]
theorem tot_succ (ls : List (List Nat)) (i : Nat) (h : i < ls.length) : tot ls (i + 1) = tot ls i + (ls.getD i []).length := by
  unfold tot
  rw [take_succ_flat ls i h, List.length_append]
theorem tot_le (ls : List (List Nat)) (i : Nat) : tot ls i ≤ ls.flatten.length := by
  unfold tot
  have := congrArg List.length (congrArg List.flatten (List.take_append_drop i ls))
  rw [List.flatten_append, List.length_append] at this
  omega
end

set_option maxHeartbeats 1000000 in
set_option maxRecDepth 100000 in
theorem concat (A : Option Addr) (m cm : Nat) (ls : List (List Nat)) (hm : ls.length = m) (hl : ls.flatten.length ≤ 1099511627776) (hml : m ≤ 4611686018427387904) (w : World) (R : Rj w w.heap.size A ls) :
    Calls Tryd.prog 37 #[.slice A m cm] w (Out ls.flatten w) := by
  have TS := Lib.hid (fun i (hi : i < m) => tot_succ ls i (by omega))
  have TL := Lib.hid (fun i => tot_le ls i)
  have TF := Lib.hid (fun i (hi : i < m) => take_succ_flat ls i (by omega))
  have TM := Lib.hid (show ls.take m = ls by rw [← hm]; exact List.take_length)
  have TE := Lib.hid (show ∀ i, (ls.take i).flatten.length = tot ls i from fun _ => rfl)
  have TZ := Lib.hid (show tot ls 0 = 0 from rfl)
  have FZ := Lib.hid (show (ls.take 0).flatten = [] from rfl)
  have AT := Lib.hid (fun (W : World) (R : Rj W w.heap.size A ls) i (hi : i < m) => R.at_ i (by omega))
  have HL := Lib.hid hl
  have GZ := Lib.hid grow_zero
  have GR := Lib.hid grow
  have R := Lib.hid R
  have O0 := Lib.hid (Ow.nil_ w w.heap.size)
  clear hm hl
  go_enter Tryd.func37, Tryd.ntmps37
  go_wp2_with fail
  go_loopw [3, 11] (fun v3 v11 wr => ∃ i t : Nat, v11 = .int .i64 (i : Int) ∧ v3 = .int .i64 (t : Int) ∧ i ≤ m ∧ Hid (t = tot ls i) ∧ Hid (wr = w)) (fun _ v11 _ => m - (Lib.intOf v11).toNat)
  case atStart => exact ⟨0, 0, rfl, rfl, Nat.zero_le _, Lib.hid TZ.out.symm, Lib.hid rfl⟩
  case round =>
    obtain ⟨i, t, rfl, rfl, hi, ht, hw⟩ := hrel
    obtain ⟨wo, hwo⟩ : ∃ wo, wo = wr := ⟨_, rfl⟩
    obtain rfl := hw.out
    clear hwo wo hw
    by_cases hlt : i < m
    · have i1 : (i : Int) < m := by omega
      obtain ⟨b, off, Ai, ci, rfl, hB, c, Ri, z⟩ := AT.out _ R.out i hlt
      have e := TS.out i hlt
      have l1 := TL.out (i + 1)
      have l2 := HL.out
      have ht2 := ht.out
      obtain ⟨t', et⟩ : ∃ t', t' = tot ls (i + 1) := ⟨_, rfl⟩
      rw [← et] at l1 e
      rw [← ht2] at e
      have E := Lib.hid et
      obtain ⟨L, hL⟩ : ∃ L, L = (ls.getD i []).length := ⟨_, rfl⟩
      rw [← hL] at c e
      have q1 : IntKind.i64.wrap ((t : Int) + (L : Int)) = (t' : Int) := by rw [IntKind.wrap_i64]; omega
      have q2 : ¬ (t' : Int) < 0 := by omega
      have t'l : t' ≤ 1099511627776 := by omega
      clear e et hL l1 l2 ht2 ht Ri z
      go_wp2_with fail
      go_roundw
      case rel => exact ⟨i + 1, t', rfl, rfl, by omega, Lib.hid E.out, by first | exact Lib.hid rfl | exact Lib.hid trivial⟩
      case measure => simp [Lib.intOf]; omega
    · obtain ⟨wo, rfl⟩ : ∃ wo : World, wo = wr := ⟨_, rfl⟩
      have i1 : ¬ (i : Int) < m := by omega
      obtain rfl : m = i := by omega
      have e := ht.out
      have l1 := TL.out m
      have l2 := HL.out
      have CG := Lib.hid (show Calls Tryd.prog 52 #[.slice none 0 0, .int .i64 (t : Int)] wo (Out [] wo) by
        by_cases h0 : t = 0
        · subst h0
          exact (GZ.out wo).mono fun e w' ⟨h1, h2⟩ => ⟨_, h1, by subst h2; exact O0.out, by subst h2; exact Below.refl _ _⟩
        · exact GR.out t (by omega) (by omega) wo)
      clear ht e l1 l2 O0
      go_wp2_with fail
      refine CG.out.mono ?_
      rintro e w1 ⟨v6, rfl, O1, h1⟩
      have O1 := Lib.hid O1
      have h1 := Lib.hid h1
      clear CG GZ GR
      go_wp2_with fail
      go_loopw [6, 27] (fun v6 v27 wr => ∃ i : Nat, v27 = .int .i64 (i : Int) ∧ i ≤ m ∧ Ow wr wo.heap.size v6 (ls.take i).flatten ∧ Below wo.heap.size wo wr) (fun _ v27 _ => m - (Lib.intOf v27).toNat)
      case atStart => exact ⟨0, rfl, Nat.zero_le _, by rw [FZ.out]; exact O1.out, h1.out⟩
      case round =>
        obtain ⟨i, rfl, hi, O, hb⟩ := hrel
        clear O1 h1 i1 hlt
        by_cases hlt : i < m
        · have i1 : (i : Int) < m := by omega
          obtain ⟨b, off, Ai, ci, rfl, hB, c, Ri, z⟩ := AT.out _ (R.out.below hb) i hlt
          have S := Lib.hid (TF.out i hlt)
          have LE := Lib.hid (show (ls.take i).flatten.length + (ls.getD i []).length ≤ 1099511627776 by
            have h1 := TS.out i hlt
            have h2 := TL.out (i + 1)
            have h3 := HL.out
            rw [TE.out]; omega)
          have Ri := Lib.hid Ri
          have z := Lib.hid z
          obtain ⟨xs, hxs⟩ : ∃ xs, xs = ls.getD i [] := ⟨_, rfl⟩
          rw [← hxs] at c Ri S LE
          clear hxs
          have O := Lib.hid O
          have hb := Lib.hid hb
          go_wp2_with (at_builtin; (refine append_all wr ?hgd (.tmp 31) (.tmp 32) ?ho wo.heap.size u6 (ls.take i).flatten ?hs O.out wo.heap.size Ai ci xs ?hx Ri.out z.out ?c1 ?c2 (fun v6 w3 O3 hg => ?_)); (case hgd => rfl); (case ho => rfl); (case hs => rfl); (case hx => rfl))
          case c1 => have := LE.out; omega
          case c2 => exact hb.out.size
          rw [← S.out] at O3
          have b3 := O.out.grow hb.out hg hb.out.size
          go_wp2_with fail
          go_roundw
          case rel => exact ⟨i + 1, rfl, by omega, O3, b3⟩
          case measure => simp [Lib.intOf]; omega
        · have i1 : ¬ (i : Int) < m := by omega
          obtain rfl : m = i := by omega
          rw [TM.out] at O
          go_wp2
          exact bodyPost_ret (v := u6) (by simp [results, Tryd.results37, go_sem]) rfl (Out.mk_ O hb)
end Jn
end Go.Proofs.YtnnieiedkjekpaaDoor
