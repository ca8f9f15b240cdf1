/- The contract of package wide's Sum: of every row of numbers, their sum; nothing that was there is written. -/
import Derived.Test.YtkbhbnadkoainaaRefF
set_option linter.unusedVariables false
namespace Go.Proofs.Ytkbhbnadkoainaa
open Go.RowKit
namespace Wd
open Nm Rf

/-- The slice at A holds the numbers xs, two words each. -/
structure Row (w : World) (B : Nat) (A : Option Addr) (xs : List Nat) : Prop where
  at_ : ∀ i, i < xs.length → ∃ b off : Nat, A = some ⟨b, off, none⟩ ∧ b < B ∧ w.cell? ⟨b, off + i * 2, none⟩ = some (.int .u64 (Nm.hi (xs.getD i 0) : Nat)) ∧ w.cell? ⟨b, off + i * 2 + 1, none⟩ = some (.int .u64 (lo (xs.getD i 0) : Nat))
theorem Row.below {w w' : World} {B : Nat} {A : Option Addr} {xs : List Nat} (h : Row w B A xs) (hb : Below B w w') : Row w' B A xs :=
  ⟨fun i hi => by
    obtain ⟨b, off, e, hB, c0, c1⟩ := h.at_ i hi
    exact ⟨b, off, e, hB, (hb.cell (p := ⟨b, off + i * 2, none⟩) hB).trans c0, (hb.cell (p := ⟨b, off + i * 2 + 1, none⟩) hB).trans c1⟩⟩
theorem Row.more {w : World} {B B' : Nat} {A : Option Addr} {xs : List Nat} (h : Row w B A xs) (hB : B ≤ B') : Row w B' A xs :=
  ⟨fun i hi => by
    obtain ⟨b, off, e, hb, c0, c1⟩ := h.at_ i hi
    exact ⟨b, off, e, by omega, c0, c1⟩⟩

theorem take_sum (xs : List Nat) (k : Nat) (h : k < xs.length) : (xs.take (k + 1)).sum = (xs.take k).sum + xs.getD k 0 := by
  rw [List.take_succ_eq_append_getElem h, List.sum_append]
  simp [List.getD, h]

/-- Add's contract at numbers told by their halves. -/
theorem add_nums (x y : Nat) (w : World) :
    Calls Try.prog 46 #[.agg #[.int .u64 (Nm.hi x : Nat), .int .u64 (lo x : Nat)], .agg #[.int .u64 (Nm.hi y : Nat), .int .u64 (lo y : Nat)]] w fun e w' =>
      ∃ c : Nat, e = .returned (.tuple #[.agg #[.int .u64 (Nm.hi (x + y) : Nat), .int .u64 (lo (x + y) : Nat)], .int .u64 c]) ∧ Below w.heap.size w w' := by
  have c := add (Nm.hi x) (lo x) (Nm.hi y) (lo y) (hi_lt x) (lo_lt x) (hi_lt y) (lo_lt y) w
  have e := hi_same (vl (Nm.hi x) (lo x) + vl (Nm.hi y) (lo y)) (x + y) (by rw [vl_hi_lo, vl_hi_lo, Nat.mod_add_mod, Nat.add_mod_mod])
  rw [e.1, e.2] at c
  exact c.mono fun e w' ⟨h1, h2⟩ => ⟨_, h1, h2⟩

set_option maxHeartbeats 1000000 in
set_option maxRecDepth 100000 in
theorem sum (A : Option Addr) (cap : Nat) (xs : List Nat) (hlen : xs.length ≤ 9223372036854775807) (w : World) (hr : Row w w.heap.size A xs) :
    Calls Try.prog 15 #[.slice A xs.length cap] w fun e w' => e = .returned (.agg #[.int .u64 (Nm.hi xs.sum : Nat), .int .u64 (lo xs.sum : Nat)]) ∧ Below w.heap.size w w' := by
  go_enter Try.func15, Try.ntmps15
  go_wp2_with fail
  go_loopg [7] xs.length (fun k v7 wr => ∃ i : Nat, k + i = xs.length ∧ v7 = .int .i64 (i : Int) ∧ Two wr w.heap.size (Nm.hi (xs.take i).sum) (lo (xs.take i).sum) ∧ Row wr w.heap.size A xs ∧ Below w.heap.size w wr)
  case atStart => exact ⟨0, rfl, rfl, by rw [List.take_zero]; exact Two.fresh w 0 0 _, hr.below ((Below.refl _ _).alloc (Nat.le_refl _) _), (Below.refl _ _).alloc (Nat.le_refl _) _⟩
  case round =>
    obtain ⟨i, hk, rfl, T, R, hbl⟩ := hrel
    by_cases hi : i < xs.length
    · have e2 := take_sum xs i hi
      have i1 : (i : Int) < xs.length := by omega
      obtain ⟨b, off, rfl, hB, c0, c1⟩ := R.at_ i hi
      have C := Lib.hid (fun W => add_nums (xs.take i).sum (xs.getD i 0) W)
      rw [← e2] at C
      clear e2 hr
      have t0 := T.c0
      have t1 := T.c1
      generalize Nm.hi (xs.getD i 0) = y1 at *
      generalize lo (xs.getD i 0) = y2 at *
      have z0 := World.block_lt_of_cell? wr _ t0
      have z1 : b < wr.heap.size := World.block_lt_of_cell? wr _ c0
      go_wp2_with fail
      refine (C.out _).mono ?_
      rintro e w1 ⟨c, rfl, hb1⟩
      have T1 := (T.alloc (.cells #[.int .u64 y1, .int .u64 y2] 24)).below hb1
      have hbl1 : Below w.heap.size w w1 := (hbl.alloc hbl.size _).trans (hb1.mono (by have := hbl.size; simp; omega))
      have q0 := T1.c0
      have q1 := T1.c1
      have q2 := T1.f0
      have q3 := T1.f1
      have hblr : Below w.heap.size wr w1 := ((Below.refl _ _).alloc (by have := hbl.size; omega) _).trans (hb1.mono (by have := hbl.size; simp; omega))
      have R1 := R.below hblr
      clear t0 t1 c0 c1 C hb1 R T
      go_wp2_with fail
      go_roundg (gk - 1)
      case measure => omega
      case rel => exact ⟨i + 1, by omega, rfl, T1.put _ _, R1.below (((Below.refl _ _).setCell (by simp) _).setCell (by simp) _), (hbl1.setCell (by simp) _).setCell (by simp) _⟩
    · have i1 : ¬ (i : Int) < xs.length := by omega
      rw [List.take_of_length_le (by omega)] at T
      have t0 := T.c0
      have t1 := T.c1
      have t2 := T.f0
      have t3 := T.f1
      generalize hp : Nm.hi xs.sum = p at *
      generalize hq : lo xs.sum = q at *
      have HP := Lib.hid hp
      have HQ := Lib.hid hq
      clear hp hq hr R
      go_wp2
      exact bodyPost_ret (v := .agg #[.int .u64 p, .int .u64 q]) (by simp [results, Try.results15, go_sem, t0, t1]) rfl ⟨by rw [HP.out, HQ.out], (hbl.setCell (by simp) _).setCell (by simp) _⟩
end Wd
end Go.Proofs.Ytkbhbnadkoainaa
