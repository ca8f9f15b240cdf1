/- The contract of package wide's Rem, of every number and every divisor: quotient, rest and error; nothing that was there is written. -/
import Derived.Test.YtkbhbnadkoainaaDivX
import Derived.Test.YtkbhbnadkoainaaWide
import Derived.Deep.RegionHeld3
import Derived.Deep.RegionWith
set_option linter.unusedVariables false
namespace Go.Proofs.Ytkbhbnadkoainaa
open Go.RowKit
namespace Wd
open Nm
set_option maxHeartbeats 1000000 in
theorem rem_some (h l m : Nat) (hh : h < 18446744073709551616) (hl : l < 18446744073709551616) (hm : m < 18446744073709551616) (h0 : 0 < m) (w : World) :
    Calls Try.prog 12 #[.agg #[.int .u64 h, .int .u64 l], .int .u64 m] w fun e w' => e = .returned (.tuple #[.agg #[.int .u64 ((h / m : Nat) : Int), .int .u64 ((vl (h % m) l / m : Nat) : Int)], .int .u64 ((vl (h % m) l % m : Nat) : Int), .int .i64 0]) ∧ Below w.heap.size w w' := by
  have n3 : ((m : Int) == 0) = false := by simp; omega
  have n4 : ¬ (m : Int) = 0 := by omega
  have r1 : IntKind.u64.wrap ((h : Int) / m) = ((h / m : Nat) : Int) := Bt.wrapN _ (Nat.lt_of_le_of_lt (Nat.div_le_self _ _) hh)
  have D := Lib.hid (Bt.div64 (h % m) l m hl hm (Nat.mod_lt _ h0))
  clear hh hl hm h0
  generalize h / m = a at r1 ⊢
  generalize vl (h % m) l / m = b at D ⊢
  generalize vl (h % m) l % m = c at D ⊢
  go_enter Try.func12, Try.ntmps12
  go_wp2_with fail
  go_region_with (go_at_call 39; refine (D.out _).mono ?_; rintro e w1 ⟨rfl, hb⟩; have hc := fun (n o : Nat) (h : n < _) => hb.cell (p := ⟨n, o, none⟩) h; have hf := fun (n o : Nat) (h : n < _) => hb.frozen (p := ⟨n, o, none⟩) h)
  all_goals go_wp2
  all_goals have h0 : w1.cell? ⟨w.heap.size + 1, 0, none⟩ = some (.int .u64 a) := by rw [hb.cell (by simp)]; simp [go_sem]
  all_goals have h1 : w1.cell? ⟨w.heap.size + 1, 1, none⟩ = some (.int .u64 0) := by rw [hb.cell (by simp)]; simp [go_sem]
  all_goals refine bodyPost_ret (v := .tuple #[.agg #[.int .u64 a, .int .u64 b], .int .u64 c, .int .i64 0]) (by simp [results, Try.results12, go_sem, h0, h1]) rfl ⟨rfl, ?_⟩
  all_goals have hbw : Below w.heap.size w w1 := ((((Below.refl w.heap.size w).alloc (Nat.le_refl _) _).alloc (by simp) _).drew).trans (hb.mono (by simp; omega))
  all_goals exact ((hbw.setCell (by simp) _).setCell (by simp) _).setCell (by simp) _

set_option maxHeartbeats 400000 in
theorem rem_none (h l : Nat) (w : World) :
    Calls Try.prog 12 #[.agg #[.int .u64 h, .int .u64 l], .int .u64 0] w fun e w' => e = .returned (.tuple #[.agg #[.int .u64 0, .int .u64 0], .int .u64 0, .int .i64 13]) ∧ Below w.heap.size w w' := by
  go_enter Try.func12, Try.ntmps12
  go_wp2
  exact bodyPost_ret (v := .tuple #[.agg #[.int .u64 0, .int .u64 0], .int .u64 0, .int .i64 13]) (by simp [results, Try.results12, go_sem]) rfl ⟨rfl, ((Below.refl _ _).alloc (Nat.le_refl _) _).alloc (by simp) _⟩

theorem vl_div (h l m : Nat) (h0 : 0 < m) : vl h l / m = h / m * 18446744073709551616 + vl (h % m) l / m ∧ vl h l % m = vl (h % m) l % m := by
  have e : vl h l = vl (h % m) l + h / m * 18446744073709551616 * m := by
    have := Nat.div_add_mod h m
    unfold vl
    rw [Nat.mul_right_comm, Nat.mul_comm (h / m) m]
    generalize m * (h / m) = A at *
    omega
  rw [e, Nat.add_mul_div_right _ _ h0, Nat.add_mul_mod_self_right, Nat.add_comm]
  exact ⟨rfl, rfl⟩
theorem vl_small (h l m : Nat) (hl : l < 18446744073709551616) (h0 : 0 < m) : vl (h % m) l / m < 18446744073709551616 := by
  rw [Nat.div_lt_iff_lt_mul h0]
  have : h % m < m := Nat.mod_lt _ h0
  unfold vl
  omega

/-- Rem of every number by every number but 0. -/
theorem rem (h l m : Nat) (hh : h < 18446744073709551616) (hl : l < 18446744073709551616) (hm : m < 18446744073709551616) (h0 : 0 < m) (w : World) :
    Calls Try.prog 12 #[.agg #[.int .u64 h, .int .u64 l], .int .u64 m] w fun e w' => e = .returned (.tuple #[.agg #[.int .u64 (hi (vl h l / m) : Nat), .int .u64 (lo (vl h l / m) : Nat)], .int .u64 ((vl h l % m : Nat) : Int), .int .i64 0]) ∧ Below w.heap.size w w' := by
  have v := vl_div h l m h0
  have s := vl_small h l m hl h0
  have hq : h / m < 18446744073709551616 := Nat.lt_of_le_of_lt (Nat.div_le_self _ _) hh
  have e1 : hi (vl h l / m) = h / m := by rw [v.1]; exact hi_vl _ _ hq s
  have e2 : lo (vl h l / m) = vl (h % m) l / m := by rw [v.1]; exact lo_vl _ _ s
  rw [e1, e2, v.2]
  exact rem_some h l m hh hl hm h0 w
end Wd
end Go.Proofs.Ytkbhbnadkoainaa
