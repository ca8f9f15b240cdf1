/- Contract of the document's own Same: of rows that hold the same words it answers true, and only reads. -/
import Derived.Test.YtnnieiedkjekpaaDoorWords
import Derived.Lib.Walk
set_option linter.unusedVariables false
namespace Go.Proofs.YtnnieiedkjekpaaDoor
open Go.RowKit
namespace Sm
open Ww
set_option maxHeartbeats 400000 in
/-- Two rows that are the same. -/
theorem same_yes (A B : Option Addr) (ca cb k : Nat) (xs : List Nat) (hn : xs.length ≤ 9223372036854775807) (w : World) (Ra : Ws w k A xs) (Rb : Ws w k B xs) :
    Calls Tryd.prog 11 #[.slice A xs.length ca, .slice B xs.length cb] w fun e w' => e = .returned (.bool true) ∧ ∃ m, w' = w.drewN m := by
  go_enter Tryd.func11, Tryd.ntmps11
  go_wp2_with fail
  go_loopw [5] (fun v5 wr => ∃ i m : Nat, v5 = .int .i64 (i : Int) ∧ i ≤ xs.length ∧ wr = w.drewN m ∧ Ws wr k A xs ∧ Ws wr k B xs) (fun v5 _ => xs.length - (Lib.intOf v5).toNat)
  case atStart => exact ⟨0, 0, rfl, by omega, rfl, Ra, Rb⟩
  case round =>
    obtain ⟨i, m, rfl, hi, hm, Qa, Qb⟩ := hrel
    have HM := Lib.hid hm
    clear hm Ra Rb
    by_cases hlt : i < xs.length
    · have i1 : (i : Int) < xs.length := by omega
      obtain ⟨b1, o1, rfl, hB1, c1⟩ := Qa.at_ i hlt
      obtain ⟨b2, o2, rfl, hB2, c2⟩ := Qb.at_ i hlt
      generalize xs.getD i 0 = x at *
      go_wp2_with fail
      go_quiet (fail)
      go_wp2_with fail
      go_roundw
      case rel => exact ⟨i + 1, m + nq, rfl, by omega, by rw [HM.out, World.drewN_drewN], Qa.drewN _, Qb.drewN _⟩
      case measure => simp [Lib.intOf]; omega
    · have i1 : ¬ (i : Int) < xs.length := by omega
      go_wp2
      go_ret
      exact ⟨rfl, m, HM.out⟩

theorem same (A B : Option Addr) (n m ca cb : Nat) (xs : List Nat) (ha : n = xs.length) (hb : m = xs.length) (hn : xs.length ≤ 9223372036854775807) (w : World) (Ra : Ws w w.heap.size A xs) (Rb : Ws w w.heap.size B xs) :
    Calls Tryd.prog 11 #[.slice A n ca, .slice B m cb] w fun e w' => e = .returned (.bool true) ∧ Below w.heap.size w w' := by
  subst ha hb
  refine (same_yes A B ca cb _ xs hn w Ra Rb).mono ?_
  rintro e w' ⟨rfl, m, rfl⟩
  exact ⟨rfl, below_drewN (Below.refl _ _) m⟩
end Sm
end Go.Proofs.YtnnieiedkjekpaaDoor
