/- awake of layer 8. -/
import Derived.Test.YtfkhnfaammfbeaaDoorTwidD
import Derived.Test.YtfkhnfaammfbeaaDoorSame
set_option linter.unusedVariables false
namespace Go.Proofs.YtfkhnfaammfbeaaDoor
open Go.RowKit Go.Lib
namespace Td
open Nm Ww Tn Pl

theorem aw_words (m : Nat) (hm : m = 0) : ft (m + 1) 0 (Pn.pl [1, 1]) 0 = 2 ∧ ft (m + 1) 0 (Pn.pl [1, 1]) 1 = 0 := by
  have r := Nt.rt1 m hm
  have e : 2 ^ (m + 1) = 2 := by rw [hm]
  rw [ft_zero, ft_zero, r, e]
  exact ⟨by decide, by decide⟩
/-- Rows whose words are alike are the same. -/
theorem same_rg {g h : Nat → Nat} {n : Nat} (he : ∀ i, i < n → g i = h i) (hl : n ≤ 1048576) (A B : Option Addr) (ca cb : Nat) (w : World) (Ra : Ws w w.heap.size A (rg g n)) (Rb : Ws w w.heap.size B (rg h n)) :
    Calls Tryd.prog 10 #[.slice A n ca, .slice B n cb] w fun e w' => e = .returned (.bool true) ∧ Below w.heap.size w w' := by
  rw [← rg_congr n he] at Rb
  exact Sm.same A B n n ca cb (rg g n) (rg_len g n).symm (rg_len g n).symm (by rw [rg_len]; omega) w Ra Rb
end Td
end Go.Proofs.YtfkhnfaammfbeaaDoor
