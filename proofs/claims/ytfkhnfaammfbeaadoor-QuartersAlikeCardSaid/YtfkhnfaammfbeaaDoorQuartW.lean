/- Contract of layer 10's awake. -/
import Derived.Test.YtfkhnfaammfbeaaDoorCross
import Derived.ChangeKeysEq
set_option linter.unusedVariables false
namespace Go.Proofs.YtfkhnfaammfbeaaDoor
open Go.RowKit Go.Lib
namespace Kq
open Nm Tn Kn

theorem rd2 : rd 2 0 = 281474976710656 := (rd_zero 2).trans (Nt.rt2 2 rfl)
theorem aw_words : cA 1 0 0 0 = 1 ∧ cB 1 0 0 0 5 = 1 ∧ cC 1 0 0 0 = 1 ∧ cD 1 0 0 0 5 = 1 := by
  rw [cA_any, cB_any, cC_any, cD_any]
  decide
/-- Two arrays of the same four words are the same. -/
theorem eq_same (a b c d : Int) (W : World) : (Op.equalIn 10000 44 (.agg #[.int .u64 a, .int .u64 b, .int .u64 c, .int .u64 d]) (.agg #[.int .u64 a, .int .u64 b, .int .u64 c, .int .u64 d])).run Tryd.prog W = .ok true W := by
  obtain ⟨i, hi⟩ : ∃ i, Tryd.prog.info? 28 = some i := by
    have hU := Ww.infoU
    cases e : Tryd.prog.info? 28 with
    | none => rw [e] at hU; cases hU
    | some i => exact ⟨i, rfl⟩
  have pl : Tryd.prog.plainKey 28 = true := by kernel_rfl
  have e1 : ∀ x : Int, (Op.equalIn 9999 28 (.int .u64 x) (.int .u64 x)).run Tryd.prog W = .ok true W := fun x => by rw [run_equalIn_int W 9998 _ _ _ x x Tryd.underlying28]; simp
  rw [show (10000 : Nat) = 9999 + 1 from rfl, run_equalIn_array W 9999 _ _ Tryd.underlying44 hi, Ww.cellsU]
  have p0 := run_part_plain W pl (xs := #[.int .u64 a, .int .u64 b, .int .u64 c, .int .u64 d]) (off := 0) (v := .int .u64 a) rfl
  have p1 := run_part_plain W pl (xs := #[.int .u64 a, .int .u64 b, .int .u64 c, .int .u64 d]) (off := 1) (v := .int .u64 b) rfl
  have p2 := run_part_plain W pl (xs := #[.int .u64 a, .int .u64 b, .int .u64 c, .int .u64 d]) (off := 2) (v := .int .u64 c) rfl
  have p3 := run_part_plain W pl (xs := #[.int .u64 a, .int .u64 b, .int .u64 c, .int .u64 d]) (off := 3) (v := .int .u64 d) rfl
  show (Op.eqItems 9999 _ 1 _ _ [0, 1, 2, 3]).run _ _ = _
  simp [Op.eqItems, p0, p1, p2, p3, e1]
set_option maxHeartbeats 400000 in
theorem awake (w : World) : Calls Tryd.prog 5 #[] w fun e w' => e = .returned (.bool true) ∧ Below w.heap.size w w' := by
  have X := Lib.hid (fun W => cross 1 0 0 0 5 (by decide) (by decide) (by decide) (by decide) (by decide) W)
  rw [aw_words.1, aw_words.2.1, aw_words.2.2.1, aw_words.2.2.2] at X
  have UN := Lib.hid (fun W => unit_in 0 (by decide) W)
  rw [rd2] at UN
  have EQ := fun W => eq_same 1 1 1 1 W
  go_enter Tryd.func5, Tryd.ntmps5
  go_wp2_with fail
  refine (X.out _).mono ?_
  rintro e w1 ⟨rfl, h1⟩
  have C5 := Ce.fresh w1 (.int .u64 1) (.int .u64 1) (.int .u64 1) (.int .u64 1) 44
  have B6 := (Below.refl w1.heap.size w1).alloc (Nat.le_refl _) (.cells #[.int .u64 1, .int .u64 1, .int .u64 1, .int .u64 1] 44)
  have D1 := h1.trans (B6.mono h1.size)
  clear B6 h1
  go_wp2_with fail
  refine (UN.out _).mono ?_
  rintro e w2 ⟨rfl, h2⟩
  have C6 := C5.below h2
  have D2 := Lib.hid (D1.trans (h2.mono D1.size))
  have c0 := C6.c0
  have c1 := C6.c1
  have c2 := C6.c2
  have c3 := C6.c3
  clear C5 C6 D1 h2
  go_wp2
  go_ret
  exact ⟨by simp [go_sem], D2.out⟩
end Kq
end Go.Proofs.YtfkhnfaammfbeaaDoor
