/- awake of layer 4's laws, and what the laws ask of Read. -/
import Derived.Test.YtggocbblpgaaoaaDoorCodX
set_option linter.unusedVariables false
namespace Go.Proofs.YtggocbblpgaaoaaDoor
open Go.RowKit
namespace Cw
open Ww Cd Cc Cr

theorem ws_built (W : World) (xs : List Nat) (t : TypeId) (h : ∀ i, i < xs.length → xs.getD i 0 < 18446744073709551616) : Ws (W.alloc (.cells (xs.map cw).toArray t)) (W.alloc (.cells (xs.map cw).toArray t)).heap.size (some ⟨W.heap.size, 0, none⟩) xs :=
  ⟨fun i hi => ⟨W.heap.size, 0, rfl, by simp, by
    rw [Nat.zero_add, World.cell?_alloc_mark, List.getElem?_toArray]
    simp [cw, List.getD, hi]⟩, h⟩
theorem lt50 : ∀ i, i < ([5, 0] : List Nat).length → ([5, 0] : List Nat).getD i 0 < 18446744073709551616 := by
  intro i hi
  have h2 : i < 2 := hi
  rcases i with _ | _ | i
  · exact (by decide : (5 : Nat) < 18446744073709551616)
  · exact (by decide : (0 : Nat) < 18446744073709551616)
  · omega
theorem lt258 : ∀ i, i < ([258] : List Nat).length → ([258] : List Nat).getD i 0 < 18446744073709551616 := by
  intro i hi
  have h2 : i < 1 := hi
  obtain rfl : i = 0 := by omega
  exact (by decide : (258 : Nat) < 18446744073709551616)
/-- What Read answers of "5 0". -/
def Five (w : World) (e : Ending) (w' : World) : Prop := ∃ b off cap, e = .returned (.tuple #[.slice (some ⟨b, off, none⟩) 2 cap, .int .i64 0, .int .i64 0]) ∧ b < w'.heap.size ∧ w'.cell? ⟨b, off, none⟩ = some (.int .u64 5) ∧ Below w.heap.size w w'
theorem txt5 : txt [5, 0] = [53, 32, 48] := by
  simp [txt, tl, dec_small]
theorem read5 (w : World) : Calls Tryd.prog 17 #[.string ⟨#[53, 32, 48]⟩] w (Five w) := by
  refine (Cc.read ⟨#[53, 32, 48]⟩ (by decide) (by decide) w).mono ?_
  rintro e w' ⟨v, l, a, m, rfl, R, O, hb⟩
  have hd : List.drop 0 [53, 32, 48] = txt [5, 0] := by rw [txt5]; rfl
  have hw : ∀ y, y ∈ [5, 0] → y < 18446744073709551616 := by
    intro y hy
    simp at hy
    omega
  have T := (rd_txt (s := [53, 32, 48]) [0] 5 0 [] l a m (Nat.zero_le _) hd hw R).1 (by intro y hy; simp at hy; omega)
  obtain ⟨hl, hm⟩ := T
  have P := R.text (Nat.zero_le _) hm
  obtain ⟨_, _, _, _, ha, _⟩ := P
  subst hl hm ha
  obtain ⟨A, cap, rfl, W⟩ := O.ws lt50
  obtain ⟨b, off, rfl, hB, c⟩ := W.at_ 0 (by decide : 0 < 2)
  exact ⟨b, off, cap, rfl, hB, c, hb⟩
/-- What Put answers of 258. -/
def P258 (w : World) (e : Ending) (w' : World) : Prop := e = .returned (.slice (some ⟨w.heap.size, 0, none⟩) 8 8) ∧ (convert 23 9 (.slice (some ⟨w.heap.size, 0, none⟩) 8 8)).run Tryd.prog w' = .ok (.string ⟨#[2, 1, 0, 0, 0, 0, 0, 0]⟩) w' ∧ Below w.heap.size w w'
theorem put258 (A : Option Addr) (cap : Nat) (w : World) (R : Ws w w.heap.size A [258]) : Calls Tryd.prog 7 #[.slice A 1 cap] w (P258 w) := by
  refine (Cc.put A cap [258] (by decide) w R).mono ?_
  rintro e w' ⟨rfl, B, hb⟩
  have hf : form [258] = [2, 1, 0, 0, 0, 0, 0, 0] := by decide
  rw [hf] at B ⊢
  exact ⟨rfl, conv_bytes B 8, hb⟩
theorem text50 (A : Option Addr) (cap : Nat) (w : World) (R : Ws w w.heap.size A [5, 0]) (T : Tab w) : Calls Tryd.prog 16 #[.slice A 2 cap] w fun e w' => e = .returned (.string ⟨#[53, 32, 48]⟩) ∧ Below w.heap.size w w' := by
  refine (Cc.text A cap [5, 0] (by decide) w R T).mono ?_
  rintro e w' ⟨rfl, hb⟩
  rw [txt5]
  exact ⟨rfl, hb⟩

set_option maxHeartbeats 1000000 in
set_option maxRecDepth 100000 in
theorem awake (w : World) (T : Tab w) : Calls Tryd.prog 6 #[] w fun e w' => e = .returned (.bool true) ∧ Below w.heap.size w w' := by
  have HT := Lib.hid T
  clear T
  have R := Lib.hid (read5 w)
  go_enter Tryd.func6, Tryd.ntmps6
  go_wp2_with fail
  refine R.out.mono ?_
  rintro e w1 ⟨b, off, cap, rfl, hB, c, b1⟩
  have W2 := ws_built w1 [5, 0] 35 lt50
  have b2 := b1.alloc b1.size (.cells ([5, 0].map cw).toArray 35)
  have TX := Lib.hid (text50 _ 2 _ W2 (HT.out.below b2))
  go_wp2_with fail
  refine TX.out.mono ?_
  rintro e w2 ⟨rfl, b3⟩
  have b4 := b2.trans (b3.mono b2.size)
  have c2 := (b3.cell (p := ⟨b, off, none⟩) (by simp; omega)).trans ((World.cell?_alloc_lt w1 _ ⟨b, off, none⟩ hB).trans c)
  clear TX W2 R b3 c
  have W3 := ws_built w2 [258] 35 lt258
  have b5 := b4.alloc b4.size (.cells ([258].map cw).toArray 35)
  have PT := Lib.hid (put258 _ 1 _ W3)
  go_wp2_with fail
  refine PT.out.mono ?_
  rintro e w3 ⟨rfl, cv, b6⟩
  have b7 := b5.trans (b6.mono b5.size)
  rw [World.size_alloc] at cv
  go_wp2
  go_ret
  exact ⟨rfl, b7⟩
end Cw
end Go.Proofs.YtggocbblpgaaoaaDoor
