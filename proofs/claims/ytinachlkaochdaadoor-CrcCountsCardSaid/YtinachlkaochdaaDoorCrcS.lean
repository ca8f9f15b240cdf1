/- Layer 16: what each law of sums asks first: the document's own example. -/
import Derived.Test.YtinachlkaochdaaDoorCrcP
import Derived.Lib.SlBytesConst
set_option linter.unusedVariables false
namespace Go.Proofs.YtinachlkaochdaaDoor
open Go.RowKit Go.Lib
namespace Cx
open Ww Cr Cd
def cells9 : Array Value := #[.int .u8 49, .int .u8 50, .int .u8 51, .int .u8 52, .int .u8 53, .int .u8 54, .int .u8 55, .int .u8 56, .int .u8 57]
def nine : List UInt8 := [49, 50, 51, 52, 53, 54, 55, 56, 57]
theorem sum_nine : sum nine = 3808858755 := by decide +kernel
theorem bs_nine (w : World) (e : TypeId) (fr : Nat × Nat) : Bs (w.alloc (.cells cells9 e fr)) (w.heap.size + 1) (some ⟨w.heap.size, 0, none⟩) nine := by
  refine ⟨fun i hi => ⟨w.heap.size, 0, rfl, by omega, ?_⟩⟩
  have : i = 0 ∨ i = 1 ∨ i = 2 ∨ i = 3 ∨ i = 4 ∨ i = 5 ∨ i = 6 ∨ i = 7 ∨ i = 8 := by
    have : nine.length = 9 := rfl
    omega
  rw [Nat.zero_add, World.cell?_alloc_mark]
  rcases this with rfl | rfl | rfl | rfl | rfl | rfl | rfl | rfl | rfl <;> rfl
set_option maxHeartbeats 1000000 in
set_option maxRecDepth 100000 in
theorem awake (w : World) (hT : Tab w) :
    Calls Tryd.prog 7 #[] w fun e w' => e = .returned (.bool true) ∧ Below w.heap.size w w' := by
  have O := Lib.hid (fun e fr => of (some ⟨w.heap.size, 0, none⟩) (w.heap.size + 1) 9 nine (w.alloc (.cells cells9 e fr)) (bs_nine w e fr) (hT.below ((Below.refl _ _).alloc (Nat.le_refl _) _)) (by decide))
  have W := Lib.hid (fun e fr => ofWords none 0 0 [] (w.alloc (.cells cells9 e fr)) (by omega) (Ws.nil_ _ _ _) (hT.below ((Below.refl _ _).alloc (Nat.le_refl _) _)) (by decide))
  rw [sum_nine] at O
  rw [show sum (form []) = 0 from sum_nil] at W
  have D := Lib.hid (fun e fr => (Below.refl w.heap.size w).alloc (Nat.le_refl _) (.cells cells9 e fr))
  clear hT
  have kc : (convert 22 22 (.slice (some ⟨w.heap.size, 0, none⟩) 9 9)).run Tryd.prog (w.alloc (.cells #[.int .u8 49, .int .u8 50, .int .u8 51, .int .u8 52, .int .u8 53, .int .u8 54, .int .u8 55, .int .u8 56, .int .u8 57] 5)) = .ok (.slice (some ⟨w.heap.size, 0, none⟩) 9 9) (w.alloc (.cells cells9 5 (9, 10))) := Lib.run_convert_bytes_const (P := Tryd.prog) w 22 5 cells9 9 9 Tryd.underlying22 Tryd.underlying5
  go_enter Tryd.func7, Tryd.ntmps7
  go_wp2_with fail
  refine (O.out _ _).mono ?_
  rintro e w1 ⟨rfl, rfl⟩
  go_wp2_with fail
  refine (W.out _ _).mono ?_
  rintro e w2 ⟨rfl, b2⟩
  have b1 := (D.out _ _).trans (b2.mono (D.out _ _).size)
  clear b2 D O W
  go_wp2
  go_ret
  exact ⟨rfl, b1⟩
end Cx
end Go.Proofs.YtinachlkaochdaaDoor
