/- Layer 15: the document's example. -/
import Derived.Test.YtfjlhbamldgklaaDiskK
set_option linter.unusedVariables false
namespace Go.Proofs.Ytfjlhbamldgklaa
open Go.RowKit Go.Lib Go.ChangeMaps
namespace Dk
open Ww
def bx : List UInt8 := 7 :: List.replicate 31 0
theorem bx_lies (w : World) : Bs (w.alloc (.cells ((madeCells #[.int .u8 0] 32).setIfInBounds 0 (.int .u8 7)) 5)) (w.alloc (.cells ((madeCells #[.int .u8 0] 32).setIfInBounds 0 (.int .u8 7)) 5)).heap.size (some ⟨w.heap.size, 0, none⟩) bx := by
  have K := (Bk.made w 32 5).put 0 7 (by omega)
  have e : (w.alloc (.cells (madeCells #[.int .u8 0] 32) 5)).setCell ⟨w.heap.size, 0, none⟩ (.int .u8 ((7 : Nat) : Int)) = w.alloc (.cells ((madeCells #[.int .u8 0] 32).setIfInBounds 0 (.int .u8 7)) 5) := by
    simp [go_sem]
  rw [e] at K
  refine K.reads rfl (fun i hi => ?_) (by simp)
  by_cases h : i = 0
  · subst h; rfl
  · rw [upd_other _ _ _ h]
    obtain ⟨j, rfl⟩ : ∃ j, i = j + 1 := ⟨i - 1, by omega⟩
    have e0 : bx.getD (j + 1) 0 = 0 := by
      show ((List.replicate 31 (0 : UInt8))[j]?).getD 0 = 0
      rw [List.getElem?_replicate]
      split <;> rfl
    rw [e0]
    rfl
set_option maxHeartbeats 2000000 in
set_option maxRecDepth 100000 in
theorem awake (w : World) : Calls Try.prog 6 #[] w fun e w' => e = .returned (.bool true) ∧ Below w.heap.size w w' := by
  have NW := Lib.hid (new_ok 2 32 (by omega) (by omega) rfl w)
  have mk : ∀ w, (Instr.makeSlice 47 (.int .i64 32) (.int .i64 32)).run Try.prog w = .ok (.slice (some ⟨w.heap.size, 0, none⟩) 32 32) (w.alloc (.cells (madeCells #[.int .u8 0] 32) 5)) := make_bytes 32 (by omega)
  have m0 : (madeCells #[Value.int .u8 0] 32)[0]? = some (.int .u8 0) := by kernel_rfl
  have en := fun (a : Addr) (W : World) => (show (binOp .eql 25 (.pointer (some a)) (.pointer none)).run Try.prog W = .ok (.bool false) W from by kernel_rfl)
  go_enter Try.func6, Try.ntmps6
  go_upto_region 2 with (go_at_call 8; refine NW.out.mono ?_; rintro e w1 ⟨L, rfl, D1, M1, B1⟩)
  obtain ⟨p, s, t, m⟩ := L
  go_upto_region 6 with fail
  clear mk m0 en NW
  have hW : Below w1.heap.size w1 (w1.alloc (.cells ((madeCells #[.int .u8 0] 32).setIfInBounds 0 (.int .u8 7)) 5)) := (Below.refl _ _).alloc (Nat.le_refl _) _
  have WC := Lib.hid (write_ok (D1.below hW) 1 (by omega) rfl (by show 0 ≤ 1000000; omega) (by omega) (some ⟨w1.heap.size, 0, none⟩) 32 bx rfl (bx_lies w1))
  have FF := Lib.hid (fun w6 (F : Fr (Mine ⟨p, s, t, m⟩) (w1.alloc (.cells ((madeCells #[.int .u8 0] 32).setIfInBounds 0 (.int .u8 7)) 5)) w6) => (show Below w.heap.size w w6 from
    (B1.trans (hW.mono B1.size)).trans (F.below M1 (Nat.le_trans B1.size hW.size))))
  generalize w1.alloc (.cells ((madeCells #[.int .u8 0] 32).setIfInBounds 0 (.int .u8 7)) 5) = w2 at WC FF ⊢
  clear D1 M1 B1 hW
  generalize w1.heap.size = g1 at *
  go_upto_region 7 with (go_at_call 24; refine WC.out.mono ?_; rintro e w3 ⟨rfl, D3, F3⟩)
  have CC := Lib.hid (crash D3)
  replace F3 := Lib.hid F3
  clear WC D3
  go_upto_region 8 with (go_at_call 23; refine CC.out.mono ?_; rintro e w4 ⟨rfl, D4, F4⟩)
  have BC := Lib.hid (boot_ok D4 rfl (by omega) none 0 0 (fun _ => false) (Kb.nil_ _ _ _ _) (by omega))
  replace F4 := Lib.hid F4
  clear CC D4
  go_upto_region 9 with (go_at_call 19; refine BC.out.mono ?_; rintro e w5 ⟨rfl, D5, F5⟩)
  have RC := Lib.hid (read_ok D5 1 (by omega) rfl (by show 0 ≤ 1000000; omega))
  replace F5 := Lib.hid F5
  clear BC D5
  go_upto_region 10 with (go_at_call 21; refine RC.out.mono ?_; rintro e w6 ⟨g, rs, rfl, R, hl, hn, _, F6⟩)
  have hn2 : zb 32 = ⟨rs.toArray⟩ := hn
  have e0 : rs = List.replicate 32 0 := by
    have := congrArg (fun b : ByteArray => b.data.toList) hn2
    simpa [zb] using this.symm
  obtain ⟨gb, off, e1, _, cc⟩ := R.at_ 0 (by omega)
  cases e1
  rw [e0] at cc
  have cz : w6.cell? ⟨g, 0, none⟩ = some (.int .u8 0) := cc
  have E := Lib.hid (FF.out w6 (((F3.out.step F4.out).step F5.out).step F6))
  clear RC F3 F4 F5 F6 FF R hn hn2 e0 cc hl
  go_wp2
  exact bodyPost_ret (v := .bool true) (by simp [results, Try.results6, go_sem]) rfl ⟨rfl, E.out⟩
end Dk
end Go.Proofs.Ytfjlhbamldgklaa
