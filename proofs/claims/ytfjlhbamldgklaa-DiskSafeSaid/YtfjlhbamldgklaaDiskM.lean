/- Layer 15: the law's tells: a write of bytes as long as a sector. -/
import Derived.Test.YtfjlhbamldgklaaDiskV
import Derived.Deep.RegionHeld3
set_option linter.unusedVariables false
namespace Go.Proofs.Ytfjlhbamldgklaa
open Go.RowKit Go.Lib
namespace Dk
open Ww
theorem bl3 {w W W1 : World} (h : Below w.heap.size w W) (h1 : Below W.heap.size W W1) : Below w.heap.size w W1 := h.trans (h1.mono h.size)
set_option maxHeartbeats 8000000 in
set_option maxRecDepth 100000 in
theorem tells_laid (B i : Nat) (V : Option Addr) (n c : Nat) (d : Dm) (a : ActV) (z : Nat) (w : World) (R : Sx w B (.slice V n c) d.f n) (h0n : 0 < n) (hn : n ≤ 1000000) (hk : a.kind = 0 ∨ a.kind = 1) (hi : a.i = (i : Nat)) (hin : i < n) (hz : z ≤ 281474976710656) (Q : Bs w w.heap.size a.A a.bs) (hw : d.w ≤ 1000000) (hd : d.down = false) (hf : d.fuse ≠ 1) (hu : d.fuse ≤ 9223372036854775807) :
    Calls Try.prog 13 #[sv (.slice V n c) d, a.val, .int .i64 (z : Nat)] w (TO { d with fuse := d.fuse - 1, w := d.w + 1, f := put d.f i (wrote (d.f i) ⟨(lb a.bs z).toArray⟩) } n w) := by
  obtain ⟨f, dn, fu, r, ww, s⟩ := d
  obtain ⟨kd, ai, bs, K, ks, A, cA, A2, cK⟩ := a
  simp only [sv, ActV.val] at R hk hd hf hu hw hi Q ⊢
  subst hd hi
  have r1 : IntKind.i64.wrap ((ww : Int) + 1) = ((ww + 1 : Nat) : Int) := by rw [IntKind.wrap_i64]; omega
  obtain ⟨w', hw'⟩ : ∃ w', w' = ww + 1 := ⟨_, rfl⟩
  rw [← hw'] at r1 ⊢
  have i0 : ¬ (i : Int) < 0 := by omega
  have i1 : ¬ (n : Int) ≤ (i : Int) := by omega
  have i2 : (i : Int) < (n : Int) := by omega
  have k2 : ¬ kd = 2 := by omega
  have k3 : ¬ kd = 3 := by omega
  have k4 : ¬ kd = 4 := by omega
  have k5 : ¬ kd = 5 := by omega
  have k6 : ¬ kd = 6 := by omega
  have k7 : ¬ kd = 7 := by omega
  have k8 : ¬ kd = 8 := by omega
  have l0 : ¬ kd < 0 := by omega
  have l8 : ¬ 8 < kd := by omega
  obtain ⟨fv, hv⟩ : ∃ fv, fv = fu - 1 := ⟨_, rfl⟩
  have HV := Lib.hid hv
  rw [← hv]
  have HF := Lib.hid (And.intro hf hu)
  clear hw hw' hk hv hf hu
  obtain ⟨W3, hW3⟩ : ∃ W, W = (((w.alloc (.cells #[.slice V n c, .bool false, .int .i64 (fv : Nat), .int .i64 (r : Nat), .int .i64 (w' : Nat), .int .i64 (s : Nat)] 44)).alloc (.cells #[.int .i64 kd, .int .i64 (i : Nat), .slice A bs.length cA, .slice A2 K cK] 49)).alloc (.cells #[.slice none 0 0, .bool false, .int .i64 0, .int .i64 0, .int .i64 0, .int .i64 0] 44)) := ⟨_, rfl⟩
  have D3 := Lib.hid (show Below w.heap.size w W3 from by rw [hW3]; exact (((Below.refl w.heap.size w).alloc (Nat.le_refl _) _).alloc (by simp) _).alloc (by simp; omega) _)
  have B3 := Lib.hid (show _ from hW3 ▸ blk3 w (.cells #[.slice V n c, .bool false, .int .i64 (fv : Nat), .int .i64 (r : Nat), .int .i64 (w' : Nat), .int .i64 (s : Nat)] 44) (.cells #[.int .i64 kd, .int .i64 (i : Nat), .slice A bs.length cA, .slice A2 K cK] 49) (.cells #[.slice none 0 0, .bool false, .int .i64 0, .int .i64 0, .int .i64 0, .int .i64 0] 44))
  have sz := Lib.hid (show w.heap.size + 1 + 1 < W3.heap.size by rw [hW3]; simp)
  have R3 := Lib.hid (show Sx W3 B (.slice V n c) f n from R.below D3.out)
  have Q3 := Lib.hid (show Bs W3 w.heap.size A bs from Q.below D3.out)
  have LA := Lib.hid (fun (W : World) (d : Below W3.heap.size W3 W) => (laid w.heap.size A cA z bs W (Q3.out.below (d.mono (by have := sz.out; omega))) hz).mono (R' := fun e w' => ∃ g, e = .returned (.slice (some ⟨g, 0, none⟩) z z) ∧ Bs w' w'.heap.size (some ⟨g, 0, none⟩) (lb bs z) ∧ Below W.heap.size W w') fun _ _ h => ⟨_, h⟩)
  have CV := Lib.hid (fun (W : World) (A' : Option Addr) (L : Bs W W.heap.size A' (lb bs z)) => show (convert 47 9 (.slice A' z z)).run Try.prog W = .ok (.string ⟨(lb bs z).toArray⟩) W from by have := conv_bytes L z; rw [lb_len] at this; exact this)
  generalize (lb bs z).toArray = tx at *
  have RW := Lib.hid (fun (W : World) (d : Below W3.heap.size W3 W) => rwrite B V c n i f ⟨tx⟩ W (R3.out.below d) hin (by omega))
  have CE := Lib.hid (fun (W : World) (d : Below W3.heap.size W3 W) => show W.cell? ⟨w.heap.size, 0, none⟩ = some (.slice V n c) ∧ W.frozen? ⟨w.heap.size, 0, none⟩ = false ∧ W.cell? ⟨w.heap.size + 1, 1, none⟩ = some (.int .i64 (i : Nat)) ∧ W.cell? ⟨w.heap.size + 1, 2, none⟩ = some (.slice A bs.length cA) from by
    have e1 := (d.block w.heap.size (by have := sz.out; omega)).trans B3.out.1
    have e2 := (d.block (w.heap.size + 1) (by have := sz.out; omega)).trans B3.out.2.1
    exact ⟨(cell_of e1 0).1, (cell_of e1 0).2, (cell_of e2 1).1, (cell_of e2 2).1⟩)
  have CF := Lib.hid (fun (W : World) (V2 : Option Addr) (c2 : Nat) (d : Below W3.heap.size W3 W) => (show (W.setCell ⟨w.heap.size, 0, none⟩ (.slice V2 n c2)).cell? ⟨w.heap.size + 1, 1, none⟩ = some (.int .i64 (i : Nat)) ∧ (W.setCell ⟨w.heap.size, 0, none⟩ (.slice V2 n c2)).cell? ⟨w.heap.size + 1, 2, none⟩ = some (.slice A bs.length cA) from by
    have e2 := (d.block (w.heap.size + 1) (by have := sz.out; omega)).trans B3.out.2.1
    have e3 : (W.setCell ⟨w.heap.size, 0, none⟩ (.slice V2 n c2)).heap[w.heap.size + 1]? = _ := (Below.heap_setCell _ _ _ _ (by simp)).trans e2
    exact ⟨(cell_of e3 1).1, (cell_of e3 2).1⟩))
  have HW := Lib.hid hW3
  clear R Q hW3 R3 h0n hn hin hz
  generalize bs.length = bl at *
  go_enter Try.func13, Try.ntmps13
  go_upto_if 80 with fail
  go_cut [] from 80 to 90 (fun wx => wx = (((w.alloc (.cells #[.slice V n c, .bool false, .int .i64 (fv : Nat), .int .i64 (r : Nat), .int .i64 (ww : Nat), .int .i64 (s : Nat)] 44)).alloc (.cells #[.int .i64 kd, .int .i64 (i : Nat), .slice A bl cA, .slice A2 K cK] 49)).alloc (.cells #[.slice none 0 0, .bool false, .int .i64 0, .int .i64 0, .int .i64 0, .int .i64 0] 44)))
  case first =>
    obtain ⟨hf, hu⟩ := HF.out
    have hv := HV.out
    clear LA CV RW CE CF HW B3 D3 Q3 sz HV HF
    by_cases h0 : fu = 0
    · subst h0
      have e : fv = 0 := by omega
      subst e
      clear hv hf hu
      go_wp2_with fail
      go_meet
      rfl
    · have f1 : (0 : Int) < (fu : Int) := by omega
      have f2 : IntKind.i64.wrap ((fu : Int) - 1) = (fv : Int) := by rw [IntKind.wrap_i64]; omega
      have f3 : ¬ (fv : Int) = 0 := by omega
      clear hv h0 hf hu
      go_wp2_with fail
      go_meet
      rfl
  case rest =>
    subst hcut
    clear HF HV
    go_upto_region 42 with fail
    rw [← HW.out]
    obtain ⟨m0, m1, m2, m3⟩ := CE.out W3 (Below.refl _ _)
    go_cut [] from 67 to 155 (fun wx => ∃ V2 c2 w5, Sx w5 W3.heap.size (.slice V2 n c2) (put f i (wrote (f i) ⟨tx⟩)) n ∧ Below W3.heap.size W3 w5 ∧ wx = w5.setCell ⟨w.heap.size, 0, none⟩ (.slice V2 n c2))
    case first =>
      clear B3 D3 Q3 HW sz k2 k3 k4 k5 k6 k7 k8 l0 l8 i0 i1 i2 r1
      go_region_with (first
        | (go_at_call 22; (with_reducible refine (LA.out _ (by first | exact Below.refl _ _ | exact (Below.refl _ _).drew)).mono ?_); rintro e w4 ⟨g4, rfl, L4, d4⟩; (replace d4 : Below W3.heap.size W3 w4 := ⟨d4.os, d4.tape, d4.output, d4.size, d4.block⟩); have cv : (convert 47 9 (.slice (some ⟨g4, 0, none⟩) z z)).run Try.prog w4 = .ok (.string ⟨tx⟩) w4 := CV.out _ _ L4; obtain ⟨n0, n1, n2, n3⟩ := CE.out w4 d4)
        | (go_at_call 28; (refine (RW.out _ d4).mono ?_); rintro e w5 ⟨v5, rfl, O5, d5⟩; obtain ⟨V2, c2, rfl⟩ := O5.slice; obtain ⟨q0, q1, q2, q3⟩ := CE.out w5 (d4.trans (d5.mono d4.size))))
      all_goals (go_wp2_with fail; go_meet)
      all_goals exact ⟨V2, c2, w5, O5.less d4.size, d4.trans (d5.mono d4.size), rfl⟩
    case rest =>
      clear LA CV RW CE CF m0 m1 m2 m3 HW
      obtain ⟨V2, c2, w5, O, d5, hw⟩ := hcut
      have SB := put_of ((d5.block w.heap.size (by have := sz.out; omega)).trans B3.out.1) 0 (.slice V2 n c2)
      have RB := (d5.block (w.heap.size + 1 + 1) sz.out).trans B3.out.2.2
      have RB2 : (w5.setCell ⟨w.heap.size, 0, none⟩ (.slice V2 n c2)).heap[w.heap.size + 1 + 1]? = some (.cells #[.slice none 0 0, .bool false, .int .i64 0, .int .i64 0, .int .i64 0, .int .i64 0] 44) := by rw [Below.heap_setCell _ _ _ _ (by simp <;> omega)]; exact RB
      have O2 : Sx (w5.setCell ⟨w.heap.size, 0, none⟩ (.slice V2 n c2)) W3.heap.size (.slice V2 n c2) (put f i (wrote (f i) ⟨tx⟩)) n := ownsRow_setCell_below O (by have := sz.out; show w.heap.size < _; omega) _
      have D5 := (D3.out.trans (d5.mono D3.out.size)).setCell (p := ⟨w.heap.size, 0, none⟩) (Nat.le_refl _) (.slice V2 n c2)
      rw [← hw] at SB RB2 O2 D5
      simp only [List.setIfInBounds_toArray, List.set_cons_zero] at SB
      have s0_ : wc.cell? ⟨w.heap.size, 0, none⟩ = some (.slice V2 n c2) := (cell_of SB 0).1
      have s1_ : wc.cell? ⟨w.heap.size, 1, none⟩ = some (.bool false) := (cell_of SB 1).1
      have s2_ : wc.cell? ⟨w.heap.size, 2, none⟩ = some (.int .i64 (fv : Nat)) := (cell_of SB 2).1
      have s3_ : wc.cell? ⟨w.heap.size, 3, none⟩ = some (.int .i64 (r : Nat)) := (cell_of SB 3).1
      have s4_ : wc.cell? ⟨w.heap.size, 4, none⟩ = some (.int .i64 (w' : Nat)) := (cell_of SB 4).1
      have s5_ : wc.cell? ⟨w.heap.size, 5, none⟩ = some (.int .i64 (s : Nat)) := (cell_of SB 5).1
      have r0_ : wc.cell? ⟨w.heap.size + 1 + 1, 0, none⟩ = some (.slice none 0 0) := (cell_of RB2 0).1
      have x0_ := (cell_of RB2 0).2
      have r1_ : wc.cell? ⟨w.heap.size + 1 + 1, 1, none⟩ = some (.bool false) := (cell_of RB2 1).1
      have x1_ := (cell_of RB2 1).2
      have r2_ : wc.cell? ⟨w.heap.size + 1 + 1, 2, none⟩ = some (.int .i64 0) := (cell_of RB2 2).1
      have x2_ := (cell_of RB2 2).2
      have r3_ : wc.cell? ⟨w.heap.size + 1 + 1, 3, none⟩ = some (.int .i64 0) := (cell_of RB2 3).1
      have x3_ := (cell_of RB2 3).2
      have r4_ : wc.cell? ⟨w.heap.size + 1 + 1, 4, none⟩ = some (.int .i64 0) := (cell_of RB2 4).1
      have x4_ := (cell_of RB2 4).2
      have r5_ : wc.cell? ⟨w.heap.size + 1 + 1, 5, none⟩ = some (.int .i64 0) := (cell_of RB2 5).1
      have x5_ := (cell_of RB2 5).2
      have SX := Lib.hid (six (w := wc) (r := w.heap.size + 1 + 1) RB2 (.slice V2 n c2) (.bool false) (.int .i64 (fv : Nat)) (.int .i64 (r : Nat)) (.int .i64 (w' : Nat)) (.int .i64 (s : Nat)))
      have D4 := Lib.hid D5
      have SZ := Lib.hid (show w.heap.size + 1 + 1 < _ from sz.out)
      replace O := Lib.hid O2
      clear B3 D3 d5 SB RB RB2 O2 D5 sz hw Q3
      go_wp2
      obtain ⟨g0_, g1_, g2_, g3_, g4_, g5_⟩ := SX.out
      refine bodyPost_ret (v := .tuple #[.agg #[.slice V2 n c2, .bool false, .int .i64 (fv : Nat), .int .i64 (r : Nat), .int .i64 (w' : Nat), .int .i64 (s : Nat)], .int .i64 0, .string ⟨#[]⟩]) (by simp [results, Try.results13, go_sem, g0_, g1_, g2_, g3_, g4_, g5_]) rfl ⟨V2, c2, by simp [sv], ?_, ?_⟩
      · refine Sx.less ?_ (Nat.le_of_lt (Nat.lt_of_le_of_lt (Nat.le_add_right _ 2) SZ.out))
        repeat (refine ownsRow_setCell_below ?_ (Nat.lt_of_le_of_lt (by simp <;> omega) SZ.out) _)
        exact O.out
      · repeat (first | with_reducible exact D4.out | with_reducible refine Below.setCell ?_ (by simp <;> omega) _)
end Dk
end Go.Proofs.Ytfjlhbamldgklaa
