/- Layer 15: the contract of looks. -/
import Derived.Test.YtfjlhbamldgklaaDiskH
import Derived.Test.YtfjlhbamldgklaaDiskK
import Derived.Deep.RegionHeld3
import Derived.Deep.DeepCutAuto
set_option linter.unusedVariables false
namespace Go.Proofs.Ytfjlhbamldgklaa
open Go.RowKit Go.Lib Go.ChangeMaps
namespace Dk
open Ww

/-- The slice v holds the numbers l. -/
def Rd (w : World) (l : List Nat) (v : Value) : Prop := ∃ A c, v = .slice A l.length c ∧ ∀ q i : Nat, l[q]? = some i → ∃ g, A = some ⟨g, 0, none⟩ ∧ g < w.heap.size ∧ w.cell? ⟨g, q, none⟩ = some (.int .i64 (i : Int))
theorem Rd.below {w w' : World} {l : List Nat} {v : Value} (h : Rd w l v) (b : Below w.heap.size w w') : Rd w' l v := by
  obtain ⟨A, c, e, h⟩ := h
  refine ⟨A, c, e, fun q i hq => ?_⟩
  obtain ⟨g, e1, h1, h2⟩ := h q i hq
  exact ⟨g, e1, Nat.lt_of_lt_of_le h1 b.size, (b.cell (p := ⟨g, q, none⟩) h1).trans h2⟩
theorem Nw.rd {l : List Nat} {w w' : World} {e : Ending} (h : Nw l w e w') : ∃ v, e = .returned v ∧ Rd w' l v ∧ Below w.heap.size w w' := by
  obtain ⟨A, c, e, h1, h2⟩ := h.reads
  refine ⟨_, e, ⟨A, c, rfl, fun q i hq => ?_⟩, h2⟩
  obtain ⟨g, e1, _, h3, h4⟩ := h1 q i hq
  exact ⟨g, e1, h3, h4⟩
theorem neq_ops (a b c : Int) (W : World) : (binOp .neq 34 (.agg #[.int .i64 a, .int .i64 b, .int .i64 c]) (.agg #[.int .i64 a, .int .i64 b, .int .i64 c])).run Try.prog W = .ok (.bool false) W := by
  simp [go_sem]
section
variable {w : World} {L : Ly} {z n k : Nat} {d : Dm}
set_option maxHeartbeats 2000000 in
set_option maxRecDepth 100000 in
theorem looks (h : Db w L z n d k) (hk : k ≤ 1000000) (B : Nat) (V : Option Addr) (c : Nat) (R : Sx w B (.slice V n c) d.f n) :
    Calls Try.prog 14 #[.pointer (some ⟨L.p, 0, none⟩), sv (.slice V n c) d] w fun e w' => e = .returned (.bool true) ∧ Below w.heap.size w w' := by
  obtain ⟨f, dn, fu, r, ww, s⟩ := d
  simp only [sv] at *
  have b1 : Below w.heap.size w (w.alloc (.cells #[.slice V n c, .bool dn, .int .i64 (fu : Nat), .int .i64 (r : Nat), .int .i64 (ww : Nat), .int .i64 (s : Nat)] 44)) := (Below.refl w.heap.size w).alloc (Nat.le_refl _) _
  have hb := h.below b1
  have hn : 1 ≤ n ∧ n ≤ 1048576 := by obtain ⟨φ, sf, c, h⟩ := h; exact h.ln
  have nq := neq_ops (r : Int) (ww : Int) (s : Int)
  obtain ⟨w0, hw0⟩ : ∃ w0, w0 = w.alloc (.cells #[.slice V n c, .bool dn, .int .i64 (fu : Nat), .int .i64 (r : Nat), .int .i64 (ww : Nat), .int .i64 (s : Nat)] 44) := ⟨_, rfl⟩
  have B0 : w0.heap[w.heap.size]? = some (.cells #[.slice V n c, .bool dn, .int .i64 (fu : Nat), .int .i64 (r : Nat), .int .i64 (ww : Nat), .int .i64 (s : Nat)] 44) := by rw [hw0]; exact heap_alloc_new w _
  have s0 : w.heap.size < w0.heap.size := by rw [hw0]; simp
  rw [← hw0] at b1 hb
  have DN := Lib.hid (fun W (hW : Below w0.heap.size w0 W) => down (hb.below hW))
  have CO := Lib.hid (fun W (hW : Below w0.heap.size w0 W) => count (hb.below hW))
  have DI := Lib.hid (fun W (hW : Below w0.heap.size w0 W) => (dirty (hb.below hW) hk).mono fun _ _ x => x.rd)
  have TO := Lib.hid (fun W (hW : Below w0.heap.size w0 W) => (touched (hb.below hW)).mono fun _ _ x => x.rd)
  simp only at DN CO DI TO
  have PX := Lib.hid (fun W (hW : Below w0.heap.size w0 W) => (show W.cell? ⟨w.heap.size, 1, none⟩ = some (.bool dn) ∧ W.cell? ⟨w.heap.size, 3, none⟩ = some (.int .i64 (r : Nat)) ∧ W.cell? ⟨w.heap.size, 4, none⟩ = some (.int .i64 (ww : Nat)) ∧ W.cell? ⟨w.heap.size, 5, none⟩ = some (.int .i64 (s : Nat)) from by
    have b := (hW.block _ s0).trans B0
    exact ⟨blk_cell b 1, blk_cell b 3, blk_cell b 4, blk_cell b 5⟩))
  have PS := Lib.hid (fun W (hW : Below w0.heap.size w0 W) => (show W.cell? ⟨w.heap.size, 0, none⟩ = some (.slice V n c) from blk_cell ((hW.block _ s0).trans B0) 0))
  obtain ⟨gv, rfl, _, gl, SC⟩ := R.at_ (by omega)
  have PV := Lib.hid (fun W (hW : Below w0.heap.size w0 W) j (hj : j < n) => (show W.cell? ⟨gv, j * 4 + 2, none⟩ = some (.bool (f j).dirty) ∧ W.cell? ⟨gv, j * 4 + 3, none⟩ = some (.bool (f j).touched) from
    ⟨(hW.cell (p := ⟨gv, j * 4 + 2, none⟩) (by show gv < _; omega)).trans ((b1.cell (p := ⟨gv, j * 4 + 2, none⟩) gl).trans (SC j hj 2 (by omega)).1), (hW.cell (p := ⟨gv, j * 4 + 3, none⟩) (by show gv < _; omega)).trans ((b1.cell (p := ⟨gv, j * 4 + 3, none⟩) gl).trans (SC j hj 3 (by omega)).1)⟩))
  obtain ⟨p1, hp1⟩ : ∃ p1 : Nat → Bool, p1 = fun i => (f i).dirty := ⟨_, rfl⟩
  obtain ⟨p2, hp2⟩ : ∃ p2 : Nat → Bool, p2 = fun i => (f i).touched := ⟨_, rfl⟩
  have PV2 := Lib.hid (fun W (hW : Below w0.heap.size w0 W) j (hj : j < n) => (show W.cell? ⟨gv, j * 4 + 2, none⟩ = some (.bool (p1 j)) ∧ W.cell? ⟨gv, j * 4 + 3, none⟩ = some (.bool (p2 j)) from by rw [hp1, hp2]; exact PV.out W hW j hj))
  rw [← hp1] at DI
  rw [← hp2] at TO
  have FE := Lib.hid (show ∀ W, Below w0.heap.size w0 W → Below w.heap.size w W from fun W hW => b1.trans (hW.mono (by omega)))
  have HN := Lib.hid hn
  have M : Below w0.heap.size w0 w0 := Below.refl _ _
  have HW := Lib.hid hw0
  clear h hb R SC gl PV hp1 hp2 b1 B0 s0 hk hn hw0
  obtain ⟨p, s', t, m⟩ := L
  go_enter Try.func14, Try.ntmps14
  go_upto_region 1 with fail
  rw [← HW.out]
  clear HW
  go_cut [25] (fun v25 wx => v25 = .bool false ∧ Below w0.heap.size w0 wx)
  case first =>
    cases dn with
    | true =>
      go_region_held3 (fun w' => w'.cell? ⟨w.heap.size, 1, none⟩ = some (.bool true) ∧ w'.cell? ⟨w.heap.size, 3, none⟩ = some (.int .i64 (r : Nat)) ∧ w'.cell? ⟨w.heap.size, 4, none⟩ = some (.int .i64 (ww : Nat)) ∧ w'.cell? ⟨w.heap.size, 5, none⟩ = some (.int .i64 (s : Nat)))
        (exact PX.out _ (by repeat (first | with_reducible exact M | with_reducible exact Below.refl _ _ | with_reducible refine Below.drew ?_ | with_reducible refine bl_call ?_ h1 | with_reducible refine bl_call ?_ h2)))
        (first
          | (go_at_call 15; (with_reducible refine (DN.out _ (by repeat (first | with_reducible exact M | with_reducible exact Below.refl _ _ | with_reducible refine Below.drew ?_ | with_reducible refine bl_call ?_ h1 | with_reducible refine bl_call ?_ h2))).mono ?_); rintro e w1 ⟨rfl, rfl⟩)
          | (go_at_call 17; (with_reducible refine (CO.out _ (by repeat (first | with_reducible exact M | with_reducible exact Below.refl _ _ | with_reducible refine Below.drew ?_ | with_reducible refine bl_call ?_ h1 | with_reducible refine bl_call ?_ h2))).mono ?_); rintro e w2 ⟨rfl, h2⟩))
      all_goals (go_wp2_with fail; go_meet)
      all_goals exact ⟨rfl, (by repeat (first | with_reducible exact M | with_reducible exact Below.refl _ _ | with_reducible refine Below.drew ?_ | with_reducible refine bl_call ?_ h1 | with_reducible refine bl_call ?_ h2))⟩
    | false =>
      go_region_held3 (fun w' => w'.cell? ⟨w.heap.size, 1, none⟩ = some (.bool false) ∧ w'.cell? ⟨w.heap.size, 3, none⟩ = some (.int .i64 (r : Nat)) ∧ w'.cell? ⟨w.heap.size, 4, none⟩ = some (.int .i64 (ww : Nat)) ∧ w'.cell? ⟨w.heap.size, 5, none⟩ = some (.int .i64 (s : Nat)))
        (exact PX.out _ (by repeat (first | with_reducible exact M | with_reducible exact Below.refl _ _ | with_reducible refine Below.drew ?_ | with_reducible refine bl_call ?_ h1 | with_reducible refine bl_call ?_ h2)))
        (first
          | (go_at_call 15; (with_reducible refine (DN.out _ (by repeat (first | with_reducible exact M | with_reducible exact Below.refl _ _ | with_reducible refine Below.drew ?_ | with_reducible refine bl_call ?_ h1 | with_reducible refine bl_call ?_ h2))).mono ?_); rintro e w1 ⟨rfl, rfl⟩)
          | (go_at_call 17; (with_reducible refine (CO.out _ (by repeat (first | with_reducible exact M | with_reducible exact Below.refl _ _ | with_reducible refine Below.drew ?_ | with_reducible refine bl_call ?_ h1 | with_reducible refine bl_call ?_ h2))).mono ?_); rintro e w2 ⟨rfl, h2⟩))
      all_goals (go_wp2_with fail; go_meet)
      all_goals exact ⟨rfl, (by repeat (first | with_reducible exact M | with_reducible exact Below.refl _ _ | with_reducible refine Below.drew ?_ | with_reducible refine bl_call ?_ h1 | with_reducible refine bl_call ?_ h2))⟩
  case rest =>
    obtain ⟨rfl, hW⟩ := hcut
    clear PX DN CO nq M
    have M := hW
    go_upto_region 3 with fail
    go_cut [5, 6] (fun v5 v6 wx => Rd wx (nl p1 n) v5 ∧ Rd wx (nl p2 n) v6 ∧ Below w0.heap.size w0 wx)
    case first =>
      go_region_held3 (fun w' => Below w0.heap.size w0 w')
        (exact (by repeat (first | with_reducible exact M | with_reducible exact Below.refl _ _ | with_reducible refine Below.drew ?_ | with_reducible refine bl_call ?_ h1 | with_reducible refine bl_call ?_ h2)))
        (first
          | (go_at_call 16; (with_reducible refine (DI.out _ (by repeat (first | with_reducible exact M | with_reducible exact Below.refl _ _ | with_reducible refine Below.drew ?_ | with_reducible refine bl_call ?_ h1 | with_reducible refine bl_call ?_ h2))).mono ?_); rintro e w1 ⟨v1, rfl, R1, h1⟩)
          | (go_at_call 29; (with_reducible refine (TO.out _ (by repeat (first | with_reducible exact M | with_reducible exact Below.refl _ _ | with_reducible refine Below.drew ?_ | with_reducible refine bl_call ?_ h1 | with_reducible refine bl_call ?_ h2))).mono ?_); rintro e w2 ⟨v2, rfl, R2, h2⟩))
      all_goals (go_wp2_with fail; go_meet)
      all_goals exact ⟨by first | with_reducible exact R1 | with_reducible exact R1.below h2, by first | with_reducible exact R2 | with_reducible exact R2.below h1, (by repeat (first | with_reducible exact M | with_reducible exact Below.refl _ _ | with_reducible refine Below.drew ?_ | with_reducible refine bl_call ?_ h1 | with_reducible refine bl_call ?_ h2))⟩
    case rest =>
      clear hW M DI TO
      obtain ⟨⟨A1, c1, rfl, C1⟩, ⟨A2, c2, rfl, C2⟩, hW⟩ := hcut
      have LT1 := Lib.hid (show ∀ j, j < n → p1 j = true → nc p1 j < (nl p1 n).length from fun j hj hp => (List.getElem?_eq_some_iff.1 (nl_at p1 hp hj)).1)
      have LT2 := Lib.hid (show ∀ j, j < n → p2 j = true → nc p2 j < (nl p2 n).length from fun j hj hp => (List.getElem?_eq_some_iff.1 (nl_at p2 hp hj)).1)
      have E1 := Lib.hid (show nc p1 n = (nl p1 n).length from rfl)
      have E2 := Lib.hid (show nc p2 n = (nl p2 n).length from rfl)
      have ps := PS.out wc hW
      have PV3 := Lib.hid (fun j (hj : j < n) => PV2.out wc hW j hj)
      have FE2 := Lib.hid (FE.out wc hW)
      replace C1 := Lib.hid C1
      replace C2 := Lib.hid C2
      obtain ⟨y1, hy1⟩ : ∃ y1, y1 = (nl p1 n).length := ⟨_, rfl⟩
      obtain ⟨y2, hy2⟩ : ∃ y2, y2 = (nl p2 n).length := ⟨_, rfl⟩
      rw [← hy1] at LT1 E1 ⊢
      rw [← hy2] at LT2 E2 ⊢
      clear hy1 hy2 PS PV2 FE hW
      go_wp2_with fail
      obtain ⟨wo, rfl⟩ : ∃ wo : World, wo = wc := ⟨_, rfl⟩
      go_loopw [7, 8, 9] (fun v7 v8 v9 wr => ∃ j : Nat, v9 = .int .i64 (j : Int) ∧ v7 = .int .i64 (nc p1 j : Nat) ∧ v8 = .int .i64 (nc p2 j : Nat) ∧ j ≤ n ∧ wr = wo) (fun _ _ v9 _ => n - (Lib.intOf v9).toNat)
      case atStart => exact ⟨0, rfl, rfl, rfl, Nat.zero_le _, rfl⟩
      case round =>
        obtain ⟨j, rfl, rfl, rfl, hj, rfl⟩ := hrel
        have hn := HN.out.2
        by_cases hlt : j < n
        · have i1 : (j : Int) < n := by omega
          obtain ⟨t2, t3⟩ := PV3.out j hlt
          cases hd : p1 j with
          | true =>
            cases ht : p2 j with
            | true =>
              rw [hd] at t2
              rw [ht] at t3
              have n1 := Lib.hid (nc_yes hd)
              have lt1 := LT1.out j hlt hd
              obtain ⟨g1, rfl, _, a1⟩ := C1.out _ _ (nl_at p1 hd hlt)
              have n2 := Lib.hid (nc_yes ht)
              have lt2 := LT2.out j hlt ht
              obtain ⟨g2, rfl, _, a2⟩ := C2.out _ _ (nl_at p2 ht hlt)
              have b1 := nc_le p1 j
              have b2 := nc_le p2 j
              obtain ⟨q1, hq1⟩ : ∃ q1, q1 = nc p1 j := ⟨_, rfl⟩
              obtain ⟨q2, hq2⟩ : ∃ q2, q2 = nc p2 j := ⟨_, rfl⟩
              rw [← hq1] at n1 b1 a1 lt1 ⊢
              rw [← hq2] at n2 b2 a2 lt2 ⊢
              have i3 : ¬ (y1 : Int) ≤ (q1 : Int) := by omega
              have i3b : (q1 : Int) < (y1 : Int) := by omega
              have i4 : ¬ (y2 : Int) ≤ (q2 : Int) := by omega
              have i4b : (q2 : Int) < (y2 : Int) := by omega
              clear hq1 hq2 hd ht C1 C2 LT1 LT2 FE2 PV3 E1 E2
              go_wp2_with fail
              go_roundw
              case rel => exact ⟨j + 1, rfl, by first | (rw [n1.out]; rfl) | rw [n1.out], by first | (rw [n2.out]; rfl) | rw [n2.out], by omega, by first | rfl | trivial⟩
              case measure => simp [Lib.intOf]; omega
            | false =>
              rw [hd] at t2
              rw [ht] at t3
              have n1 := Lib.hid (nc_yes hd)
              have lt1 := LT1.out j hlt hd
              obtain ⟨g1, rfl, _, a1⟩ := C1.out _ _ (nl_at p1 hd hlt)
              have n2 := Lib.hid (nc_no ht)
              have b1 := nc_le p1 j
              have b2 := nc_le p2 j
              obtain ⟨q1, hq1⟩ : ∃ q1, q1 = nc p1 j := ⟨_, rfl⟩
              obtain ⟨q2, hq2⟩ : ∃ q2, q2 = nc p2 j := ⟨_, rfl⟩
              rw [← hq1] at n1 b1 a1 lt1 ⊢
              rw [← hq2] at n2 b2 ⊢
              have i3 : ¬ (y1 : Int) ≤ (q1 : Int) := by omega
              have i3b : (q1 : Int) < (y1 : Int) := by omega
              clear hq1 hq2 hd ht C1 C2 LT1 LT2 FE2 PV3 E1 E2
              go_wp2_with fail
              go_roundw
              case rel => exact ⟨j + 1, rfl, by first | (rw [n1.out]; rfl) | rw [n1.out], by first | (rw [n2.out]; rfl) | rw [n2.out], by omega, by first | rfl | trivial⟩
              case measure => simp [Lib.intOf]; omega
          | false =>
            cases ht : p2 j with
            | true =>
              rw [hd] at t2
              rw [ht] at t3
              have n1 := Lib.hid (nc_no hd)
              have n2 := Lib.hid (nc_yes ht)
              have lt2 := LT2.out j hlt ht
              obtain ⟨g2, rfl, _, a2⟩ := C2.out _ _ (nl_at p2 ht hlt)
              have b1 := nc_le p1 j
              have b2 := nc_le p2 j
              obtain ⟨q1, hq1⟩ : ∃ q1, q1 = nc p1 j := ⟨_, rfl⟩
              obtain ⟨q2, hq2⟩ : ∃ q2, q2 = nc p2 j := ⟨_, rfl⟩
              rw [← hq1] at n1 b1 ⊢
              rw [← hq2] at n2 b2 a2 lt2 ⊢
              have i4 : ¬ (y2 : Int) ≤ (q2 : Int) := by omega
              have i4b : (q2 : Int) < (y2 : Int) := by omega
              clear hq1 hq2 hd ht C1 C2 LT1 LT2 FE2 PV3 E1 E2
              go_wp2_with fail
              go_roundw
              case rel => exact ⟨j + 1, rfl, by first | (rw [n1.out]; rfl) | rw [n1.out], by first | (rw [n2.out]; rfl) | rw [n2.out], by omega, by first | rfl | trivial⟩
              case measure => simp [Lib.intOf]; omega
            | false =>
              rw [hd] at t2
              rw [ht] at t3
              have n1 := Lib.hid (nc_no hd)
              have n2 := Lib.hid (nc_no ht)
              have b1 := nc_le p1 j
              have b2 := nc_le p2 j
              obtain ⟨q1, hq1⟩ : ∃ q1, q1 = nc p1 j := ⟨_, rfl⟩
              obtain ⟨q2, hq2⟩ : ∃ q2, q2 = nc p2 j := ⟨_, rfl⟩
              rw [← hq1] at n1 b1 ⊢
              rw [← hq2] at n2 b2 ⊢
              clear hq1 hq2 hd ht C1 C2 LT1 LT2 FE2 PV3 E1 E2
              go_wp2_with fail
              go_roundw
              case rel => exact ⟨j + 1, rfl, by first | (rw [n1.out]; rfl) | rw [n1.out], by first | (rw [n2.out]; rfl) | rw [n2.out], by omega, by first | rfl | trivial⟩
              case measure => simp [Lib.intOf]; omega
        · have i1 : ¬ (j : Int) < n := by omega
          have ej : j = n := by omega
          subst ej
          rw [E1.out, E2.out]
          clear C1 C2 LT1 LT2 PV3 E1 E2
          go_wp2
          exact bodyPost_ret (v := .bool true) (by simp [results, Try.results14, go_sem]) rfl ⟨rfl, FE2.out⟩
end
end Dk
end Go.Proofs.Ytfjlhbamldgklaa
