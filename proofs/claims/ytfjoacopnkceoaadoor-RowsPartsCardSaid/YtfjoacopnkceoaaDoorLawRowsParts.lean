/- RowsParts: of every row, number and rows the law of parts and joins answers true, and changes nothing, where the library's two tables are as their initialisers lay them (the card ties them to the program's text). -/
import Derived.Test.YtfjoacopnkceoaaDoorFrame
import Derived.Test.YtfjoacopnkceoaaDoorViewS
import Derived.Test.YtfjoacopnkceoaaDoorViewO
import Derived.Test.YtfjoacopnkceoaaDoorPartC
import Derived.Test.YtfjoacopnkceoaaDoorTie
import Derived.Test.YtfjoacopnkceoaaDoorCards
import Derived.Lib.LaidTab
import Derived.LaidMore
import Derived.Stop.Joined
import Derived.SevenTiedAt
import Derived.Deep.QuietTactic
import Derived.BigQuiet
set_option linter.unusedVariables false
namespace Go.Proofs.YtfjoacopnkceoaaDoor.rowsParts
open Go.ChangeShapes Go.WideShapes Go.ChangeAt Go.RowKit
open Vw Kn Td Tn Ww Pl

set_option maxHeartbeats 1000000 in
set_option maxRecDepth 100000 in
theorem walk_long (A B : Option Addr) (ca cb n m : Nat) (nn : Int) (hl : 100 < n) (w : World) (hT : Ft.Tab w) :
    Calls Tryd.prog 7 #[.slice A n ca, .int .i64 nn, .slice B m cb] w fun e w' => e = .returned (.bool true) ∧ Below w.heap.size w w' := by
  have h1 : 100 < (n : Int) := by omega
  have HT := Lib.hid hT
  go_enter Tryd.func7, Tryd.ntmps7
  go_wp2_with fail
  refine (awake _ HT.out).mono ?_
  rintro e w1 ⟨rfl, c1⟩
  have c1 := Lib.hid c1
  go_wp2
  go_ret
  exact ⟨by simp [go_sem], c1.out⟩

set_option maxHeartbeats 1000000 in
set_option maxRecDepth 100000 in
theorem walk_long2 (A B : Option Addr) (ca cb n m : Nat) (nn : Int) (hl : n ≤ 100) (hl2 : 20 < m) (w : World) (hT : Ft.Tab w) :
    Calls Tryd.prog 7 #[.slice A n ca, .int .i64 nn, .slice B m cb] w fun e w' => e = .returned (.bool true) ∧ Below w.heap.size w w' := by
  have h1 : ¬ 100 < (n : Int) := by omega
  have h2 : 20 < (m : Int) := by omega
  have HT := Lib.hid hT
  go_enter Tryd.func7, Tryd.ntmps7
  go_wp2_with fail
  refine (awake _ HT.out).mono ?_
  rintro e w1 ⟨rfl, c1⟩
  have c1 := Lib.hid c1
  go_wp2
  go_ret
  exact ⟨by simp [go_sem], c1.out⟩

theorem same_q (A B : Option Addr) (ca cb n k : Nat) (zs : List Nat) (hz : zs.length = n) (hn : n ≤ 1048576) (w : World) (Ra : Ws w k A zs) (Rb : Ws w k B zs) (j : Nat) :
    Calls Tryd.prog 13 #[.slice A n ca, .slice B n cb] (w.drewN j) fun e w'' => e = .returned (.bool true) ∧ ∃ m, w'' = w.drewN m := by
  subst hz
  exact Calls.quiet_of (Sm.same_yes A B ca cb k zs (by omega) (w.drewN j) (Ra.drewN j) (Rb.drewN j))
theorem same_l (A B : Option Addr) (ca cb n : Nat) (zs : List Nat) (hz : zs.length = n) (hn : n ≤ 1048576) (w : World) (Ra : Ws w w.heap.size A zs) (Rb : Ws w w.heap.size B zs) :
    Calls Tryd.prog 13 #[.slice A n ca, .slice B n cb] w fun e w' => e = .returned (.bool true) ∧ Below w.heap.size w w' := by
  subst hz
  exact Sm.same A B _ _ ca cb zs rfl rfl (by omega) w Ra Rb
/-- All words of rows are words. -/
theorem rows_lt {w : World} {B : Nat} {A : Option Addr} {ls : List (List Nat)} (R : Jn.Rj w B A ls) : ∀ i, i < ls.flatten.length → ls.flatten.getD i 0 < 18446744073709551616 := by
  have key : ∀ x ∈ ls.flatten, x < 18446744073709551616 := by
    intro x hx
    obtain ⟨l, hl, hx⟩ := List.mem_flatten.1 hx
    obtain ⟨i, hi, rfl⟩ := List.mem_iff_getElem.1 hl
    obtain ⟨j, hj, rfl⟩ := List.mem_iff_getElem.1 hx
    obtain ⟨b, off, Ai, ci, _, _, _, Ri, _⟩ := R.at_ i hi
    have e : ls.getD i [] = ls[i] := by simp [List.getD, hi]
    rw [e] at Ri
    have := Ri.lt j hj
    simpa [List.getD, hj] using this
  intro i hi
  have := key (ls.flatten[i]) (List.getElem_mem hi)
  rw [List.getD_eq_getElem?_getD, List.getElem?_eq_getElem hi]
  exact this

set_option maxHeartbeats 1000000 in
set_option maxRecDepth 100000 in
theorem walk_in (A B : Option Addr) (ca cb n m : Nat) (xs : List Nat) (ls : List (List Nat)) (nn : Int) (hl : n ≤ 100) (hl2 : m ≤ 20) (hx : xs.length = n) (hm : ls.length = m) (hca : n ≤ ca) (w : World) (hT : Ft.Tab w) (R : Ws w w.heap.size A xs) (R2 : Jn.Rj w w.heap.size B ls) :
    Calls Tryd.prog 7 #[.slice A n ca, .int .i64 nn, .slice B m cb] w fun e w' => e = .returned (.bool true) ∧ Below w.heap.size w w' := by
  have h1 : ¬ 100 < (n : Int) := by omega
  have h2 : ¬ 20 < (m : Int) := by omega
  have HT := Lib.hid hT
  have HX := Lib.hid hx
  have R := Lib.hid R
  have R2 := Lib.hid R2
  have LL := Lib.hid (rows_lt R2.out)
  have AT := Lib.hid (fun (W : World) (R : Jn.Rj W W.heap.size B ls) i (hi : i < m) => R.at_ i (by omega))
  have TF := Lib.hid (fun i (hi : i < m) => Jn.take_succ_flat ls i (by omega))
  have TM := Lib.hid (show ls.take m = ls by rw [← hm]; exact List.take_length)
  have FZ := Lib.hid (show (ls.take 0).flatten = [] from rfl)
  have TL := Lib.hid (fun i (hi : i < m) (h : ∀ j, j < i → (ls.getD j []).length ≤ 100) => show (ls.take i).flatten.length ≤ 100 * i from by
    have key : ∀ k, k ≤ i → (ls.take k).flatten.length ≤ 100 * k := by
      intro k
      induction k with
      | zero => intro _; simp
      | succ k ih =>
        intro hk
        have a := ih (by omega)
        have b := h k (by omega)
        have c := Jn.take_succ_flat ls k (by omega)
        rw [c, List.length_append]; omega
    exact key i (Nat.le_refl _))
  have TA := Lib.hid (fun (h : ∀ j, j < m → (ls.getD j []).length ≤ 100) => show ls.flatten.length ≤ 2000 from by
    have := Pt.tot_rows ls (by rw [hm]; exact h) ls.length (Nat.le_refl _)
    unfold Jn.tot at this
    rw [List.take_length] at this
    omega)
  have JN := Lib.hid (fun (h : ls.flatten.length ≤ 2000) W R => Jn.join B m cb ls hm (by omega) (by omega) W R)
  have O0 := Lib.hid (fun w => Ow.nil_ w w.heap.size)
  clear hm hx hT
  go_enter Tryd.func7, Tryd.ntmps7
  go_wp2_with fail
  refine (awake _ HT.out).mono ?_
  rintro e w1 ⟨rfl, c1⟩
  have c1 := Lib.hid c1
  have O1 := Lib.hid (O0.out w1)
  clear O0 HT
  go_wp2_with fail
  go_loopw [7, 8] (fun v7 v8 wr => ∃ i : Nat, v8 = .int .i64 (i : Int) ∧ i ≤ m ∧ Ow wr w1.heap.size v7 (ls.take i).flatten ∧ Below w1.heap.size w1 wr ∧ Hid (∀ j, j < i → (ls.getD j []).length ≤ 100)) (fun _ v8 _ => m - (Lib.intOf v8).toNat)
  case atStart => exact ⟨0, rfl, Nat.zero_le _, by rw [FZ.out]; exact O1.out, Below.refl _ _, Lib.hid (fun j hj => by omega)⟩
  case round =>
    obtain ⟨i, rfl, hi, O, hb, HL⟩ := hrel
    clear O1
    by_cases hlt : i < m
    · have i1 : (i : Int) < m := by omega
      obtain ⟨b, off, Ai, ci, rfl, hB, c, Ri, z⟩ := AT.out _ (((R2.out.step c1.out).below hb).more hb.size) i hlt
      by_cases hlong : 100 < (ls.getD i []).length
      · have bb := Lib.hid (c1.out.trans (hb.mono c1.out.size))
        obtain ⟨L, hL⟩ : ∃ L, L = (ls.getD i []).length := ⟨_, rfl⟩
        rw [← hL] at c hlong
        have l3 : 100 < (L : Int) := by omega
        clear hL O hb Ri z
        go_wp2
        go_ret
        exact ⟨by simp [go_sem], bb.out⟩
      · have S := Lib.hid (TF.out i hlt)
        have HL2 := Lib.hid (show ∀ j, j < i + 1 → (ls.getD j []).length ≤ 100 from fun j hj => by
          by_cases h : j < i
          · exact HL.out j h
          · obtain rfl : j = i := by omega
            omega)
        have LE := Lib.hid (show (ls.take i).flatten.length + (ls.getD i []).length ≤ 2100 by
          have h3 := TL.out i hlt HL.out
          omega)
        have Ri := Lib.hid Ri
        have z := Lib.hid z
        obtain ⟨zs, hzs⟩ : ∃ zs, zs = ls.getD i [] := ⟨_, rfl⟩
        rw [← hzs] at c Ri S LE hlong
        obtain ⟨L, hL⟩ : ∃ L, zs.length = L := ⟨_, rfl⟩
        have HZ := Lib.hid (show Value.slice Ai L ci = Value.slice Ai zs.length ci by rw [hL])
        rw [hL] at c hlong
        have l3 : ¬ 100 < (L : Int) := by omega
        obtain ⟨ys, hys⟩ : ∃ ys, ys = (ls.take i).flatten := ⟨_, rfl⟩
        rw [← hys] at O S LE
        clear hzs HL hL hys
        have O := Lib.hid O
        have hb := Lib.hid hb
        go_wp2_with (at_builtin; (refine append_all wr ?hgd (.tmp 34) (.tmp 38) ?ho w1.heap.size u7 ys ?hs O.out wr.heap.size Ai ci zs ?hx Ri.out z.out ?c1 ?c2 (fun v6 w3 O3 hg => ?_)); (case hgd => rfl); (case ho => rfl); (case hs => rfl); (case hx => exact HZ.out))
        case c1 => have := LE.out; omega
        case c2 => exact hb.out.size
        rw [← S.out] at O3
        have b3 := O.out.grow hb.out hg hb.out.size
        go_wp2_with fail
        go_roundw
        case rel => exact ⟨i + 1, rfl, by omega, O3, b3, HL2⟩
        case measure => simp [Lib.intOf]; omega
    · have i1 : ¬ (i : Int) < m := by omega
      obtain rfl : m = i := by omega
      rw [TM.out] at O
      have T0 := Lib.hid (TA.out HL.out)
      have c2 := Lib.hid (c1.out.trans (hb.mono c1.out.size))
      obtain ⟨A7, k7, rfl, X7⟩ := O.ws LL.out
      obtain ⟨fl, hfl⟩ : ∃ fl, fl = ls.flatten := ⟨_, rfl⟩
      rw [← hfl] at LL T0 X7 JN ⊢
      obtain ⟨N, hN⟩ : ∃ N, fl.length = N := ⟨_, rfl⟩
      have HN := Lib.hid hN
      have X7 := Lib.hid X7
      have LN := Lib.hid (show N ≤ 2000 by have := T0.out; omega)
      rw [hN]
      clear hfl hN HL hb O AT TF TL TA TM FZ
      go_wp2_with fail
      refine (JN.out T0.out _ (R2.out.step c2.out)).mono ?_
      rintro e w2 ⟨v2, rfl, O2, d2⟩
      obtain ⟨A2, k2, rfl, X2⟩ := O2.ws LL.out
      rw [HN.out]
      have X2 := Lib.hid X2
      have X7 := Lib.hid (X7.out.step d2)
      have c3 := Lib.hid (c2.out.trans (d2.mono c2.out.size))
      clear O2 d2 c2 JN R2
      go_wp2_with fail
      refine (same_l A2 A7 k2 k7 N fl HN.out (by have := LN.out; omega) _ X2.out X7.out).mono ?_
      rintro e w3 ⟨rfl, d3⟩
      have c4 := Lib.hid (c3.out.trans (d3.mono c3.out.size))
      clear X2 X7 d3 c3 HN LN T0 LL
      by_cases hn1 : nn < 1
      · go_wp2_with fail
        refine (Pt.parts_arg A n ca nn hn1 _).mono ?_
        rintro e w4 ⟨rfl, d4⟩
        have c5 := Lib.hid (c4.out.trans (d4.mono c4.out.size))
        clear d4 c4
        go_wp2
        go_ret
        exact ⟨by simp [go_sem], c5.out⟩
      obtain ⟨p, rfl⟩ : ∃ p : Nat, nn = (p : Int) := ⟨nn.toNat, by omega⟩
      have p0 : 0 < p := by omega
      have pz : ((p : Int) == 0) = false := by rw [beq_eq_false_iff_ne]; omega
      by_cases ho : n % p = 0
      · obtain ⟨q, hq⟩ : ∃ q, n = q * p := ⟨n / p, by have := Nat.div_add_mod n p; rw [ho, Nat.mul_comm] at this; omega⟩
        have r0 : (n : Int).tmod (p : Int) = 0 := by
          show ((n % p : Nat) : Int) = 0
          rw [ho]; rfl
        have r1 : (n : Int).tdiv (p : Int) = (q : Int) := by
          show ((n / p : Nat) : Int) = (q : Int)
          rw [hq, Nat.mul_div_cancel _ p0]
        have q1 : ((q : Int) != (q : Int)) = false := by simp
        have PA := Lib.hid (fun W R => Pt.parts A ca n p q xs p0 hq HX.out (by omega) hca W R)
        have HQ := Lib.hid hq
        have CL := Lib.hid (Pt.chunks_len xs p q)
        have CA := Lib.hid (fun i (hi : i < q) => Pt.chunks_at xs p q i hi)
        have CF := Lib.hid (Pt.chunks_flat xs p q (HX.out.trans hq))
        have CR := Lib.hid (fun (W : World) A (R : Jn.Rj W W.heap.size A (Pt.chunks xs p q)) i (hi : i < q) => R.at_ i (by rw [Pt.chunks_len]; exact hi))
        have ql : q ≤ 100 := by have := Nat.le_mul_of_pos_right q p0; omega
        have JC := Lib.hid (fun A c W R => Jn.join A q c (Pt.chunks xs p q) CL.out (by rw [CF.out, HX.out]; omega) (by omega) W R)
        rw [CF.out] at JC
        have XL := Lib.hid R.out.lt
        clear ho hq hn1
        go_wp2_with fail
        refine (PA.out _ (R.out.step c4.out)).mono ?_
        rintro e w4 ⟨A4, k4, rfl, RJ, d4⟩
        have c5 := Lib.hid (c4.out.trans (d4.mono c4.out.size))
        have RJ := Lib.hid RJ
        clear d4 c4 PA
        go_wp2_with fail
        go_loopw [11] (fun v11 wr => ∃ i : Nat, v11 = .int .i64 (i : Int) ∧ i ≤ q ∧ Below w4.heap.size w4 wr) (fun v11 _ => q - (Lib.intOf v11).toNat)
        case atStart => exact ⟨0, rfl, Nat.zero_le _, Below.refl _ _⟩
        case round =>
          obtain ⟨j, rfl, hj, hb⟩ := hrel
          by_cases hlj : j < q
          · have j1 : (j : Int) < q := by omega
            obtain ⟨b, off, Ai, ci, rfl, hB, c, Ri, z⟩ := CR.out _ _ (RJ.out.step hb) j hlj
            rw [CA.out j hlj] at Ri c
            rw [rg_len] at c
            have e1 : (j + 1) * p ≤ q * p := Nat.mul_le_mul_right p hlj
            have e2 : (j + 1) * p = j * p + p := Nat.succ_mul j p
            rw [← HQ.out] at e1
            have RX := ((R.out.step c5.out).below hb).more hb.size
            obtain ⟨xb, xo, rfl, _, _⟩ := R.out.at_ 0 (by rw [HX.out]; omega)
            have RS := ws_sub RX (j * p) p (by rw [HX.out]; omega)
            obtain ⟨h, hh⟩ : ∃ h, h = (j + 1) * p := ⟨_, rfl⟩
            obtain ⟨a, ha⟩ : ∃ a, a = j * p := ⟨_, rfl⟩
            have q2 : IntKind.i64.wrap ((j : Int) + 1) = (j : Int) + 1 := IntWalk.i64_in _ (by omega)
            have q3 : IntKind.i64.wrap ((j : Int) * (p : Int)) = (a : Int) := by rw [← Int.natCast_mul, ← ha]; exact IntWalk.i64_in _ (by omega)
            have q4 : IntKind.i64.wrap (((j : Int) + 1) * (p : Int)) = (h : Int) := by
              have : ((j : Int) + 1) * (p : Int) = (h : Int) := by rw [hh]; rw [Int.natCast_mul]; rfl
              rw [this]; exact IntWalk.i64_in _ (by omega)
            have sl := fun W => slice_both W xb xo n ca a h p (by omega) p0 (by omega)
            rw [← ha] at RS Ri
            have SQ := Lib.hid (fun j => same_q (some ⟨xb, xo + a, none⟩) Ai (ca - a) ci p wr.heap.size _ (rg_len _ _) (by omega) wr RS Ri j)
            have SP := Lib.hid (fun j => same_q Ai (some ⟨xb, xo + a, none⟩) ci (ca - a) p wr.heap.size _ (rg_len _ _) (by omega) wr Ri RS j)
            have hb := Lib.hid hb
            clear e1 e2 hh ha RX RS Ri z
            go_wp2_with fail
            go_quiet ((go_at_call 13; exact SP.out _))
            have b5 := below_drewN hb.out nq
            go_wp2_with fail
            go_roundw
            case rel => exact ⟨j + 1, rfl, by omega, b5⟩
            case measure => simp [Lib.intOf]; omega
          · have j1 : ¬ (j : Int) < q := by omega
            have c6 := Lib.hid (c5.out.trans (hb.mono c5.out.size))
            have RJ := Lib.hid (RJ.out.step hb)
            clear hb c5 CA CR CF
            go_wp2_with fail
            refine (JC.out _ _ _ RJ.out).mono ?_
            rintro e w6 ⟨v6, rfl, O6, d6⟩
            obtain ⟨A6, k6, rfl, X6⟩ := O6.ws XL.out
            rw [HX.out]
            have X6 := Lib.hid X6
            have c7 := Lib.hid (c6.out.trans (d6.mono c6.out.size))
            clear O6 d6 c6 JC RJ
            go_wp2_with fail
            refine (same_l _ _ _ _ n xs HX.out (by omega) _ X6.out (R.out.step c7.out)).mono ?_
            rintro e w7 ⟨rfl, d7⟩
            have c8 := Lib.hid (c7.out.trans (d7.mono c7.out.size))
            clear d7 c7 X6
            go_wp2
            go_ret
            exact ⟨by simp [go_sem], c8.out⟩
      · have PO := Lib.hid (fun W => Pt.parts_odd A n ca p p0 ho W)
        obtain ⟨r, hr⟩ : ∃ r, r = n % p := ⟨_, rfl⟩
        have r0 : (n : Int).tmod (p : Int) = (r : Int) := by rw [hr]; rfl
        have r1 : ((r : Int) != 0) = true := by rw [bne_iff_ne]; omega
        clear hr ho
        go_wp2_with fail
        refine (PO.out _).mono ?_
        rintro e w4 ⟨rfl, d4⟩
        have c5 := Lib.hid (c4.out.trans (d4.mono c4.out.size))
        clear d4 c4 PO
        go_wp2
        go_ret
        exact ⟨by simp [go_sem], c5.out⟩

theorem walk (A B : Option Addr) (ca cb n m : Nat) (xs : List Nat) (ls : List (List Nat)) (nn : Int) (hx : xs.length = n) (hm : ls.length = m) (hca : n ≤ ca) (w : World) (hT : Ft.Tab w) (R : Ws w w.heap.size A xs) (R2 : Jn.Rj w w.heap.size B ls) :
    Calls Tryd.prog 7 #[.slice A n ca, .int .i64 nn, .slice B m cb] w fun e w' => e = .returned (.bool true) ∧ Below w.heap.size w w' := by
  by_cases hl : n ≤ 100
  · by_cases hl2 : m ≤ 20
    · exact walk_in A B ca cb n m xs ls nn hl hl2 hx hm hca w hT R R2
    · exact walk_long2 A B ca cb n m nn hl (by omega) w hT
  · exact walk_long A B ca cb n m nn (by omega) w hT

theorem g32 : Tryd.prog.globalNamed "math/bits.deBruijn32tab" = some 0 := by kernel_rfl
theorem g64 : Tryd.prog.globalNamed "math/bits.deBruijn64tab" = some 1 := by kernel_rfl
theorem t64 : (Tryd.prog.globals[1]?).map (·.type) = some 106 := by kernel_rfl
/-- What the row's condition gives the walk: the table's cells. -/
theorem of_laid {W : World} (h : laidMetH Tryd.prog Rows.rowsPartsRow.laid W) : Ft.Tab W := by
  rw [MakeChecks.laidMetH_plain _ _ _ (by kernel_rfl)] at h
  obtain ⟨ps, ⟨g0, t0, cs0, f0, p0, q0, hg0, ht0, hv0, hd0, ⟨g1, t1, cs1, f1, p1, q1, hg1, ht1, hv1, hd1, _, _⟩, _⟩, _, _⟩ := h
  obtain rfl := Option.some.inj (g64.symm.trans hg1)
  obtain rfl := Option.some.inj (t64.symm.trans ht1)
  have hd2 : DataW.trod _ Tryd.prog W 0 _ false f1 106 cs1.toList = some (Lib.tabData .u8 (Lib.deBruijn64tab.map Int.ofNat), p1) := hd1
  have hc := Lib.cells_of_tab Tryd.underlying106 Tryd.underlying5 (by kernel_rfl) (by kernel_rfl) hd2
  intro i hi
  have c := World.var?_cell hg1 hv1 i
  rw [c, ← Array.getElem?_toList, hc]
  have hl : Lib.deBruijn64tab.length = 64 := by decide
  simp [List.getD, hl, hi]

/-- The door's own heap meets the condition. -/
theorem door_met (os : Os) (args : Array Value) : laidMetH Tryd.prog Rows.rowsPartsRow.laid ((World.doorLaid Tryd.prog 400 os).forCall (fun _ _ => 0) ⟨#[], args, []⟩).memory :=
  laidMetH_of_parts3 (fuel := 8) (laidMet_of_run' 8 (by kernel_rfl) (by kernel_rfl)) (by kernel_rfl) (by kernel_rfl)
set_option maxRecDepth 100000 in
theorem lifted (os : Os) (started : os.Started) (H : Type) (enc : TypeId × Value → H) :
    ReturnsInHanded {} Tryd.checked os 7 .any (fun w args => (Rows.rowsPartsSpec.pre enc Tryd.prog Tryd.f7 [] false w args ∧ laidMetH Tryd.prog Rows.rowsPartsRow.laid w) ∧ sizedMet enc Tryd.prog Tryd.f7 (OpenSpec.ofChange Rows.rowsPartsSpec) false w args)
      (Rows.rowsPartsSpec.post enc Tryd.prog Tryd.f7 false true false false) := by
  refine returnsInHanded_of_change_and (C := Tryd.checked) (X := fun w _ => laidMetH Tryd.prog Rows.rowsPartsRow.laid w) (fun _ _ _ hh h => h.of_heap hh) Fr.own started (by kernel_rfl) Tryd.func7
    (ChangeSpec.witness_shaped (enc := enc) (C := Tryd.checked) (os := os) (X := fun w _ => laidMetH Tryd.prog Rows.rowsPartsRow.laid w) false (World.doorLaid Tryd.prog 400 os) #[.slice none 0 0, .int .i64 0, .slice none 0 0] 8 rfl (World.shaped_of_RefB (by kernel_rfl) (by kernel_rfl)) (by kernel_rfl) (by kernel_rfl) (by kernel_rfl) (door_met os _)) ?_
  intro W base args ds gs before hval0 hW _ _ hL _
  have hval : ∀ (j : Nat) t v, Tryd.f7.params[j]? = some t → args[j]? = some v → Value.okWide Tryd.prog W .any base t v := hval0
  have hW' := hW
  obtain ⟨p, q, hA0, hV, rfl, hfz, hnd⟩ := hW
  have hA : DataW.TrodAll enc Tryd.prog W 0 (fun _ => true) true Tryd.f7.params.toList args.toList ds p := hA0
  obtain ⟨rfl, rfl⟩ := trodVars_none hV
  rw [Tryd.params7] at hA hval
  obtain ⟨v0, vs0, d0, ds0, p0, q0, hargs, rfl, rfl, h0, r0⟩ := trodAll_cons hA
  obtain ⟨v1, vs1, d1, ds1, p1, q1, rfl, rfl, rfl, h1, r1⟩ := trodAll_cons r0
  obtain ⟨v2, vs2, d2, ds2, p2, q2, rfl, rfl, rfl, h2, r2⟩ := trodAll_cons r1
  obtain ⟨rfl, rfl, rfl⟩ := trodAll_nil r2
  obtain rfl : args = #[v0, v1, v2] := by cases args; simp_all
  obtain ⟨A0, n0, c0, rfl⟩ := okWide_slice Tryd.underlying22 (hval 0 22 v0 rfl rfl)
  obtain ⟨fuel0, hf0⟩ := h0
  obtain ⟨xs0, rfl, lc0, lm0, R0⟩ := Ww.open_words hf0
  obtain ⟨x1, rfl, rfl, rfl, w1⟩ := open_int Tryd.underlying3 (hval 1 3 v1 rfl rfl) h1
  have b1 : -9223372036854775808 ≤ x1 ∧ x1 ≤ 9223372036854775807 := by simpa [Lit.wf, IntKind.min, IntKind.max, IntKind.signed, IntKind.bits] using w1
  obtain ⟨A2, n2, c2, rfl⟩ := okWide_slice Tryd.underlying46 (hval 2 46 v2 rfl rfl)
  obtain ⟨fuel2, hf2⟩ := h2
  obtain ⟨xs2, rfl, lm2, R2⟩ := Pt.open_rows hf2
  simp only [List.append_nil] at hW' hA0
  refine (walk A0 A2 c0 c2 xs0.length xs2.length xs0 xs2 x1 rfl rfl lc0 W (of_laid hL) R0 R2).mono fun e W' ⟨he, hb⟩ => ?_
  subst he
  exact ⟨_, rfl, Fr.law_post (tb := 4) hW' hA0 rfl rfl rfl Tryd.underlying4 (by rw [Tryd.params7]; intro t ht; simp at ht; rcases ht with rfl | rfl | rfl; all_goals exact ⟨by kernel_rfl, of_decide_eq_true (by kernel_rfl)⟩) hb⟩

theorem row_holds : Rows.RowsPartsSaid :=
  OpenClaim.holds_of_wide 7 Tryd.f7 rfl rfl rfl rfl rfl rfl rfl ⟨rfl, rfl, rfl, rfl, rfl⟩ rfl rfl rfl rfl rfl (by kernel_rfl) Tryd.func7 (by kernel_rfl)
    (of_decide_eq_true (by kernel_rfl)) (by unfold Func.isWrapper; first | (rw [if_pos (by decide +kernel)]; kernel_rfl) | (rw [if_neg (by decide +kernel)]; exact ⟨rfl, rfl⟩))
    (fun os started H enc _ => lifted os started H enc)

theorem proved : Rows.RowsPartsCardSaid :=
  Claim7.holds_tied_plain_at .later [] [.data, .data] true Rows.rowsPartsCard.stood.harness false
    row_holds (fun _ h => by cases h) (by kernel_rfl) (fun _ h => by cases h) rowsParts_row_tie rfl ⟨rfl, rfl⟩ (by kernel_rfl) rfl
    (fun f fn hf hfn => by
      obtain rfl : f = 7 := Option.some.inj ((show Tryd.prog.funcNamed "abacist/abacistlaw11.RowsParts" = some 7 by kernel_rfl).symm.trans hf) |>.symm
      obtain rfl : fn = Tryd.f7 := (Option.some.inj (Tryd.func7.symm.trans hfn)).symm
      exact ⟨by kernel_rfl, fun j t ht => by
        rw [Tryd.params7] at ht
        have hm : t ∈ [22, 3, 46] := by simpa using Array.mem_of_getElem? ht
        have hall : ([22, 3, 46].all fun u => !Tryd.prog.wantsStandIn u) = true := by kernel_rfl
        exact (show Tryd.prog.wantsStandIn t = false by simpa using List.all_eq_true.1 hall t hm)⟩)
    (by kernel_rfl)
end Go.Proofs.YtfjoacopnkceoaaDoor.rowsParts
