/- DiskPlays: of every two numbers and every list of acts the law answers true, and changes nothing. -/
import Derived.Test.YtfjlhbamldgklaaFrame
import Derived.Test.YtfjlhbamldgklaaDiskP
import Derived.Test.YtfjlhbamldgklaaDiskO
import Derived.Test.YtfjlhbamldgklaaDiskQ
import Derived.Deep.DeepCutAuto
set_option linter.unusedVariables false
namespace Go.Proofs.Ytfjlhbamldgklaa.diskPlays
open Go.ChangeShapes Go.WideShapes Go.ChangeAt Go.RowKit
open Ww Dk Lib

theorem sx_fr {w w' : World} {B n k z : Nat} {v : Value} {f : Nat → Sec} {L : Ly} {d : Dm} (R : Sx w B v f n) (D : Db w L z n d k) (F : Fr (Mine L) w w') : Sx w' B v f n := by
  have hl := World.ownsRow.lt R
  refine ⟨R.1, ?_⟩
  rcases R.2 with h0 | ⟨g, cap, cur, rfl, h1, h2, h3⟩
  · exact Or.inl h0
  · refine Or.inr ⟨g, cap, cur, rfl, h1, F.at_ h2 ?_, h3⟩
    obtain ⟨φ, sf, c, D⟩ := D
    rintro (rfl | rfl | rfl | rfl)
    · rw [D.hp] at h2
      injection h2 with h2
      injection h2 with _ h2
      cases h2
    · obtain ⟨cs, e, _⟩ := D.hs
      rw [e] at h2
      injection h2 with h2
      injection h2 with _ h2
      cases h2
    · obtain ⟨cs, e, _⟩ := D.ht
      rw [e] at h2
      injection h2 with h2
      injection h2 with _ h2
      cases h2
    · obtain ⟨es, cl, e⟩ := D.hm.block
      rw [e] at h2
      cases h2
/-- A cell of another type's block is written. -/
theorem sx_put {w : World} {B n q i : Nat} {v x : Value} {f : Nat → Sec} {cs : Array Value} (R : Sx w B v f n) (hq : w.heap[q]? = some (.cells cs 44)) : Sx (w.setCell ⟨q, i, none⟩ x) B v f n := by
  refine ⟨R.1, ?_⟩
  rcases R.2 with h0 | ⟨g, cap, cur, rfl, h1, h2, h3⟩
  · exact Or.inl h0
  · refine Or.inr ⟨g, cap, cur, rfl, h1, ?_, h3⟩
    rw [Below.heap_setCell _ _ _ _ (fun e => ?_)]
    · exact h2
    · have e2 : g = q := e
      subst e2
      rw [h2] at hq
      injection hq with hq
      injection hq with _ hq
      cases hq
/-- The law's state, where it lies. -/
def so (V : Option Addr) (n c : Nat) (d : Dm) : Obj := .cells #[.slice V n c, .bool d.down, .int .i64 (d.fuse : Nat), .int .i64 (d.r : Nat), .int .i64 (d.w : Nat), .int .i64 (d.s : Nat)] 44
/-- Behind j acts. -/
structure Pl (w wr : World) (L : Ly) (q z n j : Nat) (d : Dm) (V : Option Addr) (c : Nat) : Prop where
  db : Db wr L z n d j
  hq : wr.heap[q]? = some (so V n c d)
  sx : Sx wr w.heap.size (.slice V n c) d.f n
  ct : d.r ≤ j ∧ d.w ≤ j ∧ d.s ≤ j
  fu : d.fuse ≤ 9223372036854775807
  bl : Below w.heap.size w wr
theorem av_more {w : World} {B B' : Nat} {a : ActV} (h : Av w B a) (hB : B ≤ B') : Av w B' a := ⟨h.bs.more hB, kb_more h.ks hB, h.k, h.i, h.lK, h.lb⟩
theorem zcell {X w2 : World} {v0 v1 v2 v3 v4 v5 : Value} {t : TypeId} (h : Below (X.alloc (.cells #[v0, v1, v2, v3, v4, v5] t)).heap.size (X.alloc (.cells #[v0, v1, v2, v3, v4, v5] t)) w2) :
    w2.heap[X.heap.size]? = some (.cells #[v0, v1, v2, v3, v4, v5] t) := (h.block _ (by simp)).trans (heap_alloc_new X _)
theorem zcells {X w2 : World} {v0 v1 v2 v3 v4 v5 : Value} {t : TypeId} (h : Below (X.alloc (.cells #[v0, v1, v2, v3, v4, v5] t)).drew.heap.size (X.alloc (.cells #[v0, v1, v2, v3, v4, v5] t)).drew w2) :
    w2.heap[X.heap.size]? = some (.cells #[v0, v1, v2, v3, v4, v5] t) ∧ w2.cell? ⟨X.heap.size, 0, none⟩ = some v0 ∧ w2.cell? ⟨X.heap.size, 1, none⟩ = some v1 ∧ w2.cell? ⟨X.heap.size, 2, none⟩ = some v2 ∧ w2.cell? ⟨X.heap.size, 3, none⟩ = some v3 ∧ w2.cell? ⟨X.heap.size, 4, none⟩ = some v4 ∧ w2.cell? ⟨X.heap.size, 5, none⟩ = some v5 ∧ w2.frozen? ⟨X.heap.size, 0, none⟩ = false ∧ w2.frozen? ⟨X.heap.size, 1, none⟩ = false ∧ w2.frozen? ⟨X.heap.size, 2, none⟩ = false ∧ w2.frozen? ⟨X.heap.size, 3, none⟩ = false ∧ w2.frozen? ⟨X.heap.size, 4, none⟩ = false ∧ w2.frozen? ⟨X.heap.size, 5, none⟩ = false := by
  have hy : (X.alloc (.cells #[v0, v1, v2, v3, v4, v5] t)).drew.heap[X.heap.size]? = some (.cells #[v0, v1, v2, v3, v4, v5] t) := heap_alloc_new X _
  have z := (h.block _ (Array.getElem?_eq_some_iff.1 hy).1).trans hy
  exact ⟨z, blk_cell z 0, blk_cell z 1, blk_cell z 2, blk_cell z 3, blk_cell z 4, blk_cell z 5, blk_frz z 0, blk_frz z 1, blk_frz z 2, blk_frz z 3, blk_frz z 4, blk_frz z 5⟩
theorem bl_alloc {w W : World} (h : Below w.heap.size w W) (o : Obj) : Below w.heap.size w (W.alloc o) := h.alloc h.size o
theorem bl_put {w W : World} (h : Below w.heap.size w W) (k : Nat) (v : Value) : Below w.heap.size w (W.setCell ⟨w.heap.size, k, none⟩ v) := h.setCell (p := ⟨w.heap.size, k, none⟩) (Nat.le_refl _) v
theorem put6 {W : World} {b : Nat} {y0 y1 y2 y3 y4 y5 : Value} {t : TypeId} (h : W.heap[b]? = some (.cells #[y0, y1, y2, y3, y4, y5] t)) (x0 x1 x2 x3 x4 x5 : Value) :
    ((((((W.setCell ⟨b, 0, none⟩ x0).setCell ⟨b, 1, none⟩ x1).setCell ⟨b, 2, none⟩ x2).setCell ⟨b, 3, none⟩ x3).setCell ⟨b, 4, none⟩ x4).setCell ⟨b, 5, none⟩ x5).heap[b]? = some (.cells #[x0, x1, x2, x3, x4, x5] t) := by
  have h0 := put_of h 0 x0
  have h1 := put_of h0 1 x1
  have h2 := put_of h1 2 x2
  have h3 := put_of h2 3 x3
  have h4 := put_of h3 4 x4
  have h5 := put_of h4 5 x5
  exact h5.trans (by simp)
theorem sx6 {W : World} {b B n : Nat} {v : Value} {f : Nat → Sec} {y0 y1 y2 y3 y4 y5 : Value} (R : Sx W B v f n) (h : W.heap[b]? = some (.cells #[y0, y1, y2, y3, y4, y5] 44)) (x0 x1 x2 x3 x4 x5 : Value) :
    Sx ((((((W.setCell ⟨b, 0, none⟩ x0).setCell ⟨b, 1, none⟩ x1).setCell ⟨b, 2, none⟩ x2).setCell ⟨b, 3, none⟩ x3).setCell ⟨b, 4, none⟩ x4).setCell ⟨b, 5, none⟩ x5) B v f n := by
  have h0 := put_of h 0 x0
  have h1 := put_of h0 1 x1
  have h2 := put_of h1 2 x2
  have h3 := put_of h2 3 x3
  have h4 := put_of h3 4 x4
  have h5 := put_of h4 5 x5
  exact (sx_put (i := 5) (x := x5) (sx_put (i := 4) (x := x4) (sx_put (i := 3) (x := x3) (sx_put (i := 2) (x := x2) (sx_put (i := 1) (x := x1) (sx_put (i := 0) (x := x0) R h) h0) h1) h2) h3) h4)
theorem db6 {W : World} {b z n k : Nat} {L : Ly} {d d0 : Dm} {V : Option Addr} {m c : Nat} (D : Db W L z n d k) (hq : ¬ Mine L b) (h : W.heap[b]? = some (so V m c d0)) (x0 x1 x2 x3 x4 x5 : Value) :
    Db ((((((W.setCell ⟨b, 0, none⟩ x0).setCell ⟨b, 1, none⟩ x1).setCell ⟨b, 2, none⟩ x2).setCell ⟨b, 3, none⟩ x3).setCell ⟨b, 4, none⟩ x4).setCell ⟨b, 5, none⟩ x5) L z n d k := by
  obtain ⟨φ, sf, cc, D⟩ := D
  refine ⟨φ, sf, cc, D.fr (S := fun c => c = b) (((((((Fr.refl (fun c => c = b) W).put ⟨b, 0, none⟩ x0 (Or.inl rfl)).put ⟨b, 1, none⟩ x1 (Or.inl rfl)).put ⟨b, 2, none⟩ x2 (Or.inl rfl)).put ⟨b, 3, none⟩ x3 (Or.inl rfl)).put ⟨b, 4, none⟩ x4 (Or.inl rfl)).put ⟨b, 5, none⟩ x5 (Or.inl rfl)) ?_ (fun c hc e => hq (by rw [← e]; exact hc))⟩
  rintro c off x hx rfl
  rw [blk_cell h off] at hx
  match off, hx with
  | 0, hx => cases hx
  | 1, hx => cases hx
  | 2, hx => cases hx
  | 3, hx => cases hx
  | 4, hx => cases hx
  | 5, hx => cases hx
  | o + 6, hx => simp at hx
theorem bl6 {w W : World} {b : Nat} (h : Below w.heap.size w W) (hb : w.heap.size ≤ b) (x0 x1 x2 x3 x4 x5 : Value) : Below w.heap.size w ((((((W.setCell ⟨b, 0, none⟩ x0).setCell ⟨b, 1, none⟩ x1).setCell ⟨b, 2, none⟩ x2).setCell ⟨b, 3, none⟩ x3).setCell ⟨b, 4, none⟩ x4).setCell ⟨b, 5, none⟩ x5) :=
  (((((h.setCell (p := ⟨b, 0, none⟩) hb x0).setCell (p := ⟨b, 1, none⟩) hb x1).setCell (p := ⟨b, 2, none⟩) hb x2).setCell (p := ⟨b, 3, none⟩) hb x3).setCell (p := ⟨b, 4, none⟩) hb x4).setCell (p := ⟨b, 5, none⟩) hb x5
theorem Pl.below {w wr w' : World} {L : Ly} {q z n j : Nat} {d : Dm} {V : Option Addr} {c : Nat} (X : Pl w wr L q z n j d V c) (b : Below wr.heap.size wr w') : Pl w w' L q z n j d V c :=
  ⟨X.db.below b, (b.block q (Array.getElem?_eq_some_iff.1 X.hq).1).trans X.hq, X.sx.below b, X.ct, X.fu, X.bl.trans (b.mono X.bl.size)⟩
theorem neq_str (t : ByteArray) (W : World) : (binOp .neq 9 (.string t) (.string t)).run Try.prog W = .ok (.bool false) W := by simp [go_sem]
theorem build_st (v : Value) (W : World) (A : Option Addr) (n c : Nat) (hv : v = .slice A n c) : (Instr.build 44 #[(0, v)]).run Try.prog W = .ok (.agg #[v, .bool false, .int .i64 0, .int .i64 0, .int .i64 0, .int .i64 0]) W := by
  subst hv; kernel_rfl
set_option maxHeartbeats 4000000 in
set_option maxRecDepth 100000 in
theorem walk (x : Nat) (hx : x ≤ 255) (wide : Bool) (A : Option Addr) (c n : Nat) (fa : Nat → ActV) (w : World) (R : As w w.heap.size A n fa) :
    Calls Try.prog 3 #[.int .u8 (x : Nat), .bool wide, .slice A n c] w fun e w' => e = .returned (.bool true) ∧ Below w.heap.size w w' := by
  have AW := Lib.hid (awake w)
  by_cases hF : Few n fa
  case neg =>
    have FW := Lib.hid (fun w1 (b1 : Below w.heap.size w w1) => few w.heap.size A c n fa false (by simp [hF]) w1 (R.below b1))
    clear hF R hx
    go_enter Try.func3, Try.ntmps3
    go_upto_region 3 with (go_at_call 6; refine AW.out.mono ?_; rintro e w1 ⟨rfl, b1⟩)
    have F1 := Lib.hid (FW.out w1 b1)
    have E := Lib.hid b1
    clear AW FW b1
    go_wp2_with (go_at_call 7; refine F1.out.mono ?_; rintro e w2 ⟨rfl, rfl⟩)
    exact bodyPost_ret (v := .bool true) (by simp [results, Try.results3, go_sem]) rfl ⟨rfl, E.out⟩
  case pos =>
    have FW := Lib.hid (fun w1 (b1 : Below w.heap.size w w1) => few w.heap.size A c n fa true (by simp [hF]) w1 (R.below b1))
    have n40 := hF.1
    have RA := Lib.hid R
    clear R hF
    go_enter Try.func3, Try.ntmps3
    go_upto_region 3 with (go_at_call 6; refine AW.out.mono ?_; rintro e w1 ⟨rfl, b1⟩)
    have F1 := Lib.hid (FW.out w1 b1)
    have B1 := Lib.hid b1
    clear AW FW b1
    go_upto_region 5 with (go_at_call 7; refine F1.out.mono ?_; rintro e w2 ⟨rfl, rfl⟩)
    obtain ⟨N, hN⟩ : ∃ N, N = 1 + x % 12 := ⟨_, rfl⟩
    have HN := Lib.hid (show 1 ≤ N ∧ N ≤ 12 by omega)
    clear F1
    go_cut [7, 8] (fun v7 v8 wx => v7 = .int .i64 (N : Nat) ∧ v8 = .int .i64 32 ∧ wx = w1)
    case first =>
      go_wp2_with fail
      go_meet
      exact ⟨by rw [show (1 + (x : Int) % 12) = (N : Int) by omega], rfl, rfl⟩
    case rest =>
      obtain ⟨rfl, rfl, rfl⟩ := hcut
      clear hN hx
      obtain ⟨z, hz⟩ : ∃ z : Nat, z = if wide = true then 64 else 32 := ⟨_, rfl⟩
      have HZ := Lib.hid (show szb z = true ∧ 32 ≤ z ∧ z ≤ 4096 from by rw [hz]; cases wide <;> exact ⟨rfl, by decide, by decide⟩)
      go_upto_if 26 with fail
      go_cut [8] (fun v8 wx => v8 = .int .i64 (z : Nat) ∧ wx = wc)
      case first =>
        cases wide with
        | true =>
          obtain rfl : z = 64 := hz
          go_wp2_with fail
          go_meet
          exact ⟨rfl, rfl⟩
        | false =>
          obtain rfl : z = 32 := hz
          go_wp2_with fail
          go_meet
          exact ⟨rfl, rfl⟩
      case rest =>
        obtain ⟨rfl, rfl⟩ := hcut
        clear hz
        have NW := Lib.hid (new_ok N z HN.out.1 (by have := HN.out.2; omega) HZ.out.1 wc)
        have en := fun (a : Addr) (W : World) => (show (binOp .eql 25 (.pointer (some a)) (.pointer none)).run Try.prog W = .ok (.bool false) W from by kernel_rfl)
        go_upto_region 9 with (go_at_call 8; (with_reducible refine NW.out.mono ?_); rintro e w2 ⟨L, rfl, D2, M2, b2⟩)
        have S1 := Lib.hid (sectors D2)
        have S2 := Lib.hid (size_ D2)
        have RW := Lib.hid (rnew N z w2 (by have := HN.out.2; omega) (by have := HZ.out.2.2; omega))
        have BW := Lib.hid (B1.out.trans (b2.mono B1.out.size))
        replace D2 := Lib.hid D2
        replace M2 := Lib.hid (show ∀ b, Mine L b → w.heap.size ≤ b from fun b hb => Nat.le_trans B1.out.size (M2 b hb))
        clear NW b2
        go_upto_region 11 with (first
          | (go_at_call 9; refine S1.out.mono ?_; rintro e w3 ⟨rfl, rfl⟩)
          | (go_at_call 10; refine S2.out.mono ?_; rintro e w3 ⟨rfl, rfl⟩))
        have bs := fun (A : Option Addr) (c : Nat) (W : World) => build_st (.slice A N c) W A N c rfl
        go_upto_region 12 with (go_at_call 11; refine RW.out.mono ?_; rintro e w3 ⟨v, rfl, O3, b3⟩; obtain ⟨V, cV, rfl⟩ := O3.slice)
        have X0 := Lib.hid (show Pl w (w3.alloc (so V N cV (dm0 z))) L w3.heap.size z N 0 (dm0 z) V cV from
          ⟨(D2.out.below b3).below ((Below.refl _ _).alloc (Nat.le_refl _) _), heap_alloc_new _ _, (O3.less BW.out.size).below ((Below.refl _ _).alloc (Nat.le_refl _) _), ⟨Nat.le_refl _, Nat.le_refl _, Nat.le_refl _⟩, Nat.zero_le _, (BW.out.trans (b3.mono BW.out.size)).alloc (Nat.le_trans BW.out.size b3.size) _⟩)
        have Hq := Lib.hid (show ¬ Mine L w3.heap.size ∧ w.heap.size ≤ w3.heap.size from ⟨fun e => by have := D2.out.lt e; have := b3.size; omega, Nat.le_trans BW.out.size b3.size⟩)
        clear O3 b3 RW S1 S2 en bs D2 B1 BW
        generalize hw4 : w3.alloc (so V N cV (dm0 z)) = w4 at X0
        have e4 : w3.alloc (.cells #[.slice V N cV, .bool false, .int .i64 0, .int .i64 0, .int .i64 0, .int .i64 0] 44) = w4 := hw4
        rw [e4]
        clear hw4 e4
        generalize w3.heap.size = q at *
        go_wp2_with fail
        go_loopw [11] (fun v11 wr => ∃ (j : Nat) (d : Dm) (V : Option Addr) (cV : Nat), v11 = .int .i64 (j : Int) ∧ j ≤ n ∧ Pl w wr L q z N j d V cV) (fun v11 _ => n - (Lib.intOf v11).toNat)
        case atStart => exact ⟨0, _, _, _, rfl, Nat.zero_le _, X0.out⟩
        case round =>
          clear X0
          obtain ⟨j, d, V, cV, rfl, hj, X⟩ := hrel
          by_cases hlt : j < n
          · have i1 : (j : Int) < n := by omega
            have hn := HN.out
            have hz := HZ.out
            obtain ⟨M2, hq1, hq2⟩ : (∀ b, Mine L b → w.heap.size ≤ b) ∧ ¬ Mine L q ∧ w.heap.size ≤ q := ⟨M2.out, Hq.out⟩
            have RAr := RA.out.below X.bl
            have hAv := RA.out.av j hlt
            obtain ⟨ba, off, eA, hba, a0, a1, a2, a3⟩ := RAr.at_ j hlt
            generalize fa j = a at hAv a0 a1 a2 a3
            have hA0 : Av wr wr.heap.size a := av_more (hAv.below X.bl) X.bl.size
            have RC := run_stp X.db a hA0 (by omega) (by have := X.ct; omega) (by have := X.ct; omega) (by have := X.ct; omega)
            have TC := fun (u1 W : World) (F : Fr (Mine L) wr u1) (hW : Below u1.heap.size u1 W) => tells_stp w.heap.size V N cV d a z W ((sx_fr X.sx X.db F).below hW) (Nat.le_trans X.bl.size (Nat.le_trans F.size hW.size)) (by omega) (by omega)
              (av_more (hAv.below ((X.bl.trans ((F.below M2 X.bl.size))).trans (hW.mono (Nat.le_trans X.bl.size F.size)))) (Nat.le_trans X.bl.size (Nat.le_trans F.size hW.size))) (by omega) (by have := X.ct; omega) (by have := X.ct; omega) (by have := X.ct; omega) X.fu
            have C1 := stp_counts z N d a j X.ct
            have U1 := stp_fuse_le z N d a X.fu hAv.i.2
            obtain ⟨sp, hsp⟩ : ∃ sp, sp = stp z N d a := ⟨_, rfl⟩
            rw [← hsp] at RC TC C1 U1
            clear hsp
            obtain ⟨d1, e1, t1⟩ := sp
            subst eA
            have PX := Lib.hid (fun (u1 W : World) (F : Fr (Mine L) wr u1) (hW : Below u1.heap.size u1 W) => (show (W.cell? ⟨ba, off + j * 4, none⟩ = some (.int .i64 a.kind) ∧ W.cell? ⟨ba, off + j * 4 + 1, none⟩ = some (.int .i64 a.i) ∧ W.cell? ⟨ba, off + j * 4 + 2, none⟩ = some (.slice a.A a.bs.length a.cA) ∧ W.cell? ⟨ba, off + j * 4 + 3, none⟩ = some (.slice a.A2 a.K a.cK)) ∧ W.heap[q]? = some (so V N cV d) from by
              have bw := (F.below M2 X.bl.size).trans (hW.mono (Nat.le_trans X.bl.size F.size))
              exact ⟨⟨(bw.cell (p := ⟨ba, off + j * 4, none⟩) hba).trans a0, (bw.cell (p := ⟨ba, off + j * 4 + 1, none⟩) hba).trans a1, (bw.cell (p := ⟨ba, off + j * 4 + 2, none⟩) hba).trans a2, (bw.cell (p := ⟨ba, off + j * 4 + 3, none⟩) hba).trans a3⟩,
                (hW.block q (Nat.lt_of_lt_of_le (Array.getElem?_eq_some_iff.1 X.hq).1 F.size)).trans (F.at_ X.hq hq1)⟩))
            have WB := Lib.hid (fun (u1 : World) (F : Fr (Mine L) wr u1) => X.bl.trans (F.below M2 X.bl.size))
            have Q1 := Lib.hid (And.intro hq1 hq2)
            have QL := Lib.hid (fun (u1 : World) (F : Fr (Mine L) wr u1) => Nat.lt_of_lt_of_le (Array.getElem?_eq_some_iff.1 X.hq).1 F.size)
            replace RC := Lib.hid RC
            replace TC := Lib.hid TC
            replace C1 := Lib.hid C1
            replace U1 := Lib.hid U1
            clear X RAr hAv hA0 hq1 hq2 hba hn hz M2
            obtain ⟨kd, ai, bs, K, ks, Aa, cA, A2, cK⟩ := a
            simp only [ActV.val] at RC TC PX a0 a1 a2 a3
            simp only [sv] at TC
            generalize bs.length = bl at *
            go_upto_region 16 with (go_at_call 12; (with_reducible refine RC.out.mono ?_); rintro e u1 ⟨rfl, D1, F⟩)
            have TC1 := Lib.hid (fun W (hW : Below u1.heap.size u1 W) => (TC.out u1 W F hW).mono (R' := fun e w' => ∃ V2 c2, e = .returned (.tuple #[.agg #[.slice V2 N c2, .bool d1.down, .int .i64 (d1.fuse : Nat), .int .i64 (d1.r : Nat), .int .i64 (d1.w : Nat), .int .i64 (d1.s : Nat)], .int .i64 (e1 : Nat), .string t1]) ∧ Sx w' w.heap.size (.slice V2 N c2) d1.f N ∧ Below W.heap.size W w') fun _ _ h => h)
            have TCa := Lib.hid (TC1.out u1.drew (Below.refl _ _).drew)
            have TCb := Lib.hid ((TC1.out (u1.alloc (.cells #[.slice none 0 0, .bool false, .int .i64 0, .int .i64 0, .int .i64 0, .int .i64 0] 44)).drew (((Below.refl _ _).alloc (Nat.le_refl _) _).drew)).mono (R' := fun e w' => ∃ V2 c2, e = .returned (.tuple #[.agg #[.slice V2 N c2, .bool d1.down, .int .i64 (d1.fuse : Nat), .int .i64 (d1.r : Nat), .int .i64 (d1.w : Nat), .int .i64 (d1.s : Nat)], .int .i64 (e1 : Nat), .string t1]) ∧ Sx w' w.heap.size (.slice V2 N c2) d1.f N ∧ Below (u1.alloc (.cells #[.slice none 0 0, .bool false, .int .i64 0, .int .i64 0, .int .i64 0, .int .i64 0] 44)).drew.heap.size (u1.alloc (.cells #[.slice none 0 0, .bool false, .int .i64 0, .int .i64 0, .int .i64 0, .int .i64 0] 44)).drew w' ∧ w'.heap[u1.heap.size]? = some (.cells #[.slice none 0 0, .bool false, .int .i64 0, .int .i64 0, .int .i64 0, .int .i64 0] 44) ∧ w'.cell? ⟨u1.heap.size, 0, none⟩ = some (.slice none 0 0) ∧ w'.cell? ⟨u1.heap.size, 1, none⟩ = some (.bool false) ∧ w'.cell? ⟨u1.heap.size, 2, none⟩ = some (.int .i64 0) ∧ w'.cell? ⟨u1.heap.size, 3, none⟩ = some (.int .i64 0) ∧ w'.cell? ⟨u1.heap.size, 4, none⟩ = some (.int .i64 0) ∧ w'.cell? ⟨u1.heap.size, 5, none⟩ = some (.int .i64 0) ∧ w'.frozen? ⟨u1.heap.size, 0, none⟩ = false ∧ w'.frozen? ⟨u1.heap.size, 1, none⟩ = false ∧ w'.frozen? ⟨u1.heap.size, 2, none⟩ = false ∧ w'.frozen? ⟨u1.heap.size, 3, none⟩ = false ∧ w'.frozen? ⟨u1.heap.size, 4, none⟩ = false ∧ w'.frozen? ⟨u1.heap.size, 5, none⟩ = false) fun _ _ h => by
              obtain ⟨V2, c2, x1, x2, x3⟩ := h
              exact ⟨V2, c2, x1, x2, x3, zcells x3⟩)
            have PX1 := Lib.hid (fun W (hW : Below u1.heap.size u1 W) => (show W.cell? ⟨ba, off + j * 4, none⟩ = some (.int .i64 kd) ∧ W.cell? ⟨ba, off + j * 4 + 1, none⟩ = some (.int .i64 ai) ∧ W.cell? ⟨ba, off + j * 4 + 2, none⟩ = some (.slice Aa bl cA) ∧ W.cell? ⟨ba, off + j * 4 + 3, none⟩ = some (.slice A2 K cK) ∧ W.cell? ⟨q, 0, none⟩ = some (.slice V N cV) ∧ W.cell? ⟨q, 1, none⟩ = some (.bool d.down) ∧ W.cell? ⟨q, 2, none⟩ = some (.int .i64 (d.fuse : Nat)) ∧ W.cell? ⟨q, 3, none⟩ = some (.int .i64 (d.r : Nat)) ∧ W.cell? ⟨q, 4, none⟩ = some (.int .i64 (d.w : Nat)) ∧ W.cell? ⟨q, 5, none⟩ = some (.int .i64 (d.s : Nat)) from by
              obtain ⟨⟨x0, x1, x2, x3⟩, y⟩ := PX.out u1 W F hW
              exact ⟨x0, x1, x2, x3, blk_cell y 0, blk_cell y 1, blk_cell y 2, blk_cell y 3, blk_cell y 4, blk_cell y 5⟩))
            have PQ1 := Lib.hid (fun W (hW : Below u1.heap.size u1 W) => (PX.out u1 W F hW).2)
            have WB1 := Lib.hid (WB.out u1 F)
            have QL1 := Lib.hid (QL.out u1 F)
            replace D1 := Lib.hid D1
            have M : Below u1.heap.size u1 u1 := Below.refl _ _
            clear F RC TC PX WB QL a0 a1 a2 a3
            go_cut [14, 15, 16] (fun v14 v15 v16 wx => ∃ g V2 c2, v14 = .pointer (some ⟨g, 0, none⟩) ∧ v15 = .int .i64 (e1 : Nat) ∧ v16 = .string t1 ∧ wx.heap[g]? = some (so V2 N c2 d1) ∧ Sx wx w.heap.size (.slice V2 N c2) d1.f N ∧ Below u1.heap.size u1 wx ∧ u1.heap.size ≤ g)
            case first =>
              go_region_held3 (fun W => W.cell? ⟨ba, off + j * 4, none⟩ = some (.int .i64 kd) ∧ W.cell? ⟨ba, off + j * 4 + 1, none⟩ = some (.int .i64 ai) ∧ W.cell? ⟨ba, off + j * 4 + 2, none⟩ = some (.slice Aa bl cA) ∧ W.cell? ⟨ba, off + j * 4 + 3, none⟩ = some (.slice A2 K cK) ∧ W.cell? ⟨q, 0, none⟩ = some (.slice V N cV) ∧ W.cell? ⟨q, 1, none⟩ = some (.bool d.down) ∧ W.cell? ⟨q, 2, none⟩ = some (.int .i64 (d.fuse : Nat)) ∧ W.cell? ⟨q, 3, none⟩ = some (.int .i64 (d.r : Nat)) ∧ W.cell? ⟨q, 4, none⟩ = some (.int .i64 (d.w : Nat)) ∧ W.cell? ⟨q, 5, none⟩ = some (.int .i64 (d.s : Nat)))
                (exact PX1.out _ (by repeat (first | with_reducible exact M | with_reducible refine Below.drew ?_ | with_reducible refine bl_alloc ?_ _ | with_reducible refine bl_put ?_ _ _ | with_reducible refine bl_call ?_ h2)))
                (first
                  | (go_at_call 13; (with_reducible refine TCa.out.mono ?_); rintro e w5 ⟨V2, c2, rfl, O2, h2⟩)
                  | (go_at_call 13; (with_reducible refine TCb.out.mono ?_); rintro e w5 ⟨V2, c2, rfl, O2, h2, zb, z0, z1, z2, z3, z4, z5, f0, f1, f2, f3, f4, f5⟩))
              all_goals (go_wp2_with fail; go_meet)
              all_goals first
                | exact ⟨_, V2, c2, rfl, rfl, rfl, put6 zb _ _ _ _ _ _, sx6 O2 zb _ _ _ _ _ _, (by repeat (first | with_reducible exact M | with_reducible refine Below.drew ?_ | with_reducible refine bl_alloc ?_ _ | with_reducible refine bl_put ?_ _ _ | with_reducible refine bl_call ?_ h2)), Nat.le_refl _⟩
                | exact ⟨_, V2, c2, rfl, rfl, rfl, heap_alloc_new _ _, O2.below ((Below.refl _ _).alloc (Nat.le_refl _) _), (by repeat (first | with_reducible exact M | with_reducible refine Below.drew ?_ | with_reducible refine bl_alloc ?_ _ | with_reducible refine bl_put ?_ _ _ | with_reducible refine bl_call ?_ h2)), (show Below u1.heap.size u1 w5 from (by repeat (first | with_reducible exact M | with_reducible refine Below.drew ?_ | with_reducible refine bl_alloc ?_ _ | with_reducible refine bl_put ?_ _ _ | with_reducible refine bl_call ?_ h2))).size⟩
            case rest =>
              obtain ⟨g, V2, c2, rfl, rfl, rfl, hg, O2, hW, hgl⟩ := hcut
              have hq := PQ1.out wc hW
              have gq : g ≠ q := by have := QL1.out; omega
              have X1 := Lib.hid (show Pl w ((((((wc.setCell ⟨q, 0, none⟩ (.slice V2 N c2)).setCell ⟨q, 1, none⟩ (.bool d1.down)).setCell ⟨q, 2, none⟩ (.int .i64 (d1.fuse : Nat))).setCell ⟨q, 3, none⟩ (.int .i64 (d1.r : Nat))).setCell ⟨q, 4, none⟩ (.int .i64 (d1.w : Nat))).setCell ⟨q, 5, none⟩ (.int .i64 (d1.s : Nat))) L q z N (j + 1) d1 V2 c2 from
                ⟨db6 (D1.out.below hW) Q1.out.1 hq _ _ _ _ _ _, put6 hq _ _ _ _ _ _, sx6 O2 hq _ _ _ _ _ _, C1.out, U1.out, bl6 (WB1.out.trans (hW.mono WB1.out.size)) Q1.out.2 _ _ _ _ _ _⟩)
              have g0_ : wc.cell? ⟨g, 0, none⟩ = some (.slice V2 N c2) := blk_cell hg 0
              have g1_ : wc.cell? ⟨g, 1, none⟩ = some (.bool d1.down) := blk_cell hg 1
              have g2_ : wc.cell? ⟨g, 2, none⟩ = some (.int .i64 (d1.fuse : Nat)) := blk_cell hg 2
              have g3_ : wc.cell? ⟨g, 3, none⟩ = some (.int .i64 (d1.r : Nat)) := blk_cell hg 3
              have g4_ : wc.cell? ⟨g, 4, none⟩ = some (.int .i64 (d1.w : Nat)) := blk_cell hg 4
              have g5_ : wc.cell? ⟨g, 5, none⟩ = some (.int .i64 (d1.s : Nat)) := blk_cell hg 5
              have q0_ : wc.cell? ⟨q, 0, none⟩ = some (.slice V N cV) := blk_cell hq 0
              have y0_ := blk_frz hq 0
              have q1_ : wc.cell? ⟨q, 1, none⟩ = some (.bool d.down) := blk_cell hq 1
              have y1_ := blk_frz hq 1
              have q2_ : wc.cell? ⟨q, 2, none⟩ = some (.int .i64 (d.fuse : Nat)) := blk_cell hq 2
              have y2_ := blk_frz hq 2
              have q3_ : wc.cell? ⟨q, 3, none⟩ = some (.int .i64 (d.r : Nat)) := blk_cell hq 3
              have y3_ := blk_frz hq 3
              have q4_ : wc.cell? ⟨q, 4, none⟩ = some (.int .i64 (d.w : Nat)) := blk_cell hq 4
              have y4_ := blk_frz hq 4
              have q5_ : wc.cell? ⟨q, 5, none⟩ = some (.int .i64 (d.s : Nat)) := blk_cell hq 5
              have y5_ := blk_frz hq 5
              have ns := neq_str
              clear hq hg O2 hW hgl PX1 PQ1 TC1 TCa TCb M WB1 QL1 D1 C1 U1
              go_upto_region 17 with fail
              go_cut [] (fun wx => Pl w wx L q z N (j + 1) d1 V2 c2)
              case first =>
                go_wp2_with fail
                go_meet
                exact X1.out
              case rest =>
                clear X1 g0_ q0_ y0_ g1_ q1_ y1_ g2_ q2_ y2_ g3_ q3_ y3_ g4_ q4_ y4_ g5_ q5_ y5_
                have hq := hcut.hq
                have q0_ : wc.cell? ⟨q, 0, none⟩ = some (.slice V2 N c2) := blk_cell hq 0
                have q1_ : wc.cell? ⟨q, 1, none⟩ = some (.bool d1.down) := blk_cell hq 1
                have q2_ : wc.cell? ⟨q, 2, none⟩ = some (.int .i64 (d1.fuse : Nat)) := blk_cell hq 2
                have q3_ : wc.cell? ⟨q, 3, none⟩ = some (.int .i64 (d1.r : Nat)) := blk_cell hq 3
                have q4_ : wc.cell? ⟨q, 4, none⟩ = some (.int .i64 (d1.w : Nat)) := blk_cell hq 4
                have q5_ : wc.cell? ⟨q, 5, none⟩ = some (.int .i64 (d1.s : Nat)) := blk_cell hq 5
                have LK := looks hcut.db (by omega) w.heap.size V2 c2 hcut.sx
                simp only [sv] at LK
                replace LK := Lib.hid LK
                have XB := Lib.hid (fun w7 (b7 : Below wc.heap.size wc w7) => hcut.below b7)
                clear hcut hq
                go_wp2_with (go_at_call 14; (with_reducible refine LK.out.mono ?_); rintro e w7 ⟨rfl, b7⟩)
                go_roundw
                case rel => exact ⟨j + 1, d1, V2, c2, rfl, by omega, XB.out w7 b7⟩
                case measure => simp [Lib.intOf]; omega
          · have i1 : ¬ (j : Int) < n := by omega
            have E := Lib.hid X.bl
            clear X
            go_wp2
            exact bodyPost_ret (v := .bool true) (by simp [results, Try.results3, go_sem]) rfl ⟨rfl, E.out⟩
set_option maxRecDepth 100000 in
theorem lifted (os : Os) (started : os.Started) (H : Type) (enc : TypeId × Value → H) :
    ReturnsInHanded {} Try.checked os 3 .any (Rows.diskPlaysSpec.pre6 enc Try.prog Try.f3 Rows.diskPlaysRow.domain false) (Rows.diskPlaysSpec.post enc Try.prog Try.f3 false true false false) := by
  refine returnsInHanded_of_change (C := Try.checked) Fr.own started (by kernel_rfl) Try.func3
    (ChangeSpec.witness6 (enc := enc) (C := Try.checked) false ⟨#[], #[.int .u8 0, .bool false, .slice none 0 0], []⟩ 8 (by kernel_rfl) (by kernel_rfl) (by kernel_rfl) (by kernel_rfl)) ?_
  intro W base args ds gs before hval0 hW hcnd _
  have hval : ∀ (j : Nat) t v, Try.f3.params[j]? = some t → args[j]? = some v → Value.okWide Try.prog W .any base t v := hval0
  have hW' := hW
  obtain ⟨p, q, hA0, hV, rfl, hfz, hnd⟩ := hW
  have hA : DataW.TrodAll enc Try.prog W 0 (fun _ => true) true Try.f3.params.toList args.toList ds p := hA0
  obtain ⟨rfl, rfl⟩ := trodVars_none hV
  rw [Try.params3] at hA hval
  obtain ⟨v0, vs0, d0, ds0, p0, q0, hargs, rfl, rfl, h0, r0⟩ := trodAll_cons hA
  obtain ⟨v1, vs1, d1, ds1, p1, q1, rfl, rfl, rfl, h1, r1⟩ := trodAll_cons r0
  obtain ⟨v2, vs2, d2, ds2, p2, q2, rfl, rfl, rfl, h2, r2⟩ := trodAll_cons r1
  obtain ⟨rfl, rfl, rfl⟩ := trodAll_nil r2
  obtain rfl : args = #[v0, v1, v2] := by cases args; simp_all
  obtain ⟨a0, rfl, rfl, rfl, w0⟩ := open_int Try.underlying5 (hval 0 5 v0 rfl rfl) h0
  have b0 : 0 ≤ a0 ∧ a0 ≤ 255 := by simpa [Lit.wf, IntKind.min, IntKind.max, IntKind.signed, IntKind.bits] using w0
  obtain ⟨x0, rfl⟩ := Int.eq_ofNat_of_zero_le b0.1
  obtain ⟨q1, rfl, rfl, rfl⟩ := Go.RowKit.open_bool Try.underlying4 (hval 1 4 v1 rfl rfl) h1
  obtain ⟨A2, n2, c2, rfl⟩ := okWide_slice Try.underlying22 (hval 2 22 v2 rfl rfl)
  obtain ⟨fuel2, hf2⟩ := h2
  obtain ⟨fa2, lm2, R2⟩ := Dk.open_acts hf2
  simp only [List.append_nil] at hW' hA0
  refine (walk x0 (by omega) q1 A2 c2 n2 fa2 W R2).mono fun e W' ⟨he, hb⟩ => ?_
  subst he
  exact ⟨_, rfl, Fr.law_post (tb := 4) hW' hA0 rfl rfl rfl Try.underlying4 (by rw [Try.params3]; intro t ht; simp at ht; rcases ht with rfl | rfl | rfl; all_goals exact ⟨by kernel_rfl, of_decide_eq_true (by kernel_rfl)⟩) hb⟩

theorem proved : Rows.DiskPlaysSaid :=
  OpenClaim.holds_of_wide 3 Try.f3 rfl rfl rfl rfl rfl rfl rfl ⟨rfl, rfl, rfl, rfl, rfl⟩ rfl rfl rfl rfl rfl (by kernel_rfl) Try.func3 (by kernel_rfl)
    (of_decide_eq_true (by kernel_rfl)) (by unfold Func.isWrapper; first | (rw [if_pos (by decide +kernel)]; kernel_rfl) | (rw [if_neg (by decide +kernel)]; exact ⟨rfl, rfl⟩))
    (fun os started H enc _ => lifted os started H enc)
end Go.Proofs.Ytfjlhbamldgklaa.diskPlays
