/- ShapeTiles, the main walk: of every shape of at most 256 places, height and width from 1 on the law of tiles answers true, and changes nothing. -/
import Derived.Test.YtfmjmopmlimnnaaDoorShapeM
import Derived.Deep.DeepCutAuto
set_option linter.unusedVariables false
namespace Go.Proofs.YtfmjmopmlimnnaaDoor.shapeTiles
open Go.ChangeShapes Go.WideShapes Go.ChangeAt Go.RowKit
open Sh Tl Go.Sort

set_option maxHeartbeats 4000000 in
set_option maxRecDepth 100000 in
theorem inner (a b h k d N : Nat) (a0 : 0 < a) (ha : a ≤ 256) (d1 : Int.tdiv 256 (a : Int) = (d : Int)) (d2 : 256 / (a : Int) = (d : Int)) (d3 : d ≤ 256) (b0 : 0 < b) (hb : b ≤ d) (zs : Array Value) (hzs : ∀ w : World, Sem.run Tryd.prog (zeroValue 43) w = .ok (.agg zs) w) (zs1 : zs.size = 256) (zs2 : zs ≠ #[]) (zs3 : ∀ i, i < 256 → zs[i]? = some (.int .i64 0)) (hN : N = up a h * up b k) (hab : a * b ≤ 256) (h1 : 0 < h) (k1 : 0 < k) (h2 : h ≤ 9223372036854775807) (k2 : k ≤ 9223372036854775807)
    (hR : ∀ W, Ft.Tab W → Calls Tryd.prog 7 #[.agg #[.int .i64 (a : Nat), .int .i64 (b : Nat)]] W fun e w' => e = .returned (.bool true) ∧ Below W.heap.size W w')
    (hTi : ∀ W, Ft.Tab W → Calls Tryd.prog 15 #[.agg #[.int .i64 (a : Nat), .int .i64 (b : Nat)], .int .i64 (h : Nat), .int .i64 (k : Nat)] W (TOut N a b h k W))
    (w : World) (hT : Ft.Tab w) :
    Calls Tryd.prog 5 #[.agg #[.int .i64 (a : Nat), .int .i64 (b : Nat)], .int .i64 (h : Nat), .int .i64 (k : Nat)] w fun e w' => e = .returned (.bool true) ∧ Below w.heap.size w w' := by
  have HT := Lib.hid hT
  have HB := Lib.hid (below1 w)
  have HR := Lib.hid hR
  clear hT hR
  have a1 : ((a : Int) == 0) = false := by rw [beq_eq_false_iff_ne]; omega
  have d4 : IntKind.i64.wrap (d : Int) = d := IntWalk.i64_in _ (by omega)
  have a2 : ¬ 256 < (a : Int) := by omega
  have dA : decide (256 < (a : Int)) = false := by simp; omega
  have b2 : ¬ (d : Int) < b := by omega
  have h3 : ¬ (h : Int) < 1 := by omega
  have k3 : ¬ (k : Int) < 1 := by omega
  have HTi := Lib.hid hTi
  have HN := Lib.hid hN
  have HZ := Lib.hid zs3
  have N0 : 0 < N := by rw [hN]; exact Nat.mul_pos (up_pos _ _) (up_pos _ _)
  have N1 : N ≤ 256 := by rw [hN]; exact Nat.le_trans (Nat.mul_le_mul (up_le _ _ a0) (up_le _ _ b0)) hab
  clear hTi hN zs3
  go_enter Tryd.func5, Tryd.ntmps5
  go_wp2_with fail
  refine (Sh.awake _ (HT.out.below (HB.out _))).mono ?_
  rintro e w1 ⟨rfl, d1⟩
  have T1 := (Tw.fresh w a b 23).below d1
  have c1 := (HB.out _).trans (d1.mono (HB.out _).size)
  clear d1
  have t0 := T1.c0
  have t1 := T1.c1
  go_wp2_with fail
  refine (HR.out _ (HT.out.below c1)).mono ?_
  rintro e w2 ⟨rfl, d2⟩
  have T2 := T1.below d2
  have c2 := c1.trans (d2.mono c1.size)
  clear d2 t0 t1 T1 c1
  have t0 := T2.c0
  have t1 := T2.c1
  go_wp2_with fail
  go_quiet (fail)
  have T3 : Tw (w2.drewN nq) w.heap.size a b := ⟨T2.c0, T2.c1⟩
  have c3 := below_drewN c2 nq
  clear t0 t1 T2 c2
  generalize w2.drewN nq = w3 at *
  have t0 := T3.c0
  have t1 := T3.c1
  go_wp2_with fail
  refine (HTi.out _ (HT.out.below c3)).mono ?_
  rintro e w4 ⟨g, rfl, K4, d4⟩
  have T4 := T3.below d4
  have c4 := c3.trans (d4.mono c3.size)
  clear d4 t0 t1 T3 c3 HTi HR HB HT
  have t0 := T4.c0
  have t1 := T4.c1
  have ZG := K4.lt N0
  have ZS := T4.lt
  go_upto_region 14 with fail
  have B0 : Bg w (w4.alloc (.cells zs 43)) w.heap.size g w4.heap.size N a b h k (fun _ => 0) :=
    ⟨T4.alloc _, K4.step N0 (below1 w4 _), Mk.fresh w4 zs _ HZ.out, c4.alloc c4.size _, by omega, by omega, c4.size, N0⟩
  generalize w4.alloc (.cells zs 43) = w5 at *
  generalize w4.heap.size = bm at *
  as_aux_lemma =>
  clear t0 t1 T4 K4 c4 ZG d1 d2 d4 dA hzs zs1 zs2 HZ a1
  go_wp2_with fail
  go_loopw [11] (fun v11 wr => ∃ (n : Nat) (f : Nat → Nat), v11 = .int .i64 (n : Int) ∧ n ≤ N ∧ Bg w wr w.heap.size g bm N a b h k f ∧ Cn (a * b) (SA b h k n) f) (fun v11 _ => N - (Lib.intOf v11).toNat)
  case atStart => exact ⟨0, _, rfl, Nat.zero_le _, B0, Tl.start_ (fun _ => rfl)⟩
  case round =>
    obtain ⟨n, f, rfl, hn, B, HC⟩ := hrel
    clear B0
    by_cases hlt : n < N
    · have n1 : (n : Int) < N := by omega
      obtain ⟨f1, f2, f3, f4, f5, f6, f7, f8⟩ := tile_facts a b h k n a0 b0 h1 k1 (by rw [← HN.out]; exact hlt)
      have x0 := B.l.c0 n hlt
      have x1 := B.l.c1 n hlt
      have x2 := B.l.c2 n hlt
      have x3 := B.l.c3 n hlt
      have OD := Lib.hid (fun h0 => order (q := b) (h := h) (w := k) (n := n) h1 k1 h0)
      have STAB := Lib.hid (a_b (p := a) h1 k1 b0 HC)
      have SBD := Lib.hid (fun r f H => b_d (p := a) (q := b) (h := h) (w := k) (n := n) (r := r) (f := f) h1 k1 b0 H)
      have SDB := Lib.hid (fun r f H => d_b (p := a) (q := b) (h := h) (w := k) (n := n) (r := r) (f := f) h1 k1 b0 H)
      have SBA := Lib.hid (fun f H => b_a (p := a) (q := b) (h := h) (w := k) (n := n) (f := f) h1 k1 b0 H)
      have SNO := Lib.hid (fun r c f p1 p2 p3 p4 p5 p6 H => d_no (p := a) (q := b) (h := h) (w := k) (n := n) (r := r) (c := c) (f := f) p1 p2 p3 p4 p5 p6 H)
      have SST := Lib.hid (fun r c f g p1 p2 p3 p4 p5 H q1 q2 => d_step (p := a) (q := b) (h := h) (w := k) (n := n) (r := r) (c := c) (f := f) (g := g) p1 p2 p3 p4 p5 H q1 q2)
      have PRE := Lib.hid (fun (h0 : 0 < n) => (show n - 1 < N by omega))
      have CEL := Lib.hid B.l
      obtain ⟨ro, hro⟩ : ∃ r, r = row b h k n := ⟨_, rfl⟩
      obtain ⟨co, hco⟩ : ∃ r, r = col b k n := ⟨_, rfl⟩
      obtain ⟨rr, hrr⟩ : ∃ r, r = rws a b h k n := ⟨_, rfl⟩
      obtain ⟨cc, hcc⟩ : ∃ r, r = cls b k n := ⟨_, rfl⟩
      rw [← hro] at f5 f7 x2 OD STAB SBA SNO SST
      rw [← hco] at f6 f8 x3 OD SBD SDB SNO SST
      rw [← hrr] at f1 f2 f5 f7 x0 SBA SNO SST
      rw [← hcc] at f3 f4 f6 f8 x1 SDB SNO SST
      have b256 : b ≤ 256 := by omega
      obtain ⟨ar, har⟩ : ∃ r, r = a - rr := ⟨_, rfl⟩
      obtain ⟨bc, hbc⟩ : ∃ r, r = b - cc := ⟨_, rfl⟩
      have w1 : IntKind.i64.wrap ((a : Int) - rr) = ar := by rw [show (a : Int) - rr = ar by omega]; exact IntWalk.i64_in _ (by omega)
      have w2 : IntKind.i64.wrap ((b : Int) - cc) = bc := by rw [show (b : Int) - cc = bc by omega]; exact IntWalk.i64_in _ (by omega)
      have ar1 : ro ≤ ar := by omega
      have bc1 : co ≤ bc := by omega
      clear har hbc
      have F7 := Lib.hid f7
      have F8 := Lib.hid f8
      have HRO := Lib.hid hro
      have HCO := Lib.hid hco
      clear f7 f8 hro hco hrr hcc HC
      go_upto_region 18 with fail
      have B6 := B.call (below1 wr (.cells #[.int .i64 (rr : Nat), .int .i64 (cc : Nat), .int .i64 (ro : Nat), .int .i64 (co : Nat)] 45))
      have Q6 := Q4.fresh wr rr cc ro co 45
      have zb := B.m.lt
      generalize wr.alloc (.cells #[.int .i64 (rr : Nat), .int .i64 (cc : Nat), .int .i64 (ro : Nat), .int .i64 (co : Nat)] 45) = w6 at *
      generalize wr.heap.size = bt at *
      clear B x0 x1 x2 x3 CEL
      as_aux_lemma =>
      have s0 := B6.s.c0
      have s1 := B6.s.c1
      have y0 := Q6.c0
      have y1 := Q6.c1
      have y2 := Q6.c2
      have y3 := Q6.c3
      go_upto_region 20 with fail
      as_aux_lemma =>
      go_cut [164] (fun v164 wx => v164 = .bool false ∧ wx = w6)
      case first =>
        have e0 : ((a : Int) != a) = false := by simp
        have e9 : ((b : Int) != b) = false := by simp
        by_cases g1 : rr < h
        · have e1 : (ro : Int) + rr = a := by have := F7.out g1; omega
          have e2 : IntKind.i64.wrap ((ro : Int) + rr) = a := by rw [e1]; exact IntWalk.i64_in _ (by omega)
          have g3 : decide ((rr : Int) < h) = true := by simp; omega
          by_cases g2 : cc < k
          · have e3 : (co : Int) + cc = b := by have := F8.out g2; omega
            have e4 : IntKind.i64.wrap ((co : Int) + cc) = b := by rw [e3]; exact IntWalk.i64_in _ (by omega)
            have g4 : decide ((cc : Int) < k) = true := by simp; omega
            as_aux_lemma =>
            go_wp2_with fail
            go_meet
            exact ⟨rfl, rfl⟩
          · have g4 : decide ((cc : Int) < k) = false := by simp; omega
            as_aux_lemma =>
            go_wp2_with fail
            go_meet
            exact ⟨rfl, rfl⟩
        · have g3 : decide ((rr : Int) < h) = false := by simp; omega
          by_cases g2 : cc < k
          · have e3 : (co : Int) + cc = b := by have := F8.out g2; omega
            have e4 : IntKind.i64.wrap ((co : Int) + cc) = b := by rw [e3]; exact IntWalk.i64_in _ (by omega)
            have g4 : decide ((cc : Int) < k) = true := by simp; omega
            as_aux_lemma =>
            go_wp2_with fail
            go_meet
            exact ⟨rfl, rfl⟩
          · have g4 : decide ((cc : Int) < k) = false := by simp; omega
            as_aux_lemma =>
            go_wp2_with fail
            go_meet
            exact ⟨rfl, rfl⟩
      case rest =>
        obtain ⟨rfl, hw⟩ := hcut
        subst wc
        as_aux_lemma =>
        clear w1 w2 ar1 bc1 F7 F8 f2 f4
        go_upto_region 22 with fail
        go_cut [199] (fun v199 wx => v199 = .bool false ∧ ∃ m, wx = w6.drewN m)
        case first =>
          by_cases h0 : 0 < n
          · have z1 : decide (0 < (n : Int)) = true := by simp; omega
            have OD2 := OD.out h0
            obtain ⟨m, hm⟩ : ∃ m, m = n - 1 := ⟨_, rfl⟩
            have m1 := PRE.out h0
            rw [← hm] at OD2 m1
            have wn : IntKind.i64.wrap ((n : Int) - 1) = m := by rw [show (n : Int) - 1 = m by omega]; exact IntWalk.i64_in _ (by omega)
            have l2 := B6.l.c2 m m1
            have l3 := B6.l.c3 m m1
            generalize row b h k m = ro' at *
            generalize col b k m = co' at *
            clear hm OD PRE HRO HCO
            rcases OD2 with c1 | ⟨c1, c2⟩
            · have q1 : decide ((ro : Int) < ro') = false := by simp; omega
              have q4 : decide (ro < ro') = false := by simp; omega
              have q2 : ((ro' : Int) == ro) = false := by rw [beq_eq_false_iff_ne]; omega
              have q5 : (ro' == ro) = false := by rw [beq_eq_false_iff_ne]; omega
              as_aux_lemma =>
              go_quiet (fail)
              go_wp2_with fail
              go_meet
              exact ⟨rfl, _, rfl⟩
            · subst c1
              have q1 : decide ((ro' : Int) < ro') = false := by simp
              have q2 : ((ro' : Int) == ro') = true := by simp
              have q3 : decide ((co : Int) ≤ co') = false := by simp; omega
              have q4 : decide (co ≤ co') = false := by simp; omega
              as_aux_lemma =>
              go_quiet (fail)
              go_wp2_with fail
              go_meet
              exact ⟨rfl, _, rfl⟩
          · have z1 : decide (0 < (n : Int)) = false := by simp; omega
            go_quiet (fail)
            go_wp2_with fail
            go_meet
            exact ⟨rfl, _, rfl⟩
        case rest =>
          obtain ⟨rfl, m, hw⟩ := hcut
          subst wc
          as_aux_lemma =>
          have B7 := B6.drewN m
          have Q7 := Q6.drewN m
          clear B6 Q6 s0 s1 y0 y1 y2 y3 OD PRE HRO HCO
          generalize w6.drewN m = w7 at *
          have y2 := Q7.c2
          obtain ⟨re, hre⟩ : ∃ r, r = ro + rr := ⟨_, rfl⟩
          obtain ⟨ce, hce⟩ : ∃ r, r = co + cc := ⟨_, rfl⟩
          have wre : IntKind.i64.wrap ((ro : Int) + rr) = re := by rw [show (ro : Int) + rr = re by omega]; exact IntWalk.i64_in _ (by omega)
          have wce : IntKind.i64.wrap ((co : Int) + cc) = ce := by rw [show (co : Int) + cc = ce by omega]; exact IntWalk.i64_in _ (by omega)
          rw [← hre] at SBA SNO SST f5
          rw [← hce] at SDB SNO SST f6
          have re1 : ro ≤ re := by omega
          have ce1 : co ≤ ce := by omega
          clear hre hce
          go_wp2_with fail
          clear y2
          go_loopw [13] (fun v13 wr => ∃ (r : Nat) (f : Nat → Nat), v13 = .int .i64 (r : Int) ∧ ro ≤ r ∧ r ≤ re ∧ Bg w wr w.heap.size g bm N a b h k f ∧ Q4 wr bt rr cc ro co ∧ Cn (a * b) (SB b h k n r) f) (fun v13 _ => re - (Lib.intOf v13).toNat)
          case atStart => exact ⟨ro, f, rfl, Nat.le_refl _, re1, B7, Q7, STAB.out⟩
          case round =>
            obtain ⟨r, f8, rfl, r1, r2, B8, Q8, C8⟩ := hrel
            as_aux_lemma =>
            clear B7 Q7 STAB
            have y0 := Q8.c0
            have y2 := Q8.c2
            have y3 := Q8.c3
            by_cases hr : r < re
            · have hr1 : (r : Int) < re := by omega
              go_wp2_with fail
              clear y0 y2 y3
              go_loopw [14] (fun v14 wr => ∃ (c : Nat) (f : Nat → Nat), v14 = .int .i64 (c : Int) ∧ co ≤ c ∧ c ≤ ce ∧ Bg w wr w.heap.size g bm N a b h k f ∧ Q4 wr bt rr cc ro co ∧ Cn (a * b) (SD b h k n r c) f) (fun v14 _ => ce - (Lib.intOf v14).toNat)
              case atStart => exact ⟨co, f8, rfl, Nat.le_refl _, ce1, B8, Q8, SBD.out r f8 C8⟩
              case round =>
                obtain ⟨c, f9, rfl, c1, c2, B9, Q9, C9⟩ := hrel
                as_aux_lemma =>
                clear B8 Q8 C8
                have y1 := Q9.c1
                have y3 := Q9.c3
                have s1 := B9.s.c1
                by_cases hc : c < ce
                · have c3 : (c : Int) < ce := by omega
                  have NO := SNO.out r c f9 r1 hr c1 hc (by omega) (by omega) C9
                  have ST := SST.out r c f9
                  have ylt : r * b + c < a * b := Tl.place_lt (by omega) (by omega)
                  obtain ⟨x, hx⟩ : ∃ x, x = r * b := ⟨_, rfl⟩
                  obtain ⟨y, hy⟩ : ∃ y, y = r * b + c := ⟨_, rfl⟩
                  have e1 : (r : Int) * b = x := by rw [hx]; simp
                  have e2 : (x : Int) + c = y := by rw [hy, ← hx]; simp
                  have x0 : x ≤ y := by rw [hx, hy]; exact Nat.le_add_right _ _
                  rw [← hy] at NO ylt
                  have y256 : y < 256 := by omega
                  have wx : IntKind.i64.wrap ((r : Int) * b) = x := by rw [e1]; exact IntWalk.i64_in _ (by omega)
                  have wy : IntKind.i64.wrap ((x : Int) + c) = y := by rw [e2]; exact IntWalk.i64_in _ (by omega)
                  have k0 : wr.cell? ⟨bm, y, none⟩ = some (.int .i64 0) := by rw [B9.m.c y y256, NO]; rfl
                  have k2 := B9.m.z y y256
                  have B10 := Lib.hid (B9.put y 1 y256)
                  have Q10 := Lib.hid (Q9.put (a := ⟨bm, y, none⟩) (Nat.ne_of_lt zb) (.int .i64 ((1 : Nat) : Int)))
                  have C10 := Lib.hid (ST (um f9 y 1) r1 hr c1 hc (by omega) C9 (by rw [← hy]; exact um_same _ _ _) (fun i hi => um_other _ _ _ (by rw [hy]; exact hi)))
                  clear e1 e2 hx hy x0 ylt NO ST B9 Q9 C9
                  as_aux_lemma =>
                  go_wp2_with fail
                  go_roundw
                  case rel => exact ⟨c + 1, _, rfl, by omega, by omega, B10.out, Q10.out, C10.out⟩
                  case measure => simp [Lib.intOf]; omega
                · have c3 : ¬ (c : Int) < ce := by omega
                  obtain rfl : c = ce := by omega
                  have C10 := Lib.hid (SDB.out r f9 C9)
                  as_aux_lemma =>
                  go_wp2_with fail
                  go_roundw
                  case rel => exact ⟨r + 1, f9, rfl, by omega, by omega, B9, Q9, C10.out⟩
                  case measure => simp [Lib.intOf]; omega
            · have hr1 : ¬ (r : Int) < re := by omega
              obtain rfl : r = re := by omega
              have C10 := Lib.hid (SBA.out f8 C8)
              as_aux_lemma =>
              go_wp2_with fail
              go_roundw
              case rel => exact ⟨n + 1, f8, rfl, by omega, B8, C10.out⟩
              case measure => simp [Lib.intOf]; omega
    · have n1 : ¬ (n : Int) < N := by omega
      obtain rfl : n = N := by omega
      have ALL := Lib.hid (Tl.end_ (p := a) (q := b) (h := h) (w := k) (f := f) b0 (by rw [← HN.out]; exact HC))
      obtain ⟨ab, hx⟩ : ∃ x, x = a * b := ⟨_, rfl⟩
      have e1 : (a : Int) * b = ab := by rw [hx]; simp
      rw [← hx] at hab ALL
      have wab : IntKind.i64.wrap ((a : Int) * b) = ab := by rw [e1]; exact IntWalk.i64_in _ (by omega)
      have s0 := B.s.c0
      have s1 := B.s.c1
      as_aux_lemma =>
      clear hx e1 HC HN
      go_wp2_with fail
      go_loop [15] (fun v15 => ∃ i : Nat, v15 = .int .i64 (i : Int) ∧ i ≤ ab) (fun v15 => ab - (Lib.intOf v15).toNat)
      case atStart => exact ⟨0, rfl, Nat.zero_le _⟩
      case round =>
        obtain ⟨i, rfl, hi⟩ := hrel
        by_cases hlt2 : i < ab
        · have i1 : (i : Int) < ab := by omega
          have i2 : i < 256 := by omega
          have k0 : wr.cell? ⟨bm, i, none⟩ = some (.int .i64 1) := by rw [B.m.c i i2, ALL.out i hlt2]; rfl
          go_wp2_with fail
          go_round
          case rel => exact ⟨i + 1, rfl, by omega⟩
          case measure => simp [Lib.intOf]; omega
        · have i1 : ¬ (i : Int) < ab := by omega
          go_wp2
          go_ret
          exact ⟨by simp [go_sem], B.b⟩
end Go.Proofs.YtfmjmopmlimnnaaDoor.shapeTiles
