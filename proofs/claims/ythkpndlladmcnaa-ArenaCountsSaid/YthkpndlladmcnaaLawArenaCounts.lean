/- ArenaCounts: of every arena and every row of acts the law answers true, and changes nothing. -/
import Derived.Test.YthkpndlladmcnaaFrame
import Derived.Test.YthkpndlladmcnaaArenaG
set_option linter.unusedVariables false
namespace Go.Proofs.Ythkpndlladmcnaa.arenaCounts
open Go.ChangeShapes Go.WideShapes Go.ChangeAt Go.RowKit Go.ChangeMaps
open Ww Ar Lib

set_option maxHeartbeats 40000000 in
set_option maxRecDepth 100000 in
theorem walk_in (A : Option Addr) (ca L c : Nat) (ks ns : Nat → Int) (hL : L ≤ 40) (h0 : 1 ≤ c) (hc : c ≤ 40000) (w : World) (R : Aw w w.heap.size A L ks ns) :
    Calls Try.prog 3 #[.int .i64 (c : Nat), .slice A L ca] w fun e w' => e = .returned (.bool true) ∧ Below w.heap.size w w' := by
  have AW := Lib.hid (awake w)
  have NW := Lib.hid (fun W q n g => new_ok c h0 (by omega) q n g W)
  replace R := Lib.hid R
  have i1 : ¬ (40 : Int) < (L : Int) := by omega
  have i2 : ¬ (40000 : Int) < (c : Int) := by omega
  have i3 : ¬ (c : Int) < 1 := by omega
  have i4 : ¬ (16777216 : Int) < (c : Int) := by omega
  have HL := Lib.hid hL
  have HC := Lib.hid hc
  clear hL h0 hc
  go_enter Try.func3, Try.ntmps3
  go_wp2_with fail
  refine AW.out.mono ?_
  rintro e w1 ⟨rfl, d1⟩
  replace d1 := Lib.hid d1
  clear AW
  go_wp2_with fail
  refine (NW.out _ (fun _ => 0) (fun _ => 0) (fun _ => 0)).mono ?_
  rintro e w2 ⟨rfl, A2, d2⟩
  obtain ⟨p, hp⟩ : ∃ p, p = w1.heap.size + 1 := ⟨_, rfl⟩
  obtain ⟨m, hm⟩ : ∃ m, m = w1.heap.size := ⟨_, rfl⟩
  rw [← hp, ← hm] at A2
  rw [← hp]
  have CP := Lib.hid (cap_ A2)
  have J := Lib.hid (show Ls w w2 p m c 0 (.slice none 0 0) (.slice none 0 0) (.int .i64 0) (.int .i64 0) from
    ⟨0, 0, _, _, _, Nat.le_refl _, rfl, rfl, Sg.start A2 (d1.out.trans (d2.mono d1.out.size)) (by have := d1.out.size; omega) (by have := d1.out.size; omega)⟩)
  clear d1 d2 A2 hp hm NW
  go_wp2_with fail
  refine CP.out.mono ?_
  rintro e w3 ⟨rfl, rfl⟩
  clear CP
  go_wp2_with fail
  go_loopw [6, 7, 8, 9, 10] (fun v6 v7 v8 v9 v10 wr => ∃ i : Nat, v10 = .int .i64 (i : Int) ∧ i ≤ L ∧ Ls w wr p m c i v6 v7 v8 v9) (fun _ _ _ _ v10 _ => L - (Lib.intOf v10).toNat)
  case atStart => exact ⟨0, rfl, Nat.zero_le _, J.out⟩
  case round =>
    clear J
    obtain ⟨i, rfl, hi, X⟩ := hrel
    by_cases hlt : i < L
    · have j1 : (i : Int) < L := by omega
      have X' := X
      obtain ⟨k, peak, q, n, g, hk, rfl, rfl, Y⟩ := X
      obtain ⟨b, off, rfl, hb, t0, t1⟩ := (R.out.below Y.d).at_ i hlt
      obtain ⟨K, hK⟩ : ∃ K, K = ks i := ⟨_, rfl⟩
      obtain ⟨N, hN⟩ : ∃ N, N = ns i := ⟨_, rfl⟩
      rw [← hK] at t0
      rw [← hN] at t1
      have NB := Lib.hid (show -9223372036854775808 ≤ N ∧ N ≤ 9223372036854775807 by rw [hN]; exact R.out.ln i hlt)
      clear hK hN
      go_upto_region 17 with fail
      iterate 40 (try (fail_if_success (with_reducible show Code.wp _ (Code.block _ _) _ _ _)); (first | go_values | go_skip | go_guarded | go_step | go_upon | go_back | go_simp))
      go_cut [6, 7, 8, 9] (fun v6 v7 v8 v9 wx => Ls w wx p m c (i + 1) v6 v7 v8 v9)
      case first =>
        have Y' := Lib.hid Y
        have HI := Lib.hid hlt
        have XX := Lib.hid (show ∀ wx, Sg w wx p m c k peak q n g u6 u7 → Ls w wx p m c (i + 1) u6 u7 (.int .i64 (tot n k : Nat)) (.int .i64 (peak : Nat)) from fun wx s => ⟨k, peak, q, n, g, by omega, rfl, rfl, s⟩)
        have HKI := Lib.hid hk
        clear X' Y t0 t1 hk
        iterate 40 (try (fail_if_success (with_reducible show Code.wp _ (Code.seq (Code.region 18 _ _) _) _ _ _)); (first | go_values | go_skip | go_guarded | go_step | go_upon | go_back | go_simp))
        by_cases hB : K = 0 ∨ K = 1 ∨ K = 2
        · go_cut [65] (fun v65 wx => v65 = .bool true ∧ wx = wr)
          case first =>
            as_aux_lemma =>
              rcases hB with rfl | rfl | rfl
              all_goals (go_wp2_with fail; go_meet)
              all_goals exact ⟨rfl, rfl⟩
          case rest =>
            obtain ⟨rfl, hw⟩ := hcut
            subst wc
            have tc : tot n k ≤ c := Nat.le_trans Y'.out.a.lp Y'.out.a.lc
            obtain ⟨f, hf⟩ : ∃ f, tot n k + f = c := ⟨c - tot n k, by omega⟩
            have e1 : IntKind.i64.wrap ((c : Int) - (tot n k : Int)) = (f : Int) := by have := HC.out; rw [IntKind.wrap_i64]; omega
            by_cases n1 : N < 1
            ·
              as_aux_lemma =>
                have TK := Lib.hid (fun W => take_arg N n1 ⟨p, 0, none⟩ W)
                clear e1 hf tc
                go_wp2_with fail
                refine (TK.out _).mono ?_
                rintro e w4 ⟨rfl, rfl⟩
                clear TK
                go_wp2_with fail
                go_meet
                exact XX.out _ Y'.out
            by_cases n2 : (f : Int) < N
            ·
              as_aux_lemma =>
                have TK := Lib.hid (take_far N f Y'.out.a hf (by omega) n2)
                clear hf tc
                go_wp2_with fail
                refine TK.out.mono ?_
                rintro e w4 ⟨rfl, u, rfl⟩
                clear TK
                go_wp2_with fail
                go_meet
                exact XX.out _ (Y'.out.drewN u)
            obtain ⟨x, rfl⟩ := Int.eq_ofNat_of_zero_le (show 0 ≤ N by omega)
            as_aux_lemma =>
              have x1 : 1 ≤ x := by omega
              have hx : tot n k + x ≤ c := by omega
              have n3 : ¬ (x : Int) < 1 := by omega
              have n4 : ¬ (f : Int) < (x : Int) := by omega
              have TK := Lib.hid (take_ok x Y'.out.a x1 hx (by have := HL.out; have := HKI.out; have := HI.out; omega))
              obtain ⟨U, hU⟩ : ∃ U, U = tot n k + x := ⟨_, rfl⟩
              have e2 : IntKind.i64.wrap ((tot n k : Int) + (x : Int)) = (U : Int) := by have := HC.out; rw [IntKind.wrap_i64]; omega
              have HU := Lib.hid hU
              have HS := Lib.hid (show tot (upd n k x) (k + 1) = U by
                show tot (upd n k x) k + upd n k x k = U
                rw [tot_upd_far n k x k (Nat.le_refl _), upd_same, hU])
              have K1 := Lib.hid (show k + 1 ≤ 17592186044416 by have := HL.out; have := HKI.out; have := HI.out; omega)
              clear n1 n2 hf tc hx hU
              go_wp2_with fail
              refine TK.out.mono ?_
              rintro e w4 ⟨rfl, A4, F4, _⟩
              obtain ⟨Q, hQ⟩ : ∃ Q, Q = wr.heap.size + 1 := ⟨_, rfl⟩
              obtain ⟨G, hG⟩ : ∃ G, G = wr.heap.size := ⟨_, rfl⟩
              rw [← hQ] at A4 ⊢
              rw [← hG] at A4
              obtain ⟨P4, I4, D4⟩ := Y'.out.call A4 (F4.mono (fun b h => by rcases h with rfl | rfl; exact Or.inl rfl; exact Or.inr (Or.inl rfl)))
              have O4 := Lib.hid (show ∀ b, Mine p m (k + 1) (upd q k Q) b → w.heap.size ≤ b from by
                have := Y'.out.d.size
                rintro b (rfl | rfl | ⟨j, hj, rfl⟩)
                · exact Y'.out.o _ (Or.inl rfl)
                · exact Y'.out.o _ (Or.inr (Or.inl rfl))
                · by_cases e : j = k
                  · subst e; rw [upd_same]; omega
                  · rw [upd_other _ _ _ e]; exact Y'.out.o _ (Or.inr (Or.inr ⟨j, by omega, rfl⟩)))
              have B4 := A4.hq k (by omega)
              rw [upd_same, upd_same, upd_same] at B4
              have LN := Lib.hid (len B4)
              have WO := words B4
              rw [sl_pos (by omega)] at WO
              replace WO := Lib.hid WO
              replace A4 := Lib.hid A4
              replace P4 := Lib.hid P4
              replace I4 := Lib.hid I4
              replace D4 := Lib.hid D4
              clear TK F4 hG hQ B4 x1
              go_wp2_with fail
              refine LN.out.mono ?_
              rintro e w5 ⟨rfl, rfl⟩
              go_wp2_with fail
              refine WO.out.mono ?_
              rintro e w5 ⟨rfl, rfl⟩
              clear LN WO
              go_upto_region 33 with (at_builtin; (refine appendB (w4.alloc (.cells #[.pointer (some ⟨Q, 0, none⟩)] 31)) ?hgd (.tmp 105) (.tmp 107) ?ho w.heap.size u6 k q ?hs ?hown w4.heap.size Q ?hx ?hc ?c1 ?c2 (fun v6 w5 P5 hg => ?_)); (case hgd => rfl); (case ho => rfl); (case hs => rfl); (case hown => exact World.ownsRow.alloc P4.out _); (case hx => rfl); (case hc => simp [go_sem]); (case c1 => exact K1.out); (case c2 => have := D4.out.size; simp; omega); (have G5 := Lib.hid (grow1 _ A4.out P4.out I4.out D4.out hg)); (replace P5 := Lib.hid P5); (clear hg A4 P4 I4 D4))
              go_upto_region 34 with (at_builtin; (refine appendN (w5.alloc (.cells #[.int .i64 (x : Nat)] 3)) ?hgd (.tmp 109) (.tmp 111) ?ho w.heap.size u7 k n ?hs ?hown w5.heap.size x ?hx ?hc ?c1 ?c2 (fun v7 w6 I6 hg => ?_)); (case hgd => rfl); (case ho => rfl); (case hs => rfl); (case hown => exact World.ownsRow.alloc G5.out.2.1 _); (case hx => rfl); (case hc => simp [go_sem]); (case c1 => exact K1.out); (case c2 => have := G5.out.2.2.size; simp; omega); (have G6 := Lib.hid (grow2 _ G5.out.1 P5.out G5.out.2.1 G5.out.2.2 hg)); (replace I6 := Lib.hid I6); (clear hg G5 P5))
              have ZZ := Lib.hid (show Sg w w6 p m c (k + 1) (max peak U) (upd q k Q) (upd n k x) (upd g k G) v6 v7 from ⟨by rw [HU.out]; exact G6.out.1, G6.out.2.1, I6.out, G6.out.2.2, O4.out⟩)
              have EN := Lib.hid (show ∀ M : Nat, max peak U = M → Ls w w6 p m c (i + 1) v6 v7 (.int .i64 (U : Nat)) (.int .i64 (M : Nat)) from fun M hM => ⟨k + 1, max peak U, _, _, _, by have := HKI.out; omega, by rw [HS.out], by rw [hM], ZZ.out⟩)
              clear G6 I6 O4 HS HU ZZ e1 n3 n4
              go_wp2_with fail
              go_meet
              rw [show (max (peak : Int) (U : Int)) = ((max peak U : Nat) : Int) by omega]
              exact EN.out _ rfl
        · have b0 : ¬ K = 0 := fun e => hB (Or.inl e)
          have b1 : ¬ K = 1 := fun e => hB (Or.inr (Or.inl e))
          have b2 : ¬ K = 2 := fun e => hB (Or.inr (Or.inr e))
          clear hB
          go_cut [65] (fun v65 wx => v65 = .bool false ∧ wx = wr)
          case first =>
            as_aux_lemma =>
              go_wp2_with fail
              go_meet
              exact ⟨by simp [b2], rfl⟩
          case rest =>
            obtain ⟨rfl, hw⟩ := hcut
            subst wc
            obtain ⟨A6, c6, e6⟩ := owns_slice Y'.out.r6
            obtain ⟨A7, c7, e7⟩ := owns_slice Y'.out.r7
            subst e6 e7
            have K40 := Lib.hid (show k ≤ 40 by have := HL.out; have := HKI.out; have := HI.out; omega)
            by_cases h3 : K = 3
            · subst h3
              clear b0 b1 b2
              by_cases n1 : N < 0
              ·
                as_aux_lemma =>
                  go_wp2_with fail
                  go_meet
                  exact XX.out _ Y'.out
              by_cases n2 : (k : Int) ≤ N
              ·
                as_aux_lemma =>
                  have n3 : ¬ N < (k : Int) := by omega
                  clear n2
                  go_wp2_with fail
                  go_meet
                  exact XX.out _ Y'.out
              as_aux_lemma =>
                obtain ⟨x, rfl⟩ := Int.eq_ofNat_of_zero_le (show 0 ≤ N by omega)
                have hx : x < k := by omega
                have n3 : (x : Int) < (k : Int) := by omega
                obtain ⟨g6, rfl, _, s6, _⟩ := owns_at Y'.out.r6 x _ (pws_at hx)
                have GV := give (w := (wr.alloc (.cells #[.pointer (some ⟨q x, 0, none⟩), .pointer none, .pointer (some ⟨q x, 0, none⟩)] 31)).drew) (some ⟨wr.heap.size, 0, none⟩) 3 3 (fun j => if j = 1 then none else some x)
                  (Y'.out.a.below ((Below.refl _ _).alloc (Nat.le_refl _) _)).drew ⟨(lp_three x 31 Y'.out.a).at_⟩ (fun j _ a e => by
                    by_cases h : j = 1
                    · rw [if_pos h] at e; cases e
                    · rw [if_neg h] at e; cases e; exact hx) (by omega)
                rw [giv_three] at GV
                replace GV := Lib.hid GV
                have HX := Lib.hid hx
                have s6b : (wr.alloc (.cells #[.pointer (some ⟨q x, 0, none⟩), .pointer none, .pointer (some ⟨q x, 0, none⟩)] 31)).cell? ⟨g6, x, none⟩ = some (.pointer (some ⟨q x, 0, none⟩)) := (World.cell?_alloc_lt wr _ ⟨g6, x, none⟩ (World.block_lt_of_cell? wr _ s6)).trans s6
                have SC := Lib.hid (fun w4 (F : Fr (Mine p m k q) (wr.alloc (.cells #[.pointer (some ⟨q x, 0, none⟩), .pointer none, .pointer (some ⟨q x, 0, none⟩)] 31)).drew w4) =>
                  show w4.cell? ⟨g6, x, none⟩ = some (.pointer (some ⟨q x, 0, none⟩)) from
                    (World.cell?_of_block (w := (wr.alloc (.cells #[.pointer (some ⟨q x, 0, none⟩), .pointer none, .pointer (some ⟨q x, 0, none⟩)] 31)).drew) (F.block g6 (World.block_lt_of_cell? _ _ s6b) (owns_aside Y'.out.a Y'.out.r6 (by decide) (by decide) g6 rfl))).trans s6b)
                clear n1 n2 hx
                go_upto_region 38 with fail
                go_cut [] (fun wx => Ab wx p m c peak k q (upd n x 0) g ∧ Fr (Mine p m k q) (wr.alloc (.cells #[.pointer (some ⟨q x, 0, none⟩), .pointer none, .pointer (some ⟨q x, 0, none⟩)] 31)).drew wx)
                case first =>
                  as_aux_lemma =>
                    clear XX Y'
                    go_region_held3 (fun w' => w'.cell? ⟨g6, x, none⟩ = some (.pointer (some ⟨q x, 0, none⟩)))
                      (first | exact s6 | exact s6b | exact s6c)
                      (first
                        | (go_at_call 11; (with_reducible refine GV.out.mono ?_); rintro e w4 ⟨rfl, A4, F4⟩; have s6c := SC.out _ F4))
                    all_goals (go_wp2_with fail; go_meet)
                    all_goals exact ⟨A4, F4⟩
                case rest =>
                as_aux_lemma =>
                  obtain ⟨A4, F4⟩ := hcut
                  obtain ⟨w4, hw4⟩ : ∃ w4, w4 = wc := ⟨_, rfl⟩
                  subst wc
                  obtain ⟨P4, I4, D4⟩ := Y'.out.call A4 (((Fr.refl _ wr).alloc _).drew.step F4)
                  have OO := Lib.hid Y'.out.o
                  obtain ⟨g7, rfl, t7, z7, A5, P5, I5, D5⟩ := put0 x 0 HX.out A4 P4 I4 D4
                  obtain ⟨T, hT⟩ : ∃ T, T = tot (upd n x 0) k := ⟨_, rfl⟩
                  have e1 : IntKind.i64.wrap ((tot n k : Int) - (n x : Int)) = (T : Int) := by
                    have := tot_upd n x 0 k HX.out
                    have := Y'.out.a.lp
                    have := Y'.out.a.lc
                    have := HC.out
                    rw [IntKind.wrap_i64]
                    omega
                  have ZZ := Lib.hid (show Ls w (w4.setCell ⟨g7, x, none⟩ (.int .i64 0)) p m c (i + 1) (.slice (some ⟨g6, 0, none⟩) k c6) (.slice (some ⟨g7, 0, none⟩) k c7) (.int .i64 (T : Nat)) (.int .i64 (peak : Nat)) from
                    ⟨k, peak, q, upd n x 0, g, by have := HKI.out; omega, by rw [hT], rfl, A5, P5, I5, D5, OO.out⟩)
                  clear GV F4 A4 P4 I4 D4 A5 P5 I5 D5 OO hT Y' XX s6 s6b SC
                  go_wp2_with fail
                  go_meet
                  exact ZZ.out
            by_cases h4 : K = 4
            · subst h4
              clear b0 b1 b2 h3
              as_aux_lemma =>
                obtain ⟨n4, h4⟩ : ∃ n4, n4 = giv n (fun j => some j) k := ⟨_, rfl⟩
                have GV := give A6 k c6 (fun j => some j) Y'.out.a (lp_all Y'.out.a Y'.out.r6) (fun j hj a e => by cases e; exact hj) (by have := K40.out; omega)
                have ZN := Lib.hid (show ∀ a, a < k → n4 a = 0 from fun a ha => by rw [h4]; exact giv_all n k a ha)
                rw [← h4] at GV
                replace GV := Lib.hid GV
                clear h4
                go_wp2_with fail
                refine GV.out.mono ?_
                rintro e w4 ⟨rfl, A4, F4⟩
                obtain ⟨P4, I4, D4⟩ := Y'.out.call A4 F4
                have OO := Lib.hid Y'.out.o
                rw [← zk_zero n] at I4
                have J4 := Lib.hid (And.intro A4 (And.intro P4 (And.intro I4 D4)))
                clear GV F4 A4 P4 I4 D4 Y' XX
                go_wp2_with fail
                go_loopw [15] (fun v15 wv => ∃ j : Nat, v15 = .int .i64 (j : Int) ∧ j ≤ k ∧ Ab wv p m c peak k q n4 g ∧ Pw wv w.heap.size (.slice A6 k c6) q k ∧ Iw wv w.heap.size (.slice A7 k c7) (zk n j) k ∧ Below w.heap.size w wv) (fun v15 _ => k - (Lib.intOf v15).toNat)
                case atStart => exact ⟨0, rfl, Nat.zero_le _, J4.out⟩
                case round =>
                  clear J4
                  obtain ⟨j, rfl, hj, A5, P5, I5, D5⟩ := hrel
                  by_cases hl2 : j < k
                  · have j2 : (j : Int) < k := by omega
                    obtain ⟨g7, rfl, t7, z7, A6', P6, I6, D6⟩ := put0 j 0 hl2 A5 P5 I5 D5
                    rw [zk_step] at I6
                    have J6 := Lib.hid (And.intro A6' (And.intro P6 (And.intro I6 D6)))
                    have K41 := K40.out
                    clear A5 P5 I5 D5 A6' P6 I6 D6
                    go_wp2_with fail
                    go_roundw
                    case rel => exact ⟨j + 1, rfl, by omega, J6.out⟩
                    case measure => simp [Lib.intOf]; omega
                  · have j2 : ¬ (j : Int) < k := by omega
                    have ej : j = k := by omega
                    subst ej
                    have ZZ := Lib.hid (show Ls w wr p m c (i + 1) (.slice A6 j c6) (.slice A7 j c7) (.int .i64 0) (.int .i64 (peak : Nat)) from
                      ⟨j, peak, q, n4, g, by have := HKI.out; omega, by rw [tot_congr j ZN.out, tot_zero]; rfl, rfl, A5, P5, I5.congr (fun a ha => by rw [ZN.out a ha]; exact if_pos ha), D5, OO.out⟩)
                    clear A5 P5 I5 D5 OO
                    go_wp2_with fail
                    go_meet
                    exact ZZ.out
            by_cases h5 : K = 5
            · subst h5
              clear b0 b1 b2 h3 h4
              as_aux_lemma =>
                obtain ⟨n4, h4⟩ : ∃ n4 : Nat → Nat, n4 = fun _ => 0 := ⟨_, rfl⟩
                have GV := reset Y'.out.a
                have ZN := Lib.hid (show ∀ a, a < k → n4 a = 0 from fun a ha => by rw [h4])
                rw [← h4] at GV
                replace GV := Lib.hid GV
                clear h4
                go_wp2_with fail
                refine GV.out.mono ?_
                rintro e w4 ⟨rfl, A4, F4⟩
                obtain ⟨P4, I4, D4⟩ := Y'.out.call A4 F4
                have OO := Lib.hid Y'.out.o
                rw [← zk_zero n] at I4
                have J4 := Lib.hid (And.intro A4 (And.intro P4 (And.intro I4 D4)))
                clear GV F4 A4 P4 I4 D4 Y' XX
                go_wp2_with fail
                go_loopw [16] (fun v16 wv => ∃ j : Nat, v16 = .int .i64 (j : Int) ∧ j ≤ k ∧ Ab wv p m c 0 k q n4 g ∧ Pw wv w.heap.size (.slice A6 k c6) q k ∧ Iw wv w.heap.size (.slice A7 k c7) (zk n j) k ∧ Below w.heap.size w wv) (fun v16 _ => k - (Lib.intOf v16).toNat)
                case atStart => exact ⟨0, rfl, Nat.zero_le _, J4.out⟩
                case round =>
                  clear J4
                  obtain ⟨j, rfl, hj, A5, P5, I5, D5⟩ := hrel
                  by_cases hl2 : j < k
                  · have j2 : (j : Int) < k := by omega
                    obtain ⟨g7, rfl, t7, z7, A6', P6, I6, D6⟩ := put0 j 0 hl2 A5 P5 I5 D5
                    rw [zk_step] at I6
                    have J6 := Lib.hid (And.intro A6' (And.intro P6 (And.intro I6 D6)))
                    have K41 := K40.out
                    clear A5 P5 I5 D5 A6' P6 I6 D6
                    go_wp2_with fail
                    go_roundw
                    case rel => exact ⟨j + 1, rfl, by omega, J6.out⟩
                    case measure => simp [Lib.intOf]; omega
                  · have j2 : ¬ (j : Int) < k := by omega
                    have ej : j = k := by omega
                    subst ej
                    have ZZ := Lib.hid (show Ls w wr p m c (i + 1) (.slice A6 j c6) (.slice A7 j c7) (.int .i64 0) (.int .i64 0) from
                      ⟨j, 0, q, n4, g, by have := HKI.out; omega, by rw [tot_congr j ZN.out, tot_zero]; rfl, rfl, A5, P5, I5.congr (fun a ha => by rw [ZN.out a ha]; exact if_pos ha), D5, OO.out⟩)
                    clear A5 P5 I5 D5 OO
                    go_wp2_with fail
                    go_meet
                    exact ZZ.out
            as_aux_lemma =>
              go_wp2_with fail
              go_meet
              exact XX.out _ Y'.out
      case rest =>
        as_aux_lemma =>
          clear X' Y t0 t1
          obtain ⟨k, peak, q, n, g, hk, rfl, rfl, Y⟩ := hcut
          obtain ⟨A6, c6, e6⟩ := owns_slice Y.r6
          obtain ⟨A7, c7, e7⟩ := owns_slice Y.r7
          subst e6 e7
          have HI := Lib.hid hi
          have K40 := Lib.hid (show k ≤ 41 by have := HL.out; omega)
          have HK := Lib.hid hk
          clear hk
          go_wp2_with fail
          go_loopw [17] (fun v17 wv => ∃ j : Nat, v17 = .int .i64 (j : Int) ∧ j ≤ k ∧ Sg w wv p m c k peak q n g (.slice A6 k c6) (.slice A7 k c7)) (fun v17 _ => k - (Lib.intOf v17).toNat)
          case atStart => exact ⟨0, rfl, Nat.zero_le _, Y⟩
          case round =>
            clear Y
            obtain ⟨j, rfl, hj, Z⟩ := hrel
            by_cases hl2 : j < k
            · have j2 : (j : Int) < k := by omega
              obtain ⟨g6, rfl, _, s6, _⟩ := owns_at Z.r6 j _ (pws_at hl2)
              obtain ⟨g7, rfl, _, s7, _⟩ := owns_at Z.r7 j _ (iws_at hl2)
              have LN := Lib.hid (fun u => len (w := wr.drewN u) (Z.a.hq j hl2))
              have WO := Lib.hid (fun u => words (w := wr.drewN u) (Z.a.hq j hl2))
              obtain ⟨A, cc, es⟩ := sl_ex (n j) (g j)
              rw [es] at WO
              have K41 := K40.out
              replace Z := Lib.hid Z
              clear es
              go_upto_region 59 with fail
              go_quiet ((first
                | (go_at_call 9; with_reducible exact qs (LN.out _))
                | (go_at_call 10; with_reducible exact qs (WO.out _))))
              go_wp2_with fail
              go_roundw
              case rel => exact ⟨j + 1, rfl, by omega, Z.out.drewN _⟩
              case measure => simp [Lib.intOf]; omega
            · have j2 : ¬ (j : Int) < k := by omega
              have tc : tot n k ≤ c := Nat.le_trans Z.a.lp Z.a.lc
              obtain ⟨f, hf⟩ : ∃ f, tot n k + f = c := ⟨c - tot n k, by omega⟩
              have US := Lib.hid (fun u => used (Z.a.drewN u))
              have PE := Lib.hid (peak_ Z.a)
              have FE := Lib.hid (free f Z.a hf)
              have CP := Lib.hid (fun u => cap_ (Z.a.drewN u))
              replace Z := Lib.hid Z
              obtain ⟨T, hT⟩ : ∃ T, T = tot n k := ⟨_, rfl⟩
              have HT := Lib.hid hT
              rw [← hT] at US hf tc ⊢
              clear hT
              have e1 : IntKind.i64.wrap ((c : Int) - (T : Int)) = (f : Int) := by have := HC.out; rw [IntKind.wrap_i64]; omega
              have e2 : ¬ (c : Int) < (T : Int) := by omega
              clear hf tc
              go_wp2_with fail
              refine (US.out 0).mono ?_
              rintro e w4 ⟨rfl, rfl⟩
              go_wp2_with fail
              refine PE.out.mono ?_
              rintro e w4 ⟨rfl, rfl⟩
              go_wp2_with fail
              refine FE.out.mono ?_
              rintro e w4 ⟨rfl, u, rfl⟩
              go_wp2_with fail
              refine (US.out u).mono ?_
              rintro e w4 ⟨rfl, rfl⟩
              go_wp2_with fail
              refine (CP.out u).mono ?_
              rintro e w4 ⟨rfl, rfl⟩
              clear US PE FE CP e1
              go_wp2_with fail
              go_roundw
              case rel => exact ⟨i + 1, rfl, by omega, k, peak, q, n, g, HK.out, by rw [HT.out], rfl, Z.out.drewN _⟩
              case measure => simp [Lib.intOf]; omega
    · have j1 : ¬ (i : Int) < L := by omega
      obtain ⟨k, peak, q, n, g, hk, rfl, rfl, Y⟩ := X
      have D := Lib.hid Y.d
      clear Y R
      go_wp2
      go_ret
      exact ⟨by simp [go_sem], D.out⟩
set_option maxHeartbeats 400000 in
set_option maxRecDepth 100000 in
theorem walk_many (x : Int) (A : Option Addr) (ca L : Nat) (h : 40 < L) (w : World) :
    Calls Try.prog 3 #[.int .i64 x, .slice A L ca] w fun e w' => e = .returned (.bool true) ∧ Below w.heap.size w w' := by
  have AW := Lib.hid (awake w)
  have i1 : (40 : Int) < (L : Int) := by omega
  clear h
  go_enter Try.func3, Try.ntmps3
  go_wp2_with fail
  refine AW.out.mono ?_
  rintro e w1 ⟨rfl, d1⟩
  replace d1 := Lib.hid d1
  clear AW
  go_wp2
  go_ret
  exact ⟨by simp [go_sem], d1.out⟩

set_option maxHeartbeats 400000 in
set_option maxRecDepth 100000 in
theorem walk_between (x : Int) (A : Option Addr) (ca L : Nat) (h : L ≤ 40) (h1 : 40000 < x) (h2 : x ≤ 16777216) (w : World) :
    Calls Try.prog 3 #[.int .i64 x, .slice A L ca] w fun e w' => e = .returned (.bool true) ∧ Below w.heap.size w w' := by
  have AW := Lib.hid (awake w)
  have i1 : ¬ (40 : Int) < (L : Int) := by omega
  clear h
  go_enter Try.func3, Try.ntmps3
  go_wp2_with fail
  refine AW.out.mono ?_
  rintro e w1 ⟨rfl, d1⟩
  replace d1 := Lib.hid d1
  clear AW
  go_wp2
  go_ret
  exact ⟨by simp [go_sem], d1.out⟩

set_option maxHeartbeats 400000 in
set_option maxRecDepth 100000 in
theorem walk_low (x : Int) (A : Option Addr) (ca L : Nat) (h : L ≤ 40) (h1 : x < 1) (w : World) :
    Calls Try.prog 3 #[.int .i64 x, .slice A L ca] w fun e w' => e = .returned (.bool true) ∧ Below w.heap.size w w' := by
  have AW := Lib.hid (awake w)
  have i1 : ¬ (40 : Int) < (L : Int) := by omega
  have i2 : ¬ 40000 < x := by omega
  have NW := Lib.hid (fun W => new_no x (Or.inl h1) W)
  clear h
  go_enter Try.func3, Try.ntmps3
  go_wp2_with fail
  refine AW.out.mono ?_
  rintro e w1 ⟨rfl, d1⟩
  replace d1 := Lib.hid d1
  clear AW
  go_wp2_with fail
  refine (NW.out _).mono ?_
  rintro e w2 ⟨rfl, rfl⟩
  clear NW
  go_wp2
  go_ret
  exact ⟨by simp [go_sem], d1.out⟩

set_option maxHeartbeats 400000 in
set_option maxRecDepth 100000 in
theorem walk_high (x : Int) (A : Option Addr) (ca L : Nat) (h : L ≤ 40) (h1 : 16777216 < x) (w : World) :
    Calls Try.prog 3 #[.int .i64 x, .slice A L ca] w fun e w' => e = .returned (.bool true) ∧ Below w.heap.size w w' := by
  have AW := Lib.hid (awake w)
  have i1 : ¬ (40 : Int) < (L : Int) := by omega
  have i2 : 40000 < x := by omega
  have i3 : ¬ x ≤ 16777216 := by omega
  have i4 : ¬ x < 1 := by omega
  have NW := Lib.hid (fun W => new_no x (Or.inr h1) W)
  clear h
  go_enter Try.func3, Try.ntmps3
  go_wp2_with fail
  refine AW.out.mono ?_
  rintro e w1 ⟨rfl, d1⟩
  replace d1 := Lib.hid d1
  clear AW
  go_wp2_with fail
  refine (NW.out _).mono ?_
  rintro e w2 ⟨rfl, rfl⟩
  clear NW
  go_wp2
  go_ret
  exact ⟨by simp [go_sem], d1.out⟩
theorem walk (x : Int) (A : Option Addr) (ca L : Nat) (ks ns : Nat → Int) (w : World) (R : Aw w w.heap.size A L ks ns) :
    Calls Try.prog 3 #[.int .i64 x, .slice A L ca] w fun e w' => e = .returned (.bool true) ∧ Below w.heap.size w w' := by
  by_cases h : 40 < L
  · exact walk_many x A ca L h w
  by_cases h1 : x < 1
  · exact walk_low x A ca L (by omega) h1 w
  by_cases h2 : 16777216 < x
  · exact walk_high x A ca L (by omega) h2 w
  by_cases h3 : 40000 < x
  · exact walk_between x A ca L (by omega) h3 (by omega) w
  obtain ⟨c, rfl⟩ := Int.eq_ofNat_of_zero_le (show 0 ≤ x by omega)
  exact walk_in A ca L c ks ns (by omega) (by omega) (by omega) w R

set_option maxRecDepth 100000 in
theorem lifted (os : Os) (started : os.Started) (H : Type) (enc : TypeId × Value → H) :
    ReturnsInHanded {} Try.checked os 3 .any (Rows.arenaCountsSpec.pre6 enc Try.prog Try.f3 Rows.arenaCountsRow.domain false) (Rows.arenaCountsSpec.post enc Try.prog Try.f3 false true false false) := by
  refine returnsInHanded_of_change (C := Try.checked) Fr.own started (by kernel_rfl) Try.func3
    (ChangeSpec.witness6 (enc := enc) (C := Try.checked) false ⟨#[], #[.int .i64 0, .slice none 0 0], []⟩ 8 (by kernel_rfl) (by kernel_rfl) (by kernel_rfl) (by kernel_rfl)) ?_
  intro W base args ds gs before hval0 hW hcnd _
  have hval : ∀ (j : Nat) t v, Try.f3.params[j]? = some t → args[j]? = some v → Value.okWide Try.prog W .any base t v := hval0
  have hW' := hW
  obtain ⟨p, q, hA0, hV, rfl, hfz, hnd⟩ := hW
  have hA : DataW.TrodAll enc Try.prog W 0 (fun _ => true) true Try.f3.params.toList args.toList ds p := hA0
  obtain ⟨rfl, rfl⟩ := trodVars_none hV
  rw [Try.params3] at hA hval
  obtain ⟨v0, vs0, d0, ds0, p0, q0, hargs, rfl, rfl, h0, r0⟩ := trodAll_cons hA
  obtain ⟨v1, vs1, d1, ds1, p1, q1, rfl, rfl, rfl, h1, r1⟩ := trodAll_cons r0
  obtain ⟨rfl, rfl, rfl⟩ := trodAll_nil r1
  obtain rfl : args = #[v0, v1] := by cases args; simp_all
  obtain ⟨x0, rfl, rfl, rfl, w0⟩ := open_int Try.underlying3 (hval 0 3 v0 rfl rfl) h0
  have b0 : -9223372036854775808 ≤ x0 ∧ x0 ≤ 9223372036854775807 := by simpa [Lit.wf, IntKind.min, IntKind.max, IntKind.signed, IntKind.bits] using w0
  obtain ⟨A1, n1, c1, rfl⟩ := okWide_slice Try.underlying22 (hval 1 22 v1 rfl rfl)
  obtain ⟨fuel1, hf1⟩ := h1
  obtain ⟨ks1, ns1, lm1, R1⟩ := Ar.open_acts hf1
  simp only [List.append_nil] at hW' hA0
  refine (walk x0 A1 c1 n1 ks1 ns1 W R1).mono fun e W' ⟨he, hb⟩ => ?_
  subst he
  exact ⟨_, rfl, Fr.law_post (tb := 4) hW' hA0 rfl rfl rfl Try.underlying4 (by rw [Try.params3]; intro t ht; simp at ht; rcases ht with rfl | rfl; all_goals exact ⟨by kernel_rfl, of_decide_eq_true (by kernel_rfl)⟩) hb⟩

theorem proved : Rows.ArenaCountsSaid :=
  OpenClaim.holds_of_wide 3 Try.f3 rfl rfl rfl rfl rfl rfl rfl ⟨rfl, rfl, rfl, rfl, rfl⟩ rfl rfl rfl rfl rfl (by kernel_rfl) Try.func3 (by kernel_rfl)
    (of_decide_eq_true (by kernel_rfl)) (by unfold Func.isWrapper; first | (rw [if_pos (by decide +kernel)]; kernel_rfl) | (rw [if_neg (by decide +kernel)]; exact ⟨rfl, rfl⟩))
    (fun os started H enc _ => lifted os started H enc)
end Go.Proofs.Ythkpndlladmcnaa.arenaCounts
