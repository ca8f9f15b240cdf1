/- BlockStacks: of every shape, row of words and number of blocks the law of stacks answers true, and changes nothing, where the library's two tables are as their initialisers lay them (the card ties them to the program's text). -/
import Derived.Test.YtobpjlgiefnmjaaDoorFrame
import Derived.Test.YtobpjlgiefnmjaaDoorTileA
import Derived.Test.YtobpjlgiefnmjaaDoorViewO
import Derived.Test.YtobpjlgiefnmjaaDoorBlockL
import Derived.Test.YtobpjlgiefnmjaaDoorTie
import Derived.Test.YtobpjlgiefnmjaaDoorCards
import Derived.Lib.LaidTab
import Derived.LaidMore
import Derived.Stop.Joined
import Derived.SevenTiedAt
set_option linter.unusedVariables false
namespace Go.Proofs.YtobpjlgiefnmjaaDoor.blockStacks
open Go.ChangeShapes Go.WideShapes Go.ChangeAt Go.RowKit
open Bl Ww Pl

theorem and_pow : ∀ K : Nat, K ≤ 8 → 0 < K → ((K &&& (K - 1)) = 0 ↔ (K = 1 ∨ K = 2 ∨ K = 4 ∨ K = 8)) := by decide
theorem gd_pow {R C K : Nat} (hg : Sh.Gd (R : Int) (C : Int)) (hK : K = 1 ∨ K = 2 ∨ K = 4 ∨ K = 8) (hl : R * C ≤ 64) : Sh.Gd ((K * R : Nat) : Int) (C : Int) := by
  obtain ⟨i, j, hij, h1, h2⟩ := hg
  have e1 : R = 2 ^ i := by omega
  have e2 : C = 2 ^ j := by omega
  have h6 : i + j ≤ 6 := by
    rw [e1, e2, ← Nat.pow_add] at hl
    exact (Nat.pow_le_pow_iff_right (a := 2) (by decide)).1 (Nat.le_trans hl (by decide))
  obtain ⟨k, hk, e3⟩ : ∃ k, k ≤ 3 ∧ K = 2 ^ k := by
    rcases hK with h | h | h | h
    · exact ⟨0, by decide, h⟩
    · exact ⟨1, by decide, h⟩
    · exact ⟨2, by decide, h⟩
    · exact ⟨3, by decide, h⟩
  exact ⟨k + i, j, by omega, by rw [e3, e1, ← Nat.pow_add], h2⟩
theorem gd_mul {R C K : Nat} (hg : Sh.Gd (R : Int) (C : Int)) (hK : K ≤ 8) (h : Sh.Gd ((K * R : Nat) : Int) (C : Int)) : K = 1 ∨ K = 2 ∨ K = 4 ∨ K = 8 := by
  obtain ⟨i, j, hij, h1, h2⟩ := hg
  obtain ⟨i', j', hij', h1', _⟩ := h
  have e1 : R = 2 ^ i := by omega
  have e2 : K * R = 2 ^ i' := by omega
  rw [e1] at e2
  have p : 0 < 2 ^ i := Nat.two_pow_pos i
  have p' : 0 < 2 ^ i' := Nat.two_pow_pos i'
  have K0 : 0 < K := by
    apply Nat.pos_of_ne_zero
    rintro rfl
    rw [Nat.zero_mul] at e2
    omega
  have l : i ≤ i' := (Nat.pow_le_pow_iff_right (a := 2) (by decide)).1 (by rw [← e2]; exact Nat.le_mul_of_pos_left _ K0)
  have e3 : 2 ^ i' = 2 ^ (i' - i) * 2 ^ i := by rw [← Nat.pow_add, Nat.sub_add_cancel l]
  rw [e3] at e2
  have e4 : K = 2 ^ (i' - i) := Nat.eq_of_mul_eq_mul_right p e2
  have l3 : i' - i ≤ 3 := (Nat.pow_le_pow_iff_right (a := 2) (by decide)).1 (by rw [← e4]; exact hK)
  generalize i' - i = k at *
  have : k = 0 ∨ k = 1 ∨ k = 2 ∨ k = 3 := by omega
  rcases this with rfl | rfl | rfl | rfl
  · exact Or.inl e4
  · exact Or.inr (Or.inl e4)
  · exact Or.inr (Or.inr (Or.inl e4))
  · exact Or.inr (Or.inr (Or.inr e4))
set_option maxHeartbeats 1000000 in
set_option maxRecDepth 100000 in
theorem walk_none (a b : Int) (A : Option Addr) (n ca : Nat) (xs : List Nat) (q : Nat) (h : ¬ (Sh.Gd a b ∧ n ≤ 256 ∧ a * b = (n : Int))) (w : World) (hT : Ft.Tab w) (R : Ws w w.heap.size A xs) :
    Calls Tryd.prog 7 #[.agg #[.int .i64 a, .int .i64 b], .slice A n ca, .int .u8 (q : Nat)] w fun e w' => e = .returned (.bool true) ∧ Below w.heap.size w w' := by
  have MD := Lib.hid (fun W => made_no A n ca a b h W)
  have SN := Lib.hid stack_none
  clear h
  go_enter Tryd.func7, Tryd.ntmps7
  go_upto_region 1 with fail
  have V0 := Sh.Tw.fresh w a b 23
  have b0 := below_alloc w (.cells #[.int .i64 a, .int .i64 b] 23)
  generalize w.alloc (.cells #[.int .i64 a, .int .i64 b] 23) = w0 at *
  go_wp2_with fail
  refine (awake _ (hT.below b0)).mono ?_
  rintro e w1 ⟨rfl, h1⟩
  have V1 := Lib.hid (V0.below h1)
  have c1 := Lib.hid (b0.trans (h1.mono b0.size))
  have R1 := Lib.hid (R.step c1.out)
  have T1 := Lib.hid (hT.below c1.out)
  generalize w.heap.size = vb at V1
  have M1 := Lib.hid (Kd.refl w1)
  have TW := Lib.hid (fun W (hk : Kd w1 W) => hk.tw V1.out)
  have RX := Lib.hid (fun W (hk : Kd w1 W) => R1.out.step hk.d)
  have TX := Lib.hid (fun W (hk : Kd w1 W) => show Ft.Tab W from T1.out.below hk.d)
  have CW := Lib.hid (fun W (hk : Kd w1 W) => c1.out.trans (hk.d.mono c1.out.size))
  clear V0 b0 h1 V1 R1 T1 c1 hT R
  obtain ⟨t0, t1⟩ := TW.out _ M1.out
  go_wp2_with fail
  refine (MD.out _).mono ?_
  rintro e w2 ⟨rfl, d2⟩
  have M2 := Lib.hid (M1.out.call d2)
  clear t0 t1 d2 M1
  have C2 := Lib.hid (CW.out _ M2.out)
  clear M2 CW TW RX TX
  go_wp2_with fail
  refine (SN.out _).mono ?_
  rintro e w3 ⟨rfl, rfl⟩
  go_wp2
  go_ret
  exact ⟨by simp [go_sem], C2.out⟩

set_option maxHeartbeats 1000000 in
set_option maxRecDepth 100000 in
theorem walk_long (R C n ca xb xo : Nat) (xs : List Nat) (q : Nat) (hl : n ≤ 256) (h64 : 64 < n) (hx : xs.length = n) (hg : Sh.Gd (R : Int) (C : Int)) (hn : R * C = n) (w : World) (hT : Ft.Tab w) (X : Ws w w.heap.size (some ⟨xb, xo, none⟩) xs) :
    Calls Tryd.prog 7 #[.agg #[.int .i64 (R : Int), .int .i64 (C : Int)], .slice (some ⟨xb, xo, none⟩) n ca, .int .u8 (q : Nat)] w fun e w' => e = .returned (.bool true) ∧ Below w.heap.size w w' := by
  have MD := Lib.hid (fun W T X => made_ok ⟨xb, xo, none⟩ ca R C n xs hx hg hn hl W T X)
  have SN := Lib.hid stack_none
  have h1' : 64 < (n : Int) := by omega
  clear hg hn hx hl h64
  go_enter Tryd.func7, Tryd.ntmps7
  go_upto_region 1 with fail
  have V0 := Sh.Tw.fresh w (R : Int) (C : Int) 23
  have b0 := below_alloc w (.cells #[.int .i64 (R : Int), .int .i64 (C : Int)] 23)
  generalize w.alloc (.cells #[.int .i64 (R : Int), .int .i64 (C : Int)] 23) = w0 at *
  go_wp2_with fail
  refine (awake _ (hT.below b0)).mono ?_
  rintro e w1 ⟨rfl, h1⟩
  have V1 := Lib.hid (V0.below h1)
  have c1 := Lib.hid (b0.trans (h1.mono b0.size))
  have R1 := Lib.hid (X.step c1.out)
  have T1 := Lib.hid (hT.below c1.out)
  generalize w.heap.size = vb at V1
  have M1 := Lib.hid (Kd.refl w1)
  have TW := Lib.hid (fun W (hk : Kd w1 W) => hk.tw V1.out)
  have RX := Lib.hid (fun W (hk : Kd w1 W) => R1.out.step hk.d)
  have TX := Lib.hid (fun W (hk : Kd w1 W) => show Ft.Tab W from T1.out.below hk.d)
  have CW := Lib.hid (fun W (hk : Kd w1 W) => c1.out.trans (hk.d.mono c1.out.size))
  clear V0 b0 h1 V1 R1 T1 c1 hT X
  obtain ⟨t0, t1⟩ := TW.out _ M1.out
  go_wp2_with fail
  refine (MD.out _ (TX.out _ M1.out) (RX.out _ M1.out)).mono ?_
  rintro e w2 ⟨v2, rfl, p, b, cap, rfl, B2, hp, hb, d2⟩
  have M2 := Lib.hid (M1.out.call d2)
  have B2 := Lib.hid B2
  clear t0 t1 d2 M1 MD hp hb
  have C2 := Lib.hid (CW.out _ M2.out)
  clear M2 B2 CW TW RX TX
  go_wp2_with fail
  refine (SN.out _).mono ?_
  rintro e w3 ⟨rfl, rfl⟩
  go_wp2
  go_ret
  exact ⟨by simp [go_sem], C2.out⟩

set_option maxHeartbeats 1000000 in
set_option maxRecDepth 100000 in
theorem walk_odd (R C n ca xb xo : Nat) (xs : List Nat) (q : Nat) (hq : q ≤ 255) (hl : n ≤ 64) (hp2 : ¬ (1 + q % 8 = 1 ∨ 1 + q % 8 = 2 ∨ 1 + q % 8 = 4 ∨ 1 + q % 8 = 8)) (hx : xs.length = n) (hg : Sh.Gd (R : Int) (C : Int)) (hn : R * C = n) (w : World) (hT : Ft.Tab w) (X : Ws w w.heap.size (some ⟨xb, xo, none⟩) xs) :
    Calls Tryd.prog 7 #[.agg #[.int .i64 (R : Int), .int .i64 (C : Int)], .slice (some ⟨xb, xo, none⟩) n ca, .int .u8 (q : Nat)] w fun e w' => e = .returned (.bool true) ∧ Below w.heap.size w w' := by
  have MD := Lib.hid (fun W T X => made_ok ⟨xb, xo, none⟩ ca R C n xs hx hg hn (by omega) W T X)
  obtain ⟨g1, g2, g3, g4, g5⟩ := hg.bound
  have fl := Lib.hid (fun i (hi : i < n) => show Pn.pl xs i < 18446744073709551616 from X.lt i (by omega))
  have n0 : 0 < n := by rw [← hn]; exact Nat.mul_pos (by omega) (by omega)
  have RE := Lib.hid (show rg (Pn.pl xs) n = xs from rg_pl hx)
  have HX := Lib.hid hx
  have HXE := Lib.hid (show Value.slice (some ⟨xb, xo, none⟩) n ca = .slice (some ⟨xb, xo, none⟩) xs.length ca by rw [hx])
  have RS := Lib.hid (fun i => rep_step n (Pn.pl xs) xs (rg_pl hx) i)
  have h64 : ¬ 64 < (n : Int) := by omega
  obtain ⟨rr, hrr⟩ : ∃ rr, rr = q % 8 := ⟨_, rfl⟩
  have r8 : rr < 8 := by rw [hrr]; exact Nat.mod_lt _ (by decide)
  have e1 : (q : Int).tmod 8 = (rr : Int) := by rw [Int.tmod_eq_emod_of_nonneg (by omega), hrr]; rfl
  rw [← hrr] at hp2
  clear hrr
  obtain ⟨K, hK⟩ : ∃ K, K = 1 + rr := ⟨_, rfl⟩
  have e2 : IntKind.i64.wrap (1 + (rr : Int)) = (K : Int) := by rw [IntKind.wrap_i64]; omega
  have K8 : 0 < K ∧ K ≤ 8 := by omega
  obtain ⟨K1, hK1⟩ : ∃ K1, K1 = K - 1 := ⟨_, rfl⟩
  have e3 : IntKind.i64.wrap ((K : Int) - 1) = (K1 : Int) := by rw [IntKind.wrap_i64]; omega
  have e4 := Bt.and_i64 K K1 (by omega) (by omega)
  obtain ⟨kk, hkk⟩ : ∃ kk, kk = K &&& K1 := ⟨_, rfl⟩
  rw [← hkk] at e4
  have Kn := Lib.hid (show ∀ i, i ≤ K → i * n ≤ 512 from fun i hi => Nat.le_trans (Nat.mul_le_mul (show i ≤ 8 by omega) hl) (by decide))
  rw [← hK] at hp2
  have kz : ((kk : Int) != 0) = true := by
    have h := and_pow K K8.2 K8.1
    rw [← hK1, ← hkk] at h
    simp
    intro e
    exact hp2 (h.1 (by omega))
  have SK := Lib.hid (fun W p b cap g gc (B : Bx W p b R C n cap (Pn.pl xs)) P T => stack_odd B g 0 K gc K8.1 (by omega) (fun h => hp2 (gd_mul hg K8.2 h.1)) P T)
  clear hp2 hkk hg hn hx hK hK1
  go_enter Tryd.func7, Tryd.ntmps7
  go_upto_region 1 with fail
  have V0 := Sh.Tw.fresh w (R : Int) (C : Int) 23
  have b0 := below_alloc w (.cells #[.int .i64 (R : Int), .int .i64 (C : Int)] 23)
  generalize w.alloc (.cells #[.int .i64 (R : Int), .int .i64 (C : Int)] 23) = w0 at *
  go_wp2_with fail
  refine (awake _ (hT.below b0)).mono ?_
  rintro e w1 ⟨rfl, h1⟩
  have V1 := Lib.hid (V0.below h1)
  have c1 := Lib.hid (b0.trans (h1.mono b0.size))
  have R1 := Lib.hid (X.step c1.out)
  have T1 := Lib.hid (hT.below c1.out)
  generalize w.heap.size = vb at V1
  have M1 := Lib.hid (Kd.refl w1)
  have TW := Lib.hid (fun W (hk : Kd w1 W) => hk.tw V1.out)
  have RX := Lib.hid (fun W (hk : Kd w1 W) => R1.out.step hk.d)
  have TX := Lib.hid (fun W (hk : Kd w1 W) => show Ft.Tab W from T1.out.below hk.d)
  have CW := Lib.hid (fun W (hk : Kd w1 W) => c1.out.trans (hk.d.mono c1.out.size))
  clear V0 b0 h1 V1 R1 T1 c1 hT X
  obtain ⟨t0, t1⟩ := TW.out _ M1.out
  go_wp2_with fail
  refine (MD.out _ (TX.out _ M1.out) (RX.out _ M1.out)).mono ?_
  rintro e w2 ⟨v2, rfl, p, b, cap, rfl, B2, hp, hb, d2⟩
  have M2 := Lib.hid (M1.out.call d2)
  have B2 := Lib.hid B2
  clear t0 t1 d2 M1 MD hp hb
  have O2 := Lib.hid (Ow.nil_ w2 w2.heap.size)
  have P2 := Lib.hid (Po.nil_ w2 w2.heap.size p)
  go_wp2_with fail
  go_loopw [11, 12, 13] (fun v11 v12 v13 wr => ∃ i : Nat, v13 = .int .i64 (i : Int) ∧ i ≤ K ∧ Po wr w2.heap.size v11 i p ∧ Ow wr w2.heap.size v12 (rg (fun j => Pn.pl xs (j % n)) (i * n)) ∧ Below w2.heap.size w2 wr) (fun _ _ v13 _ => K - (Lib.intOf v13).toNat)
  case atStart => exact ⟨0, rfl, Nat.zero_le _, P2.out, by rw [Nat.zero_mul]; exact O2.out, Below.refl _ _⟩
  case round =>
    obtain ⟨i, rfl, hi, P, O, hb⟩ := hrel
    clear O2 P2
    by_cases hlt : i < K
    · have i1 : (i : Int) < K := by omega
      have P3 := Lib.hid (show Po (wr.alloc (.cells #[(.pointer (some ⟨p, 0, none⟩))] 26)) w2.heap.size u11 i p from World.ownsRow.alloc P _)
      have O3 := Lib.hid (O.alloc (.cells #[(.pointer (some ⟨p, 0, none⟩))] 26))
      have b3 := Lib.hid (hb.alloc (o := .cells #[(.pointer (some ⟨p, 0, none⟩))] 26) hb.size)
      have RA := Lib.hid (fun W (h : Below w2.heap.size w2 W) => show Ws W W.heap.size (some ⟨xb, xo, none⟩) xs from RX.out _ (M2.out.call h))
      have HI := Lib.hid hi
      clear P O hb
      go_upto_region 14 with (at_builtin; (refine appendP (wr.alloc (.cells #[(.pointer (some ⟨p, 0, none⟩))] 26)) ?hgd (.tmp 51) (.tmp 53) ?ho w2.heap.size u11 i p ?hs P3.out wr.heap.size ?hx ?hc ?c1 ?c2 (fun v4 w4 P4 hg => ?_)); (case hgd => rfl); (case ho => rfl); (case hs => rfl); (case hx => rfl); (case hc => simp [go_sem]); (case c1 => have := HI.out; omega); (case c2 => exact b3.out.size); (have O4 := Lib.hid (show Ow w4 w2.heap.size u12 (rg (fun j => Pn.pl xs (j % n)) (i * n)) from owns_other O3.out (owns_apart O3.out P3.out (Ne.symm type_ne)) hg)); (have b4 := Lib.hid (b3.out.grown hg b3.out.size (fun k hk => (World.ownsRow.lt P3.out k hk).1))); (have P4 := Lib.hid P4); (clear P3 O3 b3 hg))
      have RA4 := Lib.hid (RA.out _ b4.out)
      clear RA
      go_wp2_with (at_builtin; (refine append_all w4 ?hgd (.tmp 55) (.tmp 56) ?ho w2.heap.size u12 (rg (fun j => Pn.pl xs (j % n)) (i * n)) ?hs O4.out w4.heap.size (some ⟨xb, xo, none⟩) ca xs ?hx RA4.out ?hA ?c1 ?c2 (fun v5 w5 O5 hg => ?_)); (case hgd => rfl); (case ho => rfl); (case hs => rfl); (case hx => exact HXE.out); (case hA => intro h; cases h); (case c1 => rw [rg_len, HX.out]; have h1 := Kn.out i (by have := HI.out; omega); omega); (case c2 => exact b4.out.size))
      have P5 := Lib.hid (show Po w5 w2.heap.size v4 (i + 1) p from owns_other P4.out (owns_apart P4.out O4.out type_ne) hg)
      have b5 := Lib.hid (O4.out.grow b4.out hg b4.out.size)
      rw [RS.out i] at O5
      have O5 := Lib.hid O5
      clear P4 O4 b4 hg RA4
      go_wp2_with fail
      go_roundw
      case rel => exact ⟨i + 1, rfl, by omega, P5.out, O5.out, b5.out⟩
      case measure => simp [Lib.intOf]; omega
    · have i1 : ¬ (i : Int) < K := by omega
      obtain rfl : K = i := by omega
      obtain ⟨g, gc, rfl, hg1, PP⟩ := P.pp K8.1
      obtain ⟨A6, c6, e6, X6⟩ := O.ws (fun j hj => by rw [rg_len] at hj; rw [rg_at _ _ _ hj]; exact fl.out _ (Nat.mod_lt _ n0))
      rw [rg_len] at e6
      subst e6
      have M6 := Lib.hid (M2.out.call hb)
      have B6 := Lib.hid (B2.out.below hb)
      have X6 := Lib.hid X6
      have PP := Lib.hid PP
      clear P O hb M2 B2 RS fl hg1
      go_wp2_with fail
      refine (SK.out _ _ _ _ _ _ B6.out PP.out (TX.out _ M6.out)).mono ?_
      rintro e w7 ⟨rfl, d7⟩
      have C7 := Lib.hid (CW.out _ (M6.out.call d7))
      clear d7 M6 B6 X6 PP SK CW TW RX TX
      go_wp2
      go_ret
      exact ⟨by simp [go_sem], C7.out⟩

set_option maxHeartbeats 1000000 in
set_option maxRecDepth 100000 in
theorem walk_ok (R C n ca xb xo : Nat) (xs : List Nat) (q : Nat) (hq : q ≤ 255) (hl : n ≤ 64) (hp2 : 1 + q % 8 = 1 ∨ 1 + q % 8 = 2 ∨ 1 + q % 8 = 4 ∨ 1 + q % 8 = 8) (hx : xs.length = n) (hg : Sh.Gd (R : Int) (C : Int)) (hn : R * C = n) (w : World) (hT : Ft.Tab w) (X : Ws w w.heap.size (some ⟨xb, xo, none⟩) xs) :
    Calls Tryd.prog 7 #[.agg #[.int .i64 (R : Int), .int .i64 (C : Int)], .slice (some ⟨xb, xo, none⟩) n ca, .int .u8 (q : Nat)] w fun e w' => e = .returned (.bool true) ∧ Below w.heap.size w w' := by
  have MD := Lib.hid (fun W T X => made_ok ⟨xb, xo, none⟩ ca R C n xs hx hg hn (by omega) W T X)
  obtain ⟨g1, g2, g3, g4, g5⟩ := hg.bound
  have fl := Lib.hid (fun i (hi : i < n) => show Pn.pl xs i < 18446744073709551616 from X.lt i (by omega))
  have n0 : 0 < n := by rw [← hn]; exact Nat.mul_pos (by omega) (by omega)
  have RE := Lib.hid (show rg (Pn.pl xs) n = xs from rg_pl hx)
  have HX := Lib.hid hx
  have HXE := Lib.hid (show Value.slice (some ⟨xb, xo, none⟩) n ca = .slice (some ⟨xb, xo, none⟩) xs.length ca by rw [hx])
  have RS := Lib.hid (fun i => rep_step n (Pn.pl xs) xs (rg_pl hx) i)
  have h64 : ¬ 64 < (n : Int) := by omega
  obtain ⟨rr, hrr⟩ : ∃ rr, rr = q % 8 := ⟨_, rfl⟩
  have r8 : rr < 8 := by rw [hrr]; exact Nat.mod_lt _ (by decide)
  have e1 : (q : Int).tmod 8 = (rr : Int) := by rw [Int.tmod_eq_emod_of_nonneg (by omega), hrr]; rfl
  rw [← hrr] at hp2
  clear hrr
  obtain ⟨K, hK⟩ : ∃ K, K = 1 + rr := ⟨_, rfl⟩
  have e2 : IntKind.i64.wrap (1 + (rr : Int)) = (K : Int) := by rw [IntKind.wrap_i64]; omega
  have K8 : 0 < K ∧ K ≤ 8 := by omega
  obtain ⟨K1, hK1⟩ : ∃ K1, K1 = K - 1 := ⟨_, rfl⟩
  have e3 : IntKind.i64.wrap ((K : Int) - 1) = (K1 : Int) := by rw [IntKind.wrap_i64]; omega
  have e4 := Bt.and_i64 K K1 (by omega) (by omega)
  obtain ⟨kk, hkk⟩ : ∃ kk, kk = K &&& K1 := ⟨_, rfl⟩
  rw [← hkk] at e4
  have Kn := Lib.hid (show ∀ i, i ≤ K → i * n ≤ 512 from fun i hi => Nat.le_trans (Nat.mul_le_mul (show i ≤ 8 by omega) hl) (by decide))
  rw [← hK] at hp2
  have kz : kk = 0 := by
    have h := and_pow K K8.2 K8.1
    rw [← hK1, ← hkk] at h
    exact h.2 hp2
  subst kz
  have hgk : Sh.Gd ((K * R : Nat) : Int) (C : Int) := gd_pow hg hp2 (by rw [hn]; omega)
  obtain ⟨N, hN⟩ : ∃ N, N = K * n := ⟨_, rfl⟩
  have N5 : N ≤ 512 := by rw [hN]; exact Kn.out K (Nat.le_refl _)
  have SK := Lib.hid (fun W p b cap g gc (B : Bx W p b R C n cap (Pn.pl xs)) P T => stack_ok B g 0 K gc K8.1 (by omega) N hN hgk (by omega) P T)
  obtain ⟨KR, hKR⟩ : ∃ KR, KR = K * R := ⟨_, rfl⟩
  have KRl : KR ≤ 34359738368 := by rw [hKR]; exact Nat.mul_le_mul K8.2 (show R ≤ 4294967296 by omega)
  have e5 : IntKind.i64.wrap ((K : Int) * (R : Int)) = (KR : Int) := by rw [← Int.natCast_mul, ← hKR]; exact IntWalk.i64_in _ (by omega)
  obtain ⟨U, hU⟩ : ∃ U, U = K1 * R := ⟨_, rfl⟩
  have UK : U + R = KR := by
    have : K = K1 + 1 := by omega
    rw [hU, hKR, this, Nat.succ_mul]
  have e6 : IntKind.i64.wrap ((K1 : Int) * (R : Int)) = (U : Int) := by rw [← Int.natCast_mul, ← hU]; exact IntWalk.i64_in _ (by omega)
  rw [← hKR] at SK
  have WX := Lib.hid (fun W p b cap (B : Bx W p b KR C N cap (fun j => Pn.pl xs (j % n))) => words B)
  have SX := Lib.hid (fun W p b cap (B : Bx W p b KR C N cap (fun j => Pn.pl xs (j % n))) => Bl.shape B.c)
  have SM := Lib.hid (fun (A B : Option Addr) ca cb W Ra Rb => same_rg (n := N) (f := fun j => Pn.pl xs (j % n)) (g := fun j => Pn.pl xs (j % n)) (fun _ _ => rfl) (by omega) A B ca cb W Ra Rb)
  have PI := Lib.hid (fun W p b cap (B : Bx W p b KR C N cap (fun j => Pn.pl xs (j % n))) T => show Calls Tryd.prog 20 #[.pointer (some ⟨p, 0, none⟩), .agg #[.int .i64 (R : Int), .int .i64 (C : Int), .int .i64 (U : Int), .int .i64 0]] W fun e w' => ∃ x, e = .returned (.tuple #[x, .int .i64 0]) ∧ BxN R C (R * C) (Bk.part C U 0 C (fun j => Pn.pl xs (j % n))) W w' x from part_in B R C U 0 hg (by omega) (by omega) T)
  have PF : ∀ j, j < n → Bk.part C U 0 C (fun j => Pn.pl xs (j % n)) j = Pn.pl xs j := fun j hj => by
    show Pn.pl xs ((((U + j / C) * C + (0 + j % C))) % n) = Pn.pl xs j
    have a : U * C = n * K1 := by rw [hU, Nat.mul_assoc, hn, Nat.mul_comm]
    rw [Nat.zero_add, Nat.add_mul, Nat.add_assoc, Nat.div_add_mod', a, Nat.mul_add_mod, Nat.mod_eq_of_lt hj]
  have WP := Lib.hid (fun W p b cap (B : Bx W p b R C (R * C) cap (Bk.part C U 0 C (fun j => Pn.pl xs (j % n)))) => show Calls Tryd.prog 13 #[.pointer (some ⟨p, 0, none⟩)] W (Wr (Pn.pl xs) n W) from by
    have B' := B
    rw [hn] at B'
    exact words (B'.congr PF))
  have SL := Lib.hid (fun (A B : Option Addr) ca cb W Ra Rb => same_rg (n := n) (f := Pn.pl xs) (g := Pn.pl xs) (fun _ _ => rfl) (by omega) A B ca cb W Ra Rb)
  have SN := Lib.hid (fun ab p W c0 c1 => stack_nil ab p W c0 c1)
  have bt := build_tile2 (R : Int) (C : Int) (U : Int)
  replace hN := Lib.hid hN
  clear hp2 hkk hg hn hx hK hK1 hgk hKR hU UK KRl PF
  go_enter Tryd.func7, Tryd.ntmps7
  go_upto_region 1 with fail
  have V0 := Sh.Tw.fresh w (R : Int) (C : Int) 23
  have b0 := below_alloc w (.cells #[.int .i64 (R : Int), .int .i64 (C : Int)] 23)
  generalize w.alloc (.cells #[.int .i64 (R : Int), .int .i64 (C : Int)] 23) = w0 at *
  go_wp2_with fail
  refine (awake _ (hT.below b0)).mono ?_
  rintro e w1 ⟨rfl, h1⟩
  have V1 := Lib.hid (V0.below h1)
  have c1 := Lib.hid (b0.trans (h1.mono b0.size))
  have R1 := Lib.hid (X.step c1.out)
  have T1 := Lib.hid (hT.below c1.out)
  generalize w.heap.size = vb at V1
  have M1 := Lib.hid (Kd.refl w1)
  have TW := Lib.hid (fun W (hk : Kd w1 W) => hk.tw V1.out)
  have RX := Lib.hid (fun W (hk : Kd w1 W) => R1.out.step hk.d)
  have TX := Lib.hid (fun W (hk : Kd w1 W) => show Ft.Tab W from T1.out.below hk.d)
  have CW := Lib.hid (fun W (hk : Kd w1 W) => c1.out.trans (hk.d.mono c1.out.size))
  clear V0 b0 h1 V1 R1 T1 c1 hT X
  obtain ⟨t0, t1⟩ := TW.out _ M1.out
  go_wp2_with fail
  refine (MD.out _ (TX.out _ M1.out) (RX.out _ M1.out)).mono ?_
  rintro e w2 ⟨v2, rfl, p, b, cap, rfl, B2, hp, hb, d2⟩
  have M2 := Lib.hid (M1.out.call d2)
  have B2 := Lib.hid B2
  clear t0 t1 d2 M1 MD hp hb
  have O2 := Lib.hid (Ow.nil_ w2 w2.heap.size)
  have P2 := Lib.hid (Po.nil_ w2 w2.heap.size p)
  go_wp2_with fail
  go_loopw [11, 12, 13] (fun v11 v12 v13 wr => ∃ i : Nat, v13 = .int .i64 (i : Int) ∧ i ≤ K ∧ Po wr w2.heap.size v11 i p ∧ Ow wr w2.heap.size v12 (rg (fun j => Pn.pl xs (j % n)) (i * n)) ∧ Below w2.heap.size w2 wr) (fun _ _ v13 _ => K - (Lib.intOf v13).toNat)
  case atStart => exact ⟨0, rfl, Nat.zero_le _, P2.out, by rw [Nat.zero_mul]; exact O2.out, Below.refl _ _⟩
  case round =>
    obtain ⟨i, rfl, hi, P, O, hb⟩ := hrel
    clear O2 P2
    by_cases hlt : i < K
    · have i1 : (i : Int) < K := by omega
      have P3 := Lib.hid (show Po (wr.alloc (.cells #[(.pointer (some ⟨p, 0, none⟩))] 26)) w2.heap.size u11 i p from World.ownsRow.alloc P _)
      have O3 := Lib.hid (O.alloc (.cells #[(.pointer (some ⟨p, 0, none⟩))] 26))
      have b3 := Lib.hid (hb.alloc (o := .cells #[(.pointer (some ⟨p, 0, none⟩))] 26) hb.size)
      have RA := Lib.hid (fun W (h : Below w2.heap.size w2 W) => show Ws W W.heap.size (some ⟨xb, xo, none⟩) xs from RX.out _ (M2.out.call h))
      have HI := Lib.hid hi
      clear P O hb
      go_upto_region 14 with (at_builtin; (refine appendP (wr.alloc (.cells #[(.pointer (some ⟨p, 0, none⟩))] 26)) ?hgd (.tmp 51) (.tmp 53) ?ho w2.heap.size u11 i p ?hs P3.out wr.heap.size ?hx ?hc ?c1 ?c2 (fun v4 w4 P4 hg => ?_)); (case hgd => rfl); (case ho => rfl); (case hs => rfl); (case hx => rfl); (case hc => simp [go_sem]); (case c1 => have := HI.out; omega); (case c2 => exact b3.out.size); (have O4 := Lib.hid (show Ow w4 w2.heap.size u12 (rg (fun j => Pn.pl xs (j % n)) (i * n)) from owns_other O3.out (owns_apart O3.out P3.out (Ne.symm type_ne)) hg)); (have b4 := Lib.hid (b3.out.grown hg b3.out.size (fun k hk => (World.ownsRow.lt P3.out k hk).1))); (have P4 := Lib.hid P4); (clear P3 O3 b3 hg))
      have RA4 := Lib.hid (RA.out _ b4.out)
      clear RA
      go_wp2_with (at_builtin; (refine append_all w4 ?hgd (.tmp 55) (.tmp 56) ?ho w2.heap.size u12 (rg (fun j => Pn.pl xs (j % n)) (i * n)) ?hs O4.out w4.heap.size (some ⟨xb, xo, none⟩) ca xs ?hx RA4.out ?hA ?c1 ?c2 (fun v5 w5 O5 hg => ?_)); (case hgd => rfl); (case ho => rfl); (case hs => rfl); (case hx => exact HXE.out); (case hA => intro h; cases h); (case c1 => rw [rg_len, HX.out]; have h1 := Kn.out i (by have := HI.out; omega); omega); (case c2 => exact b4.out.size))
      have P5 := Lib.hid (show Po w5 w2.heap.size v4 (i + 1) p from owns_other P4.out (owns_apart P4.out O4.out type_ne) hg)
      have b5 := Lib.hid (O4.out.grow b4.out hg b4.out.size)
      rw [RS.out i] at O5
      have O5 := Lib.hid O5
      clear P4 O4 b4 hg RA4
      go_wp2_with fail
      go_roundw
      case rel => exact ⟨i + 1, rfl, by omega, P5.out, O5.out, b5.out⟩
      case measure => simp [Lib.intOf]; omega
    · have i1 : ¬ (i : Int) < K := by omega
      obtain rfl : K = i := by omega
      obtain ⟨g, gc, rfl, hg1, PP⟩ := P.pp K8.1
      obtain ⟨A6, c6, e6, X6⟩ := O.ws (fun j hj => by rw [rg_len] at hj; rw [rg_at _ _ _ hj]; exact fl.out _ (Nat.mod_lt _ n0))
      rw [rg_len] at e6
      subst e6
      have M6 := Lib.hid (M2.out.call hb)
      have B6 := Lib.hid (B2.out.below hb)
      have X6 := Lib.hid X6
      have PP := Lib.hid PP
      clear P O hb M2 B2 RS fl hg1
      rw [← hN.out] at X6
      have RK := Lib.hid (show K * n = N from hN.out.symm)
      go_wp2_with fail
      refine (SK.out _ _ _ _ _ _ B6.out PP.out (TX.out _ M6.out)).mono ?_
      rintro e w7 ⟨v7, rfl, p7, b7, cap7, rfl, Y7, hp7, hb7, d7⟩
      have M7 := Lib.hid (M6.out.call d7)
      have B7 := Lib.hid (B6.out.below d7)
      have X7 := Lib.hid (X6.out.step d7)
      have Y7 := Lib.hid Y7
      clear d7 M6 B6 X6 PP SK hp7 hb7
      simp only [RK.out]
      have M := Kd.refl w7
      have PX := Lib.hid (fun W (hk : Kd w7 W) => show W.cell? ⟨vb, 0, none⟩ = some (.int .i64 (R : Int)) ∧ W.cell? ⟨vb, 1, none⟩ = some (.int .i64 (C : Int)) ∧ Kd w7 W from
        ⟨(TW.out _ (M7.out.trans hk)).1, (TW.out _ (M7.out.trans hk)).2, hk⟩)
      have SB := Lib.hid (fun W (hk : Kd w7 W) => SX.out _ _ _ _ (Y7.out.below hk.d))
      have WB := Lib.hid (fun W (hk : Kd w7 W) => WX.out _ _ _ _ (Y7.out.below hk.d))
      have RW := Lib.hid (fun W (hk : Kd w7 W) => X7.out.step hk.d)
      obtain ⟨t0, t1⟩ := TW.out _ M7.out
      go_upto_region 18 with fail
      go_cut [98] (fun v98 wx => v98 = .bool false ∧ Kd w7 wx)
      case first =>
        go_region_held3 (fun w' => w'.cell? ⟨vb, 0, none⟩ = some (.int .i64 (R : Int)) ∧ w'.cell? ⟨vb, 1, none⟩ = some (.int .i64 (C : Int)) ∧ Kd w7 w')
          (exact PX.out _ (by repeat (first | with_reducible exact M | with_reducible refine Kd.drew ?_ | with_reducible refine Kd.alloc ?_ _ | with_reducible refine Kd.call ?_ h8 | with_reducible refine Kd.call ?_ h9 | with_reducible refine Kd.call ?_ h10)))
          (first
            | (go_at_call 11; (with_reducible refine (SB.out _ (by repeat (first | with_reducible exact M | with_reducible refine Kd.drew ?_ | with_reducible refine Kd.alloc ?_ _ | with_reducible refine Kd.call ?_ h8 | with_reducible refine Kd.call ?_ h9 | with_reducible refine Kd.call ?_ h10))).mono ?_); rintro e w8 ⟨rfl, h8⟩)
            | (go_at_call 13; (with_reducible refine (WB.out _ (by repeat (first | with_reducible exact M | with_reducible refine Kd.drew ?_ | with_reducible refine Kd.alloc ?_ _ | with_reducible refine Kd.call ?_ h8 | with_reducible refine Kd.call ?_ h9 | with_reducible refine Kd.call ?_ h10))).mono ?_); rintro e w9 ⟨A9, c9, rfl, X9, h9⟩)
            | (go_at_call 12; (with_reducible refine (SM.out _ _ _ _ _ X9 (RW.out _ (by repeat (first | with_reducible exact M | with_reducible refine Kd.drew ?_ | with_reducible refine Kd.alloc ?_ _ | with_reducible refine Kd.call ?_ h8 | with_reducible refine Kd.call ?_ h9 | with_reducible refine Kd.call ?_ h10)))).mono ?_); rintro e w10 ⟨rfl, h10⟩))
        all_goals (go_wp2_with fail; go_meet)
        all_goals exact ⟨by first | rfl | simp, by repeat (first | with_reducible exact M | with_reducible refine Kd.drew ?_ | with_reducible refine Kd.alloc ?_ _ | with_reducible refine Kd.call ?_ h8 | with_reducible refine Kd.call ?_ h9 | with_reducible refine Kd.call ?_ h10)⟩
      case rest =>
        obtain ⟨rfl, hcut⟩ := hcut
        clear M PX SB WB RW t0 t1
        generalize wc = w8 at *
        have M8 := Lib.hid (M7.out.trans hcut)
        have Y8 := Lib.hid (Y7.out.below hcut.d)
        clear hcut M7 Y7 X7 SM SX WX B7
        obtain ⟨t0, t1⟩ := TW.out _ M8.out
        go_wp2_with fail
        refine (PI.out _ _ _ _ Y8.out (TX.out _ M8.out)).mono ?_
        rintro e w9 ⟨v9, rfl, p9, b9, cap9, rfl, Z9, hp9, hb9, d9⟩
        have M9 := Lib.hid (M8.out.call d9)
        have Z9 := Lib.hid Z9
        clear d9 M8 Y8 hp9 hb9 PI t0 t1 bt
        have b10 := below_alloc w9 (.cells #[(.pointer (some ⟨p, 0, none⟩)), .pointer none] 26)
        have SN9 := Lib.hid (SN.out w9.heap.size p (w9.alloc (.cells #[(.pointer (some ⟨p, 0, none⟩)), .pointer none] 26)) (by simp [go_sem]) (by simp [go_sem]))
        have M10 := Lib.hid (M9.out.call b10)
        have Z10 := Lib.hid (Z9.out.below b10)
        clear b10 M9 Z9 SN
        go_wp2_with fail
        refine SN9.out.mono ?_
        rintro e w10 ⟨rfl, rfl⟩
        clear SN9
        generalize w9.alloc (.cells #[(.pointer (some ⟨p, 0, none⟩)), .pointer none] 26) = w10 at *
        go_wp2_with fail
        refine (WP.out _ _ _ _ Z10.out).mono ?_
        rintro e w11 ⟨A11, c11, rfl, X11, d11⟩
        have M11 := Lib.hid (M10.out.call d11)
        have X11 := Lib.hid X11
        clear d11 M10 Z10 WP
        go_wp2_with fail
        refine (SL.out _ _ _ _ _ X11.out (by rw [RE.out]; exact RX.out _ M11.out)).mono ?_
        rintro e w12 ⟨rfl, d12⟩
        have C12 := Lib.hid (CW.out _ (M11.out.call d12))
        clear d12 M11 X11 SL CW TW RX TX
        go_wp2
        go_ret
        exact ⟨by simp [go_sem], C12.out⟩

theorem walk (a b : Int) (A : Option Addr) (n ca : Nat) (xs : List Nat) (q : Nat) (hx : xs.length = n) (hq : q ≤ 255) (w : World) (hT : Ft.Tab w) (R : Ws w w.heap.size A xs) :
    Calls Tryd.prog 7 #[.agg #[.int .i64 a, .int .i64 b], .slice A n ca, .int .u8 (q : Nat)] w fun e w' => e = .returned (.bool true) ∧ Below w.heap.size w w' := by
  by_cases h : Sh.Gd a b ∧ n ≤ 256 ∧ a * b = (n : Int)
  · obtain ⟨hg, hl, hm⟩ := h
    obtain ⟨g1, g2, g3, g4, g5⟩ := hg.bound
    obtain ⟨R', rfl⟩ := Int.eq_ofNat_of_zero_le (show 0 ≤ a by omega)
    obtain ⟨C', rfl⟩ := Int.eq_ofNat_of_zero_le (show 0 ≤ b by omega)
    have hn : R' * C' = n := by rw [← Int.natCast_mul] at hm; omega
    have h0 : 0 < n := by rw [← hn]; exact Nat.mul_pos (by omega) (by omega)
    obtain ⟨xb, xo, rfl, _, _⟩ := R.at_ 0 (by omega)
    by_cases h64 : 64 < n
    · exact walk_long R' C' n ca xb xo xs q hl h64 hx hg hn w hT R
    · by_cases hp : 1 + q % 8 = 1 ∨ 1 + q % 8 = 2 ∨ 1 + q % 8 = 4 ∨ 1 + q % 8 = 8
      · exact walk_ok R' C' n ca xb xo xs q hq (by omega) hp hx hg hn w hT R
      · exact walk_odd R' C' n ca xb xo xs q hq (by omega) hp hx hg hn w hT R
  · exact walk_none a b A n ca xs q h w hT R

theorem g32 : Tryd.prog.globalNamed "math/bits.deBruijn32tab" = some 0 := by kernel_rfl
theorem g64 : Tryd.prog.globalNamed "math/bits.deBruijn64tab" = some 1 := by kernel_rfl
theorem t64 : (Tryd.prog.globals[1]?).map (·.type) = some 82 := by kernel_rfl
/-- What the row's condition gives the walk: the table's cells. -/
theorem of_laid {W : World} (h : laidMetH Tryd.prog Rows.blockStacksRow.laid W) : Ft.Tab W := by
  rw [MakeChecks.laidMetH_plain _ _ _ (by kernel_rfl)] at h
  obtain ⟨ps, ⟨g0, t0, cs0, f0, p0, q0, hg0, ht0, hv0, hd0, ⟨g1, t1, cs1, f1, p1, q1, hg1, ht1, hv1, hd1, _, _⟩, _⟩, _, _⟩ := h
  obtain rfl := Option.some.inj (g64.symm.trans hg1)
  obtain rfl := Option.some.inj (t64.symm.trans ht1)
  have hd2 : DataW.trod _ Tryd.prog W 0 _ false f1 82 cs1.toList = some (Lib.tabData .u8 (Lib.deBruijn64tab.map Int.ofNat), p1) := hd1
  have hc := Lib.cells_of_tab Tryd.underlying82 Tryd.underlying5 (by kernel_rfl) (by kernel_rfl) hd2
  intro i hi
  have c := World.var?_cell hg1 hv1 i
  rw [c, ← Array.getElem?_toList, hc]
  have hl : Lib.deBruijn64tab.length = 64 := by decide
  simp [List.getD, hl, hi]

/-- The door's own heap meets the condition. -/
theorem door_met (os : Os) (args : Array Value) : laidMetH Tryd.prog Rows.blockStacksRow.laid ((World.doorLaid Tryd.prog 400 os).forCall (fun _ _ => 0) ⟨#[], args, []⟩).memory :=
  laidMetH_of_parts3 (fuel := 8) (laidMet_of_run' 8 (by kernel_rfl) (by kernel_rfl)) (by kernel_rfl) (by kernel_rfl)
set_option maxRecDepth 100000 in
theorem lifted (os : Os) (started : os.Started) (H : Type) (enc : TypeId × Value → H) :
    ReturnsInHanded {} Tryd.checked os 7 .any (fun w args => (Rows.blockStacksSpec.pre enc Tryd.prog Tryd.f7 [] false w args ∧ laidMetH Tryd.prog Rows.blockStacksRow.laid w) ∧ sizedMet enc Tryd.prog Tryd.f7 (OpenSpec.ofChange Rows.blockStacksSpec) false w args)
      (Rows.blockStacksSpec.post enc Tryd.prog Tryd.f7 false true false false) := by
  refine returnsInHanded_of_change_and (C := Tryd.checked) (X := fun w _ => laidMetH Tryd.prog Rows.blockStacksRow.laid w) (fun _ _ _ hh h => h.of_heap hh) Fr.own started (by kernel_rfl) Tryd.func7
    (ChangeSpec.witness_shaped (enc := enc) (C := Tryd.checked) (os := os) (X := fun w _ => laidMetH Tryd.prog Rows.blockStacksRow.laid w) false (World.doorLaid Tryd.prog 400 os) #[.agg #[.int .i64 0, .int .i64 0], .slice none 0 0, .int .u8 0] 8 rfl (World.shaped_of_RefB (by kernel_rfl) (by kernel_rfl)) (by kernel_rfl) (by kernel_rfl) (by kernel_rfl) (door_met os _)) ?_
  intro W base args ds gs before hval0 hW _ _ hL _
  have hval : ∀ (j : Nat) t v, Tryd.f7.params[j]? = some t → args[j]? = some v → Value.okWide Tryd.prog W .any base t v := hval0
  have hW' := hW
  obtain ⟨p, q, hA0, hV, rfl, hfz, hnd⟩ := hW
  have hA : DataW.TrodAll enc Tryd.prog W 0 (fun _ => true) true Tryd.f7.params.toList args.toList ds p := hA0
  obtain ⟨rfl, rfl⟩ := trodVars_none hV
  rw [Tryd.params7] at hA hval
  obtain ⟨v0, vs0, d0, ds0, p0, q0, hargs, rfl, rfl, h0, r0⟩ := trodAll_cons hA
  obtain ⟨v1, vs1, d1, ds1, p1, q1, rfl, rfl, rfl, h1, r1⟩ := trodAll_cons r0
  obtain ⟨v2, vs2, d2, ds2, p2, q2, rfl, rfl, rfl, h2, r2⟩ := trodAll_cons r1
  obtain ⟨rfl, rfl, rfl⟩ := trodAll_nil r2
  obtain rfl : args = #[v0, v1, v2] := by cases args; simp_all
  obtain ⟨a0, b0, rfl, rfl⟩ := Vw.open_shape (hval 0 23 v0 rfl rfl) h0
  obtain ⟨A1, n1, c1, rfl⟩ := okWide_slice Tryd.underlying24 (hval 1 24 v1 rfl rfl)
  obtain ⟨fuel1, hf1⟩ := h1
  obtain ⟨xs1, rfl, lc1, lm1, R1⟩ := Ww.open_words hf1
  obtain ⟨a2, rfl, rfl, rfl, w2⟩ := open_int Tryd.underlying5 (hval 2 5 v2 rfl rfl) h2
  have b2 : 0 ≤ a2 ∧ a2 ≤ 255 := by simpa [Lit.wf, IntKind.min, IntKind.max, IntKind.signed, IntKind.bits] using w2
  obtain ⟨x2, rfl⟩ := Int.eq_ofNat_of_zero_le b2.1
  simp only [List.append_nil] at hW' hA0
  refine (walk a0 b0 A1 xs1.length c1 xs1 x2 rfl (by omega) W (of_laid hL) R1).mono fun e W' ⟨he, hb⟩ => ?_
  subst he
  exact ⟨_, rfl, Fr.law_post (tb := 4) hW' hA0 rfl rfl rfl Tryd.underlying4 (by rw [Tryd.params7]; intro t ht; simp at ht; rcases ht with rfl | rfl | rfl; all_goals exact ⟨by kernel_rfl, of_decide_eq_true (by kernel_rfl)⟩) hb⟩

theorem row_holds : Rows.BlockStacksSaid :=
  OpenClaim.holds_of_wide 7 Tryd.f7 rfl rfl rfl rfl rfl rfl rfl ⟨rfl, rfl, rfl, rfl, rfl⟩ rfl rfl rfl rfl rfl (by kernel_rfl) Tryd.func7 (by kernel_rfl)
    (of_decide_eq_true (by kernel_rfl)) (by unfold Func.isWrapper; first | (rw [if_pos (by decide +kernel)]; kernel_rfl) | (rw [if_neg (by decide +kernel)]; exact ⟨rfl, rfl⟩))
    (fun os started H enc _ => lifted os started H enc)

theorem proved : Rows.BlockStacksCardSaid :=
  Claim7.holds_tied_plain_at .later [] [.data, .data] true Rows.blockStacksCard.stood.harness false
    row_holds (fun _ h => by cases h) (by kernel_rfl) (fun _ h => by cases h) blockStacks_row_tie rfl ⟨rfl, rfl⟩ (by kernel_rfl) rfl
    (fun f fn hf hfn => by
      obtain rfl : f = 7 := Option.some.inj ((show Tryd.prog.funcNamed "abacist/abacistlaw12.BlockStacks" = some 7 by kernel_rfl).symm.trans hf) |>.symm
      obtain rfl : fn = Tryd.f7 := (Option.some.inj (Tryd.func7.symm.trans hfn)).symm
      exact ⟨by kernel_rfl, fun j t ht => by
        rw [Tryd.params7] at ht
        have hm : t ∈ [23, 24, 5] := by simpa using Array.mem_of_getElem? ht
        have hall : ([23, 24, 5].all fun u => !Tryd.prog.wantsStandIn u) = true := by kernel_rfl
        exact (show Tryd.prog.wantsStandIn t = false by simpa using List.all_eq_true.1 hall t hm)⟩)
    (by kernel_rfl)
end Go.Proofs.YtobpjlgiefnmjaaDoor.blockStacks
