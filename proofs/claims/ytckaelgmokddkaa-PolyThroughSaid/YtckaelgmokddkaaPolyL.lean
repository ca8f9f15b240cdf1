/- Contract of package poly: Through. -/
import Derived.Test.YtckaelgmokddkaaPolyK
set_option linter.unusedVariables false
namespace Go.Proofs.Ytckaelgmokddkaa
open Go.RowKit Go.Lib Go.Sort
namespace Pl
open Ww Pn Nt

/-- What Through answers of rows that are as long as each other. -/
def ThOut (xs ys : List Nat) (w : World) (e : Ending) (w' : World) : Prop :=
  (Apart xs ∧ ∃ (zs : List Nat) (A : Option Addr) (cap : Nat), Nf 18446744069414584321 zs ∧ zs.length ≤ xs.length ∧ (∀ k, k < xs.length → evl (pl xs k) zs % 18446744069414584321 = pl ys k % 18446744069414584321) ∧
    e = .returned (.tuple #[.slice A zs.length cap, .int .i64 0]) ∧ Ws w' w'.heap.size A zs ∧ Below w.heap.size w w') ∨
  (¬ Apart xs ∧ e = .returned (.tuple #[.slice none 0 0, .int .i64 13]) ∧ Below w.heap.size w w')
/-- DivLinear of the product of all, by one of them. -/
theorem part (As : Option Addr) (ca : Nat) (xs : List Nat) (hl : xs.length ≤ 256) (i : Nat) (hi : pl xs i < 18446744073709551616) (w : World) (R : Ws w w.heap.size As (frl xs xs.length)) :
    Calls Try.prog 24 #[.slice As (xs.length + 1) ca, .int .u64 (pl xs i : Nat)] w fun e w' => ∃ (A : Option Addr) (cap r : Nat), e = .returned (.tuple #[.slice A xs.length cap, .int .u64 (r : Nat)]) ∧ Ws w' w'.heap.size A (pt xs i) ∧ Below w.heap.size w w' ∧ New w.heap.size A := by
  have c := divLinear_new As ca (frl xs xs.length) (pl xs i) hi (by rw [frl_len]; omega) w R
  rw [tr_self (by decide) (frl_mo xs _).nf, frl_len] at c
  refine c.mono ?_
  rintro e w' ⟨A, cap, r, rfl, _, h2, h3, h4⟩
  rw [frl_len, Nat.add_sub_cancel] at h2 ⊢
  exact ⟨A, cap, r, rfl, h2, h3, h4⟩
theorem part_at (A : Option Addr) (cap : Nat) (xs : List Nat) (hl : xs.length ≤ 256) (i : Nat) (hi : pl xs i < 18446744073709551616) (w : World) (R : Ws w w.heap.size A (pt xs i)) :
    Calls Try.prog 15 #[.slice A xs.length cap, .int .u64 (pl xs i : Nat)] w fun e w' => e = .returned (.int .u64 (ptv xs i : Nat)) ∧ Below w.heap.size w w' := by
  have c := pat A cap (pt xs i) (pl xs i) hi (by rw [pt_len]; omega) w R
  rw [pt_len] at c
  exact c
theorem part_scale (A : Option Addr) (cap : Nat) (xs : List Nat) (hl : xs.length ≤ 256) (c : Nat → Nat) (i : Nat) (hi : c i < 18446744073709551616) (w : World) (R : Ws w w.heap.size A (pt xs i)) :
    Calls Try.prog 21 #[.slice A xs.length cap, .int .u64 (c i : Nat)] w fun e w' => ∃ (A2 : Option Addr) (c2 : Nat), e = .returned (.slice A2 (ps xs c i).length c2) ∧ Ws w' w'.heap.size A2 (ps xs c i) ∧ Below w.heap.size w w' ∧ New w.heap.size A2 := by
  have k := scale_new A cap (pt xs i) (c i) hi (by rw [pt_len]; omega) w R
  rw [pt_len] at k
  refine k.mono ?_
  rintro e w' ⟨zs, A2, c2, hn, hc, rfl, h4, h5, h6⟩
  obtain rfl := ps_eq (c := c) hn hc
  exact ⟨A2, c2, rfl, h4, h5, h6⟩
theorem invs_same {xs : List Nat} (hl : xs.length ≤ 256) (hA : ¬ Apart xs) (A : Option Addr) (cap : Nat) (w : World) (R : Ws w w.heap.size A (rg (ptv xs) xs.length)) :
    Calls Try.prog 40 #[.slice A xs.length cap] w fun e w' => ∃ k : Nat, e = .returned (.tuple #[.slice none 0 0, .int .i64 (k : Int), .int .i64 13]) ∧ Below w.heap.size w w' := by
  have hz : ∃ k, k < xs.length ∧ ptv xs k % 18446744069414584321 = 0 := Classical.byContradiction fun h => hA fun i k hi hk hs => h ⟨i, hi, ptv_zero xs i k hi hk hs⟩
  obtain ⟨k, hk, h0, hne⟩ := first_of _ hz
  have c := Gd.invs_none A cap (rg (ptv xs) xs.length) k (by rw [rg_len]; omega) (by rw [rg_len]; exact hk) (by rw [rg_at _ _ _ hk]; exact h0) (fun i hi => by rw [rg_at _ _ _ (by omega)]; exact hne i hi) w R
  rw [rg_len] at c
  exact c.mono fun e w' h => ⟨k, h.1, h.2⟩
theorem invs_apart {xs : List Nat} (hl : xs.length ≤ 256) (hA : Apart xs) (A : Option Addr) (cap : Nat) (w : World) (R : Ws w w.heap.size A (rg (ptv xs) xs.length)) :
    Calls Try.prog 40 #[.slice A xs.length cap] w fun e w' => ∃ f : Nat → Nat, e = .returned (.tuple #[.slice (some ⟨w.heap.size, 0, none⟩) xs.length xs.length, .int .i64 0, .int .i64 0]) ∧ Wk w' w.heap.size 0 xs.length f ∧
      (∀ i, i < xs.length → f i < 18446744069414584321 ∧ f i * ptv xs i % 18446744069414584321 = 1) ∧ w.heap.size < w'.heap.size ∧ Below w.heap.size w w' := by
  have c := Gd.invs_some A cap (rg (ptv xs) xs.length) (by rw [rg_len]; omega) (fun i hi => by rw [rg_len] at hi; rw [rg_at _ _ _ hi]; exact ptv_ne hA i hi) w R
  rw [rg_len] at c
  refine c.mono ?_
  rintro e w' ⟨f, h1, h2, h3, h4, h5⟩
  rw [rg_len] at h1 h2 h3
  exact ⟨f, h1, h2, fun i hi => by have := h3 i hi; rwa [rg_at _ _ _ hi] at this, h4, h5⟩
theorem add_parts (xs : List Nat) (hl : xs.length ≤ 256) (c : Nat → Nat) (A : Option Addr) (w : World) (R : Rs w w.heap.size A (psl xs c)) :
    Calls Try.prog 19 #[.slice A xs.length xs.length] w (Po (sm (psl xs c) xs.length) w) := by
  have k := add A xs.length (psl xs c) (by rw [psl_len]; omega) (fun j => Nat.le_trans (psl_short xs c j) (by omega)) w R
  rw [psl_len] at k
  exact k
theorem th_ok {xs ys : List Nat} (hA : Apart xs) {f c : Nat → Nat} (hc : ∀ i, c i = pl ys i * f i % 18446744069414584321) (hf : ∀ i, i < xs.length → f i < 18446744069414584321 ∧ f i * ptv xs i % 18446744069414584321 = 1) {w w1 w' : World} (hb : Below w.heap.size w w1) {e : Ending}
    (h : Po (sm (psl xs c) xs.length) w1 e w') : ∃ (n : Nat) (A : Option Addr) (cap : Nat), e = .returned (.slice A n cap) ∧ ThOut xs ys w (.returned (.tuple #[.slice A n cap, .int .i64 0])) w' := by
  obtain ⟨zs, A, cap, hn, hz, rfl, R, hb2⟩ := h
  exact ⟨zs.length, A, cap, rfl, Or.inl ⟨hA, zs, A, cap, hn, through_len xs c hn hz, fun k hk => through hA (pl ys) f c (fun i _ => hc i) (fun i hi => (hf i hi).2) hz k hk, rfl, R, hb.trans (hb2.mono hb.size)⟩⟩

set_option maxHeartbeats 1000000 in
theorem through_odd (A B : Option Addr) (n m ca cb : Nat) (hne : n ≠ m) (w : World) :
    Calls Try.prog 28 #[.slice A n ca, .slice B m cb] w fun e w' => e = .returned (.tuple #[.slice none 0 0, .int .i64 19]) ∧ w = w' := by
  have h1 : ((n : Int) != (m : Int)) = true := by simp; omega
  clear hne
  go_enter Try.func28, Try.ntmps28
  go_wp2
  exact bodyPost_ret (v := .tuple #[.slice none 0 0, .int .i64 19]) (by simp [results, Try.results28, go_sem]) rfl ⟨rfl, rfl⟩

set_option maxHeartbeats 4000000 in
set_option maxRecDepth 100000 in
theorem through_walk (A B : Option Addr) (ca cb : Nat) (xs ys : List Nat) (hl : xs.length ≤ 256) (hy : ys.length = xs.length) (w : World) (Ra : Ws w w.heap.size A xs) (Rb : Ws w w.heap.size B ys) :
    Calls Try.prog 28 #[.slice A xs.length ca, .slice B xs.length cb] w (ThOut xs ys w) := by
  have FR0 := fromRoots A ca xs (by omega) w Ra
  have FR := Lib.hid (show Calls Try.prog 27 #[.slice A xs.length ca] w fun e w' => ∃ A1 c1, e = .returned (.tuple #[.slice A1 (xs.length + 1) c1, .int .i64 0]) ∧ Ws w' w'.heap.size A1 (frl xs xs.length) ∧ Below w.heap.size w w' from
    FR0.mono fun e w' ⟨A1, c1, h1, h2, h3⟩ => ⟨A1, c1, by rw [← frl_len xs xs.length]; exact h1, h2, h3⟩)
  have h1 : ¬ (256 : Int) < xs.length := by omega
  have PA := Lib.hid (fun As c i hi W R => part As c xs hl i hi W R)
  have PV := Lib.hid (fun A c i hi W R => part_at A c xs hl i hi W R)
  have PS := Lib.hid (fun A cap c i hi W R => part_scale A cap xs hl c i hi W R)
  have IS := Lib.hid (fun hA A cap W R => invs_same (xs := xs) hl hA A cap W R)
  have IA := Lib.hid (fun hA A cap W R => invs_apart (xs := xs) hl hA A cap W R)
  have AP := Lib.hid (fun c A W R => add_parts xs hl c A W R)
  have OK := Lib.hid (fun hA f c hc hf (w1 w' : World) hb e h => th_ok (xs := xs) (ys := ys) hA (f := f) (c := c) hc hf (w := w) (w1 := w1) (w' := w') hb (e := e) h)
  have NO := Lib.hid (fun (hA : ¬ Apart xs) (w' : World) (hb : Below w.heap.size w w') => show ThOut xs ys w (.returned (.tuple #[.slice none 0 0, .int .i64 13])) w' from Or.inr ⟨hA, rfl, hb⟩)
  have mkr := make_rows xs.length (by omega) (by omega)
  have mkw := make_words xs.length (by omega) (by omega)
  have YL := Lib.hid hy
  have LP := Lib.hid (pt_len xs)
  clear hy FR0
  go_enter Try.func28, Try.ntmps28
  go_wp2_with fail
  refine FR.out.mono ?_
  rintro e w1 ⟨As, cs1, rfl, Rs1, hb1⟩
  have ST := Lib.hid (T1.start hb1 Rs1 22 23)
  clear FR
  go_wp2_with fail
  go_loopw [38] (fun v38 wr => ∃ i : Nat, v38 = .int .i64 (i : Int) ∧ i ≤ xs.length ∧ T1 xs As w1.heap.size i i w wr) (fun v38 _ => xs.length - (Lib.intOf v38).toNat)
  case atStart => exact ⟨0, rfl, Nat.zero_le _, ST.out⟩
  case round =>
    obtain ⟨i, rfl, hi, T⟩ := hrel
    clear ST mkr mkw
    by_cases hlt : i < xs.length
    · have i1 : (i : Int) < xs.length := by omega
      have R1 := Ra.below T.bel
      obtain ⟨b, off, rfl, hB, c⟩ := R1.at_ i hlt
      have c2 : wr.cell? ⟨b, off + i, none⟩ = some (.int .u64 (pl xs i : Nat)) := c
      have hx := R1.lt i hlt
      have P1 := Lib.hid (PA.out As cs1 i hx wr (T.a.more (by have := T.s; omega)))
      have P2 := Lib.hid (fun A1 k1 W R => PV.out A1 k1 i hx W R)
      have LPi := Lib.hid (LP.out i)
      clear c hx R1
      generalize pl xs i = x at *
      go_wp2_with fail
      refine P1.out.mono ?_
      rintro e w2 ⟨A2, k2, r2, rfl, R2, hb2, N2⟩
      have T2 := T.call hb2
      obtain ⟨⟨v0, m0⟩, m1⟩ := T2.p.c i hlt
      have N3 : New (w1.heap.size + 2) A2 := N2.less (by have := T.s; omega)
      have T3 := T2.row hlt k2 R2 N3
      have R3 := ws_new (p := ⟨w1.heap.size, i, none⟩) R2 N3 (by show w1.heap.size < w1.heap.size + 2; omega) (.slice A2 (pt xs i).length k2)
      rw [LPi.out] at T3 R3
      have T3 := Lib.hid T3
      have R3 := Lib.hid R3
      clear T T2 R2 N2 N3 hb2 P1 c2
      go_wp2_with fail
      refine (P2.out A2 k2 _ (R3.out.more (by simp [World.setCell]))).mono ?_
      generalize w2.setCell ⟨w1.heap.size, i, none⟩ (.slice A2 xs.length k2) = w3 at *
      rintro e w4 ⟨rfl, hb4⟩
      have T4 := T3.out.call hb4
      obtain ⟨⟨v1, q0⟩, q1⟩ := T4.at_v i hlt
      have T5 := Lib.hid (T4.val hlt)
      clear T4 T3 R3 hb4 m0 m1 P2
      generalize ptv xs i = pv at *
      go_wp2_with fail
      go_roundw
      case rel => exact ⟨i + 1, rfl, by omega, T5.out⟩
      case measure => simp [Lib.intOf]; omega
    · have i1 : ¬ (i : Int) < xs.length := by omega
      obtain rfl : i = xs.length := by omega
      have V := T.vals
      by_cases hA : Apart xs
      · have I := Lib.hid (IA.out hA (some ⟨w1.heap.size + 1, 0, none⟩) xs.length wr V)
        obtain ⟨wo, rfl⟩ : ∃ wo : World, wo = wr := ⟨_, rfl⟩
        clear V IS NO
        go_wp2_with fail
        refine I.out.mono ?_
        rintro e w2 ⟨f, rfl, K2, hf, s2, hb2⟩
        obtain ⟨c, hc⟩ : ∃ c : Nat → Nat, ∀ i, c i = pl ys i * f i % 18446744069414584321 := ⟨_, fun i => rfl⟩
        have ST2 := Lib.hid (T2.start T c hb2 K2 s2)
        have MU := Lib.hid (fun i (h : pl ys i < 18446744073709551616) (hi : i < xs.length) W => show Calls Try.prog 34 #[.int .u64 (pl ys i : Nat), .int .u64 (f i : Nat)] W fun e w' => e = .returned (.int .u64 (c i : Nat)) ∧ Below W.heap.size W w' by
          rw [hc]
          exact Gd.mul (pl ys i) (f i) h (Nat.lt_trans (hf i hi).1 (by decide)) W)
        have C64 := Lib.hid (fun i => show c i < 18446744073709551616 by rw [hc]; exact mod64 _)
        have OK2 := Lib.hid (fun w1 w' hb e h => OK.out hA f c hc hf w1 w' hb e h)
        clear I IA T K2 hf hb2 hc OK
        go_wp2_with fail
        go_loopw [73] (fun v73 wr => ∃ i : Nat, v73 = .int .i64 (i : Int) ∧ i ≤ xs.length ∧ T2 xs c f w1.heap.size wo.heap.size i w wr) (fun v73 _ => xs.length - (Lib.intOf v73).toNat)
        case atStart => exact ⟨0, rfl, Nat.zero_le _, ST2.out⟩
        case round =>
          obtain ⟨i, rfl, hi, T⟩ := hrel
          clear ST2
          by_cases hlt : i < xs.length
          · have i1 : (i : Int) < xs.length := by omega
            have R1 := Rb.below T.bel
            obtain ⟨b, off, rfl, hB, c0⟩ := R1.at_ i (by have := YL.out; omega)
            have y0 : wr.cell? ⟨b, off + i, none⟩ = some (.int .u64 (pl ys i : Nat)) := c0
            have y1 : wr.drew.cell? ⟨b, off + i, none⟩ = some (.int .u64 (pl ys i : Nat)) := c0
            have M := Lib.hid (MU.out i (R1.lt i (by have := YL.out; omega)) hlt)
            have v0 := T.at_v i hlt
            have v1 := T.drew.at_v i hlt
            obtain ⟨Aj, cj, p0, Rj, Nj⟩ := T.at_p hlt
            have SC := Lib.hid (fun W R => PS.out Aj cj c i (C64.out i) W R)
            have TS := Lib.hid (fun w4 (A4 : Option Addr) (k4 : Nat) (h : T2 xs c f w1.heap.size wo.heap.size i w w4) R4 N4 => h.row hlt k4 (A := A4) R4 N4)
            have BS := T.ne
            have BT := T.s
            clear c0 R1
            generalize pl ys i = y at *
            generalize ps xs c i = zs at *
            generalize c i = ci at *
            generalize f i = fi at *
            go_upto_region 20 with fail
            go_region_with (first
              | (go_at_call 34; refine (M.out _).mono ?_; rintro e w3 ⟨rfl, hb3⟩; have T3 := T.drew.call hb3; have R3 := Rj.drew.step hb3)
              | (go_at_call 21; refine (SC.out _ R3).mono ?_; rintro e w4 ⟨A4, k4, rfl, R4, hb4, N4⟩; have T4 := T3.call hb4; obtain ⟨⟨v4, m0⟩, m1⟩ := T4.p.c i hlt; have T5 := Lib.hid (TS.out w4 A4 k4 T4 R4 (N4.less (by have := T3.s; have := T3.ne; omega)))))
            all_goals (go_wp2_with fail)
            all_goals go_roundw
            all_goals first
              | exact ⟨i + 1, rfl, by omega, T5.out⟩
              | (simp [Lib.intOf]; omega)
          · have i1 : ¬ (i : Int) < xs.length := by omega
            obtain rfl : i = xs.length := by omega
            have AD := Lib.hid (AP.out c _ wr T.rs)
            have hbl := T.bel
            clear T
            go_wp2_with fail
            refine AD.out.mono ?_
            rintro e w5 hT
            obtain ⟨n5, A5, c5, rfl, OK5⟩ := OK2.out wr w5 hbl _ hT
            have OK5 := Lib.hid OK5
            clear hT
            go_wp2
            exact bodyPost_ret (v := .tuple #[.slice A5 n5 c5, .int .i64 0]) (by simp [results, Try.results28, go_sem]) rfl OK5.out
      · have I := Lib.hid (IS.out hA (some ⟨w1.heap.size + 1, 0, none⟩) xs.length wr V)
        have hbl := T.bel
        clear V T IA OK
        go_wp2_with fail
        refine I.out.mono ?_
        rintro e w2 ⟨k, rfl, hb2⟩
        have OK5 := Lib.hid (NO.out hA w2 (hbl.trans (hb2.mono hbl.size)))
        clear hA
        go_wp2
        exact bodyPost_ret (v := .tuple #[.slice none 0 0, .int .i64 13]) (by simp [results, Try.results28, go_sem]) rfl OK5.out
end Pl
end Go.Proofs.Ytckaelgmokddkaa
