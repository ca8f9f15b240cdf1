/- Contract of package kern2's joinHalves. -/
import Derived.Test.YtfkhnfaammfbeaaDoorKernA
set_option linter.unusedVariables false
namespace Go.Proofs.YtfkhnfaammfbeaaDoor
open Go.RowKit Go.Lib Go.Sort
namespace Kn
open Nm Ww Tn Pl

theorem st_lt (f t : Nat → Nat) (h j : Nat) : st f t h j < 18446744069414584321 := by
  unfold st
  split
  · exact bs_lt _ _ _
  · exact bd_lt _ _ _
theorem sb_lt (f t : Nat → Nat) (h m : Nat) (hf : ∀ j, f j < 18446744069414584321) (j : Nat) : sb f t h m j < 18446744073709551616 := by
  unfold sb
  split
  · exact Nat.lt_trans (st_lt _ _ _ _) (by decide)
  · exact Nat.lt_trans (hf _) (by decide)
theorem JR.self {b n : Nat} {f : Nat → Nat} {w wr : World} (h : JR b n f w wr) : JR b n f wr wr := ⟨h.k, But.refl _ _, h.s⟩
/-- The inner loop's relation. -/
structure IR (b n h : Nat) (F t : Nat → Nat) (w wr : World) (fr : Nat) : Prop where
  j : JR b n (sb F t h fr) w wr
  c : ∃ c, fr = c * (2 * h)
  l : fr ≤ n
/-- The outer loop's. -/
structure OR (b n k : Nat) (H : Nat → Nat → Nat) (w wr : World) (h : Nat) : Prop where
  s : ∃ s, h = 2 ^ s ∧ s ≤ k ∧ JR b n (H s) w wr

set_option maxHeartbeats 2000000 in
set_option maxRecDepth 100000 in
theorem joinHalves_core (b n ca k m c3 : Nat) (T : Option Addr) (ps : List Nat) (hm : ps.length = m) (hk : k ≤ 20) (hn : n = 2 ^ k) (hca : n ≤ ca) (hml : m ≤ 1048576) (H TT : Nat → Nat → Nat) (hH : ∀ s j, H s j < 18446744069414584321)
    (hS : ∀ s j, s < k → st (H s) (TT s) (2 ^ s) j = H (s + 1) j) (hT : ∀ s, s < k → ∃ sp, sp ≤ 1048576 ∧ m = sp * 2 ^ s ∧ ∀ i, i < 2 ^ s → i * sp < m ∧ Pn.pl ps (i * sp) = TT s i)
    (w : World) (J : JR b n (H 0) w w) (R : Wo w b T ps) :
    Calls Tryd.prog 43 #[.slice (some ⟨b, 0, none⟩) n ca, .slice T m c3] w fun e w' => e = .returned (.tuple #[]) ∧ JR b n (H k) w w' := by
  have hl : n ≤ 1048576 := by rw [hn]; exact Nat.le_trans (Nat.pow_le_pow_right (by decide) hk) (by decide)
  have JN := Lib.hid (fun (s fr q h sp c1 c2 : Nat) (f t : Nat → Nat) hq hn1 hf ht hsp W J R => join b fr q h n c1 c2 c3 m sp T ps hm f t hq hn1 hl hml hf ht hsp W J R)
  have HT := Lib.hid hT
  have HS := Lib.hid hS
  have HH := Lib.hid hH
  have LT := Lib.hid (fun s (hs : s ≤ k) => show (2 ^ s < n ↔ s < k) ∧ 2 ^ s ≤ n ∧ 0 < 2 ^ s by
    refine ⟨?_, ?_, Nat.two_pow_pos s⟩
    · rw [hn]; exact Nat.pow_lt_pow_iff_right (by decide)
    · rw [hn]; exact Nat.pow_le_pow_right (by decide) hs)
  have MU := Lib.hid (fun s (hs : s < k) c (hc : c * (2 * 2 ^ s) < n) => show (c + 1) * (2 * 2 ^ s) ≤ n by
    obtain ⟨e, he⟩ : ∃ e, k = e + (s + 1) := ⟨k - (s + 1), by omega⟩
    have e1 : n = 2 ^ e * (2 * 2 ^ s) := by rw [hn, he, Nat.pow_add, Nat.pow_succ' (n := s)]
    rw [e1] at hc ⊢
    exact Nat.mul_le_mul_right _ (Nat.lt_of_mul_lt_mul_right hc))
  have ST := Lib.hid (show OR b n k H w w 1 from ⟨⟨0, rfl, Nat.zero_le _, J⟩⟩)
  clear hS hT hH hm J hn
  go_enter Tryd.func43, Tryd.ntmps43
  go_wp2_with fail
  go_loopw [4] (fun v4 wr => ∃ h : Nat, v4 = .int .i64 (h : Int) ∧ OR b n k H w wr h) (fun v4 _ => n - (Lib.intOf v4).toNat)
  case atStart => exact ⟨1, rfl, ST.out⟩
  case round =>
    obtain ⟨h, rfl, O⟩ := hrel
    clear ST
    obtain ⟨s, hh, hs, J⟩ := O.s
    obtain ⟨l1, l2, l3⟩ := LT.out s hs
    rw [← hh] at l1 l2 l3
    by_cases hlt : h < n
    · have h1 : (h : Int) < n := by omega
      have hsk : s < k := l1.1 hlt
      obtain ⟨sp, hsp, hms, hps⟩ := HT.out s hsk
      have mu := MU.out s hsk
      have hst := HS.out s
      rw [← hh] at hms hps mu hst
      have z0 : ((h : Int) == 0) = false := by rw [beq_eq_false_iff_ne]; omega
      have z1 : ¬ (h : Int) = 0 := by omega
      have d1 : (m : Int).tdiv (h : Int) = (sp : Int) := by rw [Int.tdiv_eq_ediv_of_nonneg (by omega), hms, Int.natCast_mul, Int.mul_ediv_cancel _ z1]
      have d2 : (m : Int) / (h : Int) = (sp : Int) := by rw [hms, Int.natCast_mul, Int.mul_ediv_cancel _ z1]
      have d3 : IntKind.i64.wrap (sp : Int) = (sp : Int) := IntWalk.i64_in _ (by omega)
      have I0 := Lib.hid (show IR b n h (H s) (TT s) w wr 0 from ⟨by rw [sb_zero]; exact J, ⟨0, by rw [Nat.zero_mul]⟩, Nat.zero_le _⟩)
      have FL := Lib.hid (fun fr => sb_lt (H s) (TT s) h fr (HH.out s))
      have PS := Lib.hid hps
      have MU1 := Lib.hid mu
      have EN := Lib.hid (fun W (I : IR b n h (H s) (TT s) w W n) => show OR b n k H w W (2 * h) from ⟨⟨s + 1, by rw [hh, Nat.pow_succ, Nat.mul_comm], hsk, I.j.congr fun j hj => by rw [sb_all _ _ _ _ _ hj]; exact hst j hsk⟩⟩)
      have J1 := Lib.hid (fun fr q h sp c1 c2 f t => JN.out s fr q h sp c1 c2 f t)
      obtain ⟨h2, eh2⟩ : ∃ h2, h2 = 2 * h := ⟨_, rfl⟩
      have hl2 : h2 ≤ 2097152 := by omega
      have q2 : IntKind.i64.wrap (2 * (h : Int)) = (h2 : Int) := by rw [IntKind.wrap_i64]; omega
      have q3 : IntKind.i64.wrap ((h : Int) * 2) = (h2 : Int) := by rw [IntKind.wrap_i64]; omega
      rw [← eh2] at EN
      have HE := Lib.hid eh2
      clear O J HT MU HS LT hh hms hps mu hst hs l1 l2 JN hsk eh2
      generalize H s = F at *
      generalize TT s = tt at *
      go_wp2_with fail
      obtain ⟨wo, rfl⟩ : ∃ wo : World, wo = wr := ⟨_, rfl⟩
      go_loopw [6] (fun v6 wr => ∃ fr : Nat, v6 = .int .i64 (fr : Int) ∧ IR b n h F tt w wr fr) (fun v6 _ => n - (Lib.intOf v6).toNat)
      case atStart => exact ⟨0, rfl, I0.out⟩
      case round =>
        obtain ⟨fr, rfl, I⟩ := hrel
        clear I0
        have fl := I.l
        by_cases hf : fr < n
        · have f1 : (fr : Int) < n := by omega
          obtain ⟨c, hc⟩ := I.c
          have nx : fr + h2 ≤ n := by have := MU1.out c (by omega); rw [Nat.succ_mul c (2 * h), ← hc, ← HE.out] at this; exact this
          have eh2 := HE.out
          obtain ⟨q, eq⟩ : ∃ q, q = fr + h := ⟨_, rfl⟩
          obtain ⟨r, er⟩ : ∃ r, r = fr + h2 := ⟨_, rfl⟩
          have q4 : IntKind.i64.wrap ((fr : Int) + (h : Int)) = (q : Int) := by rw [IntKind.wrap_i64]; omega
          have q5 : IntKind.i64.wrap ((fr : Int) + (h2 : Int)) = (r : Int) := by rw [IntKind.wrap_i64]; omega
          have hs3 := fun W => slice_both W b 0 n ca fr q h eq.symm l3 (by omega)
          have hs4 := fun W => slice_both W b 0 n ca q r h (by omega) l3 (by omega)
          rw [Nat.zero_add] at hs3 hs4
          have SBS := fun (W : World) (h7 : JR b n (jo (sb F tt h fr) tt fr h h) w W) => show IR b n h F tt w W r from
            ⟨h7.congr fun j _ => by rw [er, HE.out, hc]; have := sb_step F tt h c j; rwa [Nat.succ_mul c (2 * h)] at this, ⟨c + 1, by rw [er, HE.out, hc, Nat.succ_mul c (2 * h)]⟩, by omega⟩
          have SB := Lib.hid SBS
          have JJ := I.j.drew
          have RR := R.but JJ.o
          have C1 := Lib.hid (J1.out fr q h sp (ca - fr) (ca - q) (sb F tt h fr) tt eq (by omega) (FL.out fr) PS.out hsp _ JJ.self RR)
          have hr : r ≤ n := by omega
          have hrf : fr < r := by omega
          clear I hc er eq eh2 nx SBS J1 PS FL
          go_upto_region 7 with fail
          go_region_with (go_at_call 53; refine C1.out.mono ?_; rintro e w8 ⟨rfl, J8⟩)
          all_goals (go_wp2_with fail)
          all_goals go_roundw
          all_goals first
            | exact ⟨r, rfl, SB.out _ (J8.trans JJ.o)⟩
            | (simp [Lib.intOf]; omega)
        · have f1 : ¬ (fr : Int) < n := by omega
          obtain rfl : fr = n := by omega
          have O2 := Lib.hid (EN.out _ I)
          have eh2 := HE.out
          clear I EN
          go_wp2_with fail
          go_roundw
          case rel => exact ⟨h2, by rw [HE.out, Int.natCast_mul]; rfl, O2.out⟩
          case measure => simp [Lib.intOf]; omega
    · have h1 : ¬ (h : Int) < n := by omega
      obtain rfl : s = k := by
        apply Classical.byContradiction
        intro c
        exact hlt (l1.2 (by omega))
      have OK := Lib.hid J
      clear J O HT HS LT MU JN HH l1 hs hh
      go_wp2
      go_end0
      exact ⟨rfl, OK.out⟩
/-- All rounds: the plain transform of a row that was turned about. -/
theorem joinHalves (b n ca k d m c3 : Nat) (T : Option Addr) (hk : k ≤ 20) (hn : n = 2 ^ k) (hm : m = 2 ^ (k - 1)) (hca : n ≤ ca) (x : Nat → Nat) (w : World) (J : JR b n (fun i => x (Rn.tn k 1 i) % 18446744069414584321) w w)
    (R : Wo w b T (rg (fun i => rd k d ^ i % 18446744069414584321) m)) :
    Calls Tryd.prog 43 #[.slice (some ⟨b, 0, none⟩) n ca, .slice T m c3] w fun e w' => e = .returned (.tuple #[]) ∧ JR b n (tf x n (rd k d)) w w' := by
  have hm2 : m ≤ 1048576 := by rw [hm]; exact Nat.le_trans (Nat.pow_le_pow_right (by decide) (by omega)) (show 2 ^ 20 ≤ 1048576 by decide)
  refine (joinHalves_core b n ca k m c3 T _ (rg_len _ _) hk hn hca hm2 (hv x k d) (fun s i => rd (s + 1) d ^ i % 18446744069414584321) (fun s j => hv_lt x k d s j) (fun s j hs => hv_step x k d s hs (by omega) j) (fun s hs => ?_) w (J.congr fun j _ => (hv_zero x k d j).symm) R).mono fun e w' ⟨he, J'⟩ => ⟨he, J'.congr fun j hj => by rw [hn] at hj ⊢; exact hv_all x k d j hj⟩
  obtain ⟨e, he⟩ : ∃ e, k = s + 1 + e := ⟨k - (s + 1), by omega⟩
  have em : m = 2 ^ e * 2 ^ s := by rw [hm, ← Nat.pow_add]; congr 1; omega
  have le : 2 ^ e ≤ 1048576 := Nat.le_trans (Nat.pow_le_pow_right (by decide) (by omega)) (show 2 ^ 20 ≤ 1048576 by decide)
  refine ⟨2 ^ e, le, em, fun i hi => ?_⟩
  have hlt : i * 2 ^ e < m := by rw [em, Nat.mul_comm]; exact Nat.mul_lt_mul_of_pos_left hi (Nat.two_pow_pos e)
  refine ⟨hlt, ?_⟩
  rw [pl_rg _ _ _ hlt, Nat.mul_comm, Nat.pow_mul, ← Nt.pmod, he, rd_pow d (s + 1) e (by omega)]
end Kn
end Go.Proofs.YtfkhnfaammfbeaaDoor
