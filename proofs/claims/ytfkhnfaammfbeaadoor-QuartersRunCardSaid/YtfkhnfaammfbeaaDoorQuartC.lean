/- Contract of package kern4's joinQuarters. -/
import Derived.Test.YtfkhnfaammfbeaaDoorQuartB
set_option linter.unusedVariables false
namespace Go.Proofs.YtfkhnfaammfbeaaDoor
open Go.RowKit Go.Lib Go.Sort
namespace Kq
open Nm Ww Tn Pl Kn

/-- A direction's sign. -/
def sgn (d X : Nat) : Int := if d = 0 then (X : Int) else -(X : Int)
theorem sgn_zero (X : Nat) : sgn 0 X = (X : Int) := if_pos rfl
theorem sgn_one (X : Nat) : sgn 1 X = -(X : Int) := if_neg (by decide)
theorem sgn_mul (d i X : Nat) : (i : Int) * sgn d X = sgn d (i * X) := by
  unfold sgn
  split
  · rw [Int.natCast_mul]
  · rw [Int.natCast_mul, Int.mul_neg]
theorem sgn_in (d X : Nat) (h : X ≤ 4194304) : -4194304 ≤ sgn d X ∧ sgn d X ≤ 4194304 := by
  unfold sgn
  split <;> omega
theorem place (k d X : Nat) (hk : k ≤ 32) (hd : d ≤ 1) (hX : X < 2 ^ k) : ∃ m : Nat, m < 2 ^ k ∧ (∀ la : Nat, la + 1 = 2 ^ k → bits .and .i64 (sgn d X) (la : Int) = (m : Int)) ∧ Nt.rt k ^ m % 18446744069414584321 = rd k d ^ X % 18446744069414584321 := by
  have hp := Nat.two_pow_pos k
  have hd2 : d = 0 ∨ d = 1 := by omega
  rcases hd2 with rfl | rfl
  · refine ⟨X, hX, fun la hl => Bt.mask_i64 _ k X la (by omega) hl hX ?_, pw_dir k 0 X X hk hd (by omega) (Or.inl ⟨rfl, rfl⟩)⟩
    rw [sgn_zero]
    generalize 2 ^ k = N at *
    exact Int.emod_eq_of_lt (by omega) (by omega)
  · by_cases h0 : X = 0
    · subst h0
      refine ⟨0, hp, fun la hl => Bt.mask_i64 _ k 0 la (by omega) hl hp ?_, pw_dir k 1 0 0 hk hd (by omega) (Or.inr ⟨rfl, Or.inr ⟨rfl, rfl⟩⟩)⟩
      rw [sgn_one]
      simp
    · refine ⟨2 ^ k - X, by omega, fun la hl => Bt.mask_i64 _ k (2 ^ k - X) la (by omega) hl (by omega) ?_, pw_dir k 1 X (2 ^ k - X) hk hd (by omega) (Or.inr ⟨rfl, Or.inl (by omega)⟩)⟩
      rw [sgn_one]
      generalize 2 ^ k = N at *
      rw [← Int.add_emod_right (-(X : Int)) (N : Int), Int.emod_eq_of_lt (by omega) (by omega)]
      omega
/-- What a crossing of a round goes by. -/
theorem mk_of (x : Nat → Nat) (k d s h sp N la c fr i : Nat) (hk : k ≤ 20) (hd : d ≤ 1) (hs : s + 2 ≤ k) (hh : h = 2 ^ s) (hsp : sp = 2 ^ (k - s - 2)) (hN : N = 2 ^ k) (hla : la + 1 = N) (hi : i < h) (hfr : fr = c * (4 * h)) :
    ∃ z z2 z3 m1 m2 m3, Mk (sgn d sp) la N (rg (fun j => Nt.rt k ^ j % 18446744069414584321) N) (rd 2 d) (qb (hq x k d s) (hq x k d (s + 2)) fr) (hq x k d (s + 2)) fr (fr + h) (fr + 2 * h) (fr + 3 * h) i z z2 z3 m1 m2 m3 := by
  have e4 : 4 * (h * sp) = 2 ^ k := by rw [hh, hsp, ← Nat.pow_add, show 4 = 2 ^ 2 from rfl, ← Nat.pow_add, show 2 + (s + (k - s - 2)) = k by omega]
  have hlt : i * sp < h * sp := Nat.mul_lt_mul_of_pos_right hi (by rw [hsp]; exact Nat.two_pow_pos _)
  have hle : 2 ^ k ≤ 1048576 := Nat.le_trans (Nat.pow_le_pow_right (by decide) hk) (show 2 ^ 20 ≤ 1048576 by decide)
  obtain ⟨X, hX⟩ : ∃ X, X = i * sp := ⟨_, rfl⟩
  obtain ⟨Y, hY⟩ : ∃ Y, Y = h * sp := ⟨_, rfl⟩
  rw [← hX, ← hY] at hlt
  rw [← hY] at e4
  obtain ⟨m1, l1, a1, p1⟩ := place k d X (by omega) hd (by omega)
  obtain ⟨m2, l2, a2, p2⟩ := place k d (2 * X) (by omega) hd (by omega)
  obtain ⟨m3, l3, a3, p3⟩ := place k d (3 * X) (by omega) hd (by omega)
  have r1 : rd k d ^ X % 18446744069414584321 = rd (s + 2) d ^ i % 18446744069414584321 := by rw [hX, hsp, Nat.mul_comm i]; exact pw_round k d s i hs (by omega)
  have r2 : rd k d ^ (2 * X) % 18446744069414584321 = rd (s + 2) d ^ (2 * i) % 18446744069414584321 := by rw [hX, hsp, ← Nat.mul_assoc, Nat.mul_comm (2 * i)]; exact pw_round k d s (2 * i) hs (by omega)
  have r3 : rd k d ^ (3 * X) % 18446744069414584321 = rd (s + 2) d ^ (3 * i) % 18446744069414584321 := by rw [hX, hsp, ← Nat.mul_assoc, Nat.mul_comm (3 * i)]; exact pw_round k d s (3 * i) hs (by omega)
  have g1 : Pn.pl (rg (fun j => Nt.rt k ^ j % 18446744069414584321) N) m1 = rd (s + 2) d ^ i % 18446744069414584321 := by rw [pl_rg _ _ _ (by omega), p1, r1]
  have g2 : Pn.pl (rg (fun j => Nt.rt k ^ j % 18446744069414584321) N) m2 = rd (s + 2) d ^ (2 * i) % 18446744069414584321 := by rw [pl_rg _ _ _ (by omega), p2, r2]
  have g3 : Pn.pl (rg (fun j => Nt.rt k ^ j % 18446744069414584321) N) m3 = rd (s + 2) d ^ (3 * i) % 18446744069414584321 := by rw [pl_rg _ _ _ (by omega), p3, r3]
  obtain ⟨cA', cB', cC', cD'⟩ := qr_cross (hq x k d s) s d c fr h i (by omega) hh hi hfr _ _ _ g1 g2 g3 (hq x k d (s + 2)) (hq_two x k d s hs (by omega) h hh).symm
  have q : ∀ j, fr ≤ j → qb (hq x k d s) (hq x k d (s + 2)) fr j = hq x k d s j := fun j hj => qb_far _ _ _ _ hj
  have s1 := sgn_in d X (by omega)
  have s2 := sgn_in d (2 * X) (by omega)
  have s3 := sgn_in d (3 * X) (by omega)
  refine ⟨sgn d X, sgn d (2 * X), sgn d (3 * X), m1, m2, m3, ⟨?_, ?_, ?_, a1 la (by omega), a2 la (by omega), a3 la (by omega), by omega, by omega, by omega, ?_, ?_, ?_, ?_⟩⟩
  · rw [sgn_mul, ← hX]; exact IntWalk.i64_in _ (by omega)
  · rw [show (2 : Int) * sgn d X = sgn d (2 * X) from sgn_mul d 2 X]; exact IntWalk.i64_in _ (by omega)
  · rw [show (3 : Int) * sgn d X = sgn d (3 * X) from sgn_mul d 3 X]; exact IntWalk.i64_in _ (by omega)
  · rw [q _ (by omega), q _ (by omega), q _ (by omega), q _ (by omega)]; exact cA'
  · rw [q _ (by omega), q _ (by omega), q _ (by omega), q _ (by omega)]; exact cB'
  · rw [q _ (by omega), q _ (by omega), q _ (by omega), q _ (by omega)]; exact cC'
  · rw [q _ (by omega), q _ (by omega), q _ (by omega), q _ (by omega)]; exact cD'

/-- The loop's relation. -/
structure QR (b n L : Nat) (F G : Nat → Nat) (w wr : World) (fr : Nat) : Prop where
  j : JR b n (qb F G fr) w wr
  c : ∃ c, fr = c * L
  l : fr ≤ n

set_option maxHeartbeats 2000000 in
set_option maxRecDepth 100000 in
theorem joinQuarters_fwd (b n ca h L sp e N la u : Nat) (bt ot p : Nat) (ps : List Nat) (F G : Nat → Nat) (v0 v2 : Value) (eL : L = 4 * h) (h0 : 0 < h) (hn0 : 0 < n) (he : n = e * L) (hsp : n = sp * L)
    (hl : n ≤ 1048576) (hca : n ≤ ca) (hN : la + 1 = N) (hNl : N ≤ 1048576) (hps : ps.length = N) (hF : ∀ j, F j < 18446744073709551616) (hG : ∀ j, G j < 18446744073709551616) (hu : u < 18446744073709551616)
    (hM : ∀ c fr, fr = c * (4 * h) → ∀ i, i < h → ∃ z z2 z3 m1 m2 m3, Mk (sp : Int) la N ps u (qb F G fr) G fr (fr + h) (fr + 2 * h) (fr + 3 * h) i z z2 z3 m1 m2 m3)
    (w : World) (C : Cq w p v0 (.slice (some ⟨bt, ot, none⟩) N N) v2) (hp : p ≠ b) (J : JR b n F w w) (R : Wo w b (some ⟨bt, ot, none⟩) ps) :
    Calls Tryd.prog 26 #[.pointer (some ⟨p, 0, none⟩), .slice (some ⟨b, 0, none⟩) n ca, .int .i64 (h : Int), .int .u64 (u : Nat), .int .i64 0] w fun e w' => e = .returned (.tuple #[]) ∧ JR b n G w w' := by
  have JN := Lib.hid (fun (fr : Nat) (hr : fr + L ≤ n) (hc : ∃ c, fr = c * (4 * h)) (W : World) (K : JR b n (qb F G fr) w W) => show Calls Tryd.prog 45 #[.pointer (some ⟨p, 0, none⟩), .slice (some ⟨b, fr, none⟩) L (ca - fr), .int .u64 (u : Nat), .int .i64 (sp : Int)] W fun e w' => e = .returned (.tuple #[]) ∧ JR b n (qb F G (fr + L)) w w' from by
    obtain ⟨c, hc⟩ := hc
    have hq : ∀ j, qb F G fr j < 18446744073709551616 := fun j => by unfold qb; split; exact hG j; exact hF j
    refine (join b fr (fr + h) (fr + 2 * h) (fr + 3 * h) h (2 * h) (3 * h) L n (ca - fr) N la u bt ot p ps (sp : Int) (qb F G fr) G v0 v2 rfl rfl rfl rfl rfl eL hr (by omega) h0 hl hN hNl hps hq hu (hM c fr hc) W (C.but hp K.o) hp K.self (R.but K.o)).mono fun e w' ⟨h1, h2⟩ => ⟨h1, ?_⟩
    exact (h2.congr fun j _ => by rw [qb_step F G fr h j, ← eL]).trans K.o)
  have MU := Lib.hid (fun c (hc : c * L < n) => show (c + 1) * L ≤ n by
    rw [he] at hc ⊢
    exact Nat.mul_le_mul_right _ (Nat.lt_of_mul_lt_mul_right hc))
  have ST := Lib.hid (show QR b n L F G w w 0 from ⟨by rw [qb_zero]; exact J, ⟨0, by rw [Nat.zero_mul]⟩, Nat.zero_le _⟩)
  have EN := Lib.hid (fun W (I : QR b n L F G w W n) => show JR b n G w W from I.j.congr fun j hj => qb_all F G n j hj)
  have hL0 : 0 < L := by omega
  have hsl : sp ≤ n := by rw [hsp]; exact Nat.le_mul_of_pos_right _ hL0
  have b0 : ((L : Int) == 0) = false := by rw [beq_eq_false_iff_ne]; omega
  have b1 : ¬ (L : Int) = 0 := by omega
  have d1 : (n : Int).tdiv (L : Int) = (sp : Int) := by rw [Int.tdiv_eq_ediv_of_nonneg (by omega), hsp, Int.natCast_mul, Int.mul_ediv_cancel _ b1]
  have d2 : (n : Int) / (L : Int) = (sp : Int) := by rw [hsp, Int.natCast_mul, Int.mul_ediv_cancel _ b1]
  have d3 : IntKind.i64.wrap (sp : Int) = (sp : Int) := IntWalk.i64_in _ (by omega)
  have hL2 : L ≤ 4194304 ∨ n = 0 := by
    by_cases hn : n = 0
    · exact Or.inr hn
    · refine Or.inl (Nat.le_trans ?_ (Nat.le_trans hl (by decide)))
      rw [he]
      refine Nat.le_mul_of_pos_left _ (Nat.pos_of_ne_zero fun h => hn (by rw [he, h, Nat.zero_mul]))
  have hb4 : L ≤ 4194304 := hL2.resolve_right (by omega)
  have d4 : IntKind.i64.wrap (4 * (h : Int)) = (L : Int) := by rw [IntKind.wrap_i64]; omega
  have d5 : IntKind.i64.wrap ((h : Int) * 4) = (L : Int) := by rw [IntKind.wrap_i64]; omega
  have EL := Lib.hid eL
  clear hM hF hG hu he hsp hps hN C hp J R eL hL2
  go_enter Tryd.func26, Tryd.ntmps26
  go_wp2_with fail
  go_loopw [11] (fun v11 wr => ∃ fr : Nat, v11 = .int .i64 (fr : Int) ∧ QR b n L F G w wr fr) (fun v11 _ => n - (Lib.intOf v11).toNat)
  case atStart => exact ⟨0, rfl, ST.out⟩
  case round =>
    obtain ⟨fr, rfl, I⟩ := hrel
    clear ST
    have fl := I.l
    by_cases hf : fr < n
    · have f1 : (fr : Int) < n := by omega
      obtain ⟨c, hc⟩ := I.c
      have nx : fr + L ≤ n := by have := MU.out c (by omega); rw [Nat.succ_mul c L, ← hc] at this; exact this
      obtain ⟨r, er⟩ : ∃ r, r = fr + L := ⟨_, rfl⟩
      have q5 : IntKind.i64.wrap ((fr : Int) + (L : Int)) = (r : Int) := by rw [IntKind.wrap_i64]; omega
      have sl := fun W => slice_both W b 0 n ca fr r L er.symm hL0 (by omega)
      rw [Nat.zero_add] at sl
      have C1 := Lib.hid (JN.out fr nx ⟨c, by rw [← EL.out]; exact hc⟩ wr I.j)
      have NX := Lib.hid (fun W (K : JR b n (qb F G (fr + L)) w W) => show QR b n L F G w W r from ⟨by rw [er]; exact K, ⟨c + 1, by rw [er, hc, Nat.succ_mul]⟩, by omega⟩)
      have hrf : fr < r := by omega
      have hrn : r ≤ n := by omega
      clear JN MU I hc nx er EN
      go_wp2_with fail
      refine C1.out.mono ?_
      rintro e w8 ⟨rfl, J8⟩
      have I8 := Lib.hid (NX.out _ J8)
      clear J8 C1 NX
      go_wp2_with fail
      go_roundw
      case rel => exact ⟨r, rfl, I8.out⟩
      case measure => simp [Lib.intOf]; omega
    · have f1 : ¬ (fr : Int) < n := by omega
      obtain rfl : fr = n := by omega
      have OK := Lib.hid (EN.out _ I)
      clear I EN JN MU
      go_wp2
      exact bodyPost_end (v := .tuple #[]) (by simp [results, Tryd.results26, go_sem]) rfl ⟨rfl, OK.out⟩

set_option maxHeartbeats 2000000 in
set_option maxRecDepth 100000 in
theorem joinQuarters_inv (b n ca h L sp e N la u : Nat) (bt ot p : Nat) (ps : List Nat) (z0 : Int) (F G : Nat → Nat) (v0 v2 : Value) (hz : z0 = (-(sp : Int))) (eL : L = 4 * h) (h0 : 0 < h) (hn0 : 0 < n) (he : n = e * L) (hsp : n = sp * L)
    (hl : n ≤ 1048576) (hca : n ≤ ca) (hN : la + 1 = N) (hNl : N ≤ 1048576) (hps : ps.length = N) (hF : ∀ j, F j < 18446744073709551616) (hG : ∀ j, G j < 18446744073709551616) (hu : u < 18446744073709551616)
    (hM : ∀ c fr, fr = c * (4 * h) → ∀ i, i < h → ∃ z z2 z3 m1 m2 m3, Mk z0 la N ps u (qb F G fr) G fr (fr + h) (fr + 2 * h) (fr + 3 * h) i z z2 z3 m1 m2 m3)
    (w : World) (C : Cq w p v0 (.slice (some ⟨bt, ot, none⟩) N N) v2) (hp : p ≠ b) (J : JR b n F w w) (R : Wo w b (some ⟨bt, ot, none⟩) ps) :
    Calls Tryd.prog 26 #[.pointer (some ⟨p, 0, none⟩), .slice (some ⟨b, 0, none⟩) n ca, .int .i64 (h : Int), .int .u64 (u : Nat), .int .i64 1] w fun e w' => e = .returned (.tuple #[]) ∧ JR b n G w w' := by
  have JN := Lib.hid (fun (fr : Nat) (hr : fr + L ≤ n) (hc : ∃ c, fr = c * (4 * h)) (W : World) (K : JR b n (qb F G fr) w W) => show Calls Tryd.prog 45 #[.pointer (some ⟨p, 0, none⟩), .slice (some ⟨b, fr, none⟩) L (ca - fr), .int .u64 (u : Nat), .int .i64 z0] W fun e w' => e = .returned (.tuple #[]) ∧ JR b n (qb F G (fr + L)) w w' from by
    obtain ⟨c, hc⟩ := hc
    have hq : ∀ j, qb F G fr j < 18446744073709551616 := fun j => by unfold qb; split; exact hG j; exact hF j
    refine (join b fr (fr + h) (fr + 2 * h) (fr + 3 * h) h (2 * h) (3 * h) L n (ca - fr) N la u bt ot p ps z0 (qb F G fr) G v0 v2 rfl rfl rfl rfl rfl eL hr (by omega) h0 hl hN hNl hps hq hu (hM c fr hc) W (C.but hp K.o) hp K.self (R.but K.o)).mono fun e w' ⟨h1, h2⟩ => ⟨h1, ?_⟩
    exact (h2.congr fun j _ => by rw [qb_step F G fr h j, ← eL]).trans K.o)
  have MU := Lib.hid (fun c (hc : c * L < n) => show (c + 1) * L ≤ n by
    rw [he] at hc ⊢
    exact Nat.mul_le_mul_right _ (Nat.lt_of_mul_lt_mul_right hc))
  have ST := Lib.hid (show QR b n L F G w w 0 from ⟨by rw [qb_zero]; exact J, ⟨0, by rw [Nat.zero_mul]⟩, Nat.zero_le _⟩)
  have EN := Lib.hid (fun W (I : QR b n L F G w W n) => show JR b n G w W from I.j.congr fun j hj => qb_all F G n j hj)
  have hL0 : 0 < L := by omega
  have hsl : sp ≤ n := by rw [hsp]; exact Nat.le_mul_of_pos_right _ hL0
  have b0 : ((L : Int) == 0) = false := by rw [beq_eq_false_iff_ne]; omega
  have b1 : ¬ (L : Int) = 0 := by omega
  have d1 : (n : Int).tdiv (L : Int) = (sp : Int) := by rw [Int.tdiv_eq_ediv_of_nonneg (by omega), hsp, Int.natCast_mul, Int.mul_ediv_cancel _ b1]
  have d2 : (n : Int) / (L : Int) = (sp : Int) := by rw [hsp, Int.natCast_mul, Int.mul_ediv_cancel _ b1]
  have d3 : IntKind.i64.wrap (sp : Int) = (sp : Int) := IntWalk.i64_in _ (by omega)
  have hL2 : L ≤ 4194304 ∨ n = 0 := by
    by_cases hn : n = 0
    · exact Or.inr hn
    · refine Or.inl (Nat.le_trans ?_ (Nat.le_trans hl (by decide)))
      rw [he]
      refine Nat.le_mul_of_pos_left _ (Nat.pos_of_ne_zero fun h => hn (by rw [he, h, Nat.zero_mul]))
  have hb4 : L ≤ 4194304 := hL2.resolve_right (by omega)
  have d4 : IntKind.i64.wrap (4 * (h : Int)) = (L : Int) := by rw [IntKind.wrap_i64]; omega
  have d5 : IntKind.i64.wrap ((h : Int) * 4) = (L : Int) := by rw [IntKind.wrap_i64]; omega
  have n1 : IntKind.i64.wrap (-(sp : Int)) = z0 := by rw [hz, IntKind.wrap_i64]; omega
  have EL := Lib.hid eL
  clear hM hF hG hu he hsp hps hN C hp J R eL hL2 hz
  go_enter Tryd.func26, Tryd.ntmps26
  go_wp2_with fail
  go_loopw [11] (fun v11 wr => ∃ fr : Nat, v11 = .int .i64 (fr : Int) ∧ QR b n L F G w wr fr) (fun v11 _ => n - (Lib.intOf v11).toNat)
  case atStart => exact ⟨0, rfl, ST.out⟩
  case round =>
    obtain ⟨fr, rfl, I⟩ := hrel
    clear ST
    have fl := I.l
    by_cases hf : fr < n
    · have f1 : (fr : Int) < n := by omega
      obtain ⟨c, hc⟩ := I.c
      have nx : fr + L ≤ n := by have := MU.out c (by omega); rw [Nat.succ_mul c L, ← hc] at this; exact this
      obtain ⟨r, er⟩ : ∃ r, r = fr + L := ⟨_, rfl⟩
      have q5 : IntKind.i64.wrap ((fr : Int) + (L : Int)) = (r : Int) := by rw [IntKind.wrap_i64]; omega
      have sl := fun W => slice_both W b 0 n ca fr r L er.symm hL0 (by omega)
      rw [Nat.zero_add] at sl
      have C1 := Lib.hid (JN.out fr nx ⟨c, by rw [← EL.out]; exact hc⟩ wr I.j)
      have NX := Lib.hid (fun W (K : JR b n (qb F G (fr + L)) w W) => show QR b n L F G w W r from ⟨by rw [er]; exact K, ⟨c + 1, by rw [er, hc, Nat.succ_mul]⟩, by omega⟩)
      have hrf : fr < r := by omega
      have hrn : r ≤ n := by omega
      clear JN MU I hc nx er EN
      go_wp2_with fail
      refine C1.out.mono ?_
      rintro e w8 ⟨rfl, J8⟩
      have I8 := Lib.hid (NX.out _ J8)
      clear J8 C1 NX
      go_wp2_with fail
      go_roundw
      case rel => exact ⟨r, rfl, I8.out⟩
      case measure => simp [Lib.intOf]; omega
    · have f1 : ¬ (fr : Int) < n := by omega
      obtain rfl : fr = n := by omega
      have OK := Lib.hid (EN.out _ I)
      clear I EN JN MU
      go_wp2
      exact bodyPost_end (v := .tuple #[]) (by simp [results, Tryd.results26, go_sem]) rfl ⟨rfl, OK.out⟩
end Kq
end Go.Proofs.YtfkhnfaammfbeaaDoor
