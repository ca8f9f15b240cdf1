/- Contract of package kern4's joinQuarters. / Contracts of package kern4: New, Plain. / Contracts of package kern4: Plain and Run, as the document says them. -/
import Derived.Test.YtnnieiedkjekpaaDoorQuartB
set_option linter.unusedVariables false
namespace Go.Proofs.YtnnieiedkjekpaaDoor
open Go.RowKit Go.Lib Go.Sort
namespace Kq
open Nm Ww Tn Pl Kn

/-- A direction's sign. -/
def sgn (d X : Nat) : Int := if d = 0 then (X : Int) else -(X : Int)
theorem sgn_zero (X : Nat) : sgn 0 X = (X : Int) := if_pos rfl
theorem sgn_one (X : Nat) : sgn 1 X = -(X : Int) := if_neg (by decide)
theorem sgn_mul (d i X : Nat) : (i : Int) * sgn d X = sgn d (i * X) := by
  unfold sgn
  split
  · rw [Int.natCast_mul]
  · rw [Int.natCast_mul, Int.mul_neg]
theorem sgn_in (d X : Nat) (h : X ≤ 4194304) : -4194304 ≤ sgn d X ∧ sgn d X ≤ 4194304 := by
  unfold sgn
  split <;> omega
theorem place (k d X : Nat) (hk : k ≤ 32) (hd : d ≤ 1) (hX : X < 2 ^ k) : ∃ m : Nat, m < 2 ^ k ∧ (∀ la : Nat, la + 1 = 2 ^ k → bits .and .i64 (sgn d X) (la : Int) = (m : Int)) ∧ Nt.rt k ^ m % 18446744069414584321 = rd k d ^ X % 18446744069414584321 := by
  have hp := Nat.two_pow_pos k
  have hd2 : d = 0 ∨ d = 1 := by omega
  rcases hd2 with rfl | rfl
  · refine ⟨X, hX, fun la hl => Bt.mask_i64 _ k X la (by omega) hl hX ?_, pw_dir k 0 X X hk hd (by omega) (Or.inl ⟨rfl, rfl⟩)⟩
    rw [sgn_zero]
    generalize 2 ^ k = N at *
    exact Int.emod_eq_of_lt (by omega) (by omega)
  · by_cases h0 : X = 0
    · subst h0
      refine ⟨0, hp, fun la hl => Bt.mask_i64 _ k 0 la (by omega) hl hp ?_, pw_dir k 1 0 0 hk hd (by omega) (Or.inr ⟨rfl, Or.inr ⟨rfl, rfl⟩⟩)⟩
      rw [sgn_one]
      simp
    · refine ⟨2 ^ k - X, by omega, fun la hl => Bt.mask_i64 _ k (2 ^ k - X) la (by omega) hl (by omega) ?_, pw_dir k 1 X (2 ^ k - X) hk hd (by omega) (Or.inr ⟨rfl, Or.inl (by omega)⟩)⟩
      rw [sgn_one]
      generalize 2 ^ k = N at *
      rw [← Int.add_emod_right (-(X : Int)) (N : Int), Int.emod_eq_of_lt (by omega) (by omega)]
      omega
/-- What a crossing of a round goes by. -/
theorem mk_of (x : Nat → Nat) (k d s h sp N la c fr i : Nat) (hk : k ≤ 20) (hd : d ≤ 1) (hs : s + 2 ≤ k) (hh : h = 2 ^ s) (hsp : sp = 2 ^ (k - s - 2)) (hN : N = 2 ^ k) (hla : la + 1 = N) (hi : i < h) (hfr : fr = c * (4 * h)) :
    ∃ z z2 z3 m1 m2 m3, Mk (sgn d sp) la N (rg (fun j => Nt.rt k ^ j % 18446744069414584321) N) (rd 2 d) (qb (hq x k d s) (hq x k d (s + 2)) fr) (hq x k d (s + 2)) fr (fr + h) (fr + 2 * h) (fr + 3 * h) i z z2 z3 m1 m2 m3 := by
  have e4 : 4 * (h * sp) = 2 ^ k := by rw [hh, hsp, ← Nat.pow_add, show 4 = 2 ^ 2 from rfl, ← Nat.pow_add, show 2 + (s + (k - s - 2)) = k by omega]
  have hlt : i * sp < h * sp := Nat.mul_lt_mul_of_pos_right hi (by rw [hsp]; exact Nat.two_pow_pos _)
  have hle : 2 ^ k ≤ 1048576 := Nat.le_trans (Nat.pow_le_pow_right (by decide) hk) (show 2 ^ 20 ≤ 1048576 by decide)
  obtain ⟨X, hX⟩ : ∃ X, X = i * sp := ⟨_, rfl⟩
  obtain ⟨Y, hY⟩ : ∃ Y, Y = h * sp := ⟨_, rfl⟩
  rw [← hX, ← hY] at hlt
  rw [← hY] at e4
  obtain ⟨m1, l1, a1, p1⟩ := place k d X (by omega) hd (by omega)
  obtain ⟨m2, l2, a2, p2⟩ := place k d (2 * X) (by omega) hd (by omega)
  obtain ⟨m3, l3, a3, p3⟩ := place k d (3 * X) (by omega) hd (by omega)
  have r1 : rd k d ^ X % 18446744069414584321 = rd (s + 2) d ^ i % 18446744069414584321 := by rw [hX, hsp, Nat.mul_comm i]; exact pw_round k d s i hs (by omega)
  have r2 : rd k d ^ (2 * X) % 18446744069414584321 = rd (s + 2) d ^ (2 * i) % 18446744069414584321 := by rw [hX, hsp, ← Nat.mul_assoc, Nat.mul_comm (2 * i)]; exact pw_round k d s (2 * i) hs (by omega)
  have r3 : rd k d ^ (3 * X) % 18446744069414584321 = rd (s + 2) d ^ (3 * i) % 18446744069414584321 := by rw [hX, hsp, ← Nat.mul_assoc, Nat.mul_comm (3 * i)]; exact pw_round k d s (3 * i) hs (by omega)
  have g1 : Pn.pl (rg (fun j => Nt.rt k ^ j % 18446744069414584321) N) m1 = rd (s + 2) d ^ i % 18446744069414584321 := by rw [pl_rg _ _ _ (by omega), p1, r1]
  have g2 : Pn.pl (rg (fun j => Nt.rt k ^ j % 18446744069414584321) N) m2 = rd (s + 2) d ^ (2 * i) % 18446744069414584321 := by rw [pl_rg _ _ _ (by omega), p2, r2]
  have g3 : Pn.pl (rg (fun j => Nt.rt k ^ j % 18446744069414584321) N) m3 = rd (s + 2) d ^ (3 * i) % 18446744069414584321 := by rw [pl_rg _ _ _ (by omega), p3, r3]
  obtain ⟨cA', cB', cC', cD'⟩ := qr_cross (hq x k d s) s d c fr h i (by omega) hh hi hfr _ _ _ g1 g2 g3 (hq x k d (s + 2)) (hq_two x k d s hs (by omega) h hh).symm
  have q : ∀ j, fr ≤ j → qb (hq x k d s) (hq x k d (s + 2)) fr j = hq x k d s j := fun j hj => qb_far _ _ _ _ hj
  have s1 := sgn_in d X (by omega)
  have s2 := sgn_in d (2 * X) (by omega)
  have s3 := sgn_in d (3 * X) (by omega)
  refine ⟨sgn d X, sgn d (2 * X), sgn d (3 * X), m1, m2, m3, ⟨?_, ?_, ?_, a1 la (by omega), a2 la (by omega), a3 la (by omega), by omega, by omega, by omega, ?_, ?_, ?_, ?_⟩⟩
  · rw [sgn_mul, ← hX]; exact IntWalk.i64_in _ (by omega)
  · rw [show (2 : Int) * sgn d X = sgn d (2 * X) from sgn_mul d 2 X]; exact IntWalk.i64_in _ (by omega)
  · rw [show (3 : Int) * sgn d X = sgn d (3 * X) from sgn_mul d 3 X]; exact IntWalk.i64_in _ (by omega)
  · rw [q _ (by omega), q _ (by omega), q _ (by omega), q _ (by omega)]; exact cA'
  · rw [q _ (by omega), q _ (by omega), q _ (by omega), q _ (by omega)]; exact cB'
  · rw [q _ (by omega), q _ (by omega), q _ (by omega), q _ (by omega)]; exact cC'
  · rw [q _ (by omega), q _ (by omega), q _ (by omega), q _ (by omega)]; exact cD'

/-- The loop's relation. -/
structure QR (b n L : Nat) (F G : Nat → Nat) (w wr : World) (fr : Nat) : Prop where
  j : JR b n (qb F G fr) w wr
  c : ∃ c, fr = c * L
  l : fr ≤ n

set_option maxHeartbeats 2000000 in
set_option maxRecDepth 100000 in
theorem joinQuarters_fwd (b n ca h L sp e N la u : Nat) (bt ot p : Nat) (ps : List Nat) (F G : Nat → Nat) (v0 v2 : Value) (eL : L = 4 * h) (h0 : 0 < h) (hn0 : 0 < n) (he : n = e * L) (hsp : n = sp * L)
    (hl : n ≤ 1048576) (hca : n ≤ ca) (hN : la + 1 = N) (hNl : N ≤ 1048576) (hps : ps.length = N) (hF : ∀ j, F j < 18446744073709551616) (hG : ∀ j, G j < 18446744073709551616) (hu : u < 18446744073709551616)
    (hM : ∀ c fr, fr = c * (4 * h) → ∀ i, i < h → ∃ z z2 z3 m1 m2 m3, Mk (sp : Int) la N ps u (qb F G fr) G fr (fr + h) (fr + 2 * h) (fr + 3 * h) i z z2 z3 m1 m2 m3)
    (w : World) (C : Cq w p v0 (.slice (some ⟨bt, ot, none⟩) N N) v2) (hp : p ≠ b) (J : JR b n F w w) (R : Wo w b (some ⟨bt, ot, none⟩) ps) :
    Calls Tryd.prog 76 #[.pointer (some ⟨p, 0, none⟩), .slice (some ⟨b, 0, none⟩) n ca, .int .i64 (h : Int), .int .u64 (u : Nat), .int .i64 0] w fun e w' => e = .returned (.tuple #[]) ∧ JR b n G w w' := by
  have JN := Lib.hid (fun (fr : Nat) (hr : fr + L ≤ n) (hc : ∃ c, fr = c * (4 * h)) (W : World) (K : JR b n (qb F G fr) w W) => show Calls Tryd.prog 83 #[.pointer (some ⟨p, 0, none⟩), .slice (some ⟨b, fr, none⟩) L (ca - fr), .int .u64 (u : Nat), .int .i64 (sp : Int)] W fun e w' => e = .returned (.tuple #[]) ∧ JR b n (qb F G (fr + L)) w w' from by
    obtain ⟨c, hc⟩ := hc
    have hq : ∀ j, qb F G fr j < 18446744073709551616 := fun j => by unfold qb; split; exact hG j; exact hF j
    refine (join b fr (fr + h) (fr + 2 * h) (fr + 3 * h) h (2 * h) (3 * h) L n (ca - fr) N la u bt ot p ps (sp : Int) (qb F G fr) G v0 v2 rfl rfl rfl rfl rfl eL hr (by omega) h0 hl hN hNl hps hq hu (hM c fr hc) W (C.but hp K.o) hp K.self (R.but K.o)).mono fun e w' ⟨h1, h2⟩ => ⟨h1, ?_⟩
    exact (h2.congr fun j _ => by rw [qb_step F G fr h j, ← eL]).trans K.o)
  have MU := Lib.hid (fun c (hc : c * L < n) => show (c + 1) * L ≤ n by
    rw [he] at hc ⊢
    exact Nat.mul_le_mul_right _ (Nat.lt_of_mul_lt_mul_right hc))
  have ST := Lib.hid (show QR b n L F G w w 0 from ⟨by rw [qb_zero]; exact J, ⟨0, by rw [Nat.zero_mul]⟩, Nat.zero_le _⟩)
  have EN := Lib.hid (fun W (I : QR b n L F G w W n) => show JR b n G w W from I.j.congr fun j hj => qb_all F G n j hj)
  have hL0 : 0 < L := by omega
  have hsl : sp ≤ n := by rw [hsp]; exact Nat.le_mul_of_pos_right _ hL0
  have b0 : ((L : Int) == 0) = false := by rw [beq_eq_false_iff_ne]; omega
  have b1 : ¬ (L : Int) = 0 := by omega
  have d1 : (n : Int).tdiv (L : Int) = (sp : Int) := by rw [Int.tdiv_eq_ediv_of_nonneg (by omega), hsp, Int.natCast_mul, Int.mul_ediv_cancel _ b1]
  have d2 : (n : Int) / (L : Int) = (sp : Int) := by rw [hsp, Int.natCast_mul, Int.mul_ediv_cancel _ b1]
  have d3 : IntKind.i64.wrap (sp : Int) = (sp : Int) := IntWalk.i64_in _ (by omega)
  have hL2 : L ≤ 4194304 ∨ n = 0 := by
    by_cases hn : n = 0
    · exact Or.inr hn
    · refine Or.inl (Nat.le_trans ?_ (Nat.le_trans hl (by decide)))
      rw [he]
      refine Nat.le_mul_of_pos_left _ (Nat.pos_of_ne_zero fun h => hn (by rw [he, h, Nat.zero_mul]))
  have hb4 : L ≤ 4194304 := hL2.resolve_right (by omega)
  have d4 : IntKind.i64.wrap (4 * (h : Int)) = (L : Int) := by rw [IntKind.wrap_i64]; omega
  have d5 : IntKind.i64.wrap ((h : Int) * 4) = (L : Int) := by rw [IntKind.wrap_i64]; omega
  have EL := Lib.hid eL
  clear hM hF hG hu he hsp hps hN C hp J R eL hL2
  go_enter Tryd.func76, Tryd.ntmps76
  go_wp2_with fail
  go_loopw [11] (fun v11 wr => ∃ fr : Nat, v11 = .int .i64 (fr : Int) ∧ QR b n L F G w wr fr) (fun v11 _ => n - (Lib.intOf v11).toNat)
  case atStart => exact ⟨0, rfl, ST.out⟩
  case round =>
    obtain ⟨fr, rfl, I⟩ := hrel
    clear ST
    have fl := I.l
    by_cases hf : fr < n
    · have f1 : (fr : Int) < n := by omega
      obtain ⟨c, hc⟩ := I.c
      have nx : fr + L ≤ n := by have := MU.out c (by omega); rw [Nat.succ_mul c L, ← hc] at this; exact this
      obtain ⟨r, er⟩ : ∃ r, r = fr + L := ⟨_, rfl⟩
      have q5 : IntKind.i64.wrap ((fr : Int) + (L : Int)) = (r : Int) := by rw [IntKind.wrap_i64]; omega
      have sl := fun W => slice_both W b 0 n ca fr r L er.symm hL0 (by omega)
      rw [Nat.zero_add] at sl
      have C1 := Lib.hid (JN.out fr nx ⟨c, by rw [← EL.out]; exact hc⟩ wr I.j)
      have NX := Lib.hid (fun W (K : JR b n (qb F G (fr + L)) w W) => show QR b n L F G w W r from ⟨by rw [er]; exact K, ⟨c + 1, by rw [er, hc, Nat.succ_mul]⟩, by omega⟩)
      have hrf : fr < r := by omega
      have hrn : r ≤ n := by omega
      clear JN MU I hc nx er EN
      go_wp2_with fail
      refine C1.out.mono ?_
      rintro e w8 ⟨rfl, J8⟩
      have I8 := Lib.hid (NX.out _ J8)
      clear J8 C1 NX
      go_wp2_with fail
      go_roundw
      case rel => exact ⟨r, rfl, I8.out⟩
      case measure => simp [Lib.intOf]; omega
    · have f1 : ¬ (fr : Int) < n := by omega
      obtain rfl : fr = n := by omega
      have OK := Lib.hid (EN.out _ I)
      clear I EN JN MU
      go_wp2
      exact bodyPost_end (v := .tuple #[]) (by simp [results, Tryd.results76, go_sem]) rfl ⟨rfl, OK.out⟩

set_option maxHeartbeats 2000000 in
set_option maxRecDepth 100000 in
theorem joinQuarters_inv (b n ca h L sp e N la u : Nat) (bt ot p : Nat) (ps : List Nat) (z0 : Int) (F G : Nat → Nat) (v0 v2 : Value) (hz : z0 = (-(sp : Int))) (eL : L = 4 * h) (h0 : 0 < h) (hn0 : 0 < n) (he : n = e * L) (hsp : n = sp * L)
    (hl : n ≤ 1048576) (hca : n ≤ ca) (hN : la + 1 = N) (hNl : N ≤ 1048576) (hps : ps.length = N) (hF : ∀ j, F j < 18446744073709551616) (hG : ∀ j, G j < 18446744073709551616) (hu : u < 18446744073709551616)
    (hM : ∀ c fr, fr = c * (4 * h) → ∀ i, i < h → ∃ z z2 z3 m1 m2 m3, Mk z0 la N ps u (qb F G fr) G fr (fr + h) (fr + 2 * h) (fr + 3 * h) i z z2 z3 m1 m2 m3)
    (w : World) (C : Cq w p v0 (.slice (some ⟨bt, ot, none⟩) N N) v2) (hp : p ≠ b) (J : JR b n F w w) (R : Wo w b (some ⟨bt, ot, none⟩) ps) :
    Calls Tryd.prog 76 #[.pointer (some ⟨p, 0, none⟩), .slice (some ⟨b, 0, none⟩) n ca, .int .i64 (h : Int), .int .u64 (u : Nat), .int .i64 1] w fun e w' => e = .returned (.tuple #[]) ∧ JR b n G w w' := by
  have JN := Lib.hid (fun (fr : Nat) (hr : fr + L ≤ n) (hc : ∃ c, fr = c * (4 * h)) (W : World) (K : JR b n (qb F G fr) w W) => show Calls Tryd.prog 83 #[.pointer (some ⟨p, 0, none⟩), .slice (some ⟨b, fr, none⟩) L (ca - fr), .int .u64 (u : Nat), .int .i64 z0] W fun e w' => e = .returned (.tuple #[]) ∧ JR b n (qb F G (fr + L)) w w' from by
    obtain ⟨c, hc⟩ := hc
    have hq : ∀ j, qb F G fr j < 18446744073709551616 := fun j => by unfold qb; split; exact hG j; exact hF j
    refine (join b fr (fr + h) (fr + 2 * h) (fr + 3 * h) h (2 * h) (3 * h) L n (ca - fr) N la u bt ot p ps z0 (qb F G fr) G v0 v2 rfl rfl rfl rfl rfl eL hr (by omega) h0 hl hN hNl hps hq hu (hM c fr hc) W (C.but hp K.o) hp K.self (R.but K.o)).mono fun e w' ⟨h1, h2⟩ => ⟨h1, ?_⟩
    exact (h2.congr fun j _ => by rw [qb_step F G fr h j, ← eL]).trans K.o)
  have MU := Lib.hid (fun c (hc : c * L < n) => show (c + 1) * L ≤ n by
    rw [he] at hc ⊢
    exact Nat.mul_le_mul_right _ (Nat.lt_of_mul_lt_mul_right hc))
  have ST := Lib.hid (show QR b n L F G w w 0 from ⟨by rw [qb_zero]; exact J, ⟨0, by rw [Nat.zero_mul]⟩, Nat.zero_le _⟩)
  have EN := Lib.hid (fun W (I : QR b n L F G w W n) => show JR b n G w W from I.j.congr fun j hj => qb_all F G n j hj)
  have hL0 : 0 < L := by omega
  have hsl : sp ≤ n := by rw [hsp]; exact Nat.le_mul_of_pos_right _ hL0
  have b0 : ((L : Int) == 0) = false := by rw [beq_eq_false_iff_ne]; omega
  have b1 : ¬ (L : Int) = 0 := by omega
  have d1 : (n : Int).tdiv (L : Int) = (sp : Int) := by rw [Int.tdiv_eq_ediv_of_nonneg (by omega), hsp, Int.natCast_mul, Int.mul_ediv_cancel _ b1]
  have d2 : (n : Int) / (L : Int) = (sp : Int) := by rw [hsp, Int.natCast_mul, Int.mul_ediv_cancel _ b1]
  have d3 : IntKind.i64.wrap (sp : Int) = (sp : Int) := IntWalk.i64_in _ (by omega)
  have hL2 : L ≤ 4194304 ∨ n = 0 := by
    by_cases hn : n = 0
    · exact Or.inr hn
    · refine Or.inl (Nat.le_trans ?_ (Nat.le_trans hl (by decide)))
      rw [he]
      refine Nat.le_mul_of_pos_left _ (Nat.pos_of_ne_zero fun h => hn (by rw [he, h, Nat.zero_mul]))
  have hb4 : L ≤ 4194304 := hL2.resolve_right (by omega)
  have d4 : IntKind.i64.wrap (4 * (h : Int)) = (L : Int) := by rw [IntKind.wrap_i64]; omega
  have d5 : IntKind.i64.wrap ((h : Int) * 4) = (L : Int) := by rw [IntKind.wrap_i64]; omega
  have n1 : IntKind.i64.wrap (-(sp : Int)) = z0 := by rw [hz, IntKind.wrap_i64]; omega
  have EL := Lib.hid eL
  clear hM hF hG hu he hsp hps hN C hp J R eL hL2 hz
  go_enter Tryd.func76, Tryd.ntmps76
  go_wp2_with fail
  go_loopw [11] (fun v11 wr => ∃ fr : Nat, v11 = .int .i64 (fr : Int) ∧ QR b n L F G w wr fr) (fun v11 _ => n - (Lib.intOf v11).toNat)
  case atStart => exact ⟨0, rfl, ST.out⟩
  case round =>
    obtain ⟨fr, rfl, I⟩ := hrel
    clear ST
    have fl := I.l
    by_cases hf : fr < n
    · have f1 : (fr : Int) < n := by omega
      obtain ⟨c, hc⟩ := I.c
      have nx : fr + L ≤ n := by have := MU.out c (by omega); rw [Nat.succ_mul c L, ← hc] at this; exact this
      obtain ⟨r, er⟩ : ∃ r, r = fr + L := ⟨_, rfl⟩
      have q5 : IntKind.i64.wrap ((fr : Int) + (L : Int)) = (r : Int) := by rw [IntKind.wrap_i64]; omega
      have sl := fun W => slice_both W b 0 n ca fr r L er.symm hL0 (by omega)
      rw [Nat.zero_add] at sl
      have C1 := Lib.hid (JN.out fr nx ⟨c, by rw [← EL.out]; exact hc⟩ wr I.j)
      have NX := Lib.hid (fun W (K : JR b n (qb F G (fr + L)) w W) => show QR b n L F G w W r from ⟨by rw [er]; exact K, ⟨c + 1, by rw [er, hc, Nat.succ_mul]⟩, by omega⟩)
      have hrf : fr < r := by omega
      have hrn : r ≤ n := by omega
      clear JN MU I hc nx er EN
      go_wp2_with fail
      refine C1.out.mono ?_
      rintro e w8 ⟨rfl, J8⟩
      have I8 := Lib.hid (NX.out _ J8)
      clear J8 C1 NX
      go_wp2_with fail
      go_roundw
      case rel => exact ⟨r, rfl, I8.out⟩
      case measure => simp [Lib.intOf]; omega
    · have f1 : ¬ (fr : Int) < n := by omega
      obtain rfl : fr = n := by omega
      have OK := Lib.hid (EN.out _ I)
      clear I EN JN MU
      go_wp2
      exact bodyPost_end (v := .tuple #[]) (by simp [results, Tryd.results76, go_sem]) rfl ⟨rfl, OK.out⟩
end Kq
end Go.Proofs.YtnnieiedkjekpaaDoor
set_option linter.unusedVariables false
namespace Go.Proofs.YtnnieiedkjekpaaDoor
open Go.RowKit Go.Lib Go.Sort
namespace Kq
open Nm Ww Tn Pl Kn Td

/-- A kernel by quarters of an exponent, in memory below block B. -/
structure Kf (w : World) (B k p p2 bf bi bp : Nat) : Prop where
  c : Cq w p (.pointer (some ⟨p2, 0, none⟩)) (.slice (some ⟨bp, 0, none⟩) (2 ^ k) (2 ^ k)) (.int .u64 (Nt.inv (2 ^ k) : Nat))
  p : p < B
  z : Kr w B k p2 bf bi
  r : Ws w B (some ⟨bp, 0, none⟩) (rg (fun i => Nt.rt k ^ i % 18446744069414584321) (2 ^ k))
theorem Kf.below {w w' : World} {B k p p2 bf bi bp : Nat} (h : Kf w B k p p2 bf bi bp) (hb : Below B w w') : Kf w' B k p p2 bf bi bp := ⟨h.c.low h.p hb, h.p, h.z.below hb, h.r.below hb⟩
theorem Kf.more {w : World} {B B' k p p2 bf bi bp : Nat} (h : Kf w B k p p2 bf bi bp) (hb : B ≤ B') : Kf w B' k p p2 bf bi bp := ⟨h.c, Nat.lt_of_lt_of_le h.p hb, h.z.more hb, h.r.more hb⟩
theorem Kf.step {w w' : World} {k p p2 bf bi bp : Nat} (h : Kf w w.heap.size k p p2 bf bi bp) (hb : Below w.heap.size w w') : Kf w' w'.heap.size k p p2 bf bi bp := (h.below hb).more hb.size
/-- .. in other blocks than b. -/
structure Kg (w : World) (b k p p2 bf bi bp : Nat) : Prop where
  c : Cq w p (.pointer (some ⟨p2, 0, none⟩)) (.slice (some ⟨bp, 0, none⟩) (2 ^ k) (2 ^ k)) (.int .u64 (Nt.inv (2 ^ k) : Nat))
  p : p ≠ b
  z : Ka w b k p2 bf bi
  r : Wo w b (some ⟨bp, 0, none⟩) (rg (fun i => Nt.rt k ^ i % 18446744069414584321) (2 ^ k))
theorem Kg.but {w w' : World} {b k p p2 bf bi bp : Nat} (h : Kg w b k p p2 bf bi bp) (o : But b w w') : Kg w' b k p p2 bf bi bp := ⟨h.c.but h.p o, h.p, h.z.but o, h.r.but o⟩
theorem Kf.aside {w : World} {b k p p2 bf bi bp : Nat} (h : Kf w b k p p2 bf bi bp) (hb : b ≤ w.heap.size) : Kg w b k p p2 bf bi bp := ⟨h.c, Nat.ne_of_lt h.p, h.z.aside hb, Wo.low h.r hb⟩
/-- .. in blocks from lo on. -/
structure Kh (w : World) (lo k p p2 bf bi bp : Nat) : Prop where
  r : Kf w w.heap.size k p p2 bf bi bp
  p : lo ≤ p
  z : Kb w lo k p2 bf bi
  b : lo ≤ bp
theorem Kh.step {w w' : World} {lo k p p2 bf bi bp : Nat} (h : Kh w lo k p p2 bf bi bp) (hb : Below w.heap.size w w') : Kh w' lo k p p2 bf bi bp := ⟨h.r.step hb, h.p, h.z.step hb, h.b⟩
theorem Kh.aside {w : World} {lo b k p p2 bf bi bp : Nat} (h : Kh w lo k p p2 bf bi bp) (hb : b < lo) : Kg w b k p p2 bf bi bp :=
  ⟨h.r.c, by have := h.p; omega, h.z.aside hb, Wo.of h.r.r (Nat.le_refl _) (fun b2 off e _ => by injection e with e; injection e with e1 e2; have := h.b; omega)⟩

set_option maxHeartbeats 400000 in
theorem new_bad (k : Int) (h : k < 0 ∨ 20 < k) (w : World) :
    Calls Tryd.prog 24 #[.int .i64 k] w fun e w' => e = .returned (.pointer none) ∧ w = w' := by
  have C := Lib.hid (Kn.new_bad k h w)
  clear h
  go_enter Tryd.func24, Tryd.ntmps24
  go_wp2_with fail
  refine C.out.mono ?_
  rintro e w1 ⟨rfl, rfl⟩
  go_wp2
  go_ret
  exact ⟨by simp, rfl⟩

set_option maxHeartbeats 1000000 in
theorem new_core (k n x sh : Nat) (hn : IntKind.i64.wrap ((2 : Int) ^ k) = (n : Int)) (hk : k ≤ 20) (w : World) (Z : World → Nat → Nat → Nat → Prop)
    (hZ : ∀ W W' a b c, Z W a b c → Below W.heap.size W W' → Z W' a b c)
    (hH : Calls Tryd.prog 43 #[.int .i64 (k : Int)] w fun e w' => ∃ p2 bf bi, e = .returned (.pointer (some ⟨p2, 0, none⟩)) ∧ Z w' p2 bf bi ∧ Below w.heap.size w w')
    (hR : ∀ W, Calls Tryd.prog 40 #[.int .i64 (k : Int), .int .i64 0] W fun e w' => e = .returned (.tuple #[.int .u64 (x : Nat), .int .i64 0]) ∧ Below W.heap.size W w')
    (hP : ∀ W, Calls Tryd.prog 41 #[.int .u64 (x : Nat), .int .i64 (n : Int)] W (Rt.PowOut x n W))
    (hS : ∀ W, Calls Tryd.prog 44 #[.int .i64 (k : Int)] W fun e w' => e = .returned (.tuple #[.int .u64 (sh : Nat), .int .i64 0]) ∧ Below W.heap.size W w') :
    Calls Tryd.prog 24 #[.int .i64 (k : Int)] w fun e w' => ∃ p p2 bf bi bp, e = .returned (.pointer (some ⟨p, 0, none⟩)) ∧ Cq w' p (.pointer (some ⟨p2, 0, none⟩)) (.slice (some ⟨bp, 0, none⟩) n n) (.int .u64 (sh : Nat)) ∧ p < w'.heap.size ∧
      Z w' p2 bf bi ∧ Wk w' bp 0 n (fun i => x ^ i % 18446744069414584321) ∧ bp < w'.heap.size ∧ Below w.heap.size w w' ∧ w.heap.size ≤ p ∧ w.heap.size ≤ bp := by
  have H := Lib.hid hH
  have RO := Lib.hid hR
  have PW := Lib.hid hP
  have SH := Lib.hid hS
  have HZ := Lib.hid hZ
  clear hZ hH hR hP hS
  go_enter Tryd.func24, Tryd.ntmps24
  go_wp2_with fail
  refine H.out.mono ?_
  rintro e w1 ⟨p2, bf, bi, rfl, Z1, d1⟩
  go_wp2_with fail
  refine (RO.out _).mono ?_
  rintro e w2 ⟨rfl, h2⟩
  have d2 := d1.trans (h2.mono d1.size)
  have Z2 := HZ.out _ _ _ _ _ Z1 h2
  clear d1 h2 Z1 H RO
  go_wp2_with fail
  refine (PW.out _).mono ?_
  rintro e w3 ⟨rfl, K3, s3, h3⟩
  have d3 := d2.trans (h3.mono d2.size)
  have Z3 := HZ.out _ _ _ _ _ Z2 h3
  have lo := d2.size
  generalize w2.heap.size = bp at *
  clear d2 h3 Z2 PW
  go_wp2_with fail
  refine (SH.out _).mono ?_
  rintro e w4 ⟨rfl, h4⟩
  have d4 := d3.trans (h4.mono d3.size)
  have Z4 := HZ.out _ _ _ _ _ Z3 h4
  have K4 := K3.below s3 h4
  have s4 := Nat.lt_of_lt_of_le s3 h4.size
  clear d3 h4 Z3 SH K3 s3
  have bl := below_alloc w4 (.cells #[.pointer (some ⟨p2, 0, none⟩), .slice (some ⟨bp, 0, none⟩) n n, .int .u64 (sh : Nat)] 60)
  have F := Lib.hid (show
      Cq (w4.alloc (.cells #[.pointer (some ⟨p2, 0, none⟩), .slice (some ⟨bp, 0, none⟩) n n, .int .u64 (sh : Nat)] 60)) w4.heap.size (.pointer (some ⟨p2, 0, none⟩)) (.slice (some ⟨bp, 0, none⟩) n n) (.int .u64 (sh : Nat)) ∧
      w4.heap.size < (w4.alloc (.cells #[.pointer (some ⟨p2, 0, none⟩), .slice (some ⟨bp, 0, none⟩) n n, .int .u64 (sh : Nat)] 60)).heap.size ∧
      Z (w4.alloc (.cells #[.pointer (some ⟨p2, 0, none⟩), .slice (some ⟨bp, 0, none⟩) n n, .int .u64 (sh : Nat)] 60)) p2 bf bi ∧
      Wk (w4.alloc (.cells #[.pointer (some ⟨p2, 0, none⟩), .slice (some ⟨bp, 0, none⟩) n n, .int .u64 (sh : Nat)] 60)) bp 0 n (fun i => x ^ i % 18446744069414584321) ∧
      bp < (w4.alloc (.cells #[.pointer (some ⟨p2, 0, none⟩), .slice (some ⟨bp, 0, none⟩) n n, .int .u64 (sh : Nat)] 60)).heap.size ∧
      Below w.heap.size w (w4.alloc (.cells #[.pointer (some ⟨p2, 0, none⟩), .slice (some ⟨bp, 0, none⟩) n n, .int .u64 (sh : Nat)] 60)) ∧ w.heap.size ≤ w4.heap.size ∧ w.heap.size ≤ bp from
    ⟨Cq.fresh _ _ _ _ _, by simp, HZ.out _ _ _ _ _ Z4 bl, K4.below s4 bl, Nat.lt_of_lt_of_le s4 bl.size, d4.trans (bl.mono d4.size), d4.size, lo⟩)
  clear bl d4 Z4 K4 s4 HZ
  go_wp2
  exact bodyPost_ret (v := .pointer (some ⟨w4.heap.size, 0, none⟩)) (by simp [results, Tryd.results24, go_sem]) rfl ⟨_, p2, bf, bi, bp, rfl, F.out⟩
theorem new_at (k : Nat) (hk : k ≤ 20) (w : World) :
    Calls Tryd.prog 24 #[.int .i64 (k : Int)] w fun e w' => ∃ p p2 bf bi bp, e = .returned (.pointer (some ⟨p, 0, none⟩)) ∧ Kh w' w.heap.size k p p2 bf bi bp ∧ Below w.heap.size w w' := by
  have hl : 2 ^ k ≤ 1048576 := Nat.le_trans (Nat.pow_le_pow_right (by decide) hk) (show 2 ^ 20 ≤ 1048576 by decide)
  have hx : Nt.rt k < 18446744073709551616 := Nat.lt_trans (Nt.rt_lt k) (by decide)
  have RO := fun W => Td.root_in k 0 (by omega) (by decide) W
  rw [rd_zero] at RO
  refine (new_core k (2 ^ k) (Nt.rt k) _ (Bt.pow_i64 k (by omega)) hk w (fun W p2 bf bi => Kb W w.heap.size k p2 bf bi) (fun W W' a b c h hb => h.step hb) (Kn.new_at k hk w) RO (fun W => Rt.powers _ _ hx hl W) (fun W => share k (by omega) W)).mono ?_
  rintro e w' ⟨p, p2, bf, bi, bp, rfl, c, hp, z, K, hb, d, o1, o2⟩
  exact ⟨p, p2, bf, bi, bp, rfl, ⟨⟨c, hp, z.r, K.ws (fun i _ => Nat.lt_trans (Nat.mod_lt _ (by decide)) (by decide)) hb⟩, o1, z, o2⟩, d⟩
theorem new (k : Nat) (hk : k ≤ 20) (w : World) :
    Calls Tryd.prog 24 #[.int .i64 (k : Int)] w fun e w' => ∃ p p2 bf bi bp, e = .returned (.pointer (some ⟨p, 0, none⟩)) ∧ Kf w' w'.heap.size k p p2 bf bi bp ∧ Below w.heap.size w w' :=
  (new_at k hk w).mono fun e w' ⟨p, p2, bf, bi, bp, he, h, hb⟩ => ⟨p, p2, bf, bi, bp, he, h.r, hb⟩

/-- Small rows go by halves. -/
theorem plain_small {w : World} {p p2 : Nat} {v1 v2 u1 u2 u3 : Value} (k : Nat) (hk : k < 2) (C : Cq w p (.pointer (some ⟨p2, 0, none⟩)) v1 v2) (C2 : Ce w p2 (.int .i64 (k : Int)) u1 u2 u3) (A : Option Addr) (n ca : Nat) (d r : Int) (X : World → Prop)
    (hP : Calls Tryd.prog 72 #[.pointer (some ⟨p2, 0, none⟩), .slice A n ca, .int .i64 d] w fun e w' => e = .returned (.int .i64 r) ∧ X w') :
    Calls Tryd.prog 61 #[.pointer (some ⟨p, 0, none⟩), .slice A n ca, .int .i64 d] w fun e w' => e = .returned (.int .i64 r) ∧ X w' := by
  have K := Lib.hid (kOf C2)
  have S := Lib.hid (fun W => steps k 0 (k % 2) (by omega) (by omega) rfl W)
  have PL := Lib.hid hP
  have c0 := C.c0
  generalize k % 2 = h at *
  clear C C2 hP hk
  go_enter Tryd.func61, Tryd.ntmps61
  go_wp2_with fail
  refine K.out.mono ?_
  rintro e w1 ⟨rfl, rfl⟩
  go_wp2_with fail
  refine (S.out _).mono ?_
  rintro e w1 ⟨rfl, rfl⟩
  go_wp2_with fail
  refine PL.out.mono ?_
  rintro e w1 ⟨rfl, hX⟩
  have HX := Lib.hid hX
  clear hX c0
  go_wp2
  go_ret
  exact ⟨by simp, HX.out⟩
set_option maxHeartbeats 400000 in
theorem plain_len2 {w : World} {p p2 : Nat} {v1 v2 u1 u2 u3 : Value} (k : Nat) (hk : k ≤ 20) (hk2 : 2 ≤ k) (C : Cq w p (.pointer (some ⟨p2, 0, none⟩)) v1 v2) (C2 : Ce w p2 (.int .i64 (k : Int)) u1 u2 u3) (A : Option Addr) (n ca : Nat) (d : Int) (hn : n ≠ 2 ^ k) :
    Calls Tryd.prog 61 #[.pointer (some ⟨p, 0, none⟩), .slice A n ca, .int .i64 d] w fun e w' => e = .returned (.int .i64 4) ∧ w = w' := by
  have K := Lib.hid (kOf C2)
  have S := Lib.hid (fun W => steps k (k / 2) (k % 2) hk rfl rfl W)
  have c0 := C.c0
  have s1 := Bt.pow_i64 k (by omega)
  obtain ⟨N, hN⟩ : ∃ N, N = 2 ^ k := ⟨_, rfl⟩
  rw [← hN] at s1 hn
  have ne : ((n : Int) != (N : Int)) = true := by simp; omega
  have q0 : ¬ k / 2 = 0 := by omega
  generalize k % 2 = h at *
  generalize k / 2 = q at *
  have q1 : ¬ (q : Int) = 0 := by omega
  clear C C2 hN hn hk2
  go_enter Tryd.func61, Tryd.ntmps61
  go_wp2_with fail
  refine K.out.mono ?_
  rintro e w1 ⟨rfl, rfl⟩
  go_wp2_with fail
  refine (S.out _).mono ?_
  rintro e w1 ⟨rfl, rfl⟩
  go_wp2_with fail
  refine K.out.mono ?_
  rintro e w1 ⟨rfl, rfl⟩
  go_wp2
  go_ret
  exact ⟨by simp, rfl⟩
set_option maxHeartbeats 400000 in
theorem plain_kind2 {w : World} {p p2 : Nat} {v1 v2 u1 u2 u3 : Value} (k : Nat) (hk : k ≤ 20) (hk2 : 2 ≤ k) (C : Cq w p (.pointer (some ⟨p2, 0, none⟩)) v1 v2) (C2 : Ce w p2 (.int .i64 (k : Int)) u1 u2 u3) (A : Option Addr) (n ca : Nat) (d : Int) (hn : n = 2 ^ k) (h0 : d ≠ 0) (h1 : d ≠ 1) :
    Calls Tryd.prog 61 #[.pointer (some ⟨p, 0, none⟩), .slice A n ca, .int .i64 d] w fun e w' => e = .returned (.int .i64 18) ∧ w = w' := by
  have K := Lib.hid (kOf C2)
  have S := Lib.hid (fun W => steps k (k / 2) (k % 2) hk rfl rfl W)
  have U := Lib.hid (fun W => unit_kind d h0 h1 W)
  have c0 := C.c0
  have s1 := Bt.pow_i64 k (by omega)
  rw [← hn] at s1
  have q0 : ¬ k / 2 = 0 := by omega
  generalize k % 2 = h at *
  generalize k / 2 = q at *
  have q1 : ¬ (q : Int) = 0 := by omega
  clear C C2 hn hk2 h0 h1
  go_enter Tryd.func61, Tryd.ntmps61
  go_wp2_with fail
  refine K.out.mono ?_
  rintro e w1 ⟨rfl, rfl⟩
  go_wp2_with fail
  refine (S.out _).mono ?_
  rintro e w1 ⟨rfl, rfl⟩
  go_wp2_with fail
  refine K.out.mono ?_
  rintro e w1 ⟨rfl, rfl⟩
  go_wp2_with fail
  refine (U.out _).mono ?_
  rintro e w1 ⟨rfl, rfl⟩
  go_wp2
  go_ret
  exact ⟨by simp, rfl⟩

/-- What the loops keep. -/
structure L1 (b n hs : Nat) (H : Nat → Nat → Nat) (w wr : World) (i h : Nat) : Prop where
  le : i ≤ hs
  eq : h = 2 ^ i
  j : JR b n (H i) w wr
structure L2 (b n hs q : Nat) (H : Nat → Nat → Nat) (w wr : World) (i h : Nat) : Prop where
  le : i ≤ q
  eq : h = 2 ^ (hs + 2 * i)
  j : JR b n (H (hs + 2 * i)) w wr

set_option maxHeartbeats 1000000 in
set_option maxRecDepth 100000 in
theorem plain_core {w : World} {p p2 : Nat} {v1 v2 u1 u2 u3 : Value} (k q hs u : Nat) (hk : k ≤ 20) (hq0 : 0 < q) (hs1 : hs ≤ 1) (hkq : k = hs + 2 * q) (C : Cq w p (.pointer (some ⟨p2, 0, none⟩)) v1 v2) (C2 : Ce w p2 (.int .i64 (k : Int)) u1 u2 u3) (b n ca : Nat) (d : Int) (hn : n = 2 ^ k) (hl : n ≤ 1048576) (f x : Nat → Nat) (H : Nat → Nat → Nat)
    (hU : Calls Tryd.prog 73 #[.int .i64 d] w fun e w' => e = .returned (.tuple #[.int .u64 (u : Nat), .int .i64 0]) ∧ Below w.heap.size w w')
    (hTU : ∀ W, Below w.heap.size w W → Calls Tryd.prog 74 #[.slice (some ⟨b, 0, none⟩) n ca] W fun e w' => ∃ g, e = .returned (.tuple #[.slice (some ⟨g, 0, none⟩) n n, .int .i64 0]) ∧ W.heap.size ≤ g ∧ Ws w' w'.heap.size (some ⟨g, 0, none⟩) (rg x n) ∧ Below W.heap.size W w')
    (hx : H 0 = x) (hJ : hs = 1 → ∀ W, JR b n (H 0) W W → Calls Tryd.prog 75 #[.slice (some ⟨b, 0, none⟩) n ca] W fun e w' => e = .returned (.tuple #[]) ∧ JR b n (H 1) W w')
    (hQ : ∀ s h : Nat, h = 2 ^ s → s + 2 ≤ k → ∀ W, But b w W → JR b n (H s) W W → Calls Tryd.prog 76 #[.pointer (some ⟨p, 0, none⟩), .slice (some ⟨b, 0, none⟩) n ca, .int .i64 (h : Int), .int .u64 (u : Nat), .int .i64 d] W fun e w' => e = .returned (.tuple #[]) ∧ JR b n (H (s + 2)) W w')
    (J : JR b n f w w) :
    Calls Tryd.prog 61 #[.pointer (some ⟨p, 0, none⟩), .slice (some ⟨b, 0, none⟩) n ca, .int .i64 d] w fun e w' => e = .returned (.int .i64 0) ∧ JR b n (H k) w w' := by
  have K := Lib.hid (kOf C2)
  have S := Lib.hid (fun W => steps k q hs hk (by omega) (by omega) W)
  have U := Lib.hid hU
  have TU := Lib.hid hTU
  have JH := Lib.hid hJ
  have JQ := Lib.hid hQ
  have HX := Lib.hid hx
  have c0 := C.c0
  have s1 := Bt.pow_i64 k (by omega)
  rw [← hn] at s1
  have q1 : ¬ (q : Int) = 0 := by omega
  have EK := Lib.hid hkq
  have PO := Lib.hid (fun i (hi : i ≤ q) => show 2 ^ (hs + 2 * i) ≤ 1048576 from Nat.le_trans (Nat.pow_le_pow_right (by decide) (show hs + 2 * i ≤ 20 by omega)) (show 2 ^ 20 ≤ 1048576 by decide))
  clear C C2 hn hU hTU hJ hQ hx hkq hq0
  go_enter Tryd.func61, Tryd.ntmps61
  go_wp2_with fail
  refine K.out.mono ?_
  rintro e w1 ⟨rfl, rfl⟩
  go_wp2_with fail
  refine (S.out _).mono ?_
  rintro e w1 ⟨rfl, rfl⟩
  go_wp2_with fail
  refine K.out.mono ?_
  rintro e w1 ⟨rfl, rfl⟩
  go_wp2_with fail
  refine U.out.mono ?_
  rintro e w1 ⟨rfl, h1⟩
  have T1 := Lib.hid (TU.out _ h1)
  have J1 := J.call h1
  clear K S U TU J h1 c0
  go_wp2_with fail
  refine T1.out.mono ?_
  rintro e w2 ⟨g, rfl, hg, Y, d2⟩
  have J2 := J1.call d2
  have J3 := J2.self
  have B2 := J2.o
  have gc : ∀ i, i < n → w2.cell? ⟨g, 0 + i, none⟩ = some (.int .u64 (x i : Nat)) := fun i hi => by
    obtain ⟨b3, o3, e3, _, c3⟩ := Y.at_ i (by rw [rg_len]; exact hi)
    injection e3 with e3
    injection e3 with e4 e5
    subst e4 e5
    rw [rg_at _ _ _ hi] at c3
    exact c3
  clear J1 J2 T1 d2 Y
  go_wp2_with ((refine copy_cells w2 ?hgd (.tmp 60) (.tmp 61) ?ho b n ca g n f x ?hd ?hs J3 gc (fun w3 J4 => ?_)); (case hgd => rfl); (case ho => rfl); (case hd => rfl); (case hs => rfl))
  rw [← HX.out] at J4
  have ST := Lib.hid (show L1 b n hs H w w3 0 1 from ⟨Nat.zero_le _, rfl, J4.trans B2⟩)
  clear J4 J3 gc hg B2
  go_wp2_with fail
  go_loopw [14, 64] (fun v14 v64 wr => ∃ i h : Nat, v64 = .int .i64 (i : Int) ∧ v14 = .int .i64 (h : Int) ∧ L1 b n hs H w wr i h) (fun _ v64 _ => hs - (Lib.intOf v64).toNat)
  case atStart => exact ⟨0, 1, rfl, rfl, ST.out⟩
  case round =>
    obtain ⟨i, h, rfl, rfl, I⟩ := hrel
    clear ST
    by_cases hlt : i < hs
    · have i1 : (i : Int) < hs := by omega
      have hi0 : i = 0 := by omega
      have h1 : h = 1 := by rw [I.eq, hi0]
      have j := I.j
      rw [hi0] at j
      have A := Lib.hid (JH.out (by omega) _ j.self)
      have G := Lib.hid (fun W (h : JR b n (H 1) wr W) => show L1 b n hs H w W 1 2 from ⟨by omega, rfl, h.trans j.o⟩)
      subst hi0 h1
      clear I j JH JQ
      go_wp2_with fail
      refine A.out.mono ?_
      rintro e w5 ⟨rfl, j5⟩
      have I5 := Lib.hid (G.out _ j5)
      clear j5 A G
      go_wp2_with fail
      go_roundw
      case rel => exact ⟨1, 2, rfl, rfl, I5.out⟩
      case measure => simp [Lib.intOf]; omega
    · have i1 : ¬ (i : Int) < hs := by omega
      have hi := I.le
      obtain rfl : i = hs := by omega
      have S2 := Lib.hid (show L2 b n i q H w wr 0 h from ⟨Nat.zero_le _, I.eq, I.j⟩)
      clear I JH
      go_wp2_with fail
      obtain ⟨wo, rfl⟩ : ∃ wo : World, wo = wr := ⟨_, rfl⟩
      go_loopw [14, 72] (fun v14 v72 wr => ∃ i2 h2 : Nat, v72 = .int .i64 (i2 : Int) ∧ v14 = .int .i64 (h2 : Int) ∧ L2 b n i q H w wr i2 h2) (fun _ v72 _ => q - (Lib.intOf v72).toNat)
      case atStart => exact ⟨0, h, rfl, rfl, S2.out⟩
      case round =>
        obtain ⟨i2, h2, rfl, rfl, I⟩ := hrel
        clear S2
        by_cases hlt2 : i2 < q
        · have i3 : (i2 : Int) < q := by omega
          have j := I.j
          have e2 := I.eq
          have p2 := PO.out i2 (by omega)
          rw [← e2] at p2
          have A := Lib.hid (JQ.out (i + 2 * i2) h2 e2 (by have := EK.out; omega) _ j.o j.self)
          obtain ⟨h4, e4⟩ : ∃ h4, h4 = h2 * 4 := ⟨_, rfl⟩
          have m4 : IntKind.i64.wrap ((h2 : Int) * 4) = (h4 : Int) := by rw [IntKind.wrap_i64]; omega
          have G := Lib.hid (fun W (h : JR b n (H (i + 2 * i2 + 2)) wr W) => show L2 b n i q H w W (i2 + 1) h4 from ⟨by omega, by rw [e4, e2, show i + 2 * (i2 + 1) = i + 2 * i2 + 2 by omega, Nat.pow_add 2 (i + 2 * i2) 2, show (2 : Nat) ^ 2 = 4 from rfl], by rw [show i + 2 * (i2 + 1) = i + 2 * i2 + 2 by omega]; exact h.trans j.o⟩)
          have hq20 : i2 ≤ 20 := by have := EK.out; omega
          clear I j JQ e2 e4
          go_wp2_with fail
          refine A.out.mono ?_
          rintro e w5 ⟨rfl, j5⟩
          have I5 := Lib.hid (G.out _ j5)
          clear j5 A G
          go_wp2_with fail
          go_roundw
          case rel => exact ⟨i2 + 1, h4, by first | rfl | simp, rfl, I5.out⟩
          case measure => simp [Lib.intOf]; omega
        · have i3 : ¬ (i2 : Int) < q := by omega
          have hi2 := I.le
          obtain rfl : i2 = q := by omega
          have j := I.j
          rw [← EK.out] at j
          have OK := Lib.hid j
          clear I j JQ
          go_wp2
          go_ret
          exact ⟨by simp, OK.out⟩
end Kq
end Go.Proofs.YtnnieiedkjekpaaDoor
set_option linter.unusedVariables false
namespace Go.Proofs.YtnnieiedkjekpaaDoor
open Go.RowKit Go.Lib Go.Sort
namespace Kq
open Nm Ww Tn Pl Kn Td

theorem plain_len {w : World} {B p p2 bf bi bp : Nat} (k : Nat) (hk : k ≤ 20) (Z : Kf w B k p p2 bf bi bp) (A : Option Addr) (n ca : Nat) (d : Int) (hn : n ≠ 2 ^ k) :
    Calls Tryd.prog 61 #[.pointer (some ⟨p, 0, none⟩), .slice A n ca, .int .i64 d] w fun e w' => e = .returned (.int .i64 4) ∧ w = w' := by
  by_cases h : k < 2
  · exact plain_small k h Z.c Z.z.c A n ca d 4 (fun w' => w = w') (Kn.plain_len k hk Z.z.c A n ca d hn)
  · exact plain_len2 k hk (by omega) Z.c Z.z.c A n ca d hn
theorem plain_kind {w : World} {B p p2 bf bi bp : Nat} (k : Nat) (hk : k ≤ 20) (Z : Kf w B k p p2 bf bi bp) (A : Option Addr) (n ca : Nat) (d : Int) (hn : n = 2 ^ k) (h0 : d ≠ 0) (h1 : d ≠ 1) :
    Calls Tryd.prog 61 #[.pointer (some ⟨p, 0, none⟩), .slice A n ca, .int .i64 d] w fun e w' => e = .returned (.int .i64 18) ∧ w = w' := by
  by_cases h : k < 2
  · exact plain_small k h Z.c Z.z.c A n ca d 18 (fun w' => w = w') (Kn.plain_kind k hk Z.z.c A n ca d hn h0 h1)
  · exact plain_kind2 k hk (by omega) Z.c Z.z.c A n ca d hn h0 h1

/-- A round of quarters, of either direction. -/
theorem joinQuarters (x : Nat → Nat) (hx : ∀ j, x j < 18446744073709551616) (k d s h b n ca p p2 bf bi bp : Nat) (hk : k ≤ 20) (hd : d ≤ 1) (hs : s + 2 ≤ k) (hh : h = 2 ^ s) (hn : n = 2 ^ k) (hca : n ≤ ca) (w : World) (Z : Kg w b k p p2 bf bi bp) (J : JR b n (hq x k d s) w w) :
    Calls Tryd.prog 76 #[.pointer (some ⟨p, 0, none⟩), .slice (some ⟨b, 0, none⟩) n ca, .int .i64 (h : Int), .int .u64 (rd 2 d : Nat), .int .i64 (d : Int)] w fun e w' => e = .returned (.tuple #[]) ∧ JR b n (hq x k d (s + 2)) w w' := by
  have hl : 2 ^ k ≤ 1048576 := Nat.le_trans (Nat.pow_le_pow_right (by decide) hk) (show 2 ^ 20 ≤ 1048576 by decide)
  have h0 : 0 < h := by rw [hh]; exact Nat.two_pow_pos s
  have hp := Nat.two_pow_pos k
  have e1 : n = 2 ^ (k - s - 2) * (4 * h) := by rw [hn, hh, show 4 = 2 ^ 2 from rfl, ← Nat.pow_add, ← Nat.pow_add, show k - s - 2 + (2 + s) = k by omega]
  have hla : 2 ^ k - 1 + 1 = 2 ^ k := by omega
  have hd2 : d = 0 ∨ d = 1 := by omega
  have M := fun c fr hfr i hi => mk_of x k d s h (2 ^ (k - s - 2)) (2 ^ k) (2 ^ k - 1) c fr i hk hd hs hh rfl rfl hla hi hfr
  have hu : rd 2 d < 18446744073709551616 := Nat.lt_trans (rd_lt 2 d) (by decide)
  rcases hd2 with rfl | rfl
  · rw [sgn_zero] at M
    exact joinQuarters_fwd b n ca h (4 * h) (2 ^ (k - s - 2)) (2 ^ (k - s - 2)) (2 ^ k) (2 ^ k - 1) (rd 2 0) bp 0 p _ (hq x k 0 s) (hq x k 0 (s + 2)) _ _ rfl h0 (by omega) e1 e1 (by omega) hca hla hl (rg_len _ _) (hq_lt x k 0 s hx) (hq_lt x k 0 (s + 2) hx) hu M w Z.c Z.p J Z.r
  · exact joinQuarters_inv b n ca h (4 * h) (2 ^ (k - s - 2)) (2 ^ (k - s - 2)) (2 ^ k) (2 ^ k - 1) (rd 2 1) bp 0 p _ (sgn 1 (2 ^ (k - s - 2))) (hq x k 1 s) (hq x k 1 (s + 2)) _ _ (sgn_one _) rfl h0 (by omega) e1 e1 (by omega) hca hla hl (rg_len _ _) (hq_lt x k 1 s hx) (hq_lt x k 1 (s + 2) hx) hu M w Z.c Z.p J Z.r

/-- The row's plain transform, in its place. -/
theorem plain_kg {w : World} {p p2 bf bi bp : Nat} (k d : Nat) (hk : k ≤ 20) (hd : d ≤ 1) (b n ca : Nat) (hn : n = 2 ^ k) (hca : n ≤ ca) (f : Nat → Nat) (hf : ∀ i, i < n → f i < 18446744073709551616) (hT : Ft.Tab w) (Z : Kg w b k p p2 bf bi bp) (J : JR b n f w w) :
    Calls Tryd.prog 61 #[.pointer (some ⟨p, 0, none⟩), .slice (some ⟨b, 0, none⟩) n ca, .int .i64 (d : Int)] w fun e w' => e = .returned (.int .i64 0) ∧ JR b n (tf f n (rd k d)) w w' := by
  by_cases h : k < 2
  · exact plain_small k h Z.c Z.z.c _ n ca d 0 (fun w' => JR b n (tf f n (rd k d)) w w') (Kn.plain_ka k d hk hd b n ca hn hca f hf hT Z.z J)
  have hl : n ≤ 1048576 := by rw [hn]; exact Nat.le_trans (Nat.pow_le_pow_right (by decide) hk) (show 2 ^ 20 ≤ 1048576 by decide)
  obtain ⟨x, hx⟩ : ∃ x : Nat → Nat, x = fun i => if i < n then f i else 0 := ⟨_, rfl⟩
  have xf : ∀ i, i < n → f i = x i := fun i hi => by rw [hx]; exact (if_pos hi).symm
  have xl : ∀ j, x j < 18446744073709551616 := fun j => by
    rw [hx]
    show (if j < n then f j else 0) < _
    split
    · exact hf j (by assumption)
    · decide
  have Jx : JR b n x w w := J.congr xf
  have R : Ws w w.heap.size (some ⟨b, 0, none⟩) (rg x n) := Jx.k.ws (fun i _ => xl i) Jx.s
  have U := unit_in d hd w
  have TU := fun W (hW : Below w.heap.size w W) => turn_rg (some ⟨b, 0, none⟩) ca n k x hn (by omega) W (hT.below hW) (R.step hW)
  have e2 : n = 2 ^ (k - 1) * (2 * 1) := by rw [hn, show 2 * 1 = 2 ^ 1 from rfl, ← Nat.pow_add, show k - 1 + 1 = k by omega]
  have JH := fun W (K : JR b n (hq x k d 0) W W) => joinHalves b n ca (2 ^ (k - 1)) e2 hl (hq x k d 0) (fun _ => 1) rfl (hq_lt x k d 0 xl) W K
  rw [hq_first x k d (by omega) (by omega)] at JH
  refine (plain_core k (k / 2) (k % 2) (rd 2 d) hk (by omega) (by omega) (by omega) Z.c Z.z.c b n ca d hn hl x _ (hq x k d) U TU (hq_zero x k d) (fun _ W K => JH W K)
    (fun s h hh hs W hW K => joinQuarters x xl k d s h b n ca p p2 bf bi bp hk hd hs hh hn hca W (Z.but hW) K) Jx).mono fun e w' ⟨h1, h2⟩ => ⟨h1, h2.congr fun j hj => ?_⟩
  rw [hq_pos x k d k (by omega), hv_all x k d j (by omega), ← hn]
  exact (tf_congr xf _ _).symm
theorem plain {w : World} {p p2 bf bi bp : Nat} (k d : Nat) (hk : k ≤ 20) (hd : d ≤ 1) (b n ca : Nat) (hn : n = 2 ^ k) (hca : n ≤ ca) (f : Nat → Nat) (hf : ∀ i, i < n → f i < 18446744073709551616) (hT : Ft.Tab w) (Z : Kf w b k p p2 bf bi bp) (J : JR b n f w w) :
    Calls Tryd.prog 61 #[.pointer (some ⟨p, 0, none⟩), .slice (some ⟨b, 0, none⟩) n ca, .int .i64 (d : Int)] w fun e w' => e = .returned (.int .i64 0) ∧ JR b n (tf f n (rd k d)) w w' :=
  plain_kg k d hk hd b n ca hn hca f hf hT (Z.aside (Nat.le_of_lt J.s)) J

set_option maxHeartbeats 400000 in
theorem run_bad (p A : Option Addr) (n ca : Nat) (d e : Int) (he : e ≠ 0) (w : World)
    (hP : Calls Tryd.prog 61 #[.pointer p, .slice A n ca, .int .i64 d] w fun e1 w' => e1 = .returned (.int .i64 e) ∧ w = w') :
    Calls Tryd.prog 46 #[.pointer p, .slice A n ca, .int .i64 d] w fun e1 w' => e1 = .returned (.int .i64 e) ∧ w = w' := by
  have C := Lib.hid hP
  have e1 : (e == 0) = false := by simp [he]
  clear hP he
  go_enter Tryd.func46, Tryd.ntmps46
  go_wp2_with fail
  refine C.out.mono ?_
  rintro e2 w1 ⟨rfl, rfl⟩
  go_wp2
  go_ret
  exact ⟨by simp, rfl⟩
set_option maxHeartbeats 400000 in
theorem run_fwd (p : Option Addr) (b n ca : Nat) (H : Nat → Nat) (w : World)
    (hP : Calls Tryd.prog 61 #[.pointer p, .slice (some ⟨b, 0, none⟩) n ca, .int .i64 0] w fun e1 w' => e1 = .returned (.int .i64 0) ∧ JR b n H w w') :
    Calls Tryd.prog 46 #[.pointer p, .slice (some ⟨b, 0, none⟩) n ca, .int .i64 0] w fun e1 w' => e1 = .returned (.int .i64 0) ∧ JR b n H w w' := by
  have C := Lib.hid hP
  clear hP
  go_enter Tryd.func46, Tryd.ntmps46
  go_wp2_with fail
  refine C.out.mono ?_
  rintro e2 w1 ⟨rfl, J⟩
  have J1 := Lib.hid J
  clear J
  go_wp2
  go_ret
  exact ⟨by simp, J1.out⟩
set_option maxHeartbeats 1000000 in
theorem run_inv (p b n ca sh : Nat) (H G : Nat → Nat) (w : World) {v0 v1 : Value} (C0 : Cq w p v0 v1 (.int .u64 (sh : Nat))) (hp : p ≠ b)
    (hP : Calls Tryd.prog 61 #[.pointer (some ⟨p, 0, none⟩), .slice (some ⟨b, 0, none⟩) n ca, .int .i64 1] w fun e1 w' => e1 = .returned (.int .i64 0) ∧ JR b n H w w')
    (hS : ∀ W, Wk W b 0 n H → b < W.heap.size → Calls Tryd.prog 62 #[.slice (some ⟨b, 0, none⟩) n ca, .int .u64 (sh : Nat)] W (RwN G n W)) :
    Calls Tryd.prog 46 #[.pointer (some ⟨p, 0, none⟩), .slice (some ⟨b, 0, none⟩) n ca, .int .i64 1] w fun e1 w' => e1 = .returned (.int .i64 0) ∧ JR b n G w w' := by
  have C := Lib.hid hP
  have S := Lib.hid hS
  clear hP hS
  go_enter Tryd.func46, Tryd.ntmps46
  go_wp2_with fail
  refine C.out.mono ?_
  rintro e2 w1 ⟨rfl, J⟩
  have C1 := (C0.but hp J.o).c2
  go_wp2_with fail
  refine (S.out _ J.k J.s).mono ?_
  rintro e3 w2 ⟨b2, rfl, hb2, hl2, K2, d2⟩
  have J2 := (J.call d2)
  have J3 := J2.self
  have B2 := J2.o
  have s2 := J2.s
  clear C1 C S C0 J d2 J2
  go_wp2_with ((refine copy_all w2 ?hgd (.tmp 18) (.tmp 24) ?ho b n ca b2 n H G ?hd ?hs J3 K2 (fun w3 J4 => ?_)); (case hgd => rfl); (case ho => rfl); (case hd => rfl); (case hs => rfl))
  have J5 := Lib.hid (J4.trans B2)
  clear J4 J3 K2
  go_wp2
  go_ret
  exact ⟨by simp, J5.out⟩
/-- The row's transform, in its place. -/
theorem run_kg {w : World} {p p2 bf bi bp : Nat} (k d : Nat) (hk : k ≤ 20) (hd : d ≤ 1) (b n ca : Nat) (hn : n = 2 ^ k) (hca : n ≤ ca) (f : Nat → Nat) (hf : ∀ i, i < n → f i < 18446744073709551616) (hT : Ft.Tab w) (Z : Kg w b k p p2 bf bi bp) (J : JR b n f w w) :
    Calls Tryd.prog 46 #[.pointer (some ⟨p, 0, none⟩), .slice (some ⟨b, 0, none⟩) n ca, .int .i64 (d : Int)] w fun e w' => e = .returned (.int .i64 0) ∧ JR b n (ft k d f) w w' := by
  have P := plain_kg k d hk hd b n ca hn hca f hf hT Z J
  have hl : n ≤ 1048576 := by rw [hn]; exact Nat.le_trans (Nat.pow_le_pow_right (by decide) hk) (show 2 ^ 20 ≤ 1048576 by decide)
  have hd2 : d = 0 ∨ d = 1 := by omega
  rcases hd2 with rfl | rfl
  · refine (run_fwd _ b n ca _ w P).mono fun e w' ⟨h1, h2⟩ => ⟨h1, h2.congr fun j _ => ?_⟩
    rw [ft_zero, rd_zero, hn]
  · refine (run_inv p b n ca _ _ (fun i => Pn.pl (rg (tf f n (rd k 1)) n) i * Nt.inv (2 ^ k) % 18446744069414584321) w Z.c Z.p P (fun W K hb => scale _ ca n _ (rg_len _ _) hl _ (Nat.lt_trans (Nt.inv_lt _) (by decide)) W (wk_ws K (fun i => tf_lt _ _ _ _) hb))).mono fun e w' ⟨h1, h2⟩ => ⟨h1, h2.congr fun j hj => ?_⟩
    rw [pl_rg _ _ _ hj]
    unfold ft
    rw [sc_other k 1 (by decide), hn]
theorem run {w : World} {p p2 bf bi bp : Nat} (k d : Nat) (hk : k ≤ 20) (hd : d ≤ 1) (b n ca : Nat) (hn : n = 2 ^ k) (hca : n ≤ ca) (f : Nat → Nat) (hf : ∀ i, i < n → f i < 18446744073709551616) (hT : Ft.Tab w) (Z : Kf w b k p p2 bf bi bp) (J : JR b n f w w) :
    Calls Tryd.prog 46 #[.pointer (some ⟨p, 0, none⟩), .slice (some ⟨b, 0, none⟩) n ca, .int .i64 (d : Int)] w fun e w' => e = .returned (.int .i64 0) ∧ JR b n (ft k d f) w w' :=
  run_kg k d hk hd b n ca hn hca f hf hT (Z.aside (Nat.le_of_lt J.s)) J
theorem run_len {w : World} {B p p2 bf bi bp : Nat} (k : Nat) (hk : k ≤ 20) (Z : Kf w B k p p2 bf bi bp) (A : Option Addr) (n ca : Nat) (d : Int) (hn : n ≠ 2 ^ k) :
    Calls Tryd.prog 46 #[.pointer (some ⟨p, 0, none⟩), .slice A n ca, .int .i64 d] w fun e w' => e = .returned (.int .i64 4) ∧ w = w' := run_bad _ A n ca d 4 (by decide) w (plain_len k hk Z A n ca d hn)
theorem run_kind {w : World} {B p p2 bf bi bp : Nat} (k : Nat) (hk : k ≤ 20) (Z : Kf w B k p p2 bf bi bp) (A : Option Addr) (n ca : Nat) (d : Int) (hn : n = 2 ^ k) (h0 : d ≠ 0) (h1 : d ≠ 1) :
    Calls Tryd.prog 46 #[.pointer (some ⟨p, 0, none⟩), .slice A n ca, .int .i64 d] w fun e w' => e = .returned (.int .i64 18) ∧ w = w' := run_bad _ A n ca d 18 (by decide) w (plain_kind k hk Z A n ca d hn h0 h1)
end Kq
end Go.Proofs.YtnnieiedkjekpaaDoor
