/- Contracts of package kern2: join. / Contract of package kern2's joinHalves. / Contracts of package kern2: New, K, powers. -/
import Derived.Test.YtnnieiedkjekpaaDoorTwidE
import Derived.Test.YtnnieiedkjekpaaDoorHalfM
import Derived.Test.YtnnieiedkjekpaaDoorWing
import Derived.Deep.RegionWith
import Derived.Deep.DeepCutAuto
import Derived.Lib.QuietBelow
import Derived.Test.YtnnieiedkjekpaaDoorCells
set_option linter.unusedVariables false
namespace Go.Proofs.YtnnieiedkjekpaaDoor
open Go.RowKit Go.Lib Go.Sort
namespace Kn
open Nm Ww Tn Pl

theorem But.trans {b : Nat} {w w1 w2 : World} (h : But b w w1) (h2 : But b w1 w2) : But b w w2 :=
  ⟨h.bel.trans h2.bel, fun p q1 q2 => (h2.cell p q1 (Nat.lt_of_lt_of_le q2 h.bel.size)).trans (h.cell p q1 q2), fun p q1 q2 => (h2.frz p q1 (Nat.lt_of_lt_of_le q2 h.bel.size)).trans (h.frz p q1 q2)⟩
theorem But.of_below {b : Nat} {w w1 : World} (h : Below w.heap.size w w1) (hb : b ≤ w.heap.size) : But b w w1 :=
  ⟨h.mono hb, fun p _ q => h.cell (p := p) q, fun p _ q => h.frozen (p := p) q⟩
/-- A row that is being written, in its own block b; all other blocks that were there stay. -/
structure JR (b n : Nat) (f : Nat → Nat) (w wr : World) : Prop where
  k : Wk wr b 0 n f
  o : But b w wr
  s : b < wr.heap.size
section
variable {b n : Nat} {f g : Nat → Nat} {w wr w1 : World}
theorem JR.bel (h : JR b n f w wr) : Below b w wr := h.o.bel
theorem JR.call (h : JR b n f w wr) (hc : Below wr.heap.size wr w1) : JR b n f w w1 := ⟨h.k.step hc, But.trans h.o (But.of_below hc (Nat.le_of_lt h.s)), Nat.lt_of_lt_of_le h.s hc.size⟩
theorem JR.drew (h : JR b n f w wr) : JR b n f w wr.drew := ⟨h.k.drew, h.o.drew, h.s⟩
theorem JR.drewN (h : JR b n f w wr) (k : Nat) : JR b n f w (wr.drewN k) := ⟨h.k.drewN k, ⟨Ww.below_drewN h.bel k, h.o.cell, h.o.frz⟩, h.s⟩
theorem JR.put (h : JR b n f w wr) (i v : Nat) (hi : i < n) : JR b n (upd f i v) w (wr.setCell ⟨b, i, none⟩ (.int .u64 (v : Nat))) := by
  have K1 := h.k.put i v hi
  rw [Nat.zero_add] at K1
  exact ⟨K1, h.o.put i _, by simp [World.setCell]; exact h.s⟩
theorem JR.at_ (h : JR b n f w wr) (i : Nat) (hi : i < n) : wr.cell? ⟨b, i, none⟩ = some (.int .u64 (f i : Nat)) ∧ wr.frozen? ⟨b, i, none⟩ = false := by
  have c := h.k.c i hi
  have z := h.k.z i hi
  rw [Nat.zero_add] at c z
  exact ⟨c, z⟩
theorem JR.congr (h : JR b n f w wr) (e : ∀ j, j < n → f j = g j) : JR b n g w wr := ⟨⟨fun i hi => by rw [h.k.c i hi, e i hi], h.k.z⟩, h.o, h.s⟩
theorem JR.trans {w0 : World} (h0 : But b w0 w) (h : JR b n f w wr) : JR b n f w0 wr := ⟨h.k, But.trans h0 h.o, h.s⟩
end
/-- The slice at A, in another block than b, holds the words xs. -/
structure Wo (w : World) (b : Nat) (A : Option Addr) (xs : List Nat) : Prop where
  at_ : ∀ i, i < xs.length → ∃ b2 off : Nat, A = some ⟨b2, off, none⟩ ∧ (b2 ≠ b ∧ b2 < w.heap.size) ∧ w.cell? ⟨b2, off + i, none⟩ = some (.int .u64 (xs.getD i 0 : Nat))
  lt : ∀ i, i < xs.length → xs.getD i 0 < 18446744073709551616
theorem Wo.but {w w' : World} {b : Nat} {A : Option Addr} {xs : List Nat} (h : Wo w b A xs) (o : But b w w') : Wo w' b A xs :=
  ⟨fun i hi => by
    obtain ⟨b2, off, e, hB, c⟩ := h.at_ i hi
    exact ⟨b2, off, e, ⟨hB.1, Nat.lt_of_lt_of_le hB.2 o.bel.size⟩, (o.cell ⟨b2, off + i, none⟩ hB.1 hB.2).trans c⟩, h.lt⟩
theorem Wo.of {w : World} {b B : Nat} {A : Option Addr} {xs : List Nat} (h : Ws w B A xs) (hB : B ≤ w.heap.size) (ne : ∀ b2 off, A = some ⟨b2, off, none⟩ → b2 < B → b2 ≠ b) : Wo w b A xs :=
  ⟨fun i hi => by
    obtain ⟨b2, off, e, h2, c⟩ := h.at_ i hi
    exact ⟨b2, off, e, ⟨ne _ _ e h2, Nat.lt_of_lt_of_le h2 hB⟩, c⟩, h.lt⟩
theorem Wo.low {w : World} {b : Nat} {A : Option Addr} {xs : List Nat} (h : Ws w b A xs) (hb : b ≤ w.heap.size) : Wo w b A xs := Wo.of h hb fun _ _ _ h2 => Nat.ne_of_lt h2

set_option maxHeartbeats 2000000 in
set_option maxRecDepth 100000 in
theorem join (b p q h n c1 c2 c3 m sp : Nat) (T : Option Addr) (ps : List Nat) (hm : ps.length = m) (f t : Nat → Nat) (hq : q = p + h) (hn : q + h ≤ n) (hl : n ≤ 1048576) (hml : m ≤ 1048576) (hf : ∀ j, f j < 18446744073709551616)
    (ht : ∀ i, i < h → i * sp < m ∧ Pn.pl ps (i * sp) = t i) (hsp : sp ≤ 1048576) (w : World) (J : JR b n f w w) (R : Wo w b T ps) :
    Calls Tryd.prog 84 #[.slice (some ⟨b, p, none⟩) h c1, .slice (some ⟨b, q, none⟩) h c2, .slice T m c3, .int .i64 (sp : Int)] w fun e w' => e = .returned (.tuple #[]) ∧ JR b n (jo f t p h h) w w' := by
  have BF := Lib.hid (fun i (h : t i < 18446744073709551616) W => butterfly (f (p + i)) (f (q + i)) (t i) (hf _) (hf _) h W)
  have HT := Lib.hid ht
  have HM := Lib.hid hm
  have JA := Lib.hid (fun i (hi : i < h) => show jo f t p h i (p + i) = f (p + i) ∧ jo f t p h i (q + i) = f (q + i) by rw [hq]; exact ⟨jo_even f t p h i hi, jo_odd f t p h i hi⟩)
  have JS := Lib.hid (fun i (hi : i < h) => show upd (upd (jo f t p h i) (p + i) (bs (f (p + i)) (f (q + i)) (t i))) (q + i) (bd (f (p + i)) (f (q + i)) (t i)) = jo f t p h (i + 1) by rw [hq]; exact jo_step f t p h i hi)
  have ST := Lib.hid (show JR b n (jo f t p h 0) w w by rw [jo_zero]; exact J)
  have HQ := Lib.hid hq
  clear ht hm hf J hq
  go_enter Tryd.func84, Tryd.ntmps84
  go_wp2_with fail
  go_loopw [11] (fun v11 wr => ∃ i : Nat, v11 = .int .i64 (i : Int) ∧ i ≤ h ∧ JR b n (jo f t p h i) w wr) (fun v11 _ => h - (Lib.intOf v11).toNat)
  case atStart => exact ⟨0, rfl, Nat.zero_le _, ST.out⟩
  case round =>
    obtain ⟨i, rfl, hi, J⟩ := hrel
    clear ST
    by_cases hlt : i < h
    · have i1 : (i : Int) < h := by omega
      obtain ⟨hu, hpt⟩ := HT.out i hlt
      have R1 := R.but J.o
      obtain ⟨b2, o2, rfl, hB2, c4⟩ := R1.at_ (i * sp) (by rw [HM.out]; exact hu)
      have c5 : wr.cell? ⟨b2, o2 + i * sp, none⟩ = some (.int .u64 (t i : Nat)) := by rw [c4]; exact congrArg (fun (x : Nat) => some (Value.int .u64 (x : Int))) hpt
      have B := Lib.hid (BF.out i (by have := R1.lt (i * sp) (by rw [HM.out]; exact hu); rw [← hpt]; exact this))
      have ja := JA.out i hlt
      have js := JS.out i hlt
      have hp1 : p + i < n := by have := HQ.out; omega
      have hp2 : q + i < n := by omega
      have hne : ¬ p + i = q + i := by have := HQ.out; omega
      have hne2 : ¬ q + i = p + i := by omega
      have hnp : ¬ p = q := by omega
      have hnp2 : ¬ q = p := by omega
      obtain ⟨u, eu⟩ : ∃ u, u = i * sp := ⟨_, rfl⟩
      have q1 : IntKind.i64.wrap ((i : Int) * (sp : Int)) = (u : Int) := by rw [← Int.natCast_mul, ← eu]; exact IntWalk.i64_in _ (by omega)
      rw [← eu] at c5 hu
      have e1 : wr.drew.cell? ⟨b2, o2 + u, none⟩ = some (.int .u64 (t i : Nat)) := c5
      have J1 := Lib.hid J
      have A1 := (J.drew.at_ (p + i) hp1)
      have A2 := (J.drew.at_ (q + i) hp2)
      rw [ja.1] at A1
      rw [ja.2] at A2
      obtain ⟨a1, a2⟩ := A1
      obtain ⟨a3, a4⟩ := A2
      obtain ⟨S, hS⟩ : ∃ S, S = bs (f (p + i)) (f (q + i)) (t i) := ⟨_, rfl⟩
      obtain ⟨D, hD⟩ : ∃ D, D = bd (f (p + i)) (f (q + i)) (t i) := ⟨_, rfl⟩
      rw [← hS, ← hD] at B js
      have JE := Lib.hid js
      have JA1 := Lib.hid (fun w3 (h3 : JR b n (jo f t p h i) w w3) => show (w3.cell? ⟨b, p + i, none⟩ = some (.int .u64 (f (p + i) : Nat)) ∧ w3.frozen? ⟨b, p + i, none⟩ = false) ∧ (w3.cell? ⟨b, q + i, none⟩ = some (.int .u64 (f (q + i) : Nat)) ∧ w3.frozen? ⟨b, q + i, none⟩ = false) from
        ⟨by have := h3.at_ (p + i) hp1; rw [ja.1] at this; exact this, by have := h3.at_ (q + i) hp2; rw [ja.2] at this; exact this⟩)
      have PT := Lib.hid (fun w3 (h3 : JR b n (jo f t p h i) w w3) => show JR b n (jo f t p h (i + 1)) w ((w3.setCell ⟨b, p + i, none⟩ (.int .u64 (S : Nat))).setCell ⟨b, q + i, none⟩ (.int .u64 (D : Nat))) by
        have := (h3.put (p + i) S hp1).put (q + i) D hp2
        rw [js] at this
        exact this)
      clear hS hD eu c4 c5 R1 ja js hpt BF JA JS HT J JE
      generalize f (p + i) = x at *
      generalize f (q + i) = y at *
      generalize t i = z at *
      go_upto_region 3 with fail
      go_region_with (go_at_call 82; refine (B.out _).mono ?_; rintro e w3 ⟨rfl, hb3⟩; have K3 := J1.out.drew.call hb3; obtain ⟨⟨g0, g1⟩, g2, g3⟩ := JA1.out _ K3)
      all_goals (go_wp2_with fail)
      all_goals go_roundw
      all_goals first
        | exact ⟨i + 1, rfl, by omega, PT.out _ K3⟩
        | (simp [Lib.intOf]; omega)
    · have i1 : ¬ (i : Int) < h := by omega
      obtain rfl : i = h := by omega
      have OK := Lib.hid J
      clear J
      go_wp2
      exact bodyPost_end (v := .tuple #[]) (by simp [results, Tryd.results84, go_sem]) rfl ⟨rfl, OK.out⟩
end Kn
end Go.Proofs.YtnnieiedkjekpaaDoor
set_option linter.unusedVariables false
namespace Go.Proofs.YtnnieiedkjekpaaDoor
open Go.RowKit Go.Lib Go.Sort
namespace Kn
open Nm Ww Tn Pl

theorem st_lt (f t : Nat → Nat) (h j : Nat) : st f t h j < 18446744069414584321 := by
  unfold st
  split
  · exact bs_lt _ _ _
  · exact bd_lt _ _ _
theorem sb_lt (f t : Nat → Nat) (h m : Nat) (hf : ∀ j, f j < 18446744069414584321) (j : Nat) : sb f t h m j < 18446744073709551616 := by
  unfold sb
  split
  · exact Nat.lt_trans (st_lt _ _ _ _) (by decide)
  · exact Nat.lt_trans (hf _) (by decide)
theorem JR.self {b n : Nat} {f : Nat → Nat} {w wr : World} (h : JR b n f w wr) : JR b n f wr wr := ⟨h.k, But.refl _ _, h.s⟩
/-- The inner loop's relation. -/
structure IR (b n h : Nat) (F t : Nat → Nat) (w wr : World) (fr : Nat) : Prop where
  j : JR b n (sb F t h fr) w wr
  c : ∃ c, fr = c * (2 * h)
  l : fr ≤ n
/-- The outer loop's. -/
structure OR (b n k : Nat) (H : Nat → Nat → Nat) (w wr : World) (h : Nat) : Prop where
  s : ∃ s, h = 2 ^ s ∧ s ≤ k ∧ JR b n (H s) w wr

set_option maxHeartbeats 2000000 in
set_option maxRecDepth 100000 in
theorem joinHalves_core (b n ca k m c3 : Nat) (T : Option Addr) (ps : List Nat) (hm : ps.length = m) (hk : k ≤ 20) (hn : n = 2 ^ k) (hca : n ≤ ca) (hml : m ≤ 1048576) (H TT : Nat → Nat → Nat) (hH : ∀ s j, H s j < 18446744069414584321)
    (hS : ∀ s j, s < k → st (H s) (TT s) (2 ^ s) j = H (s + 1) j) (hT : ∀ s, s < k → ∃ sp, sp ≤ 1048576 ∧ m = sp * 2 ^ s ∧ ∀ i, i < 2 ^ s → i * sp < m ∧ Pn.pl ps (i * sp) = TT s i)
    (w : World) (J : JR b n (H 0) w w) (R : Wo w b T ps) :
    Calls Tryd.prog 80 #[.slice (some ⟨b, 0, none⟩) n ca, .slice T m c3] w fun e w' => e = .returned (.tuple #[]) ∧ JR b n (H k) w w' := by
  have hl : n ≤ 1048576 := by rw [hn]; exact Nat.le_trans (Nat.pow_le_pow_right (by decide) hk) (by decide)
  have JN := Lib.hid (fun (s fr q h sp c1 c2 : Nat) (f t : Nat → Nat) hq hn1 hf ht hsp W J R => join b fr q h n c1 c2 c3 m sp T ps hm f t hq hn1 hl hml hf ht hsp W J R)
  have HT := Lib.hid hT
  have HS := Lib.hid hS
  have HH := Lib.hid hH
  have LT := Lib.hid (fun s (hs : s ≤ k) => show (2 ^ s < n ↔ s < k) ∧ 2 ^ s ≤ n ∧ 0 < 2 ^ s by
    refine ⟨?_, ?_, Nat.two_pow_pos s⟩
    · rw [hn]; exact Nat.pow_lt_pow_iff_right (by decide)
    · rw [hn]; exact Nat.pow_le_pow_right (by decide) hs)
  have MU := Lib.hid (fun s (hs : s < k) c (hc : c * (2 * 2 ^ s) < n) => show (c + 1) * (2 * 2 ^ s) ≤ n by
    obtain ⟨e, he⟩ : ∃ e, k = e + (s + 1) := ⟨k - (s + 1), by omega⟩
    have e1 : n = 2 ^ e * (2 * 2 ^ s) := by rw [hn, he, Nat.pow_add, Nat.pow_succ' (n := s)]
    rw [e1] at hc ⊢
    exact Nat.mul_le_mul_right _ (Nat.lt_of_mul_lt_mul_right hc))
  have ST := Lib.hid (show OR b n k H w w 1 from ⟨⟨0, rfl, Nat.zero_le _, J⟩⟩)
  clear hS hT hH hm J hn
  go_enter Tryd.func80, Tryd.ntmps80
  go_wp2_with fail
  go_loopw [4] (fun v4 wr => ∃ h : Nat, v4 = .int .i64 (h : Int) ∧ OR b n k H w wr h) (fun v4 _ => n - (Lib.intOf v4).toNat)
  case atStart => exact ⟨1, rfl, ST.out⟩
  case round =>
    obtain ⟨h, rfl, O⟩ := hrel
    clear ST
    obtain ⟨s, hh, hs, J⟩ := O.s
    obtain ⟨l1, l2, l3⟩ := LT.out s hs
    rw [← hh] at l1 l2 l3
    by_cases hlt : h < n
    · have h1 : (h : Int) < n := by omega
      have hsk : s < k := l1.1 hlt
      obtain ⟨sp, hsp, hms, hps⟩ := HT.out s hsk
      have mu := MU.out s hsk
      have hst := HS.out s
      rw [← hh] at hms hps mu hst
      have z0 : ((h : Int) == 0) = false := by rw [beq_eq_false_iff_ne]; omega
      have z1 : ¬ (h : Int) = 0 := by omega
      have d1 : (m : Int).tdiv (h : Int) = (sp : Int) := by rw [Int.tdiv_eq_ediv_of_nonneg (by omega), hms, Int.natCast_mul, Int.mul_ediv_cancel _ z1]
      have d2 : (m : Int) / (h : Int) = (sp : Int) := by rw [hms, Int.natCast_mul, Int.mul_ediv_cancel _ z1]
      have d3 : IntKind.i64.wrap (sp : Int) = (sp : Int) := IntWalk.i64_in _ (by omega)
      have I0 := Lib.hid (show IR b n h (H s) (TT s) w wr 0 from ⟨by rw [sb_zero]; exact J, ⟨0, by rw [Nat.zero_mul]⟩, Nat.zero_le _⟩)
      have FL := Lib.hid (fun fr => sb_lt (H s) (TT s) h fr (HH.out s))
      have PS := Lib.hid hps
      have MU1 := Lib.hid mu
      have EN := Lib.hid (fun W (I : IR b n h (H s) (TT s) w W n) => show OR b n k H w W (2 * h) from ⟨⟨s + 1, by rw [hh, Nat.pow_succ, Nat.mul_comm], hsk, I.j.congr fun j hj => by rw [sb_all _ _ _ _ _ hj]; exact hst j hsk⟩⟩)
      have J1 := Lib.hid (fun fr q h sp c1 c2 f t => JN.out s fr q h sp c1 c2 f t)
      obtain ⟨h2, eh2⟩ : ∃ h2, h2 = 2 * h := ⟨_, rfl⟩
      have hl2 : h2 ≤ 2097152 := by omega
      have q2 : IntKind.i64.wrap (2 * (h : Int)) = (h2 : Int) := by rw [IntKind.wrap_i64]; omega
      have q3 : IntKind.i64.wrap ((h : Int) * 2) = (h2 : Int) := by rw [IntKind.wrap_i64]; omega
      rw [← eh2] at EN
      have HE := Lib.hid eh2
      clear O J HT MU HS LT hh hms hps mu hst hs l1 l2 JN hsk eh2
      generalize H s = F at *
      generalize TT s = tt at *
      go_wp2_with fail
      obtain ⟨wo, rfl⟩ : ∃ wo : World, wo = wr := ⟨_, rfl⟩
      go_loopw [6] (fun v6 wr => ∃ fr : Nat, v6 = .int .i64 (fr : Int) ∧ IR b n h F tt w wr fr) (fun v6 _ => n - (Lib.intOf v6).toNat)
      case atStart => exact ⟨0, rfl, I0.out⟩
      case round =>
        obtain ⟨fr, rfl, I⟩ := hrel
        clear I0
        have fl := I.l
        by_cases hf : fr < n
        · have f1 : (fr : Int) < n := by omega
          obtain ⟨c, hc⟩ := I.c
          have nx : fr + h2 ≤ n := by have := MU1.out c (by omega); rw [Nat.succ_mul c (2 * h), ← hc, ← HE.out] at this; exact this
          have eh2 := HE.out
          obtain ⟨q, eq⟩ : ∃ q, q = fr + h := ⟨_, rfl⟩
          obtain ⟨r, er⟩ : ∃ r, r = fr + h2 := ⟨_, rfl⟩
          have q4 : IntKind.i64.wrap ((fr : Int) + (h : Int)) = (q : Int) := by rw [IntKind.wrap_i64]; omega
          have q5 : IntKind.i64.wrap ((fr : Int) + (h2 : Int)) = (r : Int) := by rw [IntKind.wrap_i64]; omega
          have hs3 := fun W => slice_both W b 0 n ca fr q h eq.symm l3 (by omega)
          have hs4 := fun W => slice_both W b 0 n ca q r h (by omega) l3 (by omega)
          rw [Nat.zero_add] at hs3 hs4
          have SBS := fun (W : World) (h7 : JR b n (jo (sb F tt h fr) tt fr h h) w W) => show IR b n h F tt w W r from
            ⟨h7.congr fun j _ => by rw [er, HE.out, hc]; have := sb_step F tt h c j; rwa [Nat.succ_mul c (2 * h)] at this, ⟨c + 1, by rw [er, HE.out, hc, Nat.succ_mul c (2 * h)]⟩, by omega⟩
          have SB := Lib.hid SBS
          have JJ := I.j.drew
          have RR := R.but JJ.o
          have C1 := Lib.hid (J1.out fr q h sp (ca - fr) (ca - q) (sb F tt h fr) tt eq (by omega) (FL.out fr) PS.out hsp _ JJ.self RR)
          have hr : r ≤ n := by omega
          have hrf : fr < r := by omega
          clear I hc er eq eh2 nx SBS J1 PS FL
          go_upto_region 7 with fail
          go_region_with (go_at_call 84; refine C1.out.mono ?_; rintro e w8 ⟨rfl, J8⟩)
          all_goals (go_wp2_with fail)
          all_goals go_roundw
          all_goals first
            | exact ⟨r, rfl, SB.out _ (J8.trans JJ.o)⟩
            | (simp [Lib.intOf]; omega)
        · have f1 : ¬ (fr : Int) < n := by omega
          obtain rfl : fr = n := by omega
          have O2 := Lib.hid (EN.out _ I)
          have eh2 := HE.out
          clear I EN
          go_wp2_with fail
          go_roundw
          case rel => exact ⟨h2, by rw [HE.out, Int.natCast_mul]; rfl, O2.out⟩
          case measure => simp [Lib.intOf]; omega
    · have h1 : ¬ (h : Int) < n := by omega
      obtain rfl : s = k := by
        apply Classical.byContradiction
        intro c
        exact hlt (l1.2 (by omega))
      have OK := Lib.hid J
      clear J O HT HS LT MU JN HH l1 hs hh
      go_wp2
      go_end0
      exact ⟨rfl, OK.out⟩
/-- All rounds: the plain transform of a row that was turned about. -/
theorem joinHalves (b n ca k d m c3 : Nat) (T : Option Addr) (hk : k ≤ 20) (hn : n = 2 ^ k) (hm : m = 2 ^ (k - 1)) (hca : n ≤ ca) (x : Nat → Nat) (w : World) (J : JR b n (fun i => x (Rn.tn k 1 i) % 18446744069414584321) w w)
    (R : Wo w b T (rg (fun i => rd k d ^ i % 18446744069414584321) m)) :
    Calls Tryd.prog 80 #[.slice (some ⟨b, 0, none⟩) n ca, .slice T m c3] w fun e w' => e = .returned (.tuple #[]) ∧ JR b n (tf x n (rd k d)) w w' := by
  have hm2 : m ≤ 1048576 := by rw [hm]; exact Nat.le_trans (Nat.pow_le_pow_right (by decide) (by omega)) (show 2 ^ 20 ≤ 1048576 by decide)
  refine (joinHalves_core b n ca k m c3 T _ (rg_len _ _) hk hn hca hm2 (hv x k d) (fun s i => rd (s + 1) d ^ i % 18446744069414584321) (fun s j => hv_lt x k d s j) (fun s j hs => hv_step x k d s hs (by omega) j) (fun s hs => ?_) w (J.congr fun j _ => (hv_zero x k d j).symm) R).mono fun e w' ⟨he, J'⟩ => ⟨he, J'.congr fun j hj => by rw [hn] at hj ⊢; exact hv_all x k d j hj⟩
  obtain ⟨e, he⟩ : ∃ e, k = s + 1 + e := ⟨k - (s + 1), by omega⟩
  have em : m = 2 ^ e * 2 ^ s := by rw [hm, ← Nat.pow_add]; congr 1; omega
  have le : 2 ^ e ≤ 1048576 := Nat.le_trans (Nat.pow_le_pow_right (by decide) (by omega)) (show 2 ^ 20 ≤ 1048576 by decide)
  refine ⟨2 ^ e, le, em, fun i hi => ?_⟩
  have hlt : i * 2 ^ e < m := by rw [em, Nat.mul_comm]; exact Nat.mul_lt_mul_of_pos_left hi (Nat.two_pow_pos e)
  refine ⟨hlt, ?_⟩
  rw [pl_rg _ _ _ hlt, Nat.mul_comm, Nat.pow_mul, ← Nt.pmod, he, rd_pow d (s + 1) e (by omega)]
end Kn
end Go.Proofs.YtnnieiedkjekpaaDoor
set_option linter.unusedVariables false
namespace Go.Proofs.YtnnieiedkjekpaaDoor
open Go.RowKit Go.Lib Go.Sort
namespace Kn
open Nm Ww Tn Pl Td

theorem Ce.but {w w' : World} {b p : Nat} {v0 v1 v2 v3 : Value} (h : Ce w p v0 v1 v2 v3) (hp : p ≠ b) (o : But b w w') : Ce w' p v0 v1 v2 v3 :=
  ⟨(o.cell ⟨p, 0, none⟩ hp h.lt).trans h.c0, (o.cell ⟨p, 1, none⟩ hp h.lt).trans h.c1, (o.cell ⟨p, 2, none⟩ hp h.lt).trans h.c2, (o.cell ⟨p, 3, none⟩ hp h.lt).trans h.c3,
   (o.frz ⟨p, 0, none⟩ hp h.lt).trans h.f0, (o.frz ⟨p, 1, none⟩ hp h.lt).trans h.f1, (o.frz ⟨p, 2, none⟩ hp h.lt).trans h.f2, (o.frz ⟨p, 3, none⟩ hp h.lt).trans h.f3⟩
/-- A kernel of an exponent, in memory, in other blocks than b. -/
structure Ka (w : World) (b k p bf bi : Nat) : Prop where
  c : Ce w p (.int .i64 (k : Int)) (.slice (some ⟨bf, 0, none⟩) (2 ^ (k - 1)) (2 ^ (k - 1))) (.slice (some ⟨bi, 0, none⟩) (2 ^ (k - 1)) (2 ^ (k - 1))) (.int .u64 (Nt.inv (2 ^ k) : Nat))
  p : p ≠ b
  rf : Wo w b (some ⟨bf, 0, none⟩) (rg (fun i => rd k 0 ^ i % 18446744069414584321) (2 ^ (k - 1)))
  ri : Wo w b (some ⟨bi, 0, none⟩) (rg (fun i => rd k 1 ^ i % 18446744069414584321) (2 ^ (k - 1)))
theorem Ka.but {w w' : World} {b k p bf bi : Nat} (h : Ka w b k p bf bi) (o : But b w w') : Ka w' b k p bf bi := ⟨h.c.but h.p o, h.p, h.rf.but o, h.ri.but o⟩
/-- A kernel of an exponent, in memory below block B. -/
structure Kr (w : World) (B k p bf bi : Nat) : Prop where
  c : Ce w p (.int .i64 (k : Int)) (.slice (some ⟨bf, 0, none⟩) (2 ^ (k - 1)) (2 ^ (k - 1))) (.slice (some ⟨bi, 0, none⟩) (2 ^ (k - 1)) (2 ^ (k - 1))) (.int .u64 (Nt.inv (2 ^ k) : Nat))
  p : p < B
  rf : Ws w B (some ⟨bf, 0, none⟩) (rg (fun i => rd k 0 ^ i % 18446744069414584321) (2 ^ (k - 1)))
  ri : Ws w B (some ⟨bi, 0, none⟩) (rg (fun i => rd k 1 ^ i % 18446744069414584321) (2 ^ (k - 1)))
theorem Kr.below {w w' : World} {B k p bf bi : Nat} (h : Kr w B k p bf bi) (hb : Below B w w') : Kr w' B k p bf bi := ⟨h.c.low h.p hb, h.p, h.rf.below hb, h.ri.below hb⟩
theorem Kr.more {w : World} {B B' k p bf bi : Nat} (h : Kr w B k p bf bi) (hb : B ≤ B') : Kr w B' k p bf bi := ⟨h.c, Nat.lt_of_lt_of_le h.p hb, h.rf.more hb, h.ri.more hb⟩
theorem Kr.step {w w' : World} {B k p bf bi : Nat} (h : Kr w w.heap.size k p bf bi) (hb : Below w.heap.size w w') : Kr w' w'.heap.size k p bf bi := (h.below hb).more hb.size
theorem Kr.aside {w : World} {b k p bf bi : Nat} (h : Kr w b k p bf bi) (hb : b ≤ w.heap.size) : Ka w b k p bf bi := ⟨h.c, Nat.ne_of_lt h.p, Wo.low h.rf hb, Wo.low h.ri hb⟩
/-- .. of which it is known that it lies in blocks from lo on. -/
structure Kb (w : World) (lo k p bf bi : Nat) : Prop where
  r : Kr w w.heap.size k p bf bi
  p : lo ≤ p
  f : lo ≤ bf
  i : lo ≤ bi
theorem Kb.step {w w' : World} {lo k p bf bi : Nat} (h : Kb w lo k p bf bi) (hb : Below w.heap.size w w') : Kb w' lo k p bf bi := ⟨(h.r.below hb).more hb.size, h.p, h.f, h.i⟩
theorem Kb.aside {w : World} {lo b k p bf bi : Nat} (h : Kb w lo k p bf bi) (hb : b < lo) : Ka w b k p bf bi :=
  ⟨h.r.c, by have := h.p; omega, Wo.of h.r.rf (Nat.le_refl _) (fun b2 off e _ => by injection e with e; injection e with e1 e2; have := h.f; omega), Wo.of h.r.ri (Nat.le_refl _) (fun b2 off e _ => by injection e with e; injection e with e1 e2; have := h.i; omega)⟩

set_option maxHeartbeats 400000 in
theorem new_bad (k : Int) (h : k < 0 ∨ 20 < k) (w : World) :
    Calls Tryd.prog 43 #[.int .i64 k] w fun e w' => e = .returned (.pointer none) ∧ w = w' := by
  have H := Lib.hid h
  clear h
  by_cases h0 : k < 0
  · go_enter Tryd.func43, Tryd.ntmps43
    go_wp2
    go_ret
    exact ⟨by simp, rfl⟩
  · have h1 : 20 < k := by have := H.out; omega
    go_enter Tryd.func43, Tryd.ntmps43
    go_wp2
    go_ret
    exact ⟨by simp, rfl⟩

set_option maxHeartbeats 1000000 in
theorem new_core (k m sh : Nat) (hk : k ≤ 20) (g0 g1 : Nat → Nat)
    (hT0 : ∀ W, Calls Tryd.prog 59 #[.int .i64 (k : Int), .int .i64 0] W (RwE g0 m W)) (hT1 : ∀ W, Calls Tryd.prog 59 #[.int .i64 (k : Int), .int .i64 1] W (RwE g1 m W))
    (hS : ∀ W, Calls Tryd.prog 44 #[.int .i64 (k : Int)] W fun e w' => e = .returned (.tuple #[.int .u64 (sh : Nat), .int .i64 0]) ∧ Below W.heap.size W w') (w : World) :
    Calls Tryd.prog 43 #[.int .i64 (k : Int)] w fun e w' => ∃ p bf bi, e = .returned (.pointer (some ⟨p, 0, none⟩)) ∧ Ce w' p (.int .i64 (k : Int)) (.slice (some ⟨bf, 0, none⟩) m m) (.slice (some ⟨bi, 0, none⟩) m m) (.int .u64 (sh : Nat)) ∧
      (w.heap.size ≤ p ∧ w.heap.size ≤ bf ∧ w.heap.size ≤ bi) ∧ p < w'.heap.size ∧ bf < w'.heap.size ∧ bi < w'.heap.size ∧ Wk w' bf 0 m g0 ∧ Wk w' bi 0 m g1 ∧ Below w.heap.size w w' := by
  have h0 : ¬ (k : Int) < 0 := by omega
  have h1 : ¬ 20 < (k : Int) := by omega
  have T0 := Lib.hid hT0
  have T1 := Lib.hid hT1
  have SH := Lib.hid hS
  have CF := Lib.hid (fun v0 v1 v2 v3 => Ce.fresh w v0 v1 v2 v3 63)
  have CB := Lib.hid (below_alloc w)
  have CS := Lib.hid (fun o => show (w.alloc o).heap.size = w.heap.size + 1 by simp)
  clear hT0 hT1 hS
  go_enter Tryd.func43, Tryd.ntmps43
  go_wp2_with fail
  refine (T0.out _).mono ?_
  rintro e w1 ⟨b1, rfl, s1, l1, K1, d1⟩
  have C1 := (CF.out _ _ _ _).below d1
  have B1 := (CB.out _).trans (d1.mono (CB.out _).size)
  rw [CS.out] at s1
  clear d1
  have c0 := C1.c1
  have f0 := C1.f1
  have C2 := C1.put1 (.slice (some ⟨b1, 0, none⟩) m m)
  have B2 := B1.setCell (p := ⟨w.heap.size, 1, none⟩) (Nat.le_refl _) (.slice (some ⟨b1, 0, none⟩) m m)
  have K2 := K1.other (a := ⟨w.heap.size, 1, none⟩) (by show w.heap.size ≠ b1; omega) (.slice (some ⟨b1, 0, none⟩) m m)
  have l2 : b1 < (w1.setCell ⟨w.heap.size, 1, none⟩ (.slice (some ⟨b1, 0, none⟩) m m)).heap.size := by simp [World.setCell]; exact l1
  clear C1 B1 K1 l1
  go_wp2_with fail
  clear c0 f0
  generalize w1.setCell ⟨w.heap.size, 1, none⟩ (.slice (some ⟨b1, 0, none⟩) m m) = wa at *
  refine (T1.out _).mono ?_
  rintro e w2 ⟨b2, rfl, s2, m1, L1, d2⟩
  have C3 := C2.below d2
  have B3 := B2.trans (d2.mono B2.size)
  have K3 := K2.below l2 d2
  have l3 := Nat.lt_of_lt_of_le l2 d2.size
  have z := C2.lt
  clear C2 B2 K2 d2 l2
  have c0 := C3.c2
  have f0 := C3.f2
  have C4 := C3.put2 (.slice (some ⟨b2, 0, none⟩) m m)
  have B4 := B3.setCell (p := ⟨w.heap.size, 2, none⟩) (Nat.le_refl _) (.slice (some ⟨b2, 0, none⟩) m m)
  have K4 := K3.other (a := ⟨w.heap.size, 2, none⟩) (by show w.heap.size ≠ b1; omega) (.slice (some ⟨b2, 0, none⟩) m m)
  have L4 := L1.other (a := ⟨w.heap.size, 2, none⟩) (by show w.heap.size ≠ b2; omega) (.slice (some ⟨b2, 0, none⟩) m m)
  have l4 : b1 < (w2.setCell ⟨w.heap.size, 2, none⟩ (.slice (some ⟨b2, 0, none⟩) m m)).heap.size := by simp [World.setCell]; exact l3
  have m4 : b2 < (w2.setCell ⟨w.heap.size, 2, none⟩ (.slice (some ⟨b2, 0, none⟩) m m)).heap.size := by simp [World.setCell]; exact m1
  clear C3 B3 K3 l3 L1 m1
  go_wp2_with fail
  clear c0 f0
  generalize w2.setCell ⟨w.heap.size, 2, none⟩ (.slice (some ⟨b2, 0, none⟩) m m) = wb at *
  refine (SH.out _).mono ?_
  rintro e w3 ⟨rfl, d3⟩
  have C5 := C4.below d3
  have B5 := B4.trans (d3.mono B4.size)
  have K5 := K4.below l4 d3
  have L5 := L4.below m4 d3
  have l5 := Nat.lt_of_lt_of_le l4 d3.size
  have m5 := Nat.lt_of_lt_of_le m4 d3.size
  clear C4 B4 K4 L4 d3 l4 m4
  have c0 := C5.c3
  have f0 := C5.f3
  have C6 := C5.put3 (.int .u64 (sh : Nat))
  have B6 := B5.setCell (p := ⟨w.heap.size, 3, none⟩) (Nat.le_refl _) (.int .u64 (sh : Nat))
  have K6 := K5.other (a := ⟨w.heap.size, 3, none⟩) (by show w.heap.size ≠ b1; omega) (.int .u64 (sh : Nat))
  have L6 := L5.other (a := ⟨w.heap.size, 3, none⟩) (by show w.heap.size ≠ b2; omega) (.int .u64 (sh : Nat))
  have l6 : b1 < (w3.setCell ⟨w.heap.size, 3, none⟩ (.int .u64 (sh : Nat))).heap.size := by simp [World.setCell]; exact l5
  have m6 : b2 < (w3.setCell ⟨w.heap.size, 3, none⟩ (.int .u64 (sh : Nat))).heap.size := by simp [World.setCell]; exact m5
  clear C5 B5 K5 L5 l5 m5
  have r0 := C6.c0
  have r1 := C6.c1
  have r2 := C6.c2
  have r3 := C6.c3
  have FR := Lib.hid (fun wx (hx : wx = w3.setCell ⟨w.heap.size, 3, none⟩ (.int .u64 (sh : Nat))) => show
      Ce (wx.alloc (.cells #[.int .i64 (k : Int), .slice (some ⟨b1, 0, none⟩) m m, .slice (some ⟨b2, 0, none⟩) m m, .int .u64 (sh : Nat)] 65)) wx.heap.size (.int .i64 (k : Int)) (.slice (some ⟨b1, 0, none⟩) m m) (.slice (some ⟨b2, 0, none⟩) m m) (.int .u64 (sh : Nat)) ∧
      wx.heap.size < (wx.alloc (.cells #[.int .i64 (k : Int), .slice (some ⟨b1, 0, none⟩) m m, .slice (some ⟨b2, 0, none⟩) m m, .int .u64 (sh : Nat)] 65)).heap.size ∧
      b1 < (wx.alloc (.cells #[.int .i64 (k : Int), .slice (some ⟨b1, 0, none⟩) m m, .slice (some ⟨b2, 0, none⟩) m m, .int .u64 (sh : Nat)] 65)).heap.size ∧
      b2 < (wx.alloc (.cells #[.int .i64 (k : Int), .slice (some ⟨b1, 0, none⟩) m m, .slice (some ⟨b2, 0, none⟩) m m, .int .u64 (sh : Nat)] 65)).heap.size ∧
      Wk (wx.alloc (.cells #[.int .i64 (k : Int), .slice (some ⟨b1, 0, none⟩) m m, .slice (some ⟨b2, 0, none⟩) m m, .int .u64 (sh : Nat)] 65)) b1 0 m g0 ∧
      Wk (wx.alloc (.cells #[.int .i64 (k : Int), .slice (some ⟨b1, 0, none⟩) m m, .slice (some ⟨b2, 0, none⟩) m m, .int .u64 (sh : Nat)] 65)) b2 0 m g1 ∧
      Below w.heap.size w (wx.alloc (.cells #[.int .i64 (k : Int), .slice (some ⟨b1, 0, none⟩) m m, .slice (some ⟨b2, 0, none⟩) m m, .int .u64 (sh : Nat)] 65)) by
    rw [← hx] at K6 L6 l6 m6 B6
    have bl := below_alloc wx (.cells #[.int .i64 (k : Int), .slice (some ⟨b1, 0, none⟩) m m, .slice (some ⟨b2, 0, none⟩) m m, .int .u64 (sh : Nat)] 65)
    exact ⟨Ce.fresh _ _ _ _ _ _, by simp, Nat.lt_of_lt_of_le l6 bl.size, Nat.lt_of_lt_of_le m6 bl.size, K6.below l6 bl, L6.below m6 bl, B6.trans (bl.mono B6.size)⟩)
  have SZ : (w3.setCell ⟨w.heap.size, 3, none⟩ (.int .u64 (sh : Nat))).heap.size = w3.heap.size := by simp [World.setCell]
  have LO := Lib.hid (show w.heap.size ≤ w3.heap.size ∧ w.heap.size ≤ b1 ∧ w.heap.size ≤ b2 from ⟨by have := B6.size; rw [SZ] at this; exact this, by omega, by omega⟩)
  have F2 := FR.out _ rfl
  rw [SZ] at F2
  have F3 := Lib.hid F2
  clear C6 B6 K6 L6 l6 m6 FR F2 SZ
  go_wp2
  exact bodyPost_ret (v := .pointer (some ⟨w3.heap.size, 0, none⟩)) (by simp [results, Tryd.results43, go_sem]) rfl ⟨_, b1, b2, rfl, F3.out.1, LO.out, F3.out.2⟩
theorem new_at (k : Nat) (hk : k ≤ 20) (w : World) :
    Calls Tryd.prog 43 #[.int .i64 (k : Int)] w fun e w' => ∃ p bf bi, e = .returned (.pointer (some ⟨p, 0, none⟩)) ∧ Kb w' w.heap.size k p bf bi ∧ Below w.heap.size w w' :=
  (new_core k _ _ hk _ _ (fun W => table k 0 hk (by decide) W) (fun W => table k 1 hk (by decide) W) (fun W => share k (by omega) W) w).mono fun e w' ⟨p, bf, bi, he, hc, ⟨o1, o2, o3⟩, h1, h2, h3, K0, K1, hb⟩ =>
    ⟨p, bf, bi, he, ⟨⟨hc, h1, wk_ws K0 (fun i => Nat.mod_lt _ (by decide)) h2, wk_ws K1 (fun i => Nat.mod_lt _ (by decide)) h3⟩, o1, o2, o3⟩, hb⟩
theorem new (k : Nat) (hk : k ≤ 20) (w : World) :
    Calls Tryd.prog 43 #[.int .i64 (k : Int)] w fun e w' => ∃ p bf bi, e = .returned (.pointer (some ⟨p, 0, none⟩)) ∧ Kr w' w'.heap.size k p bf bi ∧ Below w.heap.size w w' :=
  (new_at k hk w).mono fun e w' ⟨p, bf, bi, he, h, hb⟩ => ⟨p, bf, bi, he, h.r, hb⟩

set_option maxHeartbeats 400000 in
theorem kOf {w : World} {p : Nat} {v0 v1 v2 v3 : Value} (C : Ce w p v0 v1 v2 v3) :
    Calls Tryd.prog 45 #[.pointer (some ⟨p, 0, none⟩)] w fun e w' => e = .returned v0 ∧ w = w' := by
  have c0 := C.c0
  clear C
  go_enter Tryd.func45, Tryd.ntmps45
  go_wp2
  go_ret
  exact ⟨by simp, rfl⟩
set_option maxHeartbeats 400000 in
theorem powers_fwd {w : World} {p : Nat} {v0 v1 v2 v3 : Value} (C : Ce w p v0 v1 v2 v3) :
    Calls Tryd.prog 79 #[.pointer (some ⟨p, 0, none⟩), .int .i64 0] w fun e w' => e = .returned (.tuple #[v1, .int .i64 0]) ∧ w = w' := by
  have c1 := C.c1
  clear C
  go_enter Tryd.func79, Tryd.ntmps79
  go_wp2
  go_ret2
  exact ⟨rfl, rfl⟩
set_option maxHeartbeats 400000 in
theorem powers_inv {w : World} {p : Nat} {v0 v1 v2 v3 : Value} (C : Ce w p v0 v1 v2 v3) :
    Calls Tryd.prog 79 #[.pointer (some ⟨p, 0, none⟩), .int .i64 1] w fun e w' => e = .returned (.tuple #[v2, .int .i64 0]) ∧ w = w' := by
  have c1 := C.c2
  clear C
  go_enter Tryd.func79, Tryd.ntmps79
  go_wp2
  go_ret2
  exact ⟨rfl, rfl⟩
set_option maxHeartbeats 400000 in
theorem powers_kind (p : Option Addr) (d : Int) (h0 : d ≠ 0) (h1 : d ≠ 1) (w : World) :
    Calls Tryd.prog 79 #[.pointer p, .int .i64 d] w fun e w' => e = .returned (.tuple #[.slice none 0 0, .int .i64 18]) ∧ w = w' := by
  have d0 : (d == 0) = false := by simp [h0]
  have d1 : (d == 1) = false := by simp [h1]
  go_enter Tryd.func79, Tryd.ntmps79
  go_wp2
  go_ret2
  exact ⟨rfl, rfl⟩
end Kn
end Go.Proofs.YtnnieiedkjekpaaDoor
