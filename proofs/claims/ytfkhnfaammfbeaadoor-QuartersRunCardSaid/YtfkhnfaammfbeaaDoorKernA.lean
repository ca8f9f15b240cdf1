/- Contracts of package kern2: join. -/
import Derived.Test.YtfkhnfaammfbeaaDoorTwidE
import Derived.Test.YtfkhnfaammfbeaaDoorHalfM
import Derived.Test.YtfkhnfaammfbeaaDoorWing
import Derived.Deep.RegionWith
import Derived.Deep.DeepCutAuto
import Derived.Lib.QuietBelow
set_option linter.unusedVariables false
namespace Go.Proofs.YtfkhnfaammfbeaaDoor
open Go.RowKit Go.Lib Go.Sort
namespace Kn
open Nm Ww Tn Pl

theorem But.trans {b : Nat} {w w1 w2 : World} (h : But b w w1) (h2 : But b w1 w2) : But b w w2 :=
  ⟨h.bel.trans h2.bel, fun p q1 q2 => (h2.cell p q1 (Nat.lt_of_lt_of_le q2 h.bel.size)).trans (h.cell p q1 q2), fun p q1 q2 => (h2.frz p q1 (Nat.lt_of_lt_of_le q2 h.bel.size)).trans (h.frz p q1 q2)⟩
theorem But.of_below {b : Nat} {w w1 : World} (h : Below w.heap.size w w1) (hb : b ≤ w.heap.size) : But b w w1 :=
  ⟨h.mono hb, fun p _ q => h.cell (p := p) q, fun p _ q => h.frozen (p := p) q⟩
/-- A row that is being written, in its own block b; all other blocks that were there stay. -/
structure JR (b n : Nat) (f : Nat → Nat) (w wr : World) : Prop where
  k : Wk wr b 0 n f
  o : But b w wr
  s : b < wr.heap.size
section
variable {b n : Nat} {f g : Nat → Nat} {w wr w1 : World}
theorem JR.bel (h : JR b n f w wr) : Below b w wr := h.o.bel
theorem JR.call (h : JR b n f w wr) (hc : Below wr.heap.size wr w1) : JR b n f w w1 := ⟨h.k.step hc, But.trans h.o (But.of_below hc (Nat.le_of_lt h.s)), Nat.lt_of_lt_of_le h.s hc.size⟩
theorem JR.drew (h : JR b n f w wr) : JR b n f w wr.drew := ⟨h.k.drew, h.o.drew, h.s⟩
theorem JR.drewN (h : JR b n f w wr) (k : Nat) : JR b n f w (wr.drewN k) := ⟨h.k.drewN k, ⟨Ww.below_drewN h.bel k, h.o.cell, h.o.frz⟩, h.s⟩
theorem JR.put (h : JR b n f w wr) (i v : Nat) (hi : i < n) : JR b n (upd f i v) w (wr.setCell ⟨b, i, none⟩ (.int .u64 (v : Nat))) := by
  have K1 := h.k.put i v hi
  rw [Nat.zero_add] at K1
  exact ⟨K1, h.o.put i _, by simp [World.setCell]; exact h.s⟩
theorem JR.at_ (h : JR b n f w wr) (i : Nat) (hi : i < n) : wr.cell? ⟨b, i, none⟩ = some (.int .u64 (f i : Nat)) ∧ wr.frozen? ⟨b, i, none⟩ = false := by
  have c := h.k.c i hi
  have z := h.k.z i hi
  rw [Nat.zero_add] at c z
  exact ⟨c, z⟩
theorem JR.congr (h : JR b n f w wr) (e : ∀ j, j < n → f j = g j) : JR b n g w wr := ⟨⟨fun i hi => by rw [h.k.c i hi, e i hi], h.k.z⟩, h.o, h.s⟩
theorem JR.trans {w0 : World} (h0 : But b w0 w) (h : JR b n f w wr) : JR b n f w0 wr := ⟨h.k, But.trans h0 h.o, h.s⟩
end
/-- The slice at A, in another block than b, holds the words xs. -/
structure Wo (w : World) (b : Nat) (A : Option Addr) (xs : List Nat) : Prop where
  at_ : ∀ i, i < xs.length → ∃ b2 off : Nat, A = some ⟨b2, off, none⟩ ∧ (b2 ≠ b ∧ b2 < w.heap.size) ∧ w.cell? ⟨b2, off + i, none⟩ = some (.int .u64 (xs.getD i 0 : Nat))
  lt : ∀ i, i < xs.length → xs.getD i 0 < 18446744073709551616
theorem Wo.but {w w' : World} {b : Nat} {A : Option Addr} {xs : List Nat} (h : Wo w b A xs) (o : But b w w') : Wo w' b A xs :=
  ⟨fun i hi => by
    obtain ⟨b2, off, e, hB, c⟩ := h.at_ i hi
    exact ⟨b2, off, e, ⟨hB.1, Nat.lt_of_lt_of_le hB.2 o.bel.size⟩, (o.cell ⟨b2, off + i, none⟩ hB.1 hB.2).trans c⟩, h.lt⟩
theorem Wo.of {w : World} {b B : Nat} {A : Option Addr} {xs : List Nat} (h : Ws w B A xs) (hB : B ≤ w.heap.size) (ne : ∀ b2 off, A = some ⟨b2, off, none⟩ → b2 < B → b2 ≠ b) : Wo w b A xs :=
  ⟨fun i hi => by
    obtain ⟨b2, off, e, h2, c⟩ := h.at_ i hi
    exact ⟨b2, off, e, ⟨ne _ _ e h2, Nat.lt_of_lt_of_le h2 hB⟩, c⟩, h.lt⟩
theorem Wo.low {w : World} {b : Nat} {A : Option Addr} {xs : List Nat} (h : Ws w b A xs) (hb : b ≤ w.heap.size) : Wo w b A xs := Wo.of h hb fun _ _ _ h2 => Nat.ne_of_lt h2

set_option maxHeartbeats 2000000 in
set_option maxRecDepth 100000 in
theorem join (b p q h n c1 c2 c3 m sp : Nat) (T : Option Addr) (ps : List Nat) (hm : ps.length = m) (f t : Nat → Nat) (hq : q = p + h) (hn : q + h ≤ n) (hl : n ≤ 1048576) (hml : m ≤ 1048576) (hf : ∀ j, f j < 18446744073709551616)
    (ht : ∀ i, i < h → i * sp < m ∧ Pn.pl ps (i * sp) = t i) (hsp : sp ≤ 1048576) (w : World) (J : JR b n f w w) (R : Wo w b T ps) :
    Calls Tryd.prog 53 #[.slice (some ⟨b, p, none⟩) h c1, .slice (some ⟨b, q, none⟩) h c2, .slice T m c3, .int .i64 (sp : Int)] w fun e w' => e = .returned (.tuple #[]) ∧ JR b n (jo f t p h h) w w' := by
  have BF := Lib.hid (fun i (h : t i < 18446744073709551616) W => butterfly (f (p + i)) (f (q + i)) (t i) (hf _) (hf _) h W)
  have HT := Lib.hid ht
  have HM := Lib.hid hm
  have JA := Lib.hid (fun i (hi : i < h) => show jo f t p h i (p + i) = f (p + i) ∧ jo f t p h i (q + i) = f (q + i) by rw [hq]; exact ⟨jo_even f t p h i hi, jo_odd f t p h i hi⟩)
  have JS := Lib.hid (fun i (hi : i < h) => show upd (upd (jo f t p h i) (p + i) (bs (f (p + i)) (f (q + i)) (t i))) (q + i) (bd (f (p + i)) (f (q + i)) (t i)) = jo f t p h (i + 1) by rw [hq]; exact jo_step f t p h i hi)
  have ST := Lib.hid (show JR b n (jo f t p h 0) w w by rw [jo_zero]; exact J)
  have HQ := Lib.hid hq
  clear ht hm hf J hq
  go_enter Tryd.func53, Tryd.ntmps53
  go_wp2_with fail
  go_loopw [11] (fun v11 wr => ∃ i : Nat, v11 = .int .i64 (i : Int) ∧ i ≤ h ∧ JR b n (jo f t p h i) w wr) (fun v11 _ => h - (Lib.intOf v11).toNat)
  case atStart => exact ⟨0, rfl, Nat.zero_le _, ST.out⟩
  case round =>
    obtain ⟨i, rfl, hi, J⟩ := hrel
    clear ST
    by_cases hlt : i < h
    · have i1 : (i : Int) < h := by omega
      obtain ⟨hu, hpt⟩ := HT.out i hlt
      have R1 := R.but J.o
      obtain ⟨b2, o2, rfl, hB2, c4⟩ := R1.at_ (i * sp) (by rw [HM.out]; exact hu)
      have c5 : wr.cell? ⟨b2, o2 + i * sp, none⟩ = some (.int .u64 (t i : Nat)) := by rw [c4]; exact congrArg (fun (x : Nat) => some (Value.int .u64 (x : Int))) hpt
      have B := Lib.hid (BF.out i (by have := R1.lt (i * sp) (by rw [HM.out]; exact hu); rw [← hpt]; exact this))
      have ja := JA.out i hlt
      have js := JS.out i hlt
      have hp1 : p + i < n := by have := HQ.out; omega
      have hp2 : q + i < n := by omega
      have hne : ¬ p + i = q + i := by have := HQ.out; omega
      have hne2 : ¬ q + i = p + i := by omega
      have hnp : ¬ p = q := by omega
      have hnp2 : ¬ q = p := by omega
      obtain ⟨u, eu⟩ : ∃ u, u = i * sp := ⟨_, rfl⟩
      have q1 : IntKind.i64.wrap ((i : Int) * (sp : Int)) = (u : Int) := by rw [← Int.natCast_mul, ← eu]; exact IntWalk.i64_in _ (by omega)
      rw [← eu] at c5 hu
      have e1 : wr.drew.cell? ⟨b2, o2 + u, none⟩ = some (.int .u64 (t i : Nat)) := c5
      have J1 := Lib.hid J
      have A1 := (J.drew.at_ (p + i) hp1)
      have A2 := (J.drew.at_ (q + i) hp2)
      rw [ja.1] at A1
      rw [ja.2] at A2
      obtain ⟨a1, a2⟩ := A1
      obtain ⟨a3, a4⟩ := A2
      obtain ⟨S, hS⟩ : ∃ S, S = bs (f (p + i)) (f (q + i)) (t i) := ⟨_, rfl⟩
      obtain ⟨D, hD⟩ : ∃ D, D = bd (f (p + i)) (f (q + i)) (t i) := ⟨_, rfl⟩
      rw [← hS, ← hD] at B js
      have JE := Lib.hid js
      have JA1 := Lib.hid (fun w3 (h3 : JR b n (jo f t p h i) w w3) => show (w3.cell? ⟨b, p + i, none⟩ = some (.int .u64 (f (p + i) : Nat)) ∧ w3.frozen? ⟨b, p + i, none⟩ = false) ∧ (w3.cell? ⟨b, q + i, none⟩ = some (.int .u64 (f (q + i) : Nat)) ∧ w3.frozen? ⟨b, q + i, none⟩ = false) from
        ⟨by have := h3.at_ (p + i) hp1; rw [ja.1] at this; exact this, by have := h3.at_ (q + i) hp2; rw [ja.2] at this; exact this⟩)
      have PT := Lib.hid (fun w3 (h3 : JR b n (jo f t p h i) w w3) => show JR b n (jo f t p h (i + 1)) w ((w3.setCell ⟨b, p + i, none⟩ (.int .u64 (S : Nat))).setCell ⟨b, q + i, none⟩ (.int .u64 (D : Nat))) by
        have := (h3.put (p + i) S hp1).put (q + i) D hp2
        rw [js] at this
        exact this)
      clear hS hD eu c4 c5 R1 ja js hpt BF JA JS HT J JE
      generalize f (p + i) = x at *
      generalize f (q + i) = y at *
      generalize t i = z at *
      go_upto_region 3 with fail
      go_region_with (go_at_call 34; refine (B.out _).mono ?_; rintro e w3 ⟨rfl, hb3⟩; have K3 := J1.out.drew.call hb3; obtain ⟨⟨g0, g1⟩, g2, g3⟩ := JA1.out _ K3)
      all_goals (go_wp2_with fail)
      all_goals go_roundw
      all_goals first
        | exact ⟨i + 1, rfl, by omega, PT.out _ K3⟩
        | (simp [Lib.intOf]; omega)
    · have i1 : ¬ (i : Int) < h := by omega
      obtain rfl : i = h := by omega
      have OK := Lib.hid J
      clear J
      go_wp2
      exact bodyPost_end (v := .tuple #[]) (by simp [results, Tryd.results53, go_sem]) rfl ⟨rfl, OK.out⟩
end Kn
end Go.Proofs.YtfkhnfaammfbeaaDoor
