/- Contracts of package poly: takeAway, Div. -/
import Derived.Test.YtckaelgmokddkaaPolyG
import Derived.Test.YtckaelgmokddkaaPolyQ
set_option linter.unusedVariables false
namespace Go.Proofs.Ytckaelgmokddkaa
open Go.RowKit Go.Lib Go.Sort
namespace Pl
open Ww Pn Nt

/-- All blocks but b are as they were. -/
structure But (b : Nat) (w w' : World) : Prop where
  bel : Below b w w'
  cell : ∀ p : Addr, p.block ≠ b → p.block < w.heap.size → w'.cell? p = w.cell? p
  frz : ∀ p : Addr, p.block ≠ b → p.block < w.heap.size → w'.frozen? p = w.frozen? p
section
variable {b : Nat} {w w1 w2 : World}
theorem But.refl (b : Nat) (w : World) : But b w w := ⟨Below.refl _ _, fun _ _ _ => rfl, fun _ _ _ => rfl⟩
theorem But.call (h : But b w w1) (hb : b < w.heap.size) (hc : Below w1.heap.size w1 w2) : But b w w2 :=
  have hs := h.bel.size
  ⟨h.bel.trans (hc.mono (by omega)), fun p h1 h2 => (hc.cell (p := p) (by omega)).trans (h.cell p h1 h2), fun p h1 h2 => (hc.frozen (p := p) (by omega)).trans (h.frz p h1 h2)⟩
theorem But.drew (h : But b w w1) : But b w w1.drew := ⟨h.bel.drew, h.cell, h.frz⟩
theorem But.put (h : But b w w1) (i : Nat) (v : Value) : But b w (w1.setCell ⟨b, i, none⟩ v) :=
  ⟨h.bel.setCell (Nat.le_refl b) v, fun p h1 h2 => by rw [World.cell?_setCell_other w1 _ p v (fun e => h1 (by subst e; rfl))]; exact h.cell p h1 h2, fun p h1 h2 => by rw [World.frozen?_setCell]; exact h.frz p h1 h2⟩
theorem But.wk (h : But b w w1) {b' off n : Nat} {f : Nat → Nat} (hne : b' ≠ b) (hb : b' < w.heap.size) (K : Wk w b' off n f) : Wk w1 b' off n f :=
  ⟨fun i hi => (h.cell ⟨b', off + i, none⟩ hne hb).trans (K.c i hi), fun i hi => (h.frz ⟨b', off + i, none⟩ hne hb).trans (K.z i hi)⟩
end
/-- A block that is being written, all others as they were. -/
structure Ta (b L : Nat) (f : Nat → Nat) (w wr : World) : Prop where
  k : Wk wr b 0 L f
  o : But b w wr
section
variable {f g : Nat → Nat} {L b : Nat} {w wr w1 : World}
theorem Ta.congr (h : Ta b L f w wr) (e : ∀ j, j < L → f j = g j) : Ta b L g w wr := ⟨⟨fun i hi => by rw [h.k.c i hi, e i hi], h.k.z⟩, h.o⟩
theorem Ta.call (h : Ta b L f w wr) (hb : b < w.heap.size) (hc : Below wr.heap.size wr w1) : Ta b L f w w1 := ⟨h.k.step hc, h.o.call hb hc⟩
theorem Ta.drew (h : Ta b L f w wr) : Ta b L f w wr.drew := ⟨h.k.drew, h.o.drew⟩
theorem Ta.put (h : Ta b L f w wr) (i v : Nat) (hi : i < L) : Ta b L (upd f i v) w (wr.setCell ⟨b, i, none⟩ (.int .u64 (v : Nat))) := by
  have K1 := h.k.put i v hi
  rw [Nat.zero_add] at K1
  exact ⟨K1, h.o.put i _⟩
theorem Ta.at_ (h : Ta b L f w wr) (i : Nat) (hi : i < L) : wr.cell? ⟨b, i, none⟩ = some (.int .u64 (f i : Nat)) ∧ wr.frozen? ⟨b, i, none⟩ = false := by
  have c := h.k.c i hi
  have z := h.k.z i hi
  rw [Nat.zero_add] at c z
  exact ⟨c, z⟩
end
set_option maxHeartbeats 2000000 in
set_option maxRecDepth 100000 in
theorem takeAway (b j L n cr : Nat) (A : Option Addr) (cb : Nat) (qs : List Nat) (c : Nat) (f : Nat → Nat) (hc : c < 18446744073709551616) (hn : j + n = L) (hq : qs.length ≤ n) (hL : L ≤ 1048576) (hf : ∀ i, f i < 18446744073709551616) (w : World) (K : Wk w b 0 L f) (hb : b < w.heap.size) (R : Ws w b A qs) :
    Calls Try.prog 39 #[.slice (some ⟨b, j, none⟩) n cr, .slice A qs.length cb, .int .u64 (c : Nat)] w fun e w' => e = .returned (.tuple #[]) ∧ Ta b L (tk 18446744069414584321 f qs c j) w w' := by
  obtain ⟨g, hg⟩ : ∃ g, g = tk 18446744069414584321 f qs c j := ⟨_, rfl⟩
  rw [← hg]
  have GL := Lib.hid (fun i (h : i < j) => show g i = f i by rw [hg]; exact tk_low _ _ _ _ _ _ h)
  have GH := Lib.hid (fun i (h : j + qs.length ≤ i) => show g i = f i by rw [hg]; exact tk_high _ _ _ _ _ _ h)
  have MU := Lib.hid (fun i (h : pl qs i < 18446744073709551616) W => Gd.mul (pl qs i) c h hc W)
  have SU := Lib.hid (fun i (h : i < qs.length) W => show Calls Try.prog 44 #[.int .u64 (f (j + i) : Nat), .int .u64 ((pl qs i * c % 18446744069414584321 : Nat) : Int)] W fun e w' => e = .returned (.int .u64 (g (j + i) : Nat)) ∧ W = w' by
    have s := Gd.sub (f (j + i)) (pl qs i * c % 18446744069414584321) (hf _) (mod64 _) W
    rw [hg, tk_in _ _ _ _ _ _ h]
    exact s)
  have ST := Lib.hid (show Ta b L (ac f g (j + 0)) w w from (Ta.congr (g := ac f g (j + 0)) ⟨K, But.refl _ _⟩ (fun i _ => (ac_zero f g (j + 0) i (fun i hi => GL.out i (by omega))).symm)))
  clear hg hf K
  go_enter Try.func39, Try.ntmps39
  go_wp2_with fail
  go_loopw [10] (fun v10 wr => ∃ i : Nat, v10 = .int .i64 (i : Int) ∧ i ≤ qs.length ∧ Ta b L (ac f g (j + i)) w wr) (fun v10 _ => qs.length - (Lib.intOf v10).toNat)
  case atStart => exact ⟨0, rfl, Nat.zero_le _, ST.out⟩
  case round =>
    obtain ⟨i, rfl, hi, T⟩ := hrel
    clear ST
    by_cases hlt : i < qs.length
    · have i1 : (i : Int) < qs.length := by omega
      have i2 : (i : Int) < n := by omega
      have R1 := R.below T.o.bel
      obtain ⟨b2, off2, rfl, hB2, c3⟩ := R1.at_ i hlt
      have c4 : wr.cell? ⟨b2, off2 + i, none⟩ = some (.int .u64 (pl qs i : Nat)) := c3
      have M := Lib.hid (MU.out i (R1.lt i hlt))
      have X := Lib.hid (SU.out i hlt)
      obtain ⟨t, ht⟩ : ∃ t, t = j + i := ⟨_, rfl⟩
      have htL : t < L := by omega
      have PT := Lib.hid (fun w3 (h : Ta b L (ac f g t) w w3) => (h.put t (g t) htL).congr (fun j _ => ac_upd f g t j))
      have ACT := ac_at f g t
      have HT := Lib.hid ht
      rw [← ht] at X T
      clear c3 R1
      generalize ac f g t = fo at *
      obtain ⟨k0, k1⟩ := T.at_ t htL
      rw [ACT] at k0
      generalize pl qs i * c % 18446744069414584321 = m at *
      generalize pl qs i = y at *
      generalize f t = f0 at *
      generalize g t = f1 at *
      go_upto_region 3 with fail
      clear c4
      obtain ⟨l0, l1⟩ := T.drew.at_ t htL
      rw [ACT] at l0
      rw [ht] at k0 k1 l0 l1
      go_region_with (first
        | (go_at_call 34; refine (M.out _).mono ?_; rintro e w3 ⟨rfl, hb3⟩; have K3 := T.drew.call hb hb3; have g0 := K3.at_ t htL; rw [ACT, ht] at g0; obtain ⟨g0, g1⟩ := g0)
        | (go_at_call 44; refine (X.out _).mono ?_; rintro e w4 ⟨rfl, rfl⟩))
      all_goals (go_wp2_with fail)
      all_goals go_roundw
      all_goals first
        | exact ⟨i + 1, rfl, by omega, by rw [← Nat.add_assoc, ← HT.out]; exact PT.out _ K3⟩
        | (simp [Lib.intOf]; omega)
    · have i1 : ¬ (i : Int) < qs.length := by omega
      obtain rfl : i = qs.length := by omega
      have PT := Lib.hid (T.congr (g := g) (fun i _ => ac_end _ _ _ i (fun i hi => GH.out i hi)))
      clear T
      go_wp2
      exact bodyPost_end (v := .tuple #[]) (by simp [results, Try.results39, go_sem]) rfl ⟨rfl, PT.out⟩
end Pl
end Go.Proofs.Ytckaelgmokddkaa
