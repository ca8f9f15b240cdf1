/- Contracts of package twid: Slow; of the document's own Scale, Dft, Transform, Canon; awake. / Contracts of the document's own Dft, Transform, Canon; awake. / awake of layer 8. -/
import Derived.Test.YtnnieiedkjekpaaDoorTwidB
import Derived.Test.YtnnieiedkjekpaaDoorFits
import Derived.Test.YtnnieiedkjekpaaDoorSame
set_option linter.unusedVariables false
namespace Go.Proofs.YtnnieiedkjekpaaDoor
open Go.RowKit Go.Lib
namespace Td
open Nm Ww Tn Pl

theorem rwE_of {g h : Nat → Nat} {n b : Nat} {w w1 w' : World} (h1 : Below w.heap.size w w1) (e : ∀ i, i < n → g i = h i) (hs : w1.heap.size ≤ b) (hb : b < w'.heap.size) (K : Wk w' b 0 n g) (h2 : Below w1.heap.size w1 w') :
    RwE h n w (.returned (.tuple #[.slice (some ⟨b, 0, none⟩) n n, .int .i64 0])) w' :=
  ⟨b, rfl, Nat.le_trans h1.size hs, hb, wk_congr K e, h1.trans (h2.mono h1.size)⟩

/- The document's own. -/
set_option maxHeartbeats 1000000 in
set_option maxRecDepth 100000 in
theorem rscale_out (A : Option Addr) (ca n : Nat) (xs : List Nat) (hn : xs.length = n) (hl : n ≤ 1048576) (a : Nat) (ha : a < 18446744073709551616) (w : World) (R : Ws w w.heap.size A xs) :
    Calls Tryd.prog 38 #[.slice A n ca, .int .u64 (a : Nat)] w (Out (rg (fun i => Pn.pl xs i * a % 18446744069414584321) n) w) := by
  have M := Lib.hid (fun i W => Gr.mul (Pn.pl xs i) a ha W)
  obtain ⟨G, hG⟩ : ∃ G : Nat → Nat, G = fun i => Pn.pl xs i * a % 18446744069414584321 := ⟨_, rfl⟩
  have Gi : ∀ i, Pn.pl xs i * a % 18446744069414584321 = G i := fun i => by rw [hG]
  rw [← hG]
  simp only [Gi] at M
  have HN := Lib.hid hn
  have N0 := Lib.hid (Ow.nil_ w w.heap.size)
  have SU := Lib.hid (rg_succ G)
  have LE := Lib.hid (rg_len G)
  clear hG Gi ha hn
  go_enter Tryd.func38, Tryd.ntmps38
  go_wp2_with fail
  go_loopw [5, 6] (fun v5 v6 wr => ∃ i : Nat, v6 = .int .i64 (i : Int) ∧ i ≤ n ∧ Ow wr w.heap.size v5 (rg G i) ∧ Below w.heap.size w wr) (fun _ v6 _ => n - (Lib.intOf v6).toNat)
  case atStart => exact ⟨0, rfl, Nat.zero_le _, N0.out, Below.refl _ _⟩
  case round =>
    obtain ⟨i, rfl, hi, O, hbl⟩ := hrel
    clear N0
    by_cases hlt : i < n
    · have i1 : (i : Int) < n := by omega
      have R1 := R.below hbl
      obtain ⟨b, off, rfl, hB, c⟩ := R1.at_ i (by rw [HN.out]; exact hlt)
      have c2 : wr.cell? ⟨b, off + i, none⟩ = some (.int .u64 (Pn.pl xs i : Nat)) := c
      have M1 := Lib.hid (M.out i)
      have S := Lib.hid (SU.out i)
      have L := Lib.hid (LE.out i)
      clear c
      generalize Pn.pl xs i = x at *
      generalize G i = p at *
      go_wp2_with fail
      refine (M1.out _).mono ?_
      rintro e w1 ⟨rfl, rfl⟩
      go_wp2_with (at_builtin; go_loud (refine append1 (wr.alloc (.cells #[.int .u64 p] 32)) ?hgd (.tmp 13) (.tmp 20) ?ho w.heap.size u5 (rg G i) ?hs (O.alloc _) wr.heap.size p ?hx (cut1 _ _ _) ?c1 ?c2 (fun v6 w1 O1 hg => ?_)); (case hgd => rfl); (case ho => rfl); (case hs => rfl); (case hx => rfl))
      case c1 => rw [L.out]; omega
      case c2 => have := hbl.size; simp; omega
      rw [S.out] at O1
      have b1 := (O.alloc _).grow (hbl.alloc hbl.size _) hg (by have := hbl.size; simp; omega)
      go_wp2_with fail
      go_roundw
      case rel => exact ⟨i + 1, rfl, by omega, O1, b1⟩
      case measure => simp [Lib.intOf]; omega
    · have i1 : ¬ (i : Int) < n := by omega
      obtain rfl : n = i := by omega
      go_wp2
      exact bodyPost_ret (v := u5) (by simp [results, Tryd.results38, go_sem]) rfl (Out.mk_ O hbl)
/-- A row of n words that a call answers, whose words are a rule's. -/
def RwA (g : Nat → Nat) (n : Nat) (w : World) (e : Ending) (w' : World) : Prop := ∃ A ca, e = .returned (.slice A n ca) ∧ Ws w' w'.heap.size A (rg g n) ∧ Below w.heap.size w w'
theorem rwA_of {g h : Nat → Nat} {n : Nat} (hg : ∀ i, g i < 18446744069414584321) (he : ∀ i, i < n → g i = h i) {w w' : World} {e : Ending} (O : Out (rg g n) w e w') : RwA h n w e w' := by
  obtain ⟨A, ca, rfl, R, hb⟩ := Row.of_out (fun i hi => by rw [rg_at _ _ _ (by rwa [rg_len] at hi)]; exact Nat.lt_trans (hg i) (by decide)) O
  rw [rg_congr n he] at R
  exact ⟨A, ca, by rw [rg_len], R, hb⟩
theorem rscale (A : Option Addr) (ca n : Nat) (xs : List Nat) (hn : xs.length = n) (hl : n ≤ 1048576) (a : Nat) (ha : a < 18446744073709551616) (w : World) (R : Ws w w.heap.size A xs) :
    Calls Tryd.prog 38 #[.slice A n ca, .int .u64 (a : Nat)] w (RwA (fun i => Pn.pl xs i * a % 18446744069414584321) n w) :=
  (rscale_out A ca n xs hn hl a ha w R).mono fun _ _ h => rwA_of (fun i => Nat.mod_lt _ (by decide)) (fun _ _ => rfl) h
end Td
end Go.Proofs.YtnnieiedkjekpaaDoor
set_option linter.unusedVariables false
namespace Go.Proofs.YtnnieiedkjekpaaDoor
open Go.RowKit Go.Lib
namespace Td
open Nm Ww Tn Pl

theorem dft_s (xs : List Nat) (x j i s p : Nat) (hs : s = Nt.sg (fun i => Pn.pl xs i * x ^ (i * j)) i % 18446744069414584321) (hp : p = x ^ (i * j) % 18446744069414584321) :
    (s + Pn.pl xs i * p % 18446744069414584321) % 18446744069414584321 = Nt.sg (fun i => Pn.pl xs i * x ^ (i * j)) (i + 1) % 18446744069414584321 := by
  show _ = (Nt.sg _ i + Pn.pl xs i * x ^ (i * j)) % _
  rw [hs, hp, Nat.mul_mod_mod, ← Nat.add_mod]
theorem dft_p (x j i p t : Nat) (hp : p = x ^ (i * j) % 18446744069414584321) (ht : t = x ^ j % 18446744069414584321) : p * t % 18446744069414584321 = x ^ ((i + 1) * j) % 18446744069414584321 := by
  rw [hp, ht, ← Nat.mul_mod, ← Nat.pow_add, Nat.succ_mul]
/-- What the inner loop keeps. -/
structure IR (S Q : Nat → Nat) (n i s p : Nat) : Prop where
  hi : i ≤ n
  s : s = S i
  p : p = Q i
theorem rwA_congr {g h : Nat → Nat} {n : Nat} (he : ∀ i, i < n → g i = h i) {w w1 w' : World} (h1 : Below w.heap.size w w1) {A : Option Addr} {ca : Nat} (R : Ws w' w'.heap.size A (rg g n)) (hb : Below w1.heap.size w1 w') : RwA h n w (.returned (.slice A n ca)) w' := by
  rw [rg_congr n he] at R
  exact ⟨A, ca, rfl, R, h1.trans (hb.mono h1.size)⟩
set_option maxHeartbeats 400000 in
theorem rcanon (A : Option Addr) (ca n : Nat) (xs : List Nat) (hn : xs.length = n) (hl : n ≤ 1048576) (w : World) (R : Ws w w.heap.size A xs) :
    Calls Tryd.prog 18 #[.slice A n ca] w (RwA (fun i => Pn.pl xs i % 18446744069414584321) n w) := by
  have L := Lib.hid (rscale A ca n xs hn hl 1 (by decide) w R)
  have E := Lib.hid (fun i (_ : i < n) => show Pn.pl xs i * 1 % 18446744069414584321 = Pn.pl xs i % 18446744069414584321 by rw [Nat.mul_one])
  obtain ⟨g, hg⟩ : ∃ g : Nat → Nat, g = fun i => Pn.pl xs i * 1 % 18446744069414584321 := ⟨_, rfl⟩
  obtain ⟨h, hh⟩ : ∃ g : Nat → Nat, g = fun i => Pn.pl xs i % 18446744069414584321 := ⟨_, rfl⟩
  have E2 := Lib.hid (show ∀ i, i < n → g i = h i by rw [hg, hh]; exact E.out)
  rw [← hg] at L
  rw [← hh]
  clear hg hh E hn hl R
  go_enter Tryd.func18, Tryd.ntmps18
  go_wp2_with fail
  refine L.out.mono ?_
  rintro e w1 ⟨A1, c1, rfl, R1, b1⟩
  have O := Lib.hid (rwA_congr (ca := c1) E2.out (Below.refl _ w) R1 b1)
  clear R1 b1 E2
  go_wp2
  exact bodyPost_ret (v := .slice A1 n c1) (by simp [results, Tryd.results18, go_sem]) rfl O.out
end Td
end Go.Proofs.YtnnieiedkjekpaaDoor
set_option linter.unusedVariables false
namespace Go.Proofs.YtnnieiedkjekpaaDoor
open Go.RowKit Go.Lib
namespace Td
open Nm Ww Tn Pl

theorem aw_words (m : Nat) (hm : m = 0) : ft (m + 1) 0 (Pn.pl [1, 1]) 0 = 2 ∧ ft (m + 1) 0 (Pn.pl [1, 1]) 1 = 0 := by
  have r := Nt.rt1 m hm
  have e : 2 ^ (m + 1) = 2 := by rw [hm]
  rw [ft_zero, ft_zero, r, e]
  exact ⟨by decide, by decide⟩
/-- Rows whose words are alike are the same. -/
theorem same_rg {g h : Nat → Nat} {n : Nat} (he : ∀ i, i < n → g i = h i) (hl : n ≤ 1048576) (A B : Option Addr) (ca cb : Nat) (w : World) (Ra : Ws w w.heap.size A (rg g n)) (Rb : Ws w w.heap.size B (rg h n)) :
    Calls Tryd.prog 11 #[.slice A n ca, .slice B n cb] w fun e w' => e = .returned (.bool true) ∧ Below w.heap.size w w' := by
  rw [← rg_congr n he] at Rb
  exact Sm.same A B n n ca cb (rg g n) (rg_len g n).symm (rg_len g n).symm (by rw [rg_len]; omega) w Ra Rb
/-- The document's Fits of a power of two. -/
theorem fits_doc (n k : Nat) (hk : k ≤ 32) (hn : n = 2 ^ k) (w : World) : Calls Tryd.prog 10 #[.int .i64 (n : Int)] w fun e w' => e = .returned (.int .i64 (k : Int)) ∧ w = w' :=
  Ft.ref_any (n : Int) (k : Int) (fun i hi e => by
    have e2 : 2 ^ k = 2 ^ i := by omega
    rw [Nat.pow_right_inj (a := 2) (by decide) |>.mp e2]) (fun h => absurd (by rw [hn]) (h k hk)) w
end Td
end Go.Proofs.YtnnieiedkjekpaaDoor
