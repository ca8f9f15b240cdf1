/- Contracts of package twid: Slow; of the document's own Scale, Dft, Transform, Canon; awake. -/
import Derived.Test.YtfkhnfaammfbeaaDoorTwidB
import Derived.Test.YtfkhnfaammfbeaaDoorFits
set_option linter.unusedVariables false
namespace Go.Proofs.YtfkhnfaammfbeaaDoor
open Go.RowKit Go.Lib
namespace Td
open Nm Ww Tn Pl

theorem rwE_of {g h : Nat → Nat} {n b : Nat} {w w1 w' : World} (h1 : Below w.heap.size w w1) (e : ∀ i, i < n → g i = h i) (hs : w1.heap.size ≤ b) (hb : b < w'.heap.size) (K : Wk w' b 0 n g) (h2 : Below w1.heap.size w1 w') :
    RwE h n w (.returned (.tuple #[.slice (some ⟨b, 0, none⟩) n n, .int .i64 0])) w' :=
  ⟨b, rfl, Nat.le_trans h1.size hs, hb, wk_congr K e, h1.trans (h2.mono h1.size)⟩

/- The document's own. -/
set_option maxHeartbeats 1000000 in
set_option maxRecDepth 100000 in
theorem rscale_out (A : Option Addr) (ca n : Nat) (xs : List Nat) (hn : xs.length = n) (hl : n ≤ 1048576) (a : Nat) (ha : a < 18446744073709551616) (w : World) (R : Ws w w.heap.size A xs) :
    Calls Tryd.prog 27 #[.slice A n ca, .int .u64 (a : Nat)] w (Out (rg (fun i => Pn.pl xs i * a % 18446744069414584321) n) w) := by
  have M := Lib.hid (fun i W => Gr.mul (Pn.pl xs i) a ha W)
  obtain ⟨G, hG⟩ : ∃ G : Nat → Nat, G = fun i => Pn.pl xs i * a % 18446744069414584321 := ⟨_, rfl⟩
  have Gi : ∀ i, Pn.pl xs i * a % 18446744069414584321 = G i := fun i => by rw [hG]
  rw [← hG]
  simp only [Gi] at M
  have HN := Lib.hid hn
  have N0 := Lib.hid (Ow.nil_ w w.heap.size)
  have SU := Lib.hid (rg_succ G)
  have LE := Lib.hid (rg_len G)
  clear hG Gi ha hn
  go_enter Tryd.func27, Tryd.ntmps27
  go_wp2_with fail
  go_loopw [5, 6] (fun v5 v6 wr => ∃ i : Nat, v6 = .int .i64 (i : Int) ∧ i ≤ n ∧ Ow wr w.heap.size v5 (rg G i) ∧ Below w.heap.size w wr) (fun _ v6 _ => n - (Lib.intOf v6).toNat)
  case atStart => exact ⟨0, rfl, Nat.zero_le _, N0.out, Below.refl _ _⟩
  case round =>
    obtain ⟨i, rfl, hi, O, hbl⟩ := hrel
    clear N0
    by_cases hlt : i < n
    · have i1 : (i : Int) < n := by omega
      have R1 := R.below hbl
      obtain ⟨b, off, rfl, hB, c⟩ := R1.at_ i (by rw [HN.out]; exact hlt)
      have c2 : wr.cell? ⟨b, off + i, none⟩ = some (.int .u64 (Pn.pl xs i : Nat)) := c
      have M1 := Lib.hid (M.out i)
      have S := Lib.hid (SU.out i)
      have L := Lib.hid (LE.out i)
      clear c
      generalize Pn.pl xs i = x at *
      generalize G i = p at *
      go_wp2_with fail
      refine (M1.out _).mono ?_
      rintro e w1 ⟨rfl, rfl⟩
      go_wp2_with (at_builtin; go_loud (refine append1 (wr.alloc (.cells #[.int .u64 p] 28)) ?hgd (.tmp 13) (.tmp 20) ?ho w.heap.size u5 (rg G i) ?hs (O.alloc _) wr.heap.size p ?hx (cut1 _ _ _) ?c1 ?c2 (fun v6 w1 O1 hg => ?_)); (case hgd => rfl); (case ho => rfl); (case hs => rfl); (case hx => rfl))
      case c1 => rw [L.out]; omega
      case c2 => have := hbl.size; simp; omega
      rw [S.out] at O1
      have b1 := (O.alloc _).grow (hbl.alloc hbl.size _) hg (by have := hbl.size; simp; omega)
      go_wp2_with fail
      go_roundw
      case rel => exact ⟨i + 1, rfl, by omega, O1, b1⟩
      case measure => simp [Lib.intOf]; omega
    · have i1 : ¬ (i : Int) < n := by omega
      obtain rfl : n = i := by omega
      go_wp2
      exact bodyPost_ret (v := u5) (by simp [results, Tryd.results27, go_sem]) rfl (Out.mk_ O hbl)
/-- A row of n words that a call answers, whose words are a rule's. -/
def RwA (g : Nat → Nat) (n : Nat) (w : World) (e : Ending) (w' : World) : Prop := ∃ A ca, e = .returned (.slice A n ca) ∧ Ws w' w'.heap.size A (rg g n) ∧ Below w.heap.size w w'
theorem rwA_of {g h : Nat → Nat} {n : Nat} (hg : ∀ i, g i < 18446744069414584321) (he : ∀ i, i < n → g i = h i) {w w' : World} {e : Ending} (O : Out (rg g n) w e w') : RwA h n w e w' := by
  obtain ⟨A, ca, rfl, R, hb⟩ := Row.of_out (fun i hi => by rw [rg_at _ _ _ (by rwa [rg_len] at hi)]; exact Nat.lt_trans (hg i) (by decide)) O
  rw [rg_congr n he] at R
  exact ⟨A, ca, by rw [rg_len], R, hb⟩
theorem rscale (A : Option Addr) (ca n : Nat) (xs : List Nat) (hn : xs.length = n) (hl : n ≤ 1048576) (a : Nat) (ha : a < 18446744073709551616) (w : World) (R : Ws w w.heap.size A xs) :
    Calls Tryd.prog 27 #[.slice A n ca, .int .u64 (a : Nat)] w (RwA (fun i => Pn.pl xs i * a % 18446744069414584321) n w) :=
  (rscale_out A ca n xs hn hl a ha w R).mono fun _ _ h => rwA_of (fun i => Nat.mod_lt _ (by decide)) (fun _ _ => rfl) h
end Td
end Go.Proofs.YtfkhnfaammfbeaaDoor
