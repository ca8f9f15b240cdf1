/- Contracts of package poly: Scale, Derive, DivLinear. -/
import Derived.Test.YtnnieiedkjekpaaDoorPolyC
import Derived.Deep.RegionHeld3
import Derived.Deep.RegionWith
import Derived.Deep.DeepCutAuto
set_option linter.unusedVariables false
namespace Go.Proofs.YtnnieiedkjekpaaDoor
open Go.RowKit Go.Lib Go.Sort
namespace Pl
open Ww Pn Nt

/-- A slice that lies in no block below B. -/
def New (B : Nat) (A : Option Addr) : Prop := ∀ p : Addr, A = some p → B ≤ p.block
theorem New.mk_ {B b : Nat} (h : B ≤ b) : New B (some ⟨b, 0, none⟩) := fun p hp => by injection hp with hp; subst hp; exact h
theorem New.less {B B' : Nat} {A : Option Addr} (h : New B A) (hB : B' ≤ B) : New B' A := fun p hp => Nat.le_trans hB (h p hp)
/-- A polynomial that a call answers, in a block of its own. -/
def PoN (c : Nat → Nat) (w : World) (e : Ending) (w' : World) : Prop :=
  ∃ zs A cap, Nf 18446744069414584321 zs ∧ (∀ i, pl zs i = c i % 18446744069414584321) ∧ e = .returned (.slice A zs.length cap) ∧ Ws w' w'.heap.size A zs ∧ Below w.heap.size w w' ∧ New w.heap.size A
theorem PoN.po {c : Nat → Nat} {w w' : World} {e : Ending} (h : PoN c w e w') : Po c w e w' := by
  obtain ⟨zs, A, cap, h1, h2, h3, h4, h5, _⟩ := h
  exact ⟨zs, A, cap, h1, h2, h3, h4, h5⟩
theorem PoN.ret {c : Nat → Nat} {w w' : World} {e : Ending} (h : PoN c w e w') : ∃ (zs : List Nat) (A : Option Addr) (cap : Nat), e = .returned (.slice A zs.length cap) ∧ PoN c w (.returned (.slice A zs.length cap)) w' := by
  obtain ⟨zs, A, cap, h1, h2, h3, h4⟩ := h
  exact ⟨zs, A, cap, h3, zs, A, cap, h1, h2, rfl, h4⟩
theorem PoN.of_trim {c g : Nat → Nat} {n : Nat} {w w1 w' : World} {e : Ending} (h1 : ∀ i, i < n → g i % 18446744069414584321 = c i % 18446744069414584321) (h2 : ∀ i, n ≤ i → c i % 18446744069414584321 = 0)
    (hb : Below w.heap.size w w1) (h : TrOut (rg g n) w1 e w') : PoN c w e w' :=
  ⟨tr 18446744069414584321 (rg g n), some ⟨w1.heap.size, 0, none⟩, _, tr_nf (by decide) _, (fun i => by
    rw [pl_tr]
    by_cases hi : i < n
    · rw [pl_rg g n i hi, h1 i hi]
    · rw [pl_far _ i (by rw [rg_len]; omega), h2 i (by omega), Nat.zero_mod]), h.1, h.ws, hb.trans (h.2.2.2.mono hb.size), New.mk_ hb.size⟩


theorem max0 (n : Nat) : max (0 : Int) ((n : Int) - 1) = ((n - 1 : Nat) : Int) := by omega

/-- What DivLinear answers of a trimmed row ys: the values of what is behind each place, and its own value. -/
def DlOut (ys : List Nat) (a : Nat) (w : World) (e : Ending) (w' : World) : Prop :=
  ∃ A cap r, e = .returned (.tuple #[.slice A (ys.length - 1) cap, .int .u64 (r : Nat)]) ∧ r = evl a ys % 18446744069414584321 ∧ Ws w' w'.heap.size A (rg (fun i => evl a (ys.drop (i + 1)) % 18446744069414584321) (ys.length - 1)) ∧ Below w.heap.size w w'

/-- The same, in a block of its own. -/
def DlNew (ys : List Nat) (a : Nat) (w : World) (e : Ending) (w' : World) : Prop :=
  ∃ A cap r, e = .returned (.tuple #[.slice A (ys.length - 1) cap, .int .u64 (r : Nat)]) ∧ r = evl a ys % 18446744069414584321 ∧ Ws w' w'.heap.size A (rg (fun i => evl a (ys.drop (i + 1)) % 18446744069414584321) (ys.length - 1)) ∧ Below w.heap.size w w' ∧ New w.heap.size A

end Pl
end Go.Proofs.YtnnieiedkjekpaaDoor
