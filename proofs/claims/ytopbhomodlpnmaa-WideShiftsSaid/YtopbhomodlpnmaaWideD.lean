/- The contract of package wide's Len: how many bits a number has. -/
import Derived.Test.YtopbhomodlpnmaaDivX
import Derived.Test.YtopbhomodlpnmaaRefD
set_option linter.unusedVariables false
namespace Go.Proofs.Ytopbhomodlpnmaa
open Go.RowKit
namespace Wd
open Nm Rf

theorem islen_word (x : Nat) (hx : x < 18446744073709551616) : IsLen x (Lib.bitLen x) := by
  have ⟨a, b⟩ := Bt.bitLenAux_between 64 x hx
  refine ⟨a, ?_⟩
  by_cases h0 : x = 0
  · subst h0
    exact Or.inl (by decide)
  · have b := b h0
    change 2 ^ Lib.bitLen x ≤ 2 * x at b
    by_cases k0 : Lib.bitLen x = 0
    · exact Or.inl k0
    · right
      rw [show Lib.bitLen x = (Lib.bitLen x - 1) + 1 from by omega, Nat.pow_succ] at b
      omega
theorem islen_two (h l k : Nat) (h0 : ¬ h = 0) (hl : l < 18446744073709551616) (I : IsLen h k) : IsLen (vl h l) (64 + k) := by
  have k0 : ¬ k = 0 := by
    intro e
    have := I.lt
    rw [e] at this
    omega
  have hge : 2 ^ (k - 1) ≤ h := by
    rcases I.ge with e | e
    · exact absurd e k0
    · exact e
  refine ⟨?_, Or.inr ?_⟩
  · rw [Nat.pow_add, p64]
    have := I.lt
    unfold vl
    omega
  · rw [show 64 + k - 1 = 64 + (k - 1) from by omega, Nat.pow_add, p64]
    unfold vl
    omega
theorem islen_any (h l : Nat) (hh : h < 18446744073709551616) (hl : l < 18446744073709551616) : ∃ j, IsLen (vl h l) j := by
  by_cases h0 : h = 0
  · subst h0
    exact ⟨_, by rw [show vl 0 l = l from by unfold vl; omega]; exact islen_word l hl⟩
  · exact ⟨_, islen_two h l _ h0 hl (islen_word h hh)⟩

set_option maxHeartbeats 400000 in
theorem len (h l j : Nat) (hh : h < 18446744073709551616) (hl : l < 18446744073709551616) (hj : IsLen (vl h l) j) (w : World) :
    Calls Try.prog 22 #[.agg #[.int .u64 h, .int .u64 l]] w fun e w' => e = .returned (.int .i64 (j : Int)) ∧ Below w.heap.size w w' := by
  by_cases h0 : h = 0
  · subst h0
    have e : Lib.bitLen l = j := (islen_word l hl).one (by rw [show vl 0 l = l from by unfold vl; omega] at hj; exact hj)
    have L := Lib.hid (fun W => Bt.len64 l hl W)
    rw [e] at L
    clear e hj hh hl
    go_enter Try.func22, Try.ntmps22
    go_wp2_with fail
    refine (L.out _).mono ?_
    rintro e w1 ⟨rfl, rfl⟩
    go_wp2
    go_ret
    exact ⟨rfl, (Below.refl _ _).alloc (Nat.le_refl _) _⟩
  · have n1 : ((h : Int) != 0) = true := by rw [bne_iff_ne]; omega
    have n2 : ((h : Int) == 0) = false := by simp; omega
    have e : 64 + Lib.bitLen h = j := (islen_two h l _ h0 hl (islen_word h hh)).one hj
    have lb := Lib.bitLen_le h 64 (by omega) hh
    have L := Lib.hid (fun W => Bt.len64 h hh W)
    generalize Lib.bitLen h = k at e lb L
    subst e
    clear hj hh hl
    go_enter Try.func22, Try.ntmps22
    go_wp2_with fail
    refine (L.out _).mono ?_
    rintro e w1 ⟨rfl, rfl⟩
    go_wp2
    go_ret
    exact ⟨rfl, (Below.refl _ _).alloc (Nat.le_refl _) _⟩
end Wd
end Go.Proofs.Ytopbhomodlpnmaa
