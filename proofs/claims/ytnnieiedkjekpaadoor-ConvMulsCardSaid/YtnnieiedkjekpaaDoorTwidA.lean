/- Contracts of package twid: hasRoot, placed, Root, Share, Table, Twiddle; of the document's own Root and Share; of the law's own wrong. -/
import Derived.Test.YtnnieiedkjekpaaDoorRootW
import Derived.Test.YtnnieiedkjekpaaDoorRowG
import Derived.Test.YtnnieiedkjekpaaDoorRoot
import Derived.Test.YtnnieiedkjekpaaDoorWords
import Derived.Test.YtnnieiedkjekpaaDoorPlain
import Derived.Test.YtnnieiedkjekpaaDoorBitsI
set_option linter.unusedVariables false
namespace Go.Proofs.YtnnieiedkjekpaaDoor
open Go.RowKit Go.Lib
namespace Td
open Nm Ww Tn

set_option maxHeartbeats 400000 in
theorem hasRoot (k : Int) (g : Bool) (hg : (decide (0 ≤ k) && decide (k ≤ 32)) = g) (w : World) :
    Calls Tryd.prog 54 #[.int .i64 k] w fun e w' => e = .returned (.bool g) ∧ w = w' := by
  by_cases h1 : 0 ≤ k
  · by_cases h2 : k ≤ 32
    · simp [h1, h2] at hg; subst hg
      go_enter Tryd.func54, Tryd.ntmps54
      go_wp2
      go_ret
      exact ⟨by simp [go_sem]; try omega, rfl⟩
    · simp [h1, h2] at hg; subst hg
      go_enter Tryd.func54, Tryd.ntmps54
      go_wp2
      go_ret
      exact ⟨by simp [go_sem]; try omega, rfl⟩
  · simp [h1] at hg; subst hg
    go_enter Tryd.func54, Tryd.ntmps54
    go_wp2
    go_ret
    exact ⟨by simp [go_sem], rfl⟩

set_option maxHeartbeats 400000 in
theorem root_bad (k d : Int) (h : k < 0 ∨ 32 < k) (w : World) :
    Calls Tryd.prog 40 #[.int .i64 k, .int .i64 d] w fun e w' => e = .returned (.tuple #[.int .u64 0, .int .i64 1]) ∧ w = w' := by
  have H := Lib.hid (fun W => hasRoot k false (by simp; omega) W)
  clear h
  go_enter Tryd.func40, Tryd.ntmps40
  go_wp2_with fail
  refine (H.out _).mono ?_
  rintro e w1 ⟨rfl, rfl⟩
  go_wp2
  go_ret2
  exact ⟨rfl, rfl⟩
set_option maxHeartbeats 400000 in
theorem root_kind (k d : Int) (h : 0 ≤ k ∧ k ≤ 32) (h0 : d ≠ 0) (h1 : d ≠ 1) (w : World) :
    Calls Tryd.prog 40 #[.int .i64 k, .int .i64 d] w fun e w' => e = .returned (.tuple #[.int .u64 0, .int .i64 18]) ∧ w = w' := by
  have H := Lib.hid (fun W => hasRoot k true (by simp; omega) W)
  have d0 : (d == 0) = false := by rw [beq_eq_false_iff_ne]; exact h0
  have d1 : (d == 1) = false := by rw [beq_eq_false_iff_ne]; exact h1
  clear h h0 h1
  go_enter Tryd.func40, Tryd.ntmps40
  go_wp2_with fail
  refine (H.out _).mono ?_
  rintro e w1 ⟨rfl, rfl⟩
  go_wp2
  go_ret2
  exact ⟨rfl, rfl⟩
set_option maxHeartbeats 400000 in
theorem root_fwd (k : Nat) (hk : k ≤ 32) (w : World) :
    Calls Tryd.prog 40 #[.int .i64 (k : Int), .int .i64 0] w fun e w' => e = .returned (.tuple #[.int .u64 (Nt.rt k : Nat), .int .i64 0]) ∧ Below w.heap.size w w' := by
  have H := Lib.hid (fun W => hasRoot (k : Int) true (by simp; omega) W)
  have C := Lib.hid (fun W => Rt.root k hk W)
  generalize Nt.rt k = r at *
  clear hk
  go_enter Tryd.func40, Tryd.ntmps40
  go_wp2_with fail
  refine (H.out _).mono ?_
  rintro e w1 ⟨rfl, rfl⟩
  go_wp2_with fail
  refine (C.out _).mono ?_
  rintro e w1 ⟨rfl, h1⟩
  go_wp2
  go_ret2
  exact ⟨rfl, h1⟩
set_option maxHeartbeats 400000 in
theorem root_inv (k : Nat) (hk : k ≤ 32) (w : World) :
    Calls Tryd.prog 40 #[.int .i64 (k : Int), .int .i64 1] w fun e w' => e = .returned (.tuple #[.int .u64 (Nt.inv (Nt.rt k) : Nat), .int .i64 0]) ∧ Below w.heap.size w w' := by
  have H := Lib.hid (fun W => hasRoot (k : Int) true (by simp; omega) W)
  have C := Lib.hid (fun W => Rt.back k hk W)
  generalize Nt.inv (Nt.rt k) = r at *
  clear hk
  go_enter Tryd.func40, Tryd.ntmps40
  go_wp2_with fail
  refine (H.out _).mono ?_
  rintro e w1 ⟨rfl, rfl⟩
  go_wp2_with fail
  refine (C.out _).mono ?_
  rintro e w1 ⟨rfl, h1⟩
  go_wp2
  go_ret2
  exact ⟨rfl, h1⟩
theorem root_in (k d : Nat) (hk : k ≤ 32) (hd : d ≤ 1) (w : World) :
    Calls Tryd.prog 40 #[.int .i64 (k : Int), .int .i64 (d : Int)] w fun e w' => e = .returned (.tuple #[.int .u64 (rd k d : Nat), .int .i64 0]) ∧ Below w.heap.size w w' := by
  rcases Nat.eq_zero_or_pos d with h | h
  · subst h; rw [rd_zero]; exact root_fwd k hk w
  · obtain rfl : d = 1 := by omega
    rw [rd_other k 1 (by decide)]; exact root_inv k hk w
/-- What Root answers of an exponent and a direction. -/
def Rs (k d : Int) (x : Nat) (e : Int) : Prop :=
  ((k < 0 ∨ 32 < k) ∧ x = 0 ∧ e = 1) ∨ ((0 ≤ k ∧ k ≤ 32) ∧ (d ≠ 0 ∧ d ≠ 1) ∧ x = 0 ∧ e = 18) ∨ (∃ kn dn : Nat, k = (kn : Int) ∧ d = (dn : Int) ∧ kn ≤ 32 ∧ dn ≤ 1 ∧ x = rd kn dn ∧ e = 0)
theorem rs_ex (k d : Int) : ∃ x e, Rs k d x e := by
  by_cases h : k < 0 ∨ 32 < k
  · exact ⟨_, _, Or.inl ⟨h, rfl, rfl⟩⟩
  by_cases h2 : d ≠ 0 ∧ d ≠ 1
  · exact ⟨_, _, Or.inr (Or.inl ⟨by omega, h2, rfl, rfl⟩)⟩
  · exact ⟨_, _, Or.inr (Or.inr ⟨k.toNat, d.toNat, by omega, by omega, by omega, by omega, rfl, rfl⟩)⟩
theorem Rs.root {k d : Int} {x : Nat} {e : Int} (h : Rs k d x e) (w : World) :
    Calls Tryd.prog 40 #[.int .i64 k, .int .i64 d] w fun e1 w' => e1 = .returned (.tuple #[.int .u64 (x : Nat), .int .i64 e]) ∧ Below w.heap.size w w' := by
  rcases h with ⟨h, rfl, rfl⟩ | ⟨h, h2, rfl, rfl⟩ | ⟨kn, dn, rfl, rfl, hk, hd, rfl, rfl⟩
  · exact (root_bad k d h w).mono fun _ _ h => ⟨h.1, h.2 ▸ Below.refl _ _⟩
  · exact (root_kind k d h h2.1 h2.2 w).mono fun _ _ h => ⟨h.1, h.2 ▸ Below.refl _ _⟩
  · exact root_in kn dn hk hd w
theorem Rs.zero {k d : Int} {x : Nat} {e : Int} (h : Rs k d x e) (he : e ≠ 0) : x = 0 ∧ (e = 1 ∨ e = 18) := by
  rcases h with ⟨h, rfl, rfl⟩ | ⟨h, h2, rfl, rfl⟩ | ⟨kn, dn, rfl, rfl, hk, hd, rfl, rfl⟩
  · exact ⟨rfl, Or.inl rfl⟩
  · exact ⟨rfl, Or.inr rfl⟩
  · exact absurd rfl he

set_option maxHeartbeats 400000 in
theorem share_bad (k : Int) (h : k < 0 ∨ 32 < k) (w : World) :
    Calls Tryd.prog 44 #[.int .i64 k] w fun e w' => e = .returned (.tuple #[.int .u64 0, .int .i64 1]) ∧ w = w' := by
  have H := Lib.hid (fun W => hasRoot k false (by simp; omega) W)
  clear h
  go_enter Tryd.func44, Tryd.ntmps44
  go_wp2_with fail
  refine (H.out _).mono ?_
  rintro e w1 ⟨rfl, rfl⟩
  go_wp2
  go_ret2
  exact ⟨rfl, rfl⟩
set_option maxHeartbeats 400000 in
theorem share (k : Nat) (hk : k ≤ 32) (w : World) :
    Calls Tryd.prog 44 #[.int .i64 (k : Int)] w fun e w' => e = .returned (.tuple #[.int .u64 (Nt.inv (2 ^ k) : Nat), .int .i64 0]) ∧ Below w.heap.size w w' := by
  have H := Lib.hid (fun W => hasRoot (k : Int) true (by simp; omega) W)
  have hl : 2 ^ k ≤ 2 ^ 32 := Nat.pow_le_pow_right (by decide) hk
  have C := Lib.hid (fun W => Gd.inv_some (2 ^ k) (by omega) (two_ne k hk) W)
  have s1 := Bt.pow_u64 k (by omega)
  generalize Nt.inv (2 ^ k) = r at *
  obtain ⟨p, hp⟩ : ∃ p, p = 2 ^ k := ⟨_, rfl⟩
  rw [← hp] at C s1
  clear hl hp
  go_enter Tryd.func44, Tryd.ntmps44
  go_wp2_with fail
  refine (H.out _).mono ?_
  rintro e w1 ⟨rfl, rfl⟩
  go_wp2_with fail
  refine (C.out _).mono ?_
  rintro e w1 ⟨rfl, h1⟩
  go_wp2
  go_ret2
  exact ⟨rfl, h1⟩
end Td
end Go.Proofs.YtnnieiedkjekpaaDoor
