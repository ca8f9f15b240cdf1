/- Contracts of package twid: hasRoot, placed, Root, Share, Table, Twiddle; of the document's own Root and Share; of the law's own wrong. -/
import Derived.Test.YtfjoacopnkceoaaDoorRootW
import Derived.Test.YtfjoacopnkceoaaDoorRowG
import Derived.Test.YtfjoacopnkceoaaDoorRoot
import Derived.Test.YtfjoacopnkceoaaDoorWords
import Derived.Test.YtfjoacopnkceoaaDoorPlain
import Derived.Test.YtfjoacopnkceoaaDoorBitsI
set_option linter.unusedVariables false
namespace Go.Proofs.YtfjoacopnkceoaaDoor
open Go.RowKit Go.Lib
namespace Td
open Nm Ww Tn

set_option maxHeartbeats 400000 in
theorem hasRoot (k : Int) (g : Bool) (hg : (decide (0 ≤ k) && decide (k ≤ 32)) = g) (w : World) :
    Calls Tryd.prog 71 #[.int .i64 k] w fun e w' => e = .returned (.bool g) ∧ w = w' := by
  by_cases h1 : 0 ≤ k
  · by_cases h2 : k ≤ 32
    · simp [h1, h2] at hg; subst hg
      go_enter Tryd.func71, Tryd.ntmps71
      go_wp2
      go_ret
      exact ⟨by simp [go_sem]; try omega, rfl⟩
    · simp [h1, h2] at hg; subst hg
      go_enter Tryd.func71, Tryd.ntmps71
      go_wp2
      go_ret
      exact ⟨by simp [go_sem]; try omega, rfl⟩
  · simp [h1] at hg; subst hg
    go_enter Tryd.func71, Tryd.ntmps71
    go_wp2
    go_ret
    exact ⟨by simp [go_sem], rfl⟩
set_option maxHeartbeats 400000 in
theorem placed (i n : Int) (hn : 1 ≤ n ∧ n ≤ 4294967296) (g : Bool) (hg : (decide (0 ≤ i) && decide (i ≤ 4294967296 - n)) = g) (w : World) :
    Calls Tryd.prog 55 #[.int .i64 i, .int .i64 n] w fun e w' => e = .returned (.bool g) ∧ w = w' := by
  obtain ⟨m, hm⟩ : ∃ m : Int, m = n - 1 := ⟨_, rfl⟩
  obtain ⟨r, hr⟩ : ∃ r : Int, r = 4294967295 - m := ⟨_, rfl⟩
  have q1 : IntKind.i64.wrap (n - 1) = m := by rw [IntKind.wrap_i64]; omega
  have q2 : IntKind.i64.wrap (4294967295 - m) = r := by rw [IntKind.wrap_i64]; omega
  have e : 4294967296 - n = r := by omega
  rw [e] at hg
  clear hm hr e hn
  by_cases h1 : 0 ≤ i
  · by_cases h2 : i ≤ r
    · simp [h1, h2] at hg; subst hg
      go_enter Tryd.func55, Tryd.ntmps55
      go_wp2
      go_ret
      exact ⟨by simp [go_sem]; try omega, rfl⟩
    · simp [h1, h2] at hg; subst hg
      go_enter Tryd.func55, Tryd.ntmps55
      go_wp2
      go_ret
      exact ⟨by simp [go_sem]; try omega, rfl⟩
  · simp [h1] at hg; subst hg
    go_enter Tryd.func55, Tryd.ntmps55
    go_wp2
    go_ret
    exact ⟨by simp [go_sem], rfl⟩

set_option maxHeartbeats 400000 in
theorem root_bad (k d : Int) (h : k < 0 ∨ 32 < k) (w : World) :
    Calls Tryd.prog 47 #[.int .i64 k, .int .i64 d] w fun e w' => e = .returned (.tuple #[.int .u64 0, .int .i64 1]) ∧ w = w' := by
  have H := Lib.hid (fun W => hasRoot k false (by simp; omega) W)
  clear h
  go_enter Tryd.func47, Tryd.ntmps47
  go_wp2_with fail
  refine (H.out _).mono ?_
  rintro e w1 ⟨rfl, rfl⟩
  go_wp2
  go_ret2
  exact ⟨rfl, rfl⟩
set_option maxHeartbeats 400000 in
theorem root_kind (k d : Int) (h : 0 ≤ k ∧ k ≤ 32) (h0 : d ≠ 0) (h1 : d ≠ 1) (w : World) :
    Calls Tryd.prog 47 #[.int .i64 k, .int .i64 d] w fun e w' => e = .returned (.tuple #[.int .u64 0, .int .i64 18]) ∧ w = w' := by
  have H := Lib.hid (fun W => hasRoot k true (by simp; omega) W)
  have d0 : (d == 0) = false := by rw [beq_eq_false_iff_ne]; exact h0
  have d1 : (d == 1) = false := by rw [beq_eq_false_iff_ne]; exact h1
  clear h h0 h1
  go_enter Tryd.func47, Tryd.ntmps47
  go_wp2_with fail
  refine (H.out _).mono ?_
  rintro e w1 ⟨rfl, rfl⟩
  go_wp2
  go_ret2
  exact ⟨rfl, rfl⟩
set_option maxHeartbeats 400000 in
theorem root_fwd (k : Nat) (hk : k ≤ 32) (w : World) :
    Calls Tryd.prog 47 #[.int .i64 (k : Int), .int .i64 0] w fun e w' => e = .returned (.tuple #[.int .u64 (Nt.rt k : Nat), .int .i64 0]) ∧ Below w.heap.size w w' := by
  have H := Lib.hid (fun W => hasRoot (k : Int) true (by simp; omega) W)
  have C := Lib.hid (fun W => Rt.root k hk W)
  generalize Nt.rt k = r at *
  clear hk
  go_enter Tryd.func47, Tryd.ntmps47
  go_wp2_with fail
  refine (H.out _).mono ?_
  rintro e w1 ⟨rfl, rfl⟩
  go_wp2_with fail
  refine (C.out _).mono ?_
  rintro e w1 ⟨rfl, h1⟩
  go_wp2
  go_ret2
  exact ⟨rfl, h1⟩
set_option maxHeartbeats 400000 in
theorem root_inv (k : Nat) (hk : k ≤ 32) (w : World) :
    Calls Tryd.prog 47 #[.int .i64 (k : Int), .int .i64 1] w fun e w' => e = .returned (.tuple #[.int .u64 (Nt.inv (Nt.rt k) : Nat), .int .i64 0]) ∧ Below w.heap.size w w' := by
  have H := Lib.hid (fun W => hasRoot (k : Int) true (by simp; omega) W)
  have C := Lib.hid (fun W => Rt.back k hk W)
  generalize Nt.inv (Nt.rt k) = r at *
  clear hk
  go_enter Tryd.func47, Tryd.ntmps47
  go_wp2_with fail
  refine (H.out _).mono ?_
  rintro e w1 ⟨rfl, rfl⟩
  go_wp2_with fail
  refine (C.out _).mono ?_
  rintro e w1 ⟨rfl, h1⟩
  go_wp2
  go_ret2
  exact ⟨rfl, h1⟩
theorem root_in (k d : Nat) (hk : k ≤ 32) (hd : d ≤ 1) (w : World) :
    Calls Tryd.prog 47 #[.int .i64 (k : Int), .int .i64 (d : Int)] w fun e w' => e = .returned (.tuple #[.int .u64 (rd k d : Nat), .int .i64 0]) ∧ Below w.heap.size w w' := by
  rcases Nat.eq_zero_or_pos d with h | h
  · subst h; rw [rd_zero]; exact root_fwd k hk w
  · obtain rfl : d = 1 := by omega
    rw [rd_other k 1 (by decide)]; exact root_inv k hk w
/-- What Root answers of an exponent and a direction. -/
def Rs (k d : Int) (x : Nat) (e : Int) : Prop :=
  ((k < 0 ∨ 32 < k) ∧ x = 0 ∧ e = 1) ∨ ((0 ≤ k ∧ k ≤ 32) ∧ (d ≠ 0 ∧ d ≠ 1) ∧ x = 0 ∧ e = 18) ∨ (∃ kn dn : Nat, k = (kn : Int) ∧ d = (dn : Int) ∧ kn ≤ 32 ∧ dn ≤ 1 ∧ x = rd kn dn ∧ e = 0)
theorem rs_ex (k d : Int) : ∃ x e, Rs k d x e := by
  by_cases h : k < 0 ∨ 32 < k
  · exact ⟨_, _, Or.inl ⟨h, rfl, rfl⟩⟩
  by_cases h2 : d ≠ 0 ∧ d ≠ 1
  · exact ⟨_, _, Or.inr (Or.inl ⟨by omega, h2, rfl, rfl⟩)⟩
  · exact ⟨_, _, Or.inr (Or.inr ⟨k.toNat, d.toNat, by omega, by omega, by omega, by omega, rfl, rfl⟩)⟩
theorem Rs.root {k d : Int} {x : Nat} {e : Int} (h : Rs k d x e) (w : World) :
    Calls Tryd.prog 47 #[.int .i64 k, .int .i64 d] w fun e1 w' => e1 = .returned (.tuple #[.int .u64 (x : Nat), .int .i64 e]) ∧ Below w.heap.size w w' := by
  rcases h with ⟨h, rfl, rfl⟩ | ⟨h, h2, rfl, rfl⟩ | ⟨kn, dn, rfl, rfl, hk, hd, rfl, rfl⟩
  · exact (root_bad k d h w).mono fun _ _ h => ⟨h.1, h.2 ▸ Below.refl _ _⟩
  · exact (root_kind k d h h2.1 h2.2 w).mono fun _ _ h => ⟨h.1, h.2 ▸ Below.refl _ _⟩
  · exact root_in kn dn hk hd w
theorem Rs.zero {k d : Int} {x : Nat} {e : Int} (h : Rs k d x e) (he : e ≠ 0) : x = 0 ∧ (e = 1 ∨ e = 18) := by
  rcases h with ⟨h, rfl, rfl⟩ | ⟨h, h2, rfl, rfl⟩ | ⟨kn, dn, rfl, rfl, hk, hd, rfl, rfl⟩
  · exact ⟨rfl, Or.inl rfl⟩
  · exact ⟨rfl, Or.inr rfl⟩
  · exact absurd rfl he

set_option maxHeartbeats 400000 in
theorem share_bad (k : Int) (h : k < 0 ∨ 32 < k) (w : World) :
    Calls Tryd.prog 49 #[.int .i64 k] w fun e w' => e = .returned (.tuple #[.int .u64 0, .int .i64 1]) ∧ w = w' := by
  have H := Lib.hid (fun W => hasRoot k false (by simp; omega) W)
  clear h
  go_enter Tryd.func49, Tryd.ntmps49
  go_wp2_with fail
  refine (H.out _).mono ?_
  rintro e w1 ⟨rfl, rfl⟩
  go_wp2
  go_ret2
  exact ⟨rfl, rfl⟩
set_option maxHeartbeats 400000 in
theorem share (k : Nat) (hk : k ≤ 32) (w : World) :
    Calls Tryd.prog 49 #[.int .i64 (k : Int)] w fun e w' => e = .returned (.tuple #[.int .u64 (Nt.inv (2 ^ k) : Nat), .int .i64 0]) ∧ Below w.heap.size w w' := by
  have H := Lib.hid (fun W => hasRoot (k : Int) true (by simp; omega) W)
  have hl : 2 ^ k ≤ 2 ^ 32 := Nat.pow_le_pow_right (by decide) hk
  have C := Lib.hid (fun W => Gd.inv_some (2 ^ k) (by omega) (two_ne k hk) W)
  have s1 := Bt.pow_u64 k (by omega)
  generalize Nt.inv (2 ^ k) = r at *
  obtain ⟨p, hp⟩ : ∃ p, p = 2 ^ k := ⟨_, rfl⟩
  rw [← hp] at C s1
  clear hl hp
  go_enter Tryd.func49, Tryd.ntmps49
  go_wp2_with fail
  refine (H.out _).mono ?_
  rintro e w1 ⟨rfl, rfl⟩
  go_wp2_with fail
  refine (C.out _).mono ?_
  rintro e w1 ⟨rfl, h1⟩
  go_wp2
  go_ret2
  exact ⟨rfl, h1⟩
set_option maxHeartbeats 400000 in
theorem rshare (k : Nat) (hk : k ≤ 32) (w : World) :
    Calls Tryd.prog 41 #[.int .i64 (k : Int)] w fun e w' => e = .returned (.int .u64 (Nt.inv (2 ^ k) : Nat)) ∧ w = w' := by
  have C := Lib.hid (fun W => Gr.pow 9223372034707292161 k (by omega) W)
  rw [sh_doc k hk] at C
  have q1 := Bt.wrapN k (by omega)
  generalize Nt.inv (2 ^ k) = r at *
  clear hk
  go_enter Tryd.func41, Tryd.ntmps41
  go_wp2_with fail
  refine (C.out _).mono ?_
  rintro e w1 ⟨rfl, rfl⟩
  go_wp2
  go_ret
  exact ⟨rfl, rfl⟩
set_option maxHeartbeats 400000 in
theorem rroot_fwd (k : Nat) (hk : k ≤ 32) (w : World) :
    Calls Tryd.prog 60 #[.int .i64 (k : Int), .int .i64 0] w fun e w' => e = .returned (.int .u64 (Nt.rt k : Nat)) ∧ w = w' := by
  have C := Lib.hid (fun W => Rr.root k hk W)
  generalize Nt.rt k = r at *
  clear hk
  go_enter Tryd.func60, Tryd.ntmps60
  go_wp2_with fail
  refine (C.out _).mono ?_
  rintro e w1 ⟨rfl, rfl⟩
  go_wp2
  go_ret
  exact ⟨rfl, rfl⟩
set_option maxHeartbeats 1000000 in
set_option maxRecDepth 100000 in
theorem rroot_inv (k : Nat) (hk : k ≤ 32) (w : World) :
    Calls Tryd.prog 60 #[.int .i64 (k : Int), .int .i64 1] w fun e w' => e = .returned (.int .u64 (Nt.inv (Nt.rt k) : Nat)) ∧ w = w' := by
  have C := Lib.hid (fun W => Rr.root k hk W)
  have hl : 2 ^ k ≤ 2 ^ 32 := Nat.pow_le_pow_right (by decide) hk
  have hp : 0 < 2 ^ k := Nat.two_pow_pos k
  have D := fun W => Gr.pow (Nt.rt k) (2 ^ k - 1) (by omega) W
  rw [rd_doc k hk] at D
  generalize Nt.inv (Nt.rt k) = q at *
  generalize Nt.rt k = r at *
  obtain ⟨t, ht⟩ : ∃ t, t = 2 ^ k - 1 := ⟨_, rfl⟩
  rw [← ht] at D
  have HT := Lib.hid (show ((2 ^ k : Nat) : Int) - 1 = (t : Int) by omega)
  have ht2 : t < 18446744073709551616 := by omega
  have D := Lib.hid D
  clear hl hp ht
  go_enter Tryd.func60, Tryd.ntmps60
  go_wp2_with fail
  refine (C.out _).mono ?_
  rintro e w1 ⟨rfl, rfl⟩
  go_wp2_with fail
  go_loop [6, 7] (fun v6 v7 => ∃ i n : Nat, v6 = .int .u64 (n : Nat) ∧ v7 = .int .i64 (i : Int) ∧ i ≤ k ∧ n = 2 ^ i) (fun _ v7 => k - (Lib.intOf v7).toNat)
  case atStart => exact ⟨0, 1, rfl, rfl, Nat.zero_le _, rfl⟩
  case round =>
    obtain ⟨i, n, rfl, rfl, hi, hn⟩ := hrel
    by_cases hlt : i < k
    · have i1 : (i : Int) < k := by omega
      have hs : 2 ^ (i + 1) = 2 * n := by rw [hn, Nat.pow_succ, Nat.mul_comm]
      have hl : 2 * n ≤ 2 ^ 33 := by rw [← hs]; exact Nat.pow_le_pow_right (by decide) (by omega)
      have q1 : IntKind.u64.wrap (2 * (n : Int)) = ((2 * n : Nat) : Int) := by rw [IntKind.wrap_u64]; omega
      obtain ⟨n2, hn2⟩ : ∃ n2, n2 = 2 * n := ⟨_, rfl⟩
      rw [← hn2] at q1 hs
      have HS := Lib.hid hs
      clear hn hl hn2 hs D C HT
      go_wp2_with fail
      go_round
      case rel => exact ⟨i + 1, n2, rfl, rfl, by omega, HS.out.symm⟩
      case measure => simp [Lib.intOf]; omega
    · have i1 : ¬ (i : Int) < k := by omega
      obtain rfl : i = k := by omega
      rw [← hn] at HT
      have q1 : IntKind.u64.wrap ((n : Int) - 1) = (t : Int) := by rw [HT.out]; exact Bt.wrapN t ht2
      clear HT hn C ht2
      go_wp2_with fail
      refine (D.out _).mono ?_
      rintro e w1 ⟨rfl, rfl⟩
      go_wp2
      go_ret
      exact ⟨rfl, rfl⟩
theorem rroot (k d : Nat) (hk : k ≤ 32) (hd : d ≤ 1) (w : World) :
    Calls Tryd.prog 60 #[.int .i64 (k : Int), .int .i64 (d : Int)] w fun e w' => e = .returned (.int .u64 (rd k d : Nat)) ∧ w = w' := by
  rcases Nat.eq_zero_or_pos d with h | h
  · subst h; rw [rd_zero]; exact rroot_fwd k hk w
  · obtain rfl : d = 1 := by omega
    rw [rd_other k 1 (by decide)]; exact rroot_inv k hk w
end Td
end Go.Proofs.YtfjoacopnkceoaaDoor
