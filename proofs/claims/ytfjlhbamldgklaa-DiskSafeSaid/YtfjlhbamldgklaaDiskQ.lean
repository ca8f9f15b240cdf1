/- Layer 15: the law's tells, whole. -/
import Derived.Test.YtfjlhbamldgklaaDiskM
import Derived.Test.YtfjlhbamldgklaaDiskN
set_option linter.unusedVariables false
namespace Go.Proofs.Ytfjlhbamldgklaa
open Go.RowKit Go.Lib
namespace Dk
open Ww
/-- What tells answers. -/
def TL (B n : Nat) (d : Dm) (e0 : Nat) (t : ByteArray) (w : World) (e : Ending) (w' : World) : Prop :=
  ∃ V c, e = .returned (.tuple #[sv (.slice V n c) d, .int .i64 (e0 : Nat), .string t]) ∧ Sx w' B (.slice V n c) d.f n ∧ Below w.heap.size w w'
theorem TL.same {B n c : Nat} {V : Option Addr} {d d' : Dm} {e0 : Nat} {t : ByteArray} {w w' : World} {e : Ending} (R : Sx w B (.slice V n c) d.f n) (hf : d'.f = d.f) (h : e = .returned (.tuple #[sv (.slice V n c) d', .int .i64 (e0 : Nat), .string t]) ∧ Below w.heap.size w w') : TL B n d' e0 t w e w' :=
  ⟨V, c, h.1, by rw [hf]; exact R.below h.2, h.2⟩
theorem TL.other {B n : Nat} {d : Dm} {w w' : World} {e : Ending} (hB : B ≤ w.heap.size) (h : TO d n w e w') : TL B n d 0 ⟨#[]⟩ w e w' := by
  obtain ⟨V, c, h1, h2, h3⟩ := h
  exact ⟨V, c, h1, h2.less hB, h3⟩
theorem flt_out {z n : Nat} {i l : Int} (h : i < 0 ∨ (n : Int) ≤ i) : flt z n i l = 2 := if_pos h
theorem flt_odd {z n : Nat} {i l : Int} (h : ¬ (i < 0 ∨ (n : Int) ≤ i)) (hl : l ≠ z) : flt z n i l = 19 := by unfold flt; rw [if_neg h, if_pos hl]
theorem flt_in {z n : Nat} {i : Int} (h : ¬ (i < 0 ∨ (n : Int) ≤ i)) : flt z n i z = 0 := by unfold flt; rw [if_neg h, if_neg (by simp)]
theorem adm_down {d : Dm} {e : Nat} (hd : d.down = true) : adm d e = 8 ∧ admd d e = d := ⟨if_pos hd, if_pos hd⟩
theorem adm_err {d : Dm} {e : Nat} (hd : d.down = false) (he : e ≠ 0) : adm d e = e ∧ admd d e = d :=
  ⟨by unfold adm; rw [if_neg (by rw [hd]; simp), if_pos he], by unfold admd; rw [if_neg (by rw [hd]; simp), if_pos he]⟩
theorem adm_burn {d : Dm} (hd : d.down = false) (hf : d.fuse = 1) : adm d 0 = 8 ∧ admd d 0 = { d with down := true, fuse := 0 } :=
  ⟨by unfold adm; rw [if_neg (by rw [hd]; simp), if_neg (by simp), if_pos hf], by unfold admd; rw [if_neg (by rw [hd]; simp), if_neg (by simp), if_pos hf]⟩
theorem adm_ok {d : Dm} (hd : d.down = false) (hf : d.fuse ≠ 1) : adm d 0 = 0 := by unfold adm; rw [if_neg (by rw [hd]; simp), if_neg (by simp), if_neg hf]
theorem tells_stp (B : Nat) (V : Option Addr) (n c : Nat) (d : Dm) (a : ActV) (z : Nat) (w : World) (R : Sx w B (.slice V n c) d.f n) (hB : B ≤ w.heap.size) (h0n : 0 < n) (hn : n ≤ 1000000) (hA : Av w w.heap.size a) (hz : z ≤ 281474976710656)
    (hr : d.r ≤ 1000000) (hw : d.w ≤ 1000000) (hs : d.s ≤ 1000000) (hu : d.fuse ≤ 9223372036854775807) :
    Calls Try.prog 13 #[sv (.slice V n c) d, a.val, .int .i64 (z : Nat)] w (TL B n (stp z n d a).1 (stp z n d a).2.1 (stp z n d a).2.2 w) := by
  by_cases h4 : a.kind = 4
  · rw [stp_crash h4]
    exact (tells_crash V n c d a z w h4).mono fun _ _ x => TL.same R rfl x
  by_cases h5 : a.kind = 5 ∨ a.kind = 6
  · cases hd : d.down with
    | true =>
      rw [stp_boot_ok h5 hd]
      exact (tells_boot B V n c d a z w R h0n hn h5 hd hA.ks hA.lK).mono fun _ _ x => TL.other hB x
    | false =>
      rw [stp_boot_no h5 hd]
      exact (tells_boot_no V n c d a z w h5 hd).mono fun _ _ x => TL.same R rfl x
  by_cases h7 : a.kind = 7
  · rw [stp_fuse h7]
    exact (tells_fuse V n c d a z w a.i.toNat h7 (by omega)).mono fun _ _ x => TL.same R rfl x
  by_cases ho : a.kind < 0 ∨ 8 < a.kind
  · rw [stp_other ho]
    exact (tells_other V n c d a z w ho).mono fun _ _ x => TL.same R rfl x
  have hop : Opk a := ⟨by omega, by omega, h4, by omega, by omega, h7⟩
  have hk : 0 ≤ a.kind ∧ a.kind ≤ 8 ∧ a.kind ≠ 4 ∧ a.kind ≠ 5 ∧ a.kind ≠ 6 ∧ a.kind ≠ 7 := hop
  cases hd : d.down with
  | true =>
    have e := adm_down (e := er z n a) hd
    rw [stp_err hop (by rw [e.1]; omega), e.1, e.2]
    exact (tells_down V n c d a z w hk hd).mono fun _ _ x => TL.same R rfl x
  | false =>
    by_cases he : er z n a = 0
    · -- no other error
      have hin : a.kind ≠ 3 → 0 ≤ a.i ∧ a.i < n := fun h3 => by
        by_cases h8 : a.kind = 8
        · rw [er_raw h8] at he
          have := flt_zero he
          exact ⟨this.1, this.2.1⟩
        · rw [er_std h3 h8] at he
          have := flt_zero he
          exact ⟨this.1, this.2.1⟩
      have hlen : a.kind = 8 → a.bs.length = z := fun h8 => by
        rw [er_raw h8] at he
        have := (flt_zero he).2.2
        omega
      by_cases hf : d.fuse = 1
      · have e := adm_burn hd hf
        rw [stp_err hop (by rw [he, e.1]; omega), he, e.1, e.2]
        exact (tells_burn V n c d a z w hk hd hin hlen hf).mono fun _ _ x => TL.same R rfl x
      · have e : adm d (er z n a) = 0 := by rw [he]; exact adm_ok hd hf
        by_cases h3 : a.kind = 3
        · rw [stp_sync h3 e]
          exact (tells_sync B V n c d a z w R h0n hn h3 hs hd hf hu).mono fun _ _ x => TL.other hB x
        have hi : a.i = (a.i.toNat : Nat) := by have := hin h3; omega
        have hii : a.i.toNat < n := by have := hin h3; omega
        by_cases h2 : a.kind = 2
        · rw [stp_read h2 e]
          exact (tells_read V n c d a z w B a.i.toNat R h2 hd hi hii hf hu hr).mono fun _ _ x => TL.same R rfl x
        by_cases h8 : a.kind = 8
        · rw [stp_write (Or.inr (Or.inr h8)) e, lb_self (hlen h8)]
          exact (tells_write B a.i.toNat V n c d a z w R h0n hn h8 hi hii (hlen h8) hA.bs hw hd hf hu).mono fun _ _ x => TL.other hB x
        rw [stp_write (by omega) e]
        exact (tells_laid B a.i.toNat V n c d a z w R h0n hn (by omega) hi hii hz hA.bs hw hd hf hu).mono fun _ _ x => TL.other hB x
    · have e := adm_err hd he
      rw [stp_err hop (by rw [e.1]; exact he), e.1, e.2]
      have h3 : a.kind ≠ 3 := fun h3 => he (er_sync h3)
      by_cases hi : a.i < 0 ∨ (n : Int) ≤ a.i
      · have e2 : er z n a = 2 := by
          by_cases h8 : a.kind = 8
          · rw [er_raw h8]; exact flt_out hi
          · rw [er_std h3 h8]; exact flt_out hi
        rw [e2]
        exact (tells_range V n c d a z w ⟨hk.1, hk.2.1, hk.2.2.1, hk.2.2.2.1, hk.2.2.2.2.1, hk.2.2.2.2.2, h3⟩ hd hi).mono fun _ _ x => TL.same R rfl x
      · have h8 : a.kind = 8 := by
          by_cases h8 : a.kind = 8
          · exact h8
          · exfalso; rw [er_std h3 h8] at he; exact he (flt_in hi)
        have hl : (a.bs.length : Int) ≠ z := fun hl => by
          rw [er_raw h8, hl] at he; exact he (flt_in hi)
        rw [er_raw h8, flt_odd hi hl]
        exact (tells_odd V n c d a z w h8 hd (by omega) (by omega)).mono fun _ _ x => TL.same R rfl x
/-- A count of one more at the most. -/
theorem stp_counts (z n : Nat) (d : Dm) (a : ActV) (b : Nat) (h : d.r ≤ b ∧ d.w ≤ b ∧ d.s ≤ b) : (stp z n d a).1.r ≤ b + 1 ∧ (stp z n d a).1.w ≤ b + 1 ∧ (stp z n d a).1.s ≤ b + 1 := by
  have had : ∀ e, (admd d e).r = d.r ∧ (admd d e).w = d.w ∧ (admd d e).s = d.s := fun e => by
    unfold admd
    split
    · exact ⟨rfl, rfl, rfl⟩
    · split
      · exact ⟨rfl, rfl, rfl⟩
      · split <;> exact ⟨rfl, rfl, rfl⟩
  unfold stp
  repeat' split
  all_goals first
    | (simp only; omega)
    | (rw [(had _).1, (had _).2.1, (had _).2.2]; omega)
/-- No fuse is longer than an int. -/
theorem stp_fuse_le (z n : Nat) (d : Dm) (a : ActV) (h : d.fuse ≤ 9223372036854775807) (hi : a.i ≤ 9223372036854775807) : (stp z n d a).1.fuse ≤ 9223372036854775807 := by
  have had : ∀ e, (admd d e).fuse ≤ d.fuse := fun e => by
    unfold admd
    split
    · exact Nat.le_refl _
    · split
      · exact Nat.le_refl _
      · split
        · exact Nat.zero_le _
        · exact Nat.sub_le _ _
  unfold stp
  repeat' split
  all_goals first
    | (simp only; omega)
    | exact Nat.le_trans (had _) h
end Dk
end Go.Proofs.Ytfjlhbamldgklaa
