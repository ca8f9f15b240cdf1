/- Layer 15: the law's run, whole; awake. -/
import Derived.Test.YtfjlhbamldgklaaDiskL
set_option linter.unusedVariables false
namespace Go.Proofs.Ytfjlhbamldgklaa
open Go.RowKit Go.Lib Go.ChangeMaps
namespace Dk
open Ww
section
variable {w : World} {L : Ly} {z n k : Nat} {d : Dm}
theorem RN.mono {d' : Dm} {k' e0 : Nat} {t : ByteArray} {e : Ending} {w' : World} (h : RN L z n d' k e0 t w e w') (hk : k ≤ k') : RN L z n d' k' e0 t w e w' := ⟨h.1, h.2.1.mono hk, h.2.2⟩
theorem flt_zero {i l : Int} (h : flt z n i l = 0) : 0 ≤ i ∧ i < n ∧ l = z := by
  unfold flt at h
  by_cases h1 : i < 0 ∨ (n : Int) ≤ i
  · rw [if_pos h1] at h; omega
  · rw [if_neg h1] at h
    by_cases h2 : l = z
    · exact ⟨by omega, by omega, h2⟩
    · rw [if_pos h2] at h; omega
theorem stp_crash {a : ActV} (hk : a.kind = 4) : stp z n d a = ({ d with down := true, fuse := 0 }, 0, ⟨#[]⟩) := by unfold stp; rw [if_pos hk]
theorem stp_boot_no {a : ActV} (hk : a.kind = 5 ∨ a.kind = 6) (hd : d.down = false) : stp z n d a = (d, 5, ⟨#[]⟩) := by
  unfold stp; rw [if_neg (by omega), if_pos hk, if_neg (by rw [hd]; simp)]
theorem stp_boot_ok {a : ActV} (hk : a.kind = 5 ∨ a.kind = 6) (hd : d.down = true) : stp z n d a = ({ d with down := false, f := fun i => booted (d.f i) (kept d.f a.K a.ks i) }, 0, ⟨#[]⟩) := by
  unfold stp; rw [if_neg (by omega), if_pos hk, if_pos hd]
theorem stp_fuse {a : ActV} (hk : a.kind = 7) : stp z n d a = ({ d with fuse := a.i.toNat }, 0, ⟨#[]⟩) := by
  unfold stp; rw [if_neg (by omega), if_neg (by omega), if_pos hk]
theorem stp_other {a : ActV} (hk : a.kind < 0 ∨ 8 < a.kind) : stp z n d a = (d, 0, ⟨#[]⟩) := by
  unfold stp; rw [if_neg (by omega), if_neg (by omega), if_neg (by omega), if_pos hk]
/-- The kinds of the operations. -/
def Opk (a : ActV) : Prop := 0 ≤ a.kind ∧ a.kind ≤ 8 ∧ a.kind ≠ 4 ∧ a.kind ≠ 5 ∧ a.kind ≠ 6 ∧ a.kind ≠ 7
theorem stp_err {a : ActV} (hk : Opk a) (he : adm d (er z n a) ≠ 0) : stp z n d a = (admd d (er z n a), adm d (er z n a), ⟨#[]⟩) := by
  obtain ⟨k0, k8, k4, k5, k6, k7⟩ := hk
  unfold stp; rw [if_neg k4, if_neg (by omega), if_neg k7, if_neg (by omega), if_pos he]
theorem stp_read {a : ActV} (hk : a.kind = 2) (he : adm d (er z n a) = 0) : stp z n d a = ({ d with fuse := d.fuse - 1, r := d.r + 1 }, 0, (d.f a.i.toNat).now) := by
  unfold stp; rw [if_neg (by omega), if_neg (by omega), if_neg (by omega), if_neg (by omega), if_neg (by omega), if_pos hk]
theorem stp_sync {a : ActV} (hk : a.kind = 3) (he : adm d (er z n a) = 0) : stp z n d a = ({ d with fuse := d.fuse - 1, s := d.s + 1, f := fun i => synced (d.f i) }, 0, ⟨#[]⟩) := by
  unfold stp; rw [if_neg (by omega), if_neg (by omega), if_neg (by omega), if_neg (by omega), if_neg (by omega), if_neg (by omega), if_pos hk]
theorem stp_write {a : ActV} (hk : a.kind = 0 ∨ a.kind = 1 ∨ a.kind = 8) (he : adm d (er z n a) = 0) : stp z n d a = ({ d with fuse := d.fuse - 1, w := d.w + 1, f := put d.f a.i.toNat (wrote (d.f a.i.toNat) ⟨(lb a.bs z).toArray⟩) }, 0, ⟨#[]⟩) := by
  unfold stp; rw [if_neg (by omega), if_neg (by omega), if_neg (by omega), if_neg (by omega), if_neg (by omega), if_neg (by omega), if_neg (by omega)]
theorem er_sync {a : ActV} (hk : a.kind = 3) : er z n a = 0 := if_pos hk
theorem er_raw {a : ActV} (hk : a.kind = 8) : er z n a = flt z n a.i a.bs.length := by unfold er; rw [if_neg (by omega), if_pos hk]
theorem er_std {a : ActV} (h3 : a.kind ≠ 3) (h8 : a.kind ≠ 8) : er z n a = flt z n a.i z := by unfold er; rw [if_neg h3, if_neg h8]
theorem run_stp (h : Db w L z n d k) (a : ActV) (hA : Av w w.heap.size a) (hk : k ≤ 1000000) (hr : d.r ≤ 1000000) (hw : d.w ≤ 1000000) (hs : d.s ≤ 1000000) :
    Calls Try.prog 12 #[.pointer (some ⟨L.p, 0, none⟩), a.val, .int .i64 (z : Nat)] w (RN L z n (stp z n d a).1 (k + 1) (stp z n d a).2.1 (stp z n d a).2.2 w) := by
  by_cases h4 : a.kind = 4
  · rw [stp_crash h4]
    exact (run_crash h a hA h4).mono fun _ _ x => x.mono (by omega)
  by_cases h5 : a.kind = 5 ∨ a.kind = 6
  · cases hd : d.down with
    | true =>
      rw [stp_boot_ok h5 hd]
      exact (run_boot_ok h a hA h5 hd hk).mono fun _ _ x => x.mono (by omega)
    | false =>
      rw [stp_boot_no h5 hd]
      exact (run_boot_no h a hA h5 hd).mono fun _ _ x => x.mono (by omega)
  by_cases h7 : a.kind = 7
  · rw [stp_fuse h7]
    exact (run_fuse h a hA h7).mono fun _ _ x => x.mono (by omega)
  by_cases ho : a.kind < 0 ∨ 8 < a.kind
  · rw [stp_other ho]
    exact (run_other h a hA ho).mono fun _ _ x => x.mono (by omega)
  have hop : Opk a := ⟨by omega, by omega, h4, by omega, by omega, h7⟩
  by_cases he : adm d (er z n a) = 0
  · have e0 := (adm_zero he).1
    have he0 : adm d 0 = 0 := by have h1 := he; rw [e0] at h1; exact h1
    by_cases h3 : a.kind = 3
    · rw [stp_sync h3 he]
      exact (run_sync_ok h a hA h3 he0 hs).mono fun _ _ x => x.mono (by omega)
    by_cases h8 : a.kind = 8
    · rw [stp_write (Or.inr (Or.inr h8)) he]
      rw [er_raw h8] at e0
      obtain ⟨i0, i1, i2⟩ := flt_zero e0
      have hl : a.bs.length = z := by omega
      have hi : a.i = (a.i.toNat : Nat) := by omega
      rw [lb_self hl]
      exact run_raw_ok h a hA a.i.toNat h8 hi (by omega) he0 hl hw hk
    rw [er_std h3 h8] at e0
    obtain ⟨i0, i1, _⟩ := flt_zero e0
    have hi : a.i = (a.i.toNat : Nat) := by omega
    by_cases h2 : a.kind = 2
    · rw [stp_read h2 he]
      exact (run_read_ok h a hA a.i.toNat h2 hi (by omega) he0 hr).mono fun _ _ x => x.mono (by omega)
    have h01 : a.kind = 0 ∨ a.kind = 1 := by omega
    rw [stp_write (by omega) he]
    exact run_laid_ok h a hA a.i.toNat h01 hi (by omega) he0 hw hk
  · rw [stp_err hop he]
    by_cases h3 : a.kind = 3
    · rw [er_sync h3] at he ⊢
      exact (run_sync_err h a hA h3 he).mono fun _ _ x => x.mono (by omega)
    by_cases h8 : a.kind = 8
    · rw [er_raw h8] at he ⊢
      exact (run_raw_err h a hA h8 he).mono fun _ _ x => x.mono (by omega)
    rw [er_std h3 h8] at he ⊢
    by_cases h2 : a.kind = 2
    · exact (run_read_err h a hA h2 he).mono fun _ _ x => x.mono (by omega)
    · exact (run_laid_err h a hA (by omega) he).mono fun _ _ x => x.mono (by omega)
end
end Dk
end Go.Proofs.Ytfjlhbamldgklaa
