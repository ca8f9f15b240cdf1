/- Layer 15: contracts of Read and Write. -/
import Derived.Test.YtfjlhbamldgklaaDiskF
import Derived.Test.YtfjlhbamldgklaaDiskC
set_option linter.unusedVariables false
namespace Go.Proofs.Ytfjlhbamldgklaa
open Go.RowKit Go.Lib Go.ChangeMaps
namespace Dk
open Ww

theorem adm_zero {d : Dm} {e : Nat} (h : adm d e = 0) : e = 0 ∧ d.down = false ∧ d.fuse ≠ 1 ∧ admd d e = { d with fuse := d.fuse - 1 } := by
  unfold adm at h
  by_cases h1 : d.down = true
  · rw [if_pos h1] at h; omega
  · rw [if_neg h1] at h
    by_cases h2 : e = 0
    · rw [if_neg (by simp [h2])] at h
      by_cases h3 : d.fuse = 1
      · rw [if_pos h3] at h; omega
      · exact ⟨h2, by simpa using h1, h3, by unfold admd; rw [if_neg h1, if_neg (by simp [h2]), if_neg h3]⟩
    · rw [if_pos h2] at h; omega
/-- What Read answers. -/
def RO (L : Ly) (z n : Nat) (d' : Dm) (k : Nat) (t : ByteArray) (w : World) (e : Ending) (w' : World) : Prop :=
  ∃ g bs, e = .returned (.tuple #[.slice (some ⟨g, 0, none⟩) z z, .int .i64 0]) ∧ Bs w' w'.heap.size (some ⟨g, 0, none⟩) bs ∧ bs.length = z ∧ t = ⟨bs.toArray⟩ ∧ Db w' L z n d' k ∧ Fr (Mine L) w w'
section
variable {w : World} {L : Ly} {z n k : Nat} {d : Dm}
theorem fault' (h : Db w L z n d k) (i l : Int) : Calls Try.prog 34 #[.pointer (some ⟨L.p, 0, none⟩), .int .i64 i, .int .i64 l] w fun e w' => e = .returned (.int .i64 (flt z n i l : Nat)) ∧ w' = w :=
  (fault h i l).mono fun _ _ h => ⟨h.1, h.2.symm⟩
set_option maxHeartbeats 1000000 in
set_option maxRecDepth 100000 in
theorem read_err (h : Db w L z n d k) (i : Int) (hi : -9223372036854775808 ≤ i ∧ i ≤ 9223372036854775807) (he : adm d (flt z n i z) ≠ 0) :
    Calls Try.prog 21 #[.pointer (some ⟨L.p, 0, none⟩), .int .i64 i] w (DO L z n (admd d (flt z n i z)) k (.tuple #[.slice none 0 0, .int .i64 (adm d (flt z n i z) : Nat)]) w) := by
  have hw := h.below (w' := w.drew) (Below.refl _ _).drew
  have FA := Lib.hid (fault' hw i z)
  obtain ⟨e0, he0⟩ : ∃ e0, e0 = flt z n i z := ⟨_, rfl⟩
  rw [← he0] at FA he ⊢
  have AD := Lib.hid (admit hw e0)
  obtain ⟨a, ha⟩ : ∃ a, a = adm d e0 := ⟨_, rfl⟩
  obtain ⟨d1, hd1⟩ : ∃ d1, d1 = admd d e0 := ⟨_, rfl⟩
  rw [← ha, ← hd1] at AD ⊢
  rw [← ha] at he
  have he2 : ¬ (a : Int) = 0 := by omega
  have FW := Lib.hid (show Fr (Mine L) w w.drew from Fr.of_below (Below.refl _ _).drew)
  obtain ⟨φ, sf, c, h⟩ := h
  have c0 := h.cells.1
  clear h hw he0 ha hd1 he hi
  obtain ⟨p, s, t, m⟩ := L
  go_enter Try.func21, Try.ntmps21
  go_upto_region 1 with fail
  go_still_tail 13, (by kernel_rfl)
  still_call FA.out
  repeat still_step
  refine wpStill_nil ?_
  change wpList _ _ _ _ _ w.drew
  go_wp2_with (go_at_call 33; refine AD.out.mono ?_; rintro e w1 ⟨rfl, D, F⟩)
  exact bodyPost_ret (v := .tuple #[.slice none 0 0, .int .i64 (a : Nat)]) (by simp [results, Try.results21, go_sem]) rfl ⟨rfl, D, FW.out.step F⟩
set_option maxHeartbeats 1000000 in
set_option maxRecDepth 100000 in
theorem write_err (h : Db w L z n d k) (i : Int) (A : Option Addr) (l q : Nat) (hi : -9223372036854775808 ≤ i ∧ i ≤ 9223372036854775807) (he : adm d (flt z n i l) ≠ 0) :
    Calls Try.prog 24 #[.pointer (some ⟨L.p, 0, none⟩), .int .i64 i, .slice A l q] w (DO L z n (admd d (flt z n i l)) k (.int .i64 (adm d (flt z n i l) : Nat)) w) := by
  have hw := h.below (w' := w.drew) (Below.refl _ _).drew
  have FA := Lib.hid (fault' hw i l)
  obtain ⟨e0, he0⟩ : ∃ e0, e0 = flt z n i l := ⟨_, rfl⟩
  rw [← he0] at FA he ⊢
  have AD := Lib.hid (admit hw e0)
  obtain ⟨a, ha⟩ : ∃ a, a = adm d e0 := ⟨_, rfl⟩
  obtain ⟨d1, hd1⟩ : ∃ d1, d1 = admd d e0 := ⟨_, rfl⟩
  rw [← ha, ← hd1] at AD ⊢
  rw [← ha] at he
  have he2 : ¬ (a : Int) = 0 := by omega
  have FW := Lib.hid (show Fr (Mine L) w w.drew from Fr.of_below (Below.refl _ _).drew)
  clear h hw he0 ha hd1 he hi
  obtain ⟨p, s, t, m⟩ := L
  go_enter Try.func24, Try.ntmps24
  go_upto_region 1 with fail
  go_still_tail 10, (by kernel_rfl)
  still_call FA.out
  repeat still_step
  refine wpStill_nil ?_
  change wpList _ _ _ _ _ w.drew
  go_wp2_with (go_at_call 33; refine AD.out.mono ?_; rintro e w1 ⟨rfl, D, F⟩)
  exact bodyPost_ret (v := .int .i64 (a : Nat)) (by simp [results, Try.results24, go_sem]) rfl ⟨rfl, D, FW.out.step F⟩
/-- What a count of one more leaves. -/
theorem Db.count (h : Db w L z n d k) (d' : Dm) (x i : Nat) (hi : (i = 4 ∧ x = d.r + 1 ∧ d' = { d with r := d.r + 1 }) ∨ (i = 5 ∧ x = d.w + 1 ∧ d' = { d with w := d.w + 1 }) ∨ (i = 6 ∧ x = d.s + 1 ∧ d' = { d with s := d.s + 1 })) :
    Db (w.setCell ⟨L.p, i, none⟩ (.int .i64 (x : Nat))) L z n d' k ∧ Fr (Mine L) w (w.setCell ⟨L.p, i, none⟩ (.int .i64 (x : Nat))) := by
  obtain ⟨φ, sf, c, h⟩ := h
  refine ⟨⟨φ, sf, c, ?_⟩, (Fr.refl _ _).put _ _ (Or.inl (Or.inl rfl))⟩
  rcases hi with ⟨rfl, rfl, rfl⟩ | ⟨rfl, rfl, rfl⟩ | ⟨rfl, rfl, rfl⟩
  · exact h.put 4 _ (blk_put h.hp 4 _) rfl h.hφ h.bφ
  · exact h.put 5 _ (blk_put h.hp 5 _) rfl h.hφ h.bφ
  · exact h.put 6 _ (blk_put h.hp 6 _) rfl h.hφ h.bφ
set_option maxHeartbeats 1000000 in
set_option maxRecDepth 100000 in
theorem read_ok (h : Db w L z n d k) (i : Nat) (hi : i < n) (he : adm d 0 = 0) (hr : d.r ≤ 1000000) :
    Calls Try.prog 21 #[.pointer (some ⟨L.p, 0, none⟩), .int .i64 (i : Nat)] w (RO L z n { d with fuse := d.fuse - 1, r := d.r + 1 } k (d.f i).now w) := by
  obtain ⟨y, hy⟩ : ∃ y, y = d.r := ⟨_, rfl⟩
  have hw := h.below (w' := w.drew) (Below.refl _ _).drew
  have FA := fault' hw (i : Int) (z : Int)
  have e0 : flt z n (i : Int) (z : Int) = 0 := by unfold flt; rw [if_neg (by omega), if_neg (by simp)]
  rw [e0] at FA
  replace FA := Lib.hid FA
  have AD := admit hw 0
  rw [he, (adm_zero he).2.2.2] at AD
  replace AD := Lib.hid AD
  have FW := Lib.hid (show Fr (Mine L) w w.drew from Fr.of_below (Below.refl _ _).drew)
  have GE := Lib.hid (fun (w1 : World) (D : Db w1 L z n { d with fuse := d.fuse - 1 } k) => (show w1.cell? ⟨L.p, 4, none⟩ = some (.int .i64 (y : Nat)) ∧ w1.frozen? ⟨L.p, 4, none⟩ = false ∧ Fr (Mine L) w1 (w1.setCell ⟨L.p, 4, none⟩ (.int .i64 ((d.r + 1 : Nat) : Int))) ∧ Db (w1.setCell ⟨L.p, 4, none⟩ (.int .i64 ((d.r + 1 : Nat) : Int))) L z n { d with fuse := d.fuse - 1, r := d.r + 1 } k ∧
      Calls Try.prog 35 #[.pointer (some ⟨L.p, 0, none⟩), .int .i64 (i : Nat)] (w1.setCell ⟨L.p, 4, none⟩ (.int .i64 ((d.r + 1 : Nat) : Int))) (Gt z (d.f i).now (w1.setCell ⟨L.p, 4, none⟩ (.int .i64 ((d.r + 1 : Nat) : Int)))) from by
    obtain ⟨hD, hF⟩ := D.count { d with fuse := d.fuse - 1, r := d.r + 1 } (d.r + 1) 4 (Or.inl ⟨rfl, rfl, rfl⟩)
    have G := get hD i hi
    obtain ⟨φ, sf, c, D⟩ := D
    exact ⟨by rw [hy]; exact D.cells.2.2.2.2.1, D.frz 4, hF, hD, G⟩))
  have r1 : IntKind.i64.wrap ((y : Int) + 1) = ((d.r + 1 : Nat) : Int) := by rw [IntKind.wrap_i64]; omega
  obtain ⟨x, hx⟩ : ∃ x, x = d.r + 1 := ⟨_, rfl⟩
  obtain ⟨d2, hd2⟩ : ∃ d2 : Dm, d2 = { d with fuse := d.fuse - 1, r := d.r + 1 } := ⟨_, rfl⟩
  rw [← hd2] at GE ⊢
  rw [← hx] at GE r1
  obtain ⟨φ, sf, c, h⟩ := h
  have c0 := h.cells.1
  clear h hw e0 he hi hr hx hd2 hy
  obtain ⟨p, s, t, m⟩ := L
  go_enter Try.func21, Try.ntmps21
  go_upto_region 1 with fail
  go_still_tail 13, (by kernel_rfl)
  still_call FA.out
  repeat still_step
  refine wpStill_nil ?_
  change wpList _ _ _ _ _ w.drew
  go_upto_region 4 with (go_at_call 33; refine AD.out.mono ?_; rintro e w1 ⟨rfl, D, F⟩)
  obtain ⟨g4, z4, f4, d4, G⟩ := GE.out w1 D
  have FF := Lib.hid (fun w3 (hb : Below (w1.setCell ⟨p, 4, none⟩ (.int .i64 (x : Int))).heap.size (w1.setCell ⟨p, 4, none⟩ (.int .i64 (x : Int))) w3) => And.intro (d4.below hb) (((FW.out.step F).step f4).step (Fr.of_below hb)))
  replace G := Lib.hid G
  clear D F f4 d4 GE FA AD FW
  go_wp2_with (go_at_call 35; refine G.out.mono ?_; rintro e w3 ⟨bs, rfl, R3, l3, e3, b3⟩)
  exact bodyPost_ret (v := .tuple #[.slice (some ⟨_, 0, none⟩) z z, .int .i64 0]) (by simp [results, Try.results21, go_sem]) rfl ⟨_, bs, rfl, R3, l3, e3, (FF.out w3 b3).1, (FF.out w3 b3).2⟩
set_option maxHeartbeats 1000000 in
set_option maxRecDepth 100000 in
theorem write_ok (h : Db w L z n d k) (i : Nat) (hi : i < n) (he : adm d 0 = 0) (hr : d.w ≤ 1000000) (hk : k < 4611686018427387904) (A : Option Addr) (q : Nat) (bs : List UInt8) (hb : bs.length = z) (R : Bs w w.heap.size A bs) :
    Calls Try.prog 24 #[.pointer (some ⟨L.p, 0, none⟩), .int .i64 (i : Nat), .slice A z q] w (DO L z n { d with fuse := d.fuse - 1, w := d.w + 1, f := put d.f i (wrote (d.f i) ⟨bs.toArray⟩) } (k + 1) (.int .i64 0) w) := by
  obtain ⟨y, hy⟩ : ∃ y, y = d.w := ⟨_, rfl⟩
  have hw := h.below (w' := w.drew) (Below.refl _ _).drew
  have FA := fault' hw (i : Int) (z : Int)
  have e0 : flt z n (i : Int) (z : Int) = 0 := by unfold flt; rw [if_neg (by omega), if_neg (by simp)]
  rw [e0] at FA
  replace FA := Lib.hid FA
  have AD := admit hw 0
  rw [he, (adm_zero he).2.2.2] at AD
  replace AD := Lib.hid AD
  have FW := Lib.hid (show Fr (Mine L) w w.drew from Fr.of_below (Below.refl _ _).drew)
  have NB := h.nobytes
  have GE := Lib.hid (fun (w1 : World) (D : Db w1 L z n { d with fuse := d.fuse - 1 } k) (F1 : Fr (Mine L) w w1) => (show w1.cell? ⟨L.p, 5, none⟩ = some (.int .i64 (y : Nat)) ∧ w1.frozen? ⟨L.p, 5, none⟩ = false ∧ Fr (Mine L) w1 (w1.setCell ⟨L.p, 5, none⟩ (.int .i64 ((d.w + 1 : Nat) : Int))) ∧
      Calls Try.prog 36 #[.pointer (some ⟨L.p, 0, none⟩), .int .i64 (i : Nat), .slice A z q] (w1.setCell ⟨L.p, 5, none⟩ (.int .i64 ((d.w + 1 : Nat) : Int))) (DO L z n { d with fuse := d.fuse - 1, w := d.w + 1, f := put d.f i (wrote (d.f i) ⟨bs.toArray⟩) } (k + 1) (.tuple #[]) (w1.setCell ⟨L.p, 5, none⟩ (.int .i64 ((d.w + 1 : Nat) : Int)))) from by
    obtain ⟨hD, hF⟩ := D.count { d with fuse := d.fuse - 1, w := d.w + 1 } (d.w + 1) 5 (Or.inr (Or.inl ⟨rfl, rfl, rfl⟩))
    have G := put_ hD i hi hk A q bs (bs_fr (bs_fr R F1 NB) hF D.nobytes) hb
    rw [hb] at G
    obtain ⟨φ, sf, c, D⟩ := D
    exact ⟨by rw [hy]; exact D.cells.2.2.2.2.2.1, D.frz 5, hF, G⟩))
  have r1 : IntKind.i64.wrap ((y : Int) + 1) = ((d.w + 1 : Nat) : Int) := by rw [IntKind.wrap_i64]; omega
  obtain ⟨x, hx⟩ : ∃ x, x = d.w + 1 := ⟨_, rfl⟩
  obtain ⟨d2, hd2⟩ : ∃ d2 : Dm, d2 = { d with fuse := d.fuse - 1, w := d.w + 1, f := put d.f i (wrote (d.f i) ⟨bs.toArray⟩) } := ⟨_, rfl⟩
  rw [← hd2] at GE ⊢
  rw [← hx] at GE r1
  clear h hw e0 he hi hr hx hd2 hy R NB hb
  obtain ⟨p, s, t, m⟩ := L
  go_enter Try.func24, Try.ntmps24
  go_upto_region 1 with fail
  go_still_tail 10, (by kernel_rfl)
  still_call FA.out
  repeat still_step
  refine wpStill_nil ?_
  change wpList _ _ _ _ _ w.drew
  go_upto_region 4 with (go_at_call 33; refine AD.out.mono ?_; rintro e w1 ⟨rfl, D, F⟩)
  obtain ⟨g5, z5, f5, G⟩ := GE.out w1 D (FW.out.step F)
  have FF := Lib.hid (fun w3 (hb : Fr (Mine ⟨p, s, t, m⟩) (w1.setCell ⟨p, 5, none⟩ (.int .i64 (x : Int))) w3) => ((FW.out.step F).step f5).step hb)
  replace G := Lib.hid G
  clear D F f5 GE FA AD FW
  go_wp2_with (go_at_call 36; refine G.out.mono ?_; rintro e w3 ⟨rfl, D3, b3⟩)
  exact bodyPost_ret (v := .int .i64 0) (by simp [results, Try.results24, go_sem]) rfl ⟨rfl, D3, FF.out w3 b3⟩
end
end Dk
end Go.Proofs.Ytfjlhbamldgklaa
