/- Layer 15: contracts of the law's run, case by case. -/
import Derived.Test.YtfjlhbamldgklaaDiskK
import Derived.BigQuiet
import Derived.Deep.QuietTactic
import Derived.Deep.DeepCutAuto
set_option linter.unusedVariables false
namespace Go.Proofs.Ytfjlhbamldgklaa
open Go.RowKit Go.Lib Go.ChangeMaps
namespace Dk
open Ww

/-- What an operation is told, if the power is there. -/
def er (z n : Nat) (a : ActV) : Nat := if a.kind = 3 then 0 else if a.kind = 8 then flt z n a.i a.bs.length else flt z n a.i z
/-- A thing is done, by the document: the disk then, the error, the bytes. -/
def stp (z n : Nat) (d : Dm) (a : ActV) : Dm × Nat × ByteArray :=
  if a.kind = 4 then ({ d with down := true, fuse := 0 }, 0, ⟨#[]⟩)
  else if a.kind = 5 ∨ a.kind = 6 then (if d.down = true then ({ d with down := false, f := fun i => booted (d.f i) (kept d.f a.K a.ks i) }, 0, ⟨#[]⟩) else (d, 5, ⟨#[]⟩))
  else if a.kind = 7 then ({ d with fuse := a.i.toNat }, 0, ⟨#[]⟩)
  else if a.kind < 0 ∨ 8 < a.kind then (d, 0, ⟨#[]⟩)
  else if adm d (er z n a) ≠ 0 then (admd d (er z n a), adm d (er z n a), ⟨#[]⟩)
  else if a.kind = 2 then ({ d with fuse := d.fuse - 1, r := d.r + 1 }, 0, (d.f a.i.toNat).now)
  else if a.kind = 3 then ({ d with fuse := d.fuse - 1, s := d.s + 1, f := fun i => synced (d.f i) }, 0, ⟨#[]⟩)
  else ({ d with fuse := d.fuse - 1, w := d.w + 1, f := put d.f a.i.toNat (wrote (d.f a.i.toNat) ⟨(lb a.bs z).toArray⟩) }, 0, ⟨#[]⟩)
/-- What run answers. -/
def RN (L : Ly) (z n : Nat) (d' : Dm) (k : Nat) (e0 : Nat) (t : ByteArray) (w : World) (e : Ending) (w' : World) : Prop :=
  e = .returned (.tuple #[.int .i64 (e0 : Nat), .string t]) ∧ Db w' L z n d' k ∧ Fr (Mine L) w w'
theorem kb_more {w : World} {B B' K : Nat} {A : Option Addr} {ks : Nat → Bool} (h : Kb w B A K ks) (hB : B ≤ B') : Kb w B' A K ks :=
  ⟨fun i hi => by
    obtain ⟨b, off, e, hb, c⟩ := h.at_ i hi
    exact ⟨b, off, e, by omega, c⟩⟩
theorem laid_ (A : Option Addr) (c n : Nat) (bs : List UInt8) (w : World) (R : Bs w w.heap.size A bs) (hn : n ≤ 281474976710656) :
    Calls Try.prog 22 #[.slice A bs.length c, .int .i64 (n : Nat)] w fun e w' => ∃ g, e = .returned (.slice (some ⟨g, 0, none⟩) n n) ∧ Bs w' w'.heap.size (some ⟨g, 0, none⟩) (lb bs n) ∧ Below w.heap.size w w' :=
  (laid _ A c n bs w R hn).mono fun _ _ h => ⟨_, h⟩
theorem conv_nil (W : World) : (convert 47 9 (.slice none 0 0)).run Try.prog W = .ok (.string ⟨#[]⟩) W := conv_bytes (Bs.nil_ W 0 none) 0
section
variable {w : World} {L : Ly} {z n k : Nat} {d : Dm}
theorem RN.mk {L : Ly} {z n : Nat} {d' : Dm} {k e0 : Nat} {t : ByteArray} {w w1 : World} (D : Db w1 L z n d' k) (F : Fr (Mine L) w w1) : RN L z n d' k e0 t w (.returned (.tuple #[.int .i64 (e0 : Nat), .string t])) w1.drew :=
  ⟨rfl, D.below (Below.refl _ _).drew, F.trans (Fr.of_below (S := Mine L) (Below.refl _ _).drew) (fun b e => Or.inl e)⟩
set_option maxHeartbeats 1000000 in
set_option maxRecDepth 100000 in
theorem run_crash (h : Db w L z n d k) (a : ActV) (hA : Av w w.heap.size a) (hk : a.kind = 4) :
    Calls Try.prog 12 #[.pointer (some ⟨L.p, 0, none⟩), a.val, .int .i64 (z : Nat)] w (RN L z n { d with down := true, fuse := 0 } k 0 ⟨#[]⟩ w) := by
  obtain ⟨kd, ai, bs, K, ks, A, cA, A2, cK⟩ := a
  simp only [ActV.val]
  simp only at *
  have b1 : Below w.heap.size w (w.alloc (.cells #[.int .i64 kd, .int .i64 ai, .slice A bs.length cA, .slice A2 K cK] 49)) := (Below.refl w.heap.size w).alloc (Nat.le_refl _) _
  have hw := h.below b1
  have FW := Lib.hid (show Fr (Mine L) w (w.alloc (.cells #[.int .i64 kd, .int .i64 ai, .slice A bs.length cA, .slice A2 K cK] 49)) from Fr.of_below b1)
  have cn := conv_nil
  subst hk
  have C := Lib.hid (crash hw)
  clear h hw b1 hA
  generalize bs.length = bl at *
  go_enter Try.func12, Try.ntmps12
  go_wp2_with (go_at_call 23; refine C.out.mono ?_; rintro e w1 ⟨rfl, D, F⟩; have E := Lib.hid (RN.mk (e0 := 0) (t := ⟨#[]⟩) D (FW.out.step F)); clear D F)
  go_region
  all_goals go_wp2
  all_goals exact bodyPost_ret (v := .tuple #[.int .i64 0, .string ⟨#[]⟩]) (by simp [results, Try.results12, go_sem]) rfl E.out
set_option maxHeartbeats 1000000 in
set_option maxRecDepth 100000 in
theorem run_boot_no (h : Db w L z n d k) (a : ActV) (hA : Av w w.heap.size a) (hk : a.kind = 5 ∨ a.kind = 6) (hd : d.down = false) :
    Calls Try.prog 12 #[.pointer (some ⟨L.p, 0, none⟩), a.val, .int .i64 (z : Nat)] w (RN L z n d k 5 ⟨#[]⟩ w) := by
  obtain ⟨kd, ai, bs, K, ks, A, cA, A2, cK⟩ := a
  simp only [ActV.val]
  simp only at *
  have b1 : Below w.heap.size w (w.alloc (.cells #[.int .i64 kd, .int .i64 ai, .slice A bs.length cA, .slice A2 K cK] 49)) := (Below.refl w.heap.size w).alloc (Nat.le_refl _) _
  have hw := h.below b1
  have FW := Lib.hid (show Fr (Mine L) w (w.alloc (.cells #[.int .i64 kd, .int .i64 ai, .slice A bs.length cA, .slice A2 K cK] 49)) from Fr.of_below b1)
  have cn := conv_nil
  have C := Lib.hid (boot_no hw hd (.slice A2 K cK))
  clear h hw b1 hA hd
  generalize bs.length = bl at *
  rcases hk with rfl | rfl
  · go_enter Try.func12, Try.ntmps12
    go_wp2_with (go_at_call 19; refine C.out.mono ?_; rintro e w1 ⟨rfl, D, F⟩; have E := Lib.hid (RN.mk (e0 := 5) (t := ⟨#[]⟩) D (FW.out.step F)); clear D F)
    go_region
    all_goals go_wp2
    all_goals exact bodyPost_ret (v := .tuple #[.int .i64 5, .string ⟨#[]⟩]) (by simp [results, Try.results12, go_sem]) rfl E.out
  · go_enter Try.func12, Try.ntmps12
    go_wp2_with (go_at_call 19; refine C.out.mono ?_; rintro e w1 ⟨rfl, D, F⟩; have E := Lib.hid (RN.mk (e0 := 5) (t := ⟨#[]⟩) D (FW.out.step F)); clear D F)
    go_region
    all_goals go_wp2
    all_goals exact bodyPost_ret (v := .tuple #[.int .i64 5, .string ⟨#[]⟩]) (by simp [results, Try.results12, go_sem]) rfl E.out
set_option maxHeartbeats 1000000 in
set_option maxRecDepth 100000 in
theorem run_boot_ok (h : Db w L z n d k) (a : ActV) (hA : Av w w.heap.size a) (hk : a.kind = 5 ∨ a.kind = 6) (hd : d.down = true) (hkk : k ≤ 1000000) :
    Calls Try.prog 12 #[.pointer (some ⟨L.p, 0, none⟩), a.val, .int .i64 (z : Nat)] w (RN L z n { d with down := false, f := fun i => booted (d.f i) (kept d.f a.K a.ks i) } 0 0 ⟨#[]⟩ w) := by
  obtain ⟨kd, ai, bs, K, ks, A, cA, A2, cK⟩ := a
  simp only [ActV.val]
  simp only at *
  have b1 : Below w.heap.size w (w.alloc (.cells #[.int .i64 kd, .int .i64 ai, .slice A bs.length cA, .slice A2 K cK] 49)) := (Below.refl w.heap.size w).alloc (Nat.le_refl _) _
  have hw := h.below b1
  have FW := Lib.hid (show Fr (Mine L) w (w.alloc (.cells #[.int .i64 kd, .int .i64 ai, .slice A bs.length cA, .slice A2 K cK] 49)) from Fr.of_below b1)
  have cn := conv_nil
  have hks : Kb (w.alloc (.cells #[.int .i64 kd, .int .i64 ai, .slice A bs.length cA, .slice A2 K cK] 49)) (w.alloc (.cells #[.int .i64 kd, .int .i64 ai, .slice A bs.length cA, .slice A2 K cK] 49)).heap.size A2 K ks := kb_more (hA.ks.below b1) b1.size
  have C := Lib.hid (boot_ok hw hd hkk A2 K cK ks hks hA.lK)
  clear h hw b1 hA hd hks hkk
  generalize bs.length = bl at *
  rcases hk with rfl | rfl
  · go_enter Try.func12, Try.ntmps12
    go_wp2_with (go_at_call 19; refine C.out.mono ?_; rintro e w1 ⟨rfl, D, F⟩; have E := Lib.hid (RN.mk (e0 := 0) (t := ⟨#[]⟩) D (FW.out.step F)); clear D F)
    go_region
    all_goals go_wp2
    all_goals exact bodyPost_ret (v := .tuple #[.int .i64 0, .string ⟨#[]⟩]) (by simp [results, Try.results12, go_sem]) rfl E.out
  · go_enter Try.func12, Try.ntmps12
    go_wp2_with (go_at_call 19; refine C.out.mono ?_; rintro e w1 ⟨rfl, D, F⟩; have E := Lib.hid (RN.mk (e0 := 0) (t := ⟨#[]⟩) D (FW.out.step F)); clear D F)
    go_region
    all_goals go_wp2
    all_goals exact bodyPost_ret (v := .tuple #[.int .i64 0, .string ⟨#[]⟩]) (by simp [results, Try.results12, go_sem]) rfl E.out
set_option maxHeartbeats 1000000 in
set_option maxRecDepth 100000 in
theorem run_other (h : Db w L z n d k) (a : ActV) (hA : Av w w.heap.size a) (hk : a.kind < 0 ∨ 8 < a.kind) :
    Calls Try.prog 12 #[.pointer (some ⟨L.p, 0, none⟩), a.val, .int .i64 (z : Nat)] w (RN L z n d k 0 ⟨#[]⟩ w) := by
  obtain ⟨kd, ai, bs, K, ks, A, cA, A2, cK⟩ := a
  simp only [ActV.val]
  simp only at *
  have b1 : Below w.heap.size w (w.alloc (.cells #[.int .i64 kd, .int .i64 ai, .slice A bs.length cA, .slice A2 K cK] 49)) := (Below.refl w.heap.size w).alloc (Nat.le_refl _) _
  have hw := h.below b1
  have FW := Lib.hid (show Fr (Mine L) w (w.alloc (.cells #[.int .i64 kd, .int .i64 ai, .slice A bs.length cA, .slice A2 K cK] 49)) from Fr.of_below b1)
  have cn := conv_nil
  have E := Lib.hid (RN.mk (e0 := 0) (t := ⟨#[]⟩) hw FW.out)
  have k0 : ¬ kd = 0 := by omega
  have k1 : ¬ kd = 1 := by omega
  have k2 : ¬ kd = 2 := by omega
  have k3 : ¬ kd = 3 := by omega
  have k4 : ¬ kd = 4 := by omega
  have k5 : ¬ kd = 5 := by omega
  have k6 : ¬ kd = 6 := by omega
  have k7 : ¬ kd = 7 := by omega
  have k8 : ¬ kd = 8 := by omega
  clear h hw b1 hA hk
  generalize bs.length = bl at E ⊢
  go_enter Try.func12, Try.ntmps12
  go_wp2_with fail
  go_region
  all_goals go_wp2
  all_goals exact bodyPost_ret (v := .tuple #[.int .i64 0, .string ⟨#[]⟩]) (by simp [results, Try.results12, go_sem]) rfl E.out
set_option maxHeartbeats 1000000 in
set_option maxRecDepth 100000 in
theorem run_read_err (h : Db w L z n d k) (a : ActV) (hA : Av w w.heap.size a) (hk : a.kind = 2) (he : adm d (flt z n a.i z) ≠ 0) :
    Calls Try.prog 12 #[.pointer (some ⟨L.p, 0, none⟩), a.val, .int .i64 (z : Nat)] w (RN L z n (admd d (flt z n a.i z)) k (adm d (flt z n a.i z)) ⟨#[]⟩ w) := by
  obtain ⟨kd, ai, bs, K, ks, A, cA, A2, cK⟩ := a
  simp only [ActV.val]
  simp only at *
  have b1 : Below w.heap.size w (w.alloc (.cells #[.int .i64 kd, .int .i64 ai, .slice A bs.length cA, .slice A2 K cK] 49)) := (Below.refl w.heap.size w).alloc (Nat.le_refl _) _
  have hw := h.below b1
  have FW := Lib.hid (show Fr (Mine L) w (w.alloc (.cells #[.int .i64 kd, .int .i64 ai, .slice A bs.length cA, .slice A2 K cK] 49)) from Fr.of_below b1)
  have cn := conv_nil
  subst hk
  have C := Lib.hid (read_err hw ai hA.i he)
  obtain ⟨e0, he0⟩ : ∃ e0, e0 = adm d (flt z n ai z) := ⟨_, rfl⟩
  rw [← he0] at C ⊢
  clear h hw b1 hA he he0
  generalize bs.length = bl at *
  go_enter Try.func12, Try.ntmps12
  go_wp2_with (go_at_call 21; refine C.out.mono ?_; rintro e w1 ⟨rfl, D, F⟩; have E := Lib.hid (RN.mk (e0 := e0) (t := ⟨#[]⟩) D (FW.out.step F)); clear D F)
  go_region
  all_goals go_wp2
  all_goals exact bodyPost_ret (v := .tuple #[.int .i64 (e0 : Nat), .string ⟨#[]⟩]) (by simp [results, Try.results12, go_sem]) rfl E.out
set_option maxHeartbeats 1000000 in
set_option maxRecDepth 100000 in
theorem run_read_ok (h : Db w L z n d k) (a : ActV) (hA : Av w w.heap.size a) (i : Nat) (hk : a.kind = 2) (hi : a.i = (i : Nat)) (hin : i < n) (he : adm d 0 = 0) (hr : d.r ≤ 1000000) :
    Calls Try.prog 12 #[.pointer (some ⟨L.p, 0, none⟩), a.val, .int .i64 (z : Nat)] w (RN L z n { d with fuse := d.fuse - 1, r := d.r + 1 } k 0 (d.f i).now w) := by
  obtain ⟨kd, ai, bs, K, ks, A, cA, A2, cK⟩ := a
  simp only [ActV.val]
  simp only at *
  have b1 : Below w.heap.size w (w.alloc (.cells #[.int .i64 kd, .int .i64 ai, .slice A bs.length cA, .slice A2 K cK] 49)) := (Below.refl w.heap.size w).alloc (Nat.le_refl _) _
  have hw := h.below b1
  have FW := Lib.hid (show Fr (Mine L) w (w.alloc (.cells #[.int .i64 kd, .int .i64 ai, .slice A bs.length cA, .slice A2 K cK] 49)) from Fr.of_below b1)
  have cn := conv_nil
  subst hk hi
  have C := Lib.hid (read_ok hw i hin he hr)
  obtain ⟨d2, hd2⟩ : ∃ d2 : Dm, d2 = { d with fuse := d.fuse - 1, r := d.r + 1 } := ⟨_, rfl⟩
  obtain ⟨t, ht⟩ : ∃ t, t = (d.f i).now := ⟨_, rfl⟩
  rw [← hd2, ← ht] at C ⊢
  clear h hw b1 hA he hin hr hd2 ht
  generalize bs.length = bl at *
  go_enter Try.func12, Try.ntmps12
  go_wp2_with (go_at_call 21; refine C.out.mono ?_; rintro e w1 ⟨g, rs, rfl, R3, l3, rfl, D, F⟩; have E := Lib.hid (RN.mk (e0 := 0) (t := ⟨rs.toArray⟩) D (FW.out.step F)); have cv := conv_bytes (show Bs w1.drew w1.drew.heap.size _ _ from R3.drewN 1) z; rw [l3] at cv; clear D F R3)
  go_region
  all_goals go_wp2
  all_goals exact bodyPost_ret (v := .tuple #[.int .i64 0, .string ⟨rs.toArray⟩]) (by simp [results, Try.results12, go_sem]) rfl E.out
set_option maxHeartbeats 1000000 in
set_option maxRecDepth 100000 in
theorem run_sync_err (h : Db w L z n d k) (a : ActV) (hA : Av w w.heap.size a) (hk : a.kind = 3) (he : adm d 0 ≠ 0) :
    Calls Try.prog 12 #[.pointer (some ⟨L.p, 0, none⟩), a.val, .int .i64 (z : Nat)] w (RN L z n (admd d 0) k (adm d 0) ⟨#[]⟩ w) := by
  obtain ⟨kd, ai, bs, K, ks, A, cA, A2, cK⟩ := a
  simp only [ActV.val]
  simp only at *
  have b1 : Below w.heap.size w (w.alloc (.cells #[.int .i64 kd, .int .i64 ai, .slice A bs.length cA, .slice A2 K cK] 49)) := (Below.refl w.heap.size w).alloc (Nat.le_refl _) _
  have hw := h.below b1
  have FW := Lib.hid (show Fr (Mine L) w (w.alloc (.cells #[.int .i64 kd, .int .i64 ai, .slice A bs.length cA, .slice A2 K cK] 49)) from Fr.of_below b1)
  have cn := conv_nil
  subst hk
  have C := Lib.hid (sync_err hw he)
  obtain ⟨e0, he0⟩ : ∃ e0, e0 = adm d 0 := ⟨_, rfl⟩
  rw [← he0] at C ⊢
  clear h hw b1 hA he he0
  generalize bs.length = bl at *
  go_enter Try.func12, Try.ntmps12
  go_wp2_with (go_at_call 20; refine C.out.mono ?_; rintro e w1 ⟨rfl, D, F⟩; have E := Lib.hid (RN.mk (e0 := e0) (t := ⟨#[]⟩) D (FW.out.step F)); clear D F)
  go_region
  all_goals go_wp2
  all_goals exact bodyPost_ret (v := .tuple #[.int .i64 (e0 : Nat), .string ⟨#[]⟩]) (by simp [results, Try.results12, go_sem]) rfl E.out
set_option maxHeartbeats 1000000 in
set_option maxRecDepth 100000 in
theorem run_sync_ok (h : Db w L z n d k) (a : ActV) (hA : Av w w.heap.size a) (hk : a.kind = 3) (he : adm d 0 = 0) (hr : d.s ≤ 1000000) :
    Calls Try.prog 12 #[.pointer (some ⟨L.p, 0, none⟩), a.val, .int .i64 (z : Nat)] w (RN L z n { d with fuse := d.fuse - 1, s := d.s + 1, f := fun i => synced (d.f i) } 0 0 ⟨#[]⟩ w) := by
  obtain ⟨kd, ai, bs, K, ks, A, cA, A2, cK⟩ := a
  simp only [ActV.val]
  simp only at *
  have b1 : Below w.heap.size w (w.alloc (.cells #[.int .i64 kd, .int .i64 ai, .slice A bs.length cA, .slice A2 K cK] 49)) := (Below.refl w.heap.size w).alloc (Nat.le_refl _) _
  have hw := h.below b1
  have FW := Lib.hid (show Fr (Mine L) w (w.alloc (.cells #[.int .i64 kd, .int .i64 ai, .slice A bs.length cA, .slice A2 K cK] 49)) from Fr.of_below b1)
  have cn := conv_nil
  subst hk
  have C := Lib.hid (sync_ok hw he hr)
  clear h hw b1 hA he hr
  generalize bs.length = bl at *
  go_enter Try.func12, Try.ntmps12
  go_wp2_with (go_at_call 20; refine C.out.mono ?_; rintro e w1 ⟨rfl, D, F⟩; have E := Lib.hid (RN.mk (e0 := 0) (t := ⟨#[]⟩) D (FW.out.step F)); clear D F)
  go_region
  all_goals go_wp2
  all_goals exact bodyPost_ret (v := .tuple #[.int .i64 0, .string ⟨#[]⟩]) (by simp [results, Try.results12, go_sem]) rfl E.out
set_option maxHeartbeats 1000000 in
set_option maxRecDepth 100000 in
theorem run_fuse (h : Db w L z n d k) (a : ActV) (hA : Av w w.heap.size a) (hk : a.kind = 7) :
    Calls Try.prog 12 #[.pointer (some ⟨L.p, 0, none⟩), a.val, .int .i64 (z : Nat)] w (RN L z n { d with fuse := a.i.toNat } k 0 ⟨#[]⟩ w) := by
  obtain ⟨kd, ai, bs, K, ks, A, cA, A2, cK⟩ := a
  simp only [ActV.val]
  simp only at *
  have b1 : Below w.heap.size w (w.alloc (.cells #[.int .i64 kd, .int .i64 ai, .slice A bs.length cA, .slice A2 K cK] 49)) := (Below.refl w.heap.size w).alloc (Nat.le_refl _) _
  have hw := h.below b1
  have FW := Lib.hid (show Fr (Mine L) w (w.alloc (.cells #[.int .i64 kd, .int .i64 ai, .slice A bs.length cA, .slice A2 K cK] 49)) from Fr.of_below b1)
  have cn := conv_nil
  subst hk
  have C := Lib.hid (fuse (h.below b1.drew) ai ai.toNat hA.i (by omega))
  have FD := Lib.hid (show Fr (Mine L) w (w.alloc (.cells #[.int .i64 7, .int .i64 ai, .slice A bs.length cA, .slice A2 K cK] 49)).drew from Fr.of_below b1.drew)
  clear h hw b1 hA FW
  generalize bs.length = bl at *
  go_enter Try.func12, Try.ntmps12
  go_upto_region 17 with fail
  have t1 : (w.alloc (.cells #[.int .i64 7, .int .i64 ai, .slice A bl cA, .slice A2 K cK] 49)).cell? ⟨w.heap.size, 1, none⟩ = some (.int .i64 ai) := blk_cell (blk_new w _) 1
  generalize w.alloc (.cells #[.int .i64 7, .int .i64 ai, .slice A bl cA, .slice A2 K cK] 49) = w0 at *
  go_still_tail 5, (by kernel_rfl)
  change wpList _ _ _ _ _ w0.drew
  go_wp2_with (go_at_call 18; refine C.out.mono ?_; rintro e w1 ⟨rfl, D, F⟩; have E := Lib.hid (RN.mk (e0 := 0) (t := ⟨#[]⟩) D (FD.out.step F)); clear D F)
  go_region
  all_goals go_wp2
  all_goals exact bodyPost_ret (v := .tuple #[.int .i64 0, .string ⟨#[]⟩]) (by simp [results, Try.results12, go_sem]) rfl E.out
set_option maxHeartbeats 1000000 in
set_option maxRecDepth 100000 in
theorem run_raw_err (h : Db w L z n d k) (a : ActV) (hA : Av w w.heap.size a) (hk : a.kind = 8) (he : adm d (flt z n a.i a.bs.length) ≠ 0) :
    Calls Try.prog 12 #[.pointer (some ⟨L.p, 0, none⟩), a.val, .int .i64 (z : Nat)] w (RN L z n (admd d (flt z n a.i a.bs.length)) k (adm d (flt z n a.i a.bs.length)) ⟨#[]⟩ w) := by
  obtain ⟨kd, ai, bs, K, ks, A, cA, A2, cK⟩ := a
  simp only [ActV.val]
  simp only at *
  have b1 : Below w.heap.size w (w.alloc (.cells #[.int .i64 kd, .int .i64 ai, .slice A bs.length cA, .slice A2 K cK] 49)) := (Below.refl w.heap.size w).alloc (Nat.le_refl _) _
  have hw := h.below b1
  have FW := Lib.hid (show Fr (Mine L) w (w.alloc (.cells #[.int .i64 kd, .int .i64 ai, .slice A bs.length cA, .slice A2 K cK] 49)) from Fr.of_below b1)
  have cn := conv_nil
  subst hk
  have C := Lib.hid (write_err hw ai A bs.length cA hA.i he)
  obtain ⟨e0, he0⟩ : ∃ e0, e0 = adm d (flt z n ai bs.length) := ⟨_, rfl⟩
  obtain ⟨d2, hd2⟩ : ∃ d2, d2 = admd d (flt z n ai bs.length) := ⟨_, rfl⟩
  rw [← he0, ← hd2] at C ⊢
  clear h hw b1 hA he he0 hd2
  generalize bs.length = bl at *
  go_enter Try.func12, Try.ntmps12
  go_wp2_with (go_at_call 24; refine C.out.mono ?_; rintro e w1 ⟨rfl, D, F⟩; have E := Lib.hid (RN.mk (e0 := e0) (t := ⟨#[]⟩) D (FW.out.step F)); clear D F)
  go_region
  all_goals go_wp2
  all_goals exact bodyPost_ret (v := .tuple #[.int .i64 (e0 : Nat), .string ⟨#[]⟩]) (by simp [results, Try.results12, go_sem]) rfl E.out
set_option maxHeartbeats 1000000 in
set_option maxRecDepth 100000 in
theorem run_raw_ok (h : Db w L z n d k) (a : ActV) (hA : Av w w.heap.size a) (i : Nat) (hk : a.kind = 8) (hi : a.i = (i : Nat)) (hin : i < n) (he : adm d 0 = 0) (hb : a.bs.length = z) (hr : d.w ≤ 1000000) (hkk : k ≤ 1000000) :
    Calls Try.prog 12 #[.pointer (some ⟨L.p, 0, none⟩), a.val, .int .i64 (z : Nat)] w (RN L z n { d with fuse := d.fuse - 1, w := d.w + 1, f := put d.f i (wrote (d.f i) ⟨a.bs.toArray⟩) } (k + 1) 0 ⟨#[]⟩ w) := by
  obtain ⟨kd, ai, bs, K, ks, A, cA, A2, cK⟩ := a
  simp only [ActV.val]
  simp only at *
  have b1 : Below w.heap.size w (w.alloc (.cells #[.int .i64 kd, .int .i64 ai, .slice A bs.length cA, .slice A2 K cK] 49)) := (Below.refl w.heap.size w).alloc (Nat.le_refl _) _
  have hw := h.below b1
  have FW := Lib.hid (show Fr (Mine L) w (w.alloc (.cells #[.int .i64 kd, .int .i64 ai, .slice A bs.length cA, .slice A2 K cK] 49)) from Fr.of_below b1)
  have cn := conv_nil
  subst hk hi
  have R1 : Bs (w.alloc (.cells #[.int .i64 8, .int .i64 (i : Int), .slice A bs.length cA, .slice A2 K cK] 49)) (w.alloc (.cells #[.int .i64 8, .int .i64 (i : Int), .slice A bs.length cA, .slice A2 K cK] 49)).heap.size A bs := hA.bs.step b1
  have C := Lib.hid (write_ok hw i hin he hr (by omega) A cA bs hb R1)
  obtain ⟨d2, hd2⟩ : ∃ d2 : Dm, d2 = { d with fuse := d.fuse - 1, w := d.w + 1, f := put d.f i (wrote (d.f i) ⟨bs.toArray⟩) } := ⟨_, rfl⟩
  rw [← hd2] at C ⊢
  clear h hw b1 hA he hin hr hd2 R1 hkk
  generalize bs.length = bl at *
  subst hb
  go_enter Try.func12, Try.ntmps12
  go_wp2_with (go_at_call 24; refine C.out.mono ?_; rintro e w1 ⟨rfl, D, F⟩; have E := Lib.hid (RN.mk (e0 := 0) (t := ⟨#[]⟩) D (FW.out.step F)); clear D F)
  go_region
  all_goals go_wp2
  all_goals exact bodyPost_ret (v := .tuple #[.int .i64 0, .string ⟨#[]⟩]) (by simp [results, Try.results12, go_sem]) rfl E.out
set_option maxHeartbeats 1000000 in
set_option maxRecDepth 100000 in
theorem run_laid_err (h : Db w L z n d k) (a : ActV) (hA : Av w w.heap.size a) (hk : a.kind = 0 ∨ a.kind = 1) (he : adm d (flt z n a.i z) ≠ 0) :
    Calls Try.prog 12 #[.pointer (some ⟨L.p, 0, none⟩), a.val, .int .i64 (z : Nat)] w (RN L z n (admd d (flt z n a.i z)) k (adm d (flt z n a.i z)) ⟨#[]⟩ w) := by
  obtain ⟨kd, ai, bs, K, ks, A, cA, A2, cK⟩ := a
  simp only [ActV.val]
  simp only at *
  have b1 : Below w.heap.size w (w.alloc (.cells #[.int .i64 kd, .int .i64 ai, .slice A bs.length cA, .slice A2 K cK] 49)) := (Below.refl w.heap.size w).alloc (Nat.le_refl _) _
  have hw := h.below b1
  have FW := Lib.hid (show Fr (Mine L) w (w.alloc (.cells #[.int .i64 kd, .int .i64 ai, .slice A bs.length cA, .slice A2 K cK] 49)) from Fr.of_below b1)
  have cn := conv_nil
  have hv := hw.nobytes
  have LA := Lib.hid (fun W (hW : Below (w.alloc (.cells #[.int .i64 kd, .int .i64 ai, .slice A bs.length cA, .slice A2 K cK] 49)).heap.size (w.alloc (.cells #[.int .i64 kd, .int .i64 ai, .slice A bs.length cA, .slice A2 K cK] 49)) W) => laid_ A cA z bs W ((hA.bs.step b1).step hW) (by obtain ⟨φ, sf, c, h⟩ := h; have := h.lz; omega))
  have PX := Lib.hid (fun W (hW : Below (w.alloc (.cells #[.int .i64 kd, .int .i64 ai, .slice A bs.length cA, .slice A2 K cK] 49)).heap.size (w.alloc (.cells #[.int .i64 kd, .int .i64 ai, .slice A bs.length cA, .slice A2 K cK] 49)) W) => (show W.cell? ⟨w.heap.size, 1, none⟩ = some (.int .i64 ai) ∧ W.cell? ⟨w.heap.size, 2, none⟩ = some (.slice A bs.length cA) from
    ⟨(hW.cell (p := ⟨w.heap.size, 1, none⟩) (by simp)).trans (blk_cell (blk_new w _) 1), (hW.cell (p := ⟨w.heap.size, 2, none⟩) (by simp)).trans (blk_cell (blk_new w _) 2)⟩))
  have PY := Lib.hid (fun W W5 (hW : Below (w.alloc (.cells #[.int .i64 kd, .int .i64 ai, .slice A bs.length cA, .slice A2 K cK] 49)).heap.size (w.alloc (.cells #[.int .i64 kd, .int .i64 ai, .slice A bs.length cA, .slice A2 K cK] 49)) W) (F5 : Fr (Mine L) W W5) => (show W5.cell? ⟨w.heap.size, 1, none⟩ = some (.int .i64 ai) ∧ W5.cell? ⟨w.heap.size, 2, none⟩ = some (.slice A bs.length cA) from by
    have h1 : w.heap.size < W.heap.size := Nat.lt_of_lt_of_le (by simp) hW.size
    have h2 : ¬ Mine L w.heap.size := fun e => by have := h.lt e; omega
    exact ⟨(World.cell?_of_block (a := ⟨w.heap.size, 1, none⟩) (F5.block _ h1 h2)).trans (PX.out W hW).1, (World.cell?_of_block (a := ⟨w.heap.size, 2, none⟩) (F5.block _ h1 h2)).trans (PX.out W hW).2⟩))
  have FX := Lib.hid (fun W W5 (hW : Below (w.alloc (.cells #[.int .i64 kd, .int .i64 ai, .slice A bs.length cA, .slice A2 K cK] 49)).heap.size (w.alloc (.cells #[.int .i64 kd, .int .i64 ai, .slice A bs.length cA, .slice A2 K cK] 49)) W) (F5 : Fr (Mine L) W W5) => (FW.out.step (Fr.of_below hW)).step F5)
  have WC := Lib.hid (fun W (g : Nat) (hW : Below (w.alloc (.cells #[.int .i64 kd, .int .i64 ai, .slice A bs.length cA, .slice A2 K cK] 49)).heap.size (w.alloc (.cells #[.int .i64 kd, .int .i64 ai, .slice A bs.length cA, .slice A2 K cK] 49)) W) (B3 : Bs W W.heap.size (some ⟨g, 0, none⟩) (lb bs z)) => write_err (hw.below hW) ai (some ⟨g, 0, none⟩) z z hA.i he)
  obtain ⟨e0, he0⟩ : ∃ e0, e0 = adm d (flt z n ai z) := ⟨_, rfl⟩
  obtain ⟨d2, hd2⟩ : ∃ d2, d2 = admd d (flt z n ai z) := ⟨_, rfl⟩
  obtain ⟨k2, hk2⟩ : ∃ k2, k2 = k := ⟨_, rfl⟩
  rw [← he0, ← hd2, ← hk2] at WC
  rw [← he0, ← hd2, ← hk2]
  obtain ⟨ls, hls⟩ : ∃ ls, ls = lb bs z := ⟨_, rfl⟩
  rw [← hls] at LA WC
  clear h hw b1 hA he he0 hd2 hk2 hls hv FW
  generalize bs.length = bl at *
  rcases hk with rfl | rfl
  · go_enter Try.func12, Try.ntmps12
    have M : Below (w.alloc (.cells #[.int .i64 0, .int .i64 ai, .slice A bl cA, .slice A2 K cK] 49)).heap.size (w.alloc (.cells #[.int .i64 0, .int .i64 ai, .slice A bl cA, .slice A2 K cK] 49)) (w.alloc (.cells #[.int .i64 0, .int .i64 ai, .slice A bl cA, .slice A2 K cK] 49)) := Below.refl _ _
    go_upto_region 6 with fail
    go_region_held3 (fun w' => w'.cell? ⟨w.heap.size, 1, none⟩ = some (.int .i64 ai) ∧ w'.cell? ⟨w.heap.size, 2, none⟩ = some (.slice A bl cA))
      (first | (with_reducible exact PY.out _ _ (by repeat (first | with_reducible exact M | with_reducible exact Below.refl _ _ | with_reducible refine Below.drew ?_ | with_reducible refine bl_call ?_ h3)) F5) | exact PX.out _ (by repeat (first | with_reducible exact M | with_reducible exact Below.refl _ _ | with_reducible refine Below.drew ?_ | with_reducible refine bl_call ?_ h3)))
      (first
        | (go_at_call 22; (with_reducible refine (LA.out _ (by repeat (first | with_reducible exact M | with_reducible exact Below.refl _ _ | with_reducible refine Below.drew ?_))).mono ?_); rintro e w3 ⟨g, rfl, B3, h3⟩)
        | (go_at_call 24; (with_reducible refine (WC.out _ _ (by repeat (first | with_reducible exact M | with_reducible exact Below.refl _ _ | with_reducible refine Below.drew ?_ | with_reducible refine bl_call ?_ h3)) B3).mono ?_); rintro e w5 ⟨rfl, D5, F5⟩))
    all_goals (have E := Lib.hid (RN.mk (e0 := (e0 : Nat)) (t := ⟨#[]⟩) D5 (FX.out _ _ (by repeat (first | with_reducible exact M | with_reducible exact Below.refl _ _ | with_reducible refine Below.drew ?_ | with_reducible refine bl_call ?_ h3)) F5)))
    all_goals clear D5 F5 PX PY LA WC FX M
    all_goals go_wp2_with fail
    all_goals go_region
    all_goals go_wp2
    all_goals exact bodyPost_ret (v := .tuple #[.int .i64 (e0 : Nat), .string ⟨#[]⟩]) (by simp [results, Try.results12, go_sem]) rfl E.out
  · go_enter Try.func12, Try.ntmps12
    have M : Below (w.alloc (.cells #[.int .i64 1, .int .i64 ai, .slice A bl cA, .slice A2 K cK] 49)).heap.size (w.alloc (.cells #[.int .i64 1, .int .i64 ai, .slice A bl cA, .slice A2 K cK] 49)) (w.alloc (.cells #[.int .i64 1, .int .i64 ai, .slice A bl cA, .slice A2 K cK] 49)) := Below.refl _ _
    go_upto_region 6 with fail
    go_region_held3 (fun w' => w'.cell? ⟨w.heap.size, 1, none⟩ = some (.int .i64 ai) ∧ w'.cell? ⟨w.heap.size, 2, none⟩ = some (.slice A bl cA))
      (first | (with_reducible exact PY.out _ _ (by repeat (first | with_reducible exact M | with_reducible exact Below.refl _ _ | with_reducible refine Below.drew ?_ | with_reducible refine bl_call ?_ h3)) F5) | exact PX.out _ (by repeat (first | with_reducible exact M | with_reducible exact Below.refl _ _ | with_reducible refine Below.drew ?_ | with_reducible refine bl_call ?_ h3)))
      (first
        | (go_at_call 22; (with_reducible refine (LA.out _ (by repeat (first | with_reducible exact M | with_reducible exact Below.refl _ _ | with_reducible refine Below.drew ?_))).mono ?_); rintro e w3 ⟨g, rfl, B3, h3⟩)
        | (go_at_call 24; (with_reducible refine (WC.out _ _ (by repeat (first | with_reducible exact M | with_reducible exact Below.refl _ _ | with_reducible refine Below.drew ?_ | with_reducible refine bl_call ?_ h3)) B3).mono ?_); rintro e w5 ⟨rfl, D5, F5⟩))
    all_goals (have E := Lib.hid (RN.mk (e0 := (e0 : Nat)) (t := ⟨#[]⟩) D5 (FX.out _ _ (by repeat (first | with_reducible exact M | with_reducible exact Below.refl _ _ | with_reducible refine Below.drew ?_ | with_reducible refine bl_call ?_ h3)) F5)))
    all_goals clear D5 F5 PX PY LA WC FX M
    all_goals go_wp2_with fail
    all_goals go_region
    all_goals go_wp2
    all_goals exact bodyPost_ret (v := .tuple #[.int .i64 (e0 : Nat), .string ⟨#[]⟩]) (by simp [results, Try.results12, go_sem]) rfl E.out
set_option maxHeartbeats 1000000 in
set_option maxRecDepth 100000 in
theorem run_laid_ok (h : Db w L z n d k) (a : ActV) (hA : Av w w.heap.size a) (i : Nat) (hk : a.kind = 0 ∨ a.kind = 1) (hi : a.i = (i : Nat)) (hin : i < n) (he : adm d 0 = 0) (hr : d.w ≤ 1000000) (hkk : k ≤ 1000000) :
    Calls Try.prog 12 #[.pointer (some ⟨L.p, 0, none⟩), a.val, .int .i64 (z : Nat)] w (RN L z n { d with fuse := d.fuse - 1, w := d.w + 1, f := put d.f i (wrote (d.f i) ⟨(lb a.bs z).toArray⟩) } (k + 1) 0 ⟨#[]⟩ w) := by
  obtain ⟨kd, ai, bs, K, ks, A, cA, A2, cK⟩ := a
  simp only [ActV.val]
  simp only at *
  have b1 : Below w.heap.size w (w.alloc (.cells #[.int .i64 kd, .int .i64 ai, .slice A bs.length cA, .slice A2 K cK] 49)) := (Below.refl w.heap.size w).alloc (Nat.le_refl _) _
  have hw := h.below b1
  have FW := Lib.hid (show Fr (Mine L) w (w.alloc (.cells #[.int .i64 kd, .int .i64 ai, .slice A bs.length cA, .slice A2 K cK] 49)) from Fr.of_below b1)
  have cn := conv_nil
  subst hi
  have hv := hw.nobytes
  have LA := Lib.hid (fun W (hW : Below (w.alloc (.cells #[.int .i64 kd, .int .i64 (i : Int), .slice A bs.length cA, .slice A2 K cK] 49)).heap.size (w.alloc (.cells #[.int .i64 kd, .int .i64 (i : Int), .slice A bs.length cA, .slice A2 K cK] 49)) W) => laid_ A cA z bs W ((hA.bs.step b1).step hW) (by obtain ⟨φ, sf, c, h⟩ := h; have := h.lz; omega))
  have PX := Lib.hid (fun W (hW : Below (w.alloc (.cells #[.int .i64 kd, .int .i64 (i : Int), .slice A bs.length cA, .slice A2 K cK] 49)).heap.size (w.alloc (.cells #[.int .i64 kd, .int .i64 (i : Int), .slice A bs.length cA, .slice A2 K cK] 49)) W) => (show W.cell? ⟨w.heap.size, 1, none⟩ = some (.int .i64 (i : Int)) ∧ W.cell? ⟨w.heap.size, 2, none⟩ = some (.slice A bs.length cA) from
    ⟨(hW.cell (p := ⟨w.heap.size, 1, none⟩) (by simp)).trans (blk_cell (blk_new w _) 1), (hW.cell (p := ⟨w.heap.size, 2, none⟩) (by simp)).trans (blk_cell (blk_new w _) 2)⟩))
  have PY := Lib.hid (fun W W5 (hW : Below (w.alloc (.cells #[.int .i64 kd, .int .i64 (i : Int), .slice A bs.length cA, .slice A2 K cK] 49)).heap.size (w.alloc (.cells #[.int .i64 kd, .int .i64 (i : Int), .slice A bs.length cA, .slice A2 K cK] 49)) W) (F5 : Fr (Mine L) W W5) => (show W5.cell? ⟨w.heap.size, 1, none⟩ = some (.int .i64 (i : Int)) ∧ W5.cell? ⟨w.heap.size, 2, none⟩ = some (.slice A bs.length cA) from by
    have h1 : w.heap.size < W.heap.size := Nat.lt_of_lt_of_le (by simp) hW.size
    have h2 : ¬ Mine L w.heap.size := fun e => by have := h.lt e; omega
    exact ⟨(World.cell?_of_block (a := ⟨w.heap.size, 1, none⟩) (F5.block _ h1 h2)).trans (PX.out W hW).1, (World.cell?_of_block (a := ⟨w.heap.size, 2, none⟩) (F5.block _ h1 h2)).trans (PX.out W hW).2⟩))
  have FX := Lib.hid (fun W W5 (hW : Below (w.alloc (.cells #[.int .i64 kd, .int .i64 (i : Int), .slice A bs.length cA, .slice A2 K cK] 49)).heap.size (w.alloc (.cells #[.int .i64 kd, .int .i64 (i : Int), .slice A bs.length cA, .slice A2 K cK] 49)) W) (F5 : Fr (Mine L) W W5) => (FW.out.step (Fr.of_below hW)).step F5)
  have WC := Lib.hid (fun W (g : Nat) (hW : Below (w.alloc (.cells #[.int .i64 kd, .int .i64 (i : Int), .slice A bs.length cA, .slice A2 K cK] 49)).heap.size (w.alloc (.cells #[.int .i64 kd, .int .i64 (i : Int), .slice A bs.length cA, .slice A2 K cK] 49)) W) (B3 : Bs W W.heap.size (some ⟨g, 0, none⟩) (lb bs z)) => write_ok (hw.below hW) i hin he hr (by omega) (some ⟨g, 0, none⟩) z (lb bs z) (lb_len bs z) B3)
  obtain ⟨d2, hd2⟩ : ∃ d2 : Dm, d2 = { d with fuse := d.fuse - 1, w := d.w + 1, f := put d.f i (wrote (d.f i) ⟨(lb bs z).toArray⟩) } := ⟨_, rfl⟩
  obtain ⟨k2, hk2⟩ : ∃ k2, k2 = k + 1 := ⟨_, rfl⟩
  rw [← hd2, ← hk2] at WC
  rw [← hd2, ← hk2]
  obtain ⟨ls, hls⟩ : ∃ ls, ls = lb bs z := ⟨_, rfl⟩
  rw [← hls] at LA WC
  clear h hw b1 hA he hd2 hk2 hls hv FW hr hin hkk
  generalize bs.length = bl at *
  rcases hk with rfl | rfl
  · go_enter Try.func12, Try.ntmps12
    have M : Below (w.alloc (.cells #[.int .i64 0, .int .i64 (i : Int), .slice A bl cA, .slice A2 K cK] 49)).heap.size (w.alloc (.cells #[.int .i64 0, .int .i64 (i : Int), .slice A bl cA, .slice A2 K cK] 49)) (w.alloc (.cells #[.int .i64 0, .int .i64 (i : Int), .slice A bl cA, .slice A2 K cK] 49)) := Below.refl _ _
    go_upto_region 6 with fail
    go_region_held3 (fun w' => w'.cell? ⟨w.heap.size, 1, none⟩ = some (.int .i64 (i : Int)) ∧ w'.cell? ⟨w.heap.size, 2, none⟩ = some (.slice A bl cA))
      (first | (with_reducible exact PY.out _ _ (by repeat (first | with_reducible exact M | with_reducible exact Below.refl _ _ | with_reducible refine Below.drew ?_ | with_reducible refine bl_call ?_ h3)) F5) | exact PX.out _ (by repeat (first | with_reducible exact M | with_reducible exact Below.refl _ _ | with_reducible refine Below.drew ?_ | with_reducible refine bl_call ?_ h3)))
      (first
        | (go_at_call 22; (with_reducible refine (LA.out _ (by repeat (first | with_reducible exact M | with_reducible exact Below.refl _ _ | with_reducible refine Below.drew ?_))).mono ?_); rintro e w3 ⟨g, rfl, B3, h3⟩)
        | (go_at_call 24; (with_reducible refine (WC.out _ _ (by repeat (first | with_reducible exact M | with_reducible exact Below.refl _ _ | with_reducible refine Below.drew ?_ | with_reducible refine bl_call ?_ h3)) B3).mono ?_); rintro e w5 ⟨rfl, D5, F5⟩))
    all_goals (have E := Lib.hid (RN.mk (e0 := 0) (t := ⟨#[]⟩) D5 (FX.out _ _ (by repeat (first | with_reducible exact M | with_reducible exact Below.refl _ _ | with_reducible refine Below.drew ?_ | with_reducible refine bl_call ?_ h3)) F5)))
    all_goals clear D5 F5 PX PY LA WC FX M
    all_goals go_wp2_with fail
    all_goals go_region
    all_goals go_wp2
    all_goals exact bodyPost_ret (v := .tuple #[.int .i64 0, .string ⟨#[]⟩]) (by simp [results, Try.results12, go_sem]) rfl E.out
  · go_enter Try.func12, Try.ntmps12
    have M : Below (w.alloc (.cells #[.int .i64 1, .int .i64 (i : Int), .slice A bl cA, .slice A2 K cK] 49)).heap.size (w.alloc (.cells #[.int .i64 1, .int .i64 (i : Int), .slice A bl cA, .slice A2 K cK] 49)) (w.alloc (.cells #[.int .i64 1, .int .i64 (i : Int), .slice A bl cA, .slice A2 K cK] 49)) := Below.refl _ _
    go_upto_region 6 with fail
    go_region_held3 (fun w' => w'.cell? ⟨w.heap.size, 1, none⟩ = some (.int .i64 (i : Int)) ∧ w'.cell? ⟨w.heap.size, 2, none⟩ = some (.slice A bl cA))
      (first | (with_reducible exact PY.out _ _ (by repeat (first | with_reducible exact M | with_reducible exact Below.refl _ _ | with_reducible refine Below.drew ?_ | with_reducible refine bl_call ?_ h3)) F5) | exact PX.out _ (by repeat (first | with_reducible exact M | with_reducible exact Below.refl _ _ | with_reducible refine Below.drew ?_ | with_reducible refine bl_call ?_ h3)))
      (first
        | (go_at_call 22; (with_reducible refine (LA.out _ (by repeat (first | with_reducible exact M | with_reducible exact Below.refl _ _ | with_reducible refine Below.drew ?_))).mono ?_); rintro e w3 ⟨g, rfl, B3, h3⟩)
        | (go_at_call 24; (with_reducible refine (WC.out _ _ (by repeat (first | with_reducible exact M | with_reducible exact Below.refl _ _ | with_reducible refine Below.drew ?_ | with_reducible refine bl_call ?_ h3)) B3).mono ?_); rintro e w5 ⟨rfl, D5, F5⟩))
    all_goals (have E := Lib.hid (RN.mk (e0 := 0) (t := ⟨#[]⟩) D5 (FX.out _ _ (by repeat (first | with_reducible exact M | with_reducible exact Below.refl _ _ | with_reducible refine Below.drew ?_ | with_reducible refine bl_call ?_ h3)) F5)))
    all_goals clear D5 F5 PX PY LA WC FX M
    all_goals go_wp2_with fail
    all_goals go_region
    all_goals go_wp2
    all_goals exact bodyPost_ret (v := .tuple #[.int .i64 0, .string ⟨#[]⟩]) (by simp [results, Try.results12, go_sem]) rfl E.out
end
end Dk
end Go.Proofs.Ytfjlhbamldgklaa
