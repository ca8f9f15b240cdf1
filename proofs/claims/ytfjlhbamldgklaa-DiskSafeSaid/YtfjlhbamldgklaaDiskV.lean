/- Layer 15: contracts of the law's tells, case by case. -/
import Derived.Test.YtfjlhbamldgklaaDiskU
set_option linter.unusedVariables false
namespace Go.Proofs.Ytfjlhbamldgklaa
open Go.RowKit Go.Lib
namespace Dk
open Ww

set_option maxHeartbeats 1000000 in
set_option maxRecDepth 100000 in
theorem tells_crash (V : Option Addr) (n c : Nat) (d : Dm) (a : ActV) (z : Nat) (w : World) (hk : a.kind = 4) :
    Calls Try.prog 13 #[sv (.slice V n c) d, a.val, .int .i64 (z : Nat)] w fun e w' => e = .returned (.tuple #[sv (.slice V n c) { d with down := true, fuse := 0 }, .int .i64 0, .string ⟨#[]⟩]) ∧ Below w.heap.size w w' := by
  obtain ⟨f, dn, fu, r, ww, s⟩ := d
  obtain ⟨kd, ai, bs, K, ks, A, cA, A2, cK⟩ := a
  simp only [sv, ActV.val] at hk ⊢
  subst hk
  go_enter Try.func13, Try.ntmps13
  go_wp2
  exact bodyPost_ret (v := .tuple #[.agg #[.slice V n c, .bool true, .int .i64 0, .int .i64 (r : Nat), .int .i64 (ww : Nat), .int .i64 (s : Nat)], .int .i64 0, .string ⟨#[]⟩]) (by simp [results, Try.results13, go_sem]) rfl ⟨by simp, by first | exact (((Below.refl w.heap.size w).alloc (Nat.le_refl _) _).alloc (by simp) _).alloc (by simp; omega) _ | exact ((((Below.refl w.heap.size w).alloc (Nat.le_refl _) _).alloc (by simp) _).alloc (by simp; omega) _).drew⟩
set_option maxHeartbeats 1000000 in
set_option maxRecDepth 100000 in
theorem tells_boot_no (V : Option Addr) (n c : Nat) (d : Dm) (a : ActV) (z : Nat) (w : World) (hk : a.kind = 5 ∨ a.kind = 6) (hd : d.down = false) :
    Calls Try.prog 13 #[sv (.slice V n c) d, a.val, .int .i64 (z : Nat)] w fun e w' => e = .returned (.tuple #[sv (.slice V n c) d, .int .i64 5, .string ⟨#[]⟩]) ∧ Below w.heap.size w w' := by
  obtain ⟨f, dn, fu, r, ww, s⟩ := d
  obtain ⟨kd, ai, bs, K, ks, A, cA, A2, cK⟩ := a
  simp only [sv, ActV.val] at hk hd ⊢
  subst hd
  rcases hk with rfl | rfl
  · go_enter Try.func13, Try.ntmps13
    go_wp2
    exact bodyPost_ret (v := .tuple #[.agg #[.slice V n c, .bool false, .int .i64 (fu : Nat), .int .i64 (r : Nat), .int .i64 (ww : Nat), .int .i64 (s : Nat)], .int .i64 5, .string ⟨#[]⟩]) (by simp [results, Try.results13, go_sem]) rfl ⟨by simp, by first | exact (((Below.refl w.heap.size w).alloc (Nat.le_refl _) _).alloc (by simp) _).alloc (by simp; omega) _ | exact ((((Below.refl w.heap.size w).alloc (Nat.le_refl _) _).alloc (by simp) _).alloc (by simp; omega) _).drew⟩
  · go_enter Try.func13, Try.ntmps13
    go_wp2
    exact bodyPost_ret (v := .tuple #[.agg #[.slice V n c, .bool false, .int .i64 (fu : Nat), .int .i64 (r : Nat), .int .i64 (ww : Nat), .int .i64 (s : Nat)], .int .i64 5, .string ⟨#[]⟩]) (by simp [results, Try.results13, go_sem]) rfl ⟨by simp, by first | exact (((Below.refl w.heap.size w).alloc (Nat.le_refl _) _).alloc (by simp) _).alloc (by simp; omega) _ | exact ((((Below.refl w.heap.size w).alloc (Nat.le_refl _) _).alloc (by simp) _).alloc (by simp; omega) _).drew⟩
set_option maxHeartbeats 1000000 in
set_option maxRecDepth 100000 in
theorem tells_other (V : Option Addr) (n c : Nat) (d : Dm) (a : ActV) (z : Nat) (w : World) (hk : a.kind < 0 ∨ 8 < a.kind) :
    Calls Try.prog 13 #[sv (.slice V n c) d, a.val, .int .i64 (z : Nat)] w fun e w' => e = .returned (.tuple #[sv (.slice V n c) d, .int .i64 0, .string ⟨#[]⟩]) ∧ Below w.heap.size w w' := by
  obtain ⟨f, dn, fu, r, ww, s⟩ := d
  obtain ⟨kd, ai, bs, K, ks, A, cA, A2, cK⟩ := a
  simp only [sv, ActV.val] at hk ⊢
  have k4 : ¬ kd = 4 := by omega
  have k5 : ¬ kd = 5 := by omega
  have k6 : ¬ kd = 6 := by omega
  have k7 : ¬ kd = 7 := by omega
  rcases hk with hk | hk
  · go_enter Try.func13, Try.ntmps13
    go_wp2
    exact bodyPost_ret (v := .tuple #[.agg #[.slice V n c, .bool dn, .int .i64 (fu : Nat), .int .i64 (r : Nat), .int .i64 (ww : Nat), .int .i64 (s : Nat)], .int .i64 0, .string ⟨#[]⟩]) (by simp [results, Try.results13, go_sem]) rfl ⟨by simp, by first | exact (((Below.refl w.heap.size w).alloc (Nat.le_refl _) _).alloc (by simp) _).alloc (by simp; omega) _ | exact ((((Below.refl w.heap.size w).alloc (Nat.le_refl _) _).alloc (by simp) _).alloc (by simp; omega) _).drew⟩
  · have h0 : ¬ kd < 0 := by omega
    go_enter Try.func13, Try.ntmps13
    go_wp2
    exact bodyPost_ret (v := .tuple #[.agg #[.slice V n c, .bool dn, .int .i64 (fu : Nat), .int .i64 (r : Nat), .int .i64 (ww : Nat), .int .i64 (s : Nat)], .int .i64 0, .string ⟨#[]⟩]) (by simp [results, Try.results13, go_sem]) rfl ⟨by simp, by first | exact (((Below.refl w.heap.size w).alloc (Nat.le_refl _) _).alloc (by simp) _).alloc (by simp; omega) _ | exact ((((Below.refl w.heap.size w).alloc (Nat.le_refl _) _).alloc (by simp) _).alloc (by simp; omega) _).drew⟩
set_option maxHeartbeats 1000000 in
set_option maxRecDepth 100000 in
theorem tells_down (V : Option Addr) (n c : Nat) (d : Dm) (a : ActV) (z : Nat) (w : World) (hk : 0 ≤ a.kind ∧ a.kind ≤ 8 ∧ a.kind ≠ 4 ∧ a.kind ≠ 5 ∧ a.kind ≠ 6 ∧ a.kind ≠ 7) (hd : d.down = true) :
    Calls Try.prog 13 #[sv (.slice V n c) d, a.val, .int .i64 (z : Nat)] w fun e w' => e = .returned (.tuple #[sv (.slice V n c) d, .int .i64 8, .string ⟨#[]⟩]) ∧ Below w.heap.size w w' := by
  obtain ⟨f, dn, fu, r, ww, s⟩ := d
  obtain ⟨kd, ai, bs, K, ks, A, cA, A2, cK⟩ := a
  simp only [sv, ActV.val] at hk hd ⊢
  subst hd
  have k4 : ¬ kd = 4 := by omega
  have k5 : ¬ kd = 5 := by omega
  have k6 : ¬ kd = 6 := by omega
  have k7 : ¬ kd = 7 := by omega
  have l0 : ¬ kd < 0 := by omega
  have l8 : ¬ 8 < kd := by omega
  clear hk
  go_enter Try.func13, Try.ntmps13
  go_wp2
  exact bodyPost_ret (v := .tuple #[.agg #[.slice V n c, .bool true, .int .i64 (fu : Nat), .int .i64 (r : Nat), .int .i64 (ww : Nat), .int .i64 (s : Nat)], .int .i64 8, .string ⟨#[]⟩]) (by simp [results, Try.results13, go_sem]) rfl ⟨by simp, by first | exact (((Below.refl w.heap.size w).alloc (Nat.le_refl _) _).alloc (by simp) _).alloc (by simp; omega) _ | exact ((((Below.refl w.heap.size w).alloc (Nat.le_refl _) _).alloc (by simp) _).alloc (by simp; omega) _).drew⟩
set_option maxHeartbeats 1000000 in
set_option maxRecDepth 100000 in
theorem tells_range (V : Option Addr) (n c : Nat) (d : Dm) (a : ActV) (z : Nat) (w : World) (hk : 0 ≤ a.kind ∧ a.kind ≤ 8 ∧ a.kind ≠ 4 ∧ a.kind ≠ 5 ∧ a.kind ≠ 6 ∧ a.kind ≠ 7 ∧ a.kind ≠ 3) (hd : d.down = false) (hi : a.i < 0 ∨ (n : Int) ≤ a.i) :
    Calls Try.prog 13 #[sv (.slice V n c) d, a.val, .int .i64 (z : Nat)] w fun e w' => e = .returned (.tuple #[sv (.slice V n c) d, .int .i64 2, .string ⟨#[]⟩]) ∧ Below w.heap.size w w' := by
  obtain ⟨f, dn, fu, r, ww, s⟩ := d
  obtain ⟨kd, ai, bs, K, ks, A, cA, A2, cK⟩ := a
  simp only [sv, ActV.val] at hk hd hi ⊢
  subst hd
  have k4 : ¬ kd = 4 := by omega
  have k5 : ¬ kd = 5 := by omega
  have k6 : ¬ kd = 6 := by omega
  have k7 : ¬ kd = 7 := by omega
  have l0 : ¬ kd < 0 := by omega
  have l8 : ¬ 8 < kd := by omega
  have k3 : ¬ kd = 3 := by omega
  clear hk
  rcases hi with hi | hi
  · go_enter Try.func13, Try.ntmps13
    go_wp2
    exact bodyPost_ret (v := .tuple #[.agg #[.slice V n c, .bool false, .int .i64 (fu : Nat), .int .i64 (r : Nat), .int .i64 (ww : Nat), .int .i64 (s : Nat)], .int .i64 2, .string ⟨#[]⟩]) (by simp [results, Try.results13, go_sem]) rfl ⟨by simp, by first | exact (((Below.refl w.heap.size w).alloc (Nat.le_refl _) _).alloc (by simp) _).alloc (by simp; omega) _ | exact ((((Below.refl w.heap.size w).alloc (Nat.le_refl _) _).alloc (by simp) _).alloc (by simp; omega) _).drew⟩
  · have h0 : ¬ ai < 0 := by omega
    go_enter Try.func13, Try.ntmps13
    go_wp2
    exact bodyPost_ret (v := .tuple #[.agg #[.slice V n c, .bool false, .int .i64 (fu : Nat), .int .i64 (r : Nat), .int .i64 (ww : Nat), .int .i64 (s : Nat)], .int .i64 2, .string ⟨#[]⟩]) (by simp [results, Try.results13, go_sem]) rfl ⟨by simp, by first | exact (((Below.refl w.heap.size w).alloc (Nat.le_refl _) _).alloc (by simp) _).alloc (by simp; omega) _ | exact ((((Below.refl w.heap.size w).alloc (Nat.le_refl _) _).alloc (by simp) _).alloc (by simp; omega) _).drew⟩
set_option maxHeartbeats 1000000 in
set_option maxRecDepth 100000 in
theorem tells_odd (V : Option Addr) (n c : Nat) (d : Dm) (a : ActV) (z : Nat) (w : World) (hk : a.kind = 8) (hd : d.down = false) (hi : 0 ≤ a.i ∧ a.i < n) (hb : a.bs.length ≠ z) :
    Calls Try.prog 13 #[sv (.slice V n c) d, a.val, .int .i64 (z : Nat)] w fun e w' => e = .returned (.tuple #[sv (.slice V n c) d, .int .i64 19, .string ⟨#[]⟩]) ∧ Below w.heap.size w w' := by
  obtain ⟨f, dn, fu, r, ww, s⟩ := d
  obtain ⟨kd, ai, bs, K, ks, A, cA, A2, cK⟩ := a
  simp only [sv, ActV.val] at hk hd hi hb ⊢
  subst hd hk
  have i0 : ¬ ai < 0 := by omega
  have i1 : ¬ (n : Int) ≤ ai := by omega
  have b1 : ¬ (bs.length : Int) = (z : Int) := by omega
  clear hi hb
  generalize bs.length = bl at *
  go_enter Try.func13, Try.ntmps13
  go_wp2
  exact bodyPost_ret (v := .tuple #[.agg #[.slice V n c, .bool false, .int .i64 (fu : Nat), .int .i64 (r : Nat), .int .i64 (ww : Nat), .int .i64 (s : Nat)], .int .i64 19, .string ⟨#[]⟩]) (by simp [results, Try.results13, go_sem]) rfl ⟨by simp, by first | exact (((Below.refl w.heap.size w).alloc (Nat.le_refl _) _).alloc (by simp) _).alloc (by simp; omega) _ | exact ((((Below.refl w.heap.size w).alloc (Nat.le_refl _) _).alloc (by simp) _).alloc (by simp; omega) _).drew⟩
set_option maxHeartbeats 1000000 in
set_option maxRecDepth 100000 in
theorem tells_fuse (V : Option Addr) (n c : Nat) (d : Dm) (a : ActV) (z : Nat) (w : World) (F : Nat) (hk : a.kind = 7) (hF : (F : Int) = max a.i 0) :
    Calls Try.prog 13 #[sv (.slice V n c) d, a.val, .int .i64 (z : Nat)] w fun e w' => e = .returned (.tuple #[sv (.slice V n c) { d with fuse := F }, .int .i64 0, .string ⟨#[]⟩]) ∧ Below w.heap.size w w' := by
  obtain ⟨f, dn, fu, r, ww, s⟩ := d
  obtain ⟨kd, ai, bs, K, ks, A, cA, A2, cK⟩ := a
  simp only [sv, ActV.val] at hk hF ⊢
  subst hk
  have hm : max ai 0 = (F : Int) := hF.symm
  clear hF
  go_enter Try.func13, Try.ntmps13
  go_wp2
  exact bodyPost_ret (v := .tuple #[.agg #[.slice V n c, .bool dn, .int .i64 (F : Nat), .int .i64 (r : Nat), .int .i64 (ww : Nat), .int .i64 (s : Nat)], .int .i64 0, .string ⟨#[]⟩]) (by simp [results, Try.results13, go_sem]) rfl ⟨by simp, by first | exact (((Below.refl w.heap.size w).alloc (Nat.le_refl _) _).alloc (by simp) _).alloc (by simp; omega) _ | exact ((((Below.refl w.heap.size w).alloc (Nat.le_refl _) _).alloc (by simp) _).alloc (by simp; omega) _).drew⟩
set_option maxHeartbeats 1000000 in
set_option maxRecDepth 100000 in
theorem tells_burn (V : Option Addr) (n c : Nat) (d : Dm) (a : ActV) (z : Nat) (w : World) (hk : 0 ≤ a.kind ∧ a.kind ≤ 8 ∧ a.kind ≠ 4 ∧ a.kind ≠ 5 ∧ a.kind ≠ 6 ∧ a.kind ≠ 7) (hd : d.down = false) (hi : a.kind ≠ 3 → 0 ≤ a.i ∧ a.i < n) (hb : a.kind = 8 → a.bs.length = z) (hf : d.fuse = 1) :
    Calls Try.prog 13 #[sv (.slice V n c) d, a.val, .int .i64 (z : Nat)] w fun e w' => e = .returned (.tuple #[sv (.slice V n c) { d with fuse := 0, down := true }, .int .i64 8, .string ⟨#[]⟩]) ∧ Below w.heap.size w w' := by
  obtain ⟨f, dn, fu, r, ww, s⟩ := d
  obtain ⟨kd, ai, bs, K, ks, A, cA, A2, cK⟩ := a
  simp only [sv, ActV.val] at hk hd hi hb hf ⊢
  subst hd hf
  by_cases k3 : kd = 3
  · subst k3
    clear hk hi hb
    go_enter Try.func13, Try.ntmps13
    go_wp2
    exact bodyPost_ret (v := .tuple #[.agg #[.slice V n c, .bool true, .int .i64 0, .int .i64 (r : Nat), .int .i64 (ww : Nat), .int .i64 (s : Nat)], .int .i64 8, .string ⟨#[]⟩]) (by simp [results, Try.results13, go_sem]) rfl ⟨by simp, by first | exact (((Below.refl w.heap.size w).alloc (Nat.le_refl _) _).alloc (by simp) _).alloc (by simp; omega) _ | exact ((((Below.refl w.heap.size w).alloc (Nat.le_refl _) _).alloc (by simp) _).alloc (by simp; omega) _).drew⟩
  have hi := hi k3
  have i0 : ¬ ai < 0 := by omega
  have i1 : ¬ (n : Int) ≤ ai := by omega
  by_cases k8 : kd = 8
  · subst k8
    have hb := hb rfl
    clear hk hi k3
    generalize bs.length = bl at *
    subst hb
    go_enter Try.func13, Try.ntmps13
    go_wp2
    exact bodyPost_ret (v := .tuple #[.agg #[.slice V n c, .bool true, .int .i64 0, .int .i64 (r : Nat), .int .i64 (ww : Nat), .int .i64 (s : Nat)], .int .i64 8, .string ⟨#[]⟩]) (by simp [results, Try.results13, go_sem]) rfl ⟨by simp, by first | exact (((Below.refl w.heap.size w).alloc (Nat.le_refl _) _).alloc (by simp) _).alloc (by simp; omega) _ | exact ((((Below.refl w.heap.size w).alloc (Nat.le_refl _) _).alloc (by simp) _).alloc (by simp; omega) _).drew⟩
  have k4 : ¬ kd = 4 := by omega
  have k5 : ¬ kd = 5 := by omega
  have k6 : ¬ kd = 6 := by omega
  have k7 : ¬ kd = 7 := by omega
  have l0 : ¬ kd < 0 := by omega
  have l8 : ¬ 8 < kd := by omega
  clear hk hi hb
  go_enter Try.func13, Try.ntmps13
  go_wp2
  exact bodyPost_ret (v := .tuple #[.agg #[.slice V n c, .bool true, .int .i64 0, .int .i64 (r : Nat), .int .i64 (ww : Nat), .int .i64 (s : Nat)], .int .i64 8, .string ⟨#[]⟩]) (by simp [results, Try.results13, go_sem]) rfl ⟨by simp, by first | exact (((Below.refl w.heap.size w).alloc (Nat.le_refl _) _).alloc (by simp) _).alloc (by simp; omega) _ | exact ((((Below.refl w.heap.size w).alloc (Nat.le_refl _) _).alloc (by simp) _).alloc (by simp; omega) _).drew⟩
set_option maxHeartbeats 1000000 in
set_option maxRecDepth 100000 in
theorem tells_read (V : Option Addr) (n c : Nat) (d : Dm) (a : ActV) (z : Nat) (w : World) (B : Nat) (i : Nat) (R : Sx w B (.slice V n c) d.f n) (hk : a.kind = 2) (hd : d.down = false) (hi : a.i = (i : Nat)) (hn : i < n) (hf : d.fuse ≠ 1) (hu : d.fuse ≤ 9223372036854775807) (hr : d.r ≤ 1000000) :
    Calls Try.prog 13 #[sv (.slice V n c) d, a.val, .int .i64 (z : Nat)] w fun e w' => e = .returned (.tuple #[sv (.slice V n c) { d with fuse := d.fuse - 1, r := d.r + 1 }, .int .i64 0, .string (d.f i).now]) ∧ Below w.heap.size w w' := by
  obtain ⟨f, dn, fu, r, ww, s⟩ := d
  obtain ⟨kd, ai, bs, K, ks, A, cA, A2, cK⟩ := a
  simp only [sv, ActV.val] at R hk hd hi hf hu hr ⊢
  subst hk hd hi
  obtain ⟨g, rfl, _, hl, C⟩ := R.at_ (by omega)
  have t1 : ∀ X Y Z, (((w.alloc X).alloc Y).alloc Z).cell? ⟨g, i * 4 + 1, none⟩ = some (.string (f i).now) := fun X Y Z =>
    ((((Below.refl w.heap.size w).alloc (Nat.le_refl _) X).alloc (by simp) Y).alloc (by simp; omega) Z).cell (p := ⟨g, i * 4 + 1, none⟩) hl |>.trans (C i hn 1 (by omega)).1
  have i0 : ¬ (i : Int) < 0 := by omega
  have i1 : ¬ (n : Int) ≤ (i : Int) := by omega
  have i2 : (i : Int) < (n : Int) := by omega
  have r1 : IntKind.i64.wrap ((r : Int) + 1) = ((r + 1 : Nat) : Int) := by rw [IntKind.wrap_i64]; omega
  obtain ⟨r', hr'⟩ : ∃ r', r' = r + 1 := ⟨_, rfl⟩
  rw [← hr'] at r1 ⊢
  clear R C hn hr hr'
  generalize (f i).now = nw at *
  by_cases h0 : fu = 0
  · subst h0
    go_enter Try.func13, Try.ntmps13
    go_upto_region 32 with fail
    go_region
    all_goals go_wp2
    all_goals exact bodyPost_ret (v := .tuple #[.agg #[.slice (some ⟨g, 0, none⟩) n c, .bool false, .int .i64 0, .int .i64 (r' : Nat), .int .i64 (ww : Nat), .int .i64 (s : Nat)], .int .i64 0, .string nw]) (by simp [results, Try.results13, go_sem]) rfl ⟨by simp, by first | exact (((Below.refl w.heap.size w).alloc (Nat.le_refl _) _).alloc (by simp) _).alloc (by simp; omega) _ | exact ((((Below.refl w.heap.size w).alloc (Nat.le_refl _) _).alloc (by simp) _).alloc (by simp; omega) _).drew⟩
  · have f1 : (0 : Int) < (fu : Int) := by omega
    obtain ⟨fv, hv⟩ : ∃ fv, fv = fu - 1 := ⟨_, rfl⟩
    have f2 : IntKind.i64.wrap ((fu : Int) - 1) = (fv : Int) := by rw [IntKind.wrap_i64]; omega
    have f3 : ¬ (fv : Int) = 0 := by omega
    have HV := Lib.hid hv
    rw [← hv]
    clear hv h0 hf hu
    go_enter Try.func13, Try.ntmps13
    go_upto_region 32 with fail
    go_region
    all_goals go_wp2
    all_goals exact bodyPost_ret (v := .tuple #[.agg #[.slice (some ⟨g, 0, none⟩) n c, .bool false, .int .i64 (fv : Nat), .int .i64 (r' : Nat), .int .i64 (ww : Nat), .int .i64 (s : Nat)], .int .i64 0, .string nw]) (by simp [results, Try.results13, go_sem]) rfl ⟨by simp, by first | exact (((Below.refl w.heap.size w).alloc (Nat.le_refl _) _).alloc (by simp) _).alloc (by simp; omega) _ | exact ((((Below.refl w.heap.size w).alloc (Nat.le_refl _) _).alloc (by simp) _).alloc (by simp; omega) _).drew⟩
/-- What tells answers where the sectors are others. -/
def TO (d : Dm) (n : Nat) (w : World) (e : Ending) (w' : World) : Prop :=
  ∃ V c, e = .returned (.tuple #[sv (.slice V n c) d, .int .i64 0, .string ⟨#[]⟩]) ∧ Sx w' w.heap.size (.slice V n c) d.f n ∧ Below w.heap.size w w'
theorem blk3 (w : World) (X Y Z : Obj) : (((w.alloc X).alloc Y).alloc Z).heap[w.heap.size]? = some X ∧ (((w.alloc X).alloc Y).alloc Z).heap[w.heap.size + 1]? = some Y ∧ (((w.alloc X).alloc Y).alloc Z).heap[w.heap.size + 1 + 1]? = some Z := by
  have e1 : (w.alloc X).heap.size = w.heap.size + 1 := by simp
  have e2 : ((w.alloc X).alloc Y).heap.size = w.heap.size + 1 + 1 := by simp
  refine ⟨?_, ?_, ?_⟩
  · rw [Below.heap_alloc _ _ _ (by omega), Below.heap_alloc _ _ _ (by omega)]
    exact heap_alloc_new w X
  · rw [Below.heap_alloc _ _ _ (by omega), ← e1]
    exact heap_alloc_new _ Y
  · rw [← e2]
    exact heap_alloc_new _ Z
theorem cell_of {w : World} {b : Nat} {cs : Array Value} {t : TypeId} (h : w.heap[b]? = some (.cells cs t)) (i : Nat) : w.cell? ⟨b, i, none⟩ = cs[i]? ∧ w.frozen? ⟨b, i, none⟩ = false := by
  simp [World.cell?, World.frozen?, h]
theorem put_of {w : World} {b : Nat} {cs : Array Value} {t : TypeId} (h : w.heap[b]? = some (.cells cs t)) (i : Nat) (v : Value) : (w.setCell ⟨b, i, none⟩ v).heap[b]? = some (.cells (cs.setIfInBounds i v) t) := by
  simp [World.setCell, Array.getElem?_modify, h]
/-- Six cells of a block, written one behind the other. -/
theorem six {w : World} {r : Nat} {o0 o1 o2 o3 o4 o5 : Value} {t : TypeId} (h : w.heap[r]? = some (.cells #[o0, o1, o2, o3, o4, o5] t)) (x0 x1 x2 x3 x4 x5 : Value) :
    (w.setCell ⟨r, 0, none⟩ x0).cell? ⟨r, 0, none⟩ = some x0 ∧ ((w.setCell ⟨r, 0, none⟩ x0).setCell ⟨r, 1, none⟩ x1).cell? ⟨r, 1, none⟩ = some x1 ∧ (((w.setCell ⟨r, 0, none⟩ x0).setCell ⟨r, 1, none⟩ x1).setCell ⟨r, 2, none⟩ x2).cell? ⟨r, 2, none⟩ = some x2 ∧
    ((((w.setCell ⟨r, 0, none⟩ x0).setCell ⟨r, 1, none⟩ x1).setCell ⟨r, 2, none⟩ x2).setCell ⟨r, 3, none⟩ x3).cell? ⟨r, 3, none⟩ = some x3 ∧
    (((((w.setCell ⟨r, 0, none⟩ x0).setCell ⟨r, 1, none⟩ x1).setCell ⟨r, 2, none⟩ x2).setCell ⟨r, 3, none⟩ x3).setCell ⟨r, 4, none⟩ x4).cell? ⟨r, 4, none⟩ = some x4 ∧
    ((((((w.setCell ⟨r, 0, none⟩ x0).setCell ⟨r, 1, none⟩ x1).setCell ⟨r, 2, none⟩ x2).setCell ⟨r, 3, none⟩ x3).setCell ⟨r, 4, none⟩ x4).setCell ⟨r, 5, none⟩ x5).cell? ⟨r, 5, none⟩ = some x5 := by
  have h0 := put_of h 0 x0
  have h1 := put_of h0 1 x1
  have h2 := put_of h1 2 x2
  have h3 := put_of h2 3 x3
  have h4 := put_of h3 4 x4
  have h5 := put_of h4 5 x5
  exact ⟨(cell_of h0 0).1.trans (by simp), (cell_of h1 1).1.trans (by simp), (cell_of h2 2).1.trans (by simp), (cell_of h3 3).1.trans (by simp), (cell_of h4 4).1.trans (by simp), (cell_of h5 5).1.trans (by simp)⟩

set_option maxHeartbeats 1000000 in
set_option maxRecDepth 100000 in
theorem tells_sync (B : Nat) (V : Option Addr) (n c : Nat) (d : Dm) (a : ActV) (z : Nat) (w : World) (R : Sx w B (.slice V n c) d.f n) (h0n : 0 < n) (hn : n ≤ 1000000) (hk : a.kind = 3) (hs : d.s ≤ 1000000) (hd : d.down = false) (hf : d.fuse ≠ 1) (hu : d.fuse ≤ 9223372036854775807) :
    Calls Try.prog 13 #[sv (.slice V n c) d, a.val, .int .i64 (z : Nat)] w (TO { d with fuse := d.fuse - 1, s := d.s + 1, f := fun i => synced (d.f i) } n w) := by
  obtain ⟨f, dn, fu, r, ww, s⟩ := d
  obtain ⟨kd, ai, bs, K, ks, A, cA, A2, cK⟩ := a
  simp only [sv, ActV.val] at R hk hd hf hu hs ⊢
  subst hk hd
  have r1 : IntKind.i64.wrap ((s : Int) + 1) = ((s + 1 : Nat) : Int) := by rw [IntKind.wrap_i64]; omega
  obtain ⟨s', hs'⟩ : ∃ s', s' = s + 1 := ⟨_, rfl⟩
  rw [← hs'] at r1 ⊢
  clear hs hs'
  by_cases h0 : fu = 0
  · subst h0
    have D3 := Lib.hid (show Below w.heap.size w (((w.alloc (.cells #[.slice V n c, .bool false, .int .i64 0, .int .i64 (r : Nat), .int .i64 (ww : Nat), .int .i64 (s' : Nat)] 44)).alloc (.cells #[.int .i64 3, .int .i64 ai, .slice A bs.length cA, .slice A2 K cK] 49)).alloc (.cells #[.slice none 0 0, .bool false, .int .i64 0, .int .i64 0, .int .i64 0, .int .i64 0] 44)) from (((Below.refl w.heap.size w).alloc (Nat.le_refl _) _).alloc (by simp) _).alloc (by simp; omega) _)
    have B3 := Lib.hid (blk3 w (.cells #[.slice V n c, .bool false, .int .i64 0, .int .i64 (r : Nat), .int .i64 (ww : Nat), .int .i64 (s' : Nat)] 44) (.cells #[.int .i64 3, .int .i64 ai, .slice A bs.length cA, .slice A2 K cK] 49) (.cells #[.slice none 0 0, .bool false, .int .i64 0, .int .i64 0, .int .i64 0, .int .i64 0] 44))
    have CL := Lib.hid (rsync B V c n f (((w.alloc (.cells #[.slice V n c, .bool false, .int .i64 0, .int .i64 (r : Nat), .int .i64 (ww : Nat), .int .i64 (s' : Nat)] 44)).alloc (.cells #[.int .i64 3, .int .i64 ai, .slice A bs.length cA, .slice A2 K cK] 49)).alloc (.cells #[.slice none 0 0, .bool false, .int .i64 0, .int .i64 0, .int .i64 0, .int .i64 0] 44)) (R.below ((((Below.refl w.heap.size w).alloc (Nat.le_refl _) _).alloc (by simp) _).alloc (by simp; omega) _)) h0n (by omega))
    have sz := Lib.hid (show w.heap.size + 1 + 1 < (((w.alloc (.cells #[.slice V n c, .bool false, .int .i64 0, .int .i64 (r : Nat), .int .i64 (ww : Nat), .int .i64 (s' : Nat)] 44)).alloc (.cells #[.int .i64 3, .int .i64 ai, .slice A bs.length cA, .slice A2 K cK] 49)).alloc (.cells #[.slice none 0 0, .bool false, .int .i64 0, .int .i64 0, .int .i64 0, .int .i64 0] 44)).heap.size by simp)
    clear R
    go_enter Try.func13, Try.ntmps13
    go_wp2_with fail
    refine CL.out.mono ?_
    rintro e w4 ⟨v, rfl, O, d4⟩
    obtain ⟨V2, c2, rfl⟩ := O.slice
    have SB := (d4.block w.heap.size (by have := sz.out; omega)).trans B3.out.1
    have RB := (d4.block (w.heap.size + 1 + 1) sz.out).trans B3.out.2.2
    have s0_ : w4.cell? ⟨w.heap.size, 0, none⟩ = some (.slice V n c) := (cell_of SB 0).1
    have s1_ : w4.cell? ⟨w.heap.size, 1, none⟩ = some (.bool false) := (cell_of SB 1).1
    have s2_ : w4.cell? ⟨w.heap.size, 2, none⟩ = some (.int .i64 0) := (cell_of SB 2).1
    have s3_ : w4.cell? ⟨w.heap.size, 3, none⟩ = some (.int .i64 (r : Nat)) := (cell_of SB 3).1
    have s4_ : w4.cell? ⟨w.heap.size, 4, none⟩ = some (.int .i64 (ww : Nat)) := (cell_of SB 4).1
    have s5_ : w4.cell? ⟨w.heap.size, 5, none⟩ = some (.int .i64 (s' : Nat)) := (cell_of SB 5).1
    have y0_ := (cell_of SB 0).2
    have y1_ := (cell_of SB 1).2
    have r0_ : w4.cell? ⟨w.heap.size + 1 + 1, 0, none⟩ = some (.slice none 0 0) := (cell_of RB 0).1
    have x0_ := (cell_of RB 0).2
    have r1_ : w4.cell? ⟨w.heap.size + 1 + 1, 1, none⟩ = some (.bool false) := (cell_of RB 1).1
    have x1_ := (cell_of RB 1).2
    have r2_ : w4.cell? ⟨w.heap.size + 1 + 1, 2, none⟩ = some (.int .i64 0) := (cell_of RB 2).1
    have x2_ := (cell_of RB 2).2
    have r3_ : w4.cell? ⟨w.heap.size + 1 + 1, 3, none⟩ = some (.int .i64 0) := (cell_of RB 3).1
    have x3_ := (cell_of RB 3).2
    have r4_ : w4.cell? ⟨w.heap.size + 1 + 1, 4, none⟩ = some (.int .i64 0) := (cell_of RB 4).1
    have x4_ := (cell_of RB 4).2
    have r5_ : w4.cell? ⟨w.heap.size + 1 + 1, 5, none⟩ = some (.int .i64 0) := (cell_of RB 5).1
    have x5_ := (cell_of RB 5).2
    have SX := Lib.hid (six (w := w4.setCell ⟨w.heap.size, 0, none⟩ (.slice V2 n c2)) (r := w.heap.size + 1 + 1) (by rw [Below.heap_setCell _ _ _ _ (by simp <;> omega)]; exact RB) (.slice V2 n c2) (.bool false) (.int .i64 0) (.int .i64 (r : Nat)) (.int .i64 (ww : Nat)) (.int .i64 (s' : Nat)))
    have D4 := Lib.hid (D3.out.trans (d4.mono D3.out.size))
    have SZ := Lib.hid (show w.heap.size + 1 + 1 < _ from sz.out)
    replace O := Lib.hid O
    clear CL B3 D3 d4 SB RB sz
    go_wp2
    obtain ⟨g0_, g1_, g2_, g3_, g4_, g5_⟩ := SX.out
    refine bodyPost_ret (v := .tuple #[.agg #[.slice V2 n c2, .bool false, .int .i64 0, .int .i64 (r : Nat), .int .i64 (ww : Nat), .int .i64 (s' : Nat)], .int .i64 0, .string ⟨#[]⟩]) (by simp [results, Try.results13, go_sem, g0_, g1_, g2_, g3_, g4_, g5_]) rfl ⟨V2, c2, by simp [sv], ?_, ?_⟩
    · refine Sx.less ?_ (Nat.le_of_lt (Nat.lt_of_le_of_lt (Nat.le_add_right _ 2) SZ.out))
      repeat (refine ownsRow_setCell_below ?_ (Nat.lt_of_le_of_lt (by simp <;> omega) SZ.out) _)
      exact O.out
    · repeat (first | with_reducible exact D4.out | with_reducible refine Below.setCell ?_ (by simp <;> omega) _)
  · have f1 : (0 : Int) < (fu : Int) := by omega
    obtain ⟨fv, hv⟩ : ∃ fv, fv = fu - 1 := ⟨_, rfl⟩
    have f2 : IntKind.i64.wrap ((fu : Int) - 1) = (fv : Int) := by rw [IntKind.wrap_i64]; omega
    have f3 : ¬ (fv : Int) = 0 := by omega
    have HV := Lib.hid hv
    rw [← hv]
    clear hv h0 hf hu
    have D3 := Lib.hid (show Below w.heap.size w (((w.alloc (.cells #[.slice V n c, .bool false, .int .i64 (fv : Nat), .int .i64 (r : Nat), .int .i64 (ww : Nat), .int .i64 (s' : Nat)] 44)).alloc (.cells #[.int .i64 3, .int .i64 ai, .slice A bs.length cA, .slice A2 K cK] 49)).alloc (.cells #[.slice none 0 0, .bool false, .int .i64 0, .int .i64 0, .int .i64 0, .int .i64 0] 44)) from (((Below.refl w.heap.size w).alloc (Nat.le_refl _) _).alloc (by simp) _).alloc (by simp; omega) _)
    have B3 := Lib.hid (blk3 w (.cells #[.slice V n c, .bool false, .int .i64 (fv : Nat), .int .i64 (r : Nat), .int .i64 (ww : Nat), .int .i64 (s' : Nat)] 44) (.cells #[.int .i64 3, .int .i64 ai, .slice A bs.length cA, .slice A2 K cK] 49) (.cells #[.slice none 0 0, .bool false, .int .i64 0, .int .i64 0, .int .i64 0, .int .i64 0] 44))
    have CL := Lib.hid (rsync B V c n f (((w.alloc (.cells #[.slice V n c, .bool false, .int .i64 (fv : Nat), .int .i64 (r : Nat), .int .i64 (ww : Nat), .int .i64 (s' : Nat)] 44)).alloc (.cells #[.int .i64 3, .int .i64 ai, .slice A bs.length cA, .slice A2 K cK] 49)).alloc (.cells #[.slice none 0 0, .bool false, .int .i64 0, .int .i64 0, .int .i64 0, .int .i64 0] 44)) (R.below ((((Below.refl w.heap.size w).alloc (Nat.le_refl _) _).alloc (by simp) _).alloc (by simp; omega) _)) h0n (by omega))
    have sz := Lib.hid (show w.heap.size + 1 + 1 < (((w.alloc (.cells #[.slice V n c, .bool false, .int .i64 (fv : Nat), .int .i64 (r : Nat), .int .i64 (ww : Nat), .int .i64 (s' : Nat)] 44)).alloc (.cells #[.int .i64 3, .int .i64 ai, .slice A bs.length cA, .slice A2 K cK] 49)).alloc (.cells #[.slice none 0 0, .bool false, .int .i64 0, .int .i64 0, .int .i64 0, .int .i64 0] 44)).heap.size by simp)
    clear R
    go_enter Try.func13, Try.ntmps13
    go_wp2_with fail
    refine CL.out.mono ?_
    rintro e w4 ⟨v, rfl, O, d4⟩
    obtain ⟨V2, c2, rfl⟩ := O.slice
    have SB := (d4.block w.heap.size (by have := sz.out; omega)).trans B3.out.1
    have RB := (d4.block (w.heap.size + 1 + 1) sz.out).trans B3.out.2.2
    have s0_ : w4.cell? ⟨w.heap.size, 0, none⟩ = some (.slice V n c) := (cell_of SB 0).1
    have s1_ : w4.cell? ⟨w.heap.size, 1, none⟩ = some (.bool false) := (cell_of SB 1).1
    have s2_ : w4.cell? ⟨w.heap.size, 2, none⟩ = some (.int .i64 (fv : Nat)) := (cell_of SB 2).1
    have s3_ : w4.cell? ⟨w.heap.size, 3, none⟩ = some (.int .i64 (r : Nat)) := (cell_of SB 3).1
    have s4_ : w4.cell? ⟨w.heap.size, 4, none⟩ = some (.int .i64 (ww : Nat)) := (cell_of SB 4).1
    have s5_ : w4.cell? ⟨w.heap.size, 5, none⟩ = some (.int .i64 (s' : Nat)) := (cell_of SB 5).1
    have y0_ := (cell_of SB 0).2
    have y1_ := (cell_of SB 1).2
    have r0_ : w4.cell? ⟨w.heap.size + 1 + 1, 0, none⟩ = some (.slice none 0 0) := (cell_of RB 0).1
    have x0_ := (cell_of RB 0).2
    have r1_ : w4.cell? ⟨w.heap.size + 1 + 1, 1, none⟩ = some (.bool false) := (cell_of RB 1).1
    have x1_ := (cell_of RB 1).2
    have r2_ : w4.cell? ⟨w.heap.size + 1 + 1, 2, none⟩ = some (.int .i64 0) := (cell_of RB 2).1
    have x2_ := (cell_of RB 2).2
    have r3_ : w4.cell? ⟨w.heap.size + 1 + 1, 3, none⟩ = some (.int .i64 0) := (cell_of RB 3).1
    have x3_ := (cell_of RB 3).2
    have r4_ : w4.cell? ⟨w.heap.size + 1 + 1, 4, none⟩ = some (.int .i64 0) := (cell_of RB 4).1
    have x4_ := (cell_of RB 4).2
    have r5_ : w4.cell? ⟨w.heap.size + 1 + 1, 5, none⟩ = some (.int .i64 0) := (cell_of RB 5).1
    have x5_ := (cell_of RB 5).2
    have SX := Lib.hid (six (w := w4.setCell ⟨w.heap.size, 0, none⟩ (.slice V2 n c2)) (r := w.heap.size + 1 + 1) (by rw [Below.heap_setCell _ _ _ _ (by simp <;> omega)]; exact RB) (.slice V2 n c2) (.bool false) (.int .i64 (fv : Nat)) (.int .i64 (r : Nat)) (.int .i64 (ww : Nat)) (.int .i64 (s' : Nat)))
    have D4 := Lib.hid (D3.out.trans (d4.mono D3.out.size))
    have SZ := Lib.hid (show w.heap.size + 1 + 1 < _ from sz.out)
    replace O := Lib.hid O
    clear CL B3 D3 d4 SB RB sz
    go_wp2
    obtain ⟨g0_, g1_, g2_, g3_, g4_, g5_⟩ := SX.out
    refine bodyPost_ret (v := .tuple #[.agg #[.slice V2 n c2, .bool false, .int .i64 (fv : Nat), .int .i64 (r : Nat), .int .i64 (ww : Nat), .int .i64 (s' : Nat)], .int .i64 0, .string ⟨#[]⟩]) (by simp [results, Try.results13, go_sem, g0_, g1_, g2_, g3_, g4_, g5_]) rfl ⟨V2, c2, by simp [sv], ?_, ?_⟩
    · refine Sx.less ?_ (Nat.le_of_lt (Nat.lt_of_le_of_lt (Nat.le_add_right _ 2) SZ.out))
      repeat (refine ownsRow_setCell_below ?_ (Nat.lt_of_le_of_lt (by simp <;> omega) SZ.out) _)
      exact O.out
    · repeat (first | with_reducible exact D4.out | with_reducible refine Below.setCell ?_ (by simp <;> omega) _)
theorem Kb.more {w : World} {B B' K : Nat} {A : Option Addr} {ks : Nat → Bool} (h : Kb w B A K ks) (hB : B ≤ B') : Kb w B' A K ks :=
  ⟨fun i hi => by
    obtain ⟨b, off, e, hb, c⟩ := h.at_ i hi
    exact ⟨b, off, e, by omega, c⟩⟩
set_option maxHeartbeats 1000000 in
set_option maxRecDepth 100000 in
theorem tells_boot (B : Nat) (V : Option Addr) (n c : Nat) (d : Dm) (a : ActV) (z : Nat) (w : World) (R : Sx w B (.slice V n c) d.f n) (h0n : 0 < n) (hn : n ≤ 1000000) (hk : a.kind = 5 ∨ a.kind = 6) (hd : d.down = true) (Q : Kb w w.heap.size a.A2 a.K a.ks) (lK : a.K ≤ 9223372036854775807) :
    Calls Try.prog 13 #[sv (.slice V n c) d, a.val, .int .i64 (z : Nat)] w (TO { d with down := false, f := fun i => booted (d.f i) (kept d.f a.K a.ks i) } n w) := by
  obtain ⟨f, dn, fu, r, ww, s⟩ := d
  obtain ⟨kd, ai, bs, K, ks, A, cA, A2, cK⟩ := a
  simp only [sv, ActV.val] at R hk hd Q lK ⊢
  subst hd
  rcases hk with rfl | rfl
  · have D3 := Lib.hid (show Below w.heap.size w (((w.alloc (.cells #[.slice V n c, .bool true, .int .i64 (fu : Nat), .int .i64 (r : Nat), .int .i64 (ww : Nat), .int .i64 (s : Nat)] 44)).alloc (.cells #[.int .i64 5, .int .i64 ai, .slice A bs.length cA, .slice A2 K cK] 49)).alloc (.cells #[.slice none 0 0, .bool false, .int .i64 0, .int .i64 0, .int .i64 0, .int .i64 0] 44)) from (((Below.refl w.heap.size w).alloc (Nat.le_refl _) _).alloc (by simp) _).alloc (by simp; omega) _)
    have B3 := Lib.hid (blk3 w (.cells #[.slice V n c, .bool true, .int .i64 (fu : Nat), .int .i64 (r : Nat), .int .i64 (ww : Nat), .int .i64 (s : Nat)] 44) (.cells #[.int .i64 5, .int .i64 ai, .slice A bs.length cA, .slice A2 K cK] 49) (.cells #[.slice none 0 0, .bool false, .int .i64 0, .int .i64 0, .int .i64 0, .int .i64 0] 44))
    have CL := Lib.hid (rboot B V A2 c n K cK f ks (((w.alloc (.cells #[.slice V n c, .bool true, .int .i64 (fu : Nat), .int .i64 (r : Nat), .int .i64 (ww : Nat), .int .i64 (s : Nat)] 44)).alloc (.cells #[.int .i64 5, .int .i64 ai, .slice A bs.length cA, .slice A2 K cK] 49)).alloc (.cells #[.slice none 0 0, .bool false, .int .i64 0, .int .i64 0, .int .i64 0, .int .i64 0] 44)) (R.below ((((Below.refl w.heap.size w).alloc (Nat.le_refl _) _).alloc (by simp) _).alloc (by simp; omega) _)) ((Q.below ((((Below.refl w.heap.size w).alloc (Nat.le_refl _) _).alloc (by simp) _).alloc (by simp; omega) _)).more (by simp; omega)) h0n (by omega) lK)
    have sz := Lib.hid (show w.heap.size + 1 + 1 < (((w.alloc (.cells #[.slice V n c, .bool true, .int .i64 (fu : Nat), .int .i64 (r : Nat), .int .i64 (ww : Nat), .int .i64 (s : Nat)] 44)).alloc (.cells #[.int .i64 5, .int .i64 ai, .slice A bs.length cA, .slice A2 K cK] 49)).alloc (.cells #[.slice none 0 0, .bool false, .int .i64 0, .int .i64 0, .int .i64 0, .int .i64 0] 44)).heap.size by simp)
    clear R
    go_enter Try.func13, Try.ntmps13
    go_wp2_with fail
    refine CL.out.mono ?_
    rintro e w4 ⟨v, rfl, O, d4⟩
    obtain ⟨V2, c2, rfl⟩ := O.slice
    have SB := (d4.block w.heap.size (by have := sz.out; omega)).trans B3.out.1
    have RB := (d4.block (w.heap.size + 1 + 1) sz.out).trans B3.out.2.2
    have s0_ : w4.cell? ⟨w.heap.size, 0, none⟩ = some (.slice V n c) := (cell_of SB 0).1
    have s1_ : w4.cell? ⟨w.heap.size, 1, none⟩ = some (.bool true) := (cell_of SB 1).1
    have s2_ : w4.cell? ⟨w.heap.size, 2, none⟩ = some (.int .i64 (fu : Nat)) := (cell_of SB 2).1
    have s3_ : w4.cell? ⟨w.heap.size, 3, none⟩ = some (.int .i64 (r : Nat)) := (cell_of SB 3).1
    have s4_ : w4.cell? ⟨w.heap.size, 4, none⟩ = some (.int .i64 (ww : Nat)) := (cell_of SB 4).1
    have s5_ : w4.cell? ⟨w.heap.size, 5, none⟩ = some (.int .i64 (s : Nat)) := (cell_of SB 5).1
    have y0_ := (cell_of SB 0).2
    have y1_ := (cell_of SB 1).2
    have r0_ : w4.cell? ⟨w.heap.size + 1 + 1, 0, none⟩ = some (.slice none 0 0) := (cell_of RB 0).1
    have x0_ := (cell_of RB 0).2
    have r1_ : w4.cell? ⟨w.heap.size + 1 + 1, 1, none⟩ = some (.bool false) := (cell_of RB 1).1
    have x1_ := (cell_of RB 1).2
    have r2_ : w4.cell? ⟨w.heap.size + 1 + 1, 2, none⟩ = some (.int .i64 0) := (cell_of RB 2).1
    have x2_ := (cell_of RB 2).2
    have r3_ : w4.cell? ⟨w.heap.size + 1 + 1, 3, none⟩ = some (.int .i64 0) := (cell_of RB 3).1
    have x3_ := (cell_of RB 3).2
    have r4_ : w4.cell? ⟨w.heap.size + 1 + 1, 4, none⟩ = some (.int .i64 0) := (cell_of RB 4).1
    have x4_ := (cell_of RB 4).2
    have r5_ : w4.cell? ⟨w.heap.size + 1 + 1, 5, none⟩ = some (.int .i64 0) := (cell_of RB 5).1
    have x5_ := (cell_of RB 5).2
    have SX := Lib.hid (six (w := (w4.setCell ⟨w.heap.size, 0, none⟩ (.slice V2 n c2)).setCell ⟨w.heap.size, 1, none⟩ (.bool false)) (r := w.heap.size + 1 + 1) (by rw [Below.heap_setCell _ _ _ _ (by simp <;> omega), Below.heap_setCell _ _ _ _ (by simp <;> omega)]; exact RB) (.slice V2 n c2) (.bool false) (.int .i64 (fu : Nat)) (.int .i64 (r : Nat)) (.int .i64 (ww : Nat)) (.int .i64 (s : Nat)))
    have D4 := Lib.hid (D3.out.trans (d4.mono D3.out.size))
    have SZ := Lib.hid (show w.heap.size + 1 + 1 < _ from sz.out)
    replace O := Lib.hid O
    clear CL B3 D3 d4 SB RB sz
    go_wp2
    obtain ⟨g0_, g1_, g2_, g3_, g4_, g5_⟩ := SX.out
    refine bodyPost_ret (v := .tuple #[.agg #[.slice V2 n c2, .bool false, .int .i64 (fu : Nat), .int .i64 (r : Nat), .int .i64 (ww : Nat), .int .i64 (s : Nat)], .int .i64 0, .string ⟨#[]⟩]) (by simp [results, Try.results13, go_sem, g0_, g1_, g2_, g3_, g4_, g5_]) rfl ⟨V2, c2, by simp [sv], ?_, ?_⟩
    · refine Sx.less ?_ (Nat.le_of_lt (Nat.lt_of_le_of_lt (Nat.le_add_right _ 2) SZ.out))
      repeat (refine ownsRow_setCell_below ?_ (Nat.lt_of_le_of_lt (by simp <;> omega) SZ.out) _)
      exact O.out
    · repeat (first | with_reducible exact D4.out | with_reducible refine Below.setCell ?_ (by simp <;> omega) _)
  · have D3 := Lib.hid (show Below w.heap.size w (((w.alloc (.cells #[.slice V n c, .bool true, .int .i64 (fu : Nat), .int .i64 (r : Nat), .int .i64 (ww : Nat), .int .i64 (s : Nat)] 44)).alloc (.cells #[.int .i64 6, .int .i64 ai, .slice A bs.length cA, .slice A2 K cK] 49)).alloc (.cells #[.slice none 0 0, .bool false, .int .i64 0, .int .i64 0, .int .i64 0, .int .i64 0] 44)) from (((Below.refl w.heap.size w).alloc (Nat.le_refl _) _).alloc (by simp) _).alloc (by simp; omega) _)
    have B3 := Lib.hid (blk3 w (.cells #[.slice V n c, .bool true, .int .i64 (fu : Nat), .int .i64 (r : Nat), .int .i64 (ww : Nat), .int .i64 (s : Nat)] 44) (.cells #[.int .i64 6, .int .i64 ai, .slice A bs.length cA, .slice A2 K cK] 49) (.cells #[.slice none 0 0, .bool false, .int .i64 0, .int .i64 0, .int .i64 0, .int .i64 0] 44))
    have CL := Lib.hid (rboot B V A2 c n K cK f ks (((w.alloc (.cells #[.slice V n c, .bool true, .int .i64 (fu : Nat), .int .i64 (r : Nat), .int .i64 (ww : Nat), .int .i64 (s : Nat)] 44)).alloc (.cells #[.int .i64 6, .int .i64 ai, .slice A bs.length cA, .slice A2 K cK] 49)).alloc (.cells #[.slice none 0 0, .bool false, .int .i64 0, .int .i64 0, .int .i64 0, .int .i64 0] 44)) (R.below ((((Below.refl w.heap.size w).alloc (Nat.le_refl _) _).alloc (by simp) _).alloc (by simp; omega) _)) ((Q.below ((((Below.refl w.heap.size w).alloc (Nat.le_refl _) _).alloc (by simp) _).alloc (by simp; omega) _)).more (by simp; omega)) h0n (by omega) lK)
    have sz := Lib.hid (show w.heap.size + 1 + 1 < (((w.alloc (.cells #[.slice V n c, .bool true, .int .i64 (fu : Nat), .int .i64 (r : Nat), .int .i64 (ww : Nat), .int .i64 (s : Nat)] 44)).alloc (.cells #[.int .i64 6, .int .i64 ai, .slice A bs.length cA, .slice A2 K cK] 49)).alloc (.cells #[.slice none 0 0, .bool false, .int .i64 0, .int .i64 0, .int .i64 0, .int .i64 0] 44)).heap.size by simp)
    clear R
    go_enter Try.func13, Try.ntmps13
    go_wp2_with fail
    refine CL.out.mono ?_
    rintro e w4 ⟨v, rfl, O, d4⟩
    obtain ⟨V2, c2, rfl⟩ := O.slice
    have SB := (d4.block w.heap.size (by have := sz.out; omega)).trans B3.out.1
    have RB := (d4.block (w.heap.size + 1 + 1) sz.out).trans B3.out.2.2
    have s0_ : w4.cell? ⟨w.heap.size, 0, none⟩ = some (.slice V n c) := (cell_of SB 0).1
    have s1_ : w4.cell? ⟨w.heap.size, 1, none⟩ = some (.bool true) := (cell_of SB 1).1
    have s2_ : w4.cell? ⟨w.heap.size, 2, none⟩ = some (.int .i64 (fu : Nat)) := (cell_of SB 2).1
    have s3_ : w4.cell? ⟨w.heap.size, 3, none⟩ = some (.int .i64 (r : Nat)) := (cell_of SB 3).1
    have s4_ : w4.cell? ⟨w.heap.size, 4, none⟩ = some (.int .i64 (ww : Nat)) := (cell_of SB 4).1
    have s5_ : w4.cell? ⟨w.heap.size, 5, none⟩ = some (.int .i64 (s : Nat)) := (cell_of SB 5).1
    have y0_ := (cell_of SB 0).2
    have y1_ := (cell_of SB 1).2
    have r0_ : w4.cell? ⟨w.heap.size + 1 + 1, 0, none⟩ = some (.slice none 0 0) := (cell_of RB 0).1
    have x0_ := (cell_of RB 0).2
    have r1_ : w4.cell? ⟨w.heap.size + 1 + 1, 1, none⟩ = some (.bool false) := (cell_of RB 1).1
    have x1_ := (cell_of RB 1).2
    have r2_ : w4.cell? ⟨w.heap.size + 1 + 1, 2, none⟩ = some (.int .i64 0) := (cell_of RB 2).1
    have x2_ := (cell_of RB 2).2
    have r3_ : w4.cell? ⟨w.heap.size + 1 + 1, 3, none⟩ = some (.int .i64 0) := (cell_of RB 3).1
    have x3_ := (cell_of RB 3).2
    have r4_ : w4.cell? ⟨w.heap.size + 1 + 1, 4, none⟩ = some (.int .i64 0) := (cell_of RB 4).1
    have x4_ := (cell_of RB 4).2
    have r5_ : w4.cell? ⟨w.heap.size + 1 + 1, 5, none⟩ = some (.int .i64 0) := (cell_of RB 5).1
    have x5_ := (cell_of RB 5).2
    have SX := Lib.hid (six (w := (w4.setCell ⟨w.heap.size, 0, none⟩ (.slice V2 n c2)).setCell ⟨w.heap.size, 1, none⟩ (.bool false)) (r := w.heap.size + 1 + 1) (by rw [Below.heap_setCell _ _ _ _ (by simp <;> omega), Below.heap_setCell _ _ _ _ (by simp <;> omega)]; exact RB) (.slice V2 n c2) (.bool false) (.int .i64 (fu : Nat)) (.int .i64 (r : Nat)) (.int .i64 (ww : Nat)) (.int .i64 (s : Nat)))
    have D4 := Lib.hid (D3.out.trans (d4.mono D3.out.size))
    have SZ := Lib.hid (show w.heap.size + 1 + 1 < _ from sz.out)
    replace O := Lib.hid O
    clear CL B3 D3 d4 SB RB sz
    go_wp2
    obtain ⟨g0_, g1_, g2_, g3_, g4_, g5_⟩ := SX.out
    refine bodyPost_ret (v := .tuple #[.agg #[.slice V2 n c2, .bool false, .int .i64 (fu : Nat), .int .i64 (r : Nat), .int .i64 (ww : Nat), .int .i64 (s : Nat)], .int .i64 0, .string ⟨#[]⟩]) (by simp [results, Try.results13, go_sem, g0_, g1_, g2_, g3_, g4_, g5_]) rfl ⟨V2, c2, by simp [sv], ?_, ?_⟩
    · refine Sx.less ?_ (Nat.le_of_lt (Nat.lt_of_le_of_lt (Nat.le_add_right _ 2) SZ.out))
      repeat (refine ownsRow_setCell_below ?_ (Nat.lt_of_le_of_lt (by simp <;> omega) SZ.out) _)
      exact O.out
    · repeat (first | with_reducible exact D4.out | with_reducible refine Below.setCell ?_ (by simp <;> omega) _)
set_option maxHeartbeats 1000000 in
set_option maxRecDepth 100000 in
theorem tells_write (B i : Nat) (V : Option Addr) (n c : Nat) (d : Dm) (a : ActV) (z : Nat) (w : World) (R : Sx w B (.slice V n c) d.f n) (h0n : 0 < n) (hn : n ≤ 1000000) (hk : a.kind = 8) (hi : a.i = (i : Nat)) (hin : i < n) (hb : a.bs.length = z) (Q : Bs w w.heap.size a.A a.bs) (hw : d.w ≤ 1000000) (hd : d.down = false) (hf : d.fuse ≠ 1) (hu : d.fuse ≤ 9223372036854775807) :
    Calls Try.prog 13 #[sv (.slice V n c) d, a.val, .int .i64 (z : Nat)] w (TO { d with fuse := d.fuse - 1, w := d.w + 1, f := put d.f i (wrote (d.f i) ⟨a.bs.toArray⟩) } n w) := by
  obtain ⟨f, dn, fu, r, ww, s⟩ := d
  obtain ⟨kd, ai, bs, K, ks, A, cA, A2, cK⟩ := a
  simp only [sv, ActV.val] at R hk hd hf hu hw hi hb Q ⊢
  subst hk hd hi
  have r1 : IntKind.i64.wrap ((ww : Int) + 1) = ((ww + 1 : Nat) : Int) := by rw [IntKind.wrap_i64]; omega
  obtain ⟨w', hw'⟩ : ∃ w', w' = ww + 1 := ⟨_, rfl⟩
  rw [← hw'] at r1 ⊢
  have i0 : ¬ (i : Int) < 0 := by omega
  have i1 : ¬ (n : Int) ≤ (i : Int) := by omega
  have i2 : (i : Int) < (n : Int) := by omega
  clear hw hw'
  have cv : ∀ X Y Z, (convert 47 9 (.slice A bs.length cA)).run Try.prog (((w.alloc X).alloc Y).alloc Z) = .ok (.string ⟨bs.toArray⟩) (((w.alloc X).alloc Y).alloc Z) := fun X Y Z => conv_bytes (Q.below ((((Below.refl w.heap.size w).alloc (Nat.le_refl _) _).alloc (by simp) _).alloc (by simp; omega) _)) cA
  generalize bs.toArray = tx at *
  generalize bs.length = bl at *
  subst hb
  by_cases h0 : fu = 0
  · subst h0
    have D3 := Lib.hid (show Below w.heap.size w (((w.alloc (.cells #[.slice V n c, .bool false, .int .i64 0, .int .i64 (r : Nat), .int .i64 (w' : Nat), .int .i64 (s : Nat)] 44)).alloc (.cells #[.int .i64 8, .int .i64 (i : Nat), .slice A bl cA, .slice A2 K cK] 49)).alloc (.cells #[.slice none 0 0, .bool false, .int .i64 0, .int .i64 0, .int .i64 0, .int .i64 0] 44)) from (((Below.refl w.heap.size w).alloc (Nat.le_refl _) _).alloc (by simp) _).alloc (by simp; omega) _)
    have B3 := Lib.hid (blk3 w (.cells #[.slice V n c, .bool false, .int .i64 0, .int .i64 (r : Nat), .int .i64 (w' : Nat), .int .i64 (s : Nat)] 44) (.cells #[.int .i64 8, .int .i64 (i : Nat), .slice A bl cA, .slice A2 K cK] 49) (.cells #[.slice none 0 0, .bool false, .int .i64 0, .int .i64 0, .int .i64 0, .int .i64 0] 44))
    have CL := Lib.hid (rwrite B V c n i f ⟨tx⟩ (((w.alloc (.cells #[.slice V n c, .bool false, .int .i64 0, .int .i64 (r : Nat), .int .i64 (w' : Nat), .int .i64 (s : Nat)] 44)).alloc (.cells #[.int .i64 8, .int .i64 (i : Nat), .slice A bl cA, .slice A2 K cK] 49)).alloc (.cells #[.slice none 0 0, .bool false, .int .i64 0, .int .i64 0, .int .i64 0, .int .i64 0] 44)) (R.below ((((Below.refl w.heap.size w).alloc (Nat.le_refl _) _).alloc (by simp) _).alloc (by simp; omega) _)) hin (by omega))
    have sz := Lib.hid (show w.heap.size + 1 + 1 < (((w.alloc (.cells #[.slice V n c, .bool false, .int .i64 0, .int .i64 (r : Nat), .int .i64 (w' : Nat), .int .i64 (s : Nat)] 44)).alloc (.cells #[.int .i64 8, .int .i64 (i : Nat), .slice A bl cA, .slice A2 K cK] 49)).alloc (.cells #[.slice none 0 0, .bool false, .int .i64 0, .int .i64 0, .int .i64 0, .int .i64 0] 44)).heap.size by simp)
    clear R
    go_enter Try.func13, Try.ntmps13
    go_wp2_with fail
    refine CL.out.mono ?_
    rintro e w4 ⟨v, rfl, O, d4⟩
    obtain ⟨V2, c2, rfl⟩ := O.slice
    have SB := (d4.block w.heap.size (by have := sz.out; omega)).trans B3.out.1
    have RB := (d4.block (w.heap.size + 1 + 1) sz.out).trans B3.out.2.2
    have s0_ : w4.cell? ⟨w.heap.size, 0, none⟩ = some (.slice V n c) := (cell_of SB 0).1
    have s1_ : w4.cell? ⟨w.heap.size, 1, none⟩ = some (.bool false) := (cell_of SB 1).1
    have s2_ : w4.cell? ⟨w.heap.size, 2, none⟩ = some (.int .i64 0) := (cell_of SB 2).1
    have s3_ : w4.cell? ⟨w.heap.size, 3, none⟩ = some (.int .i64 (r : Nat)) := (cell_of SB 3).1
    have s4_ : w4.cell? ⟨w.heap.size, 4, none⟩ = some (.int .i64 (w' : Nat)) := (cell_of SB 4).1
    have s5_ : w4.cell? ⟨w.heap.size, 5, none⟩ = some (.int .i64 (s : Nat)) := (cell_of SB 5).1
    have y0_ := (cell_of SB 0).2
    have y1_ := (cell_of SB 1).2
    have r0_ : w4.cell? ⟨w.heap.size + 1 + 1, 0, none⟩ = some (.slice none 0 0) := (cell_of RB 0).1
    have x0_ := (cell_of RB 0).2
    have r1_ : w4.cell? ⟨w.heap.size + 1 + 1, 1, none⟩ = some (.bool false) := (cell_of RB 1).1
    have x1_ := (cell_of RB 1).2
    have r2_ : w4.cell? ⟨w.heap.size + 1 + 1, 2, none⟩ = some (.int .i64 0) := (cell_of RB 2).1
    have x2_ := (cell_of RB 2).2
    have r3_ : w4.cell? ⟨w.heap.size + 1 + 1, 3, none⟩ = some (.int .i64 0) := (cell_of RB 3).1
    have x3_ := (cell_of RB 3).2
    have r4_ : w4.cell? ⟨w.heap.size + 1 + 1, 4, none⟩ = some (.int .i64 0) := (cell_of RB 4).1
    have x4_ := (cell_of RB 4).2
    have r5_ : w4.cell? ⟨w.heap.size + 1 + 1, 5, none⟩ = some (.int .i64 0) := (cell_of RB 5).1
    have x5_ := (cell_of RB 5).2
    have SX := Lib.hid (six (w := w4.setCell ⟨w.heap.size, 0, none⟩ (.slice V2 n c2)) (r := w.heap.size + 1 + 1) (by rw [Below.heap_setCell _ _ _ _ (by simp <;> omega)]; exact RB) (.slice V2 n c2) (.bool false) (.int .i64 0) (.int .i64 (r : Nat)) (.int .i64 (w' : Nat)) (.int .i64 (s : Nat)))
    have D4 := Lib.hid (D3.out.trans (d4.mono D3.out.size))
    have SZ := Lib.hid (show w.heap.size + 1 + 1 < _ from sz.out)
    replace O := Lib.hid O
    clear CL B3 D3 d4 SB RB sz
    go_wp2
    obtain ⟨g0_, g1_, g2_, g3_, g4_, g5_⟩ := SX.out
    refine bodyPost_ret (v := .tuple #[.agg #[.slice V2 n c2, .bool false, .int .i64 0, .int .i64 (r : Nat), .int .i64 (w' : Nat), .int .i64 (s : Nat)], .int .i64 0, .string ⟨#[]⟩]) (by simp [results, Try.results13, go_sem, g0_, g1_, g2_, g3_, g4_, g5_]) rfl ⟨V2, c2, by simp [sv], ?_, ?_⟩
    · refine Sx.less ?_ (Nat.le_of_lt (Nat.lt_of_le_of_lt (Nat.le_add_right _ 2) SZ.out))
      repeat (refine ownsRow_setCell_below ?_ (Nat.lt_of_le_of_lt (by simp <;> omega) SZ.out) _)
      exact O.out
    · repeat (first | with_reducible exact D4.out | with_reducible refine Below.setCell ?_ (by simp <;> omega) _)
  · have f1 : (0 : Int) < (fu : Int) := by omega
    obtain ⟨fv, hv⟩ : ∃ fv, fv = fu - 1 := ⟨_, rfl⟩
    have f2 : IntKind.i64.wrap ((fu : Int) - 1) = (fv : Int) := by rw [IntKind.wrap_i64]; omega
    have f3 : ¬ (fv : Int) = 0 := by omega
    have HV := Lib.hid hv
    rw [← hv]
    clear hv h0 hf hu
    have D3 := Lib.hid (show Below w.heap.size w (((w.alloc (.cells #[.slice V n c, .bool false, .int .i64 (fv : Nat), .int .i64 (r : Nat), .int .i64 (w' : Nat), .int .i64 (s : Nat)] 44)).alloc (.cells #[.int .i64 8, .int .i64 (i : Nat), .slice A bl cA, .slice A2 K cK] 49)).alloc (.cells #[.slice none 0 0, .bool false, .int .i64 0, .int .i64 0, .int .i64 0, .int .i64 0] 44)) from (((Below.refl w.heap.size w).alloc (Nat.le_refl _) _).alloc (by simp) _).alloc (by simp; omega) _)
    have B3 := Lib.hid (blk3 w (.cells #[.slice V n c, .bool false, .int .i64 (fv : Nat), .int .i64 (r : Nat), .int .i64 (w' : Nat), .int .i64 (s : Nat)] 44) (.cells #[.int .i64 8, .int .i64 (i : Nat), .slice A bl cA, .slice A2 K cK] 49) (.cells #[.slice none 0 0, .bool false, .int .i64 0, .int .i64 0, .int .i64 0, .int .i64 0] 44))
    have CL := Lib.hid (rwrite B V c n i f ⟨tx⟩ (((w.alloc (.cells #[.slice V n c, .bool false, .int .i64 (fv : Nat), .int .i64 (r : Nat), .int .i64 (w' : Nat), .int .i64 (s : Nat)] 44)).alloc (.cells #[.int .i64 8, .int .i64 (i : Nat), .slice A bl cA, .slice A2 K cK] 49)).alloc (.cells #[.slice none 0 0, .bool false, .int .i64 0, .int .i64 0, .int .i64 0, .int .i64 0] 44)) (R.below ((((Below.refl w.heap.size w).alloc (Nat.le_refl _) _).alloc (by simp) _).alloc (by simp; omega) _)) hin (by omega))
    have sz := Lib.hid (show w.heap.size + 1 + 1 < (((w.alloc (.cells #[.slice V n c, .bool false, .int .i64 (fv : Nat), .int .i64 (r : Nat), .int .i64 (w' : Nat), .int .i64 (s : Nat)] 44)).alloc (.cells #[.int .i64 8, .int .i64 (i : Nat), .slice A bl cA, .slice A2 K cK] 49)).alloc (.cells #[.slice none 0 0, .bool false, .int .i64 0, .int .i64 0, .int .i64 0, .int .i64 0] 44)).heap.size by simp)
    clear R
    go_enter Try.func13, Try.ntmps13
    go_wp2_with fail
    refine CL.out.mono ?_
    rintro e w4 ⟨v, rfl, O, d4⟩
    obtain ⟨V2, c2, rfl⟩ := O.slice
    have SB := (d4.block w.heap.size (by have := sz.out; omega)).trans B3.out.1
    have RB := (d4.block (w.heap.size + 1 + 1) sz.out).trans B3.out.2.2
    have s0_ : w4.cell? ⟨w.heap.size, 0, none⟩ = some (.slice V n c) := (cell_of SB 0).1
    have s1_ : w4.cell? ⟨w.heap.size, 1, none⟩ = some (.bool false) := (cell_of SB 1).1
    have s2_ : w4.cell? ⟨w.heap.size, 2, none⟩ = some (.int .i64 (fv : Nat)) := (cell_of SB 2).1
    have s3_ : w4.cell? ⟨w.heap.size, 3, none⟩ = some (.int .i64 (r : Nat)) := (cell_of SB 3).1
    have s4_ : w4.cell? ⟨w.heap.size, 4, none⟩ = some (.int .i64 (w' : Nat)) := (cell_of SB 4).1
    have s5_ : w4.cell? ⟨w.heap.size, 5, none⟩ = some (.int .i64 (s : Nat)) := (cell_of SB 5).1
    have y0_ := (cell_of SB 0).2
    have y1_ := (cell_of SB 1).2
    have r0_ : w4.cell? ⟨w.heap.size + 1 + 1, 0, none⟩ = some (.slice none 0 0) := (cell_of RB 0).1
    have x0_ := (cell_of RB 0).2
    have r1_ : w4.cell? ⟨w.heap.size + 1 + 1, 1, none⟩ = some (.bool false) := (cell_of RB 1).1
    have x1_ := (cell_of RB 1).2
    have r2_ : w4.cell? ⟨w.heap.size + 1 + 1, 2, none⟩ = some (.int .i64 0) := (cell_of RB 2).1
    have x2_ := (cell_of RB 2).2
    have r3_ : w4.cell? ⟨w.heap.size + 1 + 1, 3, none⟩ = some (.int .i64 0) := (cell_of RB 3).1
    have x3_ := (cell_of RB 3).2
    have r4_ : w4.cell? ⟨w.heap.size + 1 + 1, 4, none⟩ = some (.int .i64 0) := (cell_of RB 4).1
    have x4_ := (cell_of RB 4).2
    have r5_ : w4.cell? ⟨w.heap.size + 1 + 1, 5, none⟩ = some (.int .i64 0) := (cell_of RB 5).1
    have x5_ := (cell_of RB 5).2
    have SX := Lib.hid (six (w := w4.setCell ⟨w.heap.size, 0, none⟩ (.slice V2 n c2)) (r := w.heap.size + 1 + 1) (by rw [Below.heap_setCell _ _ _ _ (by simp <;> omega)]; exact RB) (.slice V2 n c2) (.bool false) (.int .i64 (fv : Nat)) (.int .i64 (r : Nat)) (.int .i64 (w' : Nat)) (.int .i64 (s : Nat)))
    have D4 := Lib.hid (D3.out.trans (d4.mono D3.out.size))
    have SZ := Lib.hid (show w.heap.size + 1 + 1 < _ from sz.out)
    replace O := Lib.hid O
    clear CL B3 D3 d4 SB RB sz
    go_wp2
    obtain ⟨g0_, g1_, g2_, g3_, g4_, g5_⟩ := SX.out
    refine bodyPost_ret (v := .tuple #[.agg #[.slice V2 n c2, .bool false, .int .i64 (fv : Nat), .int .i64 (r : Nat), .int .i64 (w' : Nat), .int .i64 (s : Nat)], .int .i64 0, .string ⟨#[]⟩]) (by simp [results, Try.results13, go_sem, g0_, g1_, g2_, g3_, g4_, g5_]) rfl ⟨V2, c2, by simp [sv], ?_, ?_⟩
    · refine Sx.less ?_ (Nat.le_of_lt (Nat.lt_of_le_of_lt (Nat.le_add_right _ 2) SZ.out))
      repeat (refine ownsRow_setCell_below ?_ (Nat.lt_of_le_of_lt (by simp <;> omega) SZ.out) _)
      exact O.out
    · repeat (first | with_reducible exact D4.out | with_reducible refine Below.setCell ?_ (by simp <;> omega) _)
end Dk
end Go.Proofs.Ytfjlhbamldgklaa
