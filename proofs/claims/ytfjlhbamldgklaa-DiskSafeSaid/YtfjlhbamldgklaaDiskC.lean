/- Layer 15: contracts of admit, fault, isSize, New, Clone, get, put, save. -/
import Derived.Test.YtfjlhbamldgklaaDiskB
import Derived.Test.YtfjlhbamldgklaaBitsI
set_option linter.unusedVariables false
namespace Go.Proofs.Ytfjlhbamldgklaa
open Go.RowKit Go.Lib Go.ChangeMaps
namespace Dk
open Ww

/-- What an operation is told which has the other error e. -/
def adm (d : Dm) (e : Nat) : Nat := if d.down = true then 8 else if e ≠ 0 then e else if d.fuse = 1 then 8 else 0
/-- The disk then. -/
def admd (d : Dm) (e : Nat) : Dm := if d.down = true then d else if e ≠ 0 then d else if d.fuse = 1 then { d with down := true, fuse := 0 } else { d with fuse := d.fuse - 1 }
theorem admd_f (d : Dm) (e : Nat) : (admd d e).f = d.f := by
  unfold admd
  split
  · rfl
  · split
    · rfl
    · split <;> rfl
def flt (z n : Nat) (i l : Int) : Nat := if i < 0 ∨ (n : Int) ≤ i then 2 else if l ≠ z then 19 else 0
section
variable {w : World} {L : Ly} {z n k : Nat} {d : Dm}
set_option maxHeartbeats 1000000 in
theorem admit (h : Db w L z n d k) (e : Nat) : Calls Try.prog 33 #[.pointer (some ⟨L.p, 7, none⟩), .int .i64 (e : Nat)] w (DO L z n (admd d e) k (.int .i64 (adm d e : Nat)) w) := by
  cases hd : d.down with
  | true =>
    have e1 : admd d e = d := if_pos hd
    have e2 : adm d e = 8 := if_pos hd
    rw [e1, e2]
    have F := Lib.hid (show DO L z n d k (.int .i64 8) w (.returned (.int .i64 8)) w from ⟨rfl, h, Fr.refl _ _⟩)
    obtain ⟨φ, sf, c, h⟩ := h
    obtain ⟨_, _, _, _, _, _, _, c7, c8⟩ := h.cells
    rw [hd] at c7
    clear h hd e1 e2
    obtain ⟨p, s, t, m⟩ := L
    go_enter Try.func33, Try.ntmps33
    go_wp2
    exact bodyPost_ret (v := .int .i64 8) (by simp [results, Try.results33, go_sem]) rfl F.out
  | false =>
    have hd' : ¬ d.down = true := by rw [hd]; simp
    by_cases he : e = 0
    · subst he
      by_cases h1 : d.fuse = 1
      · have e1 : admd d 0 = { d with down := true, fuse := 0 } := by unfold admd; rw [if_neg hd', if_neg (by simp), if_pos h1]
        have e2 : adm d 0 = 8 := by unfold adm; rw [if_neg hd', if_neg (by simp), if_pos h1]
        rw [e1, e2]
        have C := crash h
        obtain ⟨φ, sf, c, h⟩ := h
        have eφ : φ = 1 := by have := h.hφ; omega
        subst eφ
        obtain ⟨_, _, _, _, _, _, _, c7, c8⟩ := h.cells
        rw [hd] at c7
        replace C := Lib.hid C
        clear h hd hd' h1 e1 e2
        obtain ⟨p, s, t, m⟩ := L
        go_enter Try.func33, Try.ntmps33
        go_wp2_with (go_at_call 23; refine C.out.mono ?_; rintro e w1 ⟨rfl, D, F⟩)
        exact bodyPost_ret (v := .int .i64 8) (by simp [results, Try.results33, go_sem]) rfl ⟨rfl, D, F⟩
      · have e1 : admd d 0 = { d with fuse := d.fuse - 1 } := by unfold admd; rw [if_neg hd', if_neg (by simp), if_neg h1]
        have e2 : adm d 0 = 0 := by unfold adm; rw [if_neg hd', if_neg (by simp), if_neg h1]
        rw [e1, e2]
        obtain ⟨φ, sf, c, h⟩ := h
        obtain ⟨_, _, _, _, _, _, _, c7, c8⟩ := h.cells
        rw [hd] at c7
        have z8 := h.frz 8
        have hφ := h.hφ
        have bφ := h.bφ
        have φ1 : ¬ φ = 1 := by omega
        by_cases h2 : 1 < φ
        · have F := Lib.hid (show DO L z n { d with fuse := d.fuse - 1 } k (.int .i64 0) w (.returned (.int .i64 0)) (w.setCell ⟨L.p, 8, none⟩ (.int .i64 (φ - 1))) from
            ⟨rfl, ⟨φ - 1, sf, c, h.put (d' := { d with fuse := d.fuse - 1 }) 8 (.int .i64 (φ - 1)) (blk_put h.hp 8 _) rfl (by show ((d.fuse - 1 : Nat) : Int) = _; omega) (by omega)⟩, (Fr.refl _ _).put _ _ (Or.inl (Or.inl rfl))⟩)
          have f2 : IntKind.i64.wrap (φ - 1) = φ - 1 := by rw [IntKind.wrap_i64]; omega
          clear h hd hd' h1 e1 e2 hφ bφ
          obtain ⟨p, s, t, m⟩ := L
          go_enter Try.func33, Try.ntmps33
          go_wp2
          exact bodyPost_ret (v := .int .i64 0) (by simp [results, Try.results33, go_sem]) rfl F.out
        · have F := Lib.hid (show DO L z n { d with fuse := d.fuse - 1 } k (.int .i64 0) w (.returned (.int .i64 0)) w from
            ⟨rfl, ⟨φ, sf, c, ⟨h.hp, h.hs, h.ht, h.hm, h.hv, h.hn, h.hc, by show ((d.fuse - 1 : Nat) : Int) = _; omega, h.bφ, h.ln, h.lz⟩⟩, Fr.refl _ _⟩)
          clear h hd hd' h1 e1 e2 hφ bφ
          obtain ⟨p, s, t, m⟩ := L
          go_enter Try.func33, Try.ntmps33
          go_wp2
          exact bodyPost_ret (v := .int .i64 0) (by simp [results, Try.results33, go_sem]) rfl F.out
    · have e1 : admd d e = d := by unfold admd; rw [if_neg hd', if_pos he]
      have e2 : adm d e = e := by unfold adm; rw [if_neg hd', if_pos he]
      rw [e1, e2]
      have F := Lib.hid (show DO L z n d k (.int .i64 (e : Nat)) w (.returned (.int .i64 (e : Nat))) w from ⟨rfl, h, Fr.refl _ _⟩)
      obtain ⟨φ, sf, c, h⟩ := h
      obtain ⟨_, _, _, _, _, _, _, c7, c8⟩ := h.cells
      rw [hd] at c7
      have he2 : ¬ (e : Int) = 0 := by omega
      clear h hd e1 e2 he hd'
      obtain ⟨p, s, t, m⟩ := L
      go_enter Try.func33, Try.ntmps33
      go_wp2
      exact bodyPost_ret (v := .int .i64 (e : Nat)) (by simp [results, Try.results33, go_sem]) rfl F.out
theorem fault (h : Db w L z n d k) (i l : Int) : Calls Try.prog 34 #[.pointer (some ⟨L.p, 0, none⟩), .int .i64 i, .int .i64 l] w fun e w' => e = .returned (.int .i64 (flt z n i l : Nat)) ∧ w = w' := by
  obtain ⟨φ, sf, c, h⟩ := h
  obtain ⟨c0, c1, _⟩ := h.cells
  clear h
  obtain ⟨p, s, t, m⟩ := L
  by_cases h1 : i < 0
  · have e : flt z n i l = 2 := if_pos (Or.inl h1)
    rw [e]
    clear e
    go_enter Try.func34, Try.ntmps34
    go_wp2
    go_ret
    exact ⟨by simp [go_sem], rfl⟩
  by_cases h2 : (n : Int) ≤ i
  · have e : flt z n i l = 2 := if_pos (Or.inr h2)
    rw [e]
    clear e
    go_enter Try.func34, Try.ntmps34
    go_wp2
    go_ret
    exact ⟨by simp [go_sem], rfl⟩
  by_cases h3 : l = z
  · have e : flt z n i l = 0 := by unfold flt; rw [if_neg (by omega), if_neg (by simp [h3])]
    rw [e]
    subst h3
    clear e
    go_enter Try.func34, Try.ntmps34
    go_wp2
    go_ret
    exact ⟨by simp [go_sem], rfl⟩
  · have e : flt z n i l = 19 := by unfold flt; rw [if_neg (by omega), if_pos h3]
    rw [e]
    clear e
    go_enter Try.func34, Try.ntmps34
    go_wp2
    go_ret
    exact ⟨by simp [go_sem], rfl⟩
end
end Dk
end Go.Proofs.Ytfjlhbamldgklaa
