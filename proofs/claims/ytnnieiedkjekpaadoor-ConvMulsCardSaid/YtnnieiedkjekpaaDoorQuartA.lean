/- Contracts of package kern4: joinHalves, join. -/
import Derived.Test.YtnnieiedkjekpaaDoorKernG
import Derived.Test.YtnnieiedkjekpaaDoorCross
set_option linter.unusedVariables false
namespace Go.Proofs.YtnnieiedkjekpaaDoor
open Go.RowKit Go.Lib Go.Sort
namespace Kq
open Nm Ww Tn Pl Kn

/-- s[j:] of words, of any capacity. -/
theorem slice_off (W : World) (b off len cap j n : Nat) (hj : j < len) (hn : j + n = len) (hc : len ≤ cap) : (Instr.slice 22 (.slice (some ⟨b, off, none⟩) len cap) (some (.int .i64 (j : Int))) none none).run Tryd.prog W = .ok (.slice (some ⟨b, off + j, none⟩) n (cap - j)) W := by
  have ht := Tryd.underlying22
  have ht' : Tryd.prog.underlying 22 = some (.slice (Tryd.prog.elem 22)) := by simp [Program.elem, ht]
  have he : Tryd.prog.elem 22 = 32 := by simp [Program.elem, ht]
  rw [run_slice_l W 22 _ _ _ ht' .i64 _ (by omega) (by omega), he, sizeU]
  have h0 : ¬ cap = j := by omega
  have h2 : len - j = n := by omega
  simp [Result.andThen, sliced, h0, h2, add_none]

/-- A row of pairs of which the first i words are made. -/
structure PR (b n : Nat) (F t : Nat → Nat) (w wr : World) (i : Nat) : Prop where
  j : JR b n (sb F t 1 i) w wr
  c : ∃ c, i = c * (2 * 1)
  l : i ≤ n
set_option maxHeartbeats 2000000 in
set_option maxRecDepth 100000 in
theorem joinHalves (b n ca m : Nat) (hn : n = m * (2 * 1)) (hl : n ≤ 1048576) (F t : Nat → Nat) (ht : t 0 = 1) (hF : ∀ j, F j < 18446744073709551616) (w : World) (J : JR b n F w w) :
    Calls Tryd.prog 75 #[.slice (some ⟨b, 0, none⟩) n ca] w fun e w' => e = .returned (.tuple #[]) ∧ JR b n (st F t 1) w w' := by
  have BF := Lib.hid (fun i W => butterfly (F i) (F (i + 1)) 1 (hF _) (hF _) (by decide) W)
  have SA := Lib.hid (fun i => show sb F t 1 i i = F i ∧ sb F t 1 i (i + 1) = F (i + 1) by unfold sb; rw [if_neg (by omega), if_neg (by omega)]; exact ⟨rfl, rfl⟩)
  have SU := Lib.hid (fun (c i i2 : Nat) (hi : i = c * (2 * 1)) (hi2 : i2 = (c + 1) * (2 * 1)) => show ∀ j, upd (upd (sb F t 1 i) i (bs (F i) (F (i + 1)) 1)) (i + 1) (bd (F i) (F (i + 1)) 1) j = sb F t 1 i2 j from fun j => by
    have h1 := jo_step (sb F t 1 i) t i 1 0 (by decide)
    rw [jo_zero, Nat.add_zero, Nat.add_zero, ht] at h1
    rw [show sb F t 1 i i = F i by unfold sb; rw [if_neg (by omega)], show sb F t 1 i (i + 1) = F (i + 1) by unfold sb; rw [if_neg (by omega)]] at h1
    rw [h1, hi2, ← sb_step F t 1 c j, ← hi])
  have MU := Lib.hid (fun (c : Nat) (h : c * (2 * 1) < n) => show (c + 1) * (2 * 1) ≤ n by omega)
  have ST := Lib.hid (show PR b n F t w w 0 from ⟨by rw [sb_zero]; exact J, ⟨0, rfl⟩, Nat.zero_le _⟩)
  have EN := Lib.hid (fun W (h : PR b n F t w W n) => show JR b n (st F t 1) w W from h.j.congr fun j hj => by rw [sb_all _ _ _ _ _ hj])
  clear ht hF J hn
  go_enter Tryd.func75, Tryd.ntmps75
  go_wp2_with fail
  go_loopw [2] (fun v2 wr => ∃ i : Nat, v2 = .int .i64 (i : Int) ∧ PR b n F t w wr i) (fun v2 _ => n - (Lib.intOf v2).toNat)
  case atStart => exact ⟨0, rfl, ST.out⟩
  case round =>
    obtain ⟨i, rfl, I⟩ := hrel
    clear ST
    have hi := I.l
    by_cases hlt : i < n
    · have i1 : (i : Int) < n := by omega
      obtain ⟨c, hc⟩ := I.c
      have mu := MU.out c (by omega)
      obtain ⟨i2, ei2⟩ : ∃ i2, i2 = (c + 1) * (2 * 1) := ⟨_, rfl⟩
      have q1 : IntKind.i64.wrap ((i : Int) + 1) = ((i + 1 : Nat) : Int) := by rw [IntKind.wrap_i64]; omega
      have q2 : IntKind.i64.wrap ((i : Int) + 2) = (i2 : Int) := by rw [IntKind.wrap_i64]; omega
      obtain ⟨p, ep⟩ : ∃ p, p = i + 1 := ⟨_, rfl⟩
      have B := Lib.hid (BF.out i)
      have ja := SA.out i
      have js := SU.out c i i2 hc ei2
      rw [← ep] at q1 B ja js
      have hp : p < n := by omega
      have hn2 : i2 ≤ n := by omega
      have hi2 : i < i2 := by omega
      have hne : ¬ i = p := by omega
      have hne2 : ¬ p = i := by omega
      have J := I.j
      have J1 := Lib.hid J
      have A1 := (J.drew.at_ i hlt)
      have A2 := (J.drew.at_ p hp)
      rw [ja.1] at A1
      rw [ja.2] at A2
      obtain ⟨a1, a2⟩ := A1
      obtain ⟨a3, a4⟩ := A2
      obtain ⟨S, hS⟩ : ∃ S, S = bs (F i) (F p) 1 := ⟨_, rfl⟩
      obtain ⟨D, hD⟩ : ∃ D, D = bd (F i) (F p) 1 := ⟨_, rfl⟩
      rw [← hS, ← hD] at B js
      have JA1 := Lib.hid (fun w3 (h3 : JR b n (sb F t 1 i) w w3) => show (w3.cell? ⟨b, i, none⟩ = some (.int .u64 (F i : Nat)) ∧ w3.frozen? ⟨b, i, none⟩ = false) ∧ (w3.cell? ⟨b, p, none⟩ = some (.int .u64 (F p : Nat)) ∧ w3.frozen? ⟨b, p, none⟩ = false) from
        ⟨by have := h3.at_ i hlt; rw [ja.1] at this; exact this, by have := h3.at_ p hp; rw [ja.2] at this; exact this⟩)
      have PT := Lib.hid (fun w3 (h3 : JR b n (sb F t 1 i) w w3) => show PR b n F t w ((w3.setCell ⟨b, i, none⟩ (.int .u64 (S : Nat))).setCell ⟨b, p, none⟩ (.int .u64 (D : Nat))) i2 from
        ⟨((h3.put i S hlt).put p D hp).congr fun j _ => js j, ⟨c + 1, ei2⟩, hn2⟩)
      clear hS hD ep ei2 hc mu ja js BF SA SU MU J I EN
      generalize F i = x at *
      generalize F p = y at *
      go_upto_region 3 with fail
      go_region_with (go_at_call 82; refine (B.out _).mono ?_; rintro e w3 ⟨rfl, hb3⟩; have K3 := J1.out.drew.call hb3; obtain ⟨⟨g0, g1⟩, g2, g3⟩ := JA1.out _ K3)
      all_goals (go_wp2_with fail)
      all_goals go_roundw
      all_goals first
        | exact ⟨i2, rfl, PT.out _ K3⟩
        | (simp [Lib.intOf]; omega)
    · have i1 : ¬ (i : Int) < n := by omega
      obtain rfl : i = n := by omega
      have OK := Lib.hid (EN.out _ I)
      clear I EN
      go_wp2
      exact bodyPost_end (v := .tuple #[]) (by simp [results, Tryd.results75, go_sem]) rfl ⟨rfl, OK.out⟩
end Kq
end Go.Proofs.YtnnieiedkjekpaaDoor
