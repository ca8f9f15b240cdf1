/- Contracts of the closure that turns a place about, of package rev's parts, turner, Digits and Bits, and of the document's own Digits. -/
import Derived.Test.YtnnieiedkjekpaaDoorChecked
import Derived.Test.YtnnieiedkjekpaaDoorRevN
import Derived.Test.YtnnieiedkjekpaaDoorBitsI
import Derived.WalkKit
import Derived.ProofKit
import Derived.Below
import Derived.Deep.Draws
import Derived.Deep.QuietTactic
import Derived.BigQuiet
import Derived.Lib.Hide
import Derived.Lib.Walk
set_option linter.unusedVariables false
namespace Go.Proofs.YtnnieiedkjekpaaDoor
open Go.RowKit Go.Lib
namespace Rv
open Rn
theorem below_drewN {B : Nat} {a w : World} (h : Below B a w) (n : Nat) : Below B a (w.drewN n) := ⟨h.os, h.tape, h.output, h.size, h.block⟩

theorem hmf (fn : Fn) (first cap : Array Value) (w : World) : (Instr.makeFunc fn first cap).run Tryd.prog w = .ok (.func fn first cap) w := rfl
/-- What the closure has captured: k, r and the mask of the lowest digit, in three blocks from b on. -/
structure Cp (w : World) (b k r : Nat) : Prop where
  ck : w.cell? ⟨b, 0, none⟩ = some (.int .i64 (k : Nat))
  cr : w.cell? ⟨b + 1, 0, none⟩ = some (.int .i64 (r : Nat))
  cm : w.cell? ⟨b + 2, 0, none⟩ = some (.int .i64 ((2 ^ r - 1 : Nat) : Int))
theorem Cp.keep {w w' : World} {b k r B : Nat} (h : Cp w b k r) (hB : b + 2 < B) (hk : ∀ p : Addr, p.block < B → w'.cell? p = w.cell? p) : Cp w' b k r :=
  ⟨(hk _ (by show b < B; omega)).trans h.ck, (hk _ (by show b + 1 < B; omega)).trans h.cr, (hk _ (by show b + 2 < B; omega)).trans h.cm⟩
theorem Cp.lt {w : World} {b k r : Nat} (h : Cp w b k r) : b + 2 < w.heap.size := World.block_lt_of_cell? w _ h.cm
theorem Cp.below {w w' : World} {b k r : Nat} (h : Cp w b k r) (hb : Below w.heap.size w w') : Cp w' b k r := h.keep h.lt fun _ hp => hb.cell hp
theorem Cp.drewN {w : World} {b k r : Nat} (h : Cp w b k r) (n : Nat) : Cp (w.drewN n) b k r := ⟨h.ck, h.cr, h.cm⟩
theorem Cp.setCell {w : World} {b k r : Nat} (h : Cp w b k r) {p : Addr} (hp : p.block < b ∨ b + 2 < p.block) (v : Value) : Cp (w.setCell p v) b k r :=
  ⟨(World.cell?_setCell_other w p _ v (fun e => by subst e; simp at hp <;> omega)).trans h.ck, (World.cell?_setCell_other w p _ v (fun e => by subst e; simp at hp <;> omega)).trans h.cr, (World.cell?_setCell_other w p _ v (fun e => by subst e; simp at hp <;> omega)).trans h.cm⟩
/-- The closure. -/
def fn (b : Nat) : Value := .func (.func 90) #[] #[.pointer (some ⟨b, 0, none⟩), .pointer (some ⟨b + 1, 0, none⟩), .pointer (some ⟨b + 2, 0, none⟩)]

theorem cp_made (w : World) (k r p : Nat) (h : p = 2 ^ r) (h0 : 0 < p) (t : TypeId) :
    Cp (((w.alloc (.cells #[.int .i64 (k : Nat)] t)).alloc (.cells #[.int .i64 (r : Nat)] t)).alloc (.cells #[.int .i64 ((p : Int) - 1)] t)) w.heap.size k r := by
  have e : (p : Int) - 1 = ((2 ^ r - 1 : Nat) : Int) := by rw [← h]; omega
  rw [e]
  exact ⟨by simp [go_sem], by simp [go_sem], by simp [go_sem]⟩
set_option maxHeartbeats 400000 in
theorem turner (k r : Nat) (hr : r ≤ 8) (w : World) :
    Calls Tryd.prog 87 #[.int .i64 (k : Nat), .int .i64 (r : Nat)] w fun e w' => e = .returned (fn w.heap.size) ∧ Cp w' w.heap.size k r ∧ Below w.heap.size w w' ∧ w'.heap.size = w.heap.size + 3 := by
  have h2 := hmf
  have p1 := Bt.pow_i64 r (by omega)
  have hp : 2 ^ r ≤ 2 ^ 8 := Nat.pow_le_pow_right (by decide) hr
  have hp0 : 0 < 2 ^ r := Nat.two_pow_pos r
  obtain ⟨p, hpp⟩ : ∃ p, p = 2 ^ r := ⟨_, rfl⟩
  rw [← hpp] at p1 hp hp0
  have r0 : ¬ (r : Int) < 0 := by omega
  have HP := Lib.hid hpp
  clear hpp
  go_enter Tryd.func87, Tryd.ntmps87
  go_wp2
  go_ret
  exact ⟨rfl, cp_made w k r p HP.out hp0 _, (((Below.refl _ _).alloc (Nat.le_refl _) _).alloc (by simp) _).alloc (by simp; omega) _, by simp⟩

/-- What the loop's round makes of what is turned and what is left. -/
theorem round_facts (k r i j : Nat) (h0 : 0 < r) (hr : r ≤ 8) (hk : k ≤ 32) (hi : i < 2 ^ k) (hj : j < k / r) :
    rv (2 ^ r) j i * 2 ^ r < 2 ^ 32 ∧ i / (2 ^ r) ^ j < 2 ^ 32 ∧ 0 < 2 ^ r ∧ 2 ^ r ≤ 2 ^ 8 := by
  have hl := rv_lt (2 ^ r) (Nat.two_pow_pos r) j i
  have hp0 : 0 < 2 ^ r := Nat.two_pow_pos r
  have h1 : r * (j + 1) ≤ k := Nat.le_trans (Nat.mul_le_mul_left r hj) (Nat.mul_div_le k r)
  have h2 : (2 ^ r) ^ (j + 1) ≤ 2 ^ 32 := by rw [← Nat.pow_mul]; exact Nat.pow_le_pow_right (by decide) (by omega)
  refine ⟨?_, ?_, hp0, Nat.pow_le_pow_right (by decide) hr⟩
  · exact Nat.lt_of_lt_of_le (by rw [Nat.pow_succ]; exact Nat.mul_lt_mul_of_pos_right hl hp0) h2
  · exact Nat.lt_of_le_of_lt (Nat.div_le_self _ _) (Nat.lt_of_lt_of_le hi (Nat.pow_le_pow_right (by decide) hk))
theorem wrap_in (a : Nat) (h : a < 4294967296) : wrap64 (a : Int) = (a : Int) := by unfold wrap64; omega
/-- The round's operations, each under a name. -/
theorem round_ops (p r x y a c z x2 : Nat) (hp : p = 2 ^ r) (f3 : 0 < p) (f4 : p ≤ 256) (f1 : a < 4294967296) (f2 : x < 4294967296) (ha : a = y * p) (hc : c = x &&& (p - 1)) (hz : z = a ||| c) (h2 : x2 = x / p) :
    wrap64 ((y : Int) * 2 ^ r) = (a : Int) ∧ bits .and .i64 (x : Int) ((p - 1 : Nat) : Int) = (c : Int) ∧ bits .or .i64 (a : Int) (c : Int) = (z : Int) ∧ (x : Int) / 2 ^ r = (x2 : Int) := by
  have e2 : (2 : Int) ^ r = (p : Int) := by rw [hp]; simp
  have q5 : x &&& (p - 1) ≤ x := Nat.and_le_left
  refine ⟨?_, ?_, ?_, ?_⟩
  · rw [e2, ← Int.natCast_mul, ← ha]
    exact wrap_in a f1
  · rw [Bt.and_i64 x (p - 1) (by omega) (by omega), hc]
  · rw [Bt.or_i64 a c (by omega) (by omega), hz]
  · rw [e2, h2]; rfl
set_option maxHeartbeats 1000000 in
theorem turned (b k r i : Nat) (h0 : 0 < r) (hr : r ≤ 8) (hk : k ≤ 32) (hkr : k % r = 0) (hi : i < 2 ^ k) (w : World) (C : Cp w b k r) :
    Calls Tryd.prog 90 #[.int .i64 (i : Nat), .pointer (some ⟨b, 0, none⟩), .pointer (some ⟨b + 1, 0, none⟩), .pointer (some ⟨b + 2, 0, none⟩)] w
      fun e w' => e = .returned (.int .i64 (tn k r i : Nat)) ∧ ∃ m, w' = w.drewN m := by
  obtain ⟨n, hn⟩ : ∃ n, n = k / r := ⟨_, rfl⟩
  have hq : (k : Int).tdiv (r : Int) = (n : Int) := by rw [hn]; rfl
  have n1 : n ≤ 32 := by rw [hn]; exact Nat.le_trans (Nat.div_le_self _ _) hk
  have r1 : ((r : Int) == 0) = false := by rw [beq_eq_false_iff_ne]; omega
  have r2 : ¬ (r : Int) < 0 := by omega
  have F := Lib.hid (fun j (hj : j < n) => round_facts k r i j h0 hr hk hi (by rw [← hn]; exact hj))
  have hT : tn k r i = rv (2 ^ r) n i := by rw [hn]; rfl
  have HT := Lib.hid hT
  generalize tn k r i = t at *
  obtain ⟨c1, c2, c3⟩ := C
  clear hn hT hkr hi
  go_enter Tryd.func90, Tryd.ntmps90
  go_wp2_with fail
  go_loopw [0, 6, 10] (fun v0 v6 v10 wr => ∃ j x y m : Nat, v10 = .int .i64 (j : Int) ∧ v6 = .int .i64 (y : Int) ∧ v0 = .int .i64 (x : Int) ∧ j ≤ n ∧ y = rv (2 ^ r) j i ∧ x = i / (2 ^ r) ^ j ∧ wr = w.drewN m ∧ Cp wr b k r) (fun _ _ v10 _ => n - (Lib.intOf v10).toNat)
  case atStart => exact ⟨0, i, 0, 0, rfl, rfl, rfl, Nat.zero_le _, rfl, by simp, rfl, ⟨c1, c2, c3⟩⟩
  case round =>
    obtain ⟨j, x, y, m, rfl, rfl, rfl, hj, hy, hx, hm, C⟩ := hrel
    obtain ⟨d1, d2, d3⟩ := C
    have HM := Lib.hid hm
    clear c1 c2 c3 hm
    by_cases hlt : j < n
    · have j1 : (j : Int) < n := by omega
      obtain ⟨f1, f2, f3, f4⟩ := F.out j hlt
      have HY := Lib.hid hy
      have HX := Lib.hid hx
      rw [← hy] at f1
      rw [← hx] at f2
      obtain ⟨p, hp⟩ : ∃ p, p = 2 ^ r := ⟨_, rfl⟩
      have hor := step_or y r x
      rw [← hp] at f1 f3 f4 d3 hor
      obtain ⟨a, ha⟩ : ∃ a, a = y * p := ⟨_, rfl⟩
      rw [← ha] at f1 hor
      obtain ⟨c, hc⟩ : ∃ c, c = x &&& (p - 1) := ⟨_, rfl⟩
      rw [← hc] at hor
      obtain ⟨z, hz⟩ : ∃ z, z = a ||| c := ⟨_, rfl⟩
      rw [← hz] at hor
      obtain ⟨x2, hx2⟩ : ∃ x2, x2 = x / p := ⟨_, rfl⟩
      obtain ⟨q1, q2, q3, q4⟩ := round_ops p r x y a c z x2 hp f3 f4 f1 f2 ha hc hz hx2
      have HP := Lib.hid hp
      have HZ := Lib.hid (show z = rv (2 ^ r) (j + 1) i by rw [hor, rv_succ, ← HY.out, ← HX.out, ← HP.out])
      have HX2 := Lib.hid (show x2 = i / (2 ^ r) ^ (j + 1) by rw [hx2, HX.out, HP.out, Nat.div_div_eq_div_mul, ← Nat.pow_succ])
      clear hy hx hp F hor hz hx2 ha hc f1 f2 f4
      go_wp2_with fail
      go_quiet (fail)
      go_wp2_with fail
      go_roundw
      case rel => exact ⟨j + 1, x2, z, m + nq, rfl, rfl, rfl, by omega, HZ.out, HX2.out, by rw [HM.out, World.drewN_drewN], ⟨d1, d2, by rw [← HP.out]; exact d3⟩⟩
      case measure => simp [Lib.intOf]; omega
    · have j1 : ¬ (j : Int) < n := by omega
      obtain rfl : n = j := by omega
      have e : t = y := by rw [HT.out, hy]
      subst e
      clear hy hx F HT
      go_wp2
      go_ret
      exact ⟨rfl, m, HM.out⟩

theorem beq_nat (x : Nat) : ((x : Int) == 0) = decide (x = 0) := by rw [Bool.eq_iff_iff]; simp
set_option maxHeartbeats 400000 in
theorem parts_low (k r : Int) (h : r < 1) (w : World) : Calls Tryd.prog 85 #[.int .i64 k, .int .i64 r] w fun e w' => e = .returned (.bool false) ∧ w = w' := by
  have h1 : ¬ 1 ≤ r := by omega
  go_enter Tryd.func85, Tryd.ntmps85
  go_wp2
  go_ret
  exact ⟨by simp, rfl⟩
set_option maxHeartbeats 400000 in
theorem parts_high (k r : Int) (h : 8 < r) (w : World) : Calls Tryd.prog 85 #[.int .i64 k, .int .i64 r] w fun e w' => e = .returned (.bool false) ∧ w = w' := by
  have h1 : 1 ≤ r := by omega
  have h2 : ¬ r ≤ 8 := by omega
  go_enter Tryd.func85, Tryd.ntmps85
  go_wp2
  go_ret
  exact ⟨by simp, rfl⟩
set_option maxHeartbeats 400000 in
theorem parts_in (k r : Nat) (h0 : 0 < r) (h8 : r ≤ 8) (w : World) : Calls Tryd.prog 85 #[.int .i64 (k : Nat), .int .i64 (r : Nat)] w fun e w' => e = .returned (.bool (decide (k % r = 0))) ∧ w = w' := by
  have h1 : (1 : Int) ≤ r := by omega
  have h2 : (r : Int) ≤ 8 := by omega
  have r1 : ((r : Int) == 0) = false := by rw [beq_eq_false_iff_ne]; omega
  have hq : (k : Int).tmod (r : Int) = ((k % r : Nat) : Int) := rfl
  have hl := Nat.mod_lt k h0
  generalize k % r = x at *
  go_enter Tryd.func85, Tryd.ntmps85
  go_wp2
  go_ret
  exact ⟨by simp [beq_nat], rfl⟩

/-- A place that isn't one. -/
def Bad (i k : Int) : Prop := k < 0 ∨ 32 < k ∨ i < 0 ∨ ∃ (a : Nat), k = (a : Int) ∧ a ≤ 32 ∧ ((2 ^ a : Nat) : Int) ≤ i
theorem bad_or (i k : Int) : Bad i k ∨ ∃ a b : Nat, i = (a : Int) ∧ k = (b : Int) ∧ b ≤ 32 ∧ a < 2 ^ b := by
  by_cases h1 : k < 0
  · exact Or.inl (Or.inl h1)
  by_cases h2 : 32 < k
  · exact Or.inl (Or.inr (Or.inl h2))
  by_cases h3 : i < 0
  · exact Or.inl (Or.inr (Or.inr (Or.inl h3)))
  obtain ⟨b, rfl⟩ := Int.eq_ofNat_of_zero_le (show 0 ≤ k by omega)
  obtain ⟨a, rfl⟩ := Int.eq_ofNat_of_zero_le (show 0 ≤ i by omega)
  by_cases h4 : 2 ^ b ≤ a
  · exact Or.inl (Or.inr (Or.inr (Or.inr ⟨b, rfl, by omega, by omega⟩)))
  · exact Or.inr ⟨a, b, rfl, rfl, by omega, by omega⟩
/-- Digits that don't go with k bits. -/
def Odd (k : Nat) (r : Int) : Prop := r < 1 ∨ 8 < r ∨ ∃ a : Nat, r = (a : Int) ∧ 0 < a ∧ a ≤ 8 ∧ k % a ≠ 0
theorem odd_or (k : Nat) (r : Int) : Odd k r ∨ ∃ a : Nat, r = (a : Int) ∧ 0 < a ∧ a ≤ 8 ∧ k % a = 0 := by
  by_cases h1 : r < 1
  · exact Or.inl (Or.inl h1)
  by_cases h2 : 8 < r
  · exact Or.inl (Or.inr (Or.inl h2))
  obtain ⟨a, rfl⟩ := Int.eq_ofNat_of_zero_le (show 0 ≤ r by omega)
  by_cases h3 : k % a = 0
  · exact Or.inr ⟨a, rfl, by omega, by omega, h3⟩
  · exact Or.inl (Or.inr (Or.inr ⟨a, rfl, by omega, by omega, h3⟩))
theorem parts_odd (k : Nat) (r : Int) (h : Odd k r) (w : World) : Calls Tryd.prog 85 #[.int .i64 (k : Nat), .int .i64 r] w fun e w' => e = .returned (.bool false) ∧ w = w' := by
  rcases h with h | h | ⟨a, rfl, h0, h8, h⟩
  · exact parts_low k r h w
  · exact parts_high k r h w
  · have := parts_in k a h0 h8 w
    rwa [decide_eq_false h] at this
theorem parts_yes (k r : Nat) (h0 : 0 < r) (h8 : r ≤ 8) (h : k % r = 0) (w : World) : Calls Tryd.prog 85 #[.int .i64 (k : Nat), .int .i64 (r : Nat)] w fun e w' => e = .returned (.bool true) ∧ w = w' := by
  have := parts_in k r h0 h8 w
  rwa [decide_eq_true h] at this

theorem pow_le8 (j r : Nat) (h : j ≤ r) (hr : r ≤ 8) : 2 ^ j ≤ 256 := Nat.pow_le_pow_right (n := 2) (by decide) (show j ≤ 8 by omega)
/-- The round of the document's own digits. -/
theorem ref_ops (p x y z a x2 : Nat) (f0 : 0 < p) (f1 : a < 4294967296) (f2 : x < 4294967296) (f4 : p ≤ 256) (ha : a = p * y) (hz : z = a + x % p) (h2 : x2 = x / p) :
    wrap64 ((p : Int) * (y : Int)) = (a : Int) ∧ (x : Int).tmod (p : Int) = ((x % p : Nat) : Int) ∧ wrap64 ((a : Int) + ((x % p : Nat) : Int)) = (z : Int) ∧ (x : Int).tdiv (p : Int) = (x2 : Int) ∧ x % p < 256 ∧ x2 < 4294967296 := by
  have h3 := Nat.mod_lt x f0
  have h4 := Nat.div_le_self x p
  refine ⟨?_, rfl, ?_, by rw [h2]; rfl, by omega, by omega⟩
  · rw [← Int.natCast_mul, ← ha]; exact wrap_in a f1
  · generalize x % p = y at *
    unfold wrap64
    omega
end Rv
end Go.Proofs.YtnnieiedkjekpaaDoor
