/- Contracts of Powers, the program's and the document's own: of every word and number; nothing that was there is written. -/
import Derived.Test.YtnnieiedkjekpaaDoorRoot
import Derived.Test.YtnnieiedkjekpaaDoorRootR
import Derived.Test.YtnnieiedkjekpaaDoorOwn
set_option linter.unusedVariables false
namespace Go.Proofs.YtnnieiedkjekpaaDoor
open Go.RowKit Go.Lib
namespace Rt
open Nm Ww

set_option maxHeartbeats 400000 in
theorem powers_low (x : Nat) (n : Int) (h : n < 0) (w : World) :
    Calls Tryd.prog 41 #[.int .u64 x, .int .i64 n] w fun e w' => e = .returned (.tuple #[.slice none 0 0, .int .i64 1]) ∧ w = w' := by
  go_enter Tryd.func41, Tryd.ntmps41
  go_wp2
  go_ret2
  exact ⟨rfl, rfl⟩
set_option maxHeartbeats 400000 in
theorem powers_high (x : Nat) (n : Int) (h : 1048576 < n) (w : World) :
    Calls Tryd.prog 41 #[.int .u64 x, .int .i64 n] w fun e w' => e = .returned (.tuple #[.slice none 0 0, .int .i64 1]) ∧ w = w' := by
  have h1 : ¬ n < 0 := by omega
  go_enter Tryd.func41, Tryd.ntmps41
  go_wp2
  go_ret2
  exact ⟨rfl, rfl⟩

theorem pw_step (x i p : Nat) (h : p = x ^ i % 18446744069414584321) : p * x % 18446744069414584321 = x ^ (i + 1) % 18446744069414584321 := by rw [h, Nat.mod_mul_mod, ← Nat.pow_succ]
/-- The loop's relation: the first i powers are laid down. -/
structure PRel (x n : Nat) (w wr : World) (i p : Nat) : Prop where
  hi : i ≤ n
  p : p = x ^ i % 18446744069414584321
  k : ∃ f, Wk wr w.heap.size 0 n f ∧ ∀ j, j < i → f j = x ^ j % 18446744069414584321
  s : w.heap.size < wr.heap.size
  b : Below w.heap.size w wr
theorem PRel.start (x n : Nat) (w : World) (e : TypeId) : PRel x n w (w.alloc (.cells (madeCells #[.int .u64 0] n) e)) 0 1 :=
  ⟨Nat.zero_le _, rfl, ⟨_, Wk.made w n e, fun j hj => by omega⟩, by simp, (Below.refl _ _).alloc (Nat.le_refl _) _⟩
theorem put0 {w : World} {b n : Nat} {f : Nat → Nat} (h : Wk w b 0 n f) (k v : Nat) (hk : k < n) : Wk (w.setCell ⟨b, k, none⟩ (.int .u64 v)) b 0 n (upd f k v) := by
  have := h.put k v hk
  rwa [Nat.zero_add] at this
theorem PRel.step {x n : Nat} {w wr w1 : World} {i p : Nat} (h : PRel x n w wr i p) (hlt : i < n) (hb : Below (wr.setCell ⟨w.heap.size, i, none⟩ (.int .u64 p)).heap.size (wr.setCell ⟨w.heap.size, i, none⟩ (.int .u64 p)) w1) :
    PRel x n w w1 (i + 1) (p * x % 18446744069414584321) := by
  obtain ⟨f, K, hf⟩ := h.k
  have hs : w.heap.size < (wr.setCell ⟨w.heap.size, i, none⟩ (.int .u64 p)).heap.size := by simp [World.setCell]; exact h.s
  refine ⟨by omega, pw_step x i p h.p, ⟨_, (put0 K i p hlt).step hb, fun j hj => ?_⟩, Nat.lt_of_lt_of_le hs hb.size, (h.b.setCell (by simp) _).trans (hb.mono (Nat.le_of_lt hs))⟩
  by_cases e : j = i
  · subst e; rw [upd_same, h.p]
  · rw [upd_other _ _ _ e]; exact hf j (by omega)
/-- What Powers answers. -/
def PowOut (x n : Nat) (w : World) (e : Ending) (w' : World) : Prop :=
  e = .returned (.tuple #[.slice (some ⟨w.heap.size, 0, none⟩) n n, .int .i64 0]) ∧ Wk w' w.heap.size 0 n (fun i => x ^ i % 18446744069414584321) ∧ w.heap.size < w'.heap.size ∧ Below w.heap.size w w'
theorem powOut_mk {x n : Nat} {w wr : World} {p : Nat} (h : PRel x n w wr n p) : PowOut x n w (.returned (.tuple #[.slice (some ⟨w.heap.size, 0, none⟩) n n, .int .i64 0])) wr := by
  obtain ⟨f, K, hf⟩ := h.k
  exact ⟨rfl, ⟨fun i hi => by rw [K.c i hi, hf i hi], K.z⟩, h.s, h.b⟩

set_option maxHeartbeats 1000000 in
set_option maxRecDepth 100000 in
theorem powers (x n : Nat) (hx : x < 18446744073709551616) (hn : n ≤ 1048576) (w : World) :
    Calls Tryd.prog 41 #[.int .u64 x, .int .i64 (n : Int)] w (PowOut x n w) := by
  have mk := make_words n (by omega) (by omega)
  have n1 : (n : Int) ≤ 1048576 := by omega
  go_enter Tryd.func41, Tryd.ntmps41
  go_wp2_with fail
  go_loopw [7, 19] (fun v7 v19 wr => ∃ i p : Nat, v19 = .int .i64 (i : Int) ∧ v7 = .int .u64 p ∧ PRel x n w wr i p) (fun _ v19 _ => n - (intOf v19).toNat)
  case atStart => exact ⟨0, 1, rfl, rfl, PRel.start x n w _⟩
  case round =>
    obtain ⟨i, p, rfl, rfl, R⟩ := hrel
    clear mk
    have hi := R.hi
    by_cases hlt : i < n
    · have i1 : (i : Int) < n := by omega
      have hp : p < 18446744069414584321 := by rw [R.p]; exact Nat.mod_lt _ (by decide)
      obtain ⟨f, K, _⟩ := R.k
      have k0 := K.c i hlt
      have k1 := K.z i hlt
      rw [Nat.zero_add] at k0 k1
      have M := Lib.hid (fun W => Gd.mul p x (by omega) hx W)
      obtain ⟨p', hp'⟩ : ∃ p', p' = p * x % 18446744069414584321 := ⟨_, rfl⟩
      rw [← hp'] at M
      have HP := Lib.hid hp'
      clear hp' K hp
      go_wp2_with fail
      refine (M.out _).mono ?_
      rintro e w1 ⟨rfl, b1⟩
      have R1 := R.step hlt b1
      rw [← HP.out] at R1
      clear R b1 k0 k1
      go_wp2_with fail
      go_roundw
      case rel => exact ⟨i + 1, p', rfl, rfl, R1⟩
      case measure => simp [intOf]; omega
    · have i1 : ¬ (i : Int) < n := by omega
      obtain rfl : n = i := by omega
      go_wp2
      exact bodyPost_ret (v := .tuple #[.slice (some ⟨w.heap.size, 0, none⟩) n n, .int .i64 0]) (by simp [results, Tryd.results41, go_sem]) rfl (powOut_mk R)

end Rt
end Go.Proofs.YtnnieiedkjekpaaDoor
