/- awake of layer 8. -/
import Derived.Test.YtikdoagljabjaaaDoorTwidD
import Derived.Test.YtikdoagljabjaaaDoorSame
set_option linter.unusedVariables false
namespace Go.Proofs.YtikdoagljabjaaaDoor
open Go.RowKit Go.Lib
namespace Td
open Nm Ww Tn Pl

theorem aw_words (m : Nat) (hm : m = 0) : ft (m + 1) 0 (Pn.pl [1, 1]) 0 = 2 ∧ ft (m + 1) 0 (Pn.pl [1, 1]) 1 = 0 := by
  have r := Nt.rt1 m hm
  have e : 2 ^ (m + 1) = 2 := by rw [hm]
  rw [ft_zero, ft_zero, r, e]
  exact ⟨by decide, by decide⟩
theorem slow_two {A : Option Addr} (w : World) (hT : Ft.Tab w) (R : Ws w w.heap.size A [1, 1]) : ∃ g : Nat → Nat, g 0 = 2 ∧ g 1 = 0 ∧ Calls Tryd.prog 22 #[.slice A 2 2, .int .i64 0] w (RwE g 2 w) := by
  obtain ⟨m, hm⟩ : ∃ m : Nat, m = 0 := ⟨_, rfl⟩
  obtain ⟨h0, h1⟩ := aw_words m hm
  exact ⟨_, h0, h1, slow_fwd A 2 2 (m + 1) [1, 1] (by omega) (by rw [hm]) rfl w hT R⟩
set_option maxHeartbeats 400000 in
theorem awake (w : World) (hT : Ft.Tab w) : Calls Tryd.prog 7 #[] w fun e w' => e = .returned (.bool true) ∧ Below w.heap.size w w' := by
  have b0 := below_alloc w (.cells #[.int .u64 1, .int .u64 1] 23)
  obtain ⟨g, g0, g1, S⟩ := slow_two (A := some ⟨w.heap.size, 0, none⟩) (w.alloc (.cells #[.int .u64 1, .int .u64 1] 23)) (hT.below b0) (ws_two w 1 1 (by decide) (by decide) _)
  have S := Lib.hid S
  clear hT
  go_enter Tryd.func7, Tryd.ntmps7
  go_wp2_with fail
  refine S.out.mono ?_
  rintro e w1 ⟨b, rfl, hs, hb, K, h1⟩
  have k0 := K.c 0 (by decide)
  have k1 := K.c 1 (by decide)
  rw [Nat.zero_add, g0] at k0
  rw [Nat.zero_add, g1] at k1
  have c1 := b0.trans (h1.mono b0.size)
  clear K S hs hb h1 b0 g0 g1
  go_wp2
  go_ret
  exact ⟨by simp [go_sem], c1⟩
/-- Rows whose words are alike are the same. -/
theorem same_rg {g h : Nat → Nat} {n : Nat} (he : ∀ i, i < n → g i = h i) (hl : n ≤ 1048576) (A B : Option Addr) (ca cb : Nat) (w : World) (Ra : Ws w w.heap.size A (rg g n)) (Rb : Ws w w.heap.size B (rg h n)) :
    Calls Tryd.prog 14 #[.slice A n ca, .slice B n cb] w fun e w' => e = .returned (.bool true) ∧ Below w.heap.size w w' := by
  rw [← rg_congr n he] at Rb
  exact Sm.same A B n n ca cb (rg g n) (rg_len g n).symm (rg_len g n).symm (by rw [rg_len]; omega) w Ra Rb
theorem rpowers (x n : Nat) (hn : n ≤ 1048576) (w : World) :
    Calls Tryd.prog 15 #[.int .u64 (x : Nat), .int .i64 (n : Int)] w (RwA (fun i => x ^ i % 18446744069414584321) n w) :=
  (Rr.powers x n hn w).mono fun _ _ h => rwA_of (g := fun i => x ^ i % 18446744069414584321) (fun i => Nat.mod_lt _ (by decide)) (fun _ _ => rfl) h
/-- The document's Fits of a power of two. -/
theorem fits_doc (n k : Nat) (hk : k ≤ 32) (hn : n = 2 ^ k) (w : World) : Calls Tryd.prog 21 #[.int .i64 (n : Int)] w fun e w' => e = .returned (.int .i64 (k : Int)) ∧ w = w' :=
  Ft.ref_any (n : Int) (k : Int) (fun i hi e => by
    have e2 : 2 ^ k = 2 ^ i := by omega
    rw [Nat.pow_right_inj (a := 2) (by decide) |>.mp e2]) (fun h => absurd (by rw [hn]) (h k hk)) w
end Td
end Go.Proofs.YtikdoagljabjaaaDoor
