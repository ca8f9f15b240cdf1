/- The law's pad; a padded row's transform; the transform of a product of polynomials. -/
import Derived.Test.YtkgclgjlohofbaaDoorKernG
import Derived.Test.YtkgclgjlohofbaaDoorPolyB
set_option linter.unusedVariables false
namespace Go.Proofs.YtkgclgjlohofbaaDoor
open Go.RowKit Go.Lib Go.Sort
namespace Kn
open Nm Ww Tn Pl Td

theorem mx_none (xs : List Nat) (n : Nat) (hx : xs.length = n) (j : Nat) : mx (fun _ => 0) (Pn.pl xs) n j = Pn.pl xs j := by
  unfold mx
  split
  · rfl
  · rw [Pn.pl_far xs j (by omega)]
set_option maxHeartbeats 400000 in
theorem pad (A : Option Addr) (ca n m : Nat) (xs : List Nat) (hx : xs.length = n) (hn : n ≤ m) (hm : m = 32) (w : World) (R : Ws w w.heap.size A xs) :
    Calls Tryd.prog 23 #[.slice A n ca] w (RwN (Pn.pl xs) m w) := by
  have ST := Lib.hid (show JR w.heap.size m (mx (fun _ => 0) (Pn.pl xs) 0) w (w.alloc (.cells (madeCells #[.int .u64 0] m) 27)) by
    rw [mx_zero]; exact ⟨Wk.made w m _, below_alloc w _, by simp⟩)
  have mk := make_words m (by omega) (by omega)
  have HX := Lib.hid hx
  have EN := Lib.hid (mx_none xs n hx)
  have R := Lib.hid R
  have m1 : (m : Int) = 32 := by omega
  rw [m1] at mk
  have HM := Lib.hid hm
  clear hx m1 hm
  go_enter Tryd.func23, Tryd.ntmps23
  go_wp2_with fail
  go_loopw [4] (fun v4 wr => ∃ i : Nat, v4 = .int .i64 (i : Int) ∧ i ≤ n ∧ JR w.heap.size m (mx (fun _ => 0) (Pn.pl xs) i) w wr) (fun v4 _ => n - (Lib.intOf v4).toNat)
  case atStart => exact ⟨0, rfl, Nat.zero_le _, ST.out⟩
  case round =>
    obtain ⟨i, rfl, hi, J⟩ := hrel
    clear ST mk
    by_cases hlt : i < n
    · have i1 : (i : Int) < n := by omega
      have i2 : (i : Int) < 32 := by have := HM.out; omega
      have hlm : i < m := by omega
      have i3 : (i : Int) < (m : Int) := by omega
      have R1 := R.out.below J.bel
      obtain ⟨b, off, rfl, hB, c⟩ := R1.at_ i (by rw [HX.out]; exact hlt)
      have c2 : wr.cell? ⟨b, off + i, none⟩ = some (.int .u64 (Pn.pl xs i : Nat)) := c
      obtain ⟨k0, k1⟩ := J.at_ i hlm
      have PT := Lib.hid (show JR w.heap.size m (mx (fun _ => 0) (Pn.pl xs) (i + 1)) w (wr.setCell ⟨w.heap.size, i, none⟩ (.int .u64 (Pn.pl xs i : Nat))) by rw [← mx_upd]; exact J.put i _ hlm)
      clear c R1 J
      generalize mx (fun _ => 0) (Pn.pl xs) i i = v at *
      generalize Pn.pl xs i = x at *
      go_wp2_with fail
      go_roundw
      case rel => exact ⟨i + 1, rfl, by omega, PT.out⟩
      case measure => simp [Lib.intOf]; omega
    · have i1 : ¬ (i : Int) < n := by omega
      obtain rfl : i = n := by omega
      have OK := Lib.hid (show RwN (Pn.pl xs) m w (.returned (.slice (some ⟨w.heap.size, 0, none⟩) m m)) wr from ⟨w.heap.size, rfl, Nat.le_refl _, J.s, (J.congr fun j _ => EN.out j).k, J.bel.mono (Nat.le_refl _)⟩)
      clear J
      go_wp2
      exact bodyPost_ret (v := .slice (some ⟨w.heap.size, 0, none⟩) m m) (by simp [results, Tryd.results23, go_sem]) rfl OK.out
/-- The transform of a product of polynomials. -/
theorem ft_product (k j : Nat) (xs ys zs : List Nat) (hx : xs.length ≤ 2 ^ k) (hy : ys.length ≤ 2 ^ k) (hz : zs.length ≤ 2 ^ k) (h : ∀ i, Pn.pl zs i = Pn.conv (Pn.pl xs) (Pn.pl ys) i % 18446744069414584321) :
    ft k 0 (Pn.pl zs) j = ft k 0 (Pn.pl xs) j * ft k 0 (Pn.pl ys) j % 18446744069414584321 := by
  rw [ft_zero, ft_zero, ft_zero, tf_evl zs _ _ _ hz, tf_evl xs _ _ _ hx, tf_evl ys _ _ _ hy, ← Nat.mul_mod]
  exact Pn.evl_conv _ fun i => by rw [h i, Nat.mod_mod]
theorem ft_rg (k d n : Nat) (g : Nat → Nat) (hn : n = 2 ^ k) : ft k d (Pn.pl (rg g n)) = ft k d g := by
  funext j
  exact ft_congr (fun i hi => pl_rg _ _ _ (by omega)) d j
/-- Transform of a row that is told by its words. -/
theorem transform_rg (A : Option Addr) (n ca k d : Nat) (g : Nat → Nat) (hk : k ≤ 20) (hd : d ≤ 1) (hn : n = 2 ^ k) (w : World) (hT : Ft.Tab w) (R : Ws w w.heap.size A (rg g n)) :
    Calls Tryd.prog 17 #[.slice A n ca, .int .i64 (d : Int)] w (RwF (ft k d g) n w) := by
  have h := transform A n ca k d (rg g n) hk hd hn (rg_len _ _) w hT R
  rwa [ft_rg k d n g hn] at h
end Kn
end Go.Proofs.YtkgclgjlohofbaaDoor
