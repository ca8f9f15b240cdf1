/- Contracts of package poly: rows of rows, longest, Add, Sub. -/
import Derived.Test.YtnnieiedkjekpaaDoorPolyD
set_option linter.unusedVariables false
namespace Go.Proofs.YtnnieiedkjekpaaDoor
open Go.RowKit Go.Lib Go.Sort
namespace Pl
open Ww Pn Nt

/-- A slice of rows. -/
structure Rs (w : World) (B : Nat) (A : Option Addr) (ls : List (List Nat)) : Prop where
  at_ : ∀ i, i < ls.length → ∃ (b off : Nat) (Ai : Option Addr) (ci : Nat), A = some ⟨b, off, none⟩ ∧ b < B ∧ w.cell? ⟨b, off + i, none⟩ = some (.slice Ai (ls.getD i []).length ci) ∧ Ws w B Ai (ls.getD i [])
section
variable {w w' : World} {B B' : Nat} {A : Option Addr} {ls : List (List Nat)}
theorem Rs.below (h : Rs w B A ls) (hb : Below B w w') : Rs w' B A ls :=
  ⟨fun i hi => by
    obtain ⟨b, off, Ai, ci, e, hB, c, R⟩ := h.at_ i hi
    exact ⟨b, off, Ai, ci, e, hB, (hb.cell (p := ⟨b, off + i, none⟩) hB).trans c, R.below hb⟩⟩
theorem Rs.nil_ (w : World) (B : Nat) (A : Option Addr) : Rs w B A [] := ⟨fun i hi => by simp at hi⟩
end
/-- Two rows, three rows, laid just now. -/
theorem rs_two {w : World} {A1 A2 : Option Addr} (c1 c2 : Nat) {xs ys : List Nat} (R1 : Ws w w.heap.size A1 xs) (R2 : Ws w w.heap.size A2 ys) (t : TypeId) :
    Rs (w.alloc (.cells #[.slice A1 xs.length c1, .slice A2 ys.length c2] t)) (w.alloc (.cells #[.slice A1 xs.length c1, .slice A2 ys.length c2] t)).heap.size (some ⟨w.heap.size, 0, none⟩) [xs, ys] := by
  have hb := below_alloc w (.cells #[.slice A1 xs.length c1, .slice A2 ys.length c2] t)
  refine ⟨fun i hi => ?_⟩
  rcases i with _ | _ | i
  · exact ⟨w.heap.size, 0, A1, c1, rfl, by simp, by simp [go_sem], R1.step hb⟩
  · exact ⟨w.heap.size, 0, A2, c2, rfl, by simp, by simp [go_sem], R2.step hb⟩
  · exact absurd hi (by simp)
theorem rs_three {w : World} {A1 A2 A3 : Option Addr} (c1 c2 c3 : Nat) {xs ys zs : List Nat} (R1 : Ws w w.heap.size A1 xs) (R2 : Ws w w.heap.size A2 ys) (R3 : Ws w w.heap.size A3 zs) (t : TypeId) :
    Rs (w.alloc (.cells #[.slice A1 xs.length c1, .slice A2 ys.length c2, .slice A3 zs.length c3] t)) (w.alloc (.cells #[.slice A1 xs.length c1, .slice A2 ys.length c2, .slice A3 zs.length c3] t)).heap.size (some ⟨w.heap.size, 0, none⟩) [xs, ys, zs] := by
  have hb := below_alloc w (.cells #[.slice A1 xs.length c1, .slice A2 ys.length c2, .slice A3 zs.length c3] t)
  refine ⟨fun i hi => ?_⟩
  rcases i with _ | _ | _ | i
  · exact ⟨w.heap.size, 0, A1, c1, rfl, by simp, by simp [go_sem], R1.step hb⟩
  · exact ⟨w.heap.size, 0, A2, c2, rfl, by simp, by simp [go_sem], R2.step hb⟩
  · exact ⟨w.heap.size, 0, A3, c3, rfl, by simp, by simp [go_sem], R3.step hb⟩
  · exact absurd hi (by simp)

/-- How long the longest of the first k rows is. -/
def mx (ls : List (List Nat)) : Nat → Nat
  | 0 => 0
  | k + 1 => max (mx ls k) (ls.getD k []).length
theorem mx_succ (ls : List (List Nat)) (k : Nat) : mx ls (k + 1) = max (mx ls k) (ls.getD k []).length := rfl
theorem mx_le {ls : List (List Nat)} {N : Nat} (h : ∀ k, (ls.getD k []).length ≤ N) : ∀ k, mx ls k ≤ N
  | 0 => Nat.zero_le _
  | k + 1 => by unfold mx; have := mx_le h k; have := h k; omega
theorem le_mx (ls : List (List Nat)) : ∀ k r, r < k → (ls.getD r []).length ≤ mx ls k
  | 0, r, h => absurd h (Nat.not_lt_zero r)
  | k + 1, r, h => by
    unfold mx
    by_cases e : r = k
    · subst e; omega
    · have := le_mx ls k r (by omega); omega
set_option maxHeartbeats 1000000 in
set_option maxRecDepth 100000 in
theorem longest (A : Option Addr) (ca : Nat) (ls : List (List Nat)) (hl : ls.length ≤ 1048576) {B : Nat} (w : World) (R : Rs w B A ls) :
    Calls Tryd.prog 77 #[.slice A ls.length ca] w fun e w' => e = .returned (.int .i64 (mx ls ls.length : Nat)) ∧ w = w' := by
  have MS := Lib.hid (fun k => show max ((mx ls k : Nat) : Int) (((ls.getD k []).length : Nat) : Int) = ((mx ls (k + 1) : Nat) : Int) by rw [mx_succ]; omega)
  have M0 := Lib.hid (show 0 = mx ls 0 from rfl)
  obtain ⟨m, hm⟩ : ∃ m, m = mx ls ls.length := ⟨_, rfl⟩
  rw [← hm]
  have HM := Lib.hid hm
  clear hm
  generalize mx ls = mxl at *
  go_enter Tryd.func77, Tryd.ntmps77
  go_wp2_with fail
  go_loop [3, 8] (fun v3 v8 => ∃ i n : Nat, v8 = .int .i64 (i : Int) ∧ v3 = .int .i64 (n : Int) ∧ i ≤ ls.length ∧ n = mxl i) (fun _ v8 => ls.length - (Lib.intOf v8).toNat)
  case atStart => exact ⟨0, 0, rfl, rfl, Nat.zero_le _, M0.out⟩
  case round =>
    obtain ⟨i, n, rfl, rfl, hi, hn⟩ := hrel
    clear M0
    by_cases hlt : i < ls.length
    · have i1 : (i : Int) < ls.length := by omega
      obtain ⟨b, off, Ai, ci, rfl, hB, c, _⟩ := R.at_ i hlt
      have e := MS.out i
      rw [← hn] at e
      obtain ⟨n', hn'⟩ : ∃ n', n' = mxl (i + 1) := ⟨_, rfl⟩
      rw [← hn'] at e
      have H2 := Lib.hid hn'
      clear hn hn'
      generalize (ls.getD i []).length = l at *
      go_wp2_with fail
      go_round
      case rel => exact ⟨i + 1, n', rfl, rfl, by omega, H2.out⟩
      case measure => simp [Lib.intOf]; omega
    · have i1 : ¬ (i : Int) < ls.length := by omega
      obtain rfl : i = ls.length := by omega
      have H2 := Lib.hid hn
      clear hn
      go_wp2
      go_ret
      exact ⟨by rw [show m = n from HM.out.trans H2.out.symm]; rfl, rfl⟩

/-- A block of one's own that holds the n words f, behind what w had. -/
structure Hd (f : Nat → Nat) (n b : Nat) (w wr : World) : Prop where
  k : Wk wr b 0 n f
  s : b < wr.heap.size
  hb : w.heap.size ≤ b
  bel : Below w.heap.size w wr
section
variable {f g : Nat → Nat} {n b : Nat} {w wr w1 : World}
theorem Hd.made (n : Nat) (hw : Below w.heap.size w w1) (e : TypeId) : Hd (fun _ => 0) n w1.heap.size w (w1.alloc (.cells (madeCells #[.int .u64 0] n) e)) :=
  ⟨Wk.made w1 n e, by simp, hw.size, hw.alloc hw.size _⟩
theorem Hd.congr (h : Hd f n b w wr) (e : ∀ j, j < n → f j = g j) : Hd g n b w wr := ⟨⟨fun i hi => by rw [h.k.c i hi, e i hi], h.k.z⟩, h.s, h.hb, h.bel⟩
theorem Hd.call (h : Hd f n b w wr) (hc : Below wr.heap.size wr w1) : Hd f n b w w1 := ⟨h.k.step hc, Nat.lt_of_lt_of_le h.s hc.size, h.hb, h.bel.trans (hc.mono h.bel.size)⟩
theorem Hd.drew (h : Hd f n b w wr) : Hd f n b w wr.drew := ⟨h.k.drew, h.s, h.hb, h.bel.drew⟩
theorem Hd.put (h : Hd f n b w wr) (i v : Nat) (hi : i < n) : Hd (upd f i v) n b w (wr.setCell ⟨b, i, none⟩ (.int .u64 (v : Nat))) := by
  have K1 := h.k.put i v hi
  rw [Nat.zero_add] at K1
  exact ⟨K1, by simp [World.setCell]; exact h.s, h.hb, h.bel.setCell h.hb _⟩
theorem Hd.at_ (h : Hd f n b w wr) (i : Nat) (hi : i < n) : wr.cell? ⟨b, i, none⟩ = some (.int .u64 (f i : Nat)) ∧ wr.frozen? ⟨b, i, none⟩ = false := by
  have c := h.k.c i hi
  have z := h.k.z i hi
  rw [Nat.zero_add] at c z
  exact ⟨c, z⟩
theorem Hd.ws (h : Hd f n b w wr) (hg : ∀ i, i < n → f i < 18446744073709551616) : Ws wr wr.heap.size (some ⟨b, 0, none⟩) (rg f n) := h.k.ws hg h.s
end
/-- g ahead of i, f from there on. -/
def ac (f g : Nat → Nat) (i : Nat) : Nat → Nat := fun j => if j < i then g j else f j
theorem ac_at (f g : Nat → Nat) (i : Nat) : ac f g i i = f i := if_neg (Nat.lt_irrefl i)
theorem ac_upd (f g : Nat → Nat) (i j : Nat) : upd (ac f g i) i (g i) j = ac f g (i + 1) j := by
  unfold upd ac
  by_cases e : j = i
  · subst e; rw [if_pos rfl, if_pos (by omega)]
  · rw [if_neg e]
    by_cases h : j < i
    · rw [if_pos h, if_pos (by omega)]
    · rw [if_neg h, if_neg (by omega)]
theorem ac_zero (f g : Nat → Nat) (i j : Nat) (h : ∀ j, j < i → g j = f j) : ac f g i j = f j := by
  unfold ac
  by_cases e : j < i
  · rw [if_pos e, h j e]
  · rw [if_neg e]
theorem ac_end (f g : Nat → Nat) (i j : Nat) (h : ∀ j, i ≤ j → g j = f j) : ac f g i j = g j := by
  unfold ac
  by_cases e : j < i
  · rw [if_pos e]
  · rw [if_neg e, h j (by omega)]

/-- The sum of the first k rows. -/
def sm (ls : List (List Nat)) (k i : Nat) : Nat := sg (fun r => pl (ls.getD r []) i) k
theorem sm_succ (ls : List (List Nat)) (k i : Nat) : sm ls (k + 1) i = sm ls k i + pl (ls.getD k []) i := rfl
theorem sm_far (ls : List (List Nat)) (k i : Nat) (h : mx ls k ≤ i) : sm ls k i = 0 := sg_zero _ fun r hr => pl_far _ _ (Nat.le_trans (le_mx ls k r hr) h)
theorem sm_step (ls : List (List Nat)) (k i : Nat) : (sm ls k i % 18446744069414584321 + pl (ls.getD k []) i) % 18446744069414584321 = sm ls (k + 1) i % 18446744069414584321 := by rw [sm_succ, Nat.mod_add_mod]
theorem sm_same (ls : List (List Nat)) (k i : Nat) (h : (ls.getD k []).length ≤ i) : sm ls (k + 1) i % 18446744069414584321 = sm ls k i % 18446744069414584321 := by rw [sm_succ, pl_far _ _ h, Nat.add_zero]


theorem sm_two (xs ys : List Nat) (i : Nat) : sm [xs, ys] 2 i = pl xs i + pl ys i := by
  rw [sm_succ, sm_succ]
  show 0 + pl xs i + pl ys i = _
  rw [Nat.zero_add]
theorem sm_three (xs ys zs : List Nat) (i : Nat) : sm [xs, ys, zs] 3 i = pl xs i + pl ys i + pl zs i := by
  rw [sm_succ, sm_succ, sm_succ]
  show 0 + pl xs i + pl ys i + pl zs i = _
  rw [Nat.zero_add]
theorem all_two {xs ys : List Nat} (hx : xs.length ≤ 1048576) (hy : ys.length ≤ 1048576) (k : Nat) : ([xs, ys].getD k []).length ≤ 1048576 := by
  rcases k with _ | _ | k
  · exact hx
  · exact hy
  · simp
theorem all_three {xs ys zs : List Nat} (hx : xs.length ≤ 1048576) (hy : ys.length ≤ 1048576) (hz : zs.length ≤ 1048576) (k : Nat) : ([xs, ys, zs].getD k []).length ≤ 1048576 := by
  rcases k with _ | _ | _ | k
  · exact hx
  · exact hy
  · exact hz
  · simp
theorem Po.len {c : Nat → Nat} {zs : List Nat} (h : Nf 18446744069414584321 zs) (hc : ∀ i, pl zs i = c i % 18446744069414584321) (n : Nat) (h0 : ∀ i, n ≤ i → c i = 0) : zs.length ≤ n :=
  h.short n fun i hi => by rw [hc, h0 i hi]

end Pl
end Go.Proofs.YtnnieiedkjekpaaDoor
