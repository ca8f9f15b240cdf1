/- Views, plain: words gathered and scattered, views transformed one behind the other, rows and columns of a shape. / Contracts of package rows: Good, Gather; of the document's own Good, Gather. / Contracts of the document's own Good, Gather, log (of views). / Contracts of package rows' Scatter, of the document's own Scatter. / Contract of the document's own Scatter. / Contracts of the document's own Run of a view, of package rows' transform. -/
import Derived.Test.YtfjoacopnkceoaaDoorSixN
import Derived.Test.YtfjoacopnkceoaaDoorRowG
import Derived.Test.YtfjoacopnkceoaaDoorTwidE
import Derived.BigRegion
import Derived.Deep.DeepCutAuto
import Derived.Lib.QuietBelow
import Derived.Test.YtfjoacopnkceoaaDoorKernG
import Derived.Test.YtfjoacopnkceoaaDoorQuartE
import Derived.Deep.RegionWith
import Derived.Deep.RegionHeld3
set_option linter.unusedVariables false
namespace Go.Proofs.YtfjoacopnkceoaaDoor
namespace Vw
open Nt Rn Ww Tn Pl

/-- A view is right. -/
def Gv (o s N : Int) (n : Nat) : Prop := 0 ≤ N ∧ N ≤ 1048576 ∧ 1 ≤ s ∧ 0 ≤ o ∧ (N = 0 ∨ o + (N - 1) * s < n)
/-- .. of numbers that are not below 0. -/
structure Vg (o s N n : Nat) : Prop where
  hN : N ≤ 1048576
  hs : 1 ≤ s
  h : N = 0 ∨ o + (N - 1) * s < n
theorem Gv.nat {o s N : Int} {n : Nat} (h : Gv o s N n) : ∃ o' s' N' : Nat, o = (o' : Int) ∧ s = (s' : Int) ∧ N = (N' : Int) ∧ Vg o' s' N' n := by
  obtain ⟨h1, h2, h3, h4, h5⟩ := h
  obtain ⟨o', rfl⟩ := Int.eq_ofNat_of_zero_le h4
  obtain ⟨s', rfl⟩ := Int.eq_ofNat_of_zero_le (show 0 ≤ s by omega)
  obtain ⟨N', rfl⟩ := Int.eq_ofNat_of_zero_le h1
  refine ⟨o', s', N', rfl, rfl, rfl, by omega, by omega, ?_⟩
  rcases h5 with h | h
  · exact Or.inl (by omega)
  · by_cases c : N' = 0
    · exact Or.inl c
    · right
      have e : ((N' : Int) - 1) * s' = (((N' - 1) * s' : Nat) : Int) := by
        rw [Int.natCast_mul, Int.natCast_sub (by omega)]; rfl
      rw [e] at h
      omega
theorem Vg.gv {o s N n : Nat} (h : Vg o s N n) : Gv (o : Int) (s : Int) (N : Int) n := by
  obtain ⟨h1, h2, h3⟩ := h
  refine ⟨by omega, by omega, by omega, by omega, ?_⟩
  by_cases c : N = 0
  · exact Or.inl (by omega)
  · right
    rcases h3 with h3 | h3
    · exact absurd h3 c
    · have e : ((N : Int) - 1) * s = (((N - 1) * s : Nat) : Int) := by
        rw [Int.natCast_mul, Int.natCast_sub (by omega)]; rfl
      rw [e]
      omega
theorem Vg.lt {o s N n i : Nat} (h : Vg o s N n) (hi : i < N) : o + i * s < n := by
  rcases h.h with h3 | h3
  · omega
  · exact Nat.lt_of_le_of_lt (Nat.add_le_add_left (Nat.mul_le_mul_right s (by omega)) o) h3
/-- A view's words. -/
def gth (f : Nat → Nat) (o s : Nat) (i : Nat) : Nat := f (o + i * s)
/-- The words g at a view's first places. -/
def sct (f : Nat → Nat) (o s : Nat) (g : Nat → Nat) : Nat → Nat → Nat
  | 0 => f
  | i + 1 => upd (sct f o s g i) (o + i * s) (g i)
theorem sct_zero (f : Nat → Nat) (o s : Nat) (g : Nat → Nat) : sct f o s g 0 = f := rfl
theorem sct_succ (f : Nat → Nat) (o s : Nat) (g : Nat → Nat) (i : Nat) : sct f o s g (i + 1) = upd (sct f o s g i) (o + i * s) (g i) := rfl
theorem sct_other (f : Nat → Nat) (o s : Nat) (g : Nat → Nat) (j : Nat) : ∀ n, (∀ i, i < n → j ≠ o + i * s) → sct f o s g n j = f j
  | 0, _ => rfl
  | n + 1, h => by
    rw [sct_succ, upd_other _ _ _ (h n (by omega))]
    exact sct_other f o s g j n fun i hi => h i (by omega)
theorem sct_at (f : Nat → Nat) (o s : Nat) (hs : 0 < s) (g : Nat → Nat) (i : Nat) : ∀ n, i < n → sct f o s g n (o + i * s) = g i
  | 0, h => by omega
  | n + 1, h => by
    rw [sct_succ]
    by_cases e : i = n
    · subst e; exact upd_same _ _ _
    · rw [upd_other _ _ _ (fun c => e (Nat.eq_of_mul_eq_mul_right hs (by omega)))]
      exact sct_at f o s hs g i n (by omega)
theorem sct_congr {f f' : Nat → Nat} {o s : Nat} {g g' : Nat → Nat} (j : Nat) (hf : f j = f' j) : ∀ n, (∀ i, i < n → g i = g' i) → sct f o s g n j = sct f' o s g' n j
  | 0, _ => hf
  | n + 1, h => by
    rw [sct_succ, sct_succ]
    unfold upd
    rw [h n (by omega), sct_congr j hf n fun i hi => h i (by omega)]
theorem sct_lt {f : Nat → Nat} {o s : Nat} {g : Nat → Nat} {B : Nat} (j : Nat) (hf : f j < B) : ∀ n, (∀ i, i < n → g i < B) → sct f o s g n j < B
  | 0, _ => hf
  | n + 1, h => by
    rw [sct_succ]
    unfold upd
    split
    · exact h n (by omega)
    · exact sct_lt j hf n fun i hi => h i (by omega)
/-- A view's words are transformed. -/
def vt (k d : Nat) (f : Nat → Nat) (o s n : Nat) : Nat → Nat := sct f o s (ft k d (gth f o s)) n
theorem vt_lt {k d : Nat} {f : Nat → Nat} {o s n : Nat} (j : Nat) (hf : f j < 18446744073709551616) : vt k d f o s n j < 18446744073709551616 :=
  sct_lt j hf n fun i _ => Nat.lt_trans (ft_lt _ _ _ _) (by decide)
theorem vt_congr {k d : Nat} {f f' : Nat → Nat} {o s n m : Nat} (hk : n = 2 ^ k) (hv : ∀ i, i < n → o + i * s < m) (hf : ∀ j, j < m → f j = f' j) (j : Nat) (hj : j < m) : vt k d f o s n j = vt k d f' o s n j :=
  sct_congr j (hf j hj) n fun i _ => ft_congr (fun i hi => hf _ (hv i (by omega))) d i
/-- Views of which the places begin at O 0, O 1, .. are transformed, one behind the other. -/
def ev (k d : Nat) (O : Nat → Nat) (s n : Nat) (f : Nat → Nat) : Nat → Nat → Nat
  | 0 => f
  | i + 1 => vt k d (ev k d O s n f i) (O i) s n
theorem ev_zero (k d : Nat) (O : Nat → Nat) (s n : Nat) (f : Nat → Nat) : ev k d O s n f 0 = f := rfl
theorem ev_succ (k d : Nat) (O : Nat → Nat) (s n : Nat) (f : Nat → Nat) (i : Nat) : ev k d O s n f (i + 1) = vt k d (ev k d O s n f i) (O i) s n := rfl
theorem ev_lt {k d : Nat} {O : Nat → Nat} {s n : Nat} {f : Nat → Nat} (j : Nat) (hf : f j < 18446744073709551616) : ∀ m, ev k d O s n f m j < 18446744073709551616
  | 0 => hf
  | m + 1 => vt_lt j (ev_lt j hf m)
theorem ev_congr {k d : Nat} {O : Nat → Nat} {s n : Nat} {f f' : Nat → Nat} {L : Nat} (hk : n = 2 ^ k) (hf : ∀ j, j < L → f j = f' j) : ∀ m, (∀ r, r < m → ∀ i, i < n → O r + i * s < L) → ∀ j, j < L → ev k d O s n f m j = ev k d O s n f' m j
  | 0, _, j, hj => hf j hj
  | m + 1, hv, j, hj => vt_congr hk (hv m (by omega)) (fun j hj => ev_congr hk hf m (fun r hr => hv r (by omega)) j hj) j hj
theorem place_inj {C r c r' c' : Nat} (hc : c < C) (hc' : c' < C) (e : r * C + c = r' * C + c') : r = r' ∧ c = c' := by
  have h0 : 0 < C := by omega
  have a := congrArg (· / C) e
  have b := congrArg (· % C) e
  simp only [Nat.mul_comm _ C, Nat.mul_add_div h0, Nat.mul_add_mod, Nat.div_eq_of_lt hc, Nat.div_eq_of_lt hc', Nat.mod_eq_of_lt hc, Nat.mod_eq_of_lt hc', Nat.add_zero] at a b
  exact ⟨a, b⟩
/-- Rows: the first m rows are transformed, the others as they were. -/
theorem ev_rows (k d C : Nat) (hC : C = 2 ^ k) (f : Nat → Nat) (r c : Nat) (hc : c < C) : ∀ m, ev k d (fun i => i * C) 1 C f m (r * C + c) = if r < m then ft k d (fun i => f (r * C + i)) c else f (r * C + c)
  | 0 => rfl
  | m + 1 => by
    rw [ev_succ]
    unfold vt
    by_cases e : r = m
    · subst e
      rw [if_pos (by omega)]
      have h := sct_at (ev k d (fun i => i * C) 1 C f r) (r * C) 1 (by decide) (ft k d (gth (ev k d (fun i => i * C) 1 C f r) (r * C) 1)) c C hc
      rw [Nat.mul_one] at h
      rw [h]
      refine ft_congr (fun i hi => ?_) d c
      unfold gth
      rw [Nat.mul_one, ev_rows k d C hC f r i (by omega) r, if_neg (Nat.lt_irrefl r)]
    · rw [sct_other _ _ _ _ _ _ (fun i hi h => e (by rw [Nat.mul_one] at h; exact (place_inj hc hi h).1)), ev_rows k d C hC f r c hc m]
      by_cases h : r < m
      · rw [if_pos h, if_pos (by omega)]
      · rw [if_neg h, if_neg (by omega)]
/-- Columns. -/
theorem ev_cols (k d R C : Nat) (hR : R = 2 ^ k) (f : Nat → Nat) (r c : Nat) (hr : r < R) (hc : c < C) : ∀ m, m ≤ C → ev k d (fun i => i) C R f m (r * C + c) = if c < m then ft k d (fun i => f (i * C + c)) r else f (r * C + c)
  | 0, _ => rfl
  | m + 1, hm => by
    rw [ev_succ]
    unfold vt
    by_cases e : c = m
    · subst e
      rw [if_pos (by omega)]
      have h := sct_at (ev k d (fun i => i) C R f c) c C (by omega) (ft k d (gth (ev k d (fun i => i) C R f c) c C)) r R hr
      rw [Nat.add_comm] at h
      rw [h]
      refine ft_congr (fun i hi => ?_) d r
      unfold gth
      rw [Nat.add_comm, ev_cols k d R C hR f i c (by omega) hc c (by omega), if_neg (Nat.lt_irrefl c)]
    · rw [sct_other _ _ _ _ _ _ (fun i hi h => e (by rw [Nat.add_comm m] at h; exact (place_inj hc (by omega) h).2)), ev_cols k d R C hR f r c hr hc m (by omega)]
      by_cases h : c < m
      · rw [if_pos h, if_pos (by omega)]
      · rw [if_neg h, if_neg (by omega)]
/-- A row turned: the word at row r and column c goes to c * R + r. -/
def tn (f : Nat → Nat) (R C j : Nat) : Nat := f (j % R * C + j / R)
theorem tn_at (f : Nat → Nat) (R C r c : Nat) (hr : r < R) : tn f R C (c * R + r) = f (r * C + c) := by
  unfold tn
  have h0 : 0 < R := by omega
  rw [Nat.mul_comm c R, Nat.mul_add_mod, Nat.mul_add_div h0, Nat.mod_eq_of_lt hr, Nat.div_eq_of_lt hr, Nat.add_zero]
/-- P11.3: columns, twiddles (t are the words behind them), rows, transposing. -/
theorem six (a b d : Nat) (h : a + b ≤ 32) (hd : d ≤ 1) (R C : Nat) (hR : R = 2 ^ a) (hC : C = 2 ^ b) (f t : Nat → Nat)
    (ht : ∀ r c, r < R → c < C → t (r * C + c) = ev a d (fun i => i) C R f C (r * C + c) * (rd (a + b) d ^ (r * c) % 18446744069414584321) % 18446744069414584321) (j : Nat) (hj : j < R * C) :
    tn (ev b d (fun i => i * C) 1 C t R) R C j = ft (a + b) d f j := by
  have h0 : 0 < R := by rw [hR]; exact Nat.two_pow_pos a
  have hq : j % R < R := Nat.mod_lt j h0
  have hs : j / R < C := Nat.div_lt_of_lt_mul hj
  have ej : j / R * R + j % R = j := Nat.div_add_mod' j R
  have e := tn_at (ev b d (fun i => i * C) 1 C t R) R C (j % R) (j / R) hq
  rw [ej] at e
  rw [e, ev_rows b d C hC t (j % R) (j / R) hs R, if_pos hq]
  have e2 := ft_six a b d h hd f (j % R) (j / R)
  rw [← hR, ← hC, ej] at e2
  rw [e2]
  refine ft_congr (fun c hc => ?_) d (j / R)
  rw [ht (j % R) c hq (by omega), ev_cols a d R C hR f (j % R) c hq (by omega) C (Nat.le_refl C), if_pos (by omega)]
end Vw
end Go.Proofs.YtfjoacopnkceoaaDoor
set_option linter.unusedVariables false
namespace Go.Proofs.YtfjoacopnkceoaaDoor
open Go.RowKit Go.Lib Go.Sort
namespace Vw
open Nm Ww Tn Pl Td

/-- Three ints of a struct in memory. -/
structure Vi (w : World) (b : Nat) (p q r : Int) : Prop where
  c0 : w.cell? ⟨b, 0, none⟩ = some (.int .i64 p)
  c1 : w.cell? ⟨b, 1, none⟩ = some (.int .i64 q)
  c2 : w.cell? ⟨b, 2, none⟩ = some (.int .i64 r)
section
variable {w w' : World} {b : Nat} {p q r : Int}
theorem Vi.lt (h : Vi w b p q r) : b < w.heap.size := World.block_lt_of_cell? w _ h.c0
theorem Vi.low {B : Nat} (h : Vi w b p q r) (hB : b < B) (hb : Below B w w') : Vi w' b p q r :=
  ⟨(hb.cell (p := ⟨b, 0, none⟩) hB).trans h.c0, (hb.cell (p := ⟨b, 1, none⟩) hB).trans h.c1, (hb.cell (p := ⟨b, 2, none⟩) hB).trans h.c2⟩
theorem Vi.below (h : Vi w b p q r) (hb : Below w.heap.size w w') : Vi w' b p q r := h.low h.lt hb
theorem Vi.fresh (w : World) (p q r : Int) (t : TypeId) : Vi (w.alloc (.cells #[.int .i64 p, .int .i64 q, .int .i64 r] t)) w.heap.size p q r := ⟨by simp [go_sem], by simp [go_sem], by simp [go_sem]⟩
theorem Vi.but {B : Nat} (h : Vi w b p q r) (hb : b ≠ B) (o : But B w w') : Vi w' b p q r :=
  ⟨(o.cell ⟨b, 0, none⟩ hb h.lt).trans h.c0, (o.cell ⟨b, 1, none⟩ hb h.lt).trans h.c1, (o.cell ⟨b, 2, none⟩ hb h.lt).trans h.c2⟩
end

set_option maxHeartbeats 400000 in
theorem good_low (o s N n : Int) (h : N < 0 ∨ 1048576 < N ∨ s < 1 ∨ o < 0) (w : World) :
    Calls Tryd.prog 10 #[.agg #[.int .i64 o, .int .i64 s, .int .i64 N], .int .i64 n] w fun e w' => e = .returned (.bool false) ∧ Below w.heap.size w w' := by
  have HB := Lib.hid (below_alloc w)
  by_cases h1 : N < 0
  · clear h
    go_enter Tryd.func10, Tryd.ntmps10
    go_wp2
    go_ret
    exact ⟨by simp [go_sem], HB.out _⟩
  by_cases h2 : 1048576 < N
  · clear h
    go_enter Tryd.func10, Tryd.ntmps10
    go_wp2
    go_ret
    exact ⟨by simp [go_sem], HB.out _⟩
  by_cases h3 : s < 1
  · clear h
    go_enter Tryd.func10, Tryd.ntmps10
    go_wp2
    go_ret
    exact ⟨by simp [go_sem], HB.out _⟩
  have h4 : o < 0 := by omega
  clear h
  go_enter Tryd.func10, Tryd.ntmps10
  go_wp2
  go_ret
  exact ⟨by simp [go_sem], HB.out _⟩
set_option maxHeartbeats 400000 in
theorem good_zero (o s n : Int) (hs : 1 ≤ s) (ho : 0 ≤ o) (w : World) :
    Calls Tryd.prog 10 #[.agg #[.int .i64 o, .int .i64 s, .int .i64 0], .int .i64 n] w fun e w' => e = .returned (.bool true) ∧ Below w.heap.size w w' := by
  have HB := Lib.hid (below_alloc w)
  have h3 : ¬ s < 1 := by omega
  have h4 : ¬ o < 0 := by omega
  go_enter Tryd.func10, Tryd.ntmps10
  go_wp2
  go_ret
  exact ⟨by simp [go_sem], HB.out _⟩
set_option maxHeartbeats 1000000 in
theorem good_far (o s N n : Int) (h0 : 0 < N) (hN : N ≤ 1048576) (hs : 1 ≤ s) (ho : 0 ≤ o) (h : n ≤ o) (w : World) :
    Calls Tryd.prog 10 #[.agg #[.int .i64 o, .int .i64 s, .int .i64 N], .int .i64 n] w fun e w' => e = .returned (.bool false) ∧ Below w.heap.size w w' := by
  have HB := Lib.hid (below_alloc w)
  have HD := Lib.hid (fun (k : Nat) o => below_drewN (below_alloc w o) k)
  have h1 : ¬ N < 0 := by omega
  have h2 : ¬ 1048576 < N := by omega
  have h3 : ¬ s < 1 := by omega
  have h4 : ¬ o < 0 := by omega
  have e5 : (N == 0) = false := by rw [beq_eq_false_iff_ne]; omega
  have e6 : decide (o < n) = false := by simp; omega
  clear h h0
  go_enter Tryd.func10, Tryd.ntmps10
  go_upto_region 5 with fail
  go_quiet (fail)
  go_wp2
  go_ret
  exact ⟨by simp [go_sem], HD.out _ _⟩
set_option maxHeartbeats 1000000 in
theorem good_core (o s N n m l x y : Int) (g : Bool) (h0 : 0 < N) (hN : N ≤ 1048576) (hs : 1 ≤ s) (ho : 0 ≤ o) (h : o < n) (q1 : IntKind.i64.wrap (N - 1) = m) (q2 : IntKind.i64.wrap (n - 1) = l) (q3 : IntKind.i64.wrap (l - o) = x) (q4 : x.tdiv s = y) (q6 : IntKind.i64.wrap y = y) (q5 : decide (m ≤ y) = g) (w : World) :
    Calls Tryd.prog 10 #[.agg #[.int .i64 o, .int .i64 s, .int .i64 N], .int .i64 n] w fun e w' => e = .returned (.bool g) ∧ Below w.heap.size w w' := by
  have HB := Lib.hid (below_alloc w)
  have HD := Lib.hid (fun (k : Nat) o => below_drewN (below_alloc w o) k)
  have h1 : ¬ N < 0 := by omega
  have h2 : ¬ 1048576 < N := by omega
  have h3 : ¬ s < 1 := by omega
  have h4 : ¬ o < 0 := by omega
  have e5 : (N == 0) = false := by rw [beq_eq_false_iff_ne]; omega
  have e6 : decide (o < n) = true := by simp; omega
  have e7 : (s == 0) = false := by rw [beq_eq_false_iff_ne]; omega
  clear h h0
  go_enter Tryd.func10, Tryd.ntmps10
  go_upto_region 5 with fail
  go_quiet (fail)
  go_wp2
  go_ret
  exact ⟨by simp [go_sem], HD.out _ _⟩
theorem good (o s N : Int) (n : Nat) (hn : n ≤ 4611686018427387904) (g : Bool) (hg : g = true ↔ Gv o s N n) (w : World) :
    Calls Tryd.prog 10 #[.agg #[.int .i64 o, .int .i64 s, .int .i64 N], .int .i64 (n : Int)] w fun e w' => e = .returned (.bool g) ∧ Below w.heap.size w w' := by
  by_cases c : N < 0 ∨ 1048576 < N ∨ s < 1 ∨ o < 0
  · have : g = false := by
      rw [← Bool.not_eq_true, hg]
      rintro ⟨h1, h2, h3, h4, _⟩
      omega
    subst this
    exact good_low o s N n c w
  by_cases c0 : N = 0
  · subst c0
    have : g = true := hg.2 ⟨by omega, by omega, by omega, by omega, Or.inl rfl⟩
    subst this
    exact good_zero o s n (by omega) (by omega) w
  by_cases c1 : (n : Int) ≤ o
  · have : g = false := by
      rw [← Bool.not_eq_true, hg]
      rintro ⟨h1, h2, h3, h4, h5⟩
      have : 0 ≤ (N - 1) * s := Int.mul_nonneg (by omega) (by omega)
      omega
    subst this
    exact good_far o s N n (by omega) (by omega) (by omega) (by omega) c1 w
  have hy : 0 ≤ ((n : Int) - 1 - o).tdiv s ∧ ((n : Int) - 1 - o).tdiv s ≤ (n : Int) - 1 - o := by
    rw [Int.tdiv_eq_ediv_of_nonneg (by omega)]
    exact ⟨Int.ediv_nonneg (by omega) (by omega), Int.ediv_le_self _ (by omega)⟩
  refine good_core o s N n (N - 1) (n - 1) (n - 1 - o) (((n : Int) - 1 - o).tdiv s) g (by omega) (by omega) (by omega) (by omega) (by omega) (by rw [IntKind.wrap_i64]; omega) (by rw [IntKind.wrap_i64]; omega) (by rw [IntKind.wrap_i64]; omega) rfl (IntWalk.i64_in _ (by omega)) ?_ w
  rw [Bool.eq_iff_iff, hg, decide_eq_true_iff, Int.tdiv_eq_ediv_of_nonneg (by omega), Int.le_ediv_iff_mul_le (by omega)]
  constructor
  · intro h; exact ⟨by omega, by omega, by omega, by omega, Or.inr (by omega)⟩
  · rintro ⟨_, _, _, _, h | h⟩
    · exact absurd h c0
    · omega
theorem good_yes {o s N n : Nat} (h : Vg o s N n) (hn : n ≤ 4611686018427387904) (w : World) :
    Calls Tryd.prog 10 #[.agg #[.int .i64 (o : Int), .int .i64 (s : Int), .int .i64 (N : Int)], .int .i64 (n : Int)] w fun e w' => e = .returned (.bool true) ∧ Below w.heap.size w w' :=
  good _ _ _ n hn true (by simp [h.gv]) w
theorem good_no {o s N : Int} {n : Nat} (h : ¬ Gv o s N n) (hn : n ≤ 4611686018427387904) (w : World) :
    Calls Tryd.prog 10 #[.agg #[.int .i64 o, .int .i64 s, .int .i64 N], .int .i64 (n : Int)] w fun e w' => e = .returned (.bool false) ∧ Below w.heap.size w w' :=
  good _ _ _ n hn false (by simp [h]) w

set_option maxHeartbeats 1000000 in
set_option maxRecDepth 100000 in
theorem gather (A : Option Addr) (n ca o s N : Nat) (f : Nat → Nat) (hv : Vg o s N n) (hn : n ≤ 1048576) (w : World) (X : Ws w w.heap.size A (rg f n)) :
    Calls Tryd.prog 11 #[.slice A n ca, .agg #[.int .i64 (o : Int), .int .i64 (s : Int), .int .i64 (N : Int)]] w (RwE (gth f o s) N w) := by
  have hN := hv.hN
  have mk := make_words N (by omega) (by omega)
  have GO := Lib.hid (fun W => good_yes hv (by omega) W)
  have PL := Lib.hid (fun i (hi : i < N) => hv.lt hi)
  have HB := Lib.hid (below_alloc w)
  obtain ⟨G, hG⟩ : ∃ G : Nat → Nat, G = gth f o s := ⟨_, rfl⟩
  have HG := Lib.hid (fun i => show f (o + i * s) = G i by rw [hG]; rfl)
  rw [← hG]
  have X := Lib.hid X
  clear hG hv
  go_enter Tryd.func11, Tryd.ntmps11
  go_wp2_with fail
  refine (GO.out _).mono ?_
  rintro e w1 ⟨rfl, h1⟩
  have V1 := (Vi.fresh w o s N 24).below h1
  have b1 := (HB.out _).trans (h1.mono (HB.out _).size)
  have X1 := Lib.hid (X.out.step b1)
  have B1 := Lib.hid (fun (g : Nat → Nat) (N b : Nat) wr => rwE_of (w := w) (n := N) (b := b) (w' := wr) b1 (g := g) (h := g) (fun _ _ => rfl))
  clear X b1
  generalize w.heap.size = vb at *
  obtain ⟨k0, k1, k2⟩ := V1
  have V1 := Lib.hid (show Vi w1 vb o s N from ⟨k0, k1, k2⟩)
  have ST := Lib.hid (Bd.start (w := w1) (w1 := w1) (D := fun j => j < 0) G N (Below.refl _ _) 51 (fun j hj => by omega))
  clear h1 GO
  go_wp2_with fail
  go_loopw [18] (fun v18 wr => ∃ i : Nat, v18 = .int .i64 (i : Int) ∧ i ≤ N ∧ Bd G N w1.heap.size w1 wr (fun j => j < i)) (fun v18 _ => N - (Lib.intOf v18).toNat)
  case atStart => exact ⟨0, rfl, Nat.zero_le _, ST.out⟩
  case round =>
    obtain ⟨i, rfl, hi, BD⟩ := hrel
    clear ST mk k0 k1 k2
    have V2 := V1.out.below BD.bel
    obtain ⟨k0, k1, k2⟩ := V2
    by_cases hlt : i < N
    · have i1 : (i : Int) < N := by omega
      have hp := PL.out i hlt
      have hg := HG.out i
      have X2 := X1.out.below BD.bel
      obtain ⟨b, off, rfl, hB, c⟩ := X2.at_ (o + i * s) (by rw [rg_len]; exact hp)
      rw [rg_at _ _ _ hp, hg] at c
      obtain ⟨t, ht⟩ : ∃ t, t = i * s := ⟨_, rfl⟩
      rw [← ht] at hp c
      obtain ⟨p, hpp⟩ : ∃ p, p = o + t := ⟨_, rfl⟩
      rw [← hpp] at hp c
      have q1 : IntKind.i64.wrap ((i : Int) * (s : Int)) = (t : Int) := by rw [← Int.natCast_mul, ← ht]; exact IntWalk.i64_in _ (by omega)
      have q2 : IntKind.i64.wrap ((o : Int) + (t : Int)) = (p : Int) := by rw [IntKind.wrap_i64]; omega
      have PUT := Lib.hid (fun w1' (h : Bd G N w1.heap.size w1 w1' (fun j => j < i)) => h.put i hlt (D' := fun j => j < i + 1) (fun j hj => by omega))
      obtain ⟨⟨v, u0⟩, u1⟩ := BD.at_ i hlt
      have PU := Lib.hid (PUT.out _ BD)
      clear hg ht hpp PUT BD
      generalize G i = g at *
      go_wp2_with fail
      go_roundw
      case rel => exact ⟨i + 1, rfl, by omega, PU.out⟩
      case measure => simp [Lib.intOf]; omega
    · have i1 : ¬ (i : Int) < N := by omega
      obtain rfl : i = N := by omega
      have OK := Lib.hid (B1.out G i _ _ (Nat.le_refl _) BD.s (BD.wk (fun _ h => h)) BD.bel)
      clear BD
      go_wp2
      exact bodyPost_ret (v := .tuple #[.slice (some ⟨w1.heap.size, 0, none⟩) i i, .int .i64 0]) (by simp [results, Tryd.results11, go_sem]) rfl OK.out
set_option maxHeartbeats 400000 in
theorem gather_no (A : Option Addr) (n ca : Nat) (o s N : Int) (h : ¬ Gv o s N n) (hn : n ≤ 1048576) (w : World) :
    Calls Tryd.prog 11 #[.slice A n ca, .agg #[.int .i64 o, .int .i64 s, .int .i64 N]] w fun e w' => e = .returned (.tuple #[.slice none 0 0, .int .i64 2]) ∧ Below w.heap.size w w' := by
  have GO := Lib.hid (fun W => good_no h (by omega) W)
  have HB := Lib.hid (below_alloc w)
  clear h
  go_enter Tryd.func11, Tryd.ntmps11
  go_wp2_with fail
  refine (GO.out _).mono ?_
  rintro e w1 ⟨rfl, h1⟩
  have b1 := (HB.out _).trans (h1.mono (HB.out _).size)
  clear h1
  go_wp2
  go_ret2
  exact ⟨rfl, b1⟩
end Vw
end Go.Proofs.YtfjoacopnkceoaaDoor
set_option linter.unusedVariables false
namespace Go.Proofs.YtfjoacopnkceoaaDoor
open Go.RowKit Go.Lib Go.Sort
namespace Vw
open Nm Ww Tn Pl Td

set_option maxHeartbeats 400000 in
theorem rgood_low (o s N n : Int) (h : N < 0 ∨ 1048576 < N ∨ s < 1 ∨ o < 0) (w : World) :
    Calls Tryd.prog 9 #[.agg #[.int .i64 o, .int .i64 s, .int .i64 N], .int .i64 n] w fun e w' => e = .returned (.bool false) ∧ Below w.heap.size w w' := by
  have HB := Lib.hid (below_alloc w)
  by_cases h1 : N < 0
  · clear h
    go_enter Tryd.func9, Tryd.ntmps9
    go_wp2
    go_ret
    exact ⟨by simp [go_sem], HB.out _⟩
  by_cases h2 : 1048576 < N
  · clear h
    go_enter Tryd.func9, Tryd.ntmps9
    go_wp2
    go_ret
    exact ⟨by simp [go_sem], HB.out _⟩
  by_cases h3 : s < 1
  · clear h
    go_enter Tryd.func9, Tryd.ntmps9
    go_wp2
    go_ret
    exact ⟨by simp [go_sem], HB.out _⟩
  have h4 : o < 0 := by omega
  clear h
  go_enter Tryd.func9, Tryd.ntmps9
  go_wp2
  go_ret
  exact ⟨by simp [go_sem], HB.out _⟩

set_option maxHeartbeats 1000000 in
set_option maxRecDepth 100000 in
theorem rgood_core (o s : Int) (N n : Nat) (g : Bool) (P : Nat → Int) (hN : N ≤ 1048576) (hs : 1 ≤ s) (ho : 0 ≤ o) (hn : n ≤ 1048576) (hP : P 0 = o) (hPs : ∀ i, P (i + 1) = P i + s) (hP0 : ∀ i, 0 ≤ P i)
    (F1 : ∀ i, i < N → (n : Int) ≤ P i → g = false) (F0 : (0 < N → P (N - 1) < n) → g = true) (w : World) :
    Calls Tryd.prog 9 #[.agg #[.int .i64 o, .int .i64 s, .int .i64 (N : Int)], .int .i64 (n : Int)] w fun e w' => e = .returned (.bool g) ∧ Below w.heap.size w w' := by
  have h1 : ¬ (N : Int) < 0 := by omega
  have h2 : ¬ 1048576 < (N : Int) := by omega
  have h3 : ¬ s < 1 := by omega
  have h4 : ¬ o < 0 := by omega
  have HB := Lib.hid (below_alloc w)
  have F0 := Lib.hid F0
  have F1 := Lib.hid F1
  have HP := Lib.hid hP
  have PS := Lib.hid hPs
  have P0 := Lib.hid hP0
  clear hP hPs hP0
  go_enter Tryd.func9, Tryd.ntmps9
  go_wp2_with fail
  have V1 := Lib.hid (Vi.fresh w o s N 24)
  have B1 := Lib.hid (HB.out (.cells #[.int .i64 o, .int .i64 s, .int .i64 (N : Int)] 24))
  clear h1 h2 h4
  go_loopw [5, 6] (fun v5 v6 wr => ∃ (i : Nat) (a : Int), v6 = .int .i64 (i : Int) ∧ v5 = .int .i64 a ∧ i ≤ N ∧ (i < N → a = P i) ∧ (0 < i → P (i - 1) < n) ∧ Vi wr w.heap.size o s N ∧ Below w.heap.size w wr) (fun _ v6 _ => N - (Lib.intOf v6).toNat)
  case atStart => exact ⟨0, o, rfl, rfl, Nat.zero_le _, fun _ => HP.out.symm, fun h => by omega, V1.out, B1.out⟩
  case round =>
    obtain ⟨i, a, rfl, rfl, hi, ha, hl, V, hb⟩ := hrel
    clear V1 B1 HB
    obtain ⟨k0, k1, k2⟩ := V
    by_cases hlt : i < N
    · have i1 : (i : Int) < N := by omega
      obtain rfl := ha hlt
      have p0 := P0.out i
      have ps := Lib.hid (PS.out i)
      have f1 := Lib.hid (F1.out i hlt)
      have f2 := Lib.hid (fun h => F1.out (i + 1) h)
      obtain ⟨a, hA⟩ : ∃ a, a = P i := ⟨_, rfl⟩
      rw [← hA] at p0 ps f1 ⊢
      have HA := Lib.hid hA
      clear hA ha
      by_cases c1 : (n : Int) ≤ a
      · have := f1.out c1
        subst this
        go_wp2
        go_ret
        exact ⟨rfl, hb⟩
      · have s1 : IntKind.i64.wrap ((i : Int) + 1) = ((i + 1 : Nat) : Int) := by rw [IntKind.wrap_i64]; omega
        obtain ⟨j, hj⟩ : ∃ j, j = i + 1 := ⟨_, rfl⟩
        rw [← hj] at s1
        obtain ⟨x, hx⟩ : ∃ x, x = (n : Int) - a := ⟨_, rfl⟩
        have s2 : IntKind.i64.wrap ((n : Int) - a) = x := by rw [IntKind.wrap_i64]; omega
        by_cases c2 : (j : Int) < N
        · by_cases c3 : x < s
          · have : g = false := f2.out (by omega) (by rw [ps.out]; omega)
            subst this
            clear hx
            go_wp2
            go_ret
            exact ⟨rfl, hb⟩
          · have s3 : IntKind.i64.wrap (a + s) = P (i + 1) := by rw [ps.out, IntKind.wrap_i64]; omega
            have CL := Lib.hid (show P i < n by rw [← HA.out]; omega)
            obtain ⟨y, hy⟩ : ∃ y, y = P (i + 1) := ⟨_, rfl⟩
            rw [← hy] at s3
            have HY := Lib.hid hy
            have HJ := Lib.hid hj
            clear hx hy ps hj
            go_wp2_with fail
            go_roundw
            case rel => exact ⟨j, y, rfl, rfl, by omega, fun _ => by rw [HY.out, HJ.out], fun _ => by rw [HJ.out]; exact CL.out, ⟨k0, k1, k2⟩, hb⟩
            case measure => have := HJ.out; simp [Lib.intOf]; omega
        · obtain ⟨y, hy⟩ : ∃ y, y = IntKind.i64.wrap (a + s) := ⟨_, rfl⟩
          have s3 : IntKind.i64.wrap (a + s) = y := hy.symm
          have CL := Lib.hid (show P i < n by rw [← HA.out]; omega)
          have HJ := Lib.hid hj
          clear hx hy ps hj
          go_wp2_with fail
          go_roundw
          case rel => exact ⟨j, y, rfl, rfl, by have := HJ.out; omega, fun h => by omega, fun _ => by rw [HJ.out]; exact CL.out, ⟨k0, k1, k2⟩, hb⟩
          case measure => have := HJ.out; simp [Lib.intOf]; omega
    · have i1 : ¬ (i : Int) < N := by omega
      have : g = true := F0.out fun h => by
        have := hl (by omega)
        rwa [show i = N by omega] at this
      subst this
      clear ha hl
      go_wp2
      go_ret
      exact ⟨rfl, hb⟩
theorem rgood (o s N : Int) (n : Nat) (hn : n ≤ 1048576) (g : Bool) (hg : g = true ↔ Gv o s N n) (w : World) :
    Calls Tryd.prog 9 #[.agg #[.int .i64 o, .int .i64 s, .int .i64 N], .int .i64 (n : Int)] w fun e w' => e = .returned (.bool g) ∧ Below w.heap.size w w' := by
  by_cases c : N < 0 ∨ 1048576 < N ∨ s < 1 ∨ o < 0
  · have : g = false := by
      rw [← Bool.not_eq_true, hg]
      rintro ⟨h1, h2, h3, h4, _⟩
      omega
    subst this
    exact rgood_low o s N n c w
  obtain ⟨N', rfl⟩ := Int.eq_ofNat_of_zero_le (show 0 ≤ N by omega)
  refine rgood_core o s N' n g (fun i => o + i * s) (by omega) (by omega) (by omega) hn (by simp) (fun i => ?_) (fun i => ?_) (fun i hi h => ?_) (fun h => ?_) w
  · show o + ((i + 1 : Nat) : Int) * s = o + i * s + s
    rw [Int.natCast_succ, Int.add_mul, Int.one_mul, Int.add_assoc]
  · have : 0 ≤ (i : Int) * s := Int.mul_nonneg (by omega) (by omega)
    show 0 ≤ o + i * s
    omega
  · rw [← Bool.not_eq_true, hg]
    rintro ⟨h1, h2, h3, h4, h5⟩
    have : (i : Int) * s ≤ ((N' : Int) - 1) * s := Int.mul_le_mul_of_nonneg_right (by omega) (by omega)
    have h : (n : Int) ≤ o + i * s := h
    omega
  · refine hg.2 ⟨by omega, by omega, by omega, by omega, ?_⟩
    by_cases c0 : N' = 0
    · exact Or.inl (by omega)
    · have h : o + ((N' - 1 : Nat) : Int) * s < n := h (by omega)
      rw [Int.natCast_sub (by omega)] at h
      exact Or.inr h

/-- A row that was built word by word. -/
theorem rwA_ow {g : Nat → Nat} {n : Nat} {w w' : World} {v : Value} {base : Nat} (O : Ow w' base v (rg g n)) (hg : ∀ i, i < n → g i < 18446744073709551616) (hb : Below w.heap.size w w') : RwA g n w (.returned v) w' := by
  obtain ⟨A, ca, rfl, R⟩ := O.ws (fun i hi => by rw [rg_len] at hi; rw [rg_at _ _ _ hi]; exact hg i hi)
  exact ⟨A, ca, by rw [rg_len], R, hb⟩
theorem rg_lt {w : World} {B : Nat} {A : Option Addr} {f : Nat → Nat} {n : Nat} (X : Ws w B A (rg f n)) (i : Nat) (hi : i < n) : f i < 18446744073709551616 := by
  have := X.lt i (by rw [rg_len]; exact hi)
  rwa [rg_at _ _ _ hi] at this

set_option maxHeartbeats 1000000 in
set_option maxRecDepth 100000 in
theorem rgather (A : Option Addr) (n ca o s N : Nat) (f : Nat → Nat) (hv : Vg o s N n) (hn : n ≤ 1048576) (w : World) (X : Ws w w.heap.size A (rg f n)) :
    Calls Tryd.prog 14 #[.slice A n ca, .agg #[.int .i64 (o : Int), .int .i64 (s : Int), .int .i64 (N : Int)]] w (RwA (gth f o s) N w) := by
  have hN := hv.hN
  have PL := Lib.hid (fun i (hi : i < N) => hv.lt hi)
  have HB := Lib.hid (below_alloc w)
  have LT := Lib.hid (fun i (hi : i < N) => show gth f o s i < 18446744073709551616 from rg_lt X _ (hv.lt hi))
  obtain ⟨G, hG⟩ : ∃ G : Nat → Nat, G = gth f o s := ⟨_, rfl⟩
  have HG := Lib.hid (fun i => show f (o + i * s) = G i by rw [hG]; rfl)
  rw [← hG] at LT ⊢
  have SU := Lib.hid (rg_succ G)
  have LE := Lib.hid (rg_len G)
  have X := Lib.hid X
  clear hG hv
  go_enter Tryd.func14, Tryd.ntmps14
  go_wp2_with fail
  have V1 := Lib.hid (Vi.fresh w o s N 24)
  have B1 := Lib.hid (HB.out (.cells #[.int .i64 (o : Int), .int .i64 (s : Int), .int .i64 (N : Int)] 24))
  have X1 := Lib.hid (X.out.step B1.out)
  clear HB X
  generalize w.alloc (.cells #[.int .i64 (o : Int), .int .i64 (s : Int), .int .i64 (N : Int)] 24) = w1 at *
  have N0 := Lib.hid (Ow.nil_ w1 w1.heap.size)
  generalize hvb : w.heap.size = vb at V1
  clear hvb
  go_loopw [5, 6] (fun v5 v6 wr => ∃ i : Nat, v6 = .int .i64 (i : Int) ∧ i ≤ N ∧ Ow wr w1.heap.size v5 (rg G i) ∧ Below w1.heap.size w1 wr) (fun _ v6 _ => N - (Lib.intOf v6).toNat)
  case atStart => exact ⟨0, rfl, Nat.zero_le _, N0.out, Below.refl _ _⟩
  case round =>
    obtain ⟨i, rfl, hi, O, hbl⟩ := hrel
    clear N0
    obtain ⟨k0, k1, k2⟩ := V1.out.below hbl
    by_cases hlt : i < N
    · have i1 : (i : Int) < N := by omega
      have hp := PL.out i hlt
      have hg := HG.out i
      have X2 := X1.out.below hbl
      obtain ⟨b, off, rfl, hB, c⟩ := X2.at_ (o + i * s) (by rw [rg_len]; exact hp)
      rw [rg_at _ _ _ hp, hg] at c
      obtain ⟨t, ht⟩ : ∃ t, t = i * s := ⟨_, rfl⟩
      rw [← ht] at hp c
      obtain ⟨p, hpp⟩ : ∃ p, p = o + t := ⟨_, rfl⟩
      rw [← hpp] at hp c
      have q1 : IntKind.i64.wrap ((i : Int) * (s : Int)) = (t : Int) := by rw [← Int.natCast_mul, ← ht]; exact IntWalk.i64_in _ (by omega)
      have q2 : IntKind.i64.wrap ((o : Int) + (t : Int)) = (p : Int) := by rw [IntKind.wrap_i64]; omega
      have S := Lib.hid (SU.out i)
      have L := Lib.hid (LE.out i)
      clear hg ht hpp X2
      generalize G i = x at *
      go_wp2_with (at_builtin; go_loud (refine append1 (wr.alloc (.cells #[.int .u64 x] 51)) ?hgd (.tmp 13) (.tmp 24) ?ho w1.heap.size u5 (rg G i) ?hs (O.alloc _) wr.heap.size x ?hx (cut1 _ _ _) ?c1 ?c2 (fun v6 w2 O1 hg => ?_)); (case hgd => rfl); (case ho => rfl); (case hs => rfl); (case hx => rfl))
      case c1 => rw [L.out]; omega
      case c2 => have := hbl.size; simp; omega
      rw [S.out] at O1
      have b1 := (O.alloc _).grow (hbl.alloc hbl.size _) hg (by have := hbl.size; simp; omega)
      go_wp2_with fail
      go_roundw
      case rel => exact ⟨i + 1, rfl, by omega, O1, b1⟩
      case measure => simp [Lib.intOf]; omega
    · have i1 : ¬ (i : Int) < N := by omega
      obtain rfl : N = i := by omega
      have OK := Lib.hid (rwA_ow (w := w) O LT.out (B1.out.trans (hbl.mono B1.out.size)))
      go_wp2
      exact bodyPost_ret (v := u5) (by simp [results, Tryd.results14, go_sem]) rfl OK.out

set_option maxHeartbeats 400000 in
theorem log (k n : Nat) (hk : k ≤ 32) (hn : n = 2 ^ k) (w : World) :
    Calls Tryd.prog 32 #[.int .i64 (n : Int)] w fun e w' => e = .returned (.int .i64 (k : Int)) ∧ w = w' := by
  have P := Lib.hid (fun i (hi : i < k) => show (∃ m : Nat, m = 2 ^ (k - i) ∧ 1 < m ∧ m ≤ 4294967296 ∧ m / 2 = 2 ^ (k - (i + 1))) from
    ⟨_, rfl, Nat.one_lt_two_pow (by omega), Nat.le_trans (Nat.pow_le_pow_right (by decide) (show k - i ≤ 32 by omega)) (by decide), by
      rw [show k - i = k - (i + 1) + 1 by omega, Nat.pow_succ, Nat.mul_div_cancel _ (by decide)]⟩)
  have HN := Lib.hid hn
  clear hn
  go_enter Tryd.func32, Tryd.ntmps32
  go_wp2_with fail
  go_loopw [0, 3] (fun v0 v3 wr => ∃ i m : Nat, v3 = .int .i64 (i : Int) ∧ v0 = .int .i64 (m : Int) ∧ i ≤ k ∧ Hid (m = 2 ^ (k - i)) ∧ w = wr) (fun _ v3 _ => k - (Lib.intOf v3).toNat)
  case atStart => exact ⟨0, n, rfl, rfl, Nat.zero_le _, Lib.hid HN.out, rfl⟩
  case round =>
    obtain ⟨i, m, rfl, rfl, hi, hm, rfl⟩ := hrel
    by_cases hlt : i < k
    · obtain ⟨m', e, h1, h2, h3⟩ := P.out i hlt
      obtain rfl : m' = m := by rw [e, hm.out]
      have c1 : (1 : Int) < m' := by omega
      obtain ⟨q, hq⟩ : ∃ q, q = m' / 2 := ⟨_, rfl⟩
      have q1 : (m' : Int).tdiv 2 = (q : Int) := by rw [hq]; rfl
      have q2 : (m' : Int) / 2 = (q : Int) := by rw [hq]; rfl
      have q3 : IntKind.i64.wrap (q : Int) = (q : Int) := IntWalk.i64_in _ (by omega)
      have E := Lib.hid (hq.trans h3)
      clear e h3 hq P HN hm
      go_wp2_with fail
      go_roundw
      case rel => exact ⟨i + 1, q, rfl, rfl, by omega, Lib.hid E.out, trivial⟩
      case measure => simp [Lib.intOf]; omega
    · obtain rfl : i = k := by omega
      have : m = 1 := by rw [hm.out, Nat.sub_self]
      subst this
      go_wp2
      go_ret
      exact ⟨rfl, rfl⟩
end Vw
end Go.Proofs.YtfjoacopnkceoaaDoor
set_option linter.unusedVariables false
namespace Go.Proofs.YtfjoacopnkceoaaDoor
open Go.RowKit Go.Lib Go.Sort
namespace Vw
open Nm Ww Tn Pl Td Kn

set_option maxHeartbeats 400000 in
/-- Clone of no words. -/
theorem clone_none (A : Option Addr) (ca : Nat) (hA : A = none → ca = 0) (w : World) :
    Calls Tryd.prog 28 #[.slice A 0 ca] w fun e w' => ∃ A' ca', e = .returned (.slice A' 0 ca') ∧ (A' = none → ca' = 0) ∧ Below w.heap.size w w' := by
  cases A with
  | none =>
    have := hA rfl
    subst this
    have qn : ∀ (W : World), (binOp .eql 22 (.slice none 0 0) (.slice none 0 0)).run Tryd.prog W = .ok (.bool true) W := fun W => Lib.run_eql_slice_nil W _ _ _ _ _ _ _ Tryd.underlying22
    have B := Lib.hid (Below.refl w.heap.size w)
    go_enter Tryd.func28, Tryd.ntmps28
    go_wp2
    go_ret
    exact ⟨none, 0, rfl, fun _ => rfl, B.out⟩
  | some ad =>
    have O1 := Lib.hid (Ow.fresh w w.heap.size (Nat.le_refl _))
    have R1 := Lib.hid (Ws.nil_ (w.alloc (.cells #[] 51)) w.heap.size (some ad))
    have B1 := Lib.hid (below_alloc w (.cells #[] 51))
    have qn : ∀ (W : World), (binOp .eql 22 (.slice (some ad) 0 ca) (.slice none 0 0)).run Tryd.prog W = .ok (.bool false) W := fun W => Lib.run_eql_slice_nil W _ _ _ _ _ _ _ Tryd.underlying22
    go_enter Tryd.func28, Tryd.ntmps28
    go_wp2_with (at_builtin; (refine append_all (w.alloc (.cells #[] 51)) ?hgd (.tmp 5) (.tmp 6) ?ho w.heap.size (.slice (some ⟨w.heap.size, 0, none⟩) 0 0) [] ?hs O1.out w.heap.size (some ad) ca [] ?hx R1.out ?c3 ?c1 ?c2 (fun v7 w2 O2 hg => ?_)); (case hgd => rfl); (case ho => rfl); (case hs => rfl); (case hx => rfl))
    case c3 => intro h; cases h
    case c1 => simp
    case c2 => simp
    rw [List.nil_append] at O2
    have b2 := O1.out.grow B1.out hg B1.out.size
    obtain ⟨A', ca', rfl, R⟩ := O2.ws (fun i hi => by simp at hi)
    have hc : A' = none → ca' = 0 := by
      intro h
      subst h
      have O3 : (Value.slice none 0 ca' = .slice none 0 0 ∧ _) ∨ _ := O2.2
      rcases O3 with ⟨h, _⟩ | ⟨g, cap, cur, h, _⟩
      · injection h
      · cases h
    have F := Lib.hid b2
    have HC := Lib.hid hc
    clear O1 R1 B1 O2 hg b2 R hc
    go_wp2
    exact bodyPost_ret (v := .slice A' 0 ca') (by simp [results, Tryd.results28, go_sem]) rfl ⟨A', ca', rfl, HC.out, F.out⟩

set_option maxHeartbeats 400000 in
theorem scatter_no (A B : Option Addr) (n ca m cb : Nat) (o s N : Int) (h : ¬ Gv o s N n) (hn : n ≤ 1048576) (w : World) :
    Calls Tryd.prog 12 #[.slice A n ca, .agg #[.int .i64 o, .int .i64 s, .int .i64 N], .slice B m cb] w fun e w' => e = .returned (.int .i64 2) ∧ Below w.heap.size w w' := by
  have GO := Lib.hid (fun W => good_no h (by omega) W)
  have HB := Lib.hid (below_alloc w)
  clear h
  go_enter Tryd.func12, Tryd.ntmps12
  go_wp2_with fail
  refine (GO.out _).mono ?_
  rintro e w1 ⟨rfl, h1⟩
  have b1 := (HB.out _).trans (h1.mono (HB.out _).size)
  clear h1
  go_wp2
  go_ret
  exact ⟨rfl, b1⟩
set_option maxHeartbeats 400000 in
theorem scatter_len (A B : Option Addr) (n ca m cb o s N : Nat) (hv : Vg o s N n) (hm : m ≠ N) (hn : n ≤ 1048576) (w : World) :
    Calls Tryd.prog 12 #[.slice A n ca, .agg #[.int .i64 (o : Int), .int .i64 (s : Int), .int .i64 (N : Int)], .slice B m cb] w fun e w' => e = .returned (.int .i64 19) ∧ Below w.heap.size w w' := by
  have GO := Lib.hid (fun W => good_yes hv (by omega) W)
  have HB := Lib.hid (below_alloc w)
  have ne : ((m : Int) != N) = true := by simp; omega
  clear hv hm
  go_enter Tryd.func12, Tryd.ntmps12
  go_wp2_with fail
  refine (GO.out _).mono ?_
  rintro e w1 ⟨rfl, h1⟩
  have V1 := (Vi.fresh w o s N 24).below h1
  have b1 := (HB.out _).trans (h1.mono (HB.out _).size)
  obtain ⟨k0, k1, k2⟩ := V1
  clear h1 GO
  go_wp2
  go_ret
  exact ⟨rfl, b1⟩
set_option maxHeartbeats 400000 in
theorem scatter_zero (A B : Option Addr) (n ca cb o s : Nat) (hv : Vg o s 0 n) (hB : B = none → cb = 0) (hn : n ≤ 1048576) (w : World) :
    Calls Tryd.prog 12 #[.slice A n ca, .agg #[.int .i64 (o : Int), .int .i64 (s : Int), .int .i64 0], .slice B 0 cb] w fun e w' => e = .returned (.int .i64 0) ∧ Below w.heap.size w w' := by
  have GO := Lib.hid (fun W => good_yes hv (by omega) W)
  have CL := Lib.hid (fun W => clone_none B cb hB W)
  have HB := Lib.hid (below_alloc w)
  clear hv hB
  go_enter Tryd.func12, Tryd.ntmps12
  go_wp2_with fail
  refine (GO.out _).mono ?_
  rintro e w1 ⟨rfl, h1⟩
  have V1 := (Vi.fresh w o s 0 24).below h1
  have b1 := (HB.out _).trans (h1.mono (HB.out _).size)
  obtain ⟨k0, k1, k2⟩ := V1
  clear h1 GO
  go_wp2_with fail
  refine (CL.out _).mono ?_
  rintro e w2 ⟨A', ca', rfl, _, h2⟩
  have b2 := b1.trans (h2.mono b1.size)
  clear h2 CL b1
  go_wp2_with fail
  go_loopw [22] (fun v22 wr => v22 = .int .i64 0 ∧ wr = w2) (fun _ _ => 0)
  case atStart => exact ⟨rfl, rfl⟩
  case round =>
    obtain ⟨rfl, rfl⟩ := hrel
    go_wp2
    go_ret
    exact ⟨rfl, b2⟩

set_option maxHeartbeats 1000000 in
set_option maxRecDepth 100000 in
theorem scatter (b n ca o s N cb : Nat) (ad : Addr) (f g : Nat → Nat) (hv : Vg o s N n) (h0 : 0 < N) (hn : n ≤ 1048576) (w : World) (J : JR b n f w w) (X : Ws w w.heap.size (some ad) (rg g N)) :
    Calls Tryd.prog 12 #[.slice (some ⟨b, 0, none⟩) n ca, .agg #[.int .i64 (o : Int), .int .i64 (s : Int), .int .i64 (N : Int)], .slice (some ad) N cb] w fun e w' => e = .returned (.int .i64 0) ∧ JR b n (sct f o s g N) w w' := by
  have hN := hv.hN
  have GO := Lib.hid (fun W => good_yes hv (by omega) W)
  have CL := Lib.hid (fun W X => Kn.clone ad cb N (rg g N) (rg_len g N) h0 (by omega) W X)
  have PL := Lib.hid (fun i (hi : i < N) => hv.lt hi)
  have SS := Lib.hid (fun i => sct_succ f o s g i)
  have PG := Lib.hid (fun i (hi : i < N) => pl_rg g N i hi)
  have HB := Lib.hid (below_alloc w)
  have X := Lib.hid X
  have hbs := Lib.hid J.s
  have ne : ((N : Int) != N) = false := by simp
  have J := Lib.hid J
  clear hv
  go_enter Tryd.func12, Tryd.ntmps12
  go_wp2_with fail
  refine (GO.out _).mono ?_
  rintro e w1 ⟨rfl, h1⟩
  have V1 := (Vi.fresh w o s N 24).below h1
  have b1 := (HB.out _).trans (h1.mono (HB.out _).size)
  have X1 := Lib.hid (X.out.step b1)
  have J1 := Lib.hid (J.out.call b1)
  have hvb := Lib.hid (show w.heap.size ≠ b from Nat.ne_of_gt hbs.out)
  have hb1 := Lib.hid (show b < w1.heap.size from Nat.lt_of_lt_of_le hbs.out b1.size)
  clear J X hbs h1 GO HB b1
  generalize w.heap.size = vb at *
  obtain ⟨k0, k1, k2⟩ := V1
  have V1 := Lib.hid (show Vi w1 vb o s N from ⟨k0, k1, k2⟩)
  go_wp2_with fail
  refine (CL.out _ X1.out).mono ?_
  rintro e w2 ⟨g2, cg, rfl, hcg, hg1, hg2, K, h2⟩
  have V2 := Lib.hid (V1.out.below h2)
  have J2 := J1.out.call h2
  have JO := Lib.hid J2.o
  have J3 := Lib.hid (show JR b n (sct f o s g 0) w2 w2 from ⟨J2.k, But.refl _ _, J2.s⟩)
  have ng := Lib.hid (show g2 ≠ b by have := hb1.out; omega)
  have K := Lib.hid K
  have G2 := Lib.hid hg2
  clear V1 X1 J1 J2 CL h2 k0 k1 k2 hb1 hcg hg1 hg2
  go_wp2_with fail
  go_loopw [22] (fun v22 wr => ∃ i : Nat, v22 = .int .i64 (i : Int) ∧ i ≤ N ∧ JR b n (sct f o s g i) w2 wr) (fun v22 _ => N - (Lib.intOf v22).toNat)
  case atStart => exact ⟨0, rfl, Nat.zero_le _, J3.out⟩
  case round =>
    obtain ⟨i, rfl, hi, J⟩ := hrel
    clear J3
    obtain ⟨k0, k1, k2⟩ := V2.out.but hvb.out J.o
    by_cases hlt : i < N
    · have i1 : (i : Int) < N := by omega
      have hp := PL.out i hlt
      have c := (J.o.wk ng.out G2.out K.out).c i hlt
      rw [PG.out i hlt, Nat.zero_add] at c
      have PU := J.put (o + i * s) (g i) hp
      rw [← SS.out i] at PU
      obtain ⟨u0, u1⟩ := J.at_ (o + i * s) hp
      obtain ⟨t, ht⟩ : ∃ t, t = i * s := ⟨_, rfl⟩
      rw [← ht] at hp PU u0 u1
      obtain ⟨p, hpp⟩ : ∃ p, p = o + t := ⟨_, rfl⟩
      rw [← hpp] at hp PU u0 u1
      have q1 : IntKind.i64.wrap ((i : Int) * (s : Int)) = (t : Int) := by rw [← Int.natCast_mul, ← ht]; exact IntWalk.i64_in _ (by omega)
      have q2 : IntKind.i64.wrap ((o : Int) + (t : Int)) = (p : Int) := by rw [IntKind.wrap_i64]; omega
      have PU := Lib.hid PU
      clear ht hpp J
      generalize sct f o s g i p = z at *
      generalize g i = x at *
      go_wp2_with fail
      go_roundw
      case rel => exact ⟨i + 1, rfl, by omega, PU.out⟩
      case measure => simp [Lib.intOf]; omega
    · have i1 : ¬ (i : Int) < N := by omega
      obtain rfl : i = N := by omega
      have OK := Lib.hid (JR.trans JO.out J)
      clear J
      go_wp2
      go_ret
      exact ⟨rfl, OK.out⟩
end Vw
end Go.Proofs.YtfjoacopnkceoaaDoor
set_option linter.unusedVariables false
namespace Go.Proofs.YtfjoacopnkceoaaDoor
open Go.RowKit Go.Lib Go.Sort
namespace Vw
open Nm Ww Tn Pl Td Kn

set_option maxHeartbeats 1000000 in
set_option maxRecDepth 100000 in
theorem rscatter_zero (A B : Option Addr) (n ca cb o s : Nat) (f : Nat → Nat) (hA : A = none → ca = 0) (hn : n ≤ 1048576) (w : World) (R : Ws w w.heap.size A (rg f n)) :
    Calls Tryd.prog 15 #[.slice A n ca, .agg #[.int .i64 (o : Int), .int .i64 (s : Int), .int .i64 0], .slice B 0 cb] w (RwA f n w) := by
  have HA := Lib.hid hA
  have HB := Lib.hid (below_alloc w)
  have HXE := Lib.hid (show Value.slice A n ca = Value.slice A (rg f n).length ca by rw [rg_len])
  have HX := Lib.hid (rg_len f n)
  have RL := Lib.hid R.lt
  have R := Lib.hid R
  clear hA
  go_enter Tryd.func15, Tryd.ntmps15
  have b1 := HB.out (.cells #[.int .i64 (o : Int), .int .i64 (s : Int), .int .i64 0] 24)
  have V1 := Vi.fresh w o s 0 24
  go_upto_region 1 with fail
  generalize w.alloc (.cells #[.int .i64 (o : Int), .int .i64 (s : Int), .int .i64 0] 24) = w1 at *
  have O1 := Lib.hid (Ow.fresh w1 w1.heap.size (Nat.le_refl _))
  have R1 := Lib.hid ((R.out.step b1).alloc (Nat.le_refl _) (.cells #[] 51))
  have B1 := Lib.hid (below_alloc w1 (.cells #[] 51))
  have V1 := Lib.hid V1
  clear HB R
  go_wp2_with (at_builtin; (refine append_all (w1.alloc (.cells #[] 51)) ?hgd (.tmp 9) (.tmp 10) ?ho w1.heap.size (.slice (some ⟨w1.heap.size, 0, none⟩) 0 0) [] ?hs O1.out w1.heap.size A ca (rg f n) ?hx R1.out HA.out ?c1 ?c2 (fun v3 w3 OO hg => ?_)); (case hgd => rfl); (case ho => rfl); (case hs => rfl); (case hx => exact HXE.out))
  case c1 => rw [HX.out]; simp only [List.length_nil]; omega
  case c2 => simp
  obtain ⟨A3, k3, rfl, Y3, d3⟩ := copied HX.out RL.out O1.out B1.out OO hg
  obtain ⟨k0, k1, k2⟩ := V1.out.below d3
  have OK := Lib.hid (show RwA f n w (.returned (.slice A3 n k3)) w3 from ⟨A3, k3, rfl, Y3, b1.trans (d3.mono b1.size)⟩)
  clear O1 R1 B1 OO hg d3 V1 Y3 b1 HXE HX RL
  go_wp2_with fail
  go_loopw [8] (fun v8 wr => v8 = .int .i64 0 ∧ wr = w3) (fun _ _ => 0)
  case atStart => exact ⟨rfl, rfl⟩
  case round =>
    obtain ⟨rfl, rfl⟩ := hrel
    go_wp2
    exact bodyPost_ret (v := .slice A3 n k3) (by simp [results, Tryd.results15, go_sem]) rfl OK.out
set_option maxHeartbeats 1000000 in
set_option maxRecDepth 100000 in
theorem rscatter (A B : Option Addr) (n ca cb o s N : Nat) (f g : Nat → Nat) (hA : A = none → ca = 0) (hv : Vg o s N n) (h0 : 0 < N) (hn : n ≤ 1048576) (w : World) (R : Ws w w.heap.size A (rg f n)) (X : Ws w w.heap.size B (rg g N)) :
    Calls Tryd.prog 15 #[.slice A n ca, .agg #[.int .i64 (o : Int), .int .i64 (s : Int), .int .i64 (N : Int)], .slice B N cb] w (RwA (sct f o s g N) n w) := by
  have hN := hv.hN
  have N0 := Lib.hid (show 0 < n by have := hv.lt h0; omega)
  have PL := Lib.hid (fun i (hi : i < N) => hv.lt hi)
  have SS := Lib.hid (fun i => sct_succ f o s g i)
  have PG := Lib.hid (fun j (hj : j < n) => show Pn.pl (rg f n) j = sct f o s g 0 j from pl_rg f n j hj)
  have LT := Lib.hid (fun j (hj : j < n) => show sct f o s g N j < 18446744073709551616 from sct_lt j (rg_lt R j hj) N (fun i hi => rg_lt X i hi))
  have HA := Lib.hid hA
  have HB := Lib.hid (below_alloc w)
  have HXE := Lib.hid (show Value.slice A n ca = Value.slice A (rg f n).length ca by rw [rg_len])
  have HX := Lib.hid (rg_len f n)
  have R := Lib.hid R
  clear hA hv
  go_enter Tryd.func15, Tryd.ntmps15
  have b1 := HB.out (.cells #[.int .i64 (o : Int), .int .i64 (s : Int), .int .i64 (N : Int)] 24)
  have V1 := Vi.fresh w o s N 24
  go_upto_region 1 with fail
  generalize w.alloc (.cells #[.int .i64 (o : Int), .int .i64 (s : Int), .int .i64 (N : Int)] 24) = w1 at *
  have O1 := Lib.hid (Ow.fresh w1 w1.heap.size (Nat.le_refl _))
  have R1 := Lib.hid ((R.out.step b1).alloc (Nat.le_refl _) (.cells #[] 51))
  have B1 := Lib.hid (below_alloc w1 (.cells #[] 51))
  have V1 := Lib.hid V1
  have X1 := Lib.hid (X.step b1)
  clear HB R X
  go_wp2_with (at_builtin; (refine append_all (w1.alloc (.cells #[] 51)) ?hgd (.tmp 9) (.tmp 10) ?ho w1.heap.size (.slice (some ⟨w1.heap.size, 0, none⟩) 0 0) [] ?hs O1.out w1.heap.size A ca (rg f n) ?hx R1.out HA.out ?c1 ?c2 (fun v3 w3 OO hg => ?_)); (case hgd => rfl); (case ho => rfl); (case hs => rfl); (case hx => exact HXE.out))
  case c1 => rw [HX.out]; simp only [List.length_nil]; omega
  case c2 => simp
  obtain ⟨b3, k3, rfl, hk3, hb3, J3, d3⟩ := copied_wk HX.out N0.out O1.out B1.out OO hg
  have J3 := Lib.hid (J3.congr PG.out)
  have V3 := Lib.hid (V1.out.below d3)
  have X3 := Lib.hid (X1.out.below d3)
  have hvb := Lib.hid (show w.heap.size < b3 by have := V1.out.lt; omega)
  have D3 := Lib.hid (b1.trans (d3.mono b1.size))
  clear O1 R1 B1 OO hg d3 V1 X1 b1 HXE HX PG
  have HL := Lib.hid (Nat.le_of_lt hvb.out)
  generalize hvv : w.heap.size = vb at V3 hvb
  clear hvv
  go_wp2_with fail
  go_loopw [8] (fun v8 wr => ∃ i : Nat, v8 = .int .i64 (i : Int) ∧ i ≤ N ∧ JR b3 n (sct f o s g i) w3 wr) (fun v8 _ => N - (Lib.intOf v8).toNat)
  case atStart => exact ⟨0, rfl, Nat.zero_le _, J3.out⟩
  case round =>
    obtain ⟨i, rfl, hi, J⟩ := hrel
    clear J3
    obtain ⟨k0, k1, k2⟩ := V3.out.low hvb.out J.bel
    by_cases hlt : i < N
    · have i1 : (i : Int) < N := by omega
      have hp := PL.out i hlt
      have X4 := X3.out.below (J.bel.mono hb3)
      obtain ⟨xb, xo, rfl, hB, c⟩ := X4.at_ i (by rw [rg_len]; exact hlt)
      rw [rg_at _ _ _ hlt] at c
      have PU := J.drew.put (o + i * s) (g i) hp
      rw [← SS.out i] at PU
      obtain ⟨u0, u1⟩ := J.at_ (o + i * s) hp
      obtain ⟨t, ht⟩ : ∃ t, t = i * s := ⟨_, rfl⟩
      rw [← ht] at hp PU u0 u1
      obtain ⟨p, hpp⟩ : ∃ p, p = o + t := ⟨_, rfl⟩
      rw [← hpp] at hp PU u0 u1
      have q1 : IntKind.i64.wrap ((i : Int) * (s : Int)) = (t : Int) := by rw [← Int.natCast_mul, ← ht]; exact IntWalk.i64_in _ (by omega)
      have q2 : IntKind.i64.wrap ((o : Int) + (t : Int)) = (p : Int) := by rw [IntKind.wrap_i64]; omega
      have PT := Lib.hid (fun (wx : World) (h : JR b3 n (sct f o s g i) w3 wx) => show JR b3 n (sct f o s g (i + 1)) w3 (wx.setCell ⟨b3, p, none⟩ (.int .u64 (g i : Nat))) by
        have := h.put p (g i) hp
        rw [SS.out i, ← ht, ← hpp]; exact this)
      have JH := Lib.hid J
      have l0 : wr.drew.cell? ⟨xb, xo + i, none⟩ = some (.int .u64 (g i : Nat)) := c
      have l1 : wr.drew.cell? ⟨vb, 0, none⟩ = some (.int .i64 (o : Int)) := k0
      have l2 : wr.drew.cell? ⟨vb, 1, none⟩ = some (.int .i64 (s : Int)) := k1
      have l3 : wr.drew.cell? ⟨b3, p, none⟩ = some (.int .u64 (sct f o s g i p : Nat)) := u0
      have l4 : wr.drew.frozen? ⟨b3, p, none⟩ = false := u1
      clear ht hpp J X4 PU
      generalize sct f o s g i p = z at *
      generalize g i = x at *
      go_upto_region 5 with fail
      go_region
      go_wp2_with fail
      go_roundw
      case rel => exact ⟨i + 1, rfl, by omega, by first | exact PT.out _ (JH.out.drewN _) | exact PT.out _ JH.out.drew⟩
      case measure => simp [Lib.intOf]; omega
    · have i1 : ¬ (i : Int) < N := by omega
      obtain rfl : i = N := by omega
      have OK := Lib.hid (show RwA (sct f o s g i) n w (.returned (.slice (some ⟨b3, 0, none⟩) n k3)) wr from ⟨_, _, rfl, J.k.ws LT.out J.s, D3.out.trans (J.bel.mono HL.out)⟩)
      clear J
      go_wp2
      exact bodyPost_ret (v := .slice (some ⟨b3, 0, none⟩) n k3) (by simp [results, Tryd.results15, go_sem]) rfl OK.out
end Vw
end Go.Proofs.YtfjoacopnkceoaaDoor
set_option linter.unusedVariables false
namespace Go.Proofs.YtfjoacopnkceoaaDoor
open Go.RowKit Go.Lib Go.Sort
namespace Vw
open Nm Ww Tn Pl Td Kn

/-- What a drawn region reads of a view in memory, in all worlds behind w. -/
structure Vk (w : World) (b : Nat) (p q r : Int) (wr : World) : Prop where
  v : Vi wr b p q r
  d : Below w.heap.size w wr
section
variable {w wr w1 : World} {b : Nat} {p q r : Int}
theorem Vk.drew (h : Vk w b p q r wr) : Vk w b p q r wr.drew := ⟨⟨h.v.c0, h.v.c1, h.v.c2⟩, h.d.drew⟩
theorem Vk.call (h : Vk w b p q r wr) (hb : Below wr.heap.size wr w1) : Vk w b p q r w1 := ⟨h.v.below hb, h.d.trans (hb.mono h.d.size)⟩
theorem Vk.all (h : Vk w b p q r wr) : wr.cell? ⟨b, 0, none⟩ = some (.int .i64 p) ∧ wr.cell? ⟨b, 1, none⟩ = some (.int .i64 q) ∧ wr.cell? ⟨b, 2, none⟩ = some (.int .i64 r) ∧ Vk w b p q r wr := ⟨h.v.c0, h.v.c1, h.v.c2, h⟩
end
set_option maxHeartbeats 2000000 in
set_option maxRecDepth 100000 in
theorem rrun (A : Option Addr) (n ca o s N k d : Nat) (f : Nat → Nat) (hA : A = none → ca = 0) (hv : Vg o s N n) (hN : N = 2 ^ k) (hk : k ≤ 20) (hd : d ≤ 1) (hn : n ≤ 1048576) (w : World) (R : Ws w w.heap.size A (rg f n)) :
    Calls Tryd.prog 18 #[.slice A n ca, .agg #[.int .i64 (o : Int), .int .i64 (s : Int), .int .i64 (N : Int)], .int .i64 (d : Int)] w (RwA (vt k d f o s N) n w) := by
  have h0 : 0 < N := by rw [hN]; exact Nat.two_pow_pos k
  have GA := Lib.hid (fun W R => rgather A n ca o s N f hv hn W R)
  have LG := Lib.hid (fun W => log k N (by omega) hN W)
  have TR := Lib.hid (fun (A : Option Addr) ca W R => show Calls Tryd.prog 25 #[.slice A N ca, .int .i64 (k : Int), .int .i64 (d : Int)] W (RwA (ft k d (gth f o s)) N W) from
    (rtransform A ca N k d (rg (gth f o s) N) (rg_len _ _) hv.hN (by omega) hd hN W R).mono fun e w' ⟨A', ca', he, R', hb⟩ => ⟨A', ca', he, by
      rw [rg_congr N (fun i _ => ft_congr (k := k) (fun j hj => pl_rg (gth f o s) N j (by omega)) d i)] at R'
      exact R', hb⟩)
  have SC := Lib.hid (fun (B : Option Addr) cb W R X => show Calls Tryd.prog 15 #[.slice A n ca, .agg #[.int .i64 (o : Int), .int .i64 (s : Int), .int .i64 (N : Int)], .slice B N cb] W (RwA (vt k d f o s N) n W) from
    rscatter A B n ca cb o s N f (ft k d (gth f o s)) hA hv h0 hn W R X)
  have HB := Lib.hid (below_alloc w)
  have R := Lib.hid R
  clear hA hv hN h0
  generalize vt k d f o s N = vf at *
  generalize ft k d (gth f o s) = tf at *
  generalize gth f o s = gf at *
  go_enter Tryd.func18, Tryd.ntmps18
  go_upto_region 1 with fail
  have V1 := Vi.fresh w o s N 24
  have b1 := HB.out (.cells #[.int .i64 (o : Int), .int .i64 (s : Int), .int .i64 (N : Int)] 24)
  have R1 := R.out.step b1
  clear HB R
  generalize w.alloc (.cells #[.int .i64 (o : Int), .int .i64 (s : Int), .int .i64 (N : Int)] 24) = w1 at *
  have OK := Lib.hid (fun wx (v : Value) (h : RwA vf n w1 (.returned v) wx) => show RwA vf n w (.returned v) wx by
    obtain ⟨A', ca', e, h1, h2⟩ := h
    exact ⟨A', ca', e, h1, b1.trans (h2.mono b1.size)⟩)
  generalize w.heap.size = vb at V1
  have M := (show Vk w1 vb o s N w1 from ⟨V1, Below.refl _ _⟩)
  have R2 := Lib.hid R1
  have OK2 := Lib.hid (fun wx w3 (v : Value) A' ca' (e : v = .slice A' n ca') (h : Ws wx wx.heap.size A' (rg vf n)) (h2 : Below w3.heap.size w3 wx) (h3 : Vk w1 vb o s N w3) => OK.out wx v ⟨A', ca', by rw [e], h, h3.d.trans (h2.mono h3.d.size)⟩)
  clear R1 b1 V1 OK
  go_cut [6] (fun v6 wx => RwA vf n w (.returned v6) wx)
  case first =>
    go_region_held3 (fun w' => w'.cell? ⟨vb, 0, none⟩ = some (.int .i64 (o : Int)) ∧ w'.cell? ⟨vb, 1, none⟩ = some (.int .i64 (s : Int)) ∧ w'.cell? ⟨vb, 2, none⟩ = some (.int .i64 (N : Int)) ∧ Vk w1 vb o s N w')
      (exact Vk.all (by repeat (first | with_reducible exact M | with_reducible refine Vk.drew ?_ | with_reducible refine Vk.call ?_ h5 | with_reducible refine Vk.call ?_ h3 | with_reducible refine Vk.call ?_ h2)))
      (first
        | (go_at_call 14; refine (GA.out _ (R2.out.step M.drew.d)).mono ?_; rintro e w2 ⟨A2, c2, rfl, Y2, h2⟩)
        | (go_at_call 32; refine (LG.out _).mono ?_; rintro e w' ⟨rfl, rfl⟩)
        | (go_at_call 25; refine (TR.out _ _ _ Y2).mono ?_; rintro e w3 ⟨A3, c3, rfl, Y3, h3⟩)
        | (go_at_call 15; refine (SC.out _ _ _ (R2.out.step ((M.drew.call h2).call h3).d) Y3).mono ?_; rintro e w5 ⟨A5, c5, rfl, Y5, h5⟩))
    all_goals (go_wp2_with fail; go_meet)
    all_goals exact OK2.out _ _ _ _ _ rfl Y5 h5 ((M.drew.call h2).call h3)
  case rest =>
    obtain ⟨A5, c5, e5, Y5, h6⟩ := hcut
    injection e5 with e5
    subst e5
    have F := Lib.hid (show RwA vf n w (.returned (.slice A5 n c5)) wc from ⟨A5, c5, rfl, Y5, h6⟩)
    clear OK2 Y5 h6 M
    go_wp2
    exact bodyPost_ret (v := .slice A5 n c5) (by simp [results, Tryd.results18, go_sem]) rfl F.out
end Vw
end Go.Proofs.YtfjoacopnkceoaaDoor
