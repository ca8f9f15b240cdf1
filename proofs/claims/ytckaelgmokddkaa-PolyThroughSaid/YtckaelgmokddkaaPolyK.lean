/- Rows of rows that are being written; what the loops of poly.Through keep. -/
import Derived.Test.YtckaelgmokddkaaPolyJ
import Derived.Test.YtckaelgmokddkaaGoldI
set_option linter.unusedVariables false
namespace Go.Proofs.Ytckaelgmokddkaa
open Go.RowKit Go.Lib Go.Sort
namespace Pl
open Ww Pn Nt

theorem infoR : (Try.prog.info? 22).map (fun i => (i.zero, i.size, i.bytes)) = some (some (.slice none 0 0), 1, 24) := by kernel_rfl
theorem make_rows (n : Nat) (hn : 24 * n ≤ 281474976710656) (h63 : n ≤ 9223372036854775807) (w : World) :
    (Instr.makeSlice 46 (.int .i64 (n : Int)) (.int .i64 (n : Int))).run Try.prog w = .ok (.slice (some ⟨w.heap.size, 0, none⟩) n n) (w.alloc (.cells (madeCells #[.slice none 0 0] n) 22)) :=
  run_make_row' (P := Try.prog) 46 22 _ 24 Try.underlying46 infoR rfl .i64 .i64 n hn h63 w
theorem ws_new {w : World} {B B0 : Nat} {A : Option Addr} {xs : List Nat} (h : Ws w B0 A xs) (hN : New B A) {p : Addr} (hp : p.block < B) (u : Value) : Ws (w.setCell p u) B0 A xs :=
  ⟨fun i hi => by
    obtain ⟨b, off, e, hB, c⟩ := h.at_ i hi
    have h1 : B ≤ b := hN _ e
    exact ⟨b, off, e, hB, by rw [World.cell?_setCell_other w p _ u (fun e2 => by subst e2; exact absurd hp (by show ¬ b < B; omega))]; exact c⟩, h.lt⟩

/-- A block of rows that may be written; the rows at D are L's, and lie in no block below B. -/
structure Rk (b n B : Nat) (L : Nat → List Nat) (D : Nat → Prop) (wr : World) : Prop where
  c : ∀ j, j < n → (∃ v, wr.cell? ⟨b, j, none⟩ = some v) ∧ wr.frozen? ⟨b, j, none⟩ = false
  r : ∀ j, j < n → D j → ∃ (Aj : Option Addr) (cj : Nat), wr.cell? ⟨b, j, none⟩ = some (.slice Aj (L j).length cj) ∧ Ws wr wr.heap.size Aj (L j) ∧ New B Aj
  s : b < wr.heap.size
  lt : b < B
section
variable {b n B : Nat} {L L' : Nat → List Nat} {D D' : Nat → Prop} {wr w1 : World}
theorem Rk.made (w : World) (n : Nat) (t : TypeId) (hB : w.heap.size < B) (hD : ∀ j, ¬ D j) : Rk w.heap.size n B L D (w.alloc (.cells (madeCells #[.slice none 0 0] n) t)) :=
  ⟨fun j hj => ⟨⟨.slice none 0 0, by simp [go_sem, madeCells, hj, Nat.mod_one]⟩, by simp [go_sem]⟩, fun j _ h => absurd h (hD j), by simp, hB⟩
theorem Rk.step (h : Rk b n B L D wr) (hc : Below wr.heap.size wr w1) : Rk b n B L D w1 := by
  refine ⟨fun j hj => ?_, fun j hj hD => ?_, Nat.lt_of_lt_of_le h.s hc.size, h.lt⟩
  · obtain ⟨⟨v, c⟩, z⟩ := h.c j hj
    exact ⟨⟨v, (hc.cell (p := ⟨b, j, none⟩) h.s).trans c⟩, (hc.frozen (p := ⟨b, j, none⟩) h.s).trans z⟩
  · obtain ⟨Aj, cj, c, R, N⟩ := h.r j hj hD
    exact ⟨Aj, cj, (hc.cell (p := ⟨b, j, none⟩) h.s).trans c, R.step hc, N⟩
theorem Rk.drew (h : Rk b n B L D wr) : Rk b n B L D wr.drew :=
  ⟨h.c, fun j hj hD => by
    obtain ⟨Aj, cj, c, R, N⟩ := h.r j hj hD
    exact ⟨Aj, cj, c, R.drew, N⟩, h.s, h.lt⟩
theorem Rk.put (h : Rk b n B L D wr) (i : Nat) (hi : i < n) {A : Option Addr} (ca : Nat) (R : Ws wr wr.heap.size A (L' i)) (N : New B A) (hL : ∀ j, j ≠ i → L' j = L j) (hD : ∀ j, D' j → D j ∨ j = i) :
    Rk b n B L' D' (wr.setCell ⟨b, i, none⟩ (.slice A (L' i).length ca)) := by
  refine ⟨fun j hj => ?_, fun j hj hj2 => ?_, by simp [World.setCell]; exact h.s, h.lt⟩
  · obtain ⟨⟨v, c⟩, z⟩ := h.c j hj
    refine ⟨?_, by rw [World.frozen?_setCell]; exact z⟩
    by_cases e : j = i
    · subst e
      exact ⟨_, World.cell?_setCell_same _ _ _ c⟩
    · exact ⟨v, by rw [World.cell?_setCell_other wr _ _ _ (by simp <;> omega)]; exact c⟩
  · have hs : (wr.setCell ⟨b, i, none⟩ (.slice A (L' i).length ca)).heap.size = wr.heap.size := by simp [World.setCell]
    by_cases e : j = i
    · subst e
      obtain ⟨⟨v, c⟩, _⟩ := h.c j hj
      exact ⟨A, ca, World.cell?_setCell_same _ _ _ c, by rw [hs]; exact ws_new R N h.lt _, N⟩
    · obtain ⟨Aj, cj, c, R2, N2⟩ := h.r j hj ((hD j hj2).resolve_right e)
      rw [hL j e]
      exact ⟨Aj, cj, by rw [World.cell?_setCell_other wr _ _ _ (by simp <;> omega)]; exact c, by rw [hs]; exact ws_new R2 N2 h.lt _, N2⟩
theorem Rk.other (h : Rk b n B L D wr) {p : Addr} (hp : p.block ≠ b) (hB : p.block < B) (u : Value) : Rk b n B L D (wr.setCell p u) := by
  have hs : (wr.setCell p u).heap.size = wr.heap.size := by simp [World.setCell]
  refine ⟨fun j hj => ?_, fun j hj hD => ?_, by rw [hs]; exact h.s, h.lt⟩
  · obtain ⟨⟨v, c⟩, z⟩ := h.c j hj
    exact ⟨⟨v, by rw [World.cell?_setCell_other wr p _ _ (fun e => by subst e; exact hp rfl)]; exact c⟩, by rw [World.frozen?_setCell]; exact z⟩
  · obtain ⟨Aj, cj, c, R, N⟩ := h.r j hj hD
    exact ⟨Aj, cj, by rw [World.cell?_setCell_other wr p _ _ (fun e => by subst e; exact hp rfl)]; exact c, by rw [hs]; exact ws_new R N hB _, N⟩
theorem Rk.congr (h : Rk b n B L D wr) (hL : ∀ j, j < n → L' j = L j) (hD : ∀ j, j < n → D' j → D j) : Rk b n B L' D' wr :=
  ⟨h.c, fun j hj hj2 => by rw [hL j hj]; exact h.r j hj (hD j hj hj2), h.s, h.lt⟩
theorem Rk.rs (h : Rk b n B L D wr) (hD : ∀ j, j < n → D j) (ls : List (List Nat)) (hl : ls.length = n) (hL : ∀ j, j < n → ls.getD j [] = L j) : Rs wr wr.heap.size (some ⟨b, 0, none⟩) ls :=
  ⟨fun i hi => by
    obtain ⟨Ai, ci, c, R, _⟩ := h.r i (by omega) (hD i (by omega))
    exact ⟨b, 0, Ai, ci, rfl, h.s, by rw [Nat.zero_add, hL i (by omega)]; exact c, by rw [hL i (by omega)]; exact R⟩⟩
end

/-- The first loop: i parts are there, k values. -/
structure T1 (xs : List Nat) (As : Option Addr) (bp i k : Nat) (w wr : World) : Prop where
  p : Rk bp xs.length (bp + 2) (pt xs) (fun j => j < i) wr
  v : ∃ f, Wk wr (bp + 1) 0 xs.length f ∧ ∀ j, j < k → f j = ptv xs j
  a : Ws wr bp As (frl xs xs.length)
  s : bp + 1 < wr.heap.size
  hb : w.heap.size ≤ bp
  bel : Below w.heap.size w wr
section
variable {xs : List Nat} {As : Option Addr} {bp i k : Nat} {w wr w1 : World}
theorem T1.start (hw : Below w.heap.size w w1) (a : Ws w1 w1.heap.size As (frl xs xs.length)) (t1 t2 : TypeId) :
    T1 xs As w1.heap.size 0 0 w ((w1.alloc (.cells (madeCells #[.slice none 0 0] xs.length) t1)).alloc (.cells (madeCells #[.int .u64 0] xs.length) t2)) := by
  have b1 := below_alloc w1 (.cells (madeCells #[.slice none 0 0] xs.length) t1)
  have b2 := below_alloc (w1.alloc (.cells (madeCells #[.slice none 0 0] xs.length) t1)) (.cells (madeCells #[.int .u64 0] xs.length) t2)
  have e := Wk.made (w1.alloc (.cells (madeCells #[.slice none 0 0] xs.length) t1)) xs.length t2
  have hs : (w1.alloc (.cells (madeCells #[.slice none 0 0] xs.length) t1)).heap.size = w1.heap.size + 1 := by simp
  rw [hs] at e
  have b3 := b1.trans (b2.mono b1.size)
  exact ⟨(Rk.made w1 xs.length t1 (by omega) (fun j => Nat.not_lt_zero j)).step b2, ⟨_, e, fun j hj => absurd hj (Nat.not_lt_zero j)⟩, a.below b3, by simp, hw.size, hw.trans (b3.mono hw.size)⟩
theorem T1.call (h : T1 xs As bp i k w wr) (hc : Below wr.heap.size wr w1) : T1 xs As bp i k w w1 := by
  obtain ⟨f, K, hf⟩ := h.v
  have s := h.s
  exact ⟨h.p.step hc, ⟨f, K.step hc, hf⟩, h.a.below (hc.mono (by omega)), Nat.lt_of_lt_of_le s hc.size, h.hb, h.bel.trans (hc.mono h.bel.size)⟩
theorem T1.row (h : T1 xs As bp i k w wr) (hi : i < xs.length) {A : Option Addr} (ca : Nat) (R : Ws wr wr.heap.size A (pt xs i)) (N : New (bp + 2) A) : T1 xs As bp (i + 1) k w (wr.setCell ⟨bp, i, none⟩ (.slice A (pt xs i).length ca)) := by
  obtain ⟨f, K, hf⟩ := h.v
  exact ⟨h.p.put i hi ca R N (fun _ _ => rfl) (fun j hj => by omega), ⟨f, K.other (a := ⟨bp, i, none⟩) (by show bp ≠ bp + 1; omega) _, hf⟩, h.a.setCell (p := ⟨bp, i, none⟩) (Nat.le_refl _) _, by simp [World.setCell]; exact h.s, h.hb, h.bel.setCell (p := ⟨bp, i, none⟩) h.hb _⟩
theorem T1.val (h : T1 xs As bp i k w wr) (hk : k < xs.length) : T1 xs As bp i (k + 1) w (wr.setCell ⟨bp + 1, k, none⟩ (.int .u64 (ptv xs k : Nat))) := by
  obtain ⟨f, K, hf⟩ := h.v
  have K1 := K.put k (ptv xs k) hk
  rw [Nat.zero_add] at K1
  have hb := h.hb
  refine ⟨h.p.other (p := ⟨bp + 1, k, none⟩) (by show bp + 1 ≠ bp; omega) (by show bp + 1 < bp + 2; omega) _, ⟨_, K1, fun j hj => ?_⟩, h.a.setCell (p := ⟨bp + 1, k, none⟩) (by show bp ≤ bp + 1; omega) _, by simp [World.setCell]; exact h.s, hb, h.bel.setCell (p := ⟨bp + 1, k, none⟩) (by show w.heap.size ≤ bp + 1; omega) _⟩
  by_cases e : j = k
  · subst e; rw [upd_same]
  · rw [upd_other _ _ _ e]; exact hf j (by omega)
theorem T1.at_v (h : T1 xs As bp i k w wr) (j : Nat) (hj : j < xs.length) : (∃ v : Nat, wr.cell? ⟨bp + 1, j, none⟩ = some (.int .u64 (v : Nat))) ∧ wr.frozen? ⟨bp + 1, j, none⟩ = false := by
  obtain ⟨f, K, hf⟩ := h.v
  have c := K.c j hj
  have z := K.z j hj
  rw [Nat.zero_add] at c z
  exact ⟨⟨_, c⟩, z⟩
theorem T1.vals (h : T1 xs As bp i xs.length w wr) : Ws wr wr.heap.size (some ⟨bp + 1, 0, none⟩) (rg (ptv xs) xs.length) := by
  obtain ⟨f, K, hf⟩ := h.v
  have := K.ws (fun j hj => by rw [hf j hj]; exact mod64 _) h.s
  rw [show (List.range xs.length).map f = rg (ptv xs) xs.length from rg_congr xs.length hf] at this
  exact this
end
/-- The second loop: i parts are scaled. -/
structure T2 (xs : List Nat) (c f : Nat → Nat) (bp bi i : Nat) (w wr : World) : Prop where
  p : Rk bp xs.length (bp + 2) (fun j => if j < i then ps xs c j else pt xs j) (fun _ => True) wr
  v : Wk wr bi 0 xs.length f
  s : bi < wr.heap.size
  ne : bp + 2 ≤ bi
  hb : w.heap.size ≤ bp
  bel : Below w.heap.size w wr
section
variable {xs : List Nat} {c f : Nat → Nat} {As : Option Addr} {bp bi i k : Nat} {w wr w1 : World}
theorem T2.start (h : T1 xs As bp xs.length k w wr) (c : Nat → Nat) (hc : Below wr.heap.size wr w1) (K : Wk w1 wr.heap.size 0 xs.length f) (hs : wr.heap.size < w1.heap.size) : T2 xs c f bp wr.heap.size 0 w w1 := by
  have s := h.s
  exact ⟨(h.p.step hc).congr (fun j hj => if_neg (Nat.not_lt_zero j)) (fun j hj _ => hj), K, hs, by omega, h.hb, h.bel.trans (hc.mono h.bel.size)⟩
theorem T2.call (h : T2 xs c f bp bi i w wr) (hc : Below wr.heap.size wr w1) : T2 xs c f bp bi i w w1 :=
  ⟨h.p.step hc, h.v.step hc, Nat.lt_of_lt_of_le h.s hc.size, h.ne, h.hb, h.bel.trans (hc.mono h.bel.size)⟩
theorem T2.drew (h : T2 xs c f bp bi i w wr) : T2 xs c f bp bi i w wr.drew := ⟨h.p.drew, h.v.drew, h.s, h.ne, h.hb, h.bel.drew⟩
theorem T2.row (h : T2 xs c f bp bi i w wr) (hi : i < xs.length) {A : Option Addr} (ca : Nat) (R : Ws wr wr.heap.size A (ps xs c i)) (N : New (bp + 2) A) : T2 xs c f bp bi (i + 1) w (wr.setCell ⟨bp, i, none⟩ (.slice A (ps xs c i).length ca)) := by
  have e : (if i < i + 1 then ps xs c i else pt xs i) = ps xs c i := if_pos (Nat.lt_succ_self i)
  have ne := h.ne
  have P1 := h.p.put (L' := fun j => if j < i + 1 then ps xs c j else pt xs j) (D' := fun _ => True) i hi ca (by rw [e]; exact R) N (fun j hj => by
    by_cases h1 : j < i
    · simp [h1, show j < i + 1 by omega]
    · simp [h1, show ¬ j < i + 1 by omega]) (fun j _ => Or.inl trivial)
  rw [e] at P1
  exact ⟨P1, h.v.other (a := ⟨bp, i, none⟩) (by show bp ≠ bi; omega) _, by simp [World.setCell]; exact h.s, ne, h.hb, h.bel.setCell (p := ⟨bp, i, none⟩) h.hb _⟩
theorem T2.at_p (h : T2 xs c f bp bi i w wr) (hi : i < xs.length) : ∃ (Aj : Option Addr) (cj : Nat), wr.cell? ⟨bp, i, none⟩ = some (.slice Aj xs.length cj) ∧ Ws wr wr.heap.size Aj (pt xs i) ∧ New (bp + 2) Aj := by
  have h1 := h.p.r i hi trivial
  simp only [Nat.lt_irrefl, if_false, pt_len] at h1
  exact h1
theorem T2.at_v (h : T2 xs c f bp bi i w wr) (j : Nat) (hj : j < xs.length) : wr.cell? ⟨bi, j, none⟩ = some (.int .u64 (f j : Nat)) := by
  have c := h.v.c j hj
  rwa [Nat.zero_add] at c
theorem T2.rs (h : T2 xs c f bp bi xs.length w wr) : Rs wr wr.heap.size (some ⟨bp, 0, none⟩) (psl xs c) :=
  h.p.rs (fun _ _ => trivial) (psl xs c) (psl_len xs c) fun j hj => by rw [psl_at xs c j hj, if_pos hj]
end
end Pl
end Go.Proofs.Ytckaelgmokddkaa
