/- Rows of words in memory: a slice that holds the words of a list; a block of one's own that holds them; how an argument of type []uint64 is opened. -/
import Derived.Test.YtinachlkaochdaaDoorChecked
import Derived.WalkKit
import Derived.ProofKit
import Derived.OpenShut
import Derived.Deep.Slices
import Derived.Deep.Draws
import Derived.Deep.OwnRows
import Derived.Deep.QuietTactic
import Derived.BigQuiet
import Derived.Below
import Derived.Lib.Hide
set_option linter.unusedVariables false
namespace Go.Proofs.YtinachlkaochdaaDoor
open Go.ChangeShapes Go.WideShapes Go.ChangeAt Go.RowKit
namespace Ww

/-- The slice at A, below block B, holds the words xs. -/
structure Ws (w : World) (B : Nat) (A : Option Addr) (xs : List Nat) : Prop where
  at_ : ∀ i, i < xs.length → ∃ b off : Nat, A = some ⟨b, off, none⟩ ∧ b < B ∧ w.cell? ⟨b, off + i, none⟩ = some (.int .u64 (xs.getD i 0 : Nat))
  lt : ∀ i, i < xs.length → xs.getD i 0 < 18446744073709551616

section
variable {w w' : World} {B B' : Nat} {A : Option Addr} {xs : List Nat}
theorem Ws.keep (h : Ws w B A xs) (hk : ∀ p : Addr, p.block < B → w'.cell? p = w.cell? p) : Ws w' B A xs :=
  ⟨fun i hi => by
    obtain ⟨b, off, e, hB, c⟩ := h.at_ i hi
    exact ⟨b, off, e, hB, (hk _ hB).trans c⟩, h.lt⟩
theorem Ws.below (h : Ws w B A xs) (hb : Below B w w') : Ws w' B A xs := h.keep fun _ hp => hb.cell hp
theorem Ws.more (h : Ws w B A xs) (hB : B ≤ B') : Ws w B' A xs :=
  ⟨fun i hi => by
    obtain ⟨b, off, e, hb, c⟩ := h.at_ i hi
    exact ⟨b, off, e, by omega, c⟩, h.lt⟩
theorem Ws.step (h : Ws w w.heap.size A xs) (hb : Below w.heap.size w w') : Ws w' w'.heap.size A xs := (h.below hb).more hb.size
theorem Ws.drew (h : Ws w B A xs) : Ws w.drew B A xs := ⟨h.at_, h.lt⟩
theorem Ws.drewN (h : Ws w B A xs) (k : Nat) : Ws (w.drewN k) B A xs := ⟨h.at_, h.lt⟩
theorem Ws.alloc (h : Ws w B A xs) (hB : B ≤ w.heap.size) (o : Obj) : Ws (w.alloc o) B A xs := h.keep fun p hp => World.cell?_alloc_lt w o p (by omega)
theorem Ws.setCell (h : Ws w B A xs) {p : Addr} (hB : B ≤ p.block) (u : Value) : Ws (w.setCell p u) B A xs :=
  h.keep fun q hq => World.cell?_setCell_other w p q u (fun e => by subst e; omega)
theorem Ws.nil_ (w : World) (B : Nat) (A : Option Addr) : Ws w B A [] := ⟨fun i hi => by simp at hi, fun i hi => by simp at hi⟩
theorem Ws.all (h : Ws w B A xs) : ∀ x, x ∈ xs → x < 18446744073709551616 := by
  intro x hx
  obtain ⟨i, hi, rfl⟩ := List.getElem_of_mem hx
  have := h.lt i hi
  simpa [List.getD, hi] using this
end

/-- A function that tells v at k. -/
def upd (f : Nat → Nat) (k v : Nat) : Nat → Nat := fun j => if j = k then v else f j
theorem upd_same (f : Nat → Nat) (k v : Nat) : upd f k v k = v := if_pos rfl
theorem upd_other (f : Nat → Nat) (k v : Nat) {j : Nat} (h : j ≠ k) : upd f k v j = f j := if_neg h
/-- A block of one's own that holds the n words f from off on, and may be written. -/
structure Wk (w : World) (b off n : Nat) (f : Nat → Nat) : Prop where
  c : ∀ i, i < n → w.cell? ⟨b, off + i, none⟩ = some (.int .u64 (f i : Nat))
  z : ∀ i, i < n → w.frozen? ⟨b, off + i, none⟩ = false
section
variable {w w' : World} {b off n : Nat} {f : Nat → Nat}
theorem Wk.below {B : Nat} (h : Wk w b off n f) (hB : b < B) (hb : Below B w w') : Wk w' b off n f :=
  ⟨fun i hi => (hb.cell (p := ⟨b, off + i, none⟩) hB).trans (h.c i hi), fun i hi => (hb.frozen (p := ⟨b, off + i, none⟩) hB).trans (h.z i hi)⟩
theorem Wk.lt (h : Wk w b off n f) (h0 : 0 < n) : b < w.heap.size := World.block_lt_of_cell? w _ (h.c 0 h0)
theorem Wk.step (h : Wk w b off n f) (hb : Below w.heap.size w w') : Wk w' b off n f := by
  rcases Nat.eq_zero_or_pos n with e | e
  · subst e; exact ⟨fun i hi => by omega, fun i hi => by omega⟩
  · exact h.below (h.lt e) hb
theorem Wk.drew (h : Wk w b off n f) : Wk w.drew b off n f := ⟨h.c, h.z⟩
theorem Wk.drewN (h : Wk w b off n f) (k : Nat) : Wk (w.drewN k) b off n f := ⟨h.c, h.z⟩
theorem Wk.ws (h : Wk w b off n f) (hx : ∀ i, i < n → f i < 18446744073709551616) {B : Nat} (hB : b < B) : Ws w B (some ⟨b, off, none⟩) ((List.range n).map f) := by
  have e : ∀ i, i < n → ((List.range n).map f).getD i 0 = f i := fun i hi => by simp [List.getD, hi]
  exact ⟨fun i hi => ⟨b, off, rfl, hB, by rw [e i (by simpa using hi)]; exact h.c i (by simpa using hi)⟩, fun i hi => by rw [e i (by simpa using hi)]; exact hx i (by simpa using hi)⟩
theorem Wk.put (h : Wk w b off n f) (k v : Nat) (hk : k < n) : Wk (w.setCell ⟨b, off + k, none⟩ (.int .u64 v)) b off n (upd f k v) := by
  refine ⟨fun i hi => ?_, fun i hi => ?_⟩
  · by_cases e : i = k
    · subst e
      rw [World.cell?_setCell_same _ _ _ (h.c i hk), upd_same]
    · rw [World.cell?_setCell_other w _ _ _ (by simp <;> omega), h.c i hi, upd_other f k v e]
  · rw [World.frozen?_setCell]
    exact h.z i hi
theorem Wk.other (h : Wk w b off n f) {a : Addr} (ha : a.block ≠ b) (v : Value) : Wk (w.setCell a v) b off n f :=
  ⟨fun i hi => by rw [World.cell?_setCell_other w a _ v (fun e => ha (by rw [e]))]; exact h.c i hi, fun i hi => by rw [World.frozen?_setCell]; exact h.z i hi⟩
theorem Wk.made (w : World) (n : Nat) (e : TypeId) : Wk (w.alloc (.cells (madeCells #[.int .u64 0] n) e)) w.heap.size 0 n (fun _ => 0) := by
  refine ⟨fun i hi => ?_, fun i hi => ?_⟩
  · simp [go_sem, madeCells, hi, Nat.mod_one]
  · simp [go_sem]
end
theorem infoU : (Tryd.prog.info? 52).map (fun i => (i.zero, i.size, i.bytes)) = some (some (.int .u64 0), 1, 8) := by kernel_rfl
theorem make_words (n : Nat) (hn : 8 * n ≤ 281474976710656) (h63 : n ≤ 9223372036854775807) (w : World) :
    (Instr.makeSlice 23 (.int .i64 (n : Int)) (.int .i64 (n : Int))).run Tryd.prog w = .ok (.slice (some ⟨w.heap.size, 0, none⟩) n n) (w.alloc (.cells (madeCells #[.int .u64 0] n) 52)) :=
  run_make_row' (P := Tryd.prog) 23 52 _ 8 Tryd.underlying23 infoU rfl .i64 .i64 n hn h63 w

theorem cellsU : Tryd.prog.cellsOf 52 = 1 := by kernel_rfl
theorem add_none (b off k : Nat) : (⟨b, off, none⟩ : Addr).add k = ⟨b, off + k, none⟩ := by unfold Addr.add; split <;> simp_all

theorem ws_of_cells {w : World} {B b off : Nat} (hB : b < B) : ∀ n : Nat, (∀ i, i < n → ∃ p : Nat, p < 18446744073709551616 ∧ w.cell? ⟨b, off + i, none⟩ = some (.int .u64 p)) →
    ∃ xs : List Nat, xs.length = n ∧ Ws w B (some ⟨b, off, none⟩) xs
  | 0, _ => ⟨[], rfl, Ws.nil_ _ _ _⟩
  | n + 1, h => by
    obtain ⟨xs, hl, R⟩ := ws_of_cells hB n (fun i hi => h i (by omega))
    obtain ⟨p, hp, c0⟩ := h n (by omega)
    have hlast : (xs ++ [p]).getD n 0 = p := by simp [List.getD, ← hl]
    have hin' : ∀ i, i < n → (xs ++ [p]).getD i 0 = xs.getD i 0 := fun i hi => by simp [List.getD, List.getElem?_append, hl, hi]
    refine ⟨xs ++ [p], by simp [hl], ⟨fun i hi => ⟨b, off, rfl, hB, ?_⟩, fun i hi => ?_⟩⟩
    · by_cases hin : i < n
      · obtain ⟨b', off', e, _, d0⟩ := R.at_ i (by omega)
        injection e with e
        injection e with e1 e2
        subst e1 e2
        rw [d0, hin' i hin]
      · obtain rfl : i = n := by simp [hl] at hi; omega
        rw [hlast, c0]
    · by_cases hin : i < n
      · rw [hin' i hin]; exact R.lt i (by omega)
      · obtain rfl : i = n := by simp [hl] at hi; omega
        rw [hlast]; exact hp

/-- An argument of type []uint64 holds words. -/
theorem open_words {H : Type} {enc : TypeId × Value → H} {fuel : Nat} {A : Option Addr} {n cap : Nat} {y : DataW H × List MemPlace} {W : World} (hf : DataW.trod enc Tryd.prog W 0 (fun _ => true) true fuel 23 [.slice A n cap] = some y) :
    ∃ xs : List Nat, xs.length = n ∧ n ≤ cap ∧ cap ≤ 9223372036854775807 ∧ Ws W W.heap.size A xs := by
  rcases Deep.open_slice1 Tryd.underlying23 cellsU hf with ⟨hcs, _⟩ | ⟨a, len, cap', m, k, V, D, Pl, hcs, _, hl, hm, hmm, _, hall⟩
  · obtain ⟨rfl, rfl, rfl⟩ : A = none ∧ n = 0 ∧ cap = 0 := by simpa using hcs
    exact ⟨[], rfl, Nat.le_refl _, by decide, Ws.nil_ _ _ _⟩
  · obtain ⟨rfl, rfl, rfl⟩ : A = some a ∧ n = len ∧ cap = cap' := by simpa using hcs
    have hm' : cap ≤ 9223372036854775807 := by unfold maxLen at hm; exact hm
    by_cases hl0 : n = 0
    · subst hl0
      exact ⟨[], rfl, hl, hm', Ws.nil_ _ _ _⟩
    have hlm : n ≤ m := by rw [hmm]; split <;> omega
    have c := (hall 0 (by omega)).1
    obtain ⟨b, off, spot⟩ := a
    have hsp : spot = none := by
      cases spot with
      | none => rfl
      | some s => exfalso; simp [World.cell?, Addr.add] at c; split at c <;> simp at c
    subst hsp
    have hB : b < W.heap.size := by rw [add_none] at c; exact World.block_lt_of_cell? W _ c
    obtain ⟨xs, hxl, R⟩ := ws_of_cells (w := W) (B := W.heap.size) (b := b) (off := off) hB n (fun i hi => by
      obtain ⟨c0, t0⟩ := hall i (by omega)
      obtain ⟨p, e0, _, wp⟩ := DataW.trod_int Tryd.underlying52 t0
      simp at e0
      rw [add_none, e0] at c0
      have bp : 0 ≤ p ∧ p ≤ 18446744073709551615 := by simpa [Lit.wf, IntKind.min, IntKind.max, IntKind.signed, IntKind.bits] using wp
      obtain ⟨p', rfl⟩ := Int.eq_ofNat_of_zero_le bp.1
      exact ⟨p', by omega, c0⟩)
    exact ⟨xs, hxl, hl, hm', R⟩
/-- A contract of a callee that leaves the world alone, in a region that only reads. -/
theorem qs {P : Program} {f : FuncId} {args : Array Value} {w : World} {n : Nat} {v : Value}
    (h : Calls P f args (w.drewN n) fun e w' => e = .returned v ∧ w.drewN n = w') : Calls P f args (w.drewN n) fun e w'' => e = .returned v ∧ ∃ m, w'' = w.drewN m :=
  h.mono fun _ _ ⟨he, hm⟩ => ⟨he, n, hm.symm⟩
theorem below_drewN {B : Nat} {a w : World} (h : Below B a w) (n : Nat) : Below B a (w.drewN n) := ⟨h.os, h.tape, h.output, h.size, h.block⟩
end Ww
end Go.Proofs.YtinachlkaochdaaDoor
