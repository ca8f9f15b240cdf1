/- Rows of bytes in memory: a slice that holds the bytes of a list; a block of one's own that holds them, and may be written; their texts; how an argument of type []byte is opened. -/
import Derived.Test.YtinachlkaochdaaDoorOwn
import Derived.Test.YtinachlkaochdaaDoorCod
import Derived.Laws.BytesArg
import Derived.Lib.AppendIntMem
set_option linter.unusedVariables false
namespace Go.Proofs.YtinachlkaochdaaDoor
open Go.ChangeShapes Go.WideShapes Go.ChangeAt Go.RowKit
namespace Ww

/-- The slice at A, below block B, holds the bytes bs. -/
structure Bs (w : World) (B : Nat) (A : Option Addr) (bs : List UInt8) : Prop where
  at_ : ∀ i, i < bs.length → ∃ b off : Nat, A = some ⟨b, off, none⟩ ∧ b < B ∧ w.cell? ⟨b, off + i, none⟩ = some (.int .u8 ((bs.getD i 0).toNat : Nat))

section
variable {w w' : World} {B B' : Nat} {A : Option Addr} {bs : List UInt8}
theorem Bs.keep (h : Bs w B A bs) (hk : ∀ p : Addr, p.block < B → w'.cell? p = w.cell? p) : Bs w' B A bs :=
  ⟨fun i hi => by
    obtain ⟨b, off, e, hB, c⟩ := h.at_ i hi
    exact ⟨b, off, e, hB, (hk _ hB).trans c⟩⟩
theorem Bs.below (h : Bs w B A bs) (hb : Below B w w') : Bs w' B A bs := h.keep fun _ hp => hb.cell hp
theorem Bs.more (h : Bs w B A bs) (hB : B ≤ B') : Bs w B' A bs :=
  ⟨fun i hi => by
    obtain ⟨b, off, e, hb, c⟩ := h.at_ i hi
    exact ⟨b, off, e, by omega, c⟩⟩
theorem Bs.step (h : Bs w w.heap.size A bs) (hb : Below w.heap.size w w') : Bs w' w'.heap.size A bs := (h.below hb).more hb.size
theorem Bs.drewN (h : Bs w B A bs) (k : Nat) : Bs (w.drewN k) B A bs := ⟨h.at_⟩
theorem Bs.alloc (h : Bs w B A bs) (hB : B ≤ w.heap.size) (o : Obj) : Bs (w.alloc o) B A bs := h.keep fun p hp => World.cell?_alloc_lt w o p (by omega)
theorem Bs.setCell (h : Bs w B A bs) {p : Addr} (hB : B ≤ p.block) (u : Value) : Bs (w.setCell p u) B A bs :=
  h.keep fun q hq => World.cell?_setCell_other w p q u (fun e => by subst e; omega)
theorem Bs.nil_ (w : World) (B : Nat) (A : Option Addr) : Bs w B A [] := ⟨fun i hi => by simp at hi⟩
/-- From one byte on. -/
theorem Bs.drop {b off : Nat} (h : Bs w B (some ⟨b, off, none⟩) bs) (k : Nat) : Bs w B (some ⟨b, off + k, none⟩) (bs.drop k) :=
  ⟨fun i hi => by
    rw [List.length_drop] at hi
    obtain ⟨b', off', e, hB, c⟩ := h.at_ (k + i) (by omega)
    injection e with e
    injection e with e1 e2
    subst e1 e2
    refine ⟨b, off + k, rfl, hB, ?_⟩
    rw [Nat.add_assoc, c]
    simp [List.getD]⟩
/-- Up to one byte. -/
theorem Bs.take (h : Bs w B A bs) (k : Nat) : Bs w B A (bs.take k) :=
  ⟨fun i hi => by
    rw [List.length_take] at hi
    obtain ⟨b', off', e, hB, c⟩ := h.at_ i (by omega)
    refine ⟨b', off', e, hB, ?_⟩
    rw [c]
    simp [List.getD, show i < k by omega]⟩
end
theorem strOf (bs : List UInt8) : strOfNums (bs.map fun b => ((b.toNat : Nat) : Int)) = ⟨bs.toArray⟩ := by
  unfold strOfNums
  rw [List.map_map]
  congr 2
  conv => rhs; rw [← List.map_id bs]
  apply List.map_congr_left
  intro b _
  simp
/-- The text of bytes. -/
theorem conv_bytes {w : World} {B : Nat} {A : Option Addr} {bs : List UInt8} (h : Bs w B A bs) (cap : Nat) :
    (convert 22 9 (.slice A bs.length cap)).run Tryd.prog w = .ok (.string ⟨bs.toArray⟩) w := by
  by_cases h0 : bs = []
  · subst h0
    cases A with
    | none => exact run_convert_bytes_nil w _ 5 Tryd.underlying22 Tryd.underlying5 _ _ _ Tryd.underlying9
    | some a =>
      rw [run_convert_bytes_string w _ _ 5 _ _ _ Tryd.underlying22 Tryd.underlying5 Tryd.underlying9]
      have hl : (loadCells a 0).run Tryd.prog w = .ok (([] : List Int).map (Value.int .u8)).toArray w := run_loadCells_list (P := Tryd.prog) w a [] (fun j v hj => by simp at hj)
      have := run_bytesToString (P := Tryd.prog) w a 0 cap [] hl
      rw [List.length_nil, this]
      rfl
  · have hl : 0 < bs.length := List.length_pos_iff.2 h0
    obtain ⟨b, off, rfl, hB, _⟩ := h.at_ 0 hl
    have := run_convert_bytes_arg w 22 5 Tryd.underlying22 Tryd.underlying5 b off bs.length cap (bs.map fun b => ((b.toNat : Nat) : Int)) (by simp) (fun i hi => by
      obtain ⟨b', off', e, _, c⟩ := h.at_ i hi
      injection e with e
      injection e with e1 e2
      subst e1 e2
      rw [c]
      simp [List.getD, hi]) 9 Tryd.underlying9
    rw [strOf] at this
    exact this

/-- A block of one's own that holds the n bytes f, and may be written. -/
structure Bk (w : World) (b n : Nat) (f : Nat → Nat) : Prop where
  c : ∀ i, i < n → w.cell? ⟨b, i, none⟩ = some (.int .u8 (f i : Nat))
  z : ∀ i, i < n → w.frozen? ⟨b, i, none⟩ = false
section
variable {w w' : World} {b n : Nat} {f : Nat → Nat}
theorem Bk.below {B : Nat} (h : Bk w b n f) (hB : b < B) (hb : Below B w w') : Bk w' b n f :=
  ⟨fun i hi => (hb.cell (p := ⟨b, i, none⟩) hB).trans (h.c i hi), fun i hi => (hb.frozen (p := ⟨b, i, none⟩) hB).trans (h.z i hi)⟩
theorem Bk.drewN (h : Bk w b n f) (k : Nat) : Bk (w.drewN k) b n f := ⟨h.c, h.z⟩
theorem Bk.put (h : Bk w b n f) (k v : Nat) (hk : k < n) : Bk (w.setCell ⟨b, k, none⟩ (.int .u8 v)) b n (upd f k v) := by
  refine ⟨fun i hi => ?_, fun i hi => ?_⟩
  · by_cases e : i = k
    · subst e
      rw [World.cell?_setCell_same _ _ _ (h.c i hk), upd_same]
    · rw [World.cell?_setCell_other w _ _ _ (by simp <;> omega), h.c i hi, upd_other f k v e]
  · rw [World.frozen?_setCell]
    exact h.z i hi
theorem Bk.like {g : Nat → Nat} (h : Bk w b n f) (e : ∀ i, i < n → f i = g i) : Bk w b n g := ⟨fun i hi => by rw [← e i hi]; exact h.c i hi, h.z⟩
theorem Bk.made (w : World) (n : Nat) (e : TypeId) : Bk (w.alloc (.cells (madeCells #[.int .u8 0] n) e)) w.heap.size n (fun _ => 0) := by
  refine ⟨fun i hi => ?_, fun i hi => ?_⟩
  · simp [go_sem, madeCells, hi, Nat.mod_one]
  · simp [go_sem]
/-- As a slice that holds bytes. -/
theorem Bk.reads (h : Bk w b n f) {bs : List UInt8} (hl : bs.length = n) (hf : ∀ i, i < n → f i = (bs.getD i 0).toNat) {B : Nat} (hB : b < B) : Bs w B (some ⟨b, 0, none⟩) bs :=
  ⟨fun i hi => ⟨b, 0, rfl, hB, by rw [Nat.zero_add, h.c i (by omega), hf i (by omega)]⟩⟩
end
theorem infoB : (Tryd.prog.info? 5).map (fun i => (i.zero, i.size, i.bytes)) = some (some (.int .u8 0), 1, 1) := by kernel_rfl
theorem make_bytes (n : Nat) (hn : n ≤ 281474976710656) (w : World) :
    (Instr.makeSlice 22 (.int .i64 (n : Int)) (.int .i64 (n : Int))).run Tryd.prog w = .ok (.slice (some ⟨w.heap.size, 0, none⟩) n n) (w.alloc (.cells (madeCells #[.int .u8 0] n) 5)) :=
  run_make_row' (P := Tryd.prog) 22 5 _ 1 Tryd.underlying22 infoB rfl .i64 .i64 n (by omega) (by omega) w
theorem cellsB : Tryd.prog.cellsOf 5 = 1 := by kernel_rfl
theorem bs_of_cells {w : World} {B b off : Nat} (hB : b < B) : ∀ n : Nat, (∀ i, i < n → ∃ p : Nat, p < 256 ∧ w.cell? ⟨b, off + i, none⟩ = some (.int .u8 p)) →
    ∃ bs : List UInt8, bs.length = n ∧ Bs w B (some ⟨b, off, none⟩) bs
  | 0, _ => ⟨[], rfl, Bs.nil_ _ _ _⟩
  | n + 1, h => by
    obtain ⟨bs, hl, R⟩ := bs_of_cells hB n (fun i hi => h i (by omega))
    obtain ⟨p, hp, c0⟩ := h n (by omega)
    have hlast : ((bs ++ [UInt8.ofNat p]).getD n 0).toNat = p := by
      simp [List.getD, ← hl]
      omega
    have hin' : ∀ i, i < n → (bs ++ [UInt8.ofNat p]).getD i 0 = bs.getD i 0 := fun i hi => by simp [List.getD, List.getElem?_append, hl, hi]
    refine ⟨bs ++ [UInt8.ofNat p], by simp [hl], ⟨fun i hi => ⟨b, off, rfl, hB, ?_⟩⟩⟩
    by_cases hin : i < n
    · obtain ⟨b', off', e, _, d0⟩ := R.at_ i (by omega)
      injection e with e
      injection e with e1 e2
      subst e1 e2
      rw [d0, hin' i hin]
    · obtain rfl : i = n := by simp [hl] at hi; omega
      rw [hlast, c0]
/-- An argument of type []byte holds bytes. -/
theorem open_bytes {H : Type} {enc : TypeId × Value → H} {fuel : Nat} {A : Option Addr} {n cap : Nat} {y : DataW H × List MemPlace} {W : World} (hf : DataW.trod enc Tryd.prog W 0 (fun _ => true) true fuel 22 [.slice A n cap] = some y) :
    ∃ bs : List UInt8, bs.length = n ∧ n ≤ cap ∧ cap ≤ 9223372036854775807 ∧ Bs W W.heap.size A bs := by
  rcases Deep.open_slice1 Tryd.underlying22 cellsB hf with ⟨hcs, _⟩ | ⟨a, len, cap', m, k, V, D, Pl, hcs, _, hl, hm, hmm, _, hall⟩
  · obtain ⟨rfl, rfl, rfl⟩ : A = none ∧ n = 0 ∧ cap = 0 := by simpa using hcs
    exact ⟨[], rfl, Nat.le_refl _, by decide, Bs.nil_ _ _ _⟩
  · obtain ⟨rfl, rfl, rfl⟩ : A = some a ∧ n = len ∧ cap = cap' := by simpa using hcs
    have hm' : cap ≤ 9223372036854775807 := by unfold maxLen at hm; exact hm
    by_cases hl0 : n = 0
    · subst hl0
      exact ⟨[], rfl, hl, hm', Bs.nil_ _ _ _⟩
    have hlm : n ≤ m := by rw [hmm]; split <;> omega
    have c := (hall 0 (by omega)).1
    obtain ⟨b, off, spot⟩ := a
    have hsp : spot = none := by
      cases spot with
      | none => rfl
      | some s => exfalso; simp [World.cell?, Addr.add] at c; split at c <;> simp at c
    subst hsp
    have hB : b < W.heap.size := by rw [add_none] at c; exact World.block_lt_of_cell? W _ c
    obtain ⟨bs, hxl, R⟩ := bs_of_cells (w := W) (B := W.heap.size) (b := b) (off := off) hB n (fun i hi => by
      obtain ⟨c0, t0⟩ := hall i (by omega)
      obtain ⟨p, e0, _, wp⟩ := DataW.trod_int Tryd.underlying5 t0
      simp at e0
      rw [add_none, e0] at c0
      have bp : 0 ≤ p ∧ p ≤ 255 := by simpa [Lit.wf, IntKind.min, IntKind.max, IntKind.signed, IntKind.bits] using wp
      obtain ⟨p', rfl⟩ := Int.eq_ofNat_of_zero_le bp.1
      exact ⟨p', by omega, c0⟩)
    exact ⟨bs, hxl, hl, hm', R⟩
/-- A row of bytes that the call owns. -/
def Ob (w : World) (base : Nat) (v : Value) (bs : List UInt8) : Prop := w.ownsRow base 5 1 v bs.length (Lib.byteCells bs)
section
variable {w w' : World} {base : Nat} {v : Value} {bs : List UInt8}
theorem Ob.nil_ (w : World) (base : Nat) : Ob w base (.slice none 0 0) [] := World.ownsRow_nil w base _ 1
theorem Ob.block (h : Ob w base v bs) : ∀ g, v.ownBlock = some g → base ≤ g ∧ g < w.heap.size := World.ownsRow.lt h
theorem Ob.below (h : Ob w base v bs) (hb : Below w.heap.size w w') : Ob w' base v bs := by
  have hg := h.block
  refine ⟨h.1, ?_⟩
  rcases h.2 with h0 | ⟨g, cap, cur, rfl, h1, h2, h3⟩
  · exact Or.inl h0
  · exact Or.inr ⟨g, cap, cur, rfl, h1, by rw [hb.block g (hg g rfl).2]; exact h2, h3⟩
theorem Ob.alloc (h : Ob w base v bs) (o : Obj) : Ob (w.alloc o) base v bs := World.ownsRow.alloc h o
theorem Ob.drewN (h : Ob w base v bs) (k : Nat) : Ob (w.drewN k) base v bs := h
theorem Ob.grow {w0 : World} (h : Ob w base v bs) (hb : Below base w0 w) (hg : w.grownBy w' v.ownBlock) (hB : base ≤ w.heap.size) : Below base w0 w' :=
  hb.grown hg hB fun k hk => (h.block k hk).1
/-- It is a slice that holds the bytes. -/
theorem Ob.reads (h : Ob w base v bs) : ∃ A cap, v = .slice A bs.length cap ∧ Bs w w.heap.size A bs ∧ bs.length ≤ cap := by
  have hg := h.block
  rcases h.2 with ⟨rfl, h0⟩ | ⟨g, cap, cur, rfl, h1, h2, h3, h4⟩
  · have e : bs = [] := List.length_eq_zero_iff.1 h0
    subst e
    exact ⟨none, 0, rfl, Bs.nil_ _ _ _, Nat.le_refl _⟩
  · refine ⟨_, cap, rfl, ⟨fun i hi => ⟨g, 0, rfl, (hg g rfl).2, ?_⟩⟩, h3⟩
    have c := World.ownsRow.cells h (g := g) rfl i (.int .u8 ((bs.getD i 0).toNat : Nat)) (by simp [Lib.byteCells, List.getD, hi])
    rw [add_none] at c
    exact c
end
end Ww
end Go.Proofs.YtinachlkaochdaaDoor
