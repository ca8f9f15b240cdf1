/- Layer 16: bytes that a call copies by append, and may write; bits side by side that are turned. -/
import Derived.Test.YtinachlkaochdaaDoorCrcS
import Derived.Laws.AppendOwnNone
import Derived.Maps.AppendAt
set_option linter.unusedVariables false
namespace Go.Proofs.YtinachlkaochdaaDoor
open Go.RowKit Go.Lib
namespace Cx
open Ww Cr Cd
theorem nil_cap {H : Type} {enc : TypeId × Value → H} {fuel : Nat} {A : Option Addr} {n cap : Nat} {y : DataW H × List MemPlace} {W : World} (hf : DataW.trod enc Tryd.prog W 0 (fun _ => true) true fuel 22 [.slice A n cap] = some y) : A = none → cap = 0 := by
  intro hA
  rcases Deep.open_slice1 Tryd.underlying22 cellsB hf with ⟨hcs, _⟩ | ⟨a, len, cap', m, k, V, D, Pl, hcs, _⟩
  · have : A = none ∧ n = 0 ∧ cap = 0 := by simpa using hcs
    exact this.2.2
  · have : A = some a ∧ n = len ∧ cap = cap' := by simpa using hcs
    rw [hA] at this
    cases this.1
theorem byteCells_one (l : List UInt8) : ∀ v ∈ Lib.byteCells l, v.oneCell' = true := by
  intro v hv
  simp [Lib.byteCells] at hv
  obtain ⟨a, _, rfl⟩ := hv
  rfl
/-- append of all bytes onto none. -/
theorem append_bytes (w : World) {ops : Array Oper} {rest : List Oper} {o : Oper} {a : Act} {Q : Exit → Act → World → Prop} (hgd : o.guard = none) (s x : Operand)
    (ho : o.op = .call { callee := .builtin .append, args := #[s, x], argTypes := #[22, 22] })
    (base : Nat) (v : Value) (hs : a.eval s = v) (hown : w.ownsRow base 5 1 v 0 []) (B : Nat) (A : Option Addr) (c : Nat) (bs : List UInt8) (hx : a.eval x = .slice A bs.length c) (R : Bs w B A bs) (hA : A = none → c = 0)
    (hlen : bs.length ≤ 1099511627776) (hbase : base ≤ w.heap.size)
    (h : ∀ v' w', Ob w' base v' bs → w.grownBy w' v.ownBlock → wpList Tryd.prog ops Q rest (a.put o.dst v') w') : wpList Tryd.prog ops Q (o :: rest) a w := by
  obtain ⟨i, hi⟩ : ∃ i, Tryd.prog.info? 5 = some i := by
    cases e : Tryd.prog.info? 5 with
    | none => have := infoB; rw [e] at this; cases this
    | some i => exact ⟨i, rfl⟩
  have hU := infoB
  rw [hi] at hU
  simp only [Option.map_some, Option.some.injEq, Prod.mk.injEq] at hU
  cases A with
  | none =>
    have hc := hA rfl
    subst hc
    have hb0 : bs = [] := by
      apply Classical.byContradiction
      intro hne
      obtain ⟨b, off, e, _⟩ := R.at_ 0 (List.length_pos_iff.2 hne)
      cases e
    subst hb0
    exact wpList_append_own_none hgd s x _ ho base _ i 1 Tryd.underlying22 hi v 0 [] hs hown hx (h v w hown (World.grownBy.refl w _))
  | some g =>
    refine wpList_append_own w hgd s x _ ho base _ i _ 1 1 Tryd.underlying22 hi hU.1 hU.2.1 hU.2.2 rfl (by decide) v 0 [] hs hown g bs.length c (Lib.byteCells bs) hx (by simp [Lib.byteCells]) ?_ (byteCells_one bs) ?_ ?_ hbase fun v' w' h1 h2 _ => h v' w' ?_ h2
    · intro j u hu
      have hj : j < bs.length := by
        have := (List.getElem?_eq_some_iff.1 hu).1
        simpa [Lib.byteCells] using this
      obtain ⟨g', off', e, _, cc⟩ := R.at_ j hj
      replace e := Option.some.inj e
      subst e
      rw [add_none, cc]
      simp [Lib.byteCells, hj] at hu
      rw [← hu]
      simp [List.getD, hj]
    · simp only [maxLen]; omega
    · omega
    · rw [Nat.zero_add, List.nil_append] at h1
      exact h1
/-- A copied slice of bytes, from block B on, that may be written. -/
def Cw (w : World) (B : Nat) (A : Option Addr) (cs : List UInt8) : Prop := 0 < cs.length → ∃ g, A = some ⟨g, 0, none⟩ ∧ B ≤ g ∧ g < w.heap.size ∧ Bk w g cs.length (fun i => (cs.getD i 0).toNat)
theorem Cw.reads {w : World} {B : Nat} {A : Option Addr} {cs : List UInt8} (h : Cw w B A cs) : Bs w w.heap.size A cs := ⟨fun i hi => by
  obtain ⟨g, rfl, _, hg, K⟩ := h (by omega)
  exact ⟨g, 0, rfl, hg, by rw [Nat.zero_add]; exact K.c i hi⟩⟩
theorem copied {w w1 : World} {v : Value} {o : Obj} {bs : List UInt8} (HB : Below w.heap.size w (w.alloc o)) (O : Ob w1 w.heap.size v bs) (hg : (w.alloc o).grownBy w1 (Value.slice (some ⟨w.heap.size, 0, none⟩) 0 0).ownBlock) :
    ∃ A c, v = .slice A bs.length c ∧ Cw w1 w.heap.size A bs ∧ Below w.heap.size w w1 := by
  have b := HB.grown hg (by simp) (fun k hk => by cases hk; exact Nat.le_refl _)
  obtain ⟨A, c, rfl, R, _⟩ := O.reads
  refine ⟨A, c, rfl, fun h0 => ?_, b⟩
  have hg2 := O.block
  rcases O.2 with ⟨e, h1⟩ | ⟨g, cap, cur, e, h1, h2, h3, h4⟩
  · omega
  · injection e with e1 e2 e3
    subst e1
    refine ⟨g, rfl, h1, (hg2 g rfl).2, ⟨fun i hi => ?_, fun i hi => ?_⟩⟩
    · obtain ⟨b', o', e', _, cc⟩ := R.at_ i hi
      replace e' := Option.some.inj e'
      injection e' with e1 e2
      subst e1 e2
      rw [Nat.zero_add] at cc
      exact cc
    · simp [World.frozen?, h2]
/-- One bit of a byte is turned. -/
def turn (cs : List UInt8) (i : Nat) : List UInt8 := cs.set (i / 8) (cs.getD (i / 8) 0 ^^^ UInt8.ofNat (2 ^ (i % 8)))
theorem turn_len (cs : List UInt8) (i : Nat) : (turn cs i).length = cs.length := List.length_set
theorem bit8 (i : Nat) : 2 ^ (i % 8) < 256 := Nat.pow_lt_pow_right (by omega) (by omega : i % 8 < 8)
theorem bit8_of (i : Nat) : (UInt8.ofNat (2 ^ (i % 8))).toNat = 2 ^ (i % 8) := by
  rw [UInt8.toNat_ofNat']
  exact Nat.mod_eq_of_lt (bit8 i)
theorem turn_at (cs : List UInt8) (i j : Nat) (hi : i / 8 < cs.length) : ((turn cs i).getD j 0).toNat = upd (fun j => (cs.getD j 0).toNat) (i / 8) ((cs.getD (i / 8) 0).toNat ^^^ 2 ^ (i % 8)) j := by
  unfold turn upd
  by_cases h : j = i / 8
  · subst h
    rw [if_pos rfl]
    simp [List.getD, hi, UInt8.toNat_xor]
    rw [Nat.mod_eq_of_lt (bit8 i)]
  · rw [if_neg h]
    simp [List.getD, Ne.symm h]
theorem turn_val (cs : List UInt8) (i : Nat) (hi : i / 8 < cs.length) : val (turn cs i) = val cs ^^^ 2 ^ i := by
  unfold turn
  rw [val_set cs _ _ hi, bit8_of, ← Nat.pow_add]
  congr 2
  omega
theorem Cw.turn {w : World} {B i : Nat} {g : Nat} {cs : List UInt8} (hB : B ≤ g) (hg : g < w.heap.size) (K : Bk w g cs.length (fun i => (cs.getD i 0).toNat)) (hi : i / 8 < cs.length) :
    Cw (w.setCell ⟨g, i / 8, none⟩ (.int .u8 ((cs.getD (i / 8) 0).toNat ^^^ 2 ^ (i % 8) : Nat))) B (some ⟨g, 0, none⟩) (Cx.turn cs i) := fun _ => by
  refine ⟨g, rfl, hB, by rw [World.size_setCell]; exact hg, ?_⟩
  rw [turn_len]
  exact (K.put (i / 8) _ hi).like fun j hj => (turn_at cs i j hi).symm
/-- The bits that are turned behind k rounds, L being all that have room. -/
def bk (b k L : Nat) : Nat := b % 2 ^ min k L
theorem bk_zero (b L : Nat) : bk b 0 L = 0 := by unfold bk; rw [Nat.zero_min]; exact Nat.mod_one _
theorem bk_out (b k L : Nat) (h : L ≤ k) : bk b (k + 1) L = bk b k L := by unfold bk; rw [Nat.min_eq_right (by omega), Nat.min_eq_right h]
theorem bk_off (b k L : Nat) (h : b / 2 ^ k % 2 ≠ 1) : bk b (k + 1) L = bk b k L := by
  by_cases hk : L ≤ k
  · exact bk_out b k L hk
  · unfold bk
    rw [Nat.min_eq_left (by omega), Nat.min_eq_left (by omega), mod_more, if_neg h, Nat.xor_zero]
theorem bk_on (b k L : Nat) (hk : k < L) (h : b / 2 ^ k % 2 = 1) : bk b (k + 1) L = bk b k L ^^^ 2 ^ k := by
  unfold bk
  rw [Nat.min_eq_left (by omega), Nat.min_eq_left (by omega), mod_more, if_pos h]
theorem bk_pos (b k L : Nat) (hk : k < L) (h : b / 2 ^ k % 2 = 1) : bk b (k + 1) L ≠ 0 := by
  intro e
  unfold bk at e
  rw [Nat.min_eq_left (by omega), Nat.pow_succ, Nat.mod_mul] at e
  have h2 := Nat.two_pow_pos k
  rw [h] at e
  omega
theorem bk_lt (b k L : Nat) (h : k ≤ 32) : bk b k L < 2 ^ 32 :=
  Nat.lt_of_lt_of_le (Nat.mod_lt _ (Nat.two_pow_pos _)) (Nat.pow_le_pow_right (by omega) (by omega))
theorem turn_more {cs : List UInt8} {V a k L b : Nat} (hv : val cs = V ^^^ 2 ^ a * bk b k L) (hk : k < L) (h : b / 2 ^ k % 2 = 1) (hi : (a + k) / 8 < cs.length) : val (turn cs (a + k)) = V ^^^ 2 ^ a * bk b (k + 1) L := by
  rw [turn_val _ _ hi, hv, bk_on b k L hk h, mul_xor, ← Nat.pow_add, Nat.xor_assoc]
/-- The sums, behind all rounds. -/
theorem turned {bs cs : List UInt8} {a b : Nat} (hl : cs.length = bs.length) (hv : val cs = val bs ^^^ 2 ^ a * bk b 32 (8 * bs.length - a)) : sum bs = sum cs ↔ bk b 32 (8 * bs.length - a) = 0 := by
  have hw := bk_lt b 32 (8 * bs.length - a) (Nat.le_refl _)
  have e : val bs ^^^ val cs = 2 ^ a * bk b 32 (8 * bs.length - a) := by rw [hv, ← Nat.xor_assoc, Nat.xor_self, Nat.zero_xor]
  by_cases ha : a ≤ 8 * bs.length
  · exact burst hl.symm a _ hw ha e
  · have h0 : bk b 32 (8 * bs.length - a) = 0 := by
      rw [show 8 * bs.length - a = 0 by omega]
      unfold bk
      exact Nat.mod_one _
    rw [h0, Nat.mul_zero] at e
    rw [h0]
    exact burst hl.symm 0 0 (by omega) (by omega) (by rw [e])
end Cx
end Go.Proofs.YtinachlkaochdaaDoor
