/- Layer 15: arguments of type []bool and []Act (what, where, bytes, choices), and the law's few. -/
import Derived.Test.YtfjlhbamldgklaaDiskT
import Derived.Deep.Strs
set_option linter.unusedVariables false
namespace Go.Proofs.Ytfjlhbamldgklaa
open Go.ChangeShapes Go.WideShapes Go.ChangeAt Go.RowKit Go.Lib
namespace Dk
open Ww

theorem choose1 {α : Type} [Inhabited α] {n : Nat} {R : Nat → α → Prop} (h : ∀ i, i < n → ∃ a, R i a) : ∃ f : Nat → α, ∀ i, i < n → R i (f i) := by
  refine ⟨fun i => if hi : i < n then (h i hi).choose else default, fun i hi => ?_⟩
  simp only [hi, dif_pos]
  exact (h i hi).choose_spec
theorem Kb.nil_ (w : World) (B : Nat) (A : Option Addr) (ks : Nat → Bool) : Kb w B A 0 ks := ⟨fun i hi => absurd hi (by omega)⟩
theorem spot_none {w : World} {b off : Nat} {spot : Option _} {v : Value} (c : w.cell? ((⟨b, off, spot⟩ : Addr).add 0) = some v) : spot = none := by
  cases spot with
  | none => rfl
  | some s => exfalso; simp [World.cell?, Addr.add] at c; split at c <;> simp at c
set_option maxRecDepth 100000 in
/-- An argument of type []bool holds choices. -/
theorem open_bools {H : Type} {enc : TypeId × Value → H} {fuel : Nat} {A : Option Addr} {n cap : Nat} {y : DataW H × List MemPlace} {W : World} (hf : DataW.trod enc Try.prog W 0 (fun _ => true) true fuel 30 [.slice A n cap] = some y) :
    ∃ ks : Nat → Bool, n ≤ 9223372036854775807 ∧ Kb W W.heap.size A n ks := by
  rcases Deep.open_slice1 Try.underlying30 (by kernel_rfl) hf with ⟨hcs, _⟩ | ⟨a, len, cap', m, k, V, D, Pl, hcs, _, hl, hm, hmm, _, hall⟩
  · obtain ⟨rfl, rfl, rfl⟩ : A = none ∧ n = 0 ∧ cap = 0 := by simpa using hcs
    exact ⟨fun _ => false, by decide, Kb.nil_ _ _ _ _⟩
  · obtain ⟨rfl, rfl, rfl⟩ : A = some a ∧ n = len ∧ cap = cap' := by simpa using hcs
    have hm' : cap ≤ 9223372036854775807 := by unfold maxLen at hm; exact hm
    by_cases hl0 : n = 0
    · subst hl0
      exact ⟨fun _ => false, by decide, Kb.nil_ _ _ _ _⟩
    have hlm : n ≤ m := by rw [hmm]; split <;> omega
    have c := (hall 0 (by omega)).1
    obtain ⟨b, off, spot⟩ := a
    have hsp := spot_none c
    subst hsp
    have hB : b < W.heap.size := by rw [add_none] at c; exact World.block_lt_of_cell? W _ c
    obtain ⟨ks, h⟩ := choose1 (n := n) (R := fun i (x : Bool) => W.cell? ⟨b, off + i, none⟩ = some (.bool x)) (fun i hi => by
      obtain ⟨c0, t0⟩ := hall i (by omega)
      obtain ⟨x, e0, _⟩ := DataW.trod_bool Try.underlying4 t0
      simp at e0
      rw [add_none, e0] at c0
      exact ⟨x, c0⟩)
    exact ⟨ks, by omega, ⟨fun i hi => ⟨b, off, rfl, hB, h i hi⟩⟩⟩
theorem trod_struct4 {H : Type} {enc : TypeId × Value → H} {P : Program} {w : World} {base : Nat} {spare : Nat → Bool} {held : Bool} {t : TypeId} {f0 f1 f2 f3 : Field} {fuel : Nat} {cs : List Value} {x : DataW H × List MemPlace} (ht : P.underlying t = some (.struct #[f0, f1, f2, f3])) (h : DataW.trod enc P w base spare held fuel t cs = some x) :
    ∃ y0 y1 y2 y3 n, cs.length = P.cellsOf t ∧ DataW.trod enc P w base spare held n f0.type ((cs.drop f0.offset).take (P.cellsOf f0.type)) = some y0 ∧
      DataW.trod enc P w base spare held n f1.type ((cs.drop f1.offset).take (P.cellsOf f1.type)) = some y1 ∧ DataW.trod enc P w base spare held n f2.type ((cs.drop f2.offset).take (P.cellsOf f2.type)) = some y2 ∧
      DataW.trod enc P w base spare held n f3.type ((cs.drop f3.offset).take (P.cellsOf f3.type)) = some y3 := by
  obtain ⟨xs, n, _, rfl, hl, hlen, hf⟩ := DataW.trod_struct ht h
  match xs, hlen with
  | [y0, y1, y2, y3], _ => exact ⟨y0, y1, y2, y3, n, hl, by simpa using hf 0 f0 rfl, by simpa using hf 1 f1 rfl, by simpa using hf 2 f2 rfl, by simpa using hf 3 f3 rfl⟩

/-- A thing that is done. -/
structure ActV where
  kind : Int
  i : Int
  bs : List UInt8
  K : Nat
  ks : Nat → Bool
  A : Option Addr
  cA : Nat
  A2 : Option Addr
  cK : Nat
deriving Inhabited
/-- It as a value: its bytes and its choices lie in memory. -/
def ActV.val (a : ActV) : Value := .agg #[.int .i64 a.kind, .int .i64 a.i, .slice a.A a.bs.length a.cA, .slice a.A2 a.K a.cK]
structure Av (w : World) (B : Nat) (a : ActV) : Prop where
  bs : Bs w B a.A a.bs
  ks : Kb w B a.A2 a.K a.ks
  k : -9223372036854775808 ≤ a.kind ∧ a.kind ≤ 9223372036854775807
  i : -9223372036854775808 ≤ a.i ∧ a.i ≤ 9223372036854775807
  lK : a.K ≤ 9223372036854775807
  lb : a.bs.length ≤ 9223372036854775807
theorem Av.below {w w' : World} {B : Nat} {a : ActV} (h : Av w B a) (d : Below B w w') : Av w' B a := ⟨h.bs.below d, h.ks.below d, h.k, h.i, h.lK, h.lb⟩
/-- A slice of things that are done. -/
structure As (w : World) (B : Nat) (A : Option Addr) (L : Nat) (f : Nat → ActV) : Prop where
  at_ : ∀ i, i < L → ∃ b off, A = some ⟨b, off, none⟩ ∧ b < B ∧ w.cell? ⟨b, off + i * 4, none⟩ = some (.int .i64 (f i).kind) ∧ w.cell? ⟨b, off + i * 4 + 1, none⟩ = some (.int .i64 (f i).i) ∧
    w.cell? ⟨b, off + i * 4 + 2, none⟩ = some (.slice (f i).A (f i).bs.length (f i).cA) ∧ w.cell? ⟨b, off + i * 4 + 3, none⟩ = some (.slice (f i).A2 (f i).K (f i).cK)
  av : ∀ i, i < L → Av w B (f i)
theorem As.below {w w' : World} {B L : Nat} {A : Option Addr} {f : Nat → ActV} (h : As w B A L f) (d : Below B w w') : As w' B A L f :=
  ⟨fun i hi => by
    obtain ⟨b, off, e, hb, c0, c1, c2, c3⟩ := h.at_ i hi
    exact ⟨b, off, e, hb, (d.cell (p := ⟨b, off + i * 4, none⟩) hb).trans c0, (d.cell (p := ⟨b, off + i * 4 + 1, none⟩) hb).trans c1, (d.cell (p := ⟨b, off + i * 4 + 2, none⟩) hb).trans c2, (d.cell (p := ⟨b, off + i * 4 + 3, none⟩) hb).trans c3⟩, fun i hi => (h.av i hi).below d⟩
set_option maxRecDepth 100000 in
theorem open_acts {H : Type} {enc : TypeId × Value → H} {fuel : Nat} {A : Option Addr} {n cap : Nat} {y : DataW H × List MemPlace} {W : World} (hf : DataW.trod enc Try.prog W 0 (fun _ => true) true fuel 22 [.slice A n cap] = some y) :
    ∃ f : Nat → ActV, n ≤ 9223372036854775807 ∧ As W W.heap.size A n f := by
  have none_ : ∀ B, As W W.heap.size B 0 (fun _ => default) := fun B => ⟨fun i hi => absurd hi (by omega), fun i hi => absurd hi (by omega)⟩
  rcases Deep.open_slice Try.underlying22 hf with ⟨hcs, _⟩ | ⟨a, len, cap', m, k, D, Pl, hcs, _, hl, hm, hmm, _, hall⟩
  · obtain ⟨rfl, rfl, rfl⟩ : A = none ∧ n = 0 ∧ cap = 0 := by simpa using hcs
    exact ⟨_, by decide, none_ _⟩
  · obtain ⟨rfl, rfl, rfl⟩ : A = some a ∧ n = len ∧ cap = cap' := by simpa using hcs
    have hm' : cap ≤ 9223372036854775807 := by unfold maxLen at hm; exact hm
    by_cases hl0 : n = 0
    · subst hl0
      exact ⟨_, by decide, none_ _⟩
    have hlm : n ≤ m := by rw [hmm]; split <;> omega
    have c4 : Try.prog.cellsOf 49 = 4 := by kernel_rfl
    have each : ∀ i, i < n → ∃ v : ActV, Av W W.heap.size v ∧ W.cell? (a.add (i * 4)) = some (.int .i64 v.kind) ∧ W.cell? (a.add (i * 4 + 1)) = some (.int .i64 v.i) ∧
        W.cell? (a.add (i * 4 + 2)) = some (.slice v.A v.bs.length v.cA) ∧ W.cell? (a.add (i * 4 + 3)) = some (.slice v.A2 v.K v.cK) := by
      intro i hi
      obtain ⟨cs', h1, h2⟩ := hall i (by omega)
      rw [c4] at h1
      obtain ⟨_, hlen, hcell⟩ := World.cells?_some h1
      obtain ⟨y0, y1, y2, y3, q, _, t0, t1, t2, t3⟩ := trod_struct4 Try.underlying49 h2
      match cs', hlen with
      | [v0, v1, v2, v3], _ =>
        have o1 : Try.prog.cellsOf 3 = 1 := by kernel_rfl
        have o2 : Try.prog.cellsOf 47 = 1 := by kernel_rfl
        have o3 : Try.prog.cellsOf 30 = 1 := by kernel_rfl
        simp [o1] at t0 t1
        simp [o2] at t2
        simp [o3] at t3
        have e0 := hcell 0 (by omega)
        have e1 := hcell 1 (by omega)
        have e2 := hcell 2 (by omega)
        have e3 := hcell 3 (by omega)
        rw [Deep.add_add] at e0 e1 e2 e3
        obtain ⟨x, ex, _, wx⟩ := DataW.trod_int Try.underlying3 t0
        obtain ⟨z, ez, _, wz⟩ := DataW.trod_int Try.underlying3 t1
        simp at ex ez
        subst ex ez
        have hv2 : ∃ Ai ni ci, v2 = .slice Ai ni ci := by
          rcases Deep.open_slice1 Try.underlying47 cellsB t2 with ⟨h, _⟩ | ⟨a, len, cap', m, k, V', D', Pl', h, _⟩
          · exact ⟨none, 0, 0, by simpa using h⟩
          · exact ⟨_, _, _, by simpa using h⟩
        have hv3 : ∃ Ai ni ci, v3 = .slice Ai ni ci := by
          rcases Deep.open_slice1 Try.underlying30 (by kernel_rfl) t3 with ⟨h, _⟩ | ⟨a, len, cap', m, k, V', D', Pl', h, _⟩
          · exact ⟨none, 0, 0, by simpa using h⟩
          · exact ⟨_, _, _, by simpa using h⟩
        obtain ⟨A2, n2, c2, rfl⟩ := hv2
        obtain ⟨A3, n3, c3, rfl⟩ := hv3
        obtain ⟨bs, rfl, l1, l2, R2⟩ := open_bytes t2
        obtain ⟨ks, l3, R3⟩ := open_bools t3
        exact ⟨⟨x, z, bs, n3, ks, A2, c2, A3, c3⟩, ⟨R2, R3, by simpa [Lit.wf, IntKind.min, IntKind.max, IntKind.signed, IntKind.bits] using wx, by simpa [Lit.wf, IntKind.min, IntKind.max, IntKind.signed, IntKind.bits] using wz, l3, by show bs.length ≤ _; omega⟩,
          by simpa using e0, by simpa using e1, by simpa using e2, by simpa using e3⟩
    obtain ⟨f, h⟩ := choose1 (n := n) each
    have c : W.cell? (a.add 0) = _ := (h 0 (by omega)).2.1
    obtain ⟨b, off, spot⟩ := a
    have hsp := spot_none c
    subst hsp
    have hB : b < W.heap.size := by rw [add_none] at c; exact World.block_lt_of_cell? W _ c
    refine ⟨f, by omega, fun i hi => ?_, fun i hi => (h i hi).1⟩
    obtain ⟨_, q0, q1, q2, q3⟩ := h i hi
    rw [add_none] at q0 q1 q2 q3
    exact ⟨b, off, rfl, hB, q0, q1, q2, q3⟩

/-- Are acts few and short? -/
def Few (L : Nat) (f : Nat → ActV) : Prop := L ≤ 40 ∧ ∀ i, i < L → (f i).bs.length ≤ 100 ∧ (f i).K ≤ 40
set_option maxHeartbeats 1000000 in
set_option maxRecDepth 100000 in
theorem few (B : Nat) (A : Option Addr) (c L : Nat) (f : Nat → ActV) (o : Bool) (ho : o = true ↔ Few L f) (w : World) (R : As w B A L f) :
    Calls Try.prog 7 #[.slice A L c] w fun e w' => e = .returned (.bool o) ∧ w = w' := by
  by_cases h40 : 40 < L
  · have eo : o = false := by
      cases o
      · rfl
      · have := (ho.1 rfl).1; omega
    subst eo
    have i1 : (40 : Int) < (L : Int) := by omega
    clear ho R h40
    go_enter Try.func7, Try.ntmps7
    go_wp2
    go_ret
    exact ⟨by simp [go_sem], rfl⟩
  have i1 : ¬ (40 : Int) < (L : Int) := by omega
  have HL := Lib.hid (show L ≤ 40 by omega)
  have HO := Lib.hid ho
  replace R := Lib.hid R
  clear ho h40
  go_enter Try.func7, Try.ntmps7
  go_wp2_with fail
  obtain ⟨wo, rfl⟩ : ∃ wo : World, wo = w := ⟨_, rfl⟩
  go_loopw [3] (fun v3 wr => ∃ j : Nat, v3 = .int .i64 (j : Int) ∧ j ≤ L ∧ (∀ i, i < j → (f i).bs.length ≤ 100 ∧ (f i).K ≤ 40) ∧ wr = wo) (fun v3 _ => L - (Lib.intOf v3).toNat)
  case atStart => exact ⟨0, rfl, Nat.zero_le _, fun i hi => absurd hi (by omega), rfl⟩
  case round =>
    obtain ⟨j, rfl, hj, F, rfl⟩ := hrel
    have l41 := HL.out
    by_cases hlt : j < L
    · have i2 : (j : Int) < L := by omega
      obtain ⟨b, off, rfl, _, _, _, t2, t3⟩ := R.out.at_ j hlt
      obtain ⟨x, hx⟩ : ∃ x, x = (f j).bs.length := ⟨_, rfl⟩
      obtain ⟨k, hk⟩ : ∃ k, k = (f j).K := ⟨_, rfl⟩
      rw [← hx] at t2
      rw [← hk] at t3
      by_cases h1 : 100 < x
      · have eo : o = false := by
          cases o
          · rfl
          · have := ((HO.out.1 rfl).2 j hlt).1; omega
        subst eo
        have i3 : (100 : Int) < (x : Int) := by omega
        clear hx hk F HO R
        go_wp2
        go_ret
        exact ⟨by simp [go_sem], rfl⟩
      have i3 : ¬ (100 : Int) < (x : Int) := by omega
      by_cases h2 : 40 < k
      · have eo : o = false := by
          cases o
          · rfl
          · have := ((HO.out.1 rfl).2 j hlt).2; omega
        subst eo
        have i4 : (40 : Int) < (k : Int) := by omega
        clear hx hk F HO R h1
        go_wp2
        go_ret
        exact ⟨by simp [go_sem], rfl⟩
      have i4 : ¬ (40 : Int) < (k : Int) := by omega
      have F2 := Lib.hid (show ∀ i, i < j + 1 → (f i).bs.length ≤ 100 ∧ (f i).K ≤ 40 from fun i hi => by
        by_cases e : i = j
        · subst e; omega
        · exact F i (by omega))
      clear hx hk F h1 h2
      go_wp2_with fail
      go_roundw
      case rel => exact ⟨j + 1, rfl, by omega, F2.out, by first | rfl | trivial⟩
      case measure => simp [Lib.intOf]; omega
    · have i2 : ¬ (j : Int) < L := by omega
      have eo : o = true := HO.out.2 ⟨HL.out, fun i hi => F i (by omega)⟩
      subst eo
      clear F HO R
      go_wp2
      go_ret
      exact ⟨by simp [go_sem], rfl⟩
/-- A disk by the document: its sectors, and what else there is. -/
structure Dm where
  f : Nat → Sec
  down : Bool
  fuse : Nat
  r : Nat
  w : Nat
  s : Nat
/-- It as a value: its sectors lie in memory, in the slice v. -/
def sv (v : Value) (d : Dm) : Value := .agg #[v, .bool d.down, .int .i64 (d.fuse : Nat), .int .i64 (d.r : Nat), .int .i64 (d.w : Nat), .int .i64 (d.s : Nat)]
end Dk
end Go.Proofs.Ytfjlhbamldgklaa
