/- Contracts of package block: has, New, Of, Shape, Words. -/
import Derived.Test.YtobpjlgiefnmjaaDoorRowG
import Derived.Test.YtobpjlgiefnmjaaDoorShape
import Derived.Test.YtobpjlgiefnmjaaDoorSame
import Derived.Test.YtobpjlgiefnmjaaDoorBlockN
import Derived.BigRegion
import Derived.Deep.RegionWith
import Derived.Deep.RegionHeld3
import Derived.Deep.DeepCutAuto
import Derived.Lib.QuietBelow
import Derived.Lib.SliceRun
import Derived.Laws.CopyOwn
import Derived.WalkSpells
set_option linter.unusedVariables false
namespace Go.Proofs.YtobpjlgiefnmjaaDoor
open Go.RowKit Go.Lib Go.Sort
namespace Bl
open Ww Pl

/-- Three cells of a struct in memory: two ints and a slice. -/
structure Sc (w : World) (p : Nat) (R C : Int) (s : Value) : Prop where
  c0 : w.cell? ⟨p, 0, none⟩ = some (.int .i64 R)
  c1 : w.cell? ⟨p, 1, none⟩ = some (.int .i64 C)
  c2 : w.cell? ⟨p, 2, none⟩ = some s
  z0 : w.frozen? ⟨p, 0, none⟩ = false
  z1 : w.frozen? ⟨p, 1, none⟩ = false
  z2 : w.frozen? ⟨p, 2, none⟩ = false
section
variable {w w' : World} {p b : Nat} {R C : Int} {s : Value}
theorem Sc.lt (h : Sc w p R C s) : p < w.heap.size := World.block_lt_of_cell? w _ h.c0
theorem Sc.keep (h : Sc w p R C s) (hc : ∀ q : Addr, q.block = p → w'.cell? q = w.cell? q) (hf : ∀ q : Addr, q.block = p → w'.frozen? q = w.frozen? q) : Sc w' p R C s :=
  ⟨(hc _ rfl).trans h.c0, (hc _ rfl).trans h.c1, (hc _ rfl).trans h.c2, (hf _ rfl).trans h.z0, (hf _ rfl).trans h.z1, (hf _ rfl).trans h.z2⟩
theorem Sc.below (h : Sc w p R C s) (hb : Below w.heap.size w w') : Sc w' p R C s :=
  h.keep (fun q e => hb.cell (p := q) (by rw [e]; exact h.lt)) (fun q e => hb.frozen (p := q) (by rw [e]; exact h.lt))
theorem Sc.but (h : Sc w p R C s) (o : But b w w') (hp : p ≠ b) : Sc w' p R C s :=
  h.keep (fun q e => o.cell q (by rw [e]; exact hp) (by rw [e]; exact h.lt)) (fun q e => o.frz q (by rw [e]; exact hp) (by rw [e]; exact h.lt))
theorem Sc.drew (h : Sc w p R C s) : Sc w.drew p R C s := ⟨h.c0, h.c1, h.c2, h.z0, h.z1, h.z2⟩
theorem Sc.drewN (h : Sc w p R C s) (k : Nat) : Sc (w.drewN k) p R C s := ⟨h.c0, h.c1, h.c2, h.z0, h.z1, h.z2⟩
theorem Sc.fresh (w : World) (R C : Int) (s : Value) (t : TypeId) : Sc (w.alloc (.cells #[.int .i64 R, .int .i64 C, s] t)) w.heap.size R C s := by
  constructor <;> simp [go_sem]
end
theorem But.trans {b : Nat} {w w1 w2 : World} (h : But b w w1) (h2 : But b w1 w2) : But b w w2 :=
  ⟨h.bel.trans h2.bel, fun p q1 q2 => (h2.cell p q1 (Nat.lt_of_lt_of_le q2 h.bel.size)).trans (h.cell p q1 q2), fun p q1 q2 => (h2.frz p q1 (Nat.lt_of_lt_of_le q2 h.bel.size)).trans (h.frz p q1 q2)⟩
theorem But.of_below {b : Nat} {w w1 : World} (h : Below w.heap.size w w1) (hb : b ≤ w.heap.size) : But b w w1 :=
  ⟨h.mono hb, fun p _ q => h.cell (p := p) q, fun p _ q => h.frozen (p := p) q⟩
/-- A block that is new to w may be written: what was there stays. -/
theorem But.new {b : Nat} {w w1 w2 : World} (h0 : Below w.heap.size w w1) (hb : w.heap.size ≤ b) (h : But b w1 w2) : Below w.heap.size w w2 := h0.trans (h.bel.mono hb)

/-- A block of package block, at p: its shape, and its n words f, in memory of its own at b. -/
structure Bx (w : World) (p b R C n cap : Nat) (f : Nat → Nat) : Prop where
  c : Sc w p R C (.slice (some ⟨b, 0, none⟩) n cap)
  k : Wk w b 0 n f
  s : b < w.heap.size
  ne : p ≠ b
  hc : n ≤ cap
  hn : R * C = n
  g : Sh.Gd (R : Int) (C : Int)
  l : n ≤ 1048576
  lt : ∀ i, i < n → f i < 18446744073709551616
section
variable {w w' : World} {p b R C n cap c : Nat} {f : Nat → Nat}
theorem Bx.below (h : Bx w p b R C n cap f) (hb : Below w.heap.size w w') : Bx w' p b R C n cap f :=
  ⟨h.c.below hb, h.k.below h.s hb, Nat.lt_of_lt_of_le h.s hb.size, h.ne, h.hc, h.hn, h.g, h.l, h.lt⟩
theorem Bx.but (h : Bx w p b R C n cap f) (o : But c w w') (hp : p ≠ c) (hb : b ≠ c) : Bx w' p b R C n cap f :=
  ⟨h.c.but o hp, o.wk hb h.s h.k, Nat.lt_of_lt_of_le h.s o.bel.size, h.ne, h.hc, h.hn, h.g, h.l, h.lt⟩
theorem Bx.drew (h : Bx w p b R C n cap f) : Bx w.drew p b R C n cap f := ⟨h.c.drew, h.k.drew, h.s, h.ne, h.hc, h.hn, h.g, h.l, h.lt⟩
theorem Bx.drewN (h : Bx w p b R C n cap f) (k : Nat) : Bx (w.drewN k) p b R C n cap f := ⟨h.c.drewN k, h.k.drewN k, h.s, h.ne, h.hc, h.hn, h.g, h.l, h.lt⟩
theorem Bx.pos (h : Bx w p b R C n cap f) : 0 < R ∧ 0 < C ∧ 0 < n ∧ R ≤ n ∧ C ≤ n := by
  obtain ⟨g1, _, g3, _, _⟩ := h.g.bound
  have r0 : 0 < R := by omega
  have c0 : 0 < C := by omega
  have e := h.hn
  exact ⟨r0, c0, by rw [← e]; exact Nat.mul_pos r0 c0, by rw [← e]; exact Nat.le_mul_of_pos_right R c0, by rw [← e]; exact Nat.le_mul_of_pos_left C r0⟩
theorem Bx.congr {g : Nat → Nat} (h : Bx w p b R C n cap f) (e : ∀ i, i < n → f i = g i) : Bx w p b R C n cap g :=
  ⟨h.c, ⟨fun i hi => by rw [← e i hi]; exact h.k.c i hi, h.k.z⟩, h.s, h.ne, h.hc, h.hn, h.g, h.l, fun i hi => by rw [← e i hi]; exact h.lt i hi⟩
/-- Its words were written, and no other block. -/
theorem Bx.wrote {g : Nat → Nat} (h : Bx w p b R C n cap f) (t : Ta b n g w w') (hl : ∀ i, i < n → g i < 18446744073709551616) : Bx w' p b R C n cap g :=
  ⟨h.c.but t.o h.ne, t.k, Nat.lt_of_lt_of_le h.s t.o.bel.size, h.ne, h.hc, h.hn, h.g, h.l, hl⟩
theorem Bx.ta (h : Bx w p b R C n cap f) : Ta b n f w w := ⟨h.k, But.refl _ _⟩
end
/-- What a call answers that makes a block. -/
def BxN (R C n : Nat) (f : Nat → Nat) (w : World) (w' : World) (v : Value) : Prop :=
  ∃ p b cap, v = .pointer (some ⟨p, 0, none⟩) ∧ Bx w' p b R C n cap f ∧ w.heap.size ≤ p ∧ w.heap.size ≤ b ∧ Below w.heap.size w w'

set_option maxHeartbeats 400000 in
theorem has_no (a b : Int) (h : ¬ Sh.Gd a b) (w : World) (hT : Ft.Tab w) :
    Calls Tryd.prog 25 #[.agg #[.int .i64 a, .int .i64 b]] w fun e w' => e = .returned (.bool false) ∧ Below w.heap.size w w' := by
  have G := Lib.hid (fun W T => Sh.good a b false (by simp [h]) W T)
  have HB := Lib.hid (below_alloc w)
  have HT := Lib.hid hT
  clear h hT
  go_enter Tryd.func25, Tryd.ntmps25
  go_wp2_with fail
  refine (G.out _ (HT.out.below (HB.out _))).mono ?_
  rintro e w1 ⟨rfl, h1⟩
  have c1 := Lib.hid ((HB.out _).trans (h1.mono (HB.out _).size))
  clear h1 HB
  go_wp2
  go_ret
  exact ⟨by simp [go_sem], c1.out⟩
set_option maxHeartbeats 400000 in
theorem has_gd (a b m : Int) (o : Bool) (h : Sh.Gd a b) (hm : a * b = m) (ho : o = decide (m ≤ 1048576)) (w : World) (hT : Ft.Tab w) :
    Calls Tryd.prog 25 #[.agg #[.int .i64 a, .int .i64 b]] w fun e w' => e = .returned (.bool o) ∧ Below w.heap.size w w' := by
  have G := Lib.hid (fun W T => Sh.good a b true (by simp [h]) W T)
  have Z := Lib.hid (fun W T => Sh.size_yes a b m h hm W T)
  have HB := Lib.hid (below_alloc w)
  have HT := Lib.hid hT
  have ho := Lib.hid ho
  clear h hT hm
  go_enter Tryd.func25, Tryd.ntmps25
  go_wp2_with fail
  refine (G.out _ (HT.out.below (HB.out _))).mono ?_
  rintro e w1 ⟨rfl, h1⟩
  have c1 := (HB.out _).trans (h1.mono (HB.out _).size)
  have T1 := (Sh.Tw.fresh w a b 23).below h1
  have t0 := T1.c0
  have t1 := T1.c1
  clear h1 HB
  go_wp2_with fail
  refine (Z.out _ (HT.out.below c1)).mono ?_
  rintro e w2 ⟨rfl, h2⟩
  have c2 := Lib.hid (c1.trans (h2.mono c1.size))
  clear h2 c1 T1 t0 t1
  go_wp2
  go_ret
  exact ⟨by simp [go_sem, ho.out], c2.out⟩
theorem has (a b : Int) (o : Bool) (ho : o = true ↔ Sh.Gd a b ∧ a * b ≤ 1048576) (w : World) (hT : Ft.Tab w) :
    Calls Tryd.prog 25 #[.agg #[.int .i64 a, .int .i64 b]] w fun e w' => e = .returned (.bool o) ∧ Below w.heap.size w w' := by
  by_cases g : Sh.Gd a b
  · refine has_gd a b _ o g rfl ?_ w hT
    rw [Bool.eq_iff_iff, ho, decide_eq_true_iff]
    exact ⟨fun h => h.2, fun h => ⟨g, h⟩⟩
  · have : o = false := by
      cases o
      · rfl
      · exact absurd (ho.1 rfl).1 g
    subst this
    exact has_no a b g w hT

theorem make_wordsB (n : Nat) (hn : 8 * n ≤ 281474976710656) (h63 : n ≤ 9223372036854775807) (w : World) :
    (Instr.makeSlice 59 (.int .i64 (n : Int)) (.int .i64 (n : Int))).run Tryd.prog w = .ok (.slice (some ⟨w.heap.size, 0, none⟩) n n) (w.alloc (.cells (madeCells #[.int .u64 0] n) 37)) :=
  run_make_row' (P := Tryd.prog) 59 37 _ 8 Tryd.underlying59 infoU rfl .i64 .i64 n hn h63 w
theorem build_sides (p q : Int) (W : World) : (Instr.build 57 #[(0, .int .i64 p), (1, .int .i64 q)]).run Tryd.prog W = .ok (.agg #[.int .i64 p, .int .i64 q]) W := by kernel_rfl
theorem build_block (p q : Int) (s : Option Addr) (n c : Nat) (W : World) : (Instr.build 61 #[(0, .agg #[.int .i64 p, .int .i64 q]), (1, .slice s n c)]).run Tryd.prog W = .ok (.agg #[.int .i64 p, .int .i64 q, .slice s n c]) W := by kernel_rfl

set_option maxHeartbeats 400000 in
theorem new_no (a b : Int) (h : ¬ (Sh.Gd a b ∧ a * b ≤ 1048576)) (w : World) (hT : Ft.Tab w) :
    Calls Tryd.prog 17 #[.agg #[.int .i64 a, .int .i64 b]] w fun e w' => e = .returned (.pointer none) ∧ Below w.heap.size w w' := by
  have G := Lib.hid (fun W T => has a b false (by simp only [Bool.false_eq_true, false_iff]; exact h) W T)
  have HB := Lib.hid (below_alloc w)
  have HT := Lib.hid hT
  clear h hT
  go_enter Tryd.func17, Tryd.ntmps17
  go_wp2_with fail
  refine (G.out _ (HT.out.below (HB.out _))).mono ?_
  rintro e w1 ⟨rfl, h1⟩
  have c1 := Lib.hid ((HB.out _).trans (h1.mono (HB.out _).size))
  clear h1 HB
  go_wp2
  go_ret
  exact ⟨by simp [go_sem], c1.out⟩

/-- A shape's block in memory beside what was there. -/
structure Ke (w1 : World) (vb : Nat) (p q : Int) (w : World) : Prop where
  c0 : w.cell? ⟨vb, 0, none⟩ = some (.int .i64 p)
  c1 : w.cell? ⟨vb, 1, none⟩ = some (.int .i64 q)
  d : Below w1.heap.size w1 w
  l : vb < w1.heap.size
section
variable {w1 w w2 : World} {vb : Nat} {p q : Int}
theorem Ke.drew (h : Ke w1 vb p q w) : Ke w1 vb p q w.drew := ⟨h.c0, h.c1, h.d.drew, h.l⟩
theorem Ke.call (h : Ke w1 vb p q w) (hb : Below w.heap.size w w2) : Ke w1 vb p q w2 :=
  ⟨(hb.cell (p := ⟨vb, 0, none⟩) (Nat.lt_of_lt_of_le h.l h.d.size)).trans h.c0, (hb.cell (p := ⟨vb, 1, none⟩) (Nat.lt_of_lt_of_le h.l h.d.size)).trans h.c1, h.d.trans (hb.mono h.d.size), h.l⟩
theorem Ke.alloc (h : Ke w1 vb p q w) (o : Obj) : Ke w1 vb p q (w.alloc o) := h.call (below_alloc w o)
theorem Ke.all (h : Ke w1 vb p q w) : w.cell? ⟨vb, 0, none⟩ = some (.int .i64 p) ∧ w.cell? ⟨vb, 1, none⟩ = some (.int .i64 q) ∧ Ke w1 vb p q w := ⟨h.c0, h.c1, h⟩
theorem Ke.tw (h : Ke w1 vb p q w) : Sh.Tw w vb p q := ⟨h.c0, h.c1⟩
theorem Ke.of (h : Sh.Tw w1 vb p q) : Ke w1 vb p q w1 := ⟨h.c0, h.c1, Below.refl _ _, h.lt⟩
end
/-- A block that was made just now, of noughts. -/
theorem bx_made (w : World) (R C n : Nat) (hn : R * C = n) (hg : Sh.Gd (R : Int) (C : Int)) (hl : n ≤ 1048576) (t : TypeId) :
    Bx ((w.alloc (.cells (madeCells #[.int .u64 0] n) 37)).alloc (.cells #[.int .i64 R, .int .i64 C, .slice (some ⟨w.heap.size, 0, none⟩) n n] t)) (w.heap.size + 1) w.heap.size R C n n (fun _ => 0) := by
  have K := Wk.made w n 37
  have b2 := below_alloc (w.alloc (.cells (madeCells #[.int .u64 0] n) 37)) (.cells #[.int .i64 R, .int .i64 C, .slice (some ⟨w.heap.size, 0, none⟩) n n] t)
  have S := Sc.fresh (w.alloc (.cells (madeCells #[.int .u64 0] n) 37)) R C (.slice (some ⟨w.heap.size, 0, none⟩) n n) t
  have e : (w.alloc (.cells (madeCells #[.int .u64 0] n) 37)).heap.size = w.heap.size + 1 := by simp
  rw [e] at S
  exact ⟨S, K.below (by rw [e]; omega) b2, by simp; omega, by omega, Nat.le_refl _, hn, hg, hl, fun _ _ => by decide⟩
set_option maxHeartbeats 1000000 in
set_option maxRecDepth 100000 in
theorem new (R C n : Nat) (hg : Sh.Gd (R : Int) (C : Int)) (hn : R * C = n) (hl : n ≤ 1048576) (w : World) (hT : Ft.Tab w) :
    Calls Tryd.prog 17 #[.agg #[.int .i64 (R : Int), .int .i64 (C : Int)]] w fun e w' => ∃ v, e = .returned v ∧ BxN R C n (fun _ => 0) w w' v := by
  have hm : (R : Int) * (C : Int) = (n : Int) := by rw [← hn]; simp
  have G := Lib.hid (fun W T => has R C true (by simp only [true_iff]; exact ⟨hg, by rw [hm]; omega⟩) W T)
  have Z := Lib.hid (fun W T => Sh.size_yes R C n hg hm W T)
  have HB := Lib.hid (below_alloc w)
  have HT := Lib.hid hT
  have mk := make_wordsB n (by omega) (by omega)
  have b1 := build_sides (R : Int) (C : Int)
  have b2 := fun s n c => build_block (R : Int) (C : Int) s n c
  have BM := Lib.hid (fun W t => bx_made W R C n hn hg hl t)
  clear hg hT hm hn
  go_enter Tryd.func17, Tryd.ntmps17
  go_wp2_with fail
  refine (G.out _ (HT.out.below (HB.out _))).mono ?_
  rintro e w1 ⟨rfl, h1⟩
  have c1 := Lib.hid ((HB.out _).trans (h1.mono (HB.out _).size))
  have M := Ke.of ((Sh.Tw.fresh w R C 23).below h1)
  have vl := Lib.hid M.l
  have T1 := Lib.hid (HT.out.below c1.out)
  clear h1 HB HT G
  generalize w.heap.size = vb at M
  have TX := Lib.hid (fun W (h : Ke w1 vb R C W) => show Ft.Tab W from T1.out.below h.d)
  have FI := Lib.hid (fun W t (h : Ke w1 vb R C W) => show BxN R C n (fun _ => 0) w1 ((W.alloc (.cells (madeCells #[.int .u64 0] n) 37)).alloc (.cells #[.int .i64 R, .int .i64 C, .slice (some ⟨W.heap.size, 0, none⟩) n n] t)) (.pointer (some ⟨W.heap.size + 1, 0, none⟩)) from
    ⟨_, _, _, rfl, BM.out W t, Nat.le_trans h.d.size (Nat.le_succ _), h.d.size, ((h.alloc _).alloc _).d⟩)
  go_upto_region 2 with fail
  go_cut [2] (fun v2 wx => BxN R C n (fun _ => 0) w1 wx v2)
  case first =>
    go_region_held3 (fun w' => w'.cell? ⟨vb, 0, none⟩ = some (.int .i64 (R : Int)) ∧ w'.cell? ⟨vb, 1, none⟩ = some (.int .i64 (C : Int)) ∧ Ke w1 vb R C w')
      (exact Ke.all (by repeat (first | with_reducible exact M | with_reducible refine Ke.drew ?_ | with_reducible refine Ke.alloc ?_ _ | with_reducible refine Ke.call ?_ h3)))
      (first
        | (go_at_call 26; refine (Z.out _ (TX.out _ (by repeat (first | with_reducible exact M | with_reducible refine Ke.drew ?_ | with_reducible refine Ke.call ?_ h3)))).mono ?_; rintro e w3 ⟨rfl, h3⟩))
    all_goals (go_wp2_with fail; go_meet)
    all_goals exact FI.out _ _ (by repeat (first | with_reducible exact M | with_reducible refine Ke.drew ?_ | with_reducible refine Ke.call ?_ h3))
  case rest =>
    have F := Lib.hid (show BxN R C n (fun _ => 0) w wc u2 from by
      obtain ⟨p, b, cap, e, B, h1, h2, h3⟩ := hcut
      exact ⟨p, b, cap, e, B, Nat.le_trans c1.out.size h1, Nat.le_trans c1.out.size h2, c1.out.trans (h3.mono c1.out.size)⟩)
    clear hcut TX BM M Z
    go_wp2
    exact bodyPost_ret (v := u2) (by simp [results, Tryd.results17, go_sem]) rfl ⟨u2, rfl, F.out⟩
end Bl
end Go.Proofs.YtobpjlgiefnmjaaDoor
