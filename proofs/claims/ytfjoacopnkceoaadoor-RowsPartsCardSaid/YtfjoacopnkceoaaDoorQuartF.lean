/- What the law QuartersAlike goes by: two rows of one's own, a third one, and two kernels that lie behind them. -/
import Derived.Test.YtfjoacopnkceoaaDoorQuartE
import Derived.Test.YtfjoacopnkceoaaDoorKernG
set_option linter.unusedVariables false
namespace Go.Proofs.YtfjoacopnkceoaaDoor
open Go.RowKit Go.Lib Go.Sort
namespace Kq
open Nm Ww Tn Pl Kn Td

/-- Two rows of N words in blocks of their own, from block s on. -/
structure AB (s N ba bb : Nat) (fa fb : Nat → Nat) (w wr : World) : Prop where
  a : Wk wr ba 0 N fa
  b : Wk wr bb 0 N fb
  ne : ba ≠ bb
  la : s ≤ ba
  lb : s ≤ bb
  sa : ba < wr.heap.size
  sb : bb < wr.heap.size
  d : Below s w wr
section
variable {s N ba bb : Nat} {fa fb : Nat → Nat} {w wr : World}
theorem AB.symm (h : AB s N ba bb fa fb w wr) : AB s N bb ba fb fa w wr := ⟨h.b, h.a, Ne.symm h.ne, h.lb, h.la, h.sb, h.sa, h.d⟩
theorem AB.drew (h : AB s N ba bb fa fb w wr) : AB s N ba bb fa fb w wr.drew := ⟨h.a.drew, h.b.drew, h.ne, h.la, h.lb, h.sa, h.sb, h.d.drew⟩
theorem AB.puta (h : AB s N ba bb fa fb w wr) (i v : Nat) (hi : i < N) : AB s N ba bb (upd fa i v) fb w (wr.setCell ⟨ba, i, none⟩ (.int .u64 (v : Nat))) := by
  have K1 := h.a.put i v hi
  rw [Nat.zero_add] at K1
  exact ⟨K1, h.b.other (a := ⟨ba, i, none⟩) h.ne _, h.ne, h.la, h.lb, by simp [World.setCell]; exact h.sa, by simp [World.setCell]; exact h.sb, h.d.setCell (p := ⟨ba, i, none⟩) h.la _⟩
theorem AB.ata (h : AB s N ba bb fa fb w wr) (i : Nat) (hi : i < N) : wr.cell? ⟨ba, i, none⟩ = some (.int .u64 (fa i : Nat)) ∧ wr.frozen? ⟨ba, i, none⟩ = false := by
  have c := h.a.c i hi
  have z := h.a.z i hi
  rw [Nat.zero_add] at c z
  exact ⟨c, z⟩
theorem AB.made (w : World) (N : Nat) (e : TypeId) : AB w.heap.size N w.heap.size (w.heap.size + 1) (fun _ => 0) (fun _ => 0) w ((w.alloc (.cells (madeCells #[.int .u64 0] N) e)).alloc (.cells (madeCells #[.int .u64 0] N) e)) := by
  have b1 := below_alloc w (.cells (madeCells #[.int .u64 0] N) e)
  have b2 := below_alloc (w.alloc (.cells (madeCells #[.int .u64 0] N) e)) (.cells (madeCells #[.int .u64 0] N) e)
  have K1 := Wk.made w N e
  have K2 := Wk.made (w.alloc (.cells (madeCells #[.int .u64 0] N) e)) N e
  rw [show (w.alloc (.cells (madeCells #[.int .u64 0] N) e)).heap.size = w.heap.size + 1 by simp] at K2
  exact ⟨K1.below (by simp) b2, K2, by omega, Nat.le_refl _, by omega, by simp; omega, by simp, b1.trans (b2.mono b1.size)⟩
end

theorem ce_but {w w' : World} {c lo k p bf bi : Nat} (h : Kb w lo k p bf bi) (hc : c < lo) (o : But c w w') : Kb w' lo k p bf bi := by
  have hp := h.p
  have hf := h.f
  have hi := h.i
  have ws : ∀ {b2 : Nat} {xs : List Nat}, c ≠ b2 → Ws w w.heap.size (some ⟨b2, 0, none⟩) xs → Ws w' w'.heap.size (some ⟨b2, 0, none⟩) xs := fun {b2 xs} hne R =>
    ⟨fun i hi => by
      obtain ⟨b3, off, e, hB, cc⟩ := R.at_ i hi
      have e' := e
      injection e with e
      injection e with e1 e2
      exact ⟨b3, off, e', Nat.lt_of_lt_of_le hB o.bel.size, (o.cell ⟨b3, off + i, none⟩ (by show b3 ≠ c; omega) hB).trans cc⟩, R.lt⟩
  exact ⟨⟨h.r.c.but (by omega) o, Nat.lt_of_lt_of_le h.r.p o.bel.size, ws (by omega) h.r.rf, ws (by omega) h.r.ri⟩, hp, hf, hi⟩
theorem kh_but {w w' : World} {c lo k p p2 bf bi bp : Nat} (h : Kh w lo k p p2 bf bi bp) (hc : c < lo) (o : But c w w') : Kh w' lo k p p2 bf bi bp := by
  have hp := h.p
  have hb := h.b
  have z := ce_but h.z hc o
  refine ⟨⟨h.r.c.but (by omega) o, Nat.lt_of_lt_of_le h.r.p o.bel.size, z.r, ⟨fun i hi => ?_, h.r.r.lt⟩⟩, hp, z, hb⟩
  obtain ⟨b3, off, e, hB, cc⟩ := h.r.r.at_ i hi
  have e' := e
  injection e with e
  injection e with e1 e2
  exact ⟨b3, off, e', Nat.lt_of_lt_of_le hB o.bel.size, (o.cell ⟨b3, off + i, none⟩ (by show b3 ≠ c; omega) hB).trans cc⟩

/-- Three rows and two kernels. -/
structure Al (s N ba bb bw : Nat) (fa fb fw : Nat → Nat) (lo k p p2 bf bi bp q qf qi : Nat) (w wr : World) : Prop where
  a : Wk wr ba 0 N fa
  b : Wk wr bb 0 N fb
  c : Wk wr bw 0 N fw
  ab : ba ≠ bb
  ca : bw ≠ ba
  cb : bw ≠ bb
  sa : s ≤ ba
  sb : s ≤ bb
  la : ba < lo
  lb : bb < lo
  lc : bw < lo
  ll : lo ≤ wr.heap.size
  x : Kh wr lo k p p2 bf bi bp
  y : Kb wr lo k q qf qi
  d : Below s w wr
section
variable {s N ba bb bw : Nat} {fa fb fw g : Nat → Nat} {lo k p p2 bf bi bp q qf qi : Nat} {w wr w' : World}
theorem Al.below (h : Al s N ba bb bw fa fb fw lo k p p2 bf bi bp q qf qi w wr) (hb : Below wr.heap.size wr w') : Al s N ba bb bw fa fb fw lo k p p2 bf bi bp q qf qi w w' :=
  ⟨h.a.step hb, h.b.step hb, h.c.step hb, h.ab, h.ca, h.cb, h.sa, h.sb, h.la, h.lb, h.lc, Nat.le_trans h.ll hb.size, h.x.step hb, h.y.step hb, h.d.trans (hb.mono (by have := h.sa; have := h.la; have := h.ll; omega))⟩
theorem Al.ja (h : Al s N ba bb bw fa fb fw lo k p p2 bf bi bp q qf qi w wr) : JR ba N fa wr wr := ⟨h.a, But.refl _ _, Nat.lt_of_lt_of_le h.la h.ll⟩
theorem Al.jb (h : Al s N ba bb bw fa fb fw lo k p p2 bf bi bp q qf qi w wr) : JR bb N fb wr wr := ⟨h.b, But.refl _ _, Nat.lt_of_lt_of_le h.lb h.ll⟩
theorem Al.runa (h : Al s N ba bb bw fa fb fw lo k p p2 bf bi bp q qf qi w wr) (J : JR ba N g wr w') : Al s N ba bb bw g fb fw lo k p p2 bf bi bp q qf qi w w' :=
  ⟨J.k, J.o.wk (Ne.symm h.ab) (Nat.lt_of_lt_of_le h.lb h.ll) h.b, J.o.wk h.ca (Nat.lt_of_lt_of_le h.lc h.ll) h.c, h.ab, h.ca, h.cb, h.sa, h.sb, h.la, h.lb, h.lc, Nat.le_trans h.ll J.o.bel.size, kh_but h.x h.la J.o, ce_but h.y h.la J.o, h.d.trans (J.bel.mono h.sa)⟩
theorem Al.runb (h : Al s N ba bb bw fa fb fw lo k p p2 bf bi bp q qf qi w wr) (J : JR bb N g wr w') : Al s N ba bb bw fa g fw lo k p p2 bf bi bp q qf qi w w' :=
  ⟨J.o.wk h.ab (Nat.lt_of_lt_of_le h.la h.ll) h.a, J.k, J.o.wk h.cb (Nat.lt_of_lt_of_le h.lc h.ll) h.c, h.ab, h.ca, h.cb, h.sa, h.sb, h.la, h.lb, h.lc, Nat.le_trans h.ll J.o.bel.size, kh_but h.x h.lb J.o, ce_but h.y h.lb J.o, h.d.trans (J.bel.mono h.sb)⟩
theorem Al.wa (h : Al s N ba bb bw fa fb fw lo k p p2 bf bi bp q qf qi w wr) (hf : ∀ i, fa i < 18446744069414584321) : Ws wr wr.heap.size (some ⟨ba, 0, none⟩) (rg fa N) := wk_ws h.a hf (Nat.lt_of_lt_of_le h.la h.ll)
theorem Al.wb (h : Al s N ba bb bw fa fb fw lo k p p2 bf bi bp q qf qi w wr) (hf : ∀ i, fb i < 18446744069414584321) : Ws wr wr.heap.size (some ⟨bb, 0, none⟩) (rg fb N) := wk_ws h.b hf (Nat.lt_of_lt_of_le h.lb h.ll)
theorem Al.wc (h : Al s N ba bb bw fa fb fw lo k p p2 bf bi bp q qf qi w wr) (hf : ∀ i, fw i < 18446744069414584321) : Ws wr wr.heap.size (some ⟨bw, 0, none⟩) (rg fw N) := wk_ws h.c hf (Nat.lt_of_lt_of_le h.lc h.ll)
end
/-- The kernel that was made second may be said to lie from where the first one lies on. -/
theorem kb_lower {w : World} {lo lo' k p bf bi : Nat} (h : Kb w lo' k p bf bi) (hl : lo ≤ lo') : Kb w lo k p bf bi := ⟨h.r, Nat.le_trans hl h.p, Nat.le_trans hl h.f, Nat.le_trans hl h.i⟩
theorem Al.start {s N ba bb bw k p p2 bf bi bp q qf qi : Nat} {f fw : Nat → Nat} {w wr w3 w4 w5 : World} (h : AB s N ba bb f f w wr) (hw : wr.heap.size ≤ bw) (J : JR bw N fw w3 w3) (d3 : Below wr.heap.size wr w3)
    (X : Kh w4 w3.heap.size k p p2 bf bi bp) (d4 : Below w3.heap.size w3 w4) (Y : Kb w5 w4.heap.size k q qf qi) (d5 : Below w4.heap.size w4 w5) : Al s N ba bb bw f f fw w3.heap.size k p p2 bf bi bp q qf qi w w5 := by
  have s3 := d3.size
  have s4 := d4.size
  have s5 := d5.size
  have sa := h.sa
  have sb := h.sb
  have js := J.s
  have la := h.la
  exact ⟨((h.a.step d3).step d4).step d5, ((h.b.step d3).step d4).step d5, (J.k.step d4).step d5, h.ne, by omega, by omega, h.la, h.lb, by omega, by omega, by omega, by omega, X.step d5, kb_lower Y s4, ((h.d.trans (d3.mono (by omega))).trans (d4.mono (by omega))).trans (d5.mono (by omega))⟩
end Kq
end Go.Proofs.YtfjoacopnkceoaaDoor
