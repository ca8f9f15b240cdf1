/- Layer 15: contracts of Dirty and Touched of a disk. -/
import Derived.Test.YtfjlhbamldgklaaDiskG
import Derived.Test.YtfjlhbamldgklaaDiskC
set_option linter.unusedVariables false
namespace Go.Proofs.Ytfjlhbamldgklaa
open Go.RowKit Go.Lib Go.ChangeMaps
namespace Dk
open Ww

theorem infoN : (Try.prog.info? 3).map (fun i => (i.zero, i.size, i.bytes)) = some (some (.int .i64 0), 1, 8) := by kernel_rfl
/-- A row of numbers of one's own. -/
def Nr (w : World) (base : Nat) (v : Value) (l : List Nat) : Prop := w.ownsRow base 3 1 v l.length (l.map fun i : Nat => .int .i64 (i : Int))
theorem Nr.nil_ (w : World) (base : Nat) : Nr w base (.slice none 0 0) [] := World.ownsRow_nil w base _ 1
/-- append of one int. -/
theorem appendN (w : World) {ops : Array Oper} {rest : List Oper} {o : Oper} {a : Act} {Q : Exit → Act → World → Prop} (hgd : o.guard = none) (s x : Operand)
    (ho : o.op = .call { callee := .builtin .append, args := #[s, x], argTypes := #[54, 54] })
    (base : Nat) (v : Value) (l : List Nat) (hs : a.eval s = v) (hown : Nr w base v l) (b : Nat) (y : Nat) (hx : a.eval x = .slice (some ⟨b, 0, none⟩) 1 1) (hc : w.cell? ⟨b, 0, none⟩ = some (.int .i64 (y : Nat)))
    (hlen : l.length + 1 ≤ 17592186044416) (hbase : base ≤ w.heap.size)
    (h : ∀ v' w', Nr w' base v' (l ++ [y]) → w.grownBy w' v.ownBlock → wpList Try.prog ops Q rest (a.put o.dst v') w') : wpList Try.prog ops Q (o :: rest) a w := by
  obtain ⟨i, hi⟩ : ∃ i, Try.prog.info? 3 = some i := by
    cases e : Try.prog.info? 3 with
    | none => have := infoN; rw [e] at this; cases this
    | some i => exact ⟨i, rfl⟩
  have hU := infoN
  rw [hi] at hU
  simp only [Option.map_some, Option.some.injEq, Prod.mk.injEq] at hU
  refine wpList_append_own w hgd s x _ ho base _ i (.int .i64 0) 1 8 Try.underlying54 hi hU.1 hU.2.1 hU.2.2 rfl (by decide) v l.length _ hs hown ⟨b, 0, none⟩ 1 1 [.int .i64 (y : Nat)] hx rfl ?_ ?_ ?_ ?_ hbase fun v' w' h1 h2 _ => h v' w' ?_ h2
  · intro j u hu
    rcases j with _ | j
    · simp at hu; subst hu; exact hc
    · simp at hu
  · intro u hu; simp at hu; subst hu; rfl
  · simp only [maxLen]; omega
  · omega
  · unfold Nr
    rw [List.length_append, List.map_append]
    exact h1
section
variable {w : World} {L : Ly} {z n k : Nat} {d : Dm}
theorem dirty (h : Db w L z n d k) (hk : k ≤ 1000000) : Calls Try.prog 16 #[.pointer (some ⟨L.p, 0, none⟩)] w (Nw (nl (fun i => (d.f i).dirty) n) w) := by
  obtain ⟨φ, sf, c, h⟩ := h
  have e : nl (fun i => (d.f i).dirty) n = nl (fun i => (c i).isSome) n := nl_congr n fun i hi => by
    cases e : c i with
    | none => exact (h.hn i hi e).1
    | some v => exact (h.hc i v hi e).1
  rw [e]
  exact dirty_at h.cells.2.2.1 h.hm hk
set_option maxHeartbeats 1000000 in
theorem touched (h : Db w L z n d k) : Calls Try.prog 29 #[.pointer (some ⟨L.p, 0, none⟩)] w (Nw (nl (fun i => (d.f i).touched) n) w) := by
  obtain ⟨φ, sf, c, h⟩ := h
  have c3 := h.cells.2.2.2.1
  have ht := Lib.hid h.ht
  have hln := h.ln.2
  have T := Lib.hid (fun wr (hb : Below w.heap.size w wr) i (hi : i < n) => (show wr.cell? ⟨L.t, i, none⟩ = some (.bool (d.f i).touched) from (hb.cell (p := ⟨L.t, i, none⟩) h.ht.lt).trans (h.ht.cell hi)))
  obtain ⟨p, hp⟩ : ∃ p : Nat → Bool, p = fun i => (d.f i).touched := ⟨_, rfl⟩
  have T2 := Lib.hid (fun wr (hb : Below w.heap.size w wr) i (hi : i < n) => (show wr.cell? ⟨L.t, i, none⟩ = some (.bool (p i)) from by rw [hp]; exact T.out wr hb i hi))
  rw [← hp]
  have J := Lib.hid (show Nr w w.heap.size (.slice none 0 0) (nl p 0) ∧ Below w.heap.size w w from ⟨Nr.nil_ _ _, Below.refl _ _⟩)
  have HN := Lib.hid hln
  clear h ht T hp hln
  obtain ⟨p', s, t, m⟩ := L
  go_enter Try.func29, Try.ntmps29
  go_wp2_with fail
  go_loopw [3, 11] (fun v3 v11 wr => ∃ j : Nat, v11 = .int .i64 (j : Int) ∧ j ≤ n ∧ Nr wr w.heap.size v3 (nl p j) ∧ Below w.heap.size w wr) (fun _ v11 _ => n - (Lib.intOf v11).toNat)
  case atStart => exact ⟨0, rfl, Nat.zero_le _, J.out⟩
  case round =>
    clear J
    obtain ⟨j, rfl, hj, O, D⟩ := hrel
    have hln := HN.out
    by_cases hlt : j < n
    · have i1 : (j : Int) < n := by omega
      have t1 := T2.out _ D j hlt
      cases hb : p j with
      | true =>
        rw [hb] at t1
        have O1 := Lib.hid (show Nr (wr.alloc (.cells #[.int .i64 (j : Int)] 3)) w.heap.size u3 (nl p j) from World.ownsRow.alloc O _)
        have D1 := Lib.hid (D.alloc D.size (.cells #[.int .i64 (j : Int)] 3))
        have sz := Lib.hid D.size
        have E := Lib.hid (show nl p (j + 1) = nl p j ++ [j] by simp [nl, hb])
        have lb := Lib.hid (show (nl p j).length + 1 ≤ 17592186044416 from by have := nc_le p j; unfold nc at this; omega)
        clear O D hb
        go_upto_region 7 with (at_builtin; (refine appendN (wr.alloc (.cells #[.int .i64 (j : Int)] 3)) ?hgd (.tmp 17) (.tmp 19) ?ho w.heap.size u3 (nl p j) ?hs O1.out wr.heap.size j ?hx ?hc lb.out ?c2 (fun v3 w5 P5 hg => ?_)); (case hgd => rfl); (case ho => rfl); (case hs => rfl); (case hx => rfl); (case hc => exact blk_cell (heap_alloc_new wr _) 0); (case c2 => have := sz.out; simp; omega))
        have P6 := Lib.hid (show Nr w5 w.heap.size v3 (nl p (j + 1)) ∧ Below w.heap.size w w5 from ⟨by rw [E.out]; exact P5, D1.out.grown hg (by have := sz.out; simp; omega) (fun k hk => (World.ownsRow.lt O1.out k hk).1)⟩)
        clear P5 hg O1 D1 sz E lb
        go_wp2_with fail
        go_roundw
        case rel => exact ⟨j + 1, rfl, by omega, P6.out⟩
        case measure => simp [Lib.intOf]; omega
      | false =>
        rw [hb] at t1
        have P6 := Lib.hid (show Nr wr w.heap.size u3 (nl p (j + 1)) ∧ Below w.heap.size w wr from ⟨by rw [show nl p (j + 1) = nl p j by simp [nl, hb]]; exact O, D⟩)
        clear O D hb
        go_wp2_with fail
        go_roundw
        case rel => exact ⟨j + 1, rfl, by omega, P6.out⟩
        case measure => simp [Lib.intOf]; omega
    · have i1 : ¬ (j : Int) < n := by omega
      have ej : j = n := by omega
      subst ej
      have F := Lib.hid (show Nw (nl p j) w (.returned u3) wr from ⟨_, rfl, O, D⟩)
      clear O D
      go_wp2
      exact bodyPost_ret (v := u3) (by simp [results, Try.results29, go_sem]) rfl F.out
end
end Dk
end Go.Proofs.Ytfjlhbamldgklaa
