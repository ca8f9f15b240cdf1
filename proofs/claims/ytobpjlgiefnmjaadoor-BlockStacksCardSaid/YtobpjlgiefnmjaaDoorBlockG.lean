/- Contracts of package block's holds, write; of the laws' inside. -/
import Derived.Test.YtobpjlgiefnmjaaDoorBlockF
set_option linter.unusedVariables false
namespace Go.Proofs.YtobpjlgiefnmjaaDoor
open Go.RowKit Go.Lib Go.Sort
namespace Bl
open Ww Pl

/-- Four cells of a tile in memory. -/
structure Ti (w : World) (q : Nat) (a b r c : Int) : Prop where
  c0 : w.cell? ⟨q, 0, none⟩ = some (.int .i64 a)
  c1 : w.cell? ⟨q, 1, none⟩ = some (.int .i64 b)
  c2 : w.cell? ⟨q, 2, none⟩ = some (.int .i64 r)
  c3 : w.cell? ⟨q, 3, none⟩ = some (.int .i64 c)
section
variable {w w' : World} {q bb : Nat} {a b r c : Int}
theorem Ti.lt (h : Ti w q a b r c) : q < w.heap.size := World.block_lt_of_cell? w _ h.c0
theorem Ti.below (h : Ti w q a b r c) (hb : Below w.heap.size w w') : Ti w' q a b r c :=
  ⟨(hb.cell (p := ⟨q, 0, none⟩) h.lt).trans h.c0, (hb.cell (p := ⟨q, 1, none⟩) h.lt).trans h.c1, (hb.cell (p := ⟨q, 2, none⟩) h.lt).trans h.c2, (hb.cell (p := ⟨q, 3, none⟩) h.lt).trans h.c3⟩
theorem Ti.but (h : Ti w q a b r c) (o : But bb w w') (hq : q ≠ bb) : Ti w' q a b r c :=
  ⟨(o.cell ⟨q, 0, none⟩ hq h.lt).trans h.c0, (o.cell ⟨q, 1, none⟩ hq h.lt).trans h.c1, (o.cell ⟨q, 2, none⟩ hq h.lt).trans h.c2, (o.cell ⟨q, 3, none⟩ hq h.lt).trans h.c3⟩
theorem Ti.drew (h : Ti w q a b r c) : Ti w.drew q a b r c := ⟨h.c0, h.c1, h.c2, h.c3⟩
theorem Ti.fresh (w : World) (a b r c : Int) (t : TypeId) : Ti (w.alloc (.cells #[.int .i64 a, .int .i64 b, .int .i64 r, .int .i64 c] t)) w.heap.size a b r c := by
  constructor <;> simp [go_sem]
end
/-- A tile of a right shape lies in a shape. -/
def Ins (R C a b r c : Int) : Prop := Sh.Gd a b ∧ (0 ≤ r ∧ r ≤ R - a) ∧ 0 ≤ c ∧ c ≤ C - b

set_option maxHeartbeats 1000000 in
set_option maxRecDepth 100000 in
theorem holds_core (R C a b r c x y : Int) (g o : Bool) (hx : IntKind.i64.wrap (R - a) = x) (hy : IntKind.i64.wrap (C - b) = y) (ho : (g && decide (0 ≤ r) && decide (r ≤ x) && decide (0 ≤ c) && decide (c ≤ y)) = o)
    (hG : ∀ W, Ft.Tab W → Calls Tryd.prog 37 #[.agg #[.int .i64 a, .int .i64 b]] W fun e w' => e = .returned (.bool g) ∧ Below W.heap.size W w') (w : World) (hT : Ft.Tab w) :
    Calls Tryd.prog 32 #[.agg #[.int .i64 R, .int .i64 C], .agg #[.int .i64 a, .int .i64 b, .int .i64 r, .int .i64 c]] w fun e w' => e = .returned (.bool o) ∧ Below w.heap.size w w' := by
  have G := Lib.hid hG
  have HO := Lib.hid ho
  have V0 := Sh.Tw.fresh w R C 57
  have b0 := below_alloc w (.cells #[.int .i64 R, .int .i64 C] 57)
  have W0 := Ti.fresh (w.alloc (.cells #[.int .i64 R, .int .i64 C] 57)) a b r c 45
  have b1 := below_alloc (w.alloc (.cells #[.int .i64 R, .int .i64 C] 57)) (.cells #[.int .i64 a, .int .i64 b, .int .i64 r, .int .i64 c] 45)
  have b2 := b0.trans (b1.mono b0.size)
  have V1 := V0.below b1
  have e1 : (w.alloc (.cells #[.int .i64 R, .int .i64 C] 57)).heap.size = w.heap.size + 1 := by simp
  rw [e1] at W0
  clear hG ho V0 b0 b1 e1
  go_enter Tryd.func32, Tryd.ntmps32
  go_upto_region 1 with fail
  generalize (w.alloc (.cells #[.int .i64 R, .int .i64 C] 57)).alloc (.cells #[.int .i64 a, .int .i64 b, .int .i64 r, .int .i64 c] 45) = w0 at *
  obtain ⟨q0, q1, q2, q3⟩ := W0
  have W0 := Lib.hid (show Ti w0 (w.heap.size + 1) a b r c from ⟨q0, q1, q2, q3⟩)
  go_wp2_with fail
  refine (G.out _ (hT.below b2)).mono ?_
  rintro e w1 ⟨rfl, h1⟩
  have V2 := V1.below h1
  have W2 := W0.out.below h1
  have c1 := Lib.hid (b2.trans (h1.mono b2.size))
  clear V1 W0 h1 b2 G q0 q1 q2 q3
  generalize w.heap.size = vb at V2 W2
  obtain ⟨t0, t1⟩ := V2
  obtain ⟨q0, q1, q2, q3⟩ := W2
  cases g
  · have ho := HO.out
    simp at ho
    subst ho
    clear HO
    go_wp2
    go_ret
    exact ⟨by simp [go_sem], c1.out⟩
  · skip
    by_cases h1 : 0 ≤ r
    · skip
      by_cases h2 : r ≤ x
      · skip
        by_cases h3 : 0 ≤ c
        · skip
          by_cases h4 : c ≤ y
          · skip
            have ho := HO.out
            simp [h1, h2, h3, h4] at ho
            subst ho
            clear HO
            go_wp2
            go_ret
            exact ⟨by simp [go_sem, *], c1.out⟩
          · have ho := HO.out
            simp [h1, h2, h3, h4] at ho
            subst ho
            clear HO
            go_wp2
            go_ret
            exact ⟨by simp [go_sem]; try omega, c1.out⟩
        · have ho := HO.out
          simp [h1, h2, h3] at ho
          subst ho
          clear HO
          go_wp2
          go_ret
          exact ⟨by simp [go_sem]; try omega, c1.out⟩
      · have ho := HO.out
        simp [h1, h2] at ho
        subst ho
        clear HO
        go_wp2
        go_ret
        exact ⟨by simp [go_sem]; try omega, c1.out⟩
    · have ho := HO.out
      simp [h1] at ho
      subst ho
      clear HO
      go_wp2
      go_ret
      exact ⟨by simp [go_sem]; try omega, c1.out⟩
set_option maxHeartbeats 1000000 in
set_option maxRecDepth 100000 in
theorem inside_core (R C a b r c x y : Int) (g o : Bool) (hx : IntKind.i64.wrap (R - a) = x) (hy : IntKind.i64.wrap (C - b) = y) (ho : (g && decide (0 ≤ r) && decide (0 ≤ c) && decide (a ≤ R) && decide (b ≤ C) && decide (r ≤ x) && decide (c ≤ y)) = o)
    (hG : ∀ W, Calls Tryd.prog 10 #[.agg #[.int .i64 a, .int .i64 b]] W fun e w' => e = .returned (.bool g) ∧ Below W.heap.size W w') (w : World) :
    Calls Tryd.prog 21 #[.agg #[.int .i64 R, .int .i64 C], .agg #[.int .i64 a, .int .i64 b, .int .i64 r, .int .i64 c]] w fun e w' => e = .returned (.bool o) ∧ Below w.heap.size w w' := by
  have G := Lib.hid hG
  have HO := Lib.hid ho
  have V0 := Sh.Tw.fresh w R C 23
  have b0 := below_alloc w (.cells #[.int .i64 R, .int .i64 C] 23)
  have W0 := Ti.fresh (w.alloc (.cells #[.int .i64 R, .int .i64 C] 23)) a b r c 45
  have b1 := below_alloc (w.alloc (.cells #[.int .i64 R, .int .i64 C] 23)) (.cells #[.int .i64 a, .int .i64 b, .int .i64 r, .int .i64 c] 45)
  have b2 := b0.trans (b1.mono b0.size)
  have V1 := V0.below b1
  have e1 : (w.alloc (.cells #[.int .i64 R, .int .i64 C] 23)).heap.size = w.heap.size + 1 := by simp
  rw [e1] at W0
  clear hG ho V0 b0 b1 e1
  go_enter Tryd.func21, Tryd.ntmps21
  go_upto_region 1 with fail
  generalize (w.alloc (.cells #[.int .i64 R, .int .i64 C] 23)).alloc (.cells #[.int .i64 a, .int .i64 b, .int .i64 r, .int .i64 c] 45) = w0 at *
  obtain ⟨q0, q1, q2, q3⟩ := W0
  have W0 := Lib.hid (show Ti w0 (w.heap.size + 1) a b r c from ⟨q0, q1, q2, q3⟩)
  go_wp2_with fail
  refine (G.out _).mono ?_
  rintro e w1 ⟨rfl, h1⟩
  have V2 := V1.below h1
  have W2 := W0.out.below h1
  have c1 := Lib.hid (b2.trans (h1.mono b2.size))
  clear V1 W0 h1 b2 G q0 q1 q2 q3
  generalize w.heap.size = vb at V2 W2
  obtain ⟨t0, t1⟩ := V2
  obtain ⟨q0, q1, q2, q3⟩ := W2
  cases g
  · have ho := HO.out
    simp at ho
    subst ho
    clear HO
    go_wp2
    go_ret
    exact ⟨by simp [go_sem], c1.out⟩
  · skip
    by_cases h1 : 0 ≤ r
    · skip
      by_cases h2 : 0 ≤ c
      · skip
        by_cases h3 : a ≤ R
        · skip
          by_cases h4 : b ≤ C
          · skip
            by_cases h5 : r ≤ x
            · skip
              by_cases h6 : c ≤ y
              · skip
                have ho := HO.out
                simp [h1, h2, h3, h4, h5, h6] at ho
                subst ho
                clear HO
                go_wp2
                go_ret
                exact ⟨by simp [go_sem, *], c1.out⟩
              · have ho := HO.out
                simp [h1, h2, h3, h4, h5, h6] at ho
                subst ho
                clear HO
                go_wp2
                go_ret
                exact ⟨by simp [go_sem]; try omega, c1.out⟩
            · have ho := HO.out
              simp [h1, h2, h3, h4, h5] at ho
              subst ho
              clear HO
              go_wp2
              go_ret
              exact ⟨by simp [go_sem]; try omega, c1.out⟩
          · have ho := HO.out
            simp [h1, h2, h3, h4] at ho
            subst ho
            clear HO
            go_wp2
            go_ret
            exact ⟨by simp [go_sem]; try omega, c1.out⟩
        · have ho := HO.out
          simp [h1, h2, h3] at ho
          subst ho
          clear HO
          go_wp2
          go_ret
          exact ⟨by simp [go_sem]; try omega, c1.out⟩
      · have ho := HO.out
        simp [h1, h2] at ho
        subst ho
        clear HO
        go_wp2
        go_ret
        exact ⟨by simp [go_sem]; try omega, c1.out⟩
    · have ho := HO.out
      simp [h1] at ho
      subst ho
      clear HO
      go_wp2
      go_ret
      exact ⟨by simp [go_sem]; try omega, c1.out⟩

theorem holds (R C a b r c : Int) (o : Bool) (hR : 0 ≤ R ∧ R ≤ 4294967296) (hC : 0 ≤ C ∧ C ≤ 4294967296) (ho : o = true ↔ Ins R C a b r c) (w : World) (hT : Ft.Tab w) :
    Calls Tryd.prog 32 #[.agg #[.int .i64 R, .int .i64 C], .agg #[.int .i64 a, .int .i64 b, .int .i64 r, .int .i64 c]] w fun e w' => e = .returned (.bool o) ∧ Below w.heap.size w w' := by
  by_cases g : Sh.Gd a b
  · obtain ⟨g1, g2, g3, g4, g5⟩ := g.bound
    refine holds_core R C a b r c (R - a) (C - b) true o (IntWalk.i64_in _ (by omega)) (IntWalk.i64_in _ (by omega)) ?_ (fun W T => Sh.good a b true (by simp [g]) W T) w hT
    rw [Bool.eq_iff_iff, ho]
    simp only [Bool.true_and, Bool.and_eq_true, decide_eq_true_iff]
    exact ⟨fun ⟨⟨⟨h1, h2⟩, h3⟩, h4⟩ => ⟨g, ⟨h1, h2⟩, h3, h4⟩, fun ⟨_, ⟨h1, h2⟩, h3, h4⟩ => ⟨⟨⟨h1, h2⟩, h3⟩, h4⟩⟩
  · refine holds_core R C a b r c _ _ false o rfl rfl ?_ (fun W T => Sh.good a b false (by simp [g]) W T) w hT
    rw [Bool.eq_iff_iff, ho]
    simp only [Bool.false_and, Bool.false_eq_true, false_iff]
    exact fun h => g h.1
theorem inside (R C a b r c : Int) (o : Bool) (hR : 0 ≤ R ∧ R ≤ 4294967296) (hC : 0 ≤ C ∧ C ≤ 4294967296) (ho : o = true ↔ Ins R C a b r c) (w : World) :
    Calls Tryd.prog 21 #[.agg #[.int .i64 R, .int .i64 C], .agg #[.int .i64 a, .int .i64 b, .int .i64 r, .int .i64 c]] w fun e w' => e = .returned (.bool o) ∧ Below w.heap.size w w' := by
  by_cases g : Sh.Gd a b
  · obtain ⟨g1, g2, g3, g4, g5⟩ := g.bound
    refine inside_core R C a b r c (R - a) (C - b) true o (IntWalk.i64_in _ (by omega)) (IntWalk.i64_in _ (by omega)) ?_ (fun W => Sh.ref a b true (by simp [g]) W) w
    rw [Bool.eq_iff_iff, ho]
    simp only [Bool.true_and, Bool.and_eq_true, decide_eq_true_iff]
    exact ⟨fun ⟨⟨⟨⟨⟨h1, h2⟩, h3⟩, h4⟩, h5⟩, h6⟩ => ⟨g, ⟨h1, h5⟩, h2, h6⟩, fun ⟨_, ⟨h1, h2⟩, h3, h4⟩ => ⟨⟨⟨⟨⟨h1, h3⟩, by omega⟩, by omega⟩, h2⟩, h4⟩⟩
  · refine inside_core R C a b r c _ _ false o rfl rfl ?_ (fun W => Sh.ref a b false (by simp [g]) W) w
    rw [Bool.eq_iff_iff, ho]
    simp only [Bool.false_and, Bool.false_eq_true, false_iff]
    exact fun h => g h.1
end Bl
end Go.Proofs.YtobpjlgiefnmjaaDoor
