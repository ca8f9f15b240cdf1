/- Contract of package block's Swap. -/
import Derived.Test.YtobpjlgiefnmjaaDoorBlockI
set_option linter.unusedVariables false
namespace Go.Proofs.YtobpjlgiefnmjaaDoor
open Go.RowKit Go.Lib Go.Sort
namespace Bl
open Ww Pl

set_option maxHeartbeats 1000000 in
set_option maxRecDepth 100000 in
theorem swap_no1 {w : World} {p b R C n cap : Nat} {f : Nat → Nat} (B : Bx w p b R C n cap f) (a b' r1 c1 r2 c2 : Int) (h : ¬ Ins R C a b' r1 c1) (hT : Ft.Tab w) :
    Calls Tryd.prog 23 #[.pointer (some ⟨p, 0, none⟩), .agg #[.int .i64 a, .int .i64 b', .int .i64 r1, .int .i64 c1], .int .i64 r2, .int .i64 c2] w fun e w' => e = .returned (.int .i64 2) ∧ Below w.heap.size w w' := by
  have HO := Lib.hid (fun W T => holdsB B a b' r1 c1 false (by simp [h]) W T)
  clear h
  have HT := Lib.hid hT
  have BX0 := Lib.hid B
  have bt := build_tile3 a b' r2 c2
  have V0 := Ti.fresh w a b' r1 c1 45
  have b0 := below_alloc w (.cells #[.int .i64 a, .int .i64 b', .int .i64 r1, .int .i64 c1] 45)
  have U0 := Ti.fresh (w.alloc (.cells #[.int .i64 a, .int .i64 b', .int .i64 r1, .int .i64 c1] 45)) a b' r2 c2 45
  have b1 := below_alloc (w.alloc (.cells #[.int .i64 a, .int .i64 b', .int .i64 r1, .int .i64 c1] 45)) (.cells #[.int .i64 a, .int .i64 b', .int .i64 r2, .int .i64 c2] 45)
  have V1 := Lib.hid (V0.below b1)
  have e1 : (w.alloc (.cells #[.int .i64 a, .int .i64 b', .int .i64 r1, .int .i64 c1] 45)).heap.size = w.heap.size + 1 := by simp
  rw [e1] at U0
  have c0 := Lib.hid (b0.trans (b1.mono b0.size))
  have U1 := Lib.hid U0
  clear hT B V0 U0 b0 b1 e1
  go_enter Tryd.func23, Tryd.ntmps23
  go_upto_region 2 with fail
  generalize (w.alloc (.cells #[.int .i64 a, .int .i64 b', .int .i64 r1, .int .i64 c1] 45)).alloc (.cells #[.int .i64 a, .int .i64 b', .int .i64 r2, .int .i64 c2] 45) = w0 at *
  have B0 := Lib.hid (BX0.out.below c0.out)
  have hs := Lib.hid (show w.heap.size ≠ b ∧ w.heap.size + 1 ≠ b by have := BX0.out.s; omega)
  generalize w.heap.size = vb at V1 U1 hs
  have M := Kd.refl w0
  have SX := Lib.hid (fun W (hk : Kd w0 W) => show W.cell? ⟨p, 0, none⟩ = some (.int .i64 (R : Int)) ∧ W.cell? ⟨p, 1, none⟩ = some (.int .i64 (C : Int)) ∧ W.cell? ⟨vb, 0, none⟩ = some (.int .i64 a) ∧ W.cell? ⟨vb, 1, none⟩ = some (.int .i64 b') ∧ W.cell? ⟨vb, 2, none⟩ = some (.int .i64 r1) ∧ W.cell? ⟨vb, 3, none⟩ = some (.int .i64 c1) ∧ W.cell? ⟨(vb + 1), 0, none⟩ = some (.int .i64 a) ∧ W.cell? ⟨(vb + 1), 1, none⟩ = some (.int .i64 b') ∧ W.cell? ⟨(vb + 1), 2, none⟩ = some (.int .i64 r2) ∧ W.cell? ⟨(vb + 1), 3, none⟩ = some (.int .i64 c2) from by
    have S := B0.out.c.below hk.d
    have V := V1.out.below hk.d
    have U := U1.out.below hk.d
    exact ⟨S.c0, S.c1, V.c0, V.c1, V.c2, V.c3, U.c0, U.c1, U.c2, U.c3⟩)
  have PX := Lib.hid (fun W (hk : Kd w0 W) => show W.cell? ⟨p, 0, none⟩ = some (.int .i64 (R : Int)) ∧ W.cell? ⟨p, 1, none⟩ = some (.int .i64 (C : Int)) ∧ W.cell? ⟨vb, 0, none⟩ = some (.int .i64 a) ∧ W.cell? ⟨vb, 1, none⟩ = some (.int .i64 b') ∧ W.cell? ⟨vb, 2, none⟩ = some (.int .i64 r1) ∧ W.cell? ⟨vb, 3, none⟩ = some (.int .i64 c1) ∧ W.cell? ⟨(vb + 1), 0, none⟩ = some (.int .i64 a) ∧ W.cell? ⟨(vb + 1), 1, none⟩ = some (.int .i64 b') ∧ W.cell? ⟨(vb + 1), 2, none⟩ = some (.int .i64 r2) ∧ W.cell? ⟨(vb + 1), 3, none⟩ = some (.int .i64 c2) ∧ Kd w0 W from by
    have S := B0.out.c.below hk.d
    have V := V1.out.below hk.d
    have U := U1.out.below hk.d
    exact ⟨S.c0, S.c1, V.c0, V.c1, V.c2, V.c3, U.c0, U.c1, U.c2, U.c3, hk⟩)
  have HO1 := Lib.hid (fun W (hk : Kd w0 W) => HO.out W (HT.out.below (c0.out.trans (hk.d.mono c0.out.size))))

  obtain ⟨s0, s1, t0, t1, t2, t3, y0, y1, y2, y3⟩ := SX.out _ M
  have z0 := cell_regrown s0
  have z1 := cell_regrown s1
  have z2 := cell_regrown t0
  have z3 := cell_regrown t1
  have z4 := cell_regrown t2
  have z5 := cell_regrown t3
  have z6 := cell_regrown y0
  have z7 := cell_regrown y1
  have z8 := cell_regrown y2
  have z9 := cell_regrown y3
  have D1 := Lib.hid (fun d os => Calls.regrown_of (HO1.out (grow (redrawn w0 d) os) ⟨below_regrown w0 d os⟩))

  clear M PX HO1 HO s0 s1 t0 t1 t2 t3 y0 y1 y2 y3 
  refine wp_region_quiet_below (by as_aux_lemma => kernel_rfl) (by as_aux_lemma => kernel_rfl) ?_
  repeat (go_big_quiet_step ((first
    | (go_at_call 32; with_reducible exact D1.out _ _)
    | (go_at_call 32; with_reducible exact D2.out _ _))))
  refine wpQuiet_nil ?_
  intro _ hw'
  obtain ⟨⟨dq, osq⟩, hw''⟩ := hw'
  subst hw''
  have hcut : Kd w0 (grow (redrawn w0 dq) osq) := ⟨below_regrown w0 dq osq⟩
  clear z0 z1 z2 z3 z4 z5 z6 z7 z8 z9 D1 
  show Exit.then _ _ _ _ (grow (redrawn w0 dq) osq)
  generalize grow (redrawn w0 dq) osq = w1 at *
  · have C1 := Lib.hid (c0.out.trans (hcut.d.mono c0.out.size))
    clear hcut SX B0 V1 U1 bt c0
    go_wp2
    go_ret
    exact ⟨by simp [go_sem], C1.out⟩
set_option maxHeartbeats 1000000 in
set_option maxRecDepth 100000 in
theorem swap_no2 {w : World} {p b R C n cap : Nat} {f : Nat → Nat} (B : Bx w p b R C n cap f) (a b' r1 c1 r2 c2 : Int) (h : Ins R C a b' r1 c1) (h2 : ¬ Ins R C a b' r2 c2) (hT : Ft.Tab w) :
    Calls Tryd.prog 23 #[.pointer (some ⟨p, 0, none⟩), .agg #[.int .i64 a, .int .i64 b', .int .i64 r1, .int .i64 c1], .int .i64 r2, .int .i64 c2] w fun e w' => e = .returned (.int .i64 2) ∧ Below w.heap.size w w' := by
  have HO := Lib.hid (fun W T => holdsB B a b' r1 c1 true (by simp [h]) W T)
  have HP := Lib.hid (fun W T => holdsB B a b' r2 c2 false (by simp [h2]) W T)
  clear h h2
  have HT := Lib.hid hT
  have BX0 := Lib.hid B
  have bt := build_tile3 a b' r2 c2
  have V0 := Ti.fresh w a b' r1 c1 45
  have b0 := below_alloc w (.cells #[.int .i64 a, .int .i64 b', .int .i64 r1, .int .i64 c1] 45)
  have U0 := Ti.fresh (w.alloc (.cells #[.int .i64 a, .int .i64 b', .int .i64 r1, .int .i64 c1] 45)) a b' r2 c2 45
  have b1 := below_alloc (w.alloc (.cells #[.int .i64 a, .int .i64 b', .int .i64 r1, .int .i64 c1] 45)) (.cells #[.int .i64 a, .int .i64 b', .int .i64 r2, .int .i64 c2] 45)
  have V1 := Lib.hid (V0.below b1)
  have e1 : (w.alloc (.cells #[.int .i64 a, .int .i64 b', .int .i64 r1, .int .i64 c1] 45)).heap.size = w.heap.size + 1 := by simp
  rw [e1] at U0
  have c0 := Lib.hid (b0.trans (b1.mono b0.size))
  have U1 := Lib.hid U0
  clear hT B V0 U0 b0 b1 e1
  go_enter Tryd.func23, Tryd.ntmps23
  go_upto_region 2 with fail
  generalize (w.alloc (.cells #[.int .i64 a, .int .i64 b', .int .i64 r1, .int .i64 c1] 45)).alloc (.cells #[.int .i64 a, .int .i64 b', .int .i64 r2, .int .i64 c2] 45) = w0 at *
  have B0 := Lib.hid (BX0.out.below c0.out)
  have hs := Lib.hid (show w.heap.size ≠ b ∧ w.heap.size + 1 ≠ b by have := BX0.out.s; omega)
  generalize w.heap.size = vb at V1 U1 hs
  have M := Kd.refl w0
  have SX := Lib.hid (fun W (hk : Kd w0 W) => show W.cell? ⟨p, 0, none⟩ = some (.int .i64 (R : Int)) ∧ W.cell? ⟨p, 1, none⟩ = some (.int .i64 (C : Int)) ∧ W.cell? ⟨vb, 0, none⟩ = some (.int .i64 a) ∧ W.cell? ⟨vb, 1, none⟩ = some (.int .i64 b') ∧ W.cell? ⟨vb, 2, none⟩ = some (.int .i64 r1) ∧ W.cell? ⟨vb, 3, none⟩ = some (.int .i64 c1) ∧ W.cell? ⟨(vb + 1), 0, none⟩ = some (.int .i64 a) ∧ W.cell? ⟨(vb + 1), 1, none⟩ = some (.int .i64 b') ∧ W.cell? ⟨(vb + 1), 2, none⟩ = some (.int .i64 r2) ∧ W.cell? ⟨(vb + 1), 3, none⟩ = some (.int .i64 c2) from by
    have S := B0.out.c.below hk.d
    have V := V1.out.below hk.d
    have U := U1.out.below hk.d
    exact ⟨S.c0, S.c1, V.c0, V.c1, V.c2, V.c3, U.c0, U.c1, U.c2, U.c3⟩)
  have PX := Lib.hid (fun W (hk : Kd w0 W) => show W.cell? ⟨p, 0, none⟩ = some (.int .i64 (R : Int)) ∧ W.cell? ⟨p, 1, none⟩ = some (.int .i64 (C : Int)) ∧ W.cell? ⟨vb, 0, none⟩ = some (.int .i64 a) ∧ W.cell? ⟨vb, 1, none⟩ = some (.int .i64 b') ∧ W.cell? ⟨vb, 2, none⟩ = some (.int .i64 r1) ∧ W.cell? ⟨vb, 3, none⟩ = some (.int .i64 c1) ∧ W.cell? ⟨(vb + 1), 0, none⟩ = some (.int .i64 a) ∧ W.cell? ⟨(vb + 1), 1, none⟩ = some (.int .i64 b') ∧ W.cell? ⟨(vb + 1), 2, none⟩ = some (.int .i64 r2) ∧ W.cell? ⟨(vb + 1), 3, none⟩ = some (.int .i64 c2) ∧ Kd w0 W from by
    have S := B0.out.c.below hk.d
    have V := V1.out.below hk.d
    have U := U1.out.below hk.d
    exact ⟨S.c0, S.c1, V.c0, V.c1, V.c2, V.c3, U.c0, U.c1, U.c2, U.c3, hk⟩)
  have HO1 := Lib.hid (fun W (hk : Kd w0 W) => HO.out W (HT.out.below (c0.out.trans (hk.d.mono c0.out.size))))
  have HP1 := Lib.hid (fun W (hk : Kd w0 W) => HP.out W (HT.out.below (c0.out.trans (hk.d.mono c0.out.size))))
  obtain ⟨s0, s1, t0, t1, t2, t3, y0, y1, y2, y3⟩ := SX.out _ M
  have z0 := cell_regrown s0
  have z1 := cell_regrown s1
  have z2 := cell_regrown t0
  have z3 := cell_regrown t1
  have z4 := cell_regrown t2
  have z5 := cell_regrown t3
  have z6 := cell_regrown y0
  have z7 := cell_regrown y1
  have z8 := cell_regrown y2
  have z9 := cell_regrown y3
  have D1 := Lib.hid (fun d os => Calls.regrown_of (HO1.out (grow (redrawn w0 d) os) ⟨below_regrown w0 d os⟩))
  have D2 := Lib.hid (fun d os => Calls.regrown_of (HP1.out (grow (redrawn w0 d) os) ⟨below_regrown w0 d os⟩))
  clear M PX HO1 HO s0 s1 t0 t1 t2 t3 y0 y1 y2 y3 HP1 HP
  refine wp_region_quiet_below (by as_aux_lemma => kernel_rfl) (by as_aux_lemma => kernel_rfl) ?_
  repeat (go_big_quiet_step ((first
    | (go_at_call 32; with_reducible exact D1.out _ _)
    | (go_at_call 32; with_reducible exact D2.out _ _))))
  refine wpQuiet_nil ?_
  intro _ hw'
  obtain ⟨⟨dq, osq⟩, hw''⟩ := hw'
  subst hw''
  have hcut : Kd w0 (grow (redrawn w0 dq) osq) := ⟨below_regrown w0 dq osq⟩
  clear z0 z1 z2 z3 z4 z5 z6 z7 z8 z9 D1 D2
  show Exit.then _ _ _ _ (grow (redrawn w0 dq) osq)
  generalize grow (redrawn w0 dq) osq = w1 at *
  · have C1 := Lib.hid (c0.out.trans (hcut.d.mono c0.out.size))
    clear hcut SX B0 V1 U1 bt c0
    go_wp2
    go_ret
    exact ⟨by simp [go_sem], C1.out⟩
set_option maxHeartbeats 1000000 in
set_option maxRecDepth 100000 in
theorem swap_one {w : World} {p b R C n cap : Nat} {f : Nat → Nat} (B : Bx w p b R C n cap f) (h k u v : Nat) (hg : Sh.Gd (h : Int) (k : Int)) (hu : u + h ≤ R) (hv : v + k ≤ C) (hT : Ft.Tab w) :
    Calls Tryd.prog 23 #[.pointer (some ⟨p, 0, none⟩), .agg #[.int .i64 (h : Int), .int .i64 (k : Int), .int .i64 (u : Int), .int .i64 (v : Int)], .int .i64 (u : Int), .int .i64 (v : Int)] w fun e w' => e = .returned (.int .i64 0) ∧ Below w.heap.size w w' := by
  have HO := Lib.hid (fun W T => holdsB B h k u v true (by simp only [true_iff]; exact ⟨hg, ⟨by omega, by omega⟩, by omega, by omega⟩) W T)
  have HP := Lib.hid (fun W T => holdsB B h k u v true (by simp only [true_iff]; exact ⟨hg, ⟨by omega, by omega⟩, by omega, by omega⟩) W T)
  clear hg hu hv
  have HT := Lib.hid hT
  have BX0 := Lib.hid B
  have bt := build_tile3 (h : Int) (k : Int) (u : Int) (v : Int)
  have V0 := Ti.fresh w (h : Int) (k : Int) (u : Int) (v : Int) 45
  have b0 := below_alloc w (.cells #[.int .i64 (h : Int), .int .i64 (k : Int), .int .i64 (u : Int), .int .i64 (v : Int)] 45)
  have U0 := Ti.fresh (w.alloc (.cells #[.int .i64 (h : Int), .int .i64 (k : Int), .int .i64 (u : Int), .int .i64 (v : Int)] 45)) (h : Int) (k : Int) (u : Int) (v : Int) 45
  have b1 := below_alloc (w.alloc (.cells #[.int .i64 (h : Int), .int .i64 (k : Int), .int .i64 (u : Int), .int .i64 (v : Int)] 45)) (.cells #[.int .i64 (h : Int), .int .i64 (k : Int), .int .i64 (u : Int), .int .i64 (v : Int)] 45)
  have V1 := Lib.hid (V0.below b1)
  have e1 : (w.alloc (.cells #[.int .i64 (h : Int), .int .i64 (k : Int), .int .i64 (u : Int), .int .i64 (v : Int)] 45)).heap.size = w.heap.size + 1 := by simp
  rw [e1] at U0
  have c0 := Lib.hid (b0.trans (b1.mono b0.size))
  have U1 := Lib.hid U0
  clear hT B V0 U0 b0 b1 e1
  go_enter Tryd.func23, Tryd.ntmps23
  go_upto_region 2 with fail
  generalize (w.alloc (.cells #[.int .i64 (h : Int), .int .i64 (k : Int), .int .i64 (u : Int), .int .i64 (v : Int)] 45)).alloc (.cells #[.int .i64 (h : Int), .int .i64 (k : Int), .int .i64 (u : Int), .int .i64 (v : Int)] 45) = w0 at *
  have B0 := Lib.hid (BX0.out.below c0.out)
  have hs := Lib.hid (show w.heap.size ≠ b ∧ w.heap.size + 1 ≠ b by have := BX0.out.s; omega)
  generalize w.heap.size = vb at V1 U1 hs
  have M := Kd.refl w0
  have SX := Lib.hid (fun W (hk : Kd w0 W) => show W.cell? ⟨p, 0, none⟩ = some (.int .i64 (R : Int)) ∧ W.cell? ⟨p, 1, none⟩ = some (.int .i64 (C : Int)) ∧ W.cell? ⟨vb, 0, none⟩ = some (.int .i64 (h : Int)) ∧ W.cell? ⟨vb, 1, none⟩ = some (.int .i64 (k : Int)) ∧ W.cell? ⟨vb, 2, none⟩ = some (.int .i64 (u : Int)) ∧ W.cell? ⟨vb, 3, none⟩ = some (.int .i64 (v : Int)) ∧ W.cell? ⟨(vb + 1), 0, none⟩ = some (.int .i64 (h : Int)) ∧ W.cell? ⟨(vb + 1), 1, none⟩ = some (.int .i64 (k : Int)) ∧ W.cell? ⟨(vb + 1), 2, none⟩ = some (.int .i64 (u : Int)) ∧ W.cell? ⟨(vb + 1), 3, none⟩ = some (.int .i64 (v : Int)) from by
    have S := B0.out.c.below hk.d
    have V := V1.out.below hk.d
    have U := U1.out.below hk.d
    exact ⟨S.c0, S.c1, V.c0, V.c1, V.c2, V.c3, U.c0, U.c1, U.c2, U.c3⟩)
  have PX := Lib.hid (fun W (hk : Kd w0 W) => show W.cell? ⟨p, 0, none⟩ = some (.int .i64 (R : Int)) ∧ W.cell? ⟨p, 1, none⟩ = some (.int .i64 (C : Int)) ∧ W.cell? ⟨vb, 0, none⟩ = some (.int .i64 (h : Int)) ∧ W.cell? ⟨vb, 1, none⟩ = some (.int .i64 (k : Int)) ∧ W.cell? ⟨vb, 2, none⟩ = some (.int .i64 (u : Int)) ∧ W.cell? ⟨vb, 3, none⟩ = some (.int .i64 (v : Int)) ∧ W.cell? ⟨(vb + 1), 0, none⟩ = some (.int .i64 (h : Int)) ∧ W.cell? ⟨(vb + 1), 1, none⟩ = some (.int .i64 (k : Int)) ∧ W.cell? ⟨(vb + 1), 2, none⟩ = some (.int .i64 (u : Int)) ∧ W.cell? ⟨(vb + 1), 3, none⟩ = some (.int .i64 (v : Int)) ∧ Kd w0 W from by
    have S := B0.out.c.below hk.d
    have V := V1.out.below hk.d
    have U := U1.out.below hk.d
    exact ⟨S.c0, S.c1, V.c0, V.c1, V.c2, V.c3, U.c0, U.c1, U.c2, U.c3, hk⟩)
  have HO1 := Lib.hid (fun W (hk : Kd w0 W) => HO.out W (HT.out.below (c0.out.trans (hk.d.mono c0.out.size))))
  have HP1 := Lib.hid (fun W (hk : Kd w0 W) => HP.out W (HT.out.below (c0.out.trans (hk.d.mono c0.out.size))))
  obtain ⟨s0, s1, t0, t1, t2, t3, y0, y1, y2, y3⟩ := SX.out _ M
  have z0 := cell_regrown s0
  have z1 := cell_regrown s1
  have z2 := cell_regrown t0
  have z3 := cell_regrown t1
  have z4 := cell_regrown t2
  have z5 := cell_regrown t3
  have z6 := cell_regrown y0
  have z7 := cell_regrown y1
  have z8 := cell_regrown y2
  have z9 := cell_regrown y3
  have D1 := Lib.hid (fun d os => Calls.regrown_of (HO1.out (grow (redrawn w0 d) os) ⟨below_regrown w0 d os⟩))
  have D2 := Lib.hid (fun d os => Calls.regrown_of (HP1.out (grow (redrawn w0 d) os) ⟨below_regrown w0 d os⟩))
  clear M PX HO1 HO s0 s1 t0 t1 t2 t3 y0 y1 y2 y3 HP1 HP
  refine wp_region_quiet_below (by as_aux_lemma => kernel_rfl) (by as_aux_lemma => kernel_rfl) ?_
  repeat (go_big_quiet_step ((first
    | (go_at_call 32; with_reducible exact D1.out _ _)
    | (go_at_call 32; with_reducible exact D2.out _ _))))
  refine wpQuiet_nil ?_
  intro _ hw'
  obtain ⟨⟨dq, osq⟩, hw''⟩ := hw'
  subst hw''
  have hcut : Kd w0 (grow (redrawn w0 dq) osq) := ⟨below_regrown w0 dq osq⟩
  clear z0 z1 z2 z3 z4 z5 z6 z7 z8 z9 D1 D2
  show Exit.then _ _ _ _ (grow (redrawn w0 dq) osq)
  generalize grow (redrawn w0 dq) osq = w1 at *
  · have C1 := Lib.hid (c0.out.trans (hcut.d.mono c0.out.size))
    obtain ⟨s0, s1, t0, t1, t2, t3, y0, y1, y2, y3⟩ := SX.out _ hcut
    clear hcut SX B0 V1 U1 bt c0
    go_wp2
    go_ret
    exact ⟨by simp [go_sem], C1.out⟩
theorem meetN (i j k : Nat) (hi : i + k ≤ 4294967296) (hj : j + k ≤ 4294967296) (o : Bool) (ho : o = true ↔ (i < j + k ∧ j < i + k)) (w : World) :
    Calls Tryd.prog 34 #[.int .i64 (i : Int), .int .i64 (j : Int), .int .i64 (k : Int)] w fun e w' => e = .returned (.bool o) ∧ w = w' := by
  refine meet (i : Int) (j : Int) (k : Int) _ _ o rfl rfl ?_ w
  rw [IntKind.wrap_i64, IntKind.wrap_i64, Bool.eq_iff_iff, ho]
  simp only [Bool.and_eq_true, decide_eq_true_iff]
  omega
theorem tile_ne (h k u v r c : Int) (hne : ¬ (u = r ∧ v = c)) (W : World) : (binOp .eql 45 (.agg #[.int .i64 h, .int .i64 k, .int .i64 u, .int .i64 v]) (.agg #[.int .i64 h, .int .i64 k, .int .i64 r, .int .i64 c])).run Tryd.prog W = .ok (.bool false) W := by
  by_cases e : u = r
  · have e2 : ¬ v = c := fun e2 => hne ⟨e, e2⟩
    subst e
    simp [go_sem, e2]
  · simp [go_sem, e]
set_option maxHeartbeats 1000000 in
set_option maxRecDepth 100000 in
theorem swap_meet {w : World} {p b R C n cap : Nat} {f : Nat → Nat} (B : Bx w p b R C n cap f) (h k u v r c : Nat) (hg : Sh.Gd (h : Int) (k : Int)) (hu : u + h ≤ R) (hv : v + k ≤ C) (hr : r + h ≤ R) (hc : c + k ≤ C) (hne : ¬ (u = r ∧ v = c)) (hsh : Bk.Sh u v r c h k) (hT : Ft.Tab w) :
    Calls Tryd.prog 23 #[.pointer (some ⟨p, 0, none⟩), .agg #[.int .i64 (h : Int), .int .i64 (k : Int), .int .i64 (u : Int), .int .i64 (v : Int)], .int .i64 (r : Int), .int .i64 (c : Int)] w fun e w' => e = .returned (.int .i64 19) ∧ Below w.heap.size w w' := by
  have HO := Lib.hid (fun W T => holdsB B h k u v true (by simp only [true_iff]; exact ⟨hg, ⟨by omega, by omega⟩, by omega, by omega⟩) W T)
  have HP := Lib.hid (fun W T => holdsB B h k r c true (by simp only [true_iff]; exact ⟨hg, ⟨by omega, by omega⟩, by omega, by omega⟩) W T)
  have tn := tile_ne (h : Int) (k : Int) (u : Int) (v : Int) (r : Int) (c : Int) (by omega)
  clear hne
  have M1 := Lib.hid (fun W => meetN u r h (by have := B.sides; omega) (by have := B.sides; omega) true (by have := hsh.1; simp only [true_iff]; omega) W)
  have M2 := Lib.hid (fun W => meetN v c k (by have := B.sides; omega) (by have := B.sides; omega) true (by have := hsh.2; simp only [true_iff]; omega) W)
  clear hg hu hv hr hc hsh
  have HT := Lib.hid hT
  have BX0 := Lib.hid B
  have bt := build_tile3 (h : Int) (k : Int) (r : Int) (c : Int)
  have V0 := Ti.fresh w (h : Int) (k : Int) (u : Int) (v : Int) 45
  have b0 := below_alloc w (.cells #[.int .i64 (h : Int), .int .i64 (k : Int), .int .i64 (u : Int), .int .i64 (v : Int)] 45)
  have U0 := Ti.fresh (w.alloc (.cells #[.int .i64 (h : Int), .int .i64 (k : Int), .int .i64 (u : Int), .int .i64 (v : Int)] 45)) (h : Int) (k : Int) (r : Int) (c : Int) 45
  have b1 := below_alloc (w.alloc (.cells #[.int .i64 (h : Int), .int .i64 (k : Int), .int .i64 (u : Int), .int .i64 (v : Int)] 45)) (.cells #[.int .i64 (h : Int), .int .i64 (k : Int), .int .i64 (r : Int), .int .i64 (c : Int)] 45)
  have V1 := Lib.hid (V0.below b1)
  have e1 : (w.alloc (.cells #[.int .i64 (h : Int), .int .i64 (k : Int), .int .i64 (u : Int), .int .i64 (v : Int)] 45)).heap.size = w.heap.size + 1 := by simp
  rw [e1] at U0
  have c0 := Lib.hid (b0.trans (b1.mono b0.size))
  have U1 := Lib.hid U0
  clear hT B V0 U0 b0 b1 e1
  go_enter Tryd.func23, Tryd.ntmps23
  go_upto_region 2 with fail
  generalize (w.alloc (.cells #[.int .i64 (h : Int), .int .i64 (k : Int), .int .i64 (u : Int), .int .i64 (v : Int)] 45)).alloc (.cells #[.int .i64 (h : Int), .int .i64 (k : Int), .int .i64 (r : Int), .int .i64 (c : Int)] 45) = w0 at *
  have B0 := Lib.hid (BX0.out.below c0.out)
  have hs := Lib.hid (show w.heap.size ≠ b ∧ w.heap.size + 1 ≠ b by have := BX0.out.s; omega)
  generalize w.heap.size = vb at V1 U1 hs
  have M := Kd.refl w0
  have SX := Lib.hid (fun W (hk : Kd w0 W) => show W.cell? ⟨p, 0, none⟩ = some (.int .i64 (R : Int)) ∧ W.cell? ⟨p, 1, none⟩ = some (.int .i64 (C : Int)) ∧ W.cell? ⟨vb, 0, none⟩ = some (.int .i64 (h : Int)) ∧ W.cell? ⟨vb, 1, none⟩ = some (.int .i64 (k : Int)) ∧ W.cell? ⟨vb, 2, none⟩ = some (.int .i64 (u : Int)) ∧ W.cell? ⟨vb, 3, none⟩ = some (.int .i64 (v : Int)) ∧ W.cell? ⟨(vb + 1), 0, none⟩ = some (.int .i64 (h : Int)) ∧ W.cell? ⟨(vb + 1), 1, none⟩ = some (.int .i64 (k : Int)) ∧ W.cell? ⟨(vb + 1), 2, none⟩ = some (.int .i64 (r : Int)) ∧ W.cell? ⟨(vb + 1), 3, none⟩ = some (.int .i64 (c : Int)) from by
    have S := B0.out.c.below hk.d
    have V := V1.out.below hk.d
    have U := U1.out.below hk.d
    exact ⟨S.c0, S.c1, V.c0, V.c1, V.c2, V.c3, U.c0, U.c1, U.c2, U.c3⟩)
  have PX := Lib.hid (fun W (hk : Kd w0 W) => show W.cell? ⟨p, 0, none⟩ = some (.int .i64 (R : Int)) ∧ W.cell? ⟨p, 1, none⟩ = some (.int .i64 (C : Int)) ∧ W.cell? ⟨vb, 0, none⟩ = some (.int .i64 (h : Int)) ∧ W.cell? ⟨vb, 1, none⟩ = some (.int .i64 (k : Int)) ∧ W.cell? ⟨vb, 2, none⟩ = some (.int .i64 (u : Int)) ∧ W.cell? ⟨vb, 3, none⟩ = some (.int .i64 (v : Int)) ∧ W.cell? ⟨(vb + 1), 0, none⟩ = some (.int .i64 (h : Int)) ∧ W.cell? ⟨(vb + 1), 1, none⟩ = some (.int .i64 (k : Int)) ∧ W.cell? ⟨(vb + 1), 2, none⟩ = some (.int .i64 (r : Int)) ∧ W.cell? ⟨(vb + 1), 3, none⟩ = some (.int .i64 (c : Int)) ∧ Kd w0 W from by
    have S := B0.out.c.below hk.d
    have V := V1.out.below hk.d
    have U := U1.out.below hk.d
    exact ⟨S.c0, S.c1, V.c0, V.c1, V.c2, V.c3, U.c0, U.c1, U.c2, U.c3, hk⟩)
  have HO1 := Lib.hid (fun W (hk : Kd w0 W) => HO.out W (HT.out.below (c0.out.trans (hk.d.mono c0.out.size))))
  have HP1 := Lib.hid (fun W (hk : Kd w0 W) => HP.out W (HT.out.below (c0.out.trans (hk.d.mono c0.out.size))))
  obtain ⟨s0, s1, t0, t1, t2, t3, y0, y1, y2, y3⟩ := SX.out _ M
  have z0 := cell_regrown s0
  have z1 := cell_regrown s1
  have z2 := cell_regrown t0
  have z3 := cell_regrown t1
  have z4 := cell_regrown t2
  have z5 := cell_regrown t3
  have z6 := cell_regrown y0
  have z7 := cell_regrown y1
  have z8 := cell_regrown y2
  have z9 := cell_regrown y3
  have D1 := Lib.hid (fun d os => Calls.regrown_of (HO1.out (grow (redrawn w0 d) os) ⟨below_regrown w0 d os⟩))
  have D2 := Lib.hid (fun d os => Calls.regrown_of (HP1.out (grow (redrawn w0 d) os) ⟨below_regrown w0 d os⟩))
  clear M PX HO1 HO s0 s1 t0 t1 t2 t3 y0 y1 y2 y3 HP1 HP
  refine wp_region_quiet_below (by as_aux_lemma => kernel_rfl) (by as_aux_lemma => kernel_rfl) ?_
  repeat (go_big_quiet_step ((first
    | (go_at_call 32; with_reducible exact D1.out _ _)
    | (go_at_call 32; with_reducible exact D2.out _ _))))
  refine wpQuiet_nil ?_
  intro _ hw'
  obtain ⟨⟨dq, osq⟩, hw''⟩ := hw'
  subst hw''
  have hcut : Kd w0 (grow (redrawn w0 dq) osq) := ⟨below_regrown w0 dq osq⟩
  clear z0 z1 z2 z3 z4 z5 z6 z7 z8 z9 D1 D2
  show Exit.then _ _ _ _ (grow (redrawn w0 dq) osq)
  generalize grow (redrawn w0 dq) osq = w1 at *
  · have C1 := Lib.hid (c0.out.trans (hcut.d.mono c0.out.size))
    obtain ⟨s0, s1, t0, t1, t2, t3, y0, y1, y2, y3⟩ := SX.out _ hcut
    go_upto_region 6 with fail
    · clear tn
      go_wp2_with fail
      refine (M1.out _).mono ?_
      rintro e w' ⟨rfl, rfl⟩
      go_wp2_with fail
      refine (M2.out _).mono ?_
      rintro e w' ⟨rfl, rfl⟩
      go_wp2
      go_ret
      exact ⟨by simp [go_sem], C1.out⟩
theorem tile_neq (h k u v r c : Int) (o : Bool) (ho : o = true ↔ (u = r ∧ v = c)) (W : World) : (binOp .neq 45 (.agg #[.int .i64 h, .int .i64 k, .int .i64 u, .int .i64 v]) (.agg #[.int .i64 h, .int .i64 k, .int .i64 r, .int .i64 c])).run Tryd.prog W = .ok (.bool (!o)) W := by
  by_cases e : u = r
  · by_cases e2 : v = c
    · obtain rfl : o = true := ho.2 ⟨e, e2⟩
      subst e e2
      simp [go_sem]
    · obtain rfl : o = false := by
        cases o
        · rfl
        · exact absurd (ho.1 rfl).2 e2
      subst e
      simp [go_sem, e2]
  · obtain rfl : o = false := by
      cases o
      · rfl
      · exact absurd (ho.1 rfl).1 e
    simp [go_sem, e]
theorem swk_lt {R C n u v r c h k m : Nat} {f : Nat → Nat} (hn : R * C = n) (hu : u + h ≤ R) (hv : v + k ≤ C) (hr : r + h ≤ R) (hc : c + k ≤ C) (hf : ∀ i, i < n → f i < 18446744073709551616) : ∀ i, i < n → Bk.swk C u v r c h k f m i < 18446744073709551616 := by
  intro i hi
  unfold Bk.swk
  split
  · rename_i hx
    exact hf _ (by rw [← hn]; exact Bk.pt_lt hc hr (Bk.no_lt hx.1))
  · split
    · rename_i hx
      exact hf _ (by rw [← hn]; exact Bk.pt_lt hv hu (Bk.no_lt hx.1))
    · exact hf i hi
set_option maxHeartbeats 1000000 in
set_option maxRecDepth 100000 in
theorem swap_in {w : World} {p b R C n cap : Nat} {f : Nat → Nat} (B : Bx w p b R C n cap f) (h k u v r c : Nat) (hg : Sh.Gd (h : Int) (k : Int)) (hu : u + h ≤ R) (hv : v + k ≤ C) (hr : r + h ≤ R) (hc : c + k ≤ C) (hne : ¬ (u = r ∧ v = c)) (hsh : ¬ Bk.Sh u v r c h k) (hT : Ft.Tab w) :
    Calls Tryd.prog 23 #[.pointer (some ⟨p, 0, none⟩), .agg #[.int .i64 (h : Int), .int .i64 (k : Int), .int .i64 (u : Int), .int .i64 (v : Int)], .int .i64 (r : Int), .int .i64 (c : Int)] w fun e w' => e = .returned (.int .i64 0) ∧ Ta b n (Bk.sw C u v r c h k f) w w' := by
  have HO := Lib.hid (fun W T => holdsB B h k u v true (by simp only [true_iff]; exact ⟨hg, ⟨by omega, by omega⟩, by omega, by omega⟩) W T)
  have HP := Lib.hid (fun W T => holdsB B h k r c true (by simp only [true_iff]; exact ⟨hg, ⟨by omega, by omega⟩, by omega, by omega⟩) W T)
  have tn := tile_ne (h : Int) (k : Int) (u : Int) (v : Int) (r : Int) (c : Int) (by omega)
  clear hne
  have k0 : 0 < k := by
    obtain ⟨_, _, g3, _, _⟩ := hg.bound
    omega
  have HS := Lib.hid hsh
  have RC := Lib.hid (show u + h ≤ 4294967296 ∧ r + h ≤ 4294967296 ∧ v + k ≤ 4294967296 ∧ c + k ≤ 4294967296 by have := B.sides; omega)
  have hb1 : h ≤ 4294967296 ∧ k ≤ 4294967296 := by have := B.sides; omega
  have ap := Bk.apart (q := C) hsh
  have A1 := Lib.hid (fun i (hi : i < h) j (hj : j < k) => Bk.sw_at0 (f := f) hv (Bk.lt_of hi hj) ap)
  have A2 := Lib.hid (fun i (hi : i < h) j (hj : j < k) => Bk.sw_at1 (f := f) hc (Bk.lt_of hi hj) ap)
  have A3 := Lib.hid (fun i (hi : i < h) j (hj : j < k) => Bk.sw_step (f := f) hv hc (Bk.lt_of hi hj) ap)
  have A4 := Lib.hid (fun i (hi : i < h) j (hj : j < k) => show Bk.pt C u v k (i * k + j) ≠ Bk.pt C r c k (i * k + j) from fun e => ap _ (Bk.pt_in hv (Bk.lt_of hi hj)) (by rw [e]; exact Bk.pt_in hc (Bk.lt_of hi hj)))
  have I1 := Lib.hid (fun i (hi : i < h) => row_in B.hn hu hv hi)
  have I2 := Lib.hid (fun i (hi : i < h) => row_in B.hn hr hc hi)
  have SL := Lib.hid (fun m => swk_lt (m := m) B.hn hu hv hr hc B.lt)
  clear hg hsh ap hu hv hr hc
  have HT := Lib.hid hT
  have BX0 := Lib.hid B
  have bt := build_tile3 (h : Int) (k : Int) (r : Int) (c : Int)
  have V0 := Ti.fresh w (h : Int) (k : Int) (u : Int) (v : Int) 45
  have b0 := below_alloc w (.cells #[.int .i64 (h : Int), .int .i64 (k : Int), .int .i64 (u : Int), .int .i64 (v : Int)] 45)
  have U0 := Ti.fresh (w.alloc (.cells #[.int .i64 (h : Int), .int .i64 (k : Int), .int .i64 (u : Int), .int .i64 (v : Int)] 45)) (h : Int) (k : Int) (r : Int) (c : Int) 45
  have b1 := below_alloc (w.alloc (.cells #[.int .i64 (h : Int), .int .i64 (k : Int), .int .i64 (u : Int), .int .i64 (v : Int)] 45)) (.cells #[.int .i64 (h : Int), .int .i64 (k : Int), .int .i64 (r : Int), .int .i64 (c : Int)] 45)
  have V1 := Lib.hid (V0.below b1)
  have e1 : (w.alloc (.cells #[.int .i64 (h : Int), .int .i64 (k : Int), .int .i64 (u : Int), .int .i64 (v : Int)] 45)).heap.size = w.heap.size + 1 := by simp
  rw [e1] at U0
  have c0 := Lib.hid (b0.trans (b1.mono b0.size))
  have U1 := Lib.hid U0
  clear hT B V0 U0 b0 b1 e1
  go_enter Tryd.func23, Tryd.ntmps23
  go_upto_region 2 with fail
  generalize (w.alloc (.cells #[.int .i64 (h : Int), .int .i64 (k : Int), .int .i64 (u : Int), .int .i64 (v : Int)] 45)).alloc (.cells #[.int .i64 (h : Int), .int .i64 (k : Int), .int .i64 (r : Int), .int .i64 (c : Int)] 45) = w0 at *
  have B0 := Lib.hid (BX0.out.below c0.out)
  have hs := Lib.hid (show w.heap.size ≠ b ∧ w.heap.size + 1 ≠ b by have := BX0.out.s; omega)
  generalize w.heap.size = vb at V1 U1 hs
  have M := Kd.refl w0
  have SX := Lib.hid (fun W (hk : Kd w0 W) => show W.cell? ⟨p, 0, none⟩ = some (.int .i64 (R : Int)) ∧ W.cell? ⟨p, 1, none⟩ = some (.int .i64 (C : Int)) ∧ W.cell? ⟨vb, 0, none⟩ = some (.int .i64 (h : Int)) ∧ W.cell? ⟨vb, 1, none⟩ = some (.int .i64 (k : Int)) ∧ W.cell? ⟨vb, 2, none⟩ = some (.int .i64 (u : Int)) ∧ W.cell? ⟨vb, 3, none⟩ = some (.int .i64 (v : Int)) ∧ W.cell? ⟨(vb + 1), 0, none⟩ = some (.int .i64 (h : Int)) ∧ W.cell? ⟨(vb + 1), 1, none⟩ = some (.int .i64 (k : Int)) ∧ W.cell? ⟨(vb + 1), 2, none⟩ = some (.int .i64 (r : Int)) ∧ W.cell? ⟨(vb + 1), 3, none⟩ = some (.int .i64 (c : Int)) from by
    have S := B0.out.c.below hk.d
    have V := V1.out.below hk.d
    have U := U1.out.below hk.d
    exact ⟨S.c0, S.c1, V.c0, V.c1, V.c2, V.c3, U.c0, U.c1, U.c2, U.c3⟩)
  have PX := Lib.hid (fun W (hk : Kd w0 W) => show W.cell? ⟨p, 0, none⟩ = some (.int .i64 (R : Int)) ∧ W.cell? ⟨p, 1, none⟩ = some (.int .i64 (C : Int)) ∧ W.cell? ⟨vb, 0, none⟩ = some (.int .i64 (h : Int)) ∧ W.cell? ⟨vb, 1, none⟩ = some (.int .i64 (k : Int)) ∧ W.cell? ⟨vb, 2, none⟩ = some (.int .i64 (u : Int)) ∧ W.cell? ⟨vb, 3, none⟩ = some (.int .i64 (v : Int)) ∧ W.cell? ⟨(vb + 1), 0, none⟩ = some (.int .i64 (h : Int)) ∧ W.cell? ⟨(vb + 1), 1, none⟩ = some (.int .i64 (k : Int)) ∧ W.cell? ⟨(vb + 1), 2, none⟩ = some (.int .i64 (r : Int)) ∧ W.cell? ⟨(vb + 1), 3, none⟩ = some (.int .i64 (c : Int)) ∧ Kd w0 W from by
    have S := B0.out.c.below hk.d
    have V := V1.out.below hk.d
    have U := U1.out.below hk.d
    exact ⟨S.c0, S.c1, V.c0, V.c1, V.c2, V.c3, U.c0, U.c1, U.c2, U.c3, hk⟩)
  have HO1 := Lib.hid (fun W (hk : Kd w0 W) => HO.out W (HT.out.below (c0.out.trans (hk.d.mono c0.out.size))))
  have HP1 := Lib.hid (fun W (hk : Kd w0 W) => HP.out W (HT.out.below (c0.out.trans (hk.d.mono c0.out.size))))
  obtain ⟨s0, s1, t0, t1, t2, t3, y0, y1, y2, y3⟩ := SX.out _ M
  have z0 := cell_regrown s0
  have z1 := cell_regrown s1
  have z2 := cell_regrown t0
  have z3 := cell_regrown t1
  have z4 := cell_regrown t2
  have z5 := cell_regrown t3
  have z6 := cell_regrown y0
  have z7 := cell_regrown y1
  have z8 := cell_regrown y2
  have z9 := cell_regrown y3
  have D1 := Lib.hid (fun d os => Calls.regrown_of (HO1.out (grow (redrawn w0 d) os) ⟨below_regrown w0 d os⟩))
  have D2 := Lib.hid (fun d os => Calls.regrown_of (HP1.out (grow (redrawn w0 d) os) ⟨below_regrown w0 d os⟩))
  clear M PX HO1 HO s0 s1 t0 t1 t2 t3 y0 y1 y2 y3 HP1 HP
  refine wp_region_quiet_below (by as_aux_lemma => kernel_rfl) (by as_aux_lemma => kernel_rfl) ?_
  repeat (go_big_quiet_step ((first
    | (go_at_call 32; with_reducible exact D1.out _ _)
    | (go_at_call 32; with_reducible exact D2.out _ _))))
  refine wpQuiet_nil ?_
  intro _ hw'
  obtain ⟨⟨dq, osq⟩, hw''⟩ := hw'
  subst hw''
  have hcut : Kd w0 (grow (redrawn w0 dq) osq) := ⟨below_regrown w0 dq osq⟩
  clear z0 z1 z2 z3 z4 z5 z6 z7 z8 z9 D1 D2
  show Exit.then _ _ _ _ (grow (redrawn w0 dq) osq)
  generalize grow (redrawn w0 dq) osq = w1 at *
  · have C1 := Lib.hid (c0.out.trans (hcut.d.mono c0.out.size))
    have B1 := Lib.hid (B0.out.below hcut.d)
    have o1 := Lib.hid (But.of_below C1.out (Nat.le_of_lt BX0.out.s))
    have V1 := Lib.hid (V1.out.below hcut.d)
    have U1 := Lib.hid (U1.out.below hcut.d)
    obtain ⟨s0, s1, t0, t1, t2, t3, y0, y1, y2, y3⟩ := SX.out _ hcut
    clear hcut B0 SX C1 c0
    go_upto_region 6 with fail
    · clear tn
      go_cut [53] (fun v53 wx => v53 = .bool false ∧ wx = w1)
      case first =>
        by_cases m1 : r < u + h ∧ u < r + h
        · have M1 := Lib.hid (fun W => meetN u r h (by have := RC.out; omega) (by have := RC.out; omega) true (by simp only [true_iff]; omega) W)
          have M2 := Lib.hid (fun W => meetN v c k (by have := RC.out; omega) (by have := RC.out; omega) false (by simp only [Bool.false_eq_true, false_iff]; exact fun h2 => HS.out ⟨m1, h2.2, h2.1⟩) W)
          clear m1
          go_wp2_with fail
          refine (M1.out _).mono ?_
          rintro e w' ⟨rfl, rfl⟩
          go_wp2_with fail
          refine (M2.out _).mono ?_
          rintro e w' ⟨rfl, rfl⟩
          go_wp2_with fail
          go_meet
          exact ⟨by first | rfl | simp, rfl⟩
        · have M1 := Lib.hid (fun W => meetN u r h (by have := RC.out; omega) (by have := RC.out; omega) false (by simp only [Bool.false_eq_true, false_iff]; omega) W)
          clear m1
          go_wp2_with fail
          refine (M1.out _).mono ?_
          rintro e w' ⟨rfl, rfl⟩
          go_wp2_with fail
          go_meet
          exact ⟨by first | rfl | simp, rfl⟩
      case rest =>
        obtain ⟨rfl, rfl⟩ := hcut
        go_wp2_with fail
        clear s0 s1 t0 t1 t2 t3 y0 y1 y2 y3
        obtain ⟨w1, rfl⟩ : ∃ w1 : World, w1 = wc := ⟨_, rfl⟩
        go_loopw [57] (fun v57 wr => ∃ i : Nat, v57 = .int .i64 (i : Int) ∧ i ≤ h ∧ Ta b n (Bk.swk C u v r c h k f (i * k)) w1 wr) (fun v57 _ => h - (Lib.intOf v57).toNat)
        case atStart => exact ⟨0, rfl, Nat.zero_le _, by rw [Nat.zero_mul, Bk.sw_zero]; exact B1.out.ta⟩
        case round =>
          obtain ⟨i, rfl, hi, T⟩ := hrel
          by_cases hlt : i < h
          · have i1 : (i : Int) < h := by omega
            obtain ⟨t0, t1, t2, t3⟩ := V1.out.but T.o hs.out.1
            obtain ⟨y1, hy1⟩ : ∃ y1, y1 = u + i := ⟨_, rfl⟩
            obtain ⟨y2, hy2⟩ : ∃ y2, y2 = r + i := ⟨_, rfl⟩
            obtain ⟨x1, hx1⟩ : ∃ x1, x1 = y1 * C + v := ⟨_, rfl⟩
            obtain ⟨x2, hx2⟩ : ∃ x2, x2 = y2 * C + c := ⟨_, rfl⟩
            have q1 : IntKind.i64.wrap ((u : Int) + (i : Int)) = (y1 : Int) := by rw [IntKind.wrap_i64]; have := RC.out; omega
            have q2 : IntKind.i64.wrap ((r : Int) + (i : Int)) = (y2 : Int) := by rw [IntKind.wrap_i64]; have := RC.out; omega
            have B2 := B1.out.wrote T (SL.out _)
            have a1 : x1 + k ≤ n := by rw [hx1, hy1]; exact I1.out i hlt
            have a2 : x2 + k ≤ n := by rw [hx2, hy2]; exact I2.out i hlt
            have L1 := Lib.hid (fun m => qs (line B2 y1 v k x1 hx1 a1 k0 m))
            have L2 := Lib.hid (fun m => qs (line B2 y2 c k x2 hx2 a2 k0 m))
            have e1 := Lib.hid (fun j (hj : j < k) => show Bk.pt C u v k (i * k + j) = x1 + j from by rw [Bk.pt_at hj, hx1, hy1, Nat.add_assoc])
            have e2 := Lib.hid (fun j (hj : j < k) => show Bk.pt C r c k (i * k + j) = x2 + j from by rw [Bk.pt_at hj, hx2, hy2, Nat.add_assoc])
            have T := Lib.hid T
            have a1 := Lib.hid a1
            have a2 := Lib.hid a2
            clear hx1 hx2 hy1 hy2 B2
            go_upto_region 11 with fail
            go_quiet ((first
              | (go_at_call 35; with_reducible exact L1.out _)
              | (go_at_call 35; with_reducible exact L2.out _)))
            have T2 := Lib.hid (show Ta b n (Bk.swk C u v r c h k f (i * k + 0)) w1 (wr.drewN nq) from ⟨T.out.k.drewN _, ⟨below_drewN T.out.o.bel _, T.out.o.cell, T.out.o.frz⟩⟩)
            clear t0 t1 t2 t3 T L1 L2 q1 q2
            generalize wr.drewN nq = w2 at *
            go_wp2_with fail
            go_loopw [82] (fun v82 wr => ∃ j : Nat, v82 = .int .i64 (j : Int) ∧ j ≤ k ∧ Ta b n (Bk.swk C u v r c h k f (i * k + j)) w1 wr) (fun v82 _ => k - (Lib.intOf v82).toNat)
            case atStart => exact ⟨0, rfl, Nat.zero_le _, T2.out⟩
            case round =>
              obtain ⟨j, rfl, hj, T⟩ := hrel
              clear T2
              by_cases hjlt : j < k
              · have j1 : (j : Int) < k := by omega
                have p1 : x1 + j < n := by have := a1.out; omega
                have p2 : x2 + j < n := by have := a2.out; omega
                obtain ⟨c1, z1⟩ := T.at_ (x1 + j) p1
                obtain ⟨c2, z2⟩ := T.at_ (x2 + j) p2
                have g1 := A1.out i hlt j hjlt
                have g2 := A2.out i hlt j hjlt
                have g3 := A3.out i hlt j hjlt
                rw [e1.out j hjlt] at g1 g3
                rw [e2.out j hjlt] at g2 g3
                rw [g1] at c1
                rw [g2] at c2
                have TP := (T.put (x1 + j) (f (x2 + j)) p1).put (x2 + j) (f (x1 + j)) p2
                have TQ := Lib.hid (show Ta b n (Bk.swk C u v r c h k f (i * k + (j + 1))) w1 _ from ⟨by have K := TP.k; rw [show upd (upd (Bk.swk C u v r c h k f (i * k + j)) (x1 + j) (f (x2 + j))) (x2 + j) (f (x1 + j)) = Bk.swk C u v r c h k f (i * k + (j + 1)) from g3] at K; exact K.drew, TP.o.drew⟩)
                have l1 : wr.drew.cell? ⟨b, x1 + j, none⟩ = some (.int .u64 (f (x1 + j) : Nat)) := c1
                have l2 : wr.drew.cell? ⟨b, x2 + j, none⟩ = some (.int .u64 (f (x2 + j) : Nat)) := c2
                have l3 : wr.drew.frozen? ⟨b, x1 + j, none⟩ = false := z1
                have l4 : wr.drew.frozen? ⟨b, x2 + j, none⟩ = false := z2
                have ne := A4.out i hlt j hjlt
                rw [e1.out j hjlt, e2.out j hjlt] at ne
                have na : (⟨b, x2 + j, none⟩ : Addr) ≠ ⟨b, x1 + j, none⟩ := fun e => ne (by injection e with _ e; exact e.symm)
                have l5 : (wr.setCell ⟨b, x1 + j, none⟩ (.int .u64 (f (x2 + j) : Nat))).cell? ⟨b, x2 + j, none⟩ = some (.int .u64 (f (x2 + j) : Nat)) := by rw [World.cell?_setCell_other _ _ _ _ (Ne.symm na)]; exact c2
                have l6 : (wr.setCell ⟨b, x1 + j, none⟩ (.int .u64 (f (x2 + j) : Nat))).drew.cell? ⟨b, x2 + j, none⟩ = some (.int .u64 (f (x2 + j) : Nat)) := l5
                have l7 : (wr.setCell ⟨b, x1 + j, none⟩ (.int .u64 (f (x2 + j) : Nat))).frozen? ⟨b, x2 + j, none⟩ = false := by rw [World.frozen?_setCell]; exact z2
                have l8 : (wr.setCell ⟨b, x1 + j, none⟩ (.int .u64 (f (x2 + j) : Nat))).drew.frozen? ⟨b, x2 + j, none⟩ = false := l7
                clear ne na
                clear g1 g2 g3 TP T
                generalize f (x1 + j) = f1 at *
                generalize f (x2 + j) = f2 at *
                go_upto_region 15 with fail
                go_region
                go_wp2_with fail
                go_roundw
                case rel => exact ⟨j + 1, rfl, by omega, TQ.out⟩
                case measure => simp [Lib.intOf]; omega
              · have j1 : ¬ (j : Int) < k := by omega
                obtain rfl : j = k := by omega
                have T3 := Lib.hid (show Ta b n (Bk.swk C u v r c h j f ((i + 1) * j)) w1 wr by rw [Nat.succ_mul]; exact T)
                clear T
                go_wp2_with fail
                go_roundw
                case rel => exact ⟨i + 1, rfl, by omega, T3.out⟩
                case measure => simp [Lib.intOf]; omega
          · have i1 : ¬ (i : Int) < h := by omega
            obtain rfl : i = h := by omega
            rw [Bk.sw_end] at T
            have F := Lib.hid (show Ta b n (Bk.sw C u v r c i k f) w wr from ⟨T.k, But.trans o1.out T.o⟩)
            clear T
            go_wp2
            go_ret
            exact ⟨by simp [go_sem], F.out⟩
end Bl
end Go.Proofs.YtobpjlgiefnmjaaDoor
