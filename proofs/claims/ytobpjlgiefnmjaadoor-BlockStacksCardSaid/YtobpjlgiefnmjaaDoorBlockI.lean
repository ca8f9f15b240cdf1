/- Contracts of package block's Part, Lay. -/
import Derived.Test.YtobpjlgiefnmjaaDoorBlockH
set_option linter.unusedVariables false
namespace Go.Proofs.YtobpjlgiefnmjaaDoor
open Go.RowKit Go.Lib Go.Sort
namespace Bl
open Ww Pl

theorem build_tile (p q : Int) (W : World) : (Instr.build 45 #[(0, .agg #[.int .i64 p, .int .i64 q])]).run Tryd.prog W = .ok (.agg #[.int .i64 p, .int .i64 q, .int .i64 0, .int .i64 0]) W := by kernel_rfl
theorem build_tile3 (p q r c : Int) (W : World) : (Instr.build 45 #[(0, .agg #[.int .i64 p, .int .i64 q]), (1, .int .i64 r), (2, .int .i64 c)]).run Tryd.prog W = .ok (.agg #[.int .i64 p, .int .i64 q, .int .i64 r, .int .i64 c]) W := by kernel_rfl
theorem Bx.sides {w : World} {p b R C n cap : Nat} {f : Nat → Nat} (B : Bx w p b R C n cap f) : (0 ≤ (R : Int) ∧ (R : Int) ≤ 4294967296) ∧ 0 ≤ (C : Int) ∧ (C : Int) ≤ 4294967296 := by
  have := B.pos
  have := B.l
  omega
theorem holdsB {w : World} {p b R C n cap : Nat} {f : Nat → Nat} (B : Bx w p b R C n cap f) (a b' r c : Int) (o : Bool) (ho : o = true ↔ Ins R C a b' r c) (W : World) (hT : Ft.Tab W) :
    Calls Tryd.prog 32 #[.agg #[.int .i64 (R : Int), .int .i64 (C : Int)], .agg #[.int .i64 a, .int .i64 b', .int .i64 r, .int .i64 c]] W fun e w' => e = .returned (.bool o) ∧ Below W.heap.size W w' :=
  holds R C a b' r c o B.sides.1 B.sides.2 ho W hT
set_option maxHeartbeats 1000000 in
set_option maxRecDepth 100000 in
theorem part_no {w : World} {p b R C n cap : Nat} {f : Nat → Nat} (B : Bx w p b R C n cap f) (a b' r c : Int) (h : ¬ Ins R C a b' r c) (hT : Ft.Tab w) :
    Calls Tryd.prog 20 #[.pointer (some ⟨p, 0, none⟩), .agg #[.int .i64 a, .int .i64 b', .int .i64 r, .int .i64 c]] w fun e w' => e = .returned (.tuple #[.pointer none, .int .i64 2]) ∧ Below w.heap.size w w' := by
  have HO := Lib.hid (fun W T => holdsB B a b' r c false (by simp [h]) W T)
  clear h
  have HB := Lib.hid (below_alloc w)
  have HT := Lib.hid hT
  have BX0 := Lib.hid B
  clear hT B
  go_enter Tryd.func20, Tryd.ntmps20
  go_upto_region 1 with fail
  have V0 := Ti.fresh w a b' r c 45
  have b0 := Lib.hid (HB.out (.cells #[.int .i64 a, .int .i64 b', .int .i64 r, .int .i64 c] 45))
  have B0 := Lib.hid (BX0.out.below b0.out)
  clear HB
  generalize w.alloc (.cells #[.int .i64 a, .int .i64 b', .int .i64 r, .int .i64 c] 45) = w0 at *
  have V0 := Lib.hid V0
  generalize w.heap.size = vb at V0
  have M := Kd.refl w0
  have PX := Lib.hid (fun W (hk : Kd w0 W) => show W.cell? ⟨p, 0, none⟩ = some (.int .i64 (R : Int)) ∧ W.cell? ⟨p, 1, none⟩ = some (.int .i64 (C : Int)) ∧ W.cell? ⟨vb, 0, none⟩ = some (.int .i64 a) ∧ W.cell? ⟨vb, 1, none⟩ = some (.int .i64 b') ∧ W.cell? ⟨vb, 2, none⟩ = some (.int .i64 r) ∧ W.cell? ⟨vb, 3, none⟩ = some (.int .i64 c) ∧ Kd w0 W from by
    have S := B0.out.c.below hk.d
    have V := V0.out.below hk.d
    exact ⟨S.c0, S.c1, V.c0, V.c1, V.c2, V.c3, hk⟩)
  have HO1 := Lib.hid (fun W (hk : Kd w0 W) => HO.out W (HT.out.below (b0.out.trans (hk.d.mono b0.out.size))))
  go_cut [13] (fun v13 wx => v13 = .bool true ∧ Kd w0 wx)
  case first =>
    go_region_held3 (fun w' => w'.cell? ⟨p, 0, none⟩ = some (.int .i64 (R : Int)) ∧ w'.cell? ⟨p, 1, none⟩ = some (.int .i64 (C : Int)) ∧ w'.cell? ⟨vb, 0, none⟩ = some (.int .i64 a) ∧ w'.cell? ⟨vb, 1, none⟩ = some (.int .i64 b') ∧ w'.cell? ⟨vb, 2, none⟩ = some (.int .i64 r) ∧ w'.cell? ⟨vb, 3, none⟩ = some (.int .i64 c) ∧ Kd w0 w')
      (exact PX.out _ (by repeat (first | with_reducible exact M | with_reducible refine Kd.drew ?_ | with_reducible refine Kd.alloc ?_ _ | with_reducible refine Kd.call ?_ h1)))
      (first
        | (go_at_call 32; (with_reducible refine (HO1.out _ (by repeat (first | with_reducible exact M | with_reducible refine Kd.drew ?_ | with_reducible refine Kd.alloc ?_ _))).mono ?_); rintro e w1 ⟨rfl, h1⟩))
    all_goals (go_wp2_with fail; go_meet)
    all_goals exact ⟨by first | rfl | simp, by repeat (first | with_reducible exact M | with_reducible refine Kd.drew ?_ | with_reducible refine Kd.alloc ?_ _ | with_reducible refine Kd.call ?_ h1)⟩
  case rest =>
    obtain ⟨rfl, hcut⟩ := hcut
    clear M PX HO1 HO
    generalize wc = w1 at *
    have C1 := Lib.hid (b0.out.trans (hcut.d.mono b0.out.size))
    clear hcut B0 V0 b0
    go_wp2
    go_ret2
    exact ⟨rfl, C1.out⟩
set_option maxHeartbeats 1000000 in
set_option maxRecDepth 100000 in
theorem part_in {w : World} {p b R C n cap : Nat} {f : Nat → Nat} (B : Bx w p b R C n cap f) (h k u v : Nat) (hg : Sh.Gd (h : Int) (k : Int)) (hu : u + h ≤ R) (hv : v + k ≤ C) (hT : Ft.Tab w) :
    Calls Tryd.prog 20 #[.pointer (some ⟨p, 0, none⟩), .agg #[.int .i64 (h : Int), .int .i64 (k : Int), .int .i64 (u : Int), .int .i64 (v : Int)]] w fun e w' => ∃ x, e = .returned (.tuple #[x, .int .i64 0]) ∧ BxN h k (h * k) (Bk.part C u v k f) w w' x := by
  have HO := Lib.hid (fun W T => holdsB B h k u v true (by simp only [true_iff]; exact ⟨hg, ⟨by omega, by omega⟩, by omega, by omega⟩) W T)
  have k0 : 0 < k ∧ 0 < h := by
    obtain ⟨g1, _, g3, _, _⟩ := hg.bound
    omega
  have hl : h * k ≤ 1048576 := by
    have a1 : h * k ≤ R * C := Nat.mul_le_mul (by omega) (by omega)
    rw [B.hn] at a1
    exact Nat.le_trans a1 B.l
  have NE := Lib.hid (fun W T => new h k (h * k) hg rfl hl W T)
  have PL := Lib.hid (part_lt B.hn hu hv B.lt)
  have LP := Lib.hid (fun i (hi : i < h * k) => show Bk.lay k 0 0 h k (Bk.part C u v k f) (fun _ => 0) i = Bk.part C u v k f i from by
    have e : i = Bk.pt k 0 0 k i := by unfold Bk.pt; rw [Nat.zero_add, Nat.zero_add, Nat.div_add_mod']
    rw [e, Bk.lay_at (by omega) hi, ← e])
  have WR := Lib.hid (fun W p2 b2 cap2 (N : Bx W p2 b2 h k (h * k) cap2 (fun _ => 0)) (B : Bx W p b R C n cap f) n1 n2 => show Calls Tryd.prog 33 #[.pointer (some ⟨p2, 0, none⟩), .int .i64 0, .int .i64 0, .pointer (some ⟨p, 0, none⟩), .agg #[.int .i64 (h : Int), .int .i64 (k : Int), .int .i64 (u : Int), .int .i64 (v : Int)]] W fun e w' => e = .returned (.tuple #[]) ∧ Ta b2 (h * k) (Bk.lay k 0 0 h k (Bk.part C u v k f) (fun _ => 0)) W w' from
    write N B h k 0 0 u v k0.1 (by omega) (by omega) hu hv n1 n2)
  clear hg hu hv k0 hl
  have HB := Lib.hid (below_alloc w)
  have HT := Lib.hid hT
  have BX0 := Lib.hid B
  clear hT B
  go_enter Tryd.func20, Tryd.ntmps20
  go_upto_region 1 with fail
  have V0 := Ti.fresh w (h : Int) (k : Int) (u : Int) (v : Int) 45
  have b0 := Lib.hid (HB.out (.cells #[.int .i64 (h : Int), .int .i64 (k : Int), .int .i64 (u : Int), .int .i64 (v : Int)] 45))
  have B0 := Lib.hid (BX0.out.below b0.out)
  clear HB
  generalize w.alloc (.cells #[.int .i64 (h : Int), .int .i64 (k : Int), .int .i64 (u : Int), .int .i64 (v : Int)] 45) = w0 at *
  have V0 := Lib.hid V0
  generalize w.heap.size = vb at V0
  have M := Kd.refl w0
  have PX := Lib.hid (fun W (hk : Kd w0 W) => show W.cell? ⟨p, 0, none⟩ = some (.int .i64 (R : Int)) ∧ W.cell? ⟨p, 1, none⟩ = some (.int .i64 (C : Int)) ∧ W.cell? ⟨vb, 0, none⟩ = some (.int .i64 (h : Int)) ∧ W.cell? ⟨vb, 1, none⟩ = some (.int .i64 (k : Int)) ∧ W.cell? ⟨vb, 2, none⟩ = some (.int .i64 (u : Int)) ∧ W.cell? ⟨vb, 3, none⟩ = some (.int .i64 (v : Int)) ∧ Kd w0 W from by
    have S := B0.out.c.below hk.d
    have V := V0.out.below hk.d
    exact ⟨S.c0, S.c1, V.c0, V.c1, V.c2, V.c3, hk⟩)
  have HO1 := Lib.hid (fun W (hk : Kd w0 W) => HO.out W (HT.out.below (b0.out.trans (hk.d.mono b0.out.size))))
  go_cut [13] (fun v13 wx => v13 = .bool false ∧ Kd w0 wx)
  case first =>
    go_region_held3 (fun w' => w'.cell? ⟨p, 0, none⟩ = some (.int .i64 (R : Int)) ∧ w'.cell? ⟨p, 1, none⟩ = some (.int .i64 (C : Int)) ∧ w'.cell? ⟨vb, 0, none⟩ = some (.int .i64 (h : Int)) ∧ w'.cell? ⟨vb, 1, none⟩ = some (.int .i64 (k : Int)) ∧ w'.cell? ⟨vb, 2, none⟩ = some (.int .i64 (u : Int)) ∧ w'.cell? ⟨vb, 3, none⟩ = some (.int .i64 (v : Int)) ∧ Kd w0 w')
      (exact PX.out _ (by repeat (first | with_reducible exact M | with_reducible refine Kd.drew ?_ | with_reducible refine Kd.alloc ?_ _ | with_reducible refine Kd.call ?_ h1)))
      (first
        | (go_at_call 32; (with_reducible refine (HO1.out _ (by repeat (first | with_reducible exact M | with_reducible refine Kd.drew ?_ | with_reducible refine Kd.alloc ?_ _))).mono ?_); rintro e w1 ⟨rfl, h1⟩))
    all_goals (go_wp2_with fail; go_meet)
    all_goals exact ⟨by first | rfl | simp, by repeat (first | with_reducible exact M | with_reducible refine Kd.drew ?_ | with_reducible refine Kd.alloc ?_ _ | with_reducible refine Kd.call ?_ h1)⟩
  case rest =>
    obtain ⟨rfl, hcut⟩ := hcut
    clear M PX HO1 HO
    generalize wc = w1 at *
    have C1 := Lib.hid (b0.out.trans (hcut.d.mono b0.out.size))
    have B1 := Lib.hid (B0.out.below hcut.d)
    have V1 := Lib.hid (V0.out.below hcut.d)
    clear hcut B0 V0 b0
    obtain ⟨t0, t1, t2, t3⟩ := V1.out
    go_wp2_with fail
    refine (NE.out _ (HT.out.below C1.out)).mono ?_
    rintro e w2 ⟨x2, rfl, p2, b2, cap2, rfl, N2, hp2, hb2, d2⟩
    have C2 := Lib.hid (C1.out.trans (d2.mono C1.out.size))
    have B2 := B1.out.below d2
    have V2 := Lib.hid (V1.out.below d2)
    have n1 : b ≠ b2 := by have := B1.out.s; omega
    have n2 : p ≠ b2 := by have := B1.out.c.lt; omega
    have WT := Lib.hid (WR.out _ _ _ _ N2 B2 n1 n2)
    have FI := Lib.hid (fun W (T : Ta b2 (h * k) (Bk.lay k 0 0 h k (Bk.part C u v k f) (fun _ => 0)) w2 W) => show BxN h k (h * k) (Bk.part C u v k f) w W (.pointer (some ⟨p2, 0, none⟩)) from
      ⟨p2, b2, cap2, rfl, (N2.wrote T (lay_lt (fun _ _ => by decide) PL.out)).congr (fun i hi => LP.out i hi), Nat.le_trans C1.out.size hp2, Nat.le_trans C1.out.size hb2, C2.out.trans (T.o.bel.mono (Nat.le_trans C1.out.size hb2))⟩)
    clear C1 B1 V1 N2 B2 d2 hp2 hb2 n1 n2 t0 t1 t2 t3 NE WR
    obtain ⟨t0, t1, t2, t3⟩ := V2.out
    go_wp2_with fail
    refine WT.out.mono ?_
    rintro e w3 ⟨rfl, T3⟩
    have F := Lib.hid (FI.out _ T3)
    clear WT FI T3 V2 C2 t0 t1 t2 t3
    go_wp2
    exact bodyPost_ret (v := .tuple #[.pointer (some ⟨p2, 0, none⟩), .int .i64 0]) (by simp [results, Tryd.results20, go_sem]) rfl ⟨_, rfl, F.out⟩

set_option maxHeartbeats 400000 in
theorem lay_nil (p : Option Addr) (r c : Int) (w : World) :
    Calls Tryd.prog 22 #[.pointer p, .int .i64 r, .int .i64 c, .pointer none] w fun e w' => e = .returned (.int .i64 1) ∧ w = w' := by
  go_enter Tryd.func22, Tryd.ntmps22
  go_wp2
  go_ret
  exact ⟨by simp [go_sem], rfl⟩
set_option maxHeartbeats 1000000 in
set_option maxRecDepth 100000 in
theorem lay_no {w : World} {p b R C n cap : Nat} {f : Nat → Nat} (B : Bx w p b R C n cap f) {p2 b2 R2 C2 n2 cap2 : Nat} {f2 : Nat → Nat} (S : Bx w p2 b2 R2 C2 n2 cap2 f2) (r c : Int) (h : ¬ Ins R C R2 C2 r c) (hT : Ft.Tab w) :
    Calls Tryd.prog 22 #[.pointer (some ⟨p, 0, none⟩), .int .i64 r, .int .i64 c, .pointer (some ⟨p2, 0, none⟩)] w fun e w' => e = .returned (.int .i64 2) ∧ Below w.heap.size w w' := by
  have HO := Lib.hid (fun W T => holdsB B R2 C2 r c false (by simp [h]) W T)
  clear h
  have HT := Lib.hid hT
  have B0 := Lib.hid B
  have S0 := Lib.hid S
  have SP := Lib.hid (fun W (S : Bx W p2 b2 R2 C2 n2 cap2 f2) => Bl.shape S.c)
  have bt := build_tile3 (R2 : Int) (C2 : Int) r c
  have bt2 := build_tile (R2 : Int) (C2 : Int)
  clear hT B S
  have M := Kd.refl w
  have PX := Lib.hid (fun W (h : Kd w W) => show W.cell? ⟨p, 0, none⟩ = some (.int .i64 (R : Int)) ∧ W.cell? ⟨p, 1, none⟩ = some (.int .i64 (C : Int)) ∧ Kd w W from by
    have S := B0.out.c.below h.d
    exact ⟨S.c0, S.c1, h⟩)
  have HO1 := Lib.hid (fun W (h : Kd w W) => HO.out W (HT.out.below h.d))
  have SP1 := Lib.hid (fun W (h : Kd w W) => SP.out W (S0.out.below h.d))
  clear HO
  go_enter Tryd.func22, Tryd.ntmps22
  go_upto_region 3 with fail
  go_cut [21] (fun v21 wx => v21 = .bool true ∧ Kd w wx)
  case first =>
    go_region_held3 (fun w' => w'.cell? ⟨p, 0, none⟩ = some (.int .i64 (R : Int)) ∧ w'.cell? ⟨p, 1, none⟩ = some (.int .i64 (C : Int)) ∧ Kd w w')
      (exact PX.out _ (by repeat (first | with_reducible exact M | with_reducible refine Kd.drew ?_ | with_reducible refine Kd.alloc ?_ _ | with_reducible refine Kd.call ?_ h1 | with_reducible refine Kd.call ?_ h2)))
      (first
        | (go_at_call 11; (with_reducible refine (SP1.out _ (by repeat (first | with_reducible exact M | with_reducible refine Kd.drew ?_ | with_reducible refine Kd.alloc ?_ _))).mono ?_); rintro e w2 ⟨rfl, h2⟩)
        | (go_at_call 32; (with_reducible refine (HO1.out _ (by repeat (first | with_reducible exact M | with_reducible refine Kd.drew ?_ | with_reducible refine Kd.alloc ?_ _ | with_reducible refine Kd.call ?_ h2))).mono ?_); rintro e w1 ⟨rfl, h1⟩))
    all_goals (go_wp2_with fail; go_meet)
    all_goals exact ⟨by first | rfl | simp, by repeat (first | with_reducible exact M | with_reducible refine Kd.drew ?_ | with_reducible refine Kd.alloc ?_ _ | with_reducible refine Kd.call ?_ h1 | with_reducible refine Kd.call ?_ h2)⟩
  case rest =>
    obtain ⟨rfl, hcut⟩ := hcut
    clear M PX HO1 SP1 bt
    generalize wc = w1 at *
    have C1 := Lib.hid hcut.d
    clear hcut B0 S0 bt2
    go_wp2
    go_ret
    exact ⟨by simp [go_sem], C1.out⟩
set_option maxHeartbeats 1000000 in
set_option maxRecDepth 100000 in
theorem lay_in {w : World} {p b R C n cap : Nat} {f : Nat → Nat} (B : Bx w p b R C n cap f) {p2 b2 R2 C2 n2 cap2 : Nat} {f2 : Nat → Nat} (S : Bx w p2 b2 R2 C2 n2 cap2 f2) (r c : Nat) (hr : r + R2 ≤ R) (hc : c + C2 ≤ C) (n1 : b2 ≠ b) (np : p2 ≠ b) (hT : Ft.Tab w) :
    Calls Tryd.prog 22 #[.pointer (some ⟨p, 0, none⟩), .int .i64 (r : Int), .int .i64 (c : Int), .pointer (some ⟨p2, 0, none⟩)] w fun e w' => e = .returned (.int .i64 0) ∧ Ta b n (Bk.lay C r c R2 C2 (Bk.part C2 0 0 C2 f2) f) w w' := by
  have HO := Lib.hid (fun W T => holdsB B R2 C2 r c true (by simp only [true_iff]; exact ⟨S.g, ⟨by omega, by omega⟩, by omega, by omega⟩) W T)
  have WR := Lib.hid (fun W (B : Bx W p b R C n cap f) (S : Bx W p2 b2 R2 C2 n2 cap2 f2) => show Calls Tryd.prog 33 #[.pointer (some ⟨p, 0, none⟩), .int .i64 (r : Int), .int .i64 (c : Int), .pointer (some ⟨p2, 0, none⟩), .agg #[.int .i64 (R2 : Int), .int .i64 (C2 : Int), .int .i64 0, .int .i64 0]] W fun e w' => e = .returned (.tuple #[]) ∧ Ta b n (Bk.lay C r c R2 C2 (Bk.part C2 0 0 C2 f2) f) W w' from
    write B S R2 C2 r c 0 0 S.pos.2.1 hr hc (by omega) (by omega) n1 np)
  have HT := Lib.hid hT
  have B0 := Lib.hid B
  have S0 := Lib.hid S
  have SP := Lib.hid (fun W (S : Bx W p2 b2 R2 C2 n2 cap2 f2) => Bl.shape S.c)
  have bt := build_tile3 (R2 : Int) (C2 : Int) (r : Int) (c : Int)
  have bt2 := build_tile (R2 : Int) (C2 : Int)
  clear hT B S
  have M := Kd.refl w
  have PX := Lib.hid (fun W (h : Kd w W) => show W.cell? ⟨p, 0, none⟩ = some (.int .i64 (R : Int)) ∧ W.cell? ⟨p, 1, none⟩ = some (.int .i64 (C : Int)) ∧ Kd w W from by
    have S := B0.out.c.below h.d
    exact ⟨S.c0, S.c1, h⟩)
  have HO1 := Lib.hid (fun W (h : Kd w W) => HO.out W (HT.out.below h.d))
  have SP1 := Lib.hid (fun W (h : Kd w W) => SP.out W (S0.out.below h.d))
  clear HO
  go_enter Tryd.func22, Tryd.ntmps22
  go_upto_region 3 with fail
  go_cut [21] (fun v21 wx => v21 = .bool false ∧ Kd w wx)
  case first =>
    go_region_held3 (fun w' => w'.cell? ⟨p, 0, none⟩ = some (.int .i64 (R : Int)) ∧ w'.cell? ⟨p, 1, none⟩ = some (.int .i64 (C : Int)) ∧ Kd w w')
      (exact PX.out _ (by repeat (first | with_reducible exact M | with_reducible refine Kd.drew ?_ | with_reducible refine Kd.alloc ?_ _ | with_reducible refine Kd.call ?_ h1 | with_reducible refine Kd.call ?_ h2)))
      (first
        | (go_at_call 11; (with_reducible refine (SP1.out _ (by repeat (first | with_reducible exact M | with_reducible refine Kd.drew ?_ | with_reducible refine Kd.alloc ?_ _))).mono ?_); rintro e w2 ⟨rfl, h2⟩)
        | (go_at_call 32; (with_reducible refine (HO1.out _ (by repeat (first | with_reducible exact M | with_reducible refine Kd.drew ?_ | with_reducible refine Kd.alloc ?_ _ | with_reducible refine Kd.call ?_ h2))).mono ?_); rintro e w1 ⟨rfl, h1⟩))
    all_goals (go_wp2_with fail; go_meet)
    all_goals exact ⟨by first | rfl | simp, by repeat (first | with_reducible exact M | with_reducible refine Kd.drew ?_ | with_reducible refine Kd.alloc ?_ _ | with_reducible refine Kd.call ?_ h1 | with_reducible refine Kd.call ?_ h2)⟩
  case rest =>
    obtain ⟨rfl, hcut⟩ := hcut
    clear M PX HO1 SP1 bt
    generalize wc = w1 at *
    have B1 := Lib.hid (B0.out.below hcut.d)
    have S1 := Lib.hid (S0.out.below hcut.d)
    have o1 := Lib.hid (But.of_below hcut.d (Nat.le_of_lt B0.out.s))
    have SQ := Lib.hid (SP.out _ S1.out)
    clear hcut B0 S0
    go_wp2_with fail
    refine SQ.out.mono ?_
    rintro e w2 ⟨rfl, d2⟩
    have WT := Lib.hid (WR.out _ (B1.out.below d2) (S1.out.below d2))
    have o2 := Lib.hid (But.trans o1.out (But.of_below d2 (Nat.le_of_lt B1.out.s)))
    clear SQ d2 B1 S1 o1 WR
    go_wp2_with fail
    refine WT.out.mono ?_
    rintro e w3 ⟨rfl, T3⟩
    have F := Lib.hid (show Ta b n (Bk.lay C r c R2 C2 (Bk.part C2 0 0 C2 f2) f) w w3 from ⟨T3.k, But.trans o2.out T3.o⟩)
    clear WT T3 o2
    go_wp2
    go_ret
    exact ⟨by simp [go_sem], F.out⟩
end Bl
end Go.Proofs.YtobpjlgiefnmjaaDoor
