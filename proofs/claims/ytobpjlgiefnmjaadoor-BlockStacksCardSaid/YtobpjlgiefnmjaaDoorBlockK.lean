/- Contract of package block's Stack (of one block, so many times). -/
import Derived.Test.YtobpjlgiefnmjaaDoorBlockI
set_option linter.unusedVariables false
namespace Go.Proofs.YtobpjlgiefnmjaaDoor
open Go.RowKit Go.Lib Go.Sort
namespace Bl
open Ww Pl

theorem eq_nil (q : Option Addr) (W : World) : (binOp .eql 26 (.pointer none) (.pointer q)).run Tryd.prog W = .ok (.bool q.isNone) W := by
  cases q <;> kernel_rfl
/-- A slice of pointers, all to the block at p. -/
structure Pp (w : World) (B : Nat) (A : Addr) (m p : Nat) : Prop where
  at_ : ∀ i, i < m → w.cell? ⟨A.block, A.off + i, none⟩ = some (.pointer (some ⟨p, 0, none⟩))
  s : A.spot = none
  lt : A.block < B
theorem Pp.below {w w' : World} {B m p : Nat} {A : Addr} (h : Pp w B A m p) (hb : Below B w w') : Pp w' B A m p :=
  ⟨fun i hi => (hb.cell (p := ⟨A.block, A.off + i, none⟩) h.lt).trans (h.at_ i hi), h.s, h.lt⟩
theorem Pp.more {w : World} {B B' m p : Nat} {A : Addr} (h : Pp w B A m p) (hB : B ≤ B') : Pp w B' A m p := ⟨h.at_, h.s, Nat.lt_of_lt_of_le h.lt hB⟩
theorem Pp.step {w w' : World} {m p : Nat} {A : Addr} (h : Pp w w.heap.size A m p) (hb : Below w.heap.size w w') : Pp w' w'.heap.size A m p := (h.below hb).more hb.size
set_option maxHeartbeats 400000 in
theorem index_none (ab ao m cm p : Nat) (w : World) (hm : m ≤ 1048576) (P : ∀ i, i < m → w.cell? ⟨ab, ao + i, none⟩ = some (.pointer (some ⟨p, 0, none⟩))) :
    Calls Tryd.prog 39 #[.slice (some ⟨ab, ao, none⟩) m cm, .pointer none] w fun e w' => e = .returned (.int .i64 (-1)) ∧ w = w' := by
  have en := eq_nil (some ⟨p, 0, none⟩)
  have P := Lib.hid P
  go_enter Tryd.func39, Tryd.ntmps39
  go_wp2_with fail
  go_loopw [8] (fun v8 wr => ∃ i : Nat, v8 = .int .i64 (i : Int) ∧ i ≤ m ∧ Hid (wr = w)) (fun v8 _ => m - (Lib.intOf v8).toNat)
  case atStart => exact ⟨0, rfl, Nat.zero_le _, Lib.hid rfl⟩
  case round =>
    obtain ⟨i, rfl, hi, hw⟩ := hrel
    obtain ⟨wo, hwo⟩ : ∃ wo, wo = wr := ⟨_, rfl⟩
    obtain rfl := hw.out
    clear hwo wo hw
    by_cases hlt : i < m
    · have i1 : (i : Int) < m := by omega
      have c := P.out i hlt
      go_wp2_with fail
      go_roundw
      case rel => exact ⟨i + 1, rfl, by omega, by first | exact Lib.hid rfl | exact Lib.hid trivial⟩
      case measure => simp [Lib.intOf]; omega
    · have i1 : ¬ (i : Int) < m := by omega
      go_wp2
      go_ret
      exact ⟨by simp [go_sem], rfl⟩
set_option maxHeartbeats 400000 in
theorem index_two (ab p : Nat) (w : World) (c0 : w.cell? ⟨ab, 0, none⟩ = some (.pointer (some ⟨p, 0, none⟩))) (c1 : w.cell? ⟨ab, 1, none⟩ = some (.pointer none)) :
    Calls Tryd.prog 39 #[.slice (some ⟨ab, 0, none⟩) 2 2, .pointer none] w fun e w' => e = .returned (.int .i64 1) ∧ w = w' := by
  have en := eq_nil (some ⟨p, 0, none⟩)
  have en2 := eq_nil none
  have C0 := Lib.hid c0
  have C1 := Lib.hid c1
  clear c0 c1
  go_enter Tryd.func39, Tryd.ntmps39
  go_wp2_with fail
  go_loopw [8] (fun v8 wr => ∃ i : Nat, v8 = .int .i64 (i : Int) ∧ i ≤ 1 ∧ Hid (wr = w)) (fun v8 _ => 2 - (Lib.intOf v8).toNat)
  case atStart => exact ⟨0, rfl, Nat.zero_le _, Lib.hid rfl⟩
  case round =>
    obtain ⟨i, rfl, hi, hw⟩ := hrel
    obtain ⟨wo, hwo⟩ : ∃ wo, wo = wr := ⟨_, rfl⟩
    obtain rfl := hw.out
    clear hwo wo hw
    have h01 : i = 0 ∨ i = 1 := by omega
    rcases h01 with rfl | rfl
    · have c := C0.out
      go_wp2_with fail
      go_roundw
      case rel => exact ⟨1, rfl, by omega, by first | exact Lib.hid rfl | exact Lib.hid trivial⟩
      case measure => simp [Lib.intOf]
    · have c := C1.out
      go_wp2
      go_ret
      exact ⟨by simp [go_sem], rfl⟩
set_option maxHeartbeats 400000 in
theorem contains (A : Value) (x : Int) (o : Bool) (ho : decide (0 ≤ x) = o) (w : World) (h : Calls Tryd.prog 39 #[A, .pointer none] w fun e w' => e = .returned (.int .i64 x) ∧ w = w') :
    Calls Tryd.prog 36 #[A, .pointer none] w fun e w' => e = .returned (.bool o) ∧ w = w' := by
  have H := Lib.hid h
  have HO := Lib.hid ho
  clear h ho
  go_enter Tryd.func36, Tryd.ntmps36
  go_wp2_with fail
  refine H.out.mono ?_
  rintro e w1 ⟨rfl, rfl⟩
  go_wp2
  go_ret
  exact ⟨by simp [go_sem, HO.out], rfl⟩

set_option maxHeartbeats 400000 in
theorem stack_none (w : World) :
    Calls Tryd.prog 24 #[.slice none 0 0] w fun e w' => e = .returned (.tuple #[.pointer none, .int .i64 1]) ∧ w = w' := by
  go_enter Tryd.func24, Tryd.ntmps24
  go_wp2
  go_ret2
  exact ⟨rfl, rfl⟩
set_option maxHeartbeats 400000 in
theorem stack_nil (ab p : Nat) (w : World) (c0 : w.cell? ⟨ab, 0, none⟩ = some (.pointer (some ⟨p, 0, none⟩))) (c1 : w.cell? ⟨ab, 1, none⟩ = some (.pointer none)) :
    Calls Tryd.prog 24 #[.slice (some ⟨ab, 0, none⟩) 2 2] w fun e w' => e = .returned (.tuple #[.pointer none, .int .i64 1]) ∧ w = w' := by
  have CO := Lib.hid (contains _ 1 true (by decide) w (index_two ab p w c0 c1))
  clear c0 c1
  go_enter Tryd.func24, Tryd.ntmps24
  go_wp2_with fail
  refine CO.out.mono ?_
  rintro e w1 ⟨rfl, rfl⟩
  go_wp2
  go_ret2
  exact ⟨rfl, rfl⟩

/-- copy(dst, src), dst as long or longer: what it answers, and the world behind it. -/
theorem copy_eqB (W : World) (b x n k d c1 bs c2 : Nat) (f g : Nat → Nat) (T : Ta b n f W W) (hx : x + k ≤ n) (hd : k ≤ d) (hs : ∀ j, j < k → W.cell? ⟨bs, 0 + j, none⟩ = some (.int .u64 (g j : Nat))) (t1 t2 ty : TypeId) (ht : Tryd.prog.underlying t1 = some (.slice 37)) :
    (Builtin.copy_ #[t1, t2] ty #[.slice (some ⟨b, x, none⟩) d c1, .slice (some ⟨bs, 0, none⟩) k c2]).run Tryd.prog W = .ok (goInt k) (W.setCells b x ((List.range k).map fun j => cw (g j))) := by
  have hl : ((List.range k).map fun i => cw (g i)).length = k := by simp
  have hU := infoU
  have hsz : (Tryd.prog.info? 37).map (·.size) = some 1 := by
    cases e : Tryd.prog.info? 37 with
    | none => rw [e] at hU; cases hU
    | some i =>
      rw [e] at hU
      simp only [Option.map_some, Option.some.injEq, Prod.mk.injEq] at hU ⊢
      exact hU.2.1
  have hrun := run_copy_cells (P := Tryd.prog) W t1 t2 ty 37 b x d c1 ⟨bs, 0, none⟩ k c2 ((List.range k).map fun i => cw (g i)) ht hsz (by rw [hl]; exact (Nat.min_eq_left hd).symm)
    (fun j v hv => by
      obtain ⟨hj, e⟩ := List.getElem?_eq_some_iff.1 hv
      rw [add_none, ← e, cells_at g k j hj]
      exact hs j (by rw [hl] at hj; exact hj))
    (fun j hj => by rw [(T.at_ (x + j) (by rw [hl] at hj; omega)).1]; rfl)
    (fun j hj => (T.at_ (x + j) (by rw [hl] at hj; omega)).2)
    (fun v hv => by
      simp at hv
      obtain ⟨i, _, rfl⟩ := hv
      rfl)
  rw [hl] at hrun
  exact hrun
theorem slice_fromB (W : World) (b L cap j n : Nat) (hj : j < L) (hn : j + n = L) (hc : L ≤ cap) : (Instr.slice 59 (.slice (some ⟨b, 0, none⟩) L cap) (some (.int .i64 (j : Int))) none none).run Tryd.prog W = .ok (.slice (some ⟨b, j, none⟩) n (cap - j)) W := by
  have ht := Tryd.underlying59
  have ht' : Tryd.prog.underlying 59 = some (.slice (Tryd.prog.elem 59)) := by simp [Program.elem, ht]
  have he : Tryd.prog.elem 59 = 37 := by simp [Program.elem, ht]
  rw [run_slice_l W 59 _ _ _ ht' .i64 _ (by omega) (by omega), he, sizeU]
  have h0 : ¬ cap = j := by omega
  have h2 : L - j = n := by omega
  by_cases h1 : j = 0
  · subst h1; simp at h2; simp [Result.andThen, sliced, Addr.add, h2, h0]
  · simp [Result.andThen, sliced, Addr.add, h0, h1, h2]
/-- Words over and over: the first i times are written. -/
def cpk (n : Nat) (f : Nat → Nat) (i j : Nat) : Nat := if j < i * n then f (j % n) else 0
theorem cpk_step (n : Nat) (f : Nat → Nat) (i : Nat) : (fun j => if i * n ≤ j ∧ j < i * n + n then f (j - i * n) else cpk n f i j) = cpk n f (i + 1) := by
  funext j
  unfold cpk
  rw [Nat.succ_mul]
  by_cases h : i * n ≤ j ∧ j < i * n + n
  · rw [if_pos h, if_pos h.2]
    congr 1
    have e : j = (j - i * n) + i * n := by omega
    rw [e, Nat.add_mul_mod_self_right, Nat.mod_eq_of_lt (by omega)]
    omega
  · rw [if_neg h]
    by_cases h2 : j < i * n
    · rw [if_pos h2, if_pos (by omega)]
    · rw [if_neg h2, if_neg (by omega)]
theorem build_cols (c : Int) (W : World) : (Instr.build 23 #[(1, .int .i64 c)]).run Tryd.prog W = .ok (.agg #[.int .i64 0, .int .i64 c]) W := by kernel_rfl
/-- What Stack's shape is while its rows are counted. -/
structure Sq (sb : Nat) (r c : Int) (w wr : World) : Prop where
  c0 : wr.cell? ⟨sb, 0, none⟩ = some (.int .i64 r)
  c1 : wr.cell? ⟨sb, 1, none⟩ = some (.int .i64 c)
  z0 : wr.frozen? ⟨sb, 0, none⟩ = false
  o : But sb w wr
theorem Sq.put {sb : Nat} {r c r' : Int} {w wr : World} (h : Sq sb r c w wr) : Sq sb r' c w ((wr.setCell ⟨sb, 0, none⟩ (.int .i64 r')).drew) := by
  refine ⟨World.cell?_setCell_same _ _ _ h.c0, ?_, ?_, (h.o.put 0 _).drew⟩
  · show (wr.setCell ⟨sb, 0, none⟩ (.int .i64 r')).cell? ⟨sb, 1, none⟩ = _
    rw [World.cell?_setCell_other wr _ _ _ (by simp)]
    exact h.c1
  · show (wr.setCell ⟨sb, 0, none⟩ (.int .i64 r')).frozen? ⟨sb, 0, none⟩ = _
    rw [World.frozen?_setCell]
    exact h.z0
theorem Sq.drewN {sb : Nat} {r c : Int} {w wr : World} (h : Sq sb r c w wr) (k : Nat) : Sq sb r c w (wr.drewN k) := ⟨h.c0, h.c1, h.z0, ⟨below_drewN h.o.bel k, h.o.cell, h.o.frz⟩⟩
set_option maxHeartbeats 1000000 in
set_option maxRecDepth 100000 in
theorem stack_odd {w : World} {p b R C n cap : Nat} {f : Nat → Nat} (B : Bx w p b R C n cap f) (ab ao m cm : Nat) (m0 : 0 < m) (hm : m ≤ 1024) (h : ¬ (Sh.Gd ((m * R : Nat) : Int) (C : Int) ∧ ((m * R : Nat) : Int) * (C : Int) ≤ 1048576)) (P : Pp w w.heap.size ⟨ab, ao, none⟩ m p) (hT : Ft.Tab w) :
    Calls Tryd.prog 24 #[.slice (some ⟨ab, ao, none⟩) m cm] w fun e w' => e = .returned (.tuple #[.pointer none, .int .i64 19]) ∧ Below w.heap.size w w' := by
  have NN := Lib.hid (fun W T => new_no ((m * R : Nat) : Int) (C : Int) h W T)
  clear h
  have CO := Lib.hid (contains _ (-1) false (by decide) w (index_none ab ao m cm p w (by omega) P.at_))
  have HT := Lib.hid hT
  have B0 := Lib.hid B
  have P0 := Lib.hid P
  have hRC : R ≤ 1048576 ∧ C ≤ 1048576 := by have := B.pos; have := B.l; omega
  have m1 : ¬ ((m : Int) = 0) := by omega
  have p0 := P.at_ 0 m0
  rw [Nat.add_zero] at p0
  have t1 := B.c.c1
  have bs : (Instr.build 23 #[(1, .int .i64 (C : Int))]).run Tryd.prog w = .ok (.agg #[.int .i64 0, .int .i64 (C : Int)]) w := build_cols (C : Int) w
  have ST := Lib.hid (show Sq w.heap.size ((0 * R : Nat) : Int) C (w.alloc (.cells #[.int .i64 0, .int .i64 (C : Int)] 23)) (w.alloc (.cells #[.int .i64 0, .int .i64 (C : Int)] 23)) from ⟨by simp [go_sem], by simp [go_sem], by simp [go_sem], But.refl _ _⟩)
  have hb := below_alloc w (.cells #[.int .i64 0, .int .i64 (C : Int)] 23)
  have IM := Lib.hid (fun i (hi : i < m) => show i * R + R ≤ 1073741824 by
    have : (i + 1) * R ≤ 1024 * 1048576 := Nat.mul_le_mul (by omega) hRC.1
    rw [Nat.succ_mul] at this
    omega)
  have ne := Lib.hid (show p ≠ w.heap.size ∧ b ≠ w.heap.size ∧ ab ≠ w.heap.size by have := B.c.lt; have := B.s; have := P.lt; simp at this; omega)
  clear B P hT
  go_enter Tryd.func24, Tryd.ntmps24
  go_wp2_with fail
  refine CO.out.mono ?_
  rintro e w1 ⟨rfl, rfl⟩
  go_wp2_with fail
  have B1 := Lib.hid (B0.out.below hb)
  have P1 := Lib.hid (P0.out.below hb)
  have HB := Lib.hid hb
  clear bs p0 t1 CO B0 P0 hb
  generalize w.alloc (.cells #[.int .i64 0, .int .i64 (C : Int)] 23) = w1 at *
  obtain ⟨sb, hsb⟩ : ∃ sb, sb = w.heap.size := ⟨_, rfl⟩
  rw [← hsb] at ST P1 ne
  simp only [← hsb]
  replace hsb := Lib.hid hsb
  go_loopw [28] (fun v28 wr => ∃ i : Nat, v28 = .int .i64 (i : Int) ∧ i ≤ m ∧ Sq sb ((i * R : Nat) : Int) C w1 wr) (fun v28 _ => m - (Lib.intOf v28).toNat)
  case atStart => exact ⟨0, rfl, Nat.zero_le _, ST.out⟩
  case round =>
    obtain ⟨i, rfl, hi, T⟩ := hrel
    clear ST
    by_cases hlt : i < m
    · have i1 : (i : Int) < m := by omega
      have B2 := B1.out.but T.o ne.out.1 ne.out.2.1
      have c0 := B2.c.c0
      have c1 := B2.c.c1
      have q0 := (T.o.cell ⟨ab, ao + i, none⟩ ne.out.2.2 (Nat.lt_of_lt_of_le P1.out.lt (by rw [hsb.out]; exact HB.out.size))).trans (P1.out.at_ i hlt)
      have s0 := T.c0
      have s1 := T.c1
      obtain ⟨x, hx⟩ : ∃ x, x = i * R := ⟨_, rfl⟩
      obtain ⟨y, hy⟩ : ∃ y, y = (i + 1) * R := ⟨_, rfl⟩
      have im := IM.out i hlt
      rw [← hx] at im s0
      have q1 : IntKind.i64.wrap ((x : Int) + (R : Int)) = (y : Int) := by rw [IntKind.wrap_i64, hy, Nat.succ_mul, ← hx]; omega
      have SD := Lib.hid (fun mm => T.drewN mm)
      have BD := Lib.hid (fun mm => B2.drewN mm)
      rw [← hx] at SD
      replace hx := Lib.hid hx
      replace hy := Lib.hid hy
      clear T B2 im
      go_upto_region 7 with fail
      go_quiet (fail)
      clear c0 c1 q0 s0 s1
      have S2 := SD.out nq
      have B2 := BD.out nq
      clear SD BD
      generalize wr.drewN nq = w2 at *
      have c0 := B2.c.c0
      have s0 := S2.c0
      have z0 := S2.z0
      have l0 := B2.drew.c.c0
      have l1 : w2.drew.cell? ⟨sb, 0, none⟩ = some (.int .i64 (x : Int)) := s0
      have l2 : w2.drew.frozen? ⟨sb, 0, none⟩ = false := z0
      have S3 := Lib.hid (Sq.put (r' := (y : Int)) S2)
      clear S2 B2
      go_upto_region 9 with fail
      go_region
      go_wp2_with fail
      go_roundw
      case rel => exact ⟨i + 1, rfl, by omega, by rw [← hy.out]; exact S3.out⟩
      case measure => simp [Lib.intOf]; omega
    · have i1 : ¬ (i : Int) < m := by omega
      obtain rfl : m = i := by omega
      have B2 := Lib.hid (B1.out.but T.o ne.out.1 ne.out.2.1)
      have P2 := Lib.hid (show Pp wr sb ⟨ab, ao, none⟩ m p from P1.out.below T.o.bel)
      have s0 := T.c0
      have s1 := T.c1
      have BW := Lib.hid (show Below w.heap.size w wr from But.new HB.out (Nat.le_of_eq hsb.out.symm) T.o)
      have sl := Lib.hid (show sb < wr.heap.size from World.block_lt_of_cell? wr _ T.c0)
      clear T B1 P1 HB IM
      go_wp2_with fail
      refine (NN.out _ (HT.out.below BW.out)).mono ?_
      rintro e w3 ⟨rfl, d3⟩
      have C3 := Lib.hid (BW.out.trans (d3.mono BW.out.size))
      clear d3 BW s0 s1 B2 P2 NN
      go_wp2
      go_ret2
      exact ⟨rfl, C3.out⟩
set_option maxHeartbeats 1000000 in
set_option maxRecDepth 100000 in
theorem stack_ok {w : World} {p b R C n cap : Nat} {f : Nat → Nat} (B : Bx w p b R C n cap f) (ab ao m cm : Nat) (m0 : 0 < m) (hm : m ≤ 1024) (N : Nat) (hN : N = m * n) (hg : Sh.Gd ((m * R : Nat) : Int) (C : Int)) (hl : N ≤ 1048576) (P : Pp w w.heap.size ⟨ab, ao, none⟩ m p) (hT : Ft.Tab w) :
    Calls Tryd.prog 24 #[.slice (some ⟨ab, ao, none⟩) m cm] w fun e w' => ∃ x, e = .returned (.tuple #[x, .int .i64 0]) ∧ BxN (m * R) C N (fun j => f (j % n)) w w' x := by
  have NE := Lib.hid (fun W T => new (m * R) C N hg (by rw [hN, ← B.hn, Nat.mul_assoc]) hl W T)
  have n0 : 0 < n := B.pos.2.2.1
  have CL := Lib.hid (fun i j (hj : j < N) => show cpk n f i j < 18446744073709551616 by
    unfold cpk
    split
    · exact B.lt _ (Nat.mod_lt _ n0)
    · decide)
  have KI := Lib.hid (fun i (hi : i < m) => show i * n + n ≤ N by rw [hN, ← Nat.succ_mul]; exact Nat.mul_le_mul_right n hi)
  have KE := Lib.hid (fun j (hj : j < N) => show cpk n f m j = f (j % n) from if_pos (by rw [← hN]; exact hj))
  replace hN := Lib.hid hN
  clear hg
  have CO := Lib.hid (contains _ (-1) false (by decide) w (index_none ab ao m cm p w (by omega) P.at_))
  have HT := Lib.hid hT
  have B0 := Lib.hid B
  have P0 := Lib.hid P
  have hRC : R ≤ 1048576 ∧ C ≤ 1048576 := by have := B.pos; have := B.l; omega
  have m1 : ¬ ((m : Int) = 0) := by omega
  have p0 := P.at_ 0 m0
  rw [Nat.add_zero] at p0
  have t1 := B.c.c1
  have bs : (Instr.build 23 #[(1, .int .i64 (C : Int))]).run Tryd.prog w = .ok (.agg #[.int .i64 0, .int .i64 (C : Int)]) w := build_cols (C : Int) w
  have ST := Lib.hid (show Sq w.heap.size ((0 * R : Nat) : Int) C (w.alloc (.cells #[.int .i64 0, .int .i64 (C : Int)] 23)) (w.alloc (.cells #[.int .i64 0, .int .i64 (C : Int)] 23)) from ⟨by simp [go_sem], by simp [go_sem], by simp [go_sem], But.refl _ _⟩)
  have hb := below_alloc w (.cells #[.int .i64 0, .int .i64 (C : Int)] 23)
  have IM := Lib.hid (fun i (hi : i < m) => show i * R + R ≤ 1073741824 by
    have : (i + 1) * R ≤ 1024 * 1048576 := Nat.mul_le_mul (by omega) hRC.1
    rw [Nat.succ_mul] at this
    omega)
  have ne := Lib.hid (show p ≠ w.heap.size ∧ b ≠ w.heap.size ∧ ab ≠ w.heap.size by have := B.c.lt; have := B.s; have := P.lt; simp at this; omega)
  clear B P hT
  go_enter Tryd.func24, Tryd.ntmps24
  go_wp2_with fail
  refine CO.out.mono ?_
  rintro e w1 ⟨rfl, rfl⟩
  go_wp2_with fail
  have B1 := Lib.hid (B0.out.below hb)
  have P1 := Lib.hid (P0.out.below hb)
  have HB := Lib.hid hb
  clear bs p0 t1 CO B0 P0 hb
  generalize w.alloc (.cells #[.int .i64 0, .int .i64 (C : Int)] 23) = w1 at *
  obtain ⟨sb, hsb⟩ : ∃ sb, sb = w.heap.size := ⟨_, rfl⟩
  rw [← hsb] at ST P1 ne
  simp only [← hsb]
  replace hsb := Lib.hid hsb
  go_loopw [28] (fun v28 wr => ∃ i : Nat, v28 = .int .i64 (i : Int) ∧ i ≤ m ∧ Sq sb ((i * R : Nat) : Int) C w1 wr) (fun v28 _ => m - (Lib.intOf v28).toNat)
  case atStart => exact ⟨0, rfl, Nat.zero_le _, ST.out⟩
  case round =>
    obtain ⟨i, rfl, hi, T⟩ := hrel
    clear ST
    by_cases hlt : i < m
    · have i1 : (i : Int) < m := by omega
      have B2 := B1.out.but T.o ne.out.1 ne.out.2.1
      have c0 := B2.c.c0
      have c1 := B2.c.c1
      have q0 := (T.o.cell ⟨ab, ao + i, none⟩ ne.out.2.2 (Nat.lt_of_lt_of_le P1.out.lt (by rw [hsb.out]; exact HB.out.size))).trans (P1.out.at_ i hlt)
      have s0 := T.c0
      have s1 := T.c1
      obtain ⟨x, hx⟩ : ∃ x, x = i * R := ⟨_, rfl⟩
      obtain ⟨y, hy⟩ : ∃ y, y = (i + 1) * R := ⟨_, rfl⟩
      have im := IM.out i hlt
      rw [← hx] at im s0
      have q1 : IntKind.i64.wrap ((x : Int) + (R : Int)) = (y : Int) := by rw [IntKind.wrap_i64, hy, Nat.succ_mul, ← hx]; omega
      have SD := Lib.hid (fun mm => T.drewN mm)
      have BD := Lib.hid (fun mm => B2.drewN mm)
      rw [← hx] at SD
      replace hx := Lib.hid hx
      replace hy := Lib.hid hy
      clear T B2 im
      go_upto_region 7 with fail
      go_quiet (fail)
      clear c0 c1 q0 s0 s1
      have S2 := SD.out nq
      have B2 := BD.out nq
      clear SD BD
      generalize wr.drewN nq = w2 at *
      have c0 := B2.c.c0
      have s0 := S2.c0
      have z0 := S2.z0
      have l0 := B2.drew.c.c0
      have l1 : w2.drew.cell? ⟨sb, 0, none⟩ = some (.int .i64 (x : Int)) := s0
      have l2 : w2.drew.frozen? ⟨sb, 0, none⟩ = false := z0
      have S3 := Lib.hid (Sq.put (r' := (y : Int)) S2)
      clear S2 B2
      go_upto_region 9 with fail
      go_region
      go_wp2_with fail
      go_roundw
      case rel => exact ⟨i + 1, rfl, by omega, by rw [← hy.out]; exact S3.out⟩
      case measure => simp [Lib.intOf]; omega
    · have i1 : ¬ (i : Int) < m := by omega
      obtain rfl : m = i := by omega
      have B2 := Lib.hid (B1.out.but T.o ne.out.1 ne.out.2.1)
      have P2 := Lib.hid (show Pp wr sb ⟨ab, ao, none⟩ m p from P1.out.below T.o.bel)
      have s0 := T.c0
      have s1 := T.c1
      have BW := Lib.hid (show Below w.heap.size w wr from But.new HB.out (Nat.le_of_eq hsb.out.symm) T.o)
      have sl := Lib.hid (show sb < wr.heap.size from World.block_lt_of_cell? wr _ T.c0)
      clear T B1 P1 HB IM
      go_wp2_with fail
      refine (NE.out _ (HT.out.below BW.out)).mono ?_
      rintro e w3 ⟨v3, rfl, p2, b2, cap2, rfl, N3, hp2, hb2, d3⟩
      have C3 := Lib.hid (BW.out.trans (d3.mono BW.out.size))
      have B3 := Lib.hid (B2.out.below d3)
      have P3 := Lib.hid ((P2.out.more (Nat.le_of_lt sl.out)).step d3)
      have nb := Lib.hid (show p ≠ b2 ∧ b ≠ b2 ∧ ab ≠ b2 by have := B2.out.c.lt; have := B2.out.s; have q : ab < sb := P2.out.lt; have := sl.out; omega)
      have hb3 := Lib.hid (Nat.le_trans BW.out.size hb2)
      have hp3 := Lib.hid (Nat.le_trans BW.out.size hp2)
      have N3 := Lib.hid N3
      have ST := Lib.hid (show Ta b2 N (cpk n f 0) w3 w3 from ⟨⟨fun i hi => by rw [show cpk n f 0 i = 0 from if_neg (by omega)]; exact N3.out.k.c i hi, N3.out.k.z⟩, But.refl _ _⟩)
      clear d3 BW s0 s1 B2 P2 NE sl hb2 hp2
      go_wp2_with fail
      go_loopw [8, 56] (fun v8 v56 wr => ∃ i : Nat, v8 = .int .i64 ((i * n : Nat) : Int) ∧ v56 = .int .i64 (i : Int) ∧ i ≤ m ∧ Ta b2 N (cpk n f i) w3 wr) (fun _ v56 _ => m - (Lib.intOf v56).toNat)
      case atStart => exact ⟨0, by rw [Nat.zero_mul]; rfl, rfl, Nat.zero_le _, ST.out⟩
      case round =>
        obtain ⟨i, rfl, rfl, hi, T⟩ := hrel
        clear ST
        by_cases hlt : i < m
        · have i1 : (i : Int) < m := by omega
          have q0 := (T.o.cell ⟨ab, ao + i, none⟩ nb.out.2.2 P3.out.lt).trans (P3.out.at_ i hlt)
          have B4 := B3.out.but T.o nb.out.1 nb.out.2.1
          have N4 := N3.out.wrote T (CL.out i)
          have ki := KI.out i hlt
          have T1 : Ta b2 N (cpk n f i) wr.drew wr.drew := ⟨T.k.drew, But.refl _ _⟩
          have TC := ta_copy (g := f) T1 (i * n) n ki
          rw [cpk_step] at TC
          have TD := Lib.hid (show Ta b2 N (cpk n f (i + 1)) w3 (wr.drew.setCells b2 (i * n) ((List.range n).map fun j => cw (f j))) from ⟨TC.k, But.trans T.o.drew TC.o⟩)
          obtain ⟨x, hx⟩ : ∃ x, x = i * n := ⟨_, rfl⟩
          obtain ⟨y, hy⟩ : ∃ y, y = (i + 1) * n := ⟨_, rfl⟩
          obtain ⟨dl, hd⟩ : ∃ dl, x + dl = N := ⟨N - x, by rw [← hx] at ki; omega⟩
          rw [← hx] at ki TD
          have CP := fun ty => copy_eqB wr.drew b2 x N n dl (cap2 - x) b cap (cpk n f i) f T1 ki (by omega) (fun j hj => B4.drew.k.c j hj) 59 59 ty Tryd.underlying59
          have SL := fun W => slice_fromB W b2 N cap2 x dl (by omega) hd N4.hc
          have q1 : IntKind.i64.wrap ((x : Int) + (n : Int)) = (y : Int) := by rw [IntKind.wrap_i64, hy, Nat.succ_mul, ← hx]; omega
          have u2 := N4.c.c2
          have v2 := B4.c.c2
          have u3 := N4.drew.c.c2
          have v3 := B4.drew.c.c2
          rw [← hx]
          replace hx := Lib.hid hx
          replace hy := Lib.hid hy
          clear T B4 N4 T1 TC ki hd
          generalize (List.range n).map (fun j => cw (f j)) = cs at *
          go_upto_region 18 with fail
          go_region
          go_wp2_with fail
          go_roundw
          case rel => exact ⟨i + 1, by rw [← hy.out], rfl, by omega, TD.out⟩
          case measure => simp [Lib.intOf]; omega
        · have i1 : ¬ (i : Int) < m := by omega
          obtain rfl : m = i := by omega
          have F := Lib.hid (show BxN (m * R) C N (fun j => f (j % n)) w wr (.pointer (some ⟨p2, 0, none⟩)) from
            ⟨p2, b2, cap2, rfl, (N3.out.wrote T (CL.out m)).congr (fun j hj => KE.out j hj), hp3.out, hb3.out, C3.out.trans (T.o.bel.mono hb3.out)⟩)
          clear T N3 B3 P3 C3
          go_wp2
          exact bodyPost_ret (v := .tuple #[.pointer (some ⟨p2, 0, none⟩), .int .i64 0]) (by simp [results, Tryd.results24, go_sem]) rfl ⟨_, rfl, F.out⟩
end Bl
end Go.Proofs.YtobpjlgiefnmjaaDoor
