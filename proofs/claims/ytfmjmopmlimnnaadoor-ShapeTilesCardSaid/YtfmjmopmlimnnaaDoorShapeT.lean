/- Contracts of package shape's Tiles: a row of tiles, each four cells. -/
import Derived.Test.YtfmjmopmlimnnaaDoorShape
import Derived.Test.YtfmjmopmlimnnaaDoorTileN
import Derived.Deep.OwnRows
import Derived.Laws.OwnMore
import Derived.Deep.AppendLies
set_option linter.unusedVariables false
namespace Go.Proofs.YtfmjmopmlimnnaaDoor
open Go.RowKit
namespace Sh
open Ft Tl

set_option maxHeartbeats 400000 in
theorem steps_core (n l m d : Nat) (h0 : 0 < l) (hm : (n : Int) - 1 = m) (hn : n ≤ 4294967296) (hl : l ≤ 9223372036854775807) (d1 : (m : Int).tdiv l = (d : Int)) (d2 : (m : Int) / l = (d : Int)) (d3 : d ≤ m) (w : World) :
    Calls Tryd.prog 21 #[.int .i64 (n : Nat), .int .i64 (l : Nat)] w fun e w' => e = .returned (.int .i64 ((d + 1 : Nat) : Int)) ∧ w = w' := by
  have l0 : ((l : Int) == 0) = false := by rw [beq_eq_false_iff_ne]; omega
  have w1 : IntKind.i64.wrap ((n : Int) - 1) = m := by rw [hm]; exact IntWalk.i64_in _ (by omega)
  have w2 : IntKind.i64.wrap (d : Int) = d := IntWalk.i64_in _ (by omega)
  go_enter Tryd.func21, Tryd.ntmps21
  go_wp2
  go_ret
  exact ⟨by simp [go_sem], rfl⟩
theorem steps (n l : Nat) (h0 : 0 < l) (hn0 : 0 < n) (hn : n ≤ 4294967296) (hl : l ≤ 9223372036854775807) (w : World) :
    Calls Tryd.prog 21 #[.int .i64 (n : Nat), .int .i64 (l : Nat)] w fun e w' => e = .returned (.int .i64 (up n l : Nat)) ∧ w = w' :=
  steps_core n l (n - 1) ((n - 1) / l) h0 (by omega) hn hl rfl (by rfl) (Nat.div_le_self _ _) w

set_option maxHeartbeats 400000 in
theorem tile_core (p q r c h k x y a b : Nat) (hp : (p : Int) - r = x) (hq : (q : Int) - c = y) (p1 : p ≤ 4294967296) (q1 : q ≤ 4294967296) (m1 : min (h : Int) (x : Int) = (a : Int)) (m2 : min (k : Int) (y : Int) = (b : Int)) (w : World) :
    Calls Tryd.prog 22 #[.agg #[.int .i64 (p : Nat), .int .i64 (q : Nat)], .int .i64 (r : Nat), .int .i64 (c : Nat), .int .i64 (h : Nat), .int .i64 (k : Nat)] w
      fun e w' => e = .returned (.agg #[.int .i64 (a : Nat), .int .i64 (b : Nat), .int .i64 (r : Nat), .int .i64 (c : Nat)]) ∧ Below w.heap.size w w' := by
  have w1 : IntKind.i64.wrap ((p : Int) - r) = x := by rw [hp]; exact IntWalk.i64_in _ (by omega)
  have w2 : IntKind.i64.wrap ((q : Int) - c) = y := by rw [hq]; exact IntWalk.i64_in _ (by omega)
  go_enter Tryd.func22, Tryd.ntmps22
  go_wp2
  exact bodyPost_ret (v := .agg #[.int .i64 (a : Nat), .int .i64 (b : Nat), .int .i64 (r : Nat), .int .i64 (c : Nat)]) (by simp [results, Tryd.results22, go_sem]) rfl ⟨rfl, (((Below.refl _ _).alloc (Nat.le_refl _) _).alloc (by simp) _).alloc (by simp; omega) _⟩
theorem tile (p q h k n : Nat) (hp : row q h k n ≤ p) (hq : col q k n ≤ q) (p1 : p ≤ 4294967296) (q1 : q ≤ 4294967296) (w : World) :
    Calls Tryd.prog 22 #[.agg #[.int .i64 (p : Nat), .int .i64 (q : Nat)], .int .i64 (row q h k n : Nat), .int .i64 (col q k n : Nat), .int .i64 (h : Nat), .int .i64 (k : Nat)] w
      fun e w' => e = .returned (.agg #[.int .i64 (rws p q h k n : Nat), .int .i64 (cls q k n : Nat), .int .i64 (row q h k n : Nat), .int .i64 (col q k n : Nat)]) ∧ Below w.heap.size w w' :=
  tile_core p q _ _ h k (p - row q h k n) (q - col q k n) _ _ (by omega) (by omega) p1 q1 (by unfold rws; omega) (by unfold cls; omega) w

/-- A tile's four cells. -/
def cw (p q h k n : Nat) : List Value := [.int .i64 (rws p q h k n : Nat), .int .i64 (cls q k n : Nat), .int .i64 (row q h k n : Nat), .int .i64 (col q k n : Nat)]
theorem cw_at (p q h k : Nat) : ∀ (ys : List Nat) (i : Nat), i < ys.length → (ys.flatMap (cw p q h k))[i * 4]? = some (.int .i64 (rws p q h k (ys.getD i 0) : Nat)) ∧ (ys.flatMap (cw p q h k))[i * 4 + 1]? = some (.int .i64 (cls q k (ys.getD i 0) : Nat)) ∧
    (ys.flatMap (cw p q h k))[i * 4 + 2]? = some (.int .i64 (row q h k (ys.getD i 0) : Nat)) ∧ (ys.flatMap (cw p q h k))[i * 4 + 3]? = some (.int .i64 (col q k (ys.getD i 0) : Nat))
  | [], i, h => by simp at h
  | y :: ys, 0, _ => by simp [List.flatMap_cons, cw]
  | y :: ys, i + 1, h' => by
    have := cw_at p q h k ys i (by simpa using h')
    rw [show (i + 1) * 4 = i * 4 + 1 + 1 + 1 + 1 from by omega]
    simpa [List.flatMap_cons, cw] using this
theorem cw_len (p q h k : Nat) (n : Nat) : ((List.range n).flatMap (cw p q h k)).length = n * 4 := by
  induction n with
  | zero => rfl
  | succ n ih => rw [List.range_succ, List.flatMap_append, List.length_append, ih]; simp [cw]; omega
/-- The slice at block g holds N tiles. -/
structure Tk (w : World) (g N p q h k : Nat) : Prop where
  c0 : ∀ n, n < N → w.cell? ⟨g, n * 4, none⟩ = some (.int .i64 (rws p q h k n : Nat))
  c1 : ∀ n, n < N → w.cell? ⟨g, n * 4 + 1, none⟩ = some (.int .i64 (cls q k n : Nat))
  c2 : ∀ n, n < N → w.cell? ⟨g, n * 4 + 2, none⟩ = some (.int .i64 (row q h k n : Nat))
  c3 : ∀ n, n < N → w.cell? ⟨g, n * 4 + 3, none⟩ = some (.int .i64 (col q k n : Nat))
section
variable {w w' : World} {g N p q h k : Nat}
theorem Tk.keep (H : Tk w g N p q h k) (hk : ∀ a : Addr, a.block = g → w'.cell? a = w.cell? a) : Tk w' g N p q h k :=
  ⟨fun n hn => (hk _ rfl).trans (H.c0 n hn), fun n hn => (hk _ rfl).trans (H.c1 n hn), fun n hn => (hk _ rfl).trans (H.c2 n hn), fun n hn => (hk _ rfl).trans (H.c3 n hn)⟩
theorem Tk.lt (H : Tk w g N p q h k) (h0 : 0 < N) : g < w.heap.size := World.block_lt_of_cell? w _ (H.c0 0 h0)
theorem Tk.step (H : Tk w g N p q h k) (h0 : 0 < N) (hb : Below w.heap.size w w') : Tk w' g N p q h k :=
  H.keep fun a ha => hb.cell (by rw [ha]; exact H.lt h0)
theorem Tk.put (H : Tk w g N p q h k) {a : Addr} (ha : a.block ≠ g) (v : Value) : Tk (w.setCell a v) g N p q h k :=
  H.keep fun b hb => World.cell?_setCell_other w a b v (fun e => ha (by rw [← hb, e]))
end
theorem infoT : (Tryd.prog.info? 45).map (fun i => (i.zero, i.size, i.bytes)) = some (some (.agg #[.int .i64 0, .int .i64 0, .int .i64 0, .int .i64 0]), 4, 32) := by kernel_rfl
theorem make_tiles (n : Nat) (z : Int) (hz : z = n) (hn : n ≤ 65536) (w : World) :
    (Instr.makeSlice 40 (.int .i64 0) (.int .i64 z)).run Tryd.prog w = .ok (.slice (some ⟨w.heap.size, 0, none⟩) 0 n) (w.alloc (.cells (madeCells #[.int .i64 0, .int .i64 0, .int .i64 0, .int .i64 0] (n * 4)) 45)) := by
  subst hz
  obtain ⟨i, hi, hz, hs, hb⟩ := info_parts infoT
  have h := run_make (P := Tryd.prog) w _ _ i _ Tryd.underlying40 hi hz .i64 .i64 0 (n : Int) (by omega) (by omega) (by rw [hb]; omega) (by omega)
  have hc : (Value.agg #[.int .i64 0, .int .i64 0, .int .i64 0, .int .i64 0]).cells = #[.int .i64 0, .int .i64 0, .int .i64 0, .int .i64 0] := by kernel_rfl
  rw [hs, hc] at h
  simpa using h
/-- append of one tile, within the capacity. -/
theorem append_tile (w : World) {ops : Array Oper} {rest : List Oper} {o : Oper} {a : Act} {Q : Exit → Act → World → Prop} (hgd : o.guard = none) (s x : Operand)
    (ho : o.op = .call { callee := .builtin .append, args := #[s, x], argTypes := #[40, 40] })
    (base g n cap : Nat) (xs : List Value) (hs : a.eval s = .slice (some ⟨g, 0, none⟩) n cap) (hown : w.ownsRow base 45 4 (.slice (some ⟨g, 0, none⟩) n cap) n xs)
    (b y0 y1 y2 y3 : Nat) (hx : a.eval x = .slice (some ⟨b, 0, none⟩) 1 1)
    (hc : w.cell? ⟨b, 0, none⟩ = some (.int .i64 y0) ∧ w.cell? ⟨b, 1, none⟩ = some (.int .i64 y1) ∧ w.cell? ⟨b, 2, none⟩ = some (.int .i64 y2) ∧ w.cell? ⟨b, 3, none⟩ = some (.int .i64 y3)) (hcap : n + 1 ≤ cap)
    (h : ∀ w', w'.ownsRow base 45 4 (.slice (some ⟨g, 0, none⟩) (n + 1) cap) (n + 1) (xs ++ [.int .i64 y0, .int .i64 y1, .int .i64 y2, .int .i64 y3]) → w.grownBy w' (some g) → wpList Tryd.prog ops Q rest (a.put o.dst (.slice (some ⟨g, 0, none⟩) (n + 1) cap)) w') :
    wpList Tryd.prog ops Q (o :: rest) a w := by
  obtain ⟨i, hi, hz, hsz, hb⟩ := info_parts infoT
  obtain ⟨e0, e1, e2, e3⟩ := hc
  refine wpList_append_fits w hgd s x _ ho base _ i 4 Tryd.underlying40 hi hsz g n cap xs hs hown ⟨b, 0, none⟩ 1 1 [.int .i64 y0, .int .i64 y1, .int .i64 y2, .int .i64 y3] hx rfl ?_ ?_ hcap h
  · intro j u hu
    rcases j with _ | _ | _ | _ | j
    · simp at hu; subst hu; exact e0
    · simp at hu; subst hu; exact e1
    · simp at hu; subst hu; exact e2
    · simp at hu; subst hu; exact e3
    · simp at hu
  · intro u hu
    simp at hu
    rcases hu with rfl | rfl | rfl | rfl <;> rfl
theorem cut4 (w : World) (y0 y1 y2 y3 : Nat) (t : TypeId) : (w.alloc (.cells #[.int .i64 y0, .int .i64 y1, .int .i64 y2, .int .i64 y3] t)).cell? ⟨w.heap.size, 0, none⟩ = some (.int .i64 y0) ∧ (w.alloc (.cells #[.int .i64 y0, .int .i64 y1, .int .i64 y2, .int .i64 y3] t)).cell? ⟨w.heap.size, 1, none⟩ = some (.int .i64 y1) ∧
    (w.alloc (.cells #[.int .i64 y0, .int .i64 y1, .int .i64 y2, .int .i64 y3] t)).cell? ⟨w.heap.size, 2, none⟩ = some (.int .i64 y2) ∧ (w.alloc (.cells #[.int .i64 y0, .int .i64 y1, .int .i64 y2, .int .i64 y3] t)).cell? ⟨w.heap.size, 3, none⟩ = some (.int .i64 y3) := by simp [go_sem]

/-- What the loops of Tiles keep: n tiles are laid down. -/
structure TI (w wr : World) (g N p q h k n : Nat) : Prop where
  own : wr.ownsRow w.heap.size 45 4 (.slice (some ⟨g, 0, none⟩) n N) n ((List.range n).flatMap (cw p q h k))
  s : Tw wr w.heap.size p q
  b : Below w.heap.size w wr
  z : w.heap.size < g
theorem TI.start {w w1 : World} {p q : Nat} (T : Tw w1 w.heap.size p q) (c : Below w.heap.size w w1) (m N h k : Nat) (hN : N ≤ 65536) (e : TypeId) (he : e = 45) :
    TI w ((w1.drewN m).alloc (.cells (madeCells #[.int .i64 0, .int .i64 0, .int .i64 0, .int .i64 0] (N * 4)) e)) w1.heap.size N p q h k 0 := by
  subst he
  have T' : Tw (w1.drewN m) w.heap.size p q := ⟨T.c0, T.c1⟩
  refine ⟨?_, T'.alloc _, (below_drewN c m).alloc c.size _, T.lt⟩
  exact World.ownsRow_made (base := w.heap.size) (e := 45) (size := 4) (w1.drewN m) (madeCells #[.int .i64 0, .int .i64 0, .int .i64 0, .int .i64 0] (N * 4)) N c.size (by unfold maxLen; omega) (by rw [size_madeCells])
theorem own_below {w w' : World} {base : Nat} {e : TypeId} {sz : Nat} {v : Value} {n : Nat} {cs : List Value} (h : w.ownsRow base e sz v n cs) (hb : Below w.heap.size w w') : w'.ownsRow base e sz v n cs := by
  have hg := h.lt
  refine ⟨h.1, ?_⟩
  rcases h.2 with h0 | ⟨g, cap, cur, rfl, h1, h2, h3⟩
  · exact Or.inl h0
  · exact Or.inr ⟨g, cap, cur, rfl, h1, by rw [hb.block g (hg g rfl).2]; exact h2, h3⟩
theorem TI.call {w wr w1 : World} {g N p q h k n : Nat} (H : TI w wr g N p q h k n) (hb : Below wr.heap.size wr w1) : TI w w1 g N p q h k n :=
  ⟨own_below H.own hb, H.s.below hb, H.b.trans (hb.mono H.b.size), H.z⟩
theorem TI.step {w wr w2 : World} {g N p q h k n : Nat} (H : TI w wr g N p q h k n) (hown : w2.ownsRow w.heap.size 45 4 (.slice (some ⟨g, 0, none⟩) (n + 1) N) (n + 1) ((List.range n).flatMap (cw p q h k) ++ cw p q h k n)) (hg : wr.grownBy w2 (some g)) : TI w w2 g N p q h k (n + 1) := by
  have hz := H.z
  refine ⟨?_, ?_, H.b.grown hg H.b.size (fun j hj => by cases hj; omega), hz⟩
  · rw [List.range_succ, List.flatMap_append]
    simpa using hown
  · have hl := H.s.lt
    have e : ∀ a : Addr, a.block = w.heap.size → w2.cell? a = wr.cell? a := fun a ha => hg.cell_far a (by rw [ha]; exact hl) (by rw [ha]; simp; omega)
    exact ⟨(e _ rfl).trans H.s.c0, (e _ rfl).trans H.s.c1⟩
theorem TI.tk {w wr : World} {g N p q h k : Nat} (H : TI w wr g N p q h k N) : Tk wr g N p q h k := by
  have A := fun n (hn : n < N) => cw_at p q h k (List.range N) n (by simpa using hn)
  have E := fun n (hn : n < N) => (show (List.range N).getD n 0 = n by simp [List.getD, hn])
  refine ⟨fun n hn => ?_, fun n hn => ?_, fun n hn => ?_, fun n hn => ?_⟩
  · rw [World.ownsRow.cellAt H.own _ (by omega), (A n hn).1, E n hn]
  · rw [World.ownsRow.cellAt H.own _ (by omega), (A n hn).2.1, E n hn]
  · rw [World.ownsRow.cellAt H.own _ (by omega), (A n hn).2.2.1, E n hn]
  · rw [World.ownsRow.cellAt H.own _ (by omega), (A n hn).2.2.2, E n hn]

set_option maxHeartbeats 400000 in
theorem tiles_arg (a b h k : Int) (hh : h < 1 ∨ k < 1) (w : World) :
    Calls Tryd.prog 15 #[.agg #[.int .i64 a, .int .i64 b], .int .i64 h, .int .i64 k] w fun e w' => e = .returned (.tuple #[.slice none 0 0, .int .i64 1]) ∧ Below w.heap.size w w' := by
  by_cases h1 : h < 1
  · go_enter Tryd.func15, Tryd.ntmps15
    go_wp2
    go_ret2
    exact ⟨rfl, below1 w _⟩
  · have h2 : k < 1 := by omega
    clear hh
    go_enter Tryd.func15, Tryd.ntmps15
    go_wp2
    go_ret2
    exact ⟨rfl, below1 w _⟩
set_option maxHeartbeats 400000 in
theorem tiles_bad (a b h k : Int) (h1 : ¬ h < 1) (h2 : ¬ k < 1) (hg : ¬ Gd a b) (w : World) (hT : Tab w) :
    Calls Tryd.prog 15 #[.agg #[.int .i64 a, .int .i64 b], .int .i64 h, .int .i64 k] w fun e w' => e = .returned (.tuple #[.slice none 0 0, .int .i64 2]) ∧ Below w.heap.size w w' := by
  have C1 := Lib.hid (fun o => good a b false (by simp [hg]) (w.alloc o) (hT.below (below1 w o)))
  have HB := Lib.hid (below1 w)
  clear hg hT
  go_enter Tryd.func15, Tryd.ntmps15
  go_wp2_with fail
  refine (C1.out _).mono ?_
  rintro e w1 ⟨rfl, d1⟩
  have c1 := (HB.out _).trans (d1.mono (HB.out _).size)
  go_wp2
  go_ret2
  exact ⟨rfl, c1⟩
/-- What Tiles answers. -/
def TOut (N p q h k : Nat) (w : World) (e : Ending) (w' : World) : Prop :=
  ∃ g, e = .returned (.tuple #[.slice (some ⟨g, 0, none⟩) N N, .int .i64 0]) ∧ Tk w' g N p q h k ∧ Below w.heap.size w w'
theorem tout_mk {N p q h k g : Nat} {w w' : World} (H : TI w w' g N p q h k N) : TOut N p q h k w (.returned (.tuple #[.slice (some ⟨g, 0, none⟩) N N, .int .i64 0])) w' := ⟨g, rfl, H.tk, H.b⟩
theorem TI.qs {P : Program} {f : FuncId} {args : Array Value} {w : World} {n : Nat} {v : Value}
    (h : Calls P f args (w.drewN n) fun e w' => e = .returned v ∧ w.drewN n = w') : Calls P f args (w.drewN n) fun e w'' => e = .returned v ∧ ∃ m, w'' = w.drewN m :=
  h.mono fun _ _ ⟨he, hm⟩ => ⟨he, n, hm.symm⟩

set_option maxHeartbeats 1000000 in
set_option maxRecDepth 100000 in
theorem tiles_core (p q h k R C N : Nat) (hp : p ≤ 4294967296) (hq : q ≤ 4294967296) (h1 : 0 < h) (k1 : 0 < k) (h2 : h ≤ 9223372036854775807) (k2 : k ≤ 9223372036854775807) (hN : N = R * C) (hN2 : N ≤ 256) (hR : R ≤ 256) (hC : C ≤ 256)
    (hG : ∀ W, Tab W → Calls Tryd.prog 10 #[.agg #[.int .i64 (p : Nat), .int .i64 (q : Nat)]] W fun e w' => e = .returned (.bool true) ∧ Below W.heap.size W w')
    (hS1 : ∀ W, Calls Tryd.prog 21 #[.int .i64 (p : Nat), .int .i64 (h : Nat)] W fun e w' => e = .returned (.int .i64 (R : Nat)) ∧ W = w')
    (hS2 : ∀ W, Calls Tryd.prog 21 #[.int .i64 (q : Nat), .int .i64 (k : Nat)] W fun e w' => e = .returned (.int .i64 (C : Nat)) ∧ W = w')
    (hTi : ∀ i j, i < R → j < C → row q h k (i * C + j) = i * h ∧ col q k (i * C + j) = j * k ∧ i * h ≤ p ∧ j * k ≤ q)
    (mk : ∀ W : World, (Instr.makeSlice 40 (.int .i64 0) (.int .i64 (N : Int))).run Tryd.prog W = .ok (.slice (some ⟨W.heap.size, 0, none⟩) 0 N) (W.alloc (.cells (madeCells #[.int .i64 0, .int .i64 0, .int .i64 0, .int .i64 0] (N * 4)) 45)))
    (w : World) (hT : Tab w) :
    Calls Tryd.prog 15 #[.agg #[.int .i64 (p : Nat), .int .i64 (q : Nat)], .int .i64 (h : Nat), .int .i64 (k : Nat)] w (TOut N p q h k w) := by
  have HG := Lib.hid hG
  have S1 := Lib.hid hS1
  have S2 := Lib.hid hS2
  have HT := Lib.hid hT
  have HTI := Lib.hid hTi
  have HB := Lib.hid (below1 w)
  have h3 : ¬ (h : Int) < 1 := by omega
  have k3 : ¬ (k : Int) < 1 := by omega
  have n1 : (R : Int) * C = N := by rw [hN]; simp
  have n2 : IntKind.i64.wrap ((R : Int) * C) = N := by rw [n1]; exact IntWalk.i64_in _ (by omega)
  have HN := Lib.hid hN
  clear hG hS1 hS2 hT hTi n1 hN
  go_enter Tryd.func15, Tryd.ntmps15
  go_wp2_with fail
  refine (HG.out _ (HT.out.below (HB.out _))).mono ?_
  rintro e w1 ⟨rfl, d1⟩
  have T := (Tw.fresh w p q 23).below d1
  have t0 := T.c0
  have t1 := T.c1
  have c1 := (HB.out _).trans (d1.mono (HB.out _).size)
  clear d1
  go_wp2_with fail
  go_quiet (first | (go_at_call 21; first | with_reducible exact TI.qs (S1.out _) | with_reducible exact TI.qs (S2.out _)))
  go_wp2_with fail
  have I0 := TI.start T c1 nq N h k (by omega) 45 rfl
  generalize w1.heap.size = g at *
  clear t0 t1 T c1 S1 S2 HG HT HB
  go_loopw [10, 39] (fun v10 v39 wr => ∃ i : Nat, v39 = .int .i64 (i : Int) ∧ v10 = .slice (some ⟨g, 0, none⟩) (i * C) N ∧ i ≤ R ∧ TI w wr g N p q h k (i * C)) (fun _ v39 _ => R - (Lib.intOf v39).toNat)
  case atStart => exact ⟨0, rfl, by rw [Nat.zero_mul], Nat.zero_le _, by rw [Nat.zero_mul]; exact I0⟩
  case round =>
    obtain ⟨i, rfl, rfl, hi, I⟩ := hrel
    clear mk I0
    by_cases hlt : i < R
    · have i1 : (i : Int) < R := by omega
      go_wp2_with fail
      go_loopw [10, 43] (fun v10 v43 wr => ∃ j : Nat, v43 = .int .i64 (j : Int) ∧ v10 = .slice (some ⟨g, 0, none⟩) (i * C + j) N ∧ j ≤ C ∧ TI w wr g N p q h k (i * C + j)) (fun _ v43 _ => C - (Lib.intOf v43).toNat)
      case atStart => exact ⟨0, rfl, rfl, Nat.zero_le _, I⟩
      case round =>
        obtain ⟨j, rfl, rfl, hj, J⟩ := hrel
        clear I
        by_cases hjt : j < C
        · have j1 : (j : Int) < C := by omega
          obtain ⟨e1, e2, e3, e4⟩ := HTI.out i j hlt hjt
          have TL := Lib.hid (fun W => tile p q h k (i * C + j) (by omega) (by omega) hp hq W)
          have nlt : i * C + j < N := by rw [HN.out]; exact Tl.place_lt hlt hjt
          obtain ⟨n, hn⟩ : ∃ n, n = i * C + j := ⟨_, rfl⟩
          obtain ⟨ro, hro⟩ : ∃ r, r = row q h k n := ⟨_, rfl⟩
          obtain ⟨co, hco⟩ : ∃ r, r = col q k n := ⟨_, rfl⟩
          obtain ⟨rr, hrr⟩ : ∃ r, r = rws p q h k n := ⟨_, rfl⟩
          obtain ⟨cc, hcc⟩ : ∃ r, r = cls q k n := ⟨_, rfl⟩
          rw [← hn] at e1 e2 TL nlt J
          rw [← hro, ← hco, ← hrr, ← hcc] at TL
          have x1 : (i : Int) * h = (ro : Int) := by rw [hro, e1]; simp
          have x2 : (j : Int) * k = (co : Int) := by rw [hco, e2]; simp
          have x3 : IntKind.i64.wrap ((i : Int) * h) = ro := by rw [x1]; exact IntWalk.i64_in _ (by omega)
          have x4 : IntKind.i64.wrap ((j : Int) * k) = co := by rw [x2]; exact IntWalk.i64_in _ (by omega)
          have hcw : Hid (cw p q h k n = [.int .i64 (rr : Nat), .int .i64 (cc : Nat), .int .i64 (ro : Nat), .int .i64 (co : Nat)]) := by rw [hro, hco, hrr, hcc]; rfl
          have HN2 := Lib.hid hn
          have t0 := J.s.c0
          have t1 := J.s.c1
          rw [← hn]
          clear e1 e2 e3 e4 x1 x2 hro hco hrr hcc hn
          go_wp2_with fail
          refine (TL.out _).mono ?_
          rintro e w2 ⟨rfl, d2⟩
          have J2 := J.call d2
          clear d2 J TL t0 t1 x3 x4
          go_wp2_with (at_builtin; go_loud (refine append_tile (w2.alloc (.cells #[.int .i64 (rr : Nat), .int .i64 (cc : Nat), .int .i64 (ro : Nat), .int .i64 (co : Nat)] 45)) ?hgd (.tmp 46) (.tmp 57) ?ho w.heap.size g n N _ ?hs (World.ownsRow.alloc J2.own _) w2.heap.size rr cc ro co ?hx (cut4 _ _ _ _ _ _) ?c1 (fun w3 O1 hg => ?_)); (case hgd => rfl); (case ho => rfl); (case hs => rfl); (case hx => rfl))
          case c1 => omega
          have J3 := (J2.call (below1 w2 _)).step (by rw [hcw.out]; exact O1) hg
          clear J2 O1 hg hcw
          go_wp2_with fail
          go_roundw
          case rel => exact ⟨j + 1, rfl, by rw [HN2.out, Nat.add_assoc], by omega, by rw [← Nat.add_assoc, ← HN2.out]; exact J3⟩
          case measure => simp [Lib.intOf]; omega
        · have j1 : ¬ (j : Int) < C := by omega
          obtain rfl : j = C := by omega
          go_wp2_with fail
          go_roundw
          case rel => exact ⟨i + 1, rfl, by rw [Nat.succ_mul], by omega, by rw [Nat.succ_mul]; exact J⟩
          case measure => simp [Lib.intOf]; omega
    · have i1 : ¬ (i : Int) < R := by omega
      obtain rfl : i = R := by omega
      rw [← HN.out]
      rw [← HN.out] at I
      go_wp2
      exact bodyPost_ret (v := .tuple #[.slice (some ⟨g, 0, none⟩) N N, .int .i64 0]) (by simp [results, Tryd.results15, go_sem]) rfl (tout_mk I)
theorem tiles_in (p q h k : Nat) (hg : Gd p q) (hpq : p * q ≤ 256) (h1 : 0 < h) (k1 : 0 < k) (h2 : h ≤ 9223372036854775807) (k2 : k ≤ 9223372036854775807) (w : World) (hT : Tab w) :
    Calls Tryd.prog 15 #[.agg #[.int .i64 (p : Nat), .int .i64 (q : Nat)], .int .i64 (h : Nat), .int .i64 (k : Nat)] w (TOut (up p h * up q k) p q h k w) := by
  obtain ⟨g1, g2, g3, g4, _⟩ := hg.bound
  have p0 : 0 < p := by omega
  have q0 : 0 < q := by omega
  have p1 : p ≤ 256 := Nat.le_trans (Nat.le_mul_of_pos_right p q0) hpq
  have q1 : q ≤ 256 := Nat.le_trans (Nat.le_mul_of_pos_left q p0) hpq
  have r1 := up_le p h p0
  have r2 := up_le q k q0
  have r3 : up p h * up q k ≤ 256 := Nat.le_trans (Nat.mul_le_mul r1 r2) hpq
  refine tiles_core p q h k _ _ _ (by omega) (by omega) h1 k1 h2 k2 rfl r3 (by omega) (by omega) (fun W hW => good p q true (by simp [hg]) W hW) (fun W => steps p h h1 p0 (by omega) h2 W) (fun W => steps q k k1 q0 (by omega) k2 W) ?_ (make_tiles _ _ rfl (by omega)) w hT
  intro i j hi hj
  have a1 := lt_of_up p0 hi
  have a2 := lt_of_up q0 hj
  unfold row col
  rw [place_div hj, place_mod hj]
  exact ⟨rfl, rfl, by omega, by omega⟩
end Sh
end Go.Proofs.YtfmjmopmlimnnaaDoor
