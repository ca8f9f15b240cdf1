/- Contracts of package kern2: Plain, Run. / Contracts of package kern2: Run; copy of one row over another. / Contracts of slices.Clone of words, of package kern2's Transform, and of the laws' awake. / What the laws of layer 9 share: the capacity of a row that is nil; a row that was copied by append. -/
import Derived.Test.YtnnieiedkjekpaaDoorKernC
import Derived.Test.YtnnieiedkjekpaaDoorRevP
import Derived.Laws.CopyOwn
import Derived.WalkSpells
set_option linter.unusedVariables false
namespace Go.Proofs.YtnnieiedkjekpaaDoor
open Go.RowKit Go.Lib Go.Sort
namespace Kn
open Nm Ww Tn Pl Td

/-- A row of which the first i words are g's. -/
def mx (f g : Nat → Nat) (i j : Nat) : Nat := if j < i then g j else f j
theorem mx_zero (f g : Nat → Nat) : mx f g 0 = f := by
  funext j
  exact if_neg (Nat.not_lt_zero j)
theorem mx_upd (f g : Nat → Nat) (i : Nat) : upd (mx f g i) i (g i) = mx f g (i + 1) := by
  funext j
  by_cases e : j = i
  · subst e; rw [upd_same]; exact (if_pos (Nat.lt_succ_self j)).symm
  · rw [upd_other _ _ _ e]
    unfold mx
    by_cases h : j < i
    · rw [if_pos h, if_pos (by omega)]
    · rw [if_neg h, if_neg (by omega)]
theorem mx_all (f g : Nat → Nat) (n j : Nat) (h : j < n) : mx f g n j = g j := if_pos h
/-- A row in another block than the one that is written. -/
theorem but_ws {b g : Nat} {w w1 : World} {ys : List Nat} (h : But b w w1) (hne : g ≠ b) (R : Ws w w.heap.size (some ⟨g, 0, none⟩) ys) : Ws w1 w1.heap.size (some ⟨g, 0, none⟩) ys := by
  refine ⟨fun i hi => ?_, R.lt⟩
  obtain ⟨b2, off, e, hb, c⟩ := R.at_ i hi
  injection e with e
  injection e with e1 e2
  subst e1 e2
  exact ⟨_, _, rfl, Nat.lt_of_lt_of_le hb h.bel.size, by rw [h.cell _ hne hb]; exact c⟩

theorem turn_rg (A : Option Addr) (ca n k : Nat) (f : Nat → Nat) (hn : n = 2 ^ k) (hk : k ≤ 32) (w : World) (hT : Ft.Tab w) (R : Ws w w.heap.size A (rg f n)) :
    Calls Tryd.prog 74 #[.slice A n ca] w fun e w' => ∃ g, e = .returned (.tuple #[.slice (some ⟨g, 0, none⟩) n n, .int .i64 0]) ∧ w.heap.size ≤ g ∧ Ws w' w'.heap.size (some ⟨g, 0, none⟩) (rg (fun i => f (Rn.tn k 1 i)) n) ∧ Below w.heap.size w w' := by
  have c := Rv.turn_new A ca k (rg f n) (by rw [rg_len, hn]) hk w hT R
  have e : Rv.tl k 1 (rg f n) = rg (fun i => f (Rn.tn k 1 i)) n := by
    unfold Rv.tl
    rw [rg_len]
    exact rg_congr n fun i hi => rg_at _ _ _ (by rw [hn]; exact Rn.tn_lt k 1 i (Nat.mod_one k))
  rw [e, rg_len] at c
  refine c.mono fun e w' ⟨g, h1, h2⟩ => ⟨g, by rw [rg_len] at h1; exact h1, h2⟩

set_option maxHeartbeats 400000 in
theorem plain_len {w : World} {p : Nat} {v1 v2 v3 : Value} (k : Nat) (hk : k ≤ 20) (C : Ce w p (.int .i64 (k : Int)) v1 v2 v3) (A : Option Addr) (n ca : Nat) (d : Int) (hn : n ≠ 2 ^ k) :
    Calls Tryd.prog 72 #[.pointer (some ⟨p, 0, none⟩), .slice A n ca, .int .i64 d] w fun e w' => e = .returned (.int .i64 4) ∧ w = w' := by
  have K := Lib.hid (kOf C)
  have s1 := Bt.pow_i64 k (by omega)
  obtain ⟨N, hN⟩ : ∃ N, N = 2 ^ k := ⟨_, rfl⟩
  rw [← hN] at s1 hn
  have ne : ((n : Int) != (N : Int)) = true := by simp; omega
  clear hN C hn
  go_enter Tryd.func72, Tryd.ntmps72
  go_wp2_with fail
  refine K.out.mono ?_
  rintro e w1 ⟨rfl, rfl⟩
  go_wp2
  go_ret
  exact ⟨by simp, rfl⟩
set_option maxHeartbeats 400000 in
theorem plain_kind {w : World} {p : Nat} {v1 v2 v3 : Value} (k : Nat) (hk : k ≤ 20) (C : Ce w p (.int .i64 (k : Int)) v1 v2 v3) (A : Option Addr) (n ca : Nat) (d : Int) (hn : n = 2 ^ k) (h0 : d ≠ 0) (h1 : d ≠ 1) :
    Calls Tryd.prog 72 #[.pointer (some ⟨p, 0, none⟩), .slice A n ca, .int .i64 d] w fun e w' => e = .returned (.int .i64 18) ∧ w = w' := by
  have K := Lib.hid (kOf C)
  have PW := Lib.hid (powers_kind (some ⟨p, 0, none⟩) d h0 h1 w)
  have s1 := Bt.pow_i64 k (by omega)
  rw [← hn] at s1
  clear C hn h0 h1
  go_enter Tryd.func72, Tryd.ntmps72
  go_wp2_with fail
  refine K.out.mono ?_
  rintro e w1 ⟨rfl, rfl⟩
  go_wp2_with fail
  refine PW.out.mono ?_
  rintro e w1 ⟨rfl, rfl⟩
  go_wp2
  go_ret
  exact ⟨by simp, rfl⟩

set_option maxHeartbeats 1000000 in
set_option maxRecDepth 100000 in
theorem plain_core {w : World} {p : Nat} {v1 v2 v3 : Value} (k : Nat) (hk : k ≤ 20) (C : Ce w p (.int .i64 (k : Int)) v1 v2 v3) (b n ca m : Nat) (T : Option Addr) (d : Int) (hn : n = 2 ^ k) (hl : n ≤ 1048576) (f x G H : Nat → Nat) (ps : List Nat)
    (hP : Calls Tryd.prog 79 #[.pointer (some ⟨p, 0, none⟩), .int .i64 d] w fun e w' => e = .returned (.tuple #[.slice T m m, .int .i64 0]) ∧ w = w')
    (hTU : Calls Tryd.prog 74 #[.slice (some ⟨b, 0, none⟩) n ca] w fun e w' => ∃ g, e = .returned (.tuple #[.slice (some ⟨g, 0, none⟩) n n, .int .i64 0]) ∧ w.heap.size ≤ g ∧ Ws w' w'.heap.size (some ⟨g, 0, none⟩) (rg x n) ∧ Below w.heap.size w w')
    (hJ : ∀ W, JR b n G W W → Wo W b T ps → Calls Tryd.prog 80 #[.slice (some ⟨b, 0, none⟩) n ca, .slice T m m] W fun e w' => e = .returned (.tuple #[]) ∧ JR b n H W w')
    (hO : ∀ i, x i < 18446744073709551616 → ∀ W, Calls Tryd.prog 50 #[.int .u64 (x i : Nat)] W fun e w' => e = .returned (.int .u64 (G i : Nat)) ∧ W = w')
    (J : JR b n f w w) (R : Wo w b T ps) :
    Calls Tryd.prog 72 #[.pointer (some ⟨p, 0, none⟩), .slice (some ⟨b, 0, none⟩) n ca, .int .i64 d] w fun e w' => e = .returned (.int .i64 0) ∧ JR b n H w w' := by
  have K := Lib.hid (kOf C)
  have PW := Lib.hid hP
  have TU := Lib.hid hTU
  have JH := Lib.hid hJ
  have OF := Lib.hid hO
  have s1 := Bt.pow_i64 k (by omega)
  rw [← hn] at s1
  have n1 : (n : Int) ≤ 1048576 := by omega
  clear C hn hP hTU hJ hO
  go_enter Tryd.func72, Tryd.ntmps72
  go_wp2_with fail
  refine K.out.mono ?_
  rintro e w1 ⟨rfl, rfl⟩
  go_wp2_with fail
  refine PW.out.mono ?_
  rintro e w1 ⟨rfl, rfl⟩
  go_wp2_with fail
  refine TU.out.mono ?_
  rintro e w2 ⟨g, rfl, hg, Y, d2⟩
  have J2 := J.call d2
  have gb : g ≠ b := by have := J.s; omega
  have ST := Lib.hid (show Ta b n (mx f G 0) w2 w2 by rw [mx_zero]; exact ⟨J2.k, But.refl _ _⟩)
  have B2 := J2.o
  have R2 := R.but B2
  have s2 := J2.s
  clear K PW TU J J2 d2 R
  go_wp2_with fail
  go_loopw [39] (fun v39 wr => ∃ i : Nat, v39 = .int .i64 (i : Int) ∧ i ≤ n ∧ Ta b n (mx f G i) w2 wr) (fun v39 _ => n - (Lib.intOf v39).toNat)
  case atStart => exact ⟨0, rfl, Nat.zero_le _, ST.out⟩
  case round =>
    obtain ⟨i, rfl, hi, T1⟩ := hrel
    clear ST
    by_cases hlt : i < n
    · have i1 : (i : Int) < n := by omega
      have Y1 := but_ws T1.o gb Y
      obtain ⟨b3, o3, e3, hB3, c3⟩ := Y1.at_ i (by rw [rg_len]; exact hlt)
      injection e3 with e3
      injection e3 with e4 e5
      subst e4 e5
      rw [rg_at _ _ _ hlt, Nat.zero_add] at c3
      have lt3 := Y1.lt i (by rw [rg_len]; exact hlt)
      rw [rg_at _ _ _ hlt] at lt3
      have O := Lib.hid (OF.out i lt3)
      obtain ⟨k0, k1⟩ := T1.at_ i hlt
      have PT := Lib.hid (show Ta b n (mx f G (i + 1)) w2 (wr.setCell ⟨b, i, none⟩ (.int .u64 (G i : Nat))) by rw [← mx_upd]; exact T1.put i (G i) hlt)
      clear Y1 T1 lt3
      generalize mx f G i i = v0 at *
      generalize G i = v1' at *
      generalize x i = v2' at *
      go_wp2_with fail
      refine (O.out _).mono ?_
      rintro e w3 ⟨rfl, rfl⟩
      go_wp2_with fail
      go_roundw
      case rel => exact ⟨i + 1, rfl, by omega, PT.out⟩
      case measure => simp [Lib.intOf]; omega
    · have i1 : ¬ (i : Int) < n := by omega
      obtain rfl : i = n := by omega
      have J3 : JR b i G w2 wr := ⟨(T1.congr (g := G) fun j hj => mx_all f G i j hj).k, T1.o, Nat.lt_of_lt_of_le s2 T1.o.bel.size⟩
      have R3 := R2.but T1.o
      have J4 := Lib.hid (JH.out _ J3.self R3)
      have B3 := But.trans B2 J3.o
      clear T1 JH OF
      go_wp2_with fail
      refine J4.out.mono ?_
      rintro e w4 ⟨rfl, J5⟩
      have J6 := Lib.hid (J5.trans B3)
      clear J5
      go_wp2
      go_ret
      exact ⟨by simp, J6.out⟩

/-- The row's plain transform, in its place. -/
theorem plain_ka {w : World} {p bf bi : Nat} (k d : Nat) (hk : k ≤ 20) (hd : d ≤ 1) (b n ca : Nat) (hn : n = 2 ^ k) (hca : n ≤ ca) (f : Nat → Nat) (hf : ∀ i, i < n → f i < 18446744073709551616) (hT : Ft.Tab w) (Z : Ka w b k p bf bi) (J : JR b n f w w) :
    Calls Tryd.prog 72 #[.pointer (some ⟨p, 0, none⟩), .slice (some ⟨b, 0, none⟩) n ca, .int .i64 (d : Int)] w fun e w' => e = .returned (.int .i64 0) ∧ JR b n (tf f n (rd k d)) w w' := by
  have hl : n ≤ 1048576 := by rw [hn]; exact Nat.le_trans (Nat.pow_le_pow_right (by decide) hk) (show 2 ^ 20 ≤ 1048576 by decide)
  have R : Ws w w.heap.size (some ⟨b, 0, none⟩) (rg f n) := J.k.ws hf J.s
  have TU := turn_rg (some ⟨b, 0, none⟩) ca n k f hn (by omega) w hT R
  have OF := fun i (hi : f (Rn.tn k 1 i) < 18446744073709551616) W => Gd.of (f (Rn.tn k 1 i)) hi W
  have hd2 : d = 0 ∨ d = 1 := by omega
  rcases hd2 with rfl | rfl
  · exact plain_core k hk Z.c b n ca _ _ 0 hn hl f _ (fun i => f (Rn.tn k 1 i) % 18446744069414584321) _ _ (powers_fwd Z.c) TU (fun W J R => joinHalves b n ca k 0 _ _ _ hk hn rfl hca f W J R) OF J Z.rf
  · exact plain_core k hk Z.c b n ca _ _ 1 hn hl f _ (fun i => f (Rn.tn k 1 i) % 18446744069414584321) _ _ (powers_inv Z.c) TU (fun W J R => joinHalves b n ca k 1 _ _ _ hk hn rfl hca f W J R) OF J Z.ri
theorem plain {w : World} {p bf bi : Nat} (k d : Nat) (hk : k ≤ 20) (hd : d ≤ 1) (b n ca : Nat) (hn : n = 2 ^ k) (hca : n ≤ ca) (f : Nat → Nat) (hf : ∀ i, i < n → f i < 18446744073709551616) (hT : Ft.Tab w) (Z : Kr w b k p bf bi) (J : JR b n f w w) :
    Calls Tryd.prog 72 #[.pointer (some ⟨p, 0, none⟩), .slice (some ⟨b, 0, none⟩) n ca, .int .i64 (d : Int)] w fun e w' => e = .returned (.int .i64 0) ∧ JR b n (tf f n (rd k d)) w w' :=
  plain_ka k d hk hd b n ca hn hca f hf hT (Z.aside (Nat.le_of_lt J.s)) J
end Kn
end Go.Proofs.YtnnieiedkjekpaaDoor
set_option linter.unusedVariables false
namespace Go.Proofs.YtnnieiedkjekpaaDoor
open Go.RowKit Go.Lib Go.Sort
namespace Kn
open Nm Ww Tn Pl Td

theorem below_setCells (b : Nat) : ∀ (vs : List Value) (o : Nat) (w : World), Below b w (w.setCells b o vs) ∧ (w.setCells b o vs).heap.size = w.heap.size
  | [], _, w => ⟨Below.refl _ _, rfl⟩
  | v :: r, o, w => by
    have h := below_setCells b r (o + 1) (w.setCell ⟨b, o, none⟩ v)
    exact ⟨((Below.refl b w).setCell (p := ⟨b, o, none⟩) (Nat.le_refl b) v).trans h.1, by rw [World.setCells, h.2]; simp [World.setCell]⟩
theorem but_setCells (b : Nat) : ∀ (vs : List Value) (o : Nat) (w : World), But b w (w.setCells b o vs)
  | [], _, w => But.refl _ _
  | v :: r, o, w => But.trans ((But.refl b w).put o v) (but_setCells b r (o + 1) (w.setCell ⟨b, o, none⟩ v))
theorem cells_at (g : Nat → Nat) (n j : Nat) (h : j < ((List.range n).map fun i => cw (g i)).length) : ((List.range n).map fun i => cw (g i))[j] = .int .u64 (g j : Nat) := by simp [cw]
/-- copy(dst, src) of two rows of one length. -/
theorem copy_cells (w : World) {ops : Array Oper} {rest : List Oper} {o : Oper} {a : Act} {Q : Exit → Act → World → Prop} (hgd : o.guard = none) (d s : Operand)
    (ho : o.op = .call { callee := .builtin .copy, args := #[d, s], argTypes := #[22, 22] }) (b n ca b2 c2 : Nat) (f g : Nat → Nat) (hd : a.eval d = .slice (some ⟨b, 0, none⟩) n ca) (hs : a.eval s = .slice (some ⟨b2, 0, none⟩) n c2)
    (J : JR b n f w w) (K : ∀ i, i < n → w.cell? ⟨b2, 0 + i, none⟩ = some (.int .u64 (g i : Nat))) (h : ∀ w', JR b n g w w' → wpList Tryd.prog ops Q rest (a.put o.dst (.int .i64 (n : Int))) w') : wpList Tryd.prog ops Q (o :: rest) a w := by
  refine wpList_plain hgd fun KK hK => ?_
  have hl : ((List.range n).map fun i => cw (g i)).length = n := by simp
  have hU := infoU
  have hsz : (Tryd.prog.info? 32).map (·.size) = some 1 := by
    cases e : Tryd.prog.info? 32 with
    | none => rw [e] at hU; cases hU
    | some i =>
      rw [e] at hU
      simp only [Option.map_some, Option.some.injEq, Prod.mk.injEq] at hU ⊢
      exact hU.2.1
  have hrun := run_copy_cells (P := Tryd.prog) w 22 22 o.type 32 b 0 n ca ⟨b2, 0, none⟩ n c2 ((List.range n).map fun i => cw (g i)) Tryd.underlying22 hsz (by rw [hl]; exact (Nat.min_self n).symm)
    (fun j v hv => by
      obtain ⟨hj, e⟩ := List.getElem?_eq_some_iff.1 hv
      rw [add_none, ← e, cells_at g n j hj]
      exact K j (by rw [hl] at hj; exact hj))
    (fun j hj => by rw [J.k.c j (by rw [hl] at hj; exact hj)]; rfl)
    (fun j hj => J.k.z j (by rw [hl] at hj; exact hj))
    (fun v hv => by
      simp at hv
      obtain ⟨i, _, rfl⟩ := hv
      rfl)
  rw [hl] at hrun
  have hB := below_setCells b ((List.range n).map fun i => cw (g i)) 0 w
  have JJ : JR b n g w (w.setCells b 0 ((List.range n).map fun i => cw (g i))) := ⟨⟨fun i hi => by
      rw [World.cell?_setCells_in b _ 0 w (fun j hj => by rw [J.k.c j (by rw [hl] at hj; exact hj)]; rfl) i (by rw [hl]; exact hi), cells_at], fun i hi => by rw [World.frozen?_setCells]; exact J.k.z i hi⟩, but_setCells b _ 0 w, by rw [hB.2]; exact J.s⟩
  have h2 := h _ JJ
  unfold Oper.wp
  simp [execOp, ho, resolve, invoke, builtin, hd, hs, hrun, Result.andThen]
  exact hK _ _ h2
/-- .. of two blocks of one's own. -/
theorem copy_all (w : World) {ops : Array Oper} {rest : List Oper} {o : Oper} {a : Act} {Q : Exit → Act → World → Prop} (hgd : o.guard = none) (d s : Operand)
    (ho : o.op = .call { callee := .builtin .copy, args := #[d, s], argTypes := #[22, 22] }) (b n ca b2 c2 : Nat) (f g : Nat → Nat) (hd : a.eval d = .slice (some ⟨b, 0, none⟩) n ca) (hs : a.eval s = .slice (some ⟨b2, 0, none⟩) n c2)
    (J : JR b n f w w) (K : Wk w b2 0 n g) (h : ∀ w', JR b n g w w' → wpList Tryd.prog ops Q rest (a.put o.dst (.int .i64 (n : Int))) w') : wpList Tryd.prog ops Q (o :: rest) a w :=
  copy_cells w hgd d s ho b n ca b2 c2 f g hd hs J K.c h

end Kn
end Go.Proofs.YtnnieiedkjekpaaDoor
set_option linter.unusedVariables false
namespace Go.Proofs.YtnnieiedkjekpaaDoor
open Go.RowKit Go.Lib Go.Sort
namespace Kn
open Nm Ww Tn Pl Td

/-- A row in a new block, with a capacity. -/
def ClN (xs : List Nat) (n : Nat) (w : World) (e : Ending) (w' : World) : Prop :=
  ∃ b ca, e = .returned (.slice (some ⟨b, 0, none⟩) n ca) ∧ n ≤ ca ∧ w.heap.size ≤ b ∧ b < w'.heap.size ∧ Wk w' b 0 n (Pn.pl xs) ∧ Below w.heap.size w w'
theorem clN_of {xs : List Nat} {n : Nat} (hn : xs.length = n) (h0 : 0 < n) {w w' : World} {v : Value} (O : Ow w' w.heap.size v xs) (hb : Below w.heap.size w w') : ClN xs n w (.returned v) w' := by
  subst hn
  obtain ⟨g, cap, rfl, h1, h2, h3, K⟩ := O.wk h0
  exact ⟨g, cap, rfl, h3, h1, h2, K, hb⟩

/-- A row in a new block and OK. -/
def RwF (g : Nat → Nat) (n : Nat) (w : World) (e : Ending) (w' : World) : Prop :=
  ∃ b ca, e = .returned (.tuple #[.slice (some ⟨b, 0, none⟩) n ca, .int .i64 0]) ∧ n ≤ ca ∧ w.heap.size ≤ b ∧ b < w'.heap.size ∧ Wk w' b 0 n g ∧ Below w.heap.size w w'

theorem aw_four (k j : Nat) (hk : 2 ^ k = 4) : ft k 0 (Pn.pl [1, 0, 0, 0]) j = 1 := by
  rw [ft_zero, hk]
  generalize Nt.rt k = r
  show ((((0 + 1 * r ^ (0 * j)) + 0 * r ^ (1 * j)) + 0 * r ^ (2 * j)) + 0 * r ^ (3 * j)) % 18446744069414584321 = 1
  rw [Nat.zero_mul, Nat.zero_mul, Nat.zero_mul, Nat.zero_mul, Nat.pow_zero]
theorem ws_four (w : World) (t : TypeId) : Ws (w.alloc (.cells #[.int .u64 1, .int .u64 0, .int .u64 0, .int .u64 0] t)) (w.alloc (.cells #[.int .u64 1, .int .u64 0, .int .u64 0, .int .u64 0] t)).heap.size (some ⟨w.heap.size, 0, none⟩) [1, 0, 0, 0] := by
  refine ⟨fun i hi => ⟨w.heap.size, 0, rfl, by simp, ?_⟩, fun i hi => ?_⟩
  · rcases i with _ | _ | _ | _ | i
    · simp [go_sem]
    · simp [go_sem]
    · simp [go_sem]
    · simp [go_sem]
    · exact absurd hi (by simp)
  · rcases i with _ | _ | _ | _ | i
    · exact (by decide : (1 : Nat) < 18446744073709551616)
    · exact (by decide : (0 : Nat) < 18446744073709551616)
    · exact (by decide : (0 : Nat) < 18446744073709551616)
    · exact (by decide : (0 : Nat) < 18446744073709551616)
    · exact absurd hi (by simp)
end Kn
end Go.Proofs.YtnnieiedkjekpaaDoor
set_option linter.unusedVariables false
namespace Go.Proofs.YtnnieiedkjekpaaDoor
open Go.RowKit Go.Lib Go.Sort
namespace Kn
open Nm Ww Tn Pl Td
theorem nil_cap {H : Type} {enc : TypeId × Value → H} {fuel : Nat} {A : Option Addr} {n cap : Nat} {y : DataW H × List MemPlace} {W : World} (hf : DataW.trod enc Tryd.prog W 0 (fun _ => true) true fuel 22 [.slice A n cap] = some y) : A = none → cap = 0 := by
  intro hA
  rcases Deep.open_slice1 Tryd.underlying22 cellsU hf with ⟨hcs, _⟩ | ⟨a, len, cap', m, k, V, D, Pl, hcs, _⟩
  · have : A = none ∧ n = 0 ∧ cap = 0 := by simpa using hcs
    exact this.2.2
  · have : A = some a ∧ n = len ∧ cap = cap' := by simpa using hcs
    rw [hA] at this
    cases this.1
/-- A copied row: a new slice of the same words. -/
theorem copied {w w1 w' : World} {v : Value} {xs : List Nat} {n : Nat} (hx : xs.length = n) (hl : ∀ i, i < xs.length → xs.getD i 0 < 18446744073709551616) (O1 : Ow w1 w.heap.size (.slice (some ⟨w.heap.size, 0, none⟩) 0 0) []) (b1 : Below w.heap.size w w1) (O : Ow w' w.heap.size v ([] ++ xs)) (hg : w1.grownBy w' (Value.slice (some ⟨w.heap.size, 0, none⟩) 0 0).ownBlock) :
    ∃ A ca, v = .slice A n ca ∧ Ws w' w'.heap.size A xs ∧ Below w.heap.size w w' := by
  rw [List.nil_append] at O
  have b2 := O1.grow b1 hg b1.size
  obtain ⟨A, ca, rfl, R⟩ := O.ws hl
  exact ⟨A, ca, by rw [hx], R, b2⟩
/-- .. that may be written, if it has words. -/
theorem copied_wk {w w1 w' : World} {v : Value} {xs : List Nat} {n : Nat} (hx : xs.length = n) (h0 : 0 < n) (O1 : Ow w1 w.heap.size (.slice (some ⟨w.heap.size, 0, none⟩) 0 0) []) (b1 : Below w.heap.size w w1) (O : Ow w' w.heap.size v ([] ++ xs)) (hg : w1.grownBy w' (Value.slice (some ⟨w.heap.size, 0, none⟩) 0 0).ownBlock) :
    ∃ b ca, v = .slice (some ⟨b, 0, none⟩) n ca ∧ n ≤ ca ∧ w.heap.size ≤ b ∧ JR b n (Pn.pl xs) w' w' ∧ Below w.heap.size w w' := by
  rw [List.nil_append] at O
  have b2 := O1.grow b1 hg b1.size
  subst hx
  obtain ⟨b, ca, rfl, h1, h2, h3, K⟩ := O.wk h0
  exact ⟨b, ca, rfl, h3, h1, ⟨K, But.refl _ _, h2⟩, b2⟩
/-- The inverse one of the forward one. -/
theorem back_eq (k d n d2 : Nat) (hk : k ≤ 32) (hd : d ≤ 1) (hd2 : d2 = 1 - d) (hn : n = 2 ^ k) (x : Nat → Nat) (i : Nat) (hi : i < n) : ft k d2 (Pn.pl (rg (ft k d x) n)) i = x i % 18446744069414584321 := by
  rw [hd2, ft_congr (y := ft k d x) (fun j hj => pl_rg _ _ _ (by omega)), ft_ft k d hk hd x i (by omega)]
end Kn
end Go.Proofs.YtnnieiedkjekpaaDoor
