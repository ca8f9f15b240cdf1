/- Contracts of package kern2: Run; copy of one row over another. -/
import Derived.Test.YtfkhnfaammfbeaaDoorKernD
set_option linter.unusedVariables false
namespace Go.Proofs.YtfkhnfaammfbeaaDoor
open Go.RowKit Go.Lib Go.Sort
namespace Kn
open Nm Ww Tn Pl Td

theorem below_setCells (b : Nat) : ∀ (vs : List Value) (o : Nat) (w : World), Below b w (w.setCells b o vs) ∧ (w.setCells b o vs).heap.size = w.heap.size
  | [], _, w => ⟨Below.refl _ _, rfl⟩
  | v :: r, o, w => by
    have h := below_setCells b r (o + 1) (w.setCell ⟨b, o, none⟩ v)
    exact ⟨((Below.refl b w).setCell (p := ⟨b, o, none⟩) (Nat.le_refl b) v).trans h.1, by rw [World.setCells, h.2]; simp [World.setCell]⟩
theorem but_setCells (b : Nat) : ∀ (vs : List Value) (o : Nat) (w : World), But b w (w.setCells b o vs)
  | [], _, w => But.refl _ _
  | v :: r, o, w => But.trans ((But.refl b w).put o v) (but_setCells b r (o + 1) (w.setCell ⟨b, o, none⟩ v))
theorem cells_at (g : Nat → Nat) (n j : Nat) (h : j < ((List.range n).map fun i => cw (g i)).length) : ((List.range n).map fun i => cw (g i))[j] = .int .u64 (g j : Nat) := by simp [cw]
/-- copy(dst, src) of two rows of one length. -/
theorem copy_cells (w : World) {ops : Array Oper} {rest : List Oper} {o : Oper} {a : Act} {Q : Exit → Act → World → Prop} (hgd : o.guard = none) (d s : Operand)
    (ho : o.op = .call { callee := .builtin .copy, args := #[d, s], argTypes := #[22, 22] }) (b n ca b2 c2 : Nat) (f g : Nat → Nat) (hd : a.eval d = .slice (some ⟨b, 0, none⟩) n ca) (hs : a.eval s = .slice (some ⟨b2, 0, none⟩) n c2)
    (J : JR b n f w w) (K : ∀ i, i < n → w.cell? ⟨b2, 0 + i, none⟩ = some (.int .u64 (g i : Nat))) (h : ∀ w', JR b n g w w' → wpList Tryd.prog ops Q rest (a.put o.dst (.int .i64 (n : Int))) w') : wpList Tryd.prog ops Q (o :: rest) a w := by
  refine wpList_plain hgd fun KK hK => ?_
  have hl : ((List.range n).map fun i => cw (g i)).length = n := by simp
  have hU := infoU
  have hsz : (Tryd.prog.info? 28).map (·.size) = some 1 := by
    cases e : Tryd.prog.info? 28 with
    | none => rw [e] at hU; cases hU
    | some i =>
      rw [e] at hU
      simp only [Option.map_some, Option.some.injEq, Prod.mk.injEq] at hU ⊢
      exact hU.2.1
  have hrun := run_copy_cells (P := Tryd.prog) w 22 22 o.type 28 b 0 n ca ⟨b2, 0, none⟩ n c2 ((List.range n).map fun i => cw (g i)) Tryd.underlying22 hsz (by rw [hl]; exact (Nat.min_self n).symm)
    (fun j v hv => by
      obtain ⟨hj, e⟩ := List.getElem?_eq_some_iff.1 hv
      rw [add_none, ← e, cells_at g n j hj]
      exact K j (by rw [hl] at hj; exact hj))
    (fun j hj => by rw [J.k.c j (by rw [hl] at hj; exact hj)]; rfl)
    (fun j hj => J.k.z j (by rw [hl] at hj; exact hj))
    (fun v hv => by
      simp at hv
      obtain ⟨i, _, rfl⟩ := hv
      rfl)
  rw [hl] at hrun
  have hB := below_setCells b ((List.range n).map fun i => cw (g i)) 0 w
  have JJ : JR b n g w (w.setCells b 0 ((List.range n).map fun i => cw (g i))) := ⟨⟨fun i hi => by
      rw [World.cell?_setCells_in b _ 0 w (fun j hj => by rw [J.k.c j (by rw [hl] at hj; exact hj)]; rfl) i (by rw [hl]; exact hi), cells_at], fun i hi => by rw [World.frozen?_setCells]; exact J.k.z i hi⟩, but_setCells b _ 0 w, by rw [hB.2]; exact J.s⟩
  have h2 := h _ JJ
  unfold Oper.wp
  simp [execOp, ho, resolve, invoke, builtin, hd, hs, hrun, Result.andThen]
  exact hK _ _ h2
/-- .. of two blocks of one's own. -/
theorem copy_all (w : World) {ops : Array Oper} {rest : List Oper} {o : Oper} {a : Act} {Q : Exit → Act → World → Prop} (hgd : o.guard = none) (d s : Operand)
    (ho : o.op = .call { callee := .builtin .copy, args := #[d, s], argTypes := #[22, 22] }) (b n ca b2 c2 : Nat) (f g : Nat → Nat) (hd : a.eval d = .slice (some ⟨b, 0, none⟩) n ca) (hs : a.eval s = .slice (some ⟨b2, 0, none⟩) n c2)
    (J : JR b n f w w) (K : Wk w b2 0 n g) (h : ∀ w', JR b n g w w' → wpList Tryd.prog ops Q rest (a.put o.dst (.int .i64 (n : Int))) w') : wpList Tryd.prog ops Q (o :: rest) a w :=
  copy_cells w hgd d s ho b n ca b2 c2 f g hd hs J K.c h

set_option maxHeartbeats 400000 in
theorem run_bad (p A : Option Addr) (n ca : Nat) (d e : Int) (he : e ≠ 0) (w : World)
    (hP : Calls Tryd.prog 23 #[.pointer p, .slice A n ca, .int .i64 d] w fun e1 w' => e1 = .returned (.int .i64 e) ∧ w = w') :
    Calls Tryd.prog 15 #[.pointer p, .slice A n ca, .int .i64 d] w fun e1 w' => e1 = .returned (.int .i64 e) ∧ w = w' := by
  have C := Lib.hid hP
  have e1 : (e == 0) = false := by simp [he]
  clear hP he
  go_enter Tryd.func15, Tryd.ntmps15
  go_wp2_with fail
  refine C.out.mono ?_
  rintro e2 w1 ⟨rfl, rfl⟩
  go_wp2
  go_ret
  exact ⟨by simp, rfl⟩
set_option maxHeartbeats 400000 in
theorem run_fwd (p : Option Addr) (b n ca : Nat) (H : Nat → Nat) (w : World)
    (hP : Calls Tryd.prog 23 #[.pointer p, .slice (some ⟨b, 0, none⟩) n ca, .int .i64 0] w fun e1 w' => e1 = .returned (.int .i64 0) ∧ JR b n H w w') :
    Calls Tryd.prog 15 #[.pointer p, .slice (some ⟨b, 0, none⟩) n ca, .int .i64 0] w fun e1 w' => e1 = .returned (.int .i64 0) ∧ JR b n H w w' := by
  have C := Lib.hid hP
  clear hP
  go_enter Tryd.func15, Tryd.ntmps15
  go_wp2_with fail
  refine C.out.mono ?_
  rintro e2 w1 ⟨rfl, J⟩
  have J1 := Lib.hid J
  clear J
  go_wp2
  go_ret
  exact ⟨by simp, J1.out⟩
set_option maxHeartbeats 1000000 in
theorem run_inv (p b n ca sh : Nat) (H G : Nat → Nat) (w : World) {v0 v1 v2 : Value} (C0 : Ce w p v0 v1 v2 (.int .u64 (sh : Nat))) (hp : p ≠ b)
    (hP : Calls Tryd.prog 23 #[.pointer (some ⟨p, 0, none⟩), .slice (some ⟨b, 0, none⟩) n ca, .int .i64 1] w fun e1 w' => e1 = .returned (.int .i64 0) ∧ JR b n H w w')
    (hS : ∀ W, Wk W b 0 n H → b < W.heap.size → Calls Tryd.prog 21 #[.slice (some ⟨b, 0, none⟩) n ca, .int .u64 (sh : Nat)] W (RwN G n W)) :
    Calls Tryd.prog 15 #[.pointer (some ⟨p, 0, none⟩), .slice (some ⟨b, 0, none⟩) n ca, .int .i64 1] w fun e1 w' => e1 = .returned (.int .i64 0) ∧ JR b n G w w' := by
  have C := Lib.hid hP
  have S := Lib.hid hS
  clear hP hS
  go_enter Tryd.func15, Tryd.ntmps15
  go_wp2_with fail
  refine C.out.mono ?_
  rintro e2 w1 ⟨rfl, J⟩
  have C1 := (C0.but hp J.o).c3
  go_wp2_with fail
  refine (S.out _ J.k J.s).mono ?_
  rintro e3 w2 ⟨b2, rfl, hb2, hl2, K2, d2⟩
  have J2 := (J.call d2)
  have J3 := J2.self
  have B2 := J2.o
  have s2 := J2.s
  clear C1 C S C0 J d2 J2
  go_wp2_with ((refine copy_all w2 ?hgd (.tmp 18) (.tmp 25) ?ho b n ca b2 n H G ?hd ?hs J3 K2 (fun w3 J4 => ?_)); (case hgd => rfl); (case ho => rfl); (case hd => rfl); (case hs => rfl))
  have J5 := Lib.hid (J4.trans B2)
  clear J4 J3 K2
  go_wp2
  go_ret
  exact ⟨by simp, J5.out⟩
/-- The row's transform, in its place. -/
theorem run_ka {w : World} {p bf bi : Nat} (k d : Nat) (hk : k ≤ 20) (hd : d ≤ 1) (b n ca : Nat) (hn : n = 2 ^ k) (hca : n ≤ ca) (f : Nat → Nat) (hf : ∀ i, i < n → f i < 18446744073709551616) (hT : Ft.Tab w) (Z : Ka w b k p bf bi) (J : JR b n f w w) :
    Calls Tryd.prog 15 #[.pointer (some ⟨p, 0, none⟩), .slice (some ⟨b, 0, none⟩) n ca, .int .i64 (d : Int)] w fun e w' => e = .returned (.int .i64 0) ∧ JR b n (ft k d f) w w' := by
  have P := plain_ka k d hk hd b n ca hn hca f hf hT Z J
  have hl : n ≤ 1048576 := by rw [hn]; exact Nat.le_trans (Nat.pow_le_pow_right (by decide) hk) (show 2 ^ 20 ≤ 1048576 by decide)
  have hd2 : d = 0 ∨ d = 1 := by omega
  rcases hd2 with rfl | rfl
  · refine (run_fwd _ b n ca _ w P).mono fun e w' ⟨h1, h2⟩ => ⟨h1, h2.congr fun j _ => ?_⟩
    rw [ft_zero, rd_zero, hn]
  · refine (run_inv p b n ca _ _ (fun i => Pn.pl (rg (tf f n (rd k 1)) n) i * Nt.inv (2 ^ k) % 18446744069414584321) w Z.c Z.p P (fun W K hb => scale _ ca n _ (rg_len _ _) hl _ (Nat.lt_trans (Nt.inv_lt _) (by decide)) W (wk_ws K (fun i => tf_lt _ _ _ _) hb))).mono fun e w' ⟨h1, h2⟩ => ⟨h1, h2.congr fun j hj => ?_⟩
    rw [pl_rg _ _ _ hj]
    unfold ft
    rw [sc_other k 1 (by decide), hn]
theorem run {w : World} {p bf bi : Nat} (k d : Nat) (hk : k ≤ 20) (hd : d ≤ 1) (b n ca : Nat) (hn : n = 2 ^ k) (hca : n ≤ ca) (f : Nat → Nat) (hf : ∀ i, i < n → f i < 18446744073709551616) (hT : Ft.Tab w) (Z : Kr w b k p bf bi) (J : JR b n f w w) :
    Calls Tryd.prog 15 #[.pointer (some ⟨p, 0, none⟩), .slice (some ⟨b, 0, none⟩) n ca, .int .i64 (d : Int)] w fun e w' => e = .returned (.int .i64 0) ∧ JR b n (ft k d f) w w' :=
  run_ka k d hk hd b n ca hn hca f hf hT (Z.aside (Nat.le_of_lt J.s)) J
theorem run_len {w : World} {p bf bi b : Nat} (k : Nat) (hk : k ≤ 20) (Z : Kr w b k p bf bi) (A : Option Addr) (n ca : Nat) (d : Int) (hn : n ≠ 2 ^ k) :
    Calls Tryd.prog 15 #[.pointer (some ⟨p, 0, none⟩), .slice A n ca, .int .i64 d] w fun e w' => e = .returned (.int .i64 4) ∧ w = w' := run_bad _ A n ca d 4 (by decide) w (plain_len k hk Z.c A n ca d hn)
theorem run_kind {w : World} {p bf bi b : Nat} (k : Nat) (hk : k ≤ 20) (Z : Kr w b k p bf bi) (A : Option Addr) (n ca : Nat) (d : Int) (hn : n = 2 ^ k) (h0 : d ≠ 0) (h1 : d ≠ 1) :
    Calls Tryd.prog 15 #[.pointer (some ⟨p, 0, none⟩), .slice A n ca, .int .i64 d] w fun e w' => e = .returned (.int .i64 18) ∧ w = w' := run_bad _ A n ca d 18 (by decide) w (plain_kind k hk Z.c A n ca d hn h0 h1)
end Kn
end Go.Proofs.YtfkhnfaammfbeaaDoor
