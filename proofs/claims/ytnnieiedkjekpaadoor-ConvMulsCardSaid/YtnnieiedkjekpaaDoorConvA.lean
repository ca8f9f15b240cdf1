/- Contracts of package conv: times, values, rowOf, convolve, turns. -/
import Derived.Test.YtnnieiedkjekpaaDoorConvN
import Derived.Test.YtnnieiedkjekpaaDoorQuartE
set_option linter.unusedVariables false
namespace Go.Proofs.YtnnieiedkjekpaaDoor
open Go.RowKit Go.Lib Go.Sort
namespace Cv
open Nm Ww Tn Pl Kn Kq Td

theorem two20 {k : Nat} (hk : k ≤ 20) : 2 ^ k ≤ 1048576 := Nat.le_trans (Nat.pow_le_pow_right (by decide) hk) (show 2 ^ 20 ≤ 1048576 by decide)

set_option maxHeartbeats 1000000 in
set_option maxRecDepth 100000 in
theorem times (A B : Option Addr) (ca cb n : Nat) (xs ys : List Nat) (hn : xs.length = n) (hm : ys.length = n) (hl : n ≤ 1048576) (w : World) (Ra : Ws w w.heap.size A xs) (Rb : Ws w w.heap.size B ys) :
    Calls Tryd.prog 23 #[.slice A n ca, .slice B n cb] w (RwN (fun i => Pn.pl xs i * Pn.pl ys i % 18446744069414584321) n w) := by
  have mk := make_words n (by omega) (by omega)
  have M := Lib.hid (fun i (h : Pn.pl xs i < 18446744073709551616) (h2 : Pn.pl ys i < 18446744073709551616) W => Gd.mul (Pn.pl xs i) (Pn.pl ys i) h h2 W)
  obtain ⟨G, hG⟩ : ∃ G : Nat → Nat, G = fun i => Pn.pl xs i * Pn.pl ys i % 18446744069414584321 := ⟨_, rfl⟩
  have Gi : ∀ i, Pn.pl xs i * Pn.pl ys i % 18446744069414584321 = G i := fun i => by rw [hG]
  rw [← hG]
  simp only [Gi] at M
  have HN := Lib.hid hn
  have HM := Lib.hid hm
  clear hG Gi hn hm
  have ST := Lib.hid (Bd.start (w := w) (w1 := w) (D := fun j => j < 0) G n (Below.refl _ _) 32 (fun j hj => by omega))
  go_enter Tryd.func23, Tryd.ntmps23
  go_wp2_with fail
  go_loopw [13] (fun v13 wr => ∃ i : Nat, v13 = .int .i64 (i : Int) ∧ i ≤ n ∧ Bd G n w.heap.size w wr (fun j => j < i)) (fun v13 _ => n - (Lib.intOf v13).toNat)
  case atStart => exact ⟨0, rfl, Nat.zero_le _, ST.out⟩
  case round =>
    obtain ⟨i, rfl, hi, BD⟩ := hrel
    clear ST mk
    by_cases hlt : i < n
    · have i1 : (i : Int) < n := by omega
      have R1 := Ra.below BD.bel
      have R2 := Rb.below BD.bel
      obtain ⟨b, off, rfl, hB, c⟩ := R1.at_ i (by rw [HN.out]; exact hlt)
      have c2 : wr.cell? ⟨b, off + i, none⟩ = some (.int .u64 (Pn.pl xs i : Nat)) := c
      obtain ⟨d, off2, rfl, hD, c3⟩ := R2.at_ i (by rw [HM.out]; exact hlt)
      have c4 : wr.cell? ⟨d, off2 + i, none⟩ = some (.int .u64 (Pn.pl ys i : Nat)) := c3
      have O := Lib.hid (M.out i (R1.lt i (by rw [HN.out]; exact hlt)) (R2.lt i (by rw [HM.out]; exact hlt)))
      have PUT := Lib.hid (fun w1 (h : Bd G n w.heap.size w w1 (fun j => j < i)) => h.put i hlt (D' := fun j => j < i + 1) (fun j hj => by omega))
      clear c c3
      generalize Pn.pl xs i = x at *
      generalize Pn.pl ys i = y at *
      generalize G i = g at *
      go_wp2_with fail
      refine (O.out _).mono ?_
      rintro e w1 ⟨rfl, b1⟩
      have B1 := BD.call b1
      obtain ⟨⟨v, k0⟩, k1⟩ := B1.at_ i hlt
      have PU := Lib.hid (PUT.out _ B1)
      clear B1 b1 PUT BD
      go_wp2_with fail
      go_roundw
      case rel => exact ⟨i + 1, rfl, by omega, PU.out⟩
      case measure => simp [Lib.intOf]; omega
    · have i1 : ¬ (i : Int) < n := by omega
      obtain rfl : i = n := by omega
      have OK := Lib.hid (rwN_mk BD)
      clear BD
      go_wp2
      exact bodyPost_ret (v := .slice (some ⟨w.heap.size, 0, none⟩) i i) (by simp [results, Tryd.results23, go_sem]) rfl OK.out

/-- copy(dst, src) of a row of one's own that is as long or longer. -/
theorem copy_pad (w : World) {ops : Array Oper} {rest : List Oper} {o : Oper} {a : Act} {Q : Exit → Act → World → Prop} (hgd : o.guard = none) (d s : Operand)
    (ho : o.op = .call { callee := .builtin .copy, args := #[d, s], argTypes := #[22, 22] }) (b n ca b2 o2 m c2 : Nat) (f g : Nat → Nat) (hm : m ≤ n) (hd : a.eval d = .slice (some ⟨b, 0, none⟩) n ca) (hs : a.eval s = .slice (some ⟨b2, o2, none⟩) m c2)
    (J : JR b n f w w) (K : ∀ i, i < m → w.cell? ⟨b2, o2 + i, none⟩ = some (.int .u64 (g i : Nat))) (h : ∀ w', JR b n (fun i => if i < m then g i else f i) w w' → wpList Tryd.prog ops Q rest (a.put o.dst (.int .i64 (m : Int))) w') : wpList Tryd.prog ops Q (o :: rest) a w := by
  refine wpList_plain hgd fun KK hK => ?_
  have hl : ((List.range m).map fun i => cw (g i)).length = m := by simp
  have hU := infoU
  have hsz : (Tryd.prog.info? 32).map (·.size) = some 1 := by
    cases e : Tryd.prog.info? 32 with
    | none => rw [e] at hU; cases hU
    | some i =>
      rw [e] at hU
      simp only [Option.map_some, Option.some.injEq, Prod.mk.injEq] at hU ⊢
      exact hU.2.1
  have hrun := run_copy_cells (P := Tryd.prog) w 22 22 o.type 32 b 0 n ca ⟨b2, o2, none⟩ m c2 ((List.range m).map fun i => cw (g i)) Tryd.underlying22 hsz (by rw [hl]; exact (Nat.min_eq_left hm).symm)
    (fun j v hv => by
      obtain ⟨hj, e⟩ := List.getElem?_eq_some_iff.1 hv
      rw [add_none, ← e, cells_at g m j hj]
      exact K j (by rw [hl] at hj; exact hj))
    (fun j hj => by rw [J.k.c j (by rw [hl] at hj; omega)]; rfl)
    (fun j hj => J.k.z j (by rw [hl] at hj; omega))
    (fun v hv => by
      simp at hv
      obtain ⟨i, _, rfl⟩ := hv
      rfl)
  rw [hl] at hrun
  have hB := below_setCells b ((List.range m).map fun i => cw (g i)) 0 w
  have JJ : JR b n (fun i => if i < m then g i else f i) w (w.setCells b 0 ((List.range m).map fun i => cw (g i))) := ⟨⟨fun i hi => by
      by_cases h : i < m
      · rw [World.cell?_setCells_in b _ 0 w (fun j hj => by rw [J.k.c j (by rw [hl] at hj; omega)]; rfl) i (by rw [hl]; exact h), cells_at, if_pos h]
      · rw [World.cell?_setCells_out b _ 0 w ⟨b, 0 + i, none⟩ (fun _ _ => by
          show 0 + i < 0 ∨ _ ≤ 0 + i
          rw [hl]; omega), J.k.c i hi, if_neg h], fun i hi => by rw [World.frozen?_setCells]; exact J.k.z i hi⟩, but_setCells b _ 0 w, by rw [hB.2]; exact J.s⟩
  have h2 := h _ JJ
  unfold Oper.wp
  simp [execOp, ho, resolve, invoke, builtin, hd, hs, hrun, Result.andThen]
  exact hK _ _ h2

/-- The transform of a row, with noughts behind it. -/
theorem values_core {w : World} {p p2 : Nat} {v1 v2 u1 u2 u3 : Value} (k n cl ab ao m : Nat) (xs : List Nat) (F : Nat → Nat) (hk : k ≤ 20) (hn : n = 2 ^ k) (hx : xs.length = m) (hm : m ≤ n) (h0 : 0 < m) (C : Cq w p (.pointer (some ⟨p2, 0, none⟩)) v1 v2) (C2 : Ce w p2 (.int .i64 (k : Int)) u1 u2 u3) (R : Ws w w.heap.size (some ⟨ab, ao, none⟩) xs)
    (hR : ∀ W, Below w.heap.size w W → JR w.heap.size n (Pn.pl xs) W W → Calls Tryd.prog 46 #[.pointer (some ⟨p, 0, none⟩), .slice (some ⟨w.heap.size, 0, none⟩) n n, .int .i64 0] W fun e w' => e = .returned (.int .i64 0) ∧ JR w.heap.size n F W w') :
    Calls Tryd.prog 25 #[.pointer (some ⟨p, 0, none⟩), .slice (some ⟨ab, ao, none⟩) m cl] w (RwN F n w) := by
  have K := Lib.hid (kOf C2)
  have RU := Lib.hid hR
  have c0 := C.c0
  have hl := two20 hk
  have s1 := Bt.pow_i64 k (by omega)
  rw [← hn] at s1 hl
  have mk := make_words n (by omega) (by omega)
  have bl := below_alloc w (.cells (madeCells #[.int .u64 0] n) 32)
  have J1 : JR w.heap.size n (fun _ => 0) (w.alloc (.cells (madeCells #[.int .u64 0] n) 32)) (w.alloc (.cells (madeCells #[.int .u64 0] n) 32)) := ⟨Wk.made w n 32, But.refl _ _, by simp⟩
  have AT := Lib.hid (show ∀ i, i < m → (w.alloc (.cells (madeCells #[.int .u64 0] n) 32)).cell? ⟨ab, ao + i, none⟩ = some (.int .u64 (Pn.pl xs i : Nat)) from fun i hi => by
    obtain ⟨b, off, e, hB, c⟩ := (R.below bl).at_ i (by omega)
    injection e with e
    injection e with e1 e2
    subst e1 e2
    exact c)
  have CG := Lib.hid (fun W (J : JR w.heap.size n (fun i => if i < m then Pn.pl xs i else 0) (w.alloc (.cells (madeCells #[.int .u64 0] n) 32)) W) => show JR w.heap.size n (Pn.pl xs) W W ∧ Below w.heap.size w W from
    ⟨(J.congr (g := Pn.pl xs) fun j hj => by
      by_cases h : j < m
      · rw [if_pos h]
      · rw [if_neg h, Pn.pl_far _ _ (by omega)]).self, bl.trans J.bel⟩)
  have J1 := Lib.hid J1
  clear C C2 hR hn R bl hx hl
  go_enter Tryd.func25, Tryd.ntmps25
  go_wp2_with fail
  refine K.out.mono ?_
  rintro e w1 ⟨rfl, rfl⟩
  clear K
  go_wp2_with ((refine copy_pad _ ?hgd (.tmp 15) (.tmp 16) ?ho w.heap.size n n ab ao m cl (fun _ => 0) (Pn.pl xs) hm ?hd ?hs J1.out AT.out (fun w3 J4 => ?_)); (case hgd => rfl); (case ho => rfl); (case hd => rfl); (case hs => rfl))
  have H := CG.out _ J4
  have R5 := Lib.hid (RU.out _ H.2 H.1)
  have b4 := H.2
  clear H CG J4 AT J1 RU mk
  go_wp2_with fail
  refine R5.out.mono ?_
  rintro e w4 ⟨rfl, J5⟩
  have OK := Lib.hid (show RwN F n w (.returned (.slice (some ⟨w.heap.size, 0, none⟩) n n)) w4 from ⟨_, rfl, Nat.le_refl _, J5.s, J5.k, b4.trans J5.bel⟩)
  clear R5 J5 b4
  go_wp2
  exact bodyPost_ret (v := .slice (some ⟨w.heap.size, 0, none⟩) n n) (by simp [results, Tryd.results25, go_sem]) rfl OK.out
theorem values {w : World} {p p2 bf bi bp : Nat} (k n cl m : Nat) (A : Option Addr) (xs : List Nat) (hk : k ≤ 20) (hn : n = 2 ^ k) (hx : xs.length = m) (hm : m ≤ n) (h0 : 0 < m) (hT : Ft.Tab w) (Z : Kf w w.heap.size k p p2 bf bi bp) (R : Ws w w.heap.size A xs) :
    Calls Tryd.prog 25 #[.pointer (some ⟨p, 0, none⟩), .slice A m cl] w (RwN (ft k 0 (Pn.pl xs)) n w) := by
  obtain ⟨ab, ao, rfl, _⟩ := R.at_ 0 (by omega)
  exact values_core k n cl ab ao m xs _ hk hn hx hm h0 Z.c Z.z.c R fun W hb J => run k 0 hk (by decide) w.heap.size n n hn (Nat.le_refl _) _ (fun i _ => pl64 R i) (hT.below hb) (Z.below hb) J

set_option maxHeartbeats 400000 in
theorem rowOf_core (p : Option Addr) (b n cb : Nat) (G : Nat → Nat) (w : World)
    (hR : Calls Tryd.prog 46 #[.pointer p, .slice (some ⟨b, 0, none⟩) n cb, .int .i64 1] w fun e w' => e = .returned (.int .i64 0) ∧ JR b n G w w') :
    Calls Tryd.prog 27 #[.pointer p, .slice (some ⟨b, 0, none⟩) n cb] w fun e w' => e = .returned (.slice (some ⟨b, 0, none⟩) n cb) ∧ JR b n G w w' := by
  have RU := Lib.hid hR
  clear hR
  go_enter Tryd.func27, Tryd.ntmps27
  go_wp2_with fail
  refine RU.out.mono ?_
  rintro e w1 ⟨rfl, J⟩
  have OK := Lib.hid J
  clear RU J
  go_wp2
  go_ret
  exact ⟨by simp, OK.out⟩
theorem rowOf {w : World} {p p2 bf bi bp : Nat} (k b n cb : Nat) (f : Nat → Nat) (hk : k ≤ 20) (hn : n = 2 ^ k) (hc : n ≤ cb) (hf : ∀ i, i < n → f i < 18446744073709551616) (hT : Ft.Tab w) (Z : Kf w b k p p2 bf bi bp) (J : JR b n f w w) :
    Calls Tryd.prog 27 #[.pointer (some ⟨p, 0, none⟩), .slice (some ⟨b, 0, none⟩) n cb] w fun e w' => e = .returned (.slice (some ⟨b, 0, none⟩) n cb) ∧ JR b n (ft k 1 f) w w' :=
  rowOf_core _ b n cb _ w (run k 1 hk (by decide) b n cb hn hc f hf hT Z J)
set_option maxHeartbeats 1000000 in
/-- A cyclic convolution by transforms, of rows that may have noughts behind them. -/
theorem convolve (k n ca cb m l : Nat) (A B : Option Addr) (xs ys : List Nat) (hk : k ≤ 20) (hn : n = 2 ^ k) (hx : xs.length = m) (hy : ys.length = l) (hm : m ≤ n) (hm0 : 0 < m) (hl : l ≤ n) (hl0 : 0 < l) (w : World) (hT : Ft.Tab w) (Ra : Ws w w.heap.size A xs) (Rb : Ws w w.heap.size B ys) :
    Calls Tryd.prog 21 #[.slice A m ca, .slice B l cb, .int .i64 (k : Int)] w (RwN (fun j => cyc (Pn.pl xs) (Pn.pl ys) n j % 18446744069414584321) n w) := by
  have NE := Lib.hid (Kq.new k hk w)
  obtain ⟨F, hF⟩ : ∃ F, F = ft k 0 (Pn.pl xs) := ⟨_, rfl⟩
  obtain ⟨G, hG⟩ : ∃ G, G = ft k 0 (Pn.pl ys) := ⟨_, rfl⟩
  obtain ⟨O, hO⟩ : ∃ O : Nat → Nat, O = fun j => cyc (Pn.pl xs) (Pn.pl ys) n j % 18446744069414584321 := ⟨_, rfl⟩
  rw [← hO]
  have V1 := Lib.hid (fun W (b : Below w.heap.size w W) p p2 bf bi bp (Z : Kf W W.heap.size k p p2 bf bi bp) => show Calls Tryd.prog 25 #[.pointer (some ⟨p, 0, none⟩), .slice A m ca] W (RwN F n W) from by
    rw [hF]; exact values k n ca m A xs hk hn hx hm hm0 (hT.below b) Z (Ra.step b))
  have V2 := Lib.hid (fun W (b : Below w.heap.size w W) p p2 bf bi bp (Z : Kf W W.heap.size k p p2 bf bi bp) => show Calls Tryd.prog 25 #[.pointer (some ⟨p, 0, none⟩), .slice B l cb] W (RwN G n W) from by
    rw [hG]; exact values k n cb l B ys hk hn hy hl hl0 (hT.below b) Z (Rb.step b))
  have fF : ∀ i, F i < 18446744069414584321 := by rw [hF]; exact fun i => ft_lt _ _ _ _
  have fG : ∀ i, G i < 18446744069414584321 := by rw [hG]; exact fun i => ft_lt _ _ _ _
  have TM := Lib.hid (fun W b1 b2 (K1 : Wk W b1 0 n F) (s1 : b1 < W.heap.size) (K2 : Wk W b2 0 n G) (s2 : b2 < W.heap.size) =>
    times (some ⟨b1, 0, none⟩) (some ⟨b2, 0, none⟩) n n n (rg F n) (rg G n) (rg_len _ _) (rg_len _ _) (by rw [hn]; exact two20 hk) W (wk_ws K1 fF s1) (wk_ws K2 fG s2))
  have RO := Lib.hid (fun W b p p2 bf bi bp (hb : Below w.heap.size w W) (Z : Kf W b k p p2 bf bi bp) (K : Wk W b 0 n (fun i => Pn.pl (rg F n) i * Pn.pl (rg G n) i % 18446744069414584321)) (s : b < W.heap.size) (lo : w.heap.size ≤ b) =>
    show Calls Tryd.prog 27 #[.pointer (some ⟨p, 0, none⟩), .slice (some ⟨b, 0, none⟩) n n] W fun e w' => e = .returned (.slice (some ⟨b, 0, none⟩) n n) ∧ RwN O n w (.returned (.slice (some ⟨b, 0, none⟩) n n)) w' from
    (rowOf k b n n _ hk hn (Nat.le_refl _) (fun i _ => Nat.lt_trans (Nat.mod_lt _ (by decide)) (by decide)) (hT.below hb) Z ⟨K, But.refl _ _, s⟩).mono fun e w' ⟨h1, J⟩ => ⟨h1, b, rfl, lo, J.s, wk_congr J.k (fun i hi => by
      rw [hO]
      show ft k 1 (fun i => Pn.pl (rg F n) i * Pn.pl (rg G n) i % 18446744069414584321) i = cyc (Pn.pl xs) (Pn.pl ys) n i % 18446744069414584321
      rw [ft_congr (y := fun m => F m * G m % 18446744069414584321) (fun j hj => by
        show Pn.pl (rg F n) j * Pn.pl (rg G n) j % 18446744069414584321 = F j * G j % 18446744069414584321
        rw [pl_rg _ _ _ (by omega), pl_rg _ _ _ (by omega)]) 1 i, hF, hG, hn]
      exact cyc_ft _ _ k (by omega) i (by omega)), hb.trans (J.bel.mono lo)⟩)
  clear fF fG hF hG hO hx hy hT Ra Rb hm hl hm0 hl0 hk hn
  go_enter Tryd.func21, Tryd.ntmps21
  go_wp2_with fail
  refine NE.out.mono ?_
  rintro e w1 ⟨p, p2, bf, bi, bp, rfl, Z1, d1⟩
  have C1 := Lib.hid (V1.out w1 d1 p p2 bf bi bp Z1)
  clear NE V1
  go_wp2_with fail
  refine C1.out.mono ?_
  rintro e w2 ⟨b1, rfl, o1, s1, K1, d2⟩
  have Z2 := Z1.step d2
  have D2 := d1.trans (d2.mono d1.size)
  have C2 := Lib.hid (V2.out w2 D2 p p2 bf bi bp Z2)
  clear C1 V2 Z1 d1 d2 o1
  go_wp2_with fail
  refine C2.out.mono ?_
  rintro e w3 ⟨b2, rfl, o2, s2, K2, d3⟩
  have Z3 := Z2.step d3
  have D3 := D2.trans (d3.mono D2.size)
  have C3 := Lib.hid (TM.out w3 b1 b2 (K1.below s1 d3) (Nat.lt_of_lt_of_le s1 d3.size) K2 s2)
  clear C2 TM Z2 D2 d3 K1 s1 K2 s2 o2
  go_wp2_with fail
  refine C3.out.mono ?_
  rintro e w4 ⟨b3, rfl, o3, s3, K3, d4⟩
  have D4 := D3.trans (d4.mono D3.size)
  have C4 := Lib.hid (RO.out w4 b3 p p2 bf bi bp D4 ((Z3.below d4).more o3) K3 s3 (Nat.le_trans D3.size o3))
  clear C3 RO Z3 D3 D4 d4 K3 s3 o3
  go_wp2_with fail
  refine C4.out.mono ?_
  rintro e w5 ⟨rfl, OK⟩
  have OK := Lib.hid OK
  clear C4
  go_wp2
  exact bodyPost_ret (v := .slice (some ⟨b3, 0, none⟩) n n) (by simp [results, Tryd.results21, go_sem]) rfl OK.out

set_option maxHeartbeats 400000 in
theorem turns (k d n : Nat) (z : Int) (hz : z = (d : Int)) (hk : k ≤ 19) (hd : d ≤ 1) (hn : n = 2 ^ k) (w : World) :
    Calls Tryd.prog 22 #[.int .i64 (k : Int), .int .i64 z] w (RwN (fun i => rd (k + 1) d ^ i % 18446744069414584321) n w) := by
  have C := Lib.hid (fun W => root_in (k + 1) d (by omega) hd W)
  have hl := two20 (show k ≤ 20 by omega)
  have hr := rd_lt (k + 1) d
  have s1 := Bt.pow_i64 k (by omega)
  rw [← hn] at s1 hl
  have D := Lib.hid (fun W => Rt.powers (rd (k + 1) d) n (by omega) hl W)
  have q1 : IntKind.i64.wrap ((k : Int) + 1) = ((k + 1 : Nat) : Int) := by rw [IntKind.wrap_i64]; omega
  rw [← hz] at C
  generalize rd (k + 1) d = r at *
  have bm : k ≤ 19 := hk
  clear hk hd hl hr hn hz
  go_enter Tryd.func22, Tryd.ntmps22
  go_wp2_with fail
  refine (C.out _).mono ?_
  rintro e w1 ⟨rfl, h1⟩
  go_wp2_with fail
  refine (D.out _).mono ?_
  rintro e w2 ⟨rfl, K, s2, h2⟩
  have O : RwN (fun i => r ^ i % 18446744069414584321) n w (.returned (.slice (some ⟨w1.heap.size, 0, none⟩) n n)) w2 := ⟨_, rfl, h1.size, s2, K, h1.trans (h2.mono h1.size)⟩
  clear h2 K s2
  go_wp2
  exact bodyPost_ret (v := .slice (some ⟨w1.heap.size, 0, none⟩) n n) (by simp [results, Tryd.results22, go_sem]) rfl O

set_option maxHeartbeats 400000 in
theorem exponent_odd (A B : Option Addr) (n m ca cb : Nat) (h : n ≠ m) (w : World) :
    Calls Tryd.prog 20 #[.slice A n ca, .slice B m cb] w fun e w' => e = .returned (.tuple #[.int .i64 0, .int .i64 19]) ∧ w = w' := by
  have ne : ((n : Int) != (m : Int)) = true := by simp; omega
  clear h
  go_enter Tryd.func20, Tryd.ntmps20
  go_wp2
  go_ret2
  exact ⟨rfl, rfl⟩
set_option maxHeartbeats 400000 in
theorem exponent_len (A B : Option Addr) (n ca cb : Nat) (h : ∀ j, j ≤ 32 → (n : Int) ≠ ((2 ^ j : Nat) : Int)) (w : World) :
    Calls Tryd.prog 20 #[.slice A n ca, .slice B n cb] w fun e w' => e = .returned (.tuple #[.int .i64 0, .int .i64 4]) ∧ w = w' := by
  have C := Lib.hid (Ft.fits_none n h w)
  clear h
  go_enter Tryd.func20, Tryd.ntmps20
  go_wp2_with fail
  refine C.out.mono ?_
  rintro e w1 ⟨rfl, rfl⟩
  go_wp2
  go_ret2
  exact ⟨rfl, rfl⟩
set_option maxHeartbeats 400000 in
theorem exponent_in (A B : Option Addr) (n ca cb k : Nat) (hk : k ≤ 19) (hn : n = 2 ^ k) (w : World) (hT : Ft.Tab w) :
    Calls Tryd.prog 20 #[.slice A n ca, .slice B n cb] w fun e w' => e = .returned (.tuple #[.int .i64 (k : Int), .int .i64 0]) ∧ w = w' := by
  have C := Lib.hid (Ft.fits_some k (by omega) w hT)
  rw [← hn] at C
  have hl : n ≤ 524288 := by rw [hn]; exact Nat.le_trans (Nat.pow_le_pow_right (by decide) hk) (show 2 ^ 19 ≤ 524288 by decide)
  have n1 : ¬ (524288 : Int) < (n : Int) := by omega
  clear hT hk hn hl
  go_enter Tryd.func20, Tryd.ntmps20
  go_wp2_with fail
  refine C.out.mono ?_
  rintro e w1 ⟨rfl, rfl⟩
  go_wp2
  go_ret2
  exact ⟨rfl, rfl⟩
end Cv
end Go.Proofs.YtnnieiedkjekpaaDoor
