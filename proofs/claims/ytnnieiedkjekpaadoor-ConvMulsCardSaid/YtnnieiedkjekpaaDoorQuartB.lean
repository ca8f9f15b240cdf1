/- Contract of package kern4's join. -/
import Derived.Test.YtnnieiedkjekpaaDoorQuartA
import Derived.BigRegion
set_option linter.unusedVariables false
namespace Go.Proofs.YtnnieiedkjekpaaDoor
open Go.RowKit Go.Lib Go.Sort
namespace Kq
open Nm Ww Tn Pl Kn

/-- Three cells of a struct in memory. -/
structure Cq (w : World) (b : Nat) (v0 v1 v2 : Value) : Prop where
  c0 : w.cell? ⟨b, 0, none⟩ = some v0
  c1 : w.cell? ⟨b, 1, none⟩ = some v1
  c2 : w.cell? ⟨b, 2, none⟩ = some v2
theorem Cq.lt {w : World} {b : Nat} {v0 v1 v2 : Value} (h : Cq w b v0 v1 v2) : b < w.heap.size := World.block_lt_of_cell? w _ h.c0
theorem Cq.low {w w' : World} {b B : Nat} {v0 v1 v2 : Value} (h : Cq w b v0 v1 v2) (hB : b < B) (hb : Below B w w') : Cq w' b v0 v1 v2 :=
  ⟨(hb.cell (p := ⟨b, 0, none⟩) hB).trans h.c0, (hb.cell (p := ⟨b, 1, none⟩) hB).trans h.c1, (hb.cell (p := ⟨b, 2, none⟩) hB).trans h.c2⟩
theorem Cq.but {w w' : World} {b p : Nat} {v0 v1 v2 : Value} (h : Cq w p v0 v1 v2) (hp : p ≠ b) (o : But b w w') : Cq w' p v0 v1 v2 :=
  ⟨(o.cell ⟨p, 0, none⟩ hp h.lt).trans h.c0, (o.cell ⟨p, 1, none⟩ hp h.lt).trans h.c1, (o.cell ⟨p, 2, none⟩ hp h.lt).trans h.c2⟩
theorem Cq.fresh (w : World) (v0 v1 v2 : Value) (t : TypeId) : Cq (w.alloc (.cells #[v0, v1, v2] t)) w.heap.size v0 v1 v2 := by
  constructor <;> simp [go_sem]

/-- What a crossing at place i of four quarters goes by, and what its words are. -/
structure Mk (z0 : Int) (la N : Nat) (ps : List Nat) (u : Nat) (F G : Nat → Nat) (o o1 o2 o3 i : Nat) (z z2 z3 : Int) (m1 m2 m3 : Nat) : Prop where
  w1 : IntKind.i64.wrap ((i : Int) * z0) = z
  w2 : IntKind.i64.wrap (2 * z) = z2
  w3 : IntKind.i64.wrap (3 * z) = z3
  a1 : bits .and .i64 z (la : Int) = (m1 : Int)
  a2 : bits .and .i64 z2 (la : Int) = (m2 : Int)
  a3 : bits .and .i64 z3 (la : Int) = (m3 : Int)
  l1 : m1 < N
  l2 : m2 < N
  l3 : m3 < N
  eA : cA (F (o + i)) (F (o2 + i) * Pn.pl ps m1 % 18446744069414584321) (F (o1 + i) * Pn.pl ps m2 % 18446744069414584321) (F (o3 + i) * Pn.pl ps m3 % 18446744069414584321) = G (o + i)
  eB : cB (F (o + i)) (F (o2 + i) * Pn.pl ps m1 % 18446744069414584321) (F (o1 + i) * Pn.pl ps m2 % 18446744069414584321) (F (o3 + i) * Pn.pl ps m3 % 18446744069414584321) u = G (o1 + i)
  eC : cC (F (o + i)) (F (o2 + i) * Pn.pl ps m1 % 18446744069414584321) (F (o1 + i) * Pn.pl ps m2 % 18446744069414584321) (F (o3 + i) * Pn.pl ps m3 % 18446744069414584321) = G (o2 + i)
  eD : cD (F (o + i)) (F (o2 + i) * Pn.pl ps m1 % 18446744069414584321) (F (o1 + i) * Pn.pl ps m2 % 18446744069414584321) (F (o3 + i) * Pn.pl ps m3 % 18446744069414584321) u = G (o3 + i)

/-- What a round of the loop reads. -/
structure Rd (w : World) (b p bt ot N m1 m2 m3 x y1 y2 y3 r1 r2 r3 i o o1 o2 o3 : Nat) : Prop where
  kk : w.cell? ⟨p, 1, none⟩ = some (.slice (some ⟨bt, ot, none⟩) N N)
  kp1 : w.cell? ⟨bt, ot + m1, none⟩ = some (.int .u64 (r1 : Nat))
  kp2 : w.cell? ⟨bt, ot + m2, none⟩ = some (.int .u64 (r2 : Nat))
  kp3 : w.cell? ⟨bt, ot + m3, none⟩ = some (.int .u64 (r3 : Nat))
  ka : w.cell? ⟨b, o + i, none⟩ = some (.int .u64 (x : Nat))
  kc : w.cell? ⟨b, o1 + i, none⟩ = some (.int .u64 (y2 : Nat))
  kb : w.cell? ⟨b, o2 + i, none⟩ = some (.int .u64 (y1 : Nat))
  kd : w.cell? ⟨b, o3 + i, none⟩ = some (.int .u64 (y3 : Nat))
  fa : w.frozen? ⟨b, o + i, none⟩ = false
  fc : w.frozen? ⟨b, o1 + i, none⟩ = false
  fb : w.frozen? ⟨b, o2 + i, none⟩ = false
  fd : w.frozen? ⟨b, o3 + i, none⟩ = false

set_option maxHeartbeats 4000000 in
set_option maxRecDepth 100000 in
theorem join (b o o1 o2 o3 h h2 h3 L n c1 N la u : Nat) (bt ot p : Nat) (ps : List Nat) (z0 : Int) (F G : Nat → Nat) (v0 v2 : Value) (e1 : o1 = o + h) (e2 : o2 = o + h2) (e3 : o3 = o + h3) (eh2 : h2 = 2 * h) (eh3 : h3 = 3 * h) (eL : L = 4 * h)
    (hon : o + L ≤ n) (hc : L ≤ c1) (h0 : 0 < h) (hl : n ≤ 1048576) (hN : la + 1 = N) (hNl : N ≤ 1048576) (hps : ps.length = N) (hF : ∀ j, F j < 18446744073709551616) (hu : u < 18446744073709551616)
    (hM : ∀ i, i < h → ∃ z z2 z3 m1 m2 m3, Mk z0 la N ps u F G o o1 o2 o3 i z z2 z3 m1 m2 m3)
    (w : World) (C : Cq w p v0 (.slice (some ⟨bt, ot, none⟩) N N) v2) (hp : p ≠ b) (J : JR b n F w w) (R : Wo w b (some ⟨bt, ot, none⟩) ps) :
    Calls Tryd.prog 83 #[.pointer (some ⟨p, 0, none⟩), .slice (some ⟨b, o, none⟩) L c1, .int .u64 (u : Nat), .int .i64 z0] w fun e w' => e = .returned (.tuple #[]) ∧ JR b n (qo F G o h h) w w' := by
  have MM := Lib.hid hM
  have MU := Lib.hid (fun i m (hm : m < N) W => Gd.mul (F i) (Pn.pl ps m) (hF _) (R.lt m (by omega)) W)
  have CR := Lib.hid (fun i x1 x2 x3 W => cross (F (o + i)) (x1 % 18446744069414584321) (x2 % 18446744069414584321) (x3 % 18446744069414584321) u (hF _) (m64 _) (m64 _) (m64 _) hu W)
  have QA := Lib.hid (fun i (hi : i < h) => show qo F G o h i (o + i) = F (o + i) ∧ qo F G o h i (o1 + i) = F (o1 + i) ∧ qo F G o h i (o2 + i) = F (o2 + i) ∧ qo F G o h i (o3 + i) = F (o3 + i) by rw [e1, e2, e3, eh2, eh3]; exact qo_at F G o h i hi)
  have QS := Lib.hid (fun i (hi : i < h) => show upd (upd (upd (upd (qo F G o h i) (o + i) (G (o + i))) (o1 + i) (G (o1 + i))) (o2 + i) (G (o2 + i))) (o3 + i) (G (o3 + i)) = qo F G o h (i + 1) by rw [e1, e2, e3, eh2, eh3]; exact qo_step F G o h i hi)
  have FA := Lib.hid (fun i m1 m2 m3 (hi : i < h) (k1 : m1 < N) (k2 : m2 < N) (k3 : m3 < N) (wr : World) (K : JR b n (qo F G o h i) w wr) => show Rd wr b p bt ot N m1 m2 m3 (F (o + i)) (F (o2 + i)) (F (o1 + i)) (F (o3 + i)) (Pn.pl ps m1) (Pn.pl ps m2) (Pn.pl ps m3) i o o1 o2 o3 from by
    obtain ⟨g0, g1, g2, g3⟩ := QA.out i hi
    have R' := R.but K.o
    have A0 := K.at_ (o + i) (by omega)
    have A1 := K.at_ (o1 + i) (by omega)
    have A2 := K.at_ (o2 + i) (by omega)
    have A3 := K.at_ (o3 + i) (by omega)
    rw [g0] at A0
    rw [g1] at A1
    rw [g2] at A2
    rw [g3] at A3
    have rr : ∀ m, m < N → wr.cell? ⟨bt, ot + m, none⟩ = some (.int .u64 (Pn.pl ps m : Nat)) := fun m hm => by
      obtain ⟨b4, o4, e4, _, c4⟩ := R'.at_ m (by omega)
      injection e4 with e4
      injection e4 with e5 e6
      subst e5 e6
      exact c4
    exact ⟨(C.but hp K.o).c1, rr m1 k1, rr m2 k2, rr m3 k3, A0.1, A1.1, A2.1, A3.1, A0.2, A1.2, A2.2, A3.2⟩)
  have PT := Lib.hid (fun i (hi : i < h) (wr : World) (K : JR b n (qo F G o h i) w wr) => show JR b n (qo F G o h (i + 1)) w ((((wr.setCell ⟨b, o + i, none⟩ (.int .u64 (G (o + i) : Nat))).setCell ⟨b, o1 + i, none⟩ (.int .u64 (G (o1 + i) : Nat))).setCell ⟨b, o2 + i, none⟩ (.int .u64 (G (o2 + i) : Nat))).setCell ⟨b, o3 + i, none⟩ (.int .u64 (G (o3 + i) : Nat))) by
    rw [← QS.out i hi]
    exact (((K.put (o + i) _ (by omega)).put (o1 + i) _ (by omega)).put (o2 + i) _ (by omega)).put (o3 + i) _ (by omega))
  have sl1 := fun W => slice_upto W b o L c1 h (by omega)
  have sl2 := fun W => slice_both W b o L c1 h h2 h (by omega) h0 (by omega)
  have sl3 := fun W => slice_both W b o L c1 h2 h3 h (by omega) h0 (by omega)
  have sl4 := fun W => slice_off W b o L c1 h3 h (by omega) (by omega) hc
  rw [← e1] at sl2
  rw [← e2] at sl3
  rw [← e3] at sl4
  have d1 : (L : Int).tdiv 4 = (h : Int) := by rw [Int.tdiv_eq_ediv_of_nonneg (by omega)]; omega
  have d2 : (L : Int) / 4 = (h : Int) := by omega
  have d3 : IntKind.i64.wrap (h : Int) = (h : Int) := IntWalk.i64_in _ (by omega)
  have d4 : IntKind.i64.wrap (2 * (h : Int)) = (h2 : Int) := by rw [IntKind.wrap_i64]; omega
  have d5 : IntKind.i64.wrap (3 * (h : Int)) = (h3 : Int) := by rw [IntKind.wrap_i64]; omega
  have d6 : IntKind.i64.wrap ((h : Int) * 2) = (h2 : Int) := by rw [IntKind.wrap_i64]; omega
  have d7 : IntKind.i64.wrap ((h : Int) * 3) = (h3 : Int) := by rw [IntKind.wrap_i64]; omega
  have d8 : IntKind.i64.wrap ((N : Int) - 1) = (la : Int) := by rw [IntKind.wrap_i64]; omega
  have kc := C.c1
  have ST := Lib.hid (show JR b n (qo F G o h 0) w w by rw [qo_zero]; exact J)
  have hh : h ≤ 1048576 := by omega
  have NE := Lib.hid (show (¬ o = o1) ∧ (¬ o = o2) ∧ (¬ o = o3) ∧ (¬ o1 = o2) ∧ (¬ o1 = o3) ∧ (¬ o2 = o3) from ⟨by omega, by omega, by omega, by omega, by omega, by omega⟩)
  have NF := Lib.hid (show (¬ o1 = o) ∧ (¬ o2 = o) ∧ (¬ o3 = o) ∧ (¬ o2 = o1) ∧ (¬ o3 = o1) ∧ (¬ o3 = o2) from ⟨by omega, by omega, by omega, by omega, by omega, by omega⟩)
  clear hM hF hu QA QS J R e1 e2 e3 eh2 eh3 eL hps hN hc C hp
  go_enter Tryd.func83, Tryd.ntmps83
  go_upto_region 1 with fail
  go_quiet (fail)
  go_wp2_with fail
  clear sl1 sl2 sl3 sl4 d1 d2 d3 d4 d5 d6 d7 d8 kc
  go_loopw [48] (fun v48 wr => ∃ i : Nat, v48 = .int .i64 (i : Int) ∧ i ≤ h ∧ JR b n (qo F G o h i) w wr) (fun v48 _ => h - (Lib.intOf v48).toNat)
  case atStart => exact ⟨0, rfl, Nat.zero_le _, ST.out.drewN _⟩
  case round =>
    obtain ⟨i, rfl, hi, J⟩ := hrel
    clear ST
    by_cases hlt : i < h
    · have i1 : (i : Int) < h := by omega
      obtain ⟨z, z2, z3, m1, m2, m3, M⟩ := MM.out i hlt
      have q1 := M.w1
      have q2 := M.w2
      have q3 := M.w3
      have q4 := M.a1
      have q5 := M.a2
      have q6 := M.a3
      have l1 := M.l1
      have l2 := M.l2
      have l3 := M.l3
      have X1 := Lib.hid (MU.out (o2 + i) m1 l1)
      have X2 := Lib.hid (MU.out (o1 + i) m2 l2)
      have X3 := Lib.hid (MU.out (o3 + i) m3 l3)
      have XC := Lib.hid (CR.out i (F (o2 + i) * Pn.pl ps m1) (F (o1 + i) * Pn.pl ps m2) (F (o3 + i) * Pn.pl ps m3))
      rw [M.eA, M.eB, M.eC, M.eD] at XC
      have FF := Lib.hid (FA.out i m1 m2 m3 hlt l1 l2 l3)
      have PP := Lib.hid (PT.out i hlt)
      have NX : IntKind.i64.wrap ((i : Int) + 1) = ((i + 1 : Nat) : Int) := by rw [IntKind.wrap_i64]; omega
      clear M MM MU CR FA PT
      generalize F (o2 + i) * Pn.pl ps m1 % 18446744069414584321 = y1' at *
      generalize F (o1 + i) * Pn.pl ps m2 % 18446744069414584321 = y2' at *
      generalize F (o3 + i) * Pn.pl ps m3 % 18446744069414584321 = y3' at *
      generalize F (o + i) = x at *
      generalize F (o2 + i) = y1 at *
      generalize F (o1 + i) = y2 at *
      generalize F (o3 + i) = y3 at *
      generalize Pn.pl ps m1 = r1 at *
      generalize Pn.pl ps m2 = r2 at *
      generalize Pn.pl ps m3 = r3 at *
      generalize G (o + i) = s0 at *
      generalize G (o1 + i) = s1 at *
      generalize G (o2 + i) = s2 at *
      generalize G (o3 + i) = s3 at *
      have KK := FF.out _ J
      have g1 := cell_regrown KK.kk
      have g2 := cell_regrown KK.kp1
      have g3 := cell_regrown KK.kb
      have f1 := KK.kk
      have f2 := KK.kp1
      have f3 := KK.kb
      have D1 := Lib.hid (fun d os => Calls.regrown_of (X1.out (grow (redrawn wr d) os)))
      go_upto_region 7 with fail
      refine wp_region_quiet_below (by as_aux_lemma => kernel_rfl) (by as_aux_lemma => kernel_rfl) ?_
      repeat (go_big_quiet_step ((go_at_call 42; with_reducible exact D1.out _ _)))
      refine wpQuiet_nil ?_
      intro _ hw'
      obtain ⟨⟨dq, osq⟩, hw''⟩ := hw'
      subst hw''
      have J5 := J.call (below_regrown wr dq osq)
      clear g1 g2 g3 f1 f2 f3 D1 KK J X1
      show Exit.then _ _ _ _ (grow (redrawn wr dq) osq)
      generalize grow (redrawn wr dq) osq = w5 at *
      have KK := FF.out _ J5
      have g1 := cell_regrown KK.kk
      have g2 := cell_regrown KK.kp2
      have g3 := cell_regrown KK.kc
      have f1 := KK.kk
      have f2 := KK.kp2
      have f3 := KK.kc
      have D1 := Lib.hid (fun d os => Calls.regrown_of (X2.out (grow (redrawn w5 d) os)))
      go_upto_region 8 with fail
      refine wp_region_quiet_below (by as_aux_lemma => kernel_rfl) (by as_aux_lemma => kernel_rfl) ?_
      repeat (go_big_quiet_step ((go_at_call 42; with_reducible exact D1.out _ _)))
      refine wpQuiet_nil ?_
      intro _ hw'
      obtain ⟨⟨dq, osq⟩, hw''⟩ := hw'
      subst hw''
      have J6 := J5.call (below_regrown w5 dq osq)
      clear g1 g2 g3 f1 f2 f3 D1 KK J5 X2
      show Exit.then _ _ _ _ (grow (redrawn w5 dq) osq)
      generalize grow (redrawn w5 dq) osq = w6 at *
      have KK := FF.out _ J6
      have g1 := cell_regrown KK.kk
      have g2 := cell_regrown KK.kp3
      have g3 := cell_regrown KK.kd
      have f1 := KK.kk
      have f2 := KK.kp3
      have f3 := KK.kd
      have D1 := Lib.hid (fun d os => Calls.regrown_of (X3.out (grow (redrawn w6 d) os)))
      go_upto_region 9 with fail
      refine wp_region_quiet_below (by as_aux_lemma => kernel_rfl) (by as_aux_lemma => kernel_rfl) ?_
      repeat (go_big_quiet_step ((go_at_call 42; with_reducible exact D1.out _ _)))
      refine wpQuiet_nil ?_
      intro _ hw'
      obtain ⟨⟨dq, osq⟩, hw''⟩ := hw'
      subst hw''
      have J7 := J6.call (below_regrown w6 dq osq)
      clear g1 g2 g3 f1 f2 f3 D1 KK J6 X3
      show Exit.then _ _ _ _ (grow (redrawn w6 dq) osq)
      generalize grow (redrawn w6 dq) osq = w7 at *
      have KK := FF.out _ J7
      have f1 := KK.ka
      go_wp2_with fail
      refine (XC.out _).mono ?_
      rintro e w8 ⟨rfl, b8⟩
      have J8 := J7.call b8
      have C8 := Ce.fresh w8 (.int .u64 (s0 : Nat)) (.int .u64 (s1 : Nat)) (.int .u64 (s2 : Nat)) (.int .u64 (s3 : Nat)) 99
      have J9 := J8.call (below_alloc w8 (.cells #[.int .u64 (s0 : Nat), .int .u64 (s1 : Nat), .int .u64 (s2 : Nat), .int .u64 (s3 : Nat)] 99))
      have hbe : b ≠ w8.heap.size := by have := J8.s; omega
      clear KK f1 J7 b8 XC J8
      go_upto_region 11 with fail
      generalize w8.alloc (.cells #[.int .u64 (s0 : Nat), .int .u64 (s1 : Nat), .int .u64 (s2 : Nat), .int .u64 (s3 : Nat)] 99) = w9 at *
      generalize w8.heap.size = g at *
      have c0 : w9.drew.cell? ⟨g, 0, none⟩ = some (.int .u64 (s0 : Nat)) := C8.c0
      have c1 : w9.drew.cell? ⟨g, 1, none⟩ = some (.int .u64 (s1 : Nat)) := C8.c1
      have c2 : w9.drew.cell? ⟨g, 2, none⟩ = some (.int .u64 (s2 : Nat)) := C8.c2
      have c3 : w9.drew.cell? ⟨g, 3, none⟩ = some (.int .u64 (s3 : Nat)) := C8.c3
      have c0' : w9.cell? ⟨g, 0, none⟩ = some (.int .u64 (s0 : Nat)) := C8.c0
      have c1' : w9.cell? ⟨g, 1, none⟩ = some (.int .u64 (s1 : Nat)) := C8.c1
      have c2' : w9.cell? ⟨g, 2, none⟩ = some (.int .u64 (s2 : Nat)) := C8.c2
      have c3' : w9.cell? ⟨g, 3, none⟩ = some (.int .u64 (s3 : Nat)) := C8.c3
      have K9' := FF.out _ J9
      have ka' := K9'.ka
      have kb' := K9'.kb
      have kc' := K9'.kc
      have kd' := K9'.kd
      have fa' := K9'.fa
      have fb' := K9'.fb
      have fc' := K9'.fc
      have fd' := K9'.fd
      have K9 := FF.out _ J9.drew
      have ka := K9.ka
      have kb := K9.kb
      have kc := K9.kc
      have kd := K9.kd
      have fa := K9.fa
      have fb := K9.fb
      have fc := K9.fc
      have fd := K9.fd
      have hbe2 : ¬ b = g := hbe
      have hbe3 : ¬ g = b := fun e => hbe e.symm
      obtain ⟨n1, n2, n3, n4, n5, n6⟩ := NE.out
      obtain ⟨n1', n2', n3', n4', n5', n6'⟩ := NF.out
      have P9 := Lib.hid (PP.out _ J9.drew)
      have PP := P9
      clear C8 K9 K9' J9 FF hbe P9
      go_region
      all_goals (go_wp2_with fail)
      all_goals go_roundw
      all_goals first
        | exact ⟨i + 1, rfl, by omega, PP.out⟩
        | (simp [Lib.intOf]; omega)
    · have i1 : ¬ (i : Int) < h := by omega
      obtain rfl : i = h := by omega
      have OK := Lib.hid J
      clear J MM MU CR FA PT
      go_wp2
      exact bodyPost_end (v := .tuple #[]) (by simp [results, Tryd.results83, go_sem]) rfl ⟨rfl, OK.out⟩
end Kq
end Go.Proofs.YtnnieiedkjekpaaDoor
