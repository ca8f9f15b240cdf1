/- What the laws of layer 12 share: awake, made. -/
import Derived.Test.YtobpjlgiefnmjaaDoorBlockD
import Derived.Test.YtobpjlgiefnmjaaDoorBlockE
set_option linter.unusedVariables false
namespace Go.Proofs.YtobpjlgiefnmjaaDoor
open Go.RowKit Go.Lib Go.Sort
namespace Bl
open Ww Pl

theorem ws_four (w : World) (x0 x1 x2 x3 : Nat) (h0 : x0 < 100) (h1 : x1 < 100) (h2 : x2 < 100) (h3 : x3 < 100) (t : TypeId) : Ws (w.alloc (.cells #[.int .u64 (x0 : Nat), .int .u64 (x1 : Nat), .int .u64 (x2 : Nat), .int .u64 (x3 : Nat)] t)) (w.alloc (.cells #[.int .u64 (x0 : Nat), .int .u64 (x1 : Nat), .int .u64 (x2 : Nat), .int .u64 (x3 : Nat)] t)).heap.size (some ⟨w.heap.size, 0, none⟩) [x0, x1, x2, x3] := by
  refine ⟨fun i hi => ⟨w.heap.size, 0, rfl, by simp, ?_⟩, fun i hi => ?_⟩
  · rcases i with _ | _ | _ | _ | i
    · simp [go_sem]
    · simp [go_sem]
    · simp [go_sem]
    · simp [go_sem]
    · exact absurd hi (by simp)
  · rcases i with _ | _ | _ | _ | i
    · show x0 < _; omega
    · show x1 < _; omega
    · show x2 < _; omega
    · show x3 < _; omega
    · exact absurd hi (by simp)
theorem ws_1234 (w : World) (t : TypeId) : Ws (w.alloc (.cells #[.int .u64 1, .int .u64 2, .int .u64 3, .int .u64 4] t)) (w.alloc (.cells #[.int .u64 1, .int .u64 2, .int .u64 3, .int .u64 4] t)).heap.size (some ⟨w.heap.size, 0, none⟩) [1, 2, 3, 4] := ws_four w 1 2 3 4 (by decide) (by decide) (by decide) (by decide) t
theorem ws_1324 (w : World) (t : TypeId) : Ws (w.alloc (.cells #[.int .u64 1, .int .u64 3, .int .u64 2, .int .u64 4] t)) (w.alloc (.cells #[.int .u64 1, .int .u64 3, .int .u64 2, .int .u64 4] t)).heap.size (some ⟨w.heap.size, 0, none⟩) [1, 3, 2, 4] := ws_four w 1 3 2 4 (by decide) (by decide) (by decide) (by decide) t
set_option maxHeartbeats 400000 in
set_option maxRecDepth 100000 in
theorem awake (w : World) (hT : Ft.Tab w) : Calls Tryd.prog 8 #[] w fun e w' => e = .returned (.bool true) ∧ Below w.heap.size w w' := by
  have b0 := below_alloc w (.cells #[.int .u64 1, .int .u64 2, .int .u64 3, .int .u64 4] 37)
  have OF := Lib.hid (of_ok ⟨w.heap.size, 0, none⟩ 4 2 2 4 [1, 2, 3, 4] rfl ⟨1, 1, by decide, rfl, rfl⟩ rfl (by decide) _ (hT.below b0) (ws_1234 w 37))
  have TU := Lib.hid (fun W p b cap (B : Bx W p b 2 2 4 cap (Pn.pl [1, 2, 3, 4])) => turn B 1 (by decide) (by decide))
  have WD := Lib.hid (fun W p b cap (B : Bx W p b 2 2 4 cap (tr 2 2 (Pn.pl [1, 2, 3, 4]))) => words B)
  have RE := Lib.hid (show rg (tr 2 2 (Pn.pl [1, 2, 3, 4])) 4 = [1, 3, 2, 4] from by decide)
  have b0 := Lib.hid b0
  clear hT
  go_enter Tryd.func8, Tryd.ntmps8
  go_wp2_with fail
  refine OF.out.mono ?_
  rintro e w1 ⟨v, rfl, p, b, cap, rfl, B, hp, hb, h1⟩
  have c1 := b0.out.trans (h1.mono b0.out.size)
  have TU := Lib.hid (TU.out _ _ _ _ B)
  have hp2 := Lib.hid (Nat.le_trans b0.out.size hp)
  clear OF B h1
  go_wp2_with fail
  refine TU.out.mono ?_
  rintro e w2 ⟨rfl, b2, B2, hb2, o2⟩
  have c2 := Lib.hid (But.new c1 hp2.out o2)
  have WD := Lib.hid (WD.out _ _ _ _ B2)
  clear TU c1 hp2 B2 o2 hb2
  go_wp2_with fail
  refine WD.out.mono ?_
  rintro e w3 ⟨A, ca, rfl, X, h3⟩
  rw [RE.out] at X
  have c3 := Lib.hid (c2.out.trans (h3.mono c2.out.size))
  have SM := Lib.hid (Sm.same A (some ⟨w3.heap.size, 0, none⟩) 4 4 ca 4 [1, 3, 2, 4] rfl rfl (by decide) _ (X.step (below_alloc w3 (.cells #[.int .u64 1, .int .u64 3, .int .u64 2, .int .u64 4] 37))) (ws_1324 w3 _))
  have b4 := Lib.hid (c3.out.trans ((below_alloc w3 (.cells #[.int .u64 1, .int .u64 3, .int .u64 2, .int .u64 4] 37)).mono c3.out.size))
  clear X WD h3 c2 RE
  go_wp2_with fail
  refine SM.out.mono ?_
  rintro e w4 ⟨rfl, h4⟩
  have c4 := Lib.hid (b4.out.trans (h4.mono b4.out.size))
  clear h4 SM
  go_wp2
  go_ret
  exact ⟨by simp [go_sem], c4.out⟩

set_option maxHeartbeats 400000 in
theorem made_walk (A : Option Addr) (n ca : Nat) (a b : Int) (g : Bool) (m : Int) (hm : g = true → IntKind.i64.wrap (a * b) = m) (h : g = false ∨ 256 < n ∨ (n : Int) ≠ m) (w : World)
    (hR : ∀ W, Calls Tryd.prog 10 #[.agg #[.int .i64 a, .int .i64 b]] W fun e w' => e = .returned (.bool g) ∧ Below W.heap.size W w') :
    Calls Tryd.prog 16 #[.agg #[.int .i64 a, .int .i64 b], .slice A n ca] w fun e w' => e = .returned (.pointer none) ∧ Below w.heap.size w w' := by
  have RG := Lib.hid hR
  have HB := Lib.hid (below_alloc w)
  clear hR
  go_enter Tryd.func16, Tryd.ntmps16
  go_wp2_with fail
  refine (RG.out _).mono ?_
  rintro e w1 ⟨rfl, h1⟩
  have c1 := Lib.hid ((HB.out _).trans (h1.mono (HB.out _).size))
  have T1 := (Sh.Tw.fresh w a b 23).below h1
  have t0 := T1.c0
  have t1 := T1.c1
  clear h1 HB RG T1
  cases g
  · clear hm h
    go_wp2
    go_ret
    exact ⟨by simp [go_sem], c1.out⟩
  · have hm := hm rfl
    by_cases h2 : 256 < n
    · have h3 : 256 < (n : Int) := by omega
      clear h
      go_wp2
      go_ret
      exact ⟨by simp [go_sem], c1.out⟩
    · have h3 : ¬ 256 < (n : Int) := by omega
      have h4 : (m != (n : Int)) = true := by
        have : (n : Int) ≠ m := by
          rcases h with h | h | h
          · cases h
          · exact absurd h h2
          · exact h
        simp; exact fun e => this e.symm
      clear h h2
      go_wp2
      go_ret
      exact ⟨by simp [go_sem], c1.out⟩
theorem made_no (A : Option Addr) (n ca : Nat) (a b : Int) (h : ¬ (Sh.Gd a b ∧ n ≤ 256 ∧ a * b = (n : Int))) (w : World) :
    Calls Tryd.prog 16 #[.agg #[.int .i64 a, .int .i64 b], .slice A n ca] w fun e w' => e = .returned (.pointer none) ∧ Below w.heap.size w w' := by
  by_cases g : Sh.Gd a b
  · obtain ⟨g1, g2, g3, g4, g5⟩ := g.bound
    have g6 : 0 < a * b := Int.mul_pos g1 g3
    refine made_walk A n ca a b true (a * b) (fun _ => IntWalk.i64_in _ (by omega)) ?_ w (fun W => Sh.ref a b true (by simp [g]) W)
    by_cases h1 : n ≤ 256
    · exact Or.inr (Or.inr fun e => h ⟨g, h1, e.symm⟩)
    · exact Or.inr (Or.inl (by omega))
  · exact made_walk A n ca a b false 0 (fun h => by cases h) (Or.inl rfl) w (fun W => Sh.ref a b false (by simp [g]) W)
set_option maxHeartbeats 400000 in
theorem made_ok (ad : Addr) (ca R C n : Nat) (xs : List Nat) (hx : xs.length = n) (hg : Sh.Gd (R : Int) (C : Int)) (hn : R * C = n) (hl : n ≤ 256) (w : World) (hT : Ft.Tab w) (X : Ws w w.heap.size (some ad) xs) :
    Calls Tryd.prog 16 #[.agg #[.int .i64 (R : Int), .int .i64 (C : Int)], .slice (some ad) n ca] w fun e w' => ∃ v, e = .returned v ∧ BxN R C n (Pn.pl xs) w w' v := by
  have RG := Lib.hid (fun W => Sh.ref (R : Int) (C : Int) true (by simp [hg]) W)
  have OF := Lib.hid (fun W T X => of_ok ad ca R C n xs hx hg hn (by omega) W T X)
  have HB := Lib.hid (below_alloc w)
  have HT := Lib.hid hT
  have X := Lib.hid X
  have X := X
  have hm : IntKind.i64.wrap ((R : Int) * (C : Int)) = (n : Int) := by rw [← hn, ← Int.natCast_mul]; exact IntWalk.i64_in _ (by omega)
  have h3 : ¬ 256 < (n : Int) := by omega
  have h4 : ((n : Int) != (n : Int)) = false := by simp
  clear hT hg hn hx
  go_enter Tryd.func16, Tryd.ntmps16
  go_wp2_with fail
  refine (RG.out _).mono ?_
  rintro e w1 ⟨rfl, h1⟩
  have c1 := Lib.hid ((HB.out _).trans (h1.mono (HB.out _).size))
  have T1 := (Sh.Tw.fresh w R C 23).below h1
  have t0 := T1.c0
  have t1 := T1.c1
  have OF := Lib.hid (OF.out _ (HT.out.below c1.out) (X.out.step c1.out))
  clear h1 HB RG T1 X HT
  go_wp2_with fail
  refine OF.out.mono ?_
  rintro e w2 ⟨v, rfl, p, b, cap, rfl, B, hp, hb, h2⟩
  have F := Lib.hid (show BxN R C n (Pn.pl xs) w w2 (.pointer (some ⟨p, 0, none⟩)) from ⟨p, b, cap, rfl, B, Nat.le_trans c1.out.size hp, Nat.le_trans c1.out.size hb, c1.out.trans (h2.mono c1.out.size)⟩)
  clear OF B h2 hp hb t0 t1
  go_wp2
  exact bodyPost_ret (v := .pointer (some ⟨p, 0, none⟩)) (by simp [results, Tryd.results16, go_sem]) rfl ⟨_, rfl, F.out⟩
/-- What was there stays, and new blocks may be made and written. -/
structure Kd (w1 w : World) : Prop where
  d : Below w1.heap.size w1 w
section
variable {w1 w w2 : World} {b : Nat}
theorem Kd.refl (w : World) : Kd w w := ⟨Below.refl _ _⟩
theorem Kd.drew (h : Kd w1 w) : Kd w1 w.drew := ⟨h.d.drew⟩
theorem Kd.call (h : Kd w1 w) (hb : Below w.heap.size w w2) : Kd w1 w2 := ⟨h.d.trans (hb.mono h.d.size)⟩
theorem Kd.alloc (h : Kd w1 w) (o : Obj) : Kd w1 (w.alloc o) := h.call (below_alloc w o)
theorem Kd.but (h : Kd w1 w) (o : But b w w2) (hb : w1.heap.size ≤ b) : Kd w1 w2 := ⟨But.new h.d hb o⟩
theorem Kd.trans (h : Kd w1 w) (h2 : Kd w w2) : Kd w1 w2 := h.call h2.d
theorem Kd.tw (h : Kd w1 w) {vb : Nat} {p q : Int} (V : Sh.Tw w1 vb p q) : w.cell? ⟨vb, 0, none⟩ = some (.int .i64 p) ∧ w.cell? ⟨vb, 1, none⟩ = some (.int .i64 q) := ⟨(V.below h.d).c0, (V.below h.d).c1⟩
end
theorem ws_cell {w : World} {B b off : Nat} {xs : List Nat} (R : Ws w B (some ⟨b, off, none⟩) xs) (i : Nat) (hi : i < xs.length) : w.cell? ⟨b, off + i, none⟩ = some (.int .u64 (Pn.pl xs i : Nat)) := by
  obtain ⟨b2, o2, e, _, c⟩ := R.at_ i hi
  replace e := Option.some.inj e
  injection e with e1 e2
  subst e1 e2
  exact c
theorem rg_pl {xs : List Nat} {n : Nat} (hx : xs.length = n) : rg (Pn.pl xs) n = xs := by
  subst hx
  refine List.ext_getElem (by rw [rg_len]) fun i h1 h2 => ?_
  have e1 : (rg (Pn.pl xs) xs.length).getD i 0 = Pn.pl xs i := rg_at _ _ _ h2
  have e2 : xs.getD i 0 = Pn.pl xs i := rfl
  rw [List.getD_eq_getElem?_getD, List.getElem?_eq_getElem h1] at e1
  rw [List.getD_eq_getElem?_getD, List.getElem?_eq_getElem h2] at e2
  exact e1.trans e2.symm
/-- Noughts that were made just now. -/
theorem ws_made (w : World) (n : Nat) (e : TypeId) : Ws (w.alloc (.cells (madeCells #[.int .u64 0] n) e)) (w.alloc (.cells (madeCells #[.int .u64 0] n) e)).heap.size (some ⟨w.heap.size, 0, none⟩) (rg (fun _ => 0) n) :=
  (Wk.made w n e).ws (fun _ _ => by decide) (by simp)
/-- Same, of two rows told by one rule. -/
theorem same_rg {n : Nat} {f g : Nat → Nat} (e : ∀ i, i < n → f i = g i) (hn : n ≤ 1048576) (A B : Option Addr) (ca cb : Nat) (w : World) (Ra : Ws w w.heap.size A (rg f n)) (Rb : Ws w w.heap.size B (rg g n)) :
    Calls Tryd.prog 12 #[.slice A n ca, .slice B n cb] w fun e w' => e = .returned (.bool true) ∧ Below w.heap.size w w' := by
  rw [rg_congr n e] at Ra
  exact Sm.same A B n n ca cb (rg g n) (rg_len _ _).symm (rg_len _ _).symm (by rw [rg_len]; omega) w Ra Rb
end Bl
end Go.Proofs.YtobpjlgiefnmjaaDoor
