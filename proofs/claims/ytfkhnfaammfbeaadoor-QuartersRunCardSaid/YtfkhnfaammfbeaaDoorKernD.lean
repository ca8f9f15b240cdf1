/- Contracts of package kern2: Plain, Run. -/
import Derived.Test.YtfkhnfaammfbeaaDoorKernC
import Derived.Test.YtfkhnfaammfbeaaDoorRevP
import Derived.Laws.CopyOwn
set_option linter.unusedVariables false
namespace Go.Proofs.YtfkhnfaammfbeaaDoor
open Go.RowKit Go.Lib Go.Sort
namespace Kn
open Nm Ww Tn Pl Td

/-- A row of which the first i words are g's. -/
def mx (f g : Nat → Nat) (i j : Nat) : Nat := if j < i then g j else f j
theorem mx_zero (f g : Nat → Nat) : mx f g 0 = f := by
  funext j
  exact if_neg (Nat.not_lt_zero j)
theorem mx_upd (f g : Nat → Nat) (i : Nat) : upd (mx f g i) i (g i) = mx f g (i + 1) := by
  funext j
  by_cases e : j = i
  · subst e; rw [upd_same]; exact (if_pos (Nat.lt_succ_self j)).symm
  · rw [upd_other _ _ _ e]
    unfold mx
    by_cases h : j < i
    · rw [if_pos h, if_pos (by omega)]
    · rw [if_neg h, if_neg (by omega)]
theorem mx_all (f g : Nat → Nat) (n j : Nat) (h : j < n) : mx f g n j = g j := if_pos h
/-- A row in another block than the one that is written. -/
theorem but_ws {b g : Nat} {w w1 : World} {ys : List Nat} (h : But b w w1) (hne : g ≠ b) (R : Ws w w.heap.size (some ⟨g, 0, none⟩) ys) : Ws w1 w1.heap.size (some ⟨g, 0, none⟩) ys := by
  refine ⟨fun i hi => ?_, R.lt⟩
  obtain ⟨b2, off, e, hb, c⟩ := R.at_ i hi
  injection e with e
  injection e with e1 e2
  subst e1 e2
  exact ⟨_, _, rfl, Nat.lt_of_lt_of_le hb h.bel.size, by rw [h.cell _ hne hb]; exact c⟩

theorem turn_rg (A : Option Addr) (ca n k : Nat) (f : Nat → Nat) (hn : n = 2 ^ k) (hk : k ≤ 32) (w : World) (hT : Ft.Tab w) (R : Ws w w.heap.size A (rg f n)) :
    Calls Tryd.prog 24 #[.slice A n ca] w fun e w' => ∃ g, e = .returned (.tuple #[.slice (some ⟨g, 0, none⟩) n n, .int .i64 0]) ∧ w.heap.size ≤ g ∧ Ws w' w'.heap.size (some ⟨g, 0, none⟩) (rg (fun i => f (Rn.tn k 1 i)) n) ∧ Below w.heap.size w w' := by
  have c := Rv.turn_new A ca k (rg f n) (by rw [rg_len, hn]) hk w hT R
  have e : Rv.tl k 1 (rg f n) = rg (fun i => f (Rn.tn k 1 i)) n := by
    unfold Rv.tl
    rw [rg_len]
    exact rg_congr n fun i hi => rg_at _ _ _ (by rw [hn]; exact Rn.tn_lt k 1 i (Nat.mod_one k))
  rw [e, rg_len] at c
  refine c.mono fun e w' ⟨g, h1, h2⟩ => ⟨g, by rw [rg_len] at h1; exact h1, h2⟩

set_option maxHeartbeats 400000 in
theorem plain_len {w : World} {p : Nat} {v1 v2 v3 : Value} (k : Nat) (hk : k ≤ 20) (C : Ce w p (.int .i64 (k : Int)) v1 v2 v3) (A : Option Addr) (n ca : Nat) (d : Int) (hn : n ≠ 2 ^ k) :
    Calls Tryd.prog 23 #[.pointer (some ⟨p, 0, none⟩), .slice A n ca, .int .i64 d] w fun e w' => e = .returned (.int .i64 4) ∧ w = w' := by
  have K := Lib.hid (kOf C)
  have s1 := Bt.pow_i64 k (by omega)
  obtain ⟨N, hN⟩ : ∃ N, N = 2 ^ k := ⟨_, rfl⟩
  rw [← hN] at s1 hn
  have ne : ((n : Int) != (N : Int)) = true := by simp; omega
  clear hN C hn
  go_enter Tryd.func23, Tryd.ntmps23
  go_wp2_with fail
  refine K.out.mono ?_
  rintro e w1 ⟨rfl, rfl⟩
  go_wp2
  go_ret
  exact ⟨by simp, rfl⟩
set_option maxHeartbeats 400000 in
theorem plain_kind {w : World} {p : Nat} {v1 v2 v3 : Value} (k : Nat) (hk : k ≤ 20) (C : Ce w p (.int .i64 (k : Int)) v1 v2 v3) (A : Option Addr) (n ca : Nat) (d : Int) (hn : n = 2 ^ k) (h0 : d ≠ 0) (h1 : d ≠ 1) :
    Calls Tryd.prog 23 #[.pointer (some ⟨p, 0, none⟩), .slice A n ca, .int .i64 d] w fun e w' => e = .returned (.int .i64 18) ∧ w = w' := by
  have K := Lib.hid (kOf C)
  have PW := Lib.hid (powers_kind (some ⟨p, 0, none⟩) d h0 h1 w)
  have s1 := Bt.pow_i64 k (by omega)
  rw [← hn] at s1
  clear C hn h0 h1
  go_enter Tryd.func23, Tryd.ntmps23
  go_wp2_with fail
  refine K.out.mono ?_
  rintro e w1 ⟨rfl, rfl⟩
  go_wp2_with fail
  refine PW.out.mono ?_
  rintro e w1 ⟨rfl, rfl⟩
  go_wp2
  go_ret
  exact ⟨by simp, rfl⟩

set_option maxHeartbeats 1000000 in
set_option maxRecDepth 100000 in
theorem plain_core {w : World} {p : Nat} {v1 v2 v3 : Value} (k : Nat) (hk : k ≤ 20) (C : Ce w p (.int .i64 (k : Int)) v1 v2 v3) (b n ca m : Nat) (T : Option Addr) (d : Int) (hn : n = 2 ^ k) (hl : n ≤ 1048576) (f x G H : Nat → Nat) (ps : List Nat)
    (hP : Calls Tryd.prog 41 #[.pointer (some ⟨p, 0, none⟩), .int .i64 d] w fun e w' => e = .returned (.tuple #[.slice T m m, .int .i64 0]) ∧ w = w')
    (hTU : Calls Tryd.prog 24 #[.slice (some ⟨b, 0, none⟩) n ca] w fun e w' => ∃ g, e = .returned (.tuple #[.slice (some ⟨g, 0, none⟩) n n, .int .i64 0]) ∧ w.heap.size ≤ g ∧ Ws w' w'.heap.size (some ⟨g, 0, none⟩) (rg x n) ∧ Below w.heap.size w w')
    (hJ : ∀ W, JR b n G W W → Wo W b T ps → Calls Tryd.prog 43 #[.slice (some ⟨b, 0, none⟩) n ca, .slice T m m] W fun e w' => e = .returned (.tuple #[]) ∧ JR b n H W w')
    (hO : ∀ i, x i < 18446744073709551616 → ∀ W, Calls Tryd.prog 42 #[.int .u64 (x i : Nat)] W fun e w' => e = .returned (.int .u64 (G i : Nat)) ∧ W = w')
    (J : JR b n f w w) (R : Wo w b T ps) :
    Calls Tryd.prog 23 #[.pointer (some ⟨p, 0, none⟩), .slice (some ⟨b, 0, none⟩) n ca, .int .i64 d] w fun e w' => e = .returned (.int .i64 0) ∧ JR b n H w w' := by
  have K := Lib.hid (kOf C)
  have PW := Lib.hid hP
  have TU := Lib.hid hTU
  have JH := Lib.hid hJ
  have OF := Lib.hid hO
  have s1 := Bt.pow_i64 k (by omega)
  rw [← hn] at s1
  have n1 : (n : Int) ≤ 1048576 := by omega
  clear C hn hP hTU hJ hO
  go_enter Tryd.func23, Tryd.ntmps23
  go_wp2_with fail
  refine K.out.mono ?_
  rintro e w1 ⟨rfl, rfl⟩
  go_wp2_with fail
  refine PW.out.mono ?_
  rintro e w1 ⟨rfl, rfl⟩
  go_wp2_with fail
  refine TU.out.mono ?_
  rintro e w2 ⟨g, rfl, hg, Y, d2⟩
  have J2 := J.call d2
  have gb : g ≠ b := by have := J.s; omega
  have ST := Lib.hid (show Ta b n (mx f G 0) w2 w2 by rw [mx_zero]; exact ⟨J2.k, But.refl _ _⟩)
  have B2 := J2.o
  have R2 := R.but B2
  have s2 := J2.s
  clear K PW TU J J2 d2 R
  go_wp2_with fail
  go_loopw [39] (fun v39 wr => ∃ i : Nat, v39 = .int .i64 (i : Int) ∧ i ≤ n ∧ Ta b n (mx f G i) w2 wr) (fun v39 _ => n - (Lib.intOf v39).toNat)
  case atStart => exact ⟨0, rfl, Nat.zero_le _, ST.out⟩
  case round =>
    obtain ⟨i, rfl, hi, T1⟩ := hrel
    clear ST
    by_cases hlt : i < n
    · have i1 : (i : Int) < n := by omega
      have Y1 := but_ws T1.o gb Y
      obtain ⟨b3, o3, e3, hB3, c3⟩ := Y1.at_ i (by rw [rg_len]; exact hlt)
      injection e3 with e3
      injection e3 with e4 e5
      subst e4 e5
      rw [rg_at _ _ _ hlt, Nat.zero_add] at c3
      have lt3 := Y1.lt i (by rw [rg_len]; exact hlt)
      rw [rg_at _ _ _ hlt] at lt3
      have O := Lib.hid (OF.out i lt3)
      obtain ⟨k0, k1⟩ := T1.at_ i hlt
      have PT := Lib.hid (show Ta b n (mx f G (i + 1)) w2 (wr.setCell ⟨b, i, none⟩ (.int .u64 (G i : Nat))) by rw [← mx_upd]; exact T1.put i (G i) hlt)
      clear Y1 T1 lt3
      generalize mx f G i i = v0 at *
      generalize G i = v1' at *
      generalize x i = v2' at *
      go_wp2_with fail
      refine (O.out _).mono ?_
      rintro e w3 ⟨rfl, rfl⟩
      go_wp2_with fail
      go_roundw
      case rel => exact ⟨i + 1, rfl, by omega, PT.out⟩
      case measure => simp [Lib.intOf]; omega
    · have i1 : ¬ (i : Int) < n := by omega
      obtain rfl : i = n := by omega
      have J3 : JR b i G w2 wr := ⟨(T1.congr (g := G) fun j hj => mx_all f G i j hj).k, T1.o, Nat.lt_of_lt_of_le s2 T1.o.bel.size⟩
      have R3 := R2.but T1.o
      have J4 := Lib.hid (JH.out _ J3.self R3)
      have B3 := But.trans B2 J3.o
      clear T1 JH OF
      go_wp2_with fail
      refine J4.out.mono ?_
      rintro e w4 ⟨rfl, J5⟩
      have J6 := Lib.hid (J5.trans B3)
      clear J5
      go_wp2
      go_ret
      exact ⟨by simp, J6.out⟩

/-- The row's plain transform, in its place. -/
theorem plain_ka {w : World} {p bf bi : Nat} (k d : Nat) (hk : k ≤ 20) (hd : d ≤ 1) (b n ca : Nat) (hn : n = 2 ^ k) (hca : n ≤ ca) (f : Nat → Nat) (hf : ∀ i, i < n → f i < 18446744073709551616) (hT : Ft.Tab w) (Z : Ka w b k p bf bi) (J : JR b n f w w) :
    Calls Tryd.prog 23 #[.pointer (some ⟨p, 0, none⟩), .slice (some ⟨b, 0, none⟩) n ca, .int .i64 (d : Int)] w fun e w' => e = .returned (.int .i64 0) ∧ JR b n (tf f n (rd k d)) w w' := by
  have hl : n ≤ 1048576 := by rw [hn]; exact Nat.le_trans (Nat.pow_le_pow_right (by decide) hk) (show 2 ^ 20 ≤ 1048576 by decide)
  have R : Ws w w.heap.size (some ⟨b, 0, none⟩) (rg f n) := J.k.ws hf J.s
  have TU := turn_rg (some ⟨b, 0, none⟩) ca n k f hn (by omega) w hT R
  have OF := fun i (hi : f (Rn.tn k 1 i) < 18446744073709551616) W => Gd.of (f (Rn.tn k 1 i)) hi W
  have hd2 : d = 0 ∨ d = 1 := by omega
  rcases hd2 with rfl | rfl
  · exact plain_core k hk Z.c b n ca _ _ 0 hn hl f _ (fun i => f (Rn.tn k 1 i) % 18446744069414584321) _ _ (powers_fwd Z.c) TU (fun W J R => joinHalves b n ca k 0 _ _ _ hk hn rfl hca f W J R) OF J Z.rf
  · exact plain_core k hk Z.c b n ca _ _ 1 hn hl f _ (fun i => f (Rn.tn k 1 i) % 18446744069414584321) _ _ (powers_inv Z.c) TU (fun W J R => joinHalves b n ca k 1 _ _ _ hk hn rfl hca f W J R) OF J Z.ri
theorem plain {w : World} {p bf bi : Nat} (k d : Nat) (hk : k ≤ 20) (hd : d ≤ 1) (b n ca : Nat) (hn : n = 2 ^ k) (hca : n ≤ ca) (f : Nat → Nat) (hf : ∀ i, i < n → f i < 18446744073709551616) (hT : Ft.Tab w) (Z : Kr w b k p bf bi) (J : JR b n f w w) :
    Calls Tryd.prog 23 #[.pointer (some ⟨p, 0, none⟩), .slice (some ⟨b, 0, none⟩) n ca, .int .i64 (d : Int)] w fun e w' => e = .returned (.int .i64 0) ∧ JR b n (tf f n (rd k d)) w w' :=
  plain_ka k d hk hd b n ca hn hca f hf hT (Z.aside (Nat.le_of_lt J.s)) J
end Kn
end Go.Proofs.YtfkhnfaammfbeaaDoor
