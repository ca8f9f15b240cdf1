/- ConvLaws: of every two rows of words and every number the law of convolutions' laws answers true, and changes nothing, where the library's two tables are as their initialisers lay them (the card ties them to the program's text). -/
import Derived.Test.YtnnieiedkjekpaaDoorFrame
import Derived.Test.YtnnieiedkjekpaaDoorConvD
import Derived.Test.YtnnieiedkjekpaaDoorTie
import Derived.Test.YtnnieiedkjekpaaDoorCards
import Derived.Lib.LaidTab
import Derived.LaidMore
import Derived.Stop.Joined
import Derived.SevenTiedAt
set_option linter.unusedVariables false
namespace Go.Proofs.YtnnieiedkjekpaaDoor.convLaws
open Go.ChangeShapes Go.WideShapes Go.ChangeAt Go.RowKit
open Nm Ww Tn Pl Kn Td Cv Lib

set_option maxHeartbeats 400000 in
theorem walk_long (A B : Option Addr) (ca cb n m : Nat) (z : Int) (h : 64 < n) (w : World) (hT : Ft.Tab w) : Calls Tryd.prog 5 #[.slice A n ca, .slice B m cb, .int .i64 z] w fun e w' => e = .returned (.bool true) ∧ Below w.heap.size w w' := by
  have AW := Lib.hid (awake w hT)
  have h1 : (64 : Int) < (n : Int) := by omega
  clear h hT
  go_enter Tryd.func5, Tryd.ntmps5
  go_wp2_with fail
  refine AW.out.mono ?_
  rintro e w1 ⟨rfl, c1⟩
  clear AW
  go_wp2
  go_ret
  exact ⟨by simp [go_sem], c1⟩
set_option maxHeartbeats 400000 in
theorem walk_odd (A B : Option Addr) (ca cb n m : Nat) (z : Int) (h0 : n ≤ 64) (h : m ≠ n) (w : World) (hT : Ft.Tab w) : Calls Tryd.prog 5 #[.slice A n ca, .slice B m cb, .int .i64 z] w fun e w' => e = .returned (.bool true) ∧ Below w.heap.size w w' := by
  have AW := Lib.hid (awake w hT)
  have h1 : ¬ (64 : Int) < (n : Int) := by omega
  have ne : ((m : Int) != (n : Int)) = true := by simp; omega
  clear h h0 hT
  go_enter Tryd.func5, Tryd.ntmps5
  go_wp2_with fail
  refine AW.out.mono ?_
  rintro e w1 ⟨rfl, c1⟩
  clear AW
  go_wp2
  go_ret
  exact ⟨by simp [go_sem], c1⟩
set_option maxHeartbeats 400000 in
theorem walk_len (A B : Option Addr) (ca cb n : Nat) (z : Int) (h0 : n ≤ 64) (h : ∀ j, j ≤ 32 → (n : Int) ≠ ((2 ^ j : Nat) : Int)) (w : World) (hT : Ft.Tab w) : Calls Tryd.prog 5 #[.slice A n ca, .slice B n cb, .int .i64 z] w fun e w' => e = .returned (.bool true) ∧ Below w.heap.size w w' := by
  have AW := Lib.hid (awake w hT)
  have h1 : ¬ (64 : Int) < (n : Int) := by omega
  have FI := Lib.hid (fun W => Ft.ref_any (n : Int) (-1) (fun j hj e => absurd e (h j hj)) (fun _ => rfl) W)
  clear h h0 hT
  go_enter Tryd.func5, Tryd.ntmps5
  go_wp2_with fail
  refine AW.out.mono ?_
  rintro e w1 ⟨rfl, c1⟩
  clear AW
  go_wp2_with fail
  refine (FI.out _).mono ?_
  rintro e w2 ⟨rfl, rfl⟩
  clear FI
  go_wp2
  go_ret
  exact ⟨by simp [go_sem], c1⟩
theorem rwE_congr {f g : Nat → Nat} {n : Nat} {w w1 w' : World} {e : Ending} (he : ∀ i, i < n → f i = g i) (d : Below w.heap.size w w1) (h : RwE f n w1 e w') : RwE g n w e w' := by
  obtain ⟨b, h1, h2, h3, K, h5⟩ := h
  exact ⟨b, h1, Nat.le_trans d.size h2, h3, wk_congr K he, d.trans (h5.mono d.size)⟩
theorem rwA_congr2 {f g : Nat → Nat} {n : Nat} {w w' : World} {e : Ending} (he : ∀ i, i < n → f i = g i) (h : RwA f n w e w') : RwA g n w e w' := by
  obtain ⟨A, ca, h1, R, h5⟩ := h
  rw [rg_congr n he] at R
  exact ⟨A, ca, h1, R, h5⟩
/-- The row 1, 0, 0, .. -/
def one (W : World) (n : Nat) : World := W.alloc (.cells ((madeCells #[.int .u64 0] n).setIfInBounds 0 (.int .u64 1)) 32)
theorem one_eq (W : World) (n : Nat) : (W.alloc (.cells (madeCells #[.int .u64 0] n) 32)).setCell ⟨W.heap.size, 0, none⟩ (.int .u64 ((1 : Nat) : Int)) = one W n := by
  simp [one, go_sem]
theorem one_ws (W : World) (n : Nat) (h0 : 0 < n) : Ws (one W n) (one W n).heap.size (some ⟨W.heap.size, 0, none⟩) (rg (Ww.upd (fun _ => 0) 0 1) n) ∧ Below W.heap.size W (one W n) ∧
    (W.alloc (.cells (madeCells #[.int .u64 0] n) 32)).cell? ⟨W.heap.size, 0, none⟩ = some (.int .u64 0) ∧ (W.alloc (.cells (madeCells #[.int .u64 0] n) 32)).frozen? ⟨W.heap.size, 0, none⟩ = false := by
  have J : JR W.heap.size n (fun _ => 0) (W.alloc (.cells (madeCells #[.int .u64 0] n) 32)) (W.alloc (.cells (madeCells #[.int .u64 0] n) 32)) := ⟨Wk.made W n 32, But.refl _ _, by simp⟩
  have b := below_alloc W (.cells (madeCells #[.int .u64 0] n) 32)
  have J2 := J.put 0 1 h0
  rw [one_eq] at J2
  obtain ⟨c, z⟩ := J.at_ 0 h0
  refine ⟨wk_ws J2.k (fun i => ?_) J2.s, b.trans J2.bel, c, z⟩
  by_cases h : i = 0
  · subst h; rw [upd_same]; decide
  · rw [upd_other _ _ _ h]; decide

set_option maxHeartbeats 1000000 in
set_option maxRecDepth 100000 in
theorem walk_in (ab ao : Nat) (B : Option Addr) (ca cb n k : Nat) (xs ys : List Nat) (z r : Int) (s : Nat) (hx : xs.length = n) (hy : ys.length = n) (hc : n ≤ ca) (hk : k ≤ 19) (hn : n = 2 ^ k) (h0 : n ≤ 64) (hr : z.tmod (n : Int) = r) (hs : s < n) (hrs : (0 ≤ r ∧ r = s) ∨ (r < 0 ∧ 0 < s ∧ r + n = s)) (w : World) (hT : Ft.Tab w) (R : Ws w w.heap.size (some ⟨ab, ao, none⟩) xs) (Q : Ws w w.heap.size B ys) :
    Calls Tryd.prog 5 #[.slice (some ⟨ab, ao, none⟩) n ca, .slice B n cb, .int .i64 z] w fun e w' => e = .returned (.bool true) ∧ Below w.heap.size w w' := by
  have AW := Lib.hid (awake w hT)
  have hp : 0 < n := by omega
  have hl : n ≤ 1048576 := by omega
  obtain ⟨X, hX⟩ : ∃ X : Nat → Nat, X = fun j => cyc (Pn.pl xs) (Pn.pl ys) n j % 18446744069414584321 := ⟨_, rfl⟩
  obtain ⟨Y, hY⟩ : ∃ Y : Nat → Nat, Y = fun j => ngc (Pn.pl xs) (Pn.pl ys) n j % 18446744069414584321 := ⟨_, rfl⟩
  obtain ⟨C, hC⟩ : ∃ C : Nat → Nat, C = fun j => Pn.pl xs j % 18446744069414584321 := ⟨_, rfl⟩
  obtain ⟨S, hS⟩ : ∃ S : Nat → Nat, S = sft (Pn.pl xs) n s := ⟨_, rfl⟩
  obtain ⟨T, hT2⟩ : ∃ T : Nat → Nat, T = sft X n s := ⟨_, rfl⟩
  have fX : ∀ i, X i < 18446744069414584321 := by rw [hX]; exact fun i => Nat.mod_lt _ (by decide)
  have fY : ∀ i, Y i < 18446744069414584321 := by rw [hY]; exact fun i => Nat.mod_lt _ (by decide)
  have fC : ∀ i, C i < 18446744069414584321 := by rw [hC]; exact fun i => Nat.mod_lt _ (by decide)
  have fT : ∀ i, T i < 18446744069414584321 := by rw [hT2]; exact fun i => fX _
  have C1 := Lib.hid (fun W (d : Below w.heap.size w W) => show Calls Tryd.prog 7 #[.slice (some ⟨ab, ao, none⟩) n ca, .slice B n cb] W (RwE X n W) from by
    rw [hX]; exact cyclic k n ca cb _ B xs ys hk hn hx hy W (hT.below d) (R.step d) (Q.step d))
  have C2 := Lib.hid (fun W (d : Below w.heap.size w W) => show Calls Tryd.prog 7 #[.slice B n cb, .slice (some ⟨ab, ao, none⟩) n ca] W (RwE X n W) from by
    refine (cyclic k n cb ca B _ ys xs hk hn hy hx W (hT.below d) (Q.step d) (R.step d)).mono fun _ _ h => rwE_congr (fun i hi => ?_) (Below.refl _ _) h
    rw [hX, cyc_comm _ _ n i hi])
  have C3 := Lib.hid (fun W (d : Below w.heap.size w W) => show Calls Tryd.prog 8 #[.slice (some ⟨ab, ao, none⟩) n ca, .slice B n cb] W (RwE Y n W) from by
    rw [hY]; exact negacyclic k n ca cb _ B xs ys hk hn hx hy W (hT.below d) (R.step d) (Q.step d))
  have C4 := Lib.hid (fun W (d : Below w.heap.size w W) => show Calls Tryd.prog 8 #[.slice B n cb, .slice (some ⟨ab, ao, none⟩) n ca] W (RwE Y n W) from by
    refine (negacyclic k n cb ca B _ ys xs hk hn hy hx W (hT.below d) (Q.step d) (R.step d)).mono fun _ _ h => rwE_congr (fun i hi => ?_) (Below.refl _ _) h
    rw [hY, ngc_comm _ _ n i hi])
  have O5 := Lib.hid (fun W => (one_ws W n hp).2.2)
  have C5 := Lib.hid (fun W (d : Below w.heap.size w W) => show Calls Tryd.prog 7 #[.slice (some ⟨ab, ao, none⟩) n ca, .slice (some ⟨W.heap.size, 0, none⟩) n n] (one W n) (RwE C n W) from by
    obtain ⟨O1, O2, _⟩ := one_ws W n hp
    have D := d.trans (O2.mono d.size)
    refine (cyclic k n ca n _ _ xs (rg (Ww.upd (fun _ => 0) 0 1) n) hk hn hx (rg_len _ _) (one W n) (hT.below D) (R.step D) O1).mono fun _ _ h => rwE_congr (fun i hi => ?_) O2 h
    rw [hC, cyc_one _ _ n i hi (by rw [pl_rg _ _ _ hp, upd_same]) (fun j h1 h2 => by rw [pl_rg _ _ _ h2, upd_other _ _ _ (by omega)])])
  have C6 := Lib.hid (fun W (d : Below w.heap.size w W) => show Calls Tryd.prog 17 #[.slice (some ⟨ab, ao, none⟩) n ca, .int .i64 z] W (RwA S n W) from by
    rw [hS]; exact shift ab ao ca n xs z r s hx hp hl hc hr hs hrs W (R.step d))
  have eT : ∀ i, i < n → cyc (Pn.pl (rg S n)) (Pn.pl ys) n i % 18446744069414584321 = T i := fun i hi => by
    rw [cyc_congr (a' := S) (b' := Pn.pl ys) (fun j hj => pl_rg _ _ _ hj) (fun _ _ => rfl) i, hS, cyc_sft _ _ n s i hs hi, hT2, hX]
    rfl
  have C7 := Lib.hid (fun W A1 c1 (d : Below w.heap.size w W) (R1 : Ws W W.heap.size A1 (rg S n)) => show Calls Tryd.prog 7 #[.slice A1 n c1, .slice B n cb] W (RwE T n W) from
    (cyclic k n c1 cb A1 B (rg S n) ys hk hn (rg_len _ _) hy W (hT.below d) R1 (Q.step d)).mono fun _ _ h => rwE_congr eT (Below.refl _ _) h)
  have E1 := Lib.hid (fun W (d : Below w.heap.size w W) => show Calls Tryd.prog 18 #[.slice (some ⟨ab, ao, none⟩) n ca] W (RwA C n W) from by
    rw [hC]; exact rcanon _ ca n xs hx hl W (R.step d))
  have E2 := Lib.hid (fun W (d : Below w.heap.size w W) => show Calls Tryd.prog 19 #[.slice (some ⟨ab, ao, none⟩) n ca, .int .i64 z] W (RwA S n W) from by
    rw [hS]; exact rshift ab ao ca n xs z r s hx hp hl hr hs hrs W (R.step d))
  have E3 := Lib.hid (fun W b (R1 : Ws W W.heap.size (some ⟨b, 0, none⟩) (rg X n)) => show Calls Tryd.prog 19 #[.slice (some ⟨b, 0, none⟩) n n, .int .i64 z] W (RwA T n W) from by
    refine (rshift b 0 n n (rg X n) z r s (rg_len _ _) hp hl hr hs hrs W R1).mono fun _ _ h => rwA_congr2 (fun i hi => ?_) h
    rw [hT2]
    exact pl_rg _ _ _ (Nat.mod_lt _ hp))
  have FI := Lib.hid (fun W => fits_doc n k (by omega) hn W)
  have SM := Lib.hid (fun (g : Nat → Nat) W A1 A2 c1 c2 (R1 : Ws W W.heap.size A1 (rg g n)) (R2 : Ws W W.heap.size A2 (rg g n)) => same_rg (fun _ _ => rfl) hl A1 A2 c1 c2 W R1 R2)
  have mk := make_words n (by omega) (by omega)
  have n1 : ¬ (64 : Int) < (n : Int) := by omega
  have n0 : (0 : Int) < (n : Int) := by omega
  have k1 : ¬ (k : Int) < 0 := by omega
  unfold one at C5
  clear hX hY hC hS hT2 hx hy hc hk hn h0 hr hs hrs hT R Q eT hl
  go_enter Tryd.func5, Tryd.ntmps5
  go_wp2_with fail
  refine AW.out.mono ?_
  rintro e w1 ⟨rfl, c1⟩
  clear AW
  go_wp2_with fail
  refine (FI.out _).mono ?_
  rintro e w9 ⟨rfl, rfl⟩
  clear FI
  go_wp2_with fail
  refine (C1.out _ c1).mono ?_
  rintro e w2 ⟨b1, rfl, o2, s2, K2, h2⟩
  have X2 := wk_ws K2 fX s2
  have c2 := c1.trans (h2.mono c1.size)
  clear h2 K2 s2 o2 c1 C1
  go_wp2_with fail
  refine (C2.out _ c2).mono ?_
  rintro e w3 ⟨b2, rfl, o3, s3, K3, h3⟩
  have Y3 := wk_ws K3 fX s3
  have c3 := c2.trans (h3.mono c2.size)
  have X3 := X2.step h3
  clear h3 K3 s3 o3 c2 X2 C2
  go_wp2_with fail
  refine (C3.out _ c3).mono ?_
  rintro e w4 ⟨b3, rfl, o4, s4, K4, h4⟩
  have U4 := wk_ws K4 fY s4
  have c4 := c3.trans (h4.mono c3.size)
  have X4 := X3.step h4
  have Y4 := Y3.step h4
  clear h4 K4 s4 o4 c3 X3 Y3 C3
  go_wp2_with fail
  refine (C4.out _ c4).mono ?_
  rintro e w5 ⟨b4, rfl, o5, s5, K5, h5⟩
  have V5 := wk_ws K5 fY s5
  have c5 := c4.trans (h5.mono c4.size)
  have X5 := X4.step h5
  have Y5 := Y4.step h5
  have U5 := U4.step h5
  clear h5 K5 s5 o5 c4 X4 Y4 U4 C4
  obtain ⟨k0, k2⟩ := O5.out w5
  go_wp2_with fail
  refine (C5.out _ c5).mono ?_
  rintro e w6 ⟨b5, rfl, o6, s6, K6, h6⟩
  have Z6 := wk_ws K6 fC s6
  have c6 := c5.trans (h6.mono c5.size)
  have X6 := X5.step h6
  have Y6 := Y5.step h6
  have U6 := U5.step h6
  have V6 := V5.step h6
  clear h6 K6 s6 o6 c5 X5 Y5 U5 V5 C5 O5 k0 k2 mk
  go_wp2_with fail
  refine (C6.out _ c6).mono ?_
  rintro e w7 ⟨AS, cS, rfl, TS7, h7⟩
  have c7 := c6.trans (h7.mono c6.size)
  have X7 := X6.step h7
  have Y7 := Y6.step h7
  have U7 := U6.step h7
  have V7 := V6.step h7
  have Z7 := Z6.step h7
  clear h7 c6 X6 Y6 U6 V6 Z6 C6
  go_wp2_with fail
  refine (C7.out _ _ _ c7 TS7).mono ?_
  rintro e w8 ⟨b7, rfl, o8, s8, K8, h8⟩
  have T8 := wk_ws K8 fT s8
  have c8 := c7.trans (h8.mono c7.size)
  have X8 := X7.step h8
  have Y8 := Y7.step h8
  have U8 := U7.step h8
  have V8 := V7.step h8
  have Z8 := Z7.step h8
  have TS8 := TS7.step h8
  clear h8 K8 s8 o8 c7 X7 Y7 U7 V7 Z7 TS7 C7
  go_wp2_with fail
  refine (SM.out X _ _ _ _ _ X8 Y8).mono ?_
  rintro e w9 ⟨rfl, h9⟩
  have c9 := c8.trans (h9.mono c8.size)
  have X9 := X8.step h9
  have U9 := U8.step h9
  have V9 := V8.step h9
  have Z9 := Z8.step h9
  have TS9 := TS8.step h9
  have T9 := T8.step h9
  clear h9 c8 X8 U8 V8 Z8 TS8 T8
  go_wp2_with fail
  refine (SM.out Y _ _ _ _ _ U9 V9).mono ?_
  rintro e w10 ⟨rfl, h10⟩
  have c10 := c9.trans (h10.mono c9.size)
  have X10 := X9.step h10
  have Z10 := Z9.step h10
  have TS10 := TS9.step h10
  have T10 := T9.step h10
  clear h10 c9 X9 Z9 TS9 T9
  go_wp2_with fail
  refine (E1.out _ c10).mono ?_
  rintro e w11 ⟨AC, cC, rfl, TC11, h11⟩
  have c11 := c10.trans (h11.mono c10.size)
  have X11 := X10.step h11
  have Z11 := Z10.step h11
  have TS11 := TS10.step h11
  have T11 := T10.step h11
  clear h11 c10 X10 Z10 TS10 T10 E1
  go_wp2_with fail
  refine (SM.out C _ _ _ _ _ Z11 TC11).mono ?_
  rintro e w12 ⟨rfl, h12⟩
  have c12 := c11.trans (h12.mono c11.size)
  have X12 := X11.step h12
  have TS12 := TS11.step h12
  have T12 := T11.step h12
  clear h12 c11 X11 TS11 T11
  go_wp2_with fail
  refine (E2.out _ c12).mono ?_
  rintro e w13 ⟨AD, cD, rfl, TD13, h13⟩
  have c13 := c12.trans (h13.mono c12.size)
  have X13 := X12.step h13
  have TS13 := TS12.step h13
  have T13 := T12.step h13
  clear h13 c12 X12 TS12 T12 E2
  go_wp2_with fail
  refine (SM.out S _ _ _ _ _ TS13 TD13).mono ?_
  rintro e w14 ⟨rfl, h14⟩
  have c14 := c13.trans (h14.mono c13.size)
  have X14 := X13.step h14
  have T14 := T13.step h14
  clear h14 c13 X13 T13
  go_wp2_with fail
  refine (E3.out _ b1 X14).mono ?_
  rintro e w15 ⟨AG, cG, rfl, TG15, h15⟩
  have c15 := c14.trans (h15.mono c14.size)
  have T15 := T14.step h15
  clear h15 c14 T14 E3
  go_wp2_with fail
  refine (SM.out T _ _ _ _ _ T15 TG15).mono ?_
  rintro e w16 ⟨rfl, h16⟩
  have c16 := c15.trans (h16.mono c15.size)
  clear h16 c15
  go_wp2
  go_ret
  exact ⟨by simp [go_sem], c16⟩
theorem walk (A B : Option Addr) (ca cb n m : Nat) (xs ys : List Nat) (z : Int) (hx : xs.length = n) (hy : ys.length = m) (hc : n ≤ ca) (w : World) (hT : Ft.Tab w) (R : Ws w w.heap.size A xs) (Q : Ws w w.heap.size B ys) :
    Calls Tryd.prog 5 #[.slice A n ca, .slice B m cb, .int .i64 z] w fun e w' => e = .returned (.bool true) ∧ Below w.heap.size w w' := by
  by_cases h1 : 64 < n
  · exact walk_long A B ca cb n m z h1 w hT
  by_cases h3 : m = n
  · subst h3
    by_cases h : ∃ j, j ≤ 32 ∧ m = 2 ^ j
    · obtain ⟨k, hk, hn⟩ := h
      have k9 : k ≤ 19 := Nat.le_of_not_lt fun c => by
        have := Nat.pow_le_pow_right (n := 2) (by decide) c
        have e20 : 2 ^ 20 = 1048576 := by decide
        omega
      have h0 : 0 < m := by rw [hn]; exact Nat.two_pow_pos k
      obtain ⟨r, s, hr, hs, hrs⟩ := rest_of z m h0
      obtain ⟨ab, ao, rfl, _⟩ := R.at_ 0 (by omega)
      exact walk_in ab ao B ca cb m k xs ys z r s hx hy hc k9 hn (by omega) hr hs hrs w hT R Q
    · exact walk_len A B ca cb m z (by omega) (fun j hj e => h ⟨j, hj, by omega⟩) w hT
  · exact walk_odd A B ca cb n m z (by omega) h3 w hT

theorem g32 : Tryd.prog.globalNamed "math/bits.deBruijn32tab" = some 0 := by kernel_rfl
theorem g64 : Tryd.prog.globalNamed "math/bits.deBruijn64tab" = some 1 := by kernel_rfl
theorem t64 : (Tryd.prog.globals[1]?).map (·.type) = some 91 := by kernel_rfl
/-- What the row's condition gives the walk: the table's cells. -/
theorem of_laid {W : World} (h : laidMetH Tryd.prog Rows.convLawsRow.laid W) : Ft.Tab W := by
  rw [MakeChecks.laidMetH_plain _ _ _ (by kernel_rfl)] at h
  obtain ⟨ps, ⟨g0, t0, cs0, f0, p0, q0, hg0, ht0, hv0, hd0, ⟨g1, t1, cs1, f1, p1, q1, hg1, ht1, hv1, hd1, _, _⟩, _⟩, _, _⟩ := h
  obtain rfl := Option.some.inj (g64.symm.trans hg1)
  obtain rfl := Option.some.inj (t64.symm.trans ht1)
  have hd2 : DataW.trod _ Tryd.prog W 0 _ false f1 91 cs1.toList = some (Lib.tabData .u8 (Lib.deBruijn64tab.map Int.ofNat), p1) := hd1
  have hc := Lib.cells_of_tab Tryd.underlying91 Tryd.underlying5 (by kernel_rfl) (by kernel_rfl) hd2
  intro i hi
  have c := World.var?_cell hg1 hv1 i
  rw [c, ← Array.getElem?_toList, hc]
  have hl : Lib.deBruijn64tab.length = 64 := by decide
  simp [List.getD, hl, hi]

/-- The door's own heap meets the condition. -/
theorem door_met (os : Os) (args : Array Value) : laidMetH Tryd.prog Rows.convLawsRow.laid ((World.doorLaid Tryd.prog 400 os).forCall (fun _ _ => 0) ⟨#[], args, []⟩).memory :=
  laidMetH_of_parts3 (fuel := 8) (laidMet_of_run' 8 (by kernel_rfl) (by kernel_rfl)) (by kernel_rfl) (by kernel_rfl)
set_option maxRecDepth 100000 in
theorem lifted (os : Os) (started : os.Started) (H : Type) (enc : TypeId × Value → H) :
    ReturnsInHanded {} Tryd.checked os 5 .any (fun w args => (Rows.convLawsSpec.pre enc Tryd.prog Tryd.f5 [] false w args ∧ laidMetH Tryd.prog Rows.convLawsRow.laid w) ∧ sizedMet enc Tryd.prog Tryd.f5 (OpenSpec.ofChange Rows.convLawsSpec) false w args)
      (Rows.convLawsSpec.post enc Tryd.prog Tryd.f5 false true false false) := by
  refine returnsInHanded_of_change_and (C := Tryd.checked) (X := fun w _ => laidMetH Tryd.prog Rows.convLawsRow.laid w) (fun _ _ _ hh h => h.of_heap hh) Fr.own started (by kernel_rfl) Tryd.func5
    (ChangeSpec.witness_shaped (enc := enc) (C := Tryd.checked) (os := os) (X := fun w _ => laidMetH Tryd.prog Rows.convLawsRow.laid w) false (World.doorLaid Tryd.prog 400 os) #[.slice none 0 0, .slice none 0 0, .int .i64 0] 8 rfl (World.shaped_of_RefB (by kernel_rfl) (by kernel_rfl)) (by kernel_rfl) (by kernel_rfl) (by kernel_rfl) (door_met os _)) ?_
  intro W base args ds gs before hval0 hW _ _ hL _
  have hval : ∀ (j : Nat) t v, Tryd.f5.params[j]? = some t → args[j]? = some v → Value.okWide Tryd.prog W .any base t v := hval0
  have hW' := hW
  obtain ⟨p, q, hA0, hV, rfl, hfz, hnd⟩ := hW
  have hA : DataW.TrodAll enc Tryd.prog W 0 (fun _ => true) true Tryd.f5.params.toList args.toList ds p := hA0
  obtain ⟨rfl, rfl⟩ := trodVars_none hV
  rw [Tryd.params5] at hA hval
  obtain ⟨v0, vs0, d0, ds0, p0, q0, hargs, rfl, rfl, h0, r0⟩ := trodAll_cons hA
  obtain ⟨v1, vs1, d1, ds1, p1, q1, rfl, rfl, rfl, h1, r1⟩ := trodAll_cons r0
  obtain ⟨v2, vs2, d2, ds2, p2, q2, rfl, rfl, rfl, h2, r2⟩ := trodAll_cons r1
  obtain ⟨rfl, rfl, rfl⟩ := trodAll_nil r2
  obtain rfl : args = #[v0, v1, v2] := by cases args; simp_all
  obtain ⟨A0, n0, c0, rfl⟩ := okWide_slice Tryd.underlying22 (hval 0 22 v0 rfl rfl)
  obtain ⟨fuel0, hf0⟩ := h0
  obtain ⟨xs0, rfl, lc0, lm0, R0⟩ := Ww.open_words hf0
  obtain ⟨A1, n1, c1, rfl⟩ := okWide_slice Tryd.underlying22 (hval 1 22 v1 rfl rfl)
  obtain ⟨fuel1, hf1⟩ := h1
  obtain ⟨xs1, rfl, lc1, lm1, R1⟩ := Ww.open_words hf1
  obtain ⟨x2, rfl, rfl, rfl, w2⟩ := open_int Tryd.underlying3 (hval 2 3 v2 rfl rfl) h2
  have b2 : -9223372036854775808 ≤ x2 ∧ x2 ≤ 9223372036854775807 := by simpa [Lit.wf, IntKind.min, IntKind.max, IntKind.signed, IntKind.bits] using w2
  simp only [List.append_nil] at hW' hA0
  refine (walk A0 A1 c0 c1 xs0.length xs1.length xs0 xs1 x2 rfl rfl (by omega) W (of_laid hL) R0 R1).mono fun e W' ⟨he, hb⟩ => ?_
  subst he
  exact ⟨_, rfl, Fr.law_post (tb := 4) hW' hA0 rfl rfl rfl Tryd.underlying4 (by rw [Tryd.params5]; intro t ht; simp at ht; rcases ht with rfl | rfl | rfl; all_goals exact ⟨by kernel_rfl, of_decide_eq_true (by kernel_rfl)⟩) hb⟩

theorem row_holds : Rows.ConvLawsSaid :=
  OpenClaim.holds_of_wide 5 Tryd.f5 rfl rfl rfl rfl rfl rfl rfl ⟨rfl, rfl, rfl, rfl, rfl⟩ rfl rfl rfl rfl rfl (by kernel_rfl) Tryd.func5 (by kernel_rfl)
    (of_decide_eq_true (by kernel_rfl)) (by unfold Func.isWrapper; first | (rw [if_pos (by decide +kernel)]; kernel_rfl) | (rw [if_neg (by decide +kernel)]; exact ⟨rfl, rfl⟩))
    (fun os started H enc _ => lifted os started H enc)

theorem proved : Rows.ConvLawsCardSaid :=
  Claim7.holds_tied_plain_at .later [] [.data, .data] true Rows.convLawsCard.stood.harness false
    row_holds (fun _ h => by cases h) (by kernel_rfl) (fun _ h => by cases h) convLaws_row_tie rfl ⟨rfl, rfl⟩ (by kernel_rfl) rfl
    (fun f fn hf hfn => by
      obtain rfl : f = 5 := Option.some.inj ((show Tryd.prog.funcNamed "abacist/abacistlaw13.ConvLaws" = some 5 by kernel_rfl).symm.trans hf) |>.symm
      obtain rfl : fn = Tryd.f5 := (Option.some.inj (Tryd.func5.symm.trans hfn)).symm
      exact ⟨by kernel_rfl, fun j t ht => by
        rw [Tryd.params5] at ht
        have hm : t ∈ [22, 3] := by simpa using Array.mem_of_getElem? ht
        have hall : ([22, 3].all fun u => !Tryd.prog.wantsStandIn u) = true := by kernel_rfl
        exact (show Tryd.prog.wantsStandIn t = false by simpa using List.all_eq_true.1 hall t hm)⟩)
    (by kernel_rfl)
end Go.Proofs.YtnnieiedkjekpaaDoor.convLaws
