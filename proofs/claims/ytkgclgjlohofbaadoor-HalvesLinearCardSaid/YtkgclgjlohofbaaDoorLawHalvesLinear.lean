/- HalvesLinear: of any two rows, word and direction the law of sums, multiples and turned rows answers true, and changes nothing, where the library's two tables are as their initialisers lay them (the card ties them to the program's text). -/
import Derived.Test.YtkgclgjlohofbaaDoorFrame
import Derived.Test.YtkgclgjlohofbaaDoorKernI
import Derived.Test.YtkgclgjlohofbaaDoorTie
import Derived.Test.YtkgclgjlohofbaaDoorCards
import Derived.Lib.LaidTab
import Derived.LaidMore
import Derived.Stop.Joined
import Derived.SevenTiedAt
set_option linter.unusedVariables false
namespace Go.Proofs.YtkgclgjlohofbaaDoor.halvesLinear
open Go.ChangeShapes Go.WideShapes Go.ChangeAt Go.RowKit
open Kn Td Tn Ww Pl

set_option maxHeartbeats 1000000 in
set_option maxRecDepth 100000 in
theorem walk_long (A B : Option Addr) (ca cb n m c : Nat) (d r : Int) (hF : ∀ W, Calls Tryd.prog 16 #[.int .i64 (n : Int)] W fun e w' => e = .returned (.int .i64 r) ∧ W = w') (hl : 64 < n) (w : World) (hT : Ft.Tab w) :
    Calls Tryd.prog 5 #[.slice A n ca, .slice B m cb, .int .u64 (c : Nat), .int .i64 d] w fun e w' => e = .returned (.bool true) ∧ Below w.heap.size w w' := by
  have FF := Lib.hid hF
  clear hF
  have h1 : 64 < (n : Int) := by omega
  go_enter Tryd.func5, Tryd.ntmps5
  go_wp2_with fail
  refine (Kn.awake _ hT).mono ?_
  rintro e w1 ⟨rfl, c1⟩
  go_wp2_with fail
  refine (FF.out _).mono ?_
  rintro e w' ⟨rfl, rfl⟩
  go_wp2
  go_ret
  exact ⟨by simp [go_sem], c1⟩

set_option maxHeartbeats 1000000 in
set_option maxRecDepth 100000 in
theorem walk_other (A B : Option Addr) (ca cb n m c : Nat) (d r : Int) (hF : ∀ W, Calls Tryd.prog 16 #[.int .i64 (n : Int)] W fun e w' => e = .returned (.int .i64 r) ∧ W = w') (hl : n ≤ 64 ∧ m ≠ n) (w : World) (hT : Ft.Tab w) :
    Calls Tryd.prog 5 #[.slice A n ca, .slice B m cb, .int .u64 (c : Nat), .int .i64 d] w fun e w' => e = .returned (.bool true) ∧ Below w.heap.size w w' := by
  have FF := Lib.hid hF
  clear hF
  have h1 : ¬ 64 < (n : Int) := by omega
  have h2 : ((m : Int) != (n : Int)) = true := by simp; omega
  go_enter Tryd.func5, Tryd.ntmps5
  go_wp2_with fail
  refine (Kn.awake _ hT).mono ?_
  rintro e w1 ⟨rfl, c1⟩
  go_wp2_with fail
  refine (FF.out _).mono ?_
  rintro e w' ⟨rfl, rfl⟩
  go_wp2
  go_ret
  exact ⟨by simp [go_sem], c1⟩

set_option maxHeartbeats 1000000 in
set_option maxRecDepth 100000 in
theorem walk_none (A B : Option Addr) (ca cb n m c : Nat) (d r : Int) (hF : ∀ W, Calls Tryd.prog 16 #[.int .i64 (n : Int)] W fun e w' => e = .returned (.int .i64 r) ∧ W = w') (hl : n ≤ 64 ∧ m = n ∧ r < 0) (w : World) (hT : Ft.Tab w) :
    Calls Tryd.prog 5 #[.slice A n ca, .slice B m cb, .int .u64 (c : Nat), .int .i64 d] w fun e w' => e = .returned (.bool true) ∧ Below w.heap.size w w' := by
  have FF := Lib.hid hF
  clear hF
  obtain ⟨h0, rfl, h3⟩ := hl
  have h1 : ¬ 64 < (m : Int) := by omega
  go_enter Tryd.func5, Tryd.ntmps5
  go_wp2_with fail
  refine (Kn.awake _ hT).mono ?_
  rintro e w1 ⟨rfl, c1⟩
  go_wp2_with fail
  refine (FF.out _).mono ?_
  rintro e w' ⟨rfl, rfl⟩
  go_wp2
  go_ret
  exact ⟨by simp [go_sem], c1⟩

set_option maxHeartbeats 1000000 in
set_option maxRecDepth 100000 in
theorem walk_kind (A B : Option Addr) (ca cb n m c : Nat) (d r : Int) (hF : ∀ W, Calls Tryd.prog 16 #[.int .i64 (n : Int)] W fun e w' => e = .returned (.int .i64 r) ∧ W = w') (hl : n ≤ 64 ∧ m = n ∧ 0 ≤ r ∧ d ≠ 0 ∧ d ≠ 1) (w : World) (hT : Ft.Tab w) :
    Calls Tryd.prog 5 #[.slice A n ca, .slice B m cb, .int .u64 (c : Nat), .int .i64 d] w fun e w' => e = .returned (.bool true) ∧ Below w.heap.size w w' := by
  have FF := Lib.hid hF
  clear hF
  obtain ⟨h0, rfl, h3, h4, h5⟩ := hl
  have h1 : ¬ 64 < (m : Int) := by omega
  have h6 : ¬ r < 0 := by omega
  have d0 : (d != 0) = true := by simp [h4]
  have d1 : (d != 1) = true := by simp [h5]
  clear h3 h4 h5
  go_enter Tryd.func5, Tryd.ntmps5
  go_wp2_with fail
  refine (Kn.awake _ hT).mono ?_
  rintro e w1 ⟨rfl, c1⟩
  go_wp2_with fail
  refine (FF.out _).mono ?_
  rintro e w' ⟨rfl, rfl⟩
  go_wp2
  go_ret
  exact ⟨by simp [go_sem], c1⟩

/-- What the last loop keeps: four rows of the transforms' own. -/
structure LI (w wr : World) (bx by_ bz bu n : Nat) (gx gy gz gu : Nat → Nat) : Prop where
  x : Wk wr bx 0 n gx
  y : Wk wr by_ 0 n gy
  z : Wk wr bz 0 n gz
  u : Wk wr bu 0 n gu
  b : Below w.heap.size w wr
theorem LI.drewN {w wr : World} {bx by_ bz bu n : Nat} {gx gy gz gu : Nat → Nat} (h : LI w wr bx by_ bz bu n gx gy gz gu) (k : Nat) : LI w (wr.drewN k) bx by_ bz bu n gx gy gz gu := ⟨h.x.drewN k, h.y.drewN k, h.z.drewN k, h.u.drewN k, below_drewN h.b k⟩
set_option maxHeartbeats 1000000 in
set_option maxRecDepth 100000 in
theorem walk_in_0 (A B : Option Addr) (ca cb n c k : Nat) (xs ys : List Nat) (hx : xs.length = n) (hy : ys.length = n) (hl : n ≤ 64) (hk : k ≤ 10) (hn : n = 2 ^ k) (hc : c < 18446744073709551616) (w : World) (hT : Ft.Tab w) (R : Ws w w.heap.size A xs) (S : Ws w w.heap.size B ys) :
    Calls Tryd.prog 5 #[.slice A n ca, .slice B n cb, .int .u64 (c : Nat), .int .i64 0] w fun e w' => e = .returned (.bool true) ∧ Below w.heap.size w w' := by
  have h1 : ¬ 64 < (n : Int) := by omega
  have k0 : ¬ (k : Int) < 0 := by omega
  have K := Lib.hid (fun W => fits_doc n k (by omega) hn W)
  have n0 : 0 < n := by rw [hn]; exact Nat.two_pow_pos k
  obtain ⟨SF, hSF⟩ : ∃ g : Nat → Nat, g = fun i => (Pn.pl xs i + Pn.pl ys i * c % 18446744069414584321) % 18446744069414584321 := ⟨_, rfl⟩
  obtain ⟨TF, hTF⟩ : ∃ g : Nat → Nat, g = fun i => Pn.pl xs ((i + n - 1) % n) := ⟨_, rfl⟩
  have MB := Lib.hid (fun i W => Gr.mul (Pn.pl ys i) c hc W)
  have AB := Lib.hid (fun i W => show Calls Tryd.prog 19 #[.int .u64 (Pn.pl xs i : Nat), .int .u64 ((Pn.pl ys i * c % 18446744069414584321 : Nat) : Int)] W fun e w' => e = .returned (.int .u64 (SF i : Nat)) ∧ W = w' by rw [hSF]; exact Gr.add _ _ W)
  have TE := Lib.hid (fun i => show TF i = Pn.pl xs ((i + n - 1) % n) by rw [hTF])
  have S64 := Lib.hid (fun i => show SF i < 18446744073709551616 by rw [hSF]; exact mod64 _)
  have T64 := Lib.hid (fun i => show TF i < 18446744073709551616 by rw [hTF]; exact pl64 R _)
  have TX := Lib.hid (fun W T R => transform A n ca k 0 xs (by omega) (by decide) hn hx W T R)
  have TY := Lib.hid (fun W T R => transform B n cb k 0 ys (by omega) (by decide) hn hy W T R)
  have TR := Lib.hid (fun g A1 c1 W T R => transform A1 n c1 k 0 (rg g n) (by omega) (by decide) hn (rg_len _ _) W T R)
  have EZ := Lib.hid (fun j => show ft k 0 (Pn.pl (rg SF n)) j = (ft k 0 (Pn.pl xs) j + ft k 0 (Pn.pl ys) j * c % 18446744069414584321) % 18446744069414584321 by
    rw [ft_congr (y := SF) (fun i hi => pl_rg _ _ _ (by omega)), hSF]; exact ft_lin k _ c j _ _)
  have EU := Lib.hid (fun j => show ft k 0 (Pn.pl (rg TF n)) j = ft k 0 (Pn.pl xs) j * (rd k 0 ^ j % 18446744069414584321) % 18446744069414584321 by
    rw [ft_congr (y := TF) (fun i hi => pl_rg _ _ _ (by omega)), hTF]; exact ft_turned k _ n j (by omega) hn _)
  have TZ := Lib.hid (TR.out SF)
  have TU := Lib.hid (TR.out TF)
  have RO := Lib.hid (fun W => rroot k 0 (by omega) (by decide) W)
  have PS := Lib.hid (fun j => Rt.pw_step (rd k 0) j _ rfl)
  have P0 := Lib.hid (show 1 = rd k 0 ^ 0 % 18446744069414584321 by rw [Nat.pow_zero])
  have WL : rd k 0 < 18446744073709551616 := Nat.lt_trans (rd_lt k 0) (by decide)
  have HX := Lib.hid hx
  have HY := Lib.hid hy
  have R := Lib.hid R
  have S := Lib.hid S
  have HT := Lib.hid hT
  have SU := Lib.hid (rg_succ SF)
  have SL := Lib.hid (rg_len SF)
  have UU := Lib.hid (rg_succ TF)
  have UL := Lib.hid (rg_len TF)
  have HC := Lib.hid hc
  generalize ft k 0 (Pn.pl (rg SF n)) = gz at *
  generalize ft k 0 (Pn.pl (rg TF n)) = gu at *
  generalize ft k 0 (Pn.pl xs) = gx at *
  generalize ft k 0 (Pn.pl ys) = gy at *
  generalize rd k 0 = w0 at *
  have z0 : ((n : Int) == 0) = false := by rw [beq_eq_false_iff_ne]; omega
  have z1 : ¬ (n : Int) = 0 := by omega
  clear hx hy hn hk hSF hTF TR hc hT
  go_enter Tryd.func5, Tryd.ntmps5
  go_wp2_with fail
  refine (Kn.awake _ HT.out).mono ?_
  rintro e w1 ⟨rfl, c1⟩
  go_wp2_with fail
  refine (K.out _).mono ?_
  rintro e w' ⟨rfl, rfl⟩
  have ST := Lib.hid (show TwI w w1 (.slice none 0 0) (.slice none 0 0) (rg SF 0) (rg TF 0) from TwI.nil_ c1)
  clear c1
  go_wp2_with fail
  go_loopw [10, 11, 12] (fun v10 v11 v12 wr => ∃ i : Nat, v12 = .int .i64 (i : Int) ∧ i ≤ n ∧ TwI w wr v10 v11 (rg SF i) (rg TF i)) (fun _ _ v12 _ => n - (Lib.intOf v12).toNat)
  case atStart => exact ⟨0, rfl, Nat.zero_le _, ST.out⟩
  case round =>
    obtain ⟨i, rfl, hi, I⟩ := hrel
    clear ST
    by_cases hlt : i < n
    · have i1 : (i : Int) < n := by omega
      obtain ⟨s1, hs1⟩ : ∃ s1, s1 = i + n := ⟨_, rfl⟩
      obtain ⟨s2, hs2⟩ : ∃ s2, s2 = i + n - 1 := ⟨_, rfl⟩
      obtain ⟨s3, hs3⟩ : ∃ s3, s3 = (i + n - 1) % n := ⟨_, rfl⟩
      have q1 : IntKind.i64.wrap ((i : Int) + (n : Int)) = (s1 : Int) := by rw [IntKind.wrap_i64]; omega
      have q2 : IntKind.i64.wrap ((s1 : Int) - 1) = (s2 : Int) := by rw [IntKind.wrap_i64]; omega
      have q3 : (s2 : Int).tmod (n : Int) = (s3 : Int) := by show ((s2 % n : Nat) : Int) = s3; rw [hs2, hs3]
      have s3n : s3 < n := by rw [hs3]; exact Nat.mod_lt _ n0
      have q4 : IntKind.i64.wrap (s3 : Int) = (s3 : Int) := IntWalk.i64_in _ (by omega)
      have q5 : (s2 : Int) % (n : Int) = (s3 : Int) := by show ((s2 % n : Nat) : Int) = s3; rw [hs2, hs3]
      have s3i : (s3 : Int) < n := by omega
      have te := TE.out i
      rw [← hs3] at te
      have TE1 := Lib.hid te
      clear te hs1 hs2 hs3
      have R1 := R.out.below I.b
      have S1 := S.out.below I.b
      obtain ⟨ba, oa, rfl, hBa, ca1⟩ := R1.at_ i (by rw [HX.out]; exact hlt)
      obtain ⟨bb, ob, rfl, hBb, cb1⟩ := S1.at_ i (by rw [HY.out]; exact hlt)
      have ca2 : wr.drew.cell? ⟨ba, oa + i, none⟩ = some (.int .u64 (Pn.pl xs i : Nat)) := ca1
      have cb2 : wr.drew.cell? ⟨bb, ob + i, none⟩ = some (.int .u64 (Pn.pl ys i : Nat)) := cb1
      have M1 := Lib.hid (MB.out i)
      have A1 := Lib.hid (AB.out i)
      have E1 := Lib.hid (SU.out i)
      have E2 := Lib.hid (UU.out i)
      have L1 := Lib.hid (SL.out i)
      have L2 := Lib.hid (UL.out i)
      have I1 := Lib.hid I.drew
      have hsz := I.b.size
      have C1 := Lib.hid (show (rg SF i).length + 1 ≤ 17592186044416 by rw [rg_len]; omega)
      have C2 := Lib.hid (show w.heap.size ≤ (wr.drew.alloc (.cells #[.int .u64 (SF i : Nat)] 27)).heap.size by have := I.b.drew.size; simp at this ⊢; omega)
      clear ca1 cb1 R1 S1 I
      generalize Pn.pl ys i * c % 18446744069414584321 = m1 at *
      generalize Pn.pl xs i = x1 at *
      generalize Pn.pl ys i = y1 at *
      generalize SF i = s at *
      generalize TF i = tt at *
      go_upto_region 10 with fail
      go_cut [10] (fun v10 wx => TwI w wx v10 u11 (rg SF (i + 1)) (rg TF i))
      case first =>
        go_region_law (first
          | (refine append1_step (wr.drew.alloc (.cells #[.int .u64 s] 27)) rfl (.tmp 57) (.tmp 69) rfl w.heap.size u10 (rg SF i) rfl (I1.out.e.alloc _) wr.heap.size s rfl (cut1 _ _ _) C1.out C2.out ?_; intro v1 w3 O3 hg3 hat3)
          | (go_simp; go_at_call 20; refine (M1.out _).mono ?_; rintro e w' ⟨rfl, rfl⟩)
          | (go_simp; go_at_call 19; refine (A1.out _).mono ?_; rintro e w' ⟨rfl, rfl⟩))
        all_goals (go_wp2_with fail; go_meet)
        all_goals exact I1.out.fst (by rw [← E1.out]; exact O3) hg3 hat3
      case rest =>
        have R2 := R.out.below hcut.b
        obtain ⟨b9, o9, e9, hB9, c9⟩ := R2.at_ s3 (by rw [HX.out]; exact s3n)
        injection e9 with e9
        injection e9 with e91 e92
        subst e91 e92
        have c10 : wc.cell? ⟨ba, oa + s3, none⟩ = some (.int .u64 (tt : Nat)) := by rw [TE1.out]; exact c9
        have hsz2 := hcut.b.size
        have I2 := Lib.hid hcut
        clear c9 R2 hcut ca2 cb2
        go_wp2_with (at_builtin; go_loud (refine append1_at (wc.alloc (.cells #[.int .u64 tt] 27)) ?hgd (.tmp 71) (.tmp 83) ?ho w.heap.size u11 (rg TF i) ?hs (I2.out.o.alloc _) wc.heap.size tt ?hx (cut1 _ _ _) ?c1 ?c2 (fun v6 w4 O4 hg4 hat4 => ?_)); (case hgd => rfl); (case ho => rfl); (case hs => rfl); (case hx => rfl))
        case c1 => rw [L2.out]; omega
        case c2 => first | omega | (simp; omega) | (simp [World.alloc]; omega)
        rw [E2.out] at O4
        have I3 := I2.out.snd O4 hg4 hat4
        clear O4 hg4 hat4 I2
        go_wp2_with fail
        go_roundw
        case rel => exact ⟨i + 1, rfl, by omega, I3⟩
        case measure => simp [Lib.intOf]; omega
    · have i1 : ¬ (i : Int) < n := by omega
      obtain rfl : n = i := by omega
      obtain ⟨A8, k8, e8, P2⟩ := I.e.ws (fun j hj => by rw [rg_len] at hj; rw [rg_at _ _ _ hj]; exact S64.out j)
      obtain ⟨A9, k9, e9, Q2⟩ := I.o.ws (fun j hj => by rw [rg_len] at hj; rw [rg_at _ _ _ hj]; exact T64.out j)
      rw [rg_len] at e8 e9
      subst e8 e9
      have c2 := I.b
      clear I MB AB TE S64 T64 SU SL UU UL z0 z1
      go_wp2_with fail
      refine (TX.out _ (HT.out.below c2) (R.out.step c2)).mono ?_
      rintro e w3 ⟨b3, k3, rfl, _, _, hb3, K3, d3⟩
      have c3 := c2.trans (d3.mono c2.size)
      have P3 := P2.step d3
      have Q3 := Q2.step d3
      clear c2 d3 P2 Q2
      go_wp2_with fail
      refine (TY.out _ (HT.out.below c3) (S.out.step c3)).mono ?_
      rintro e w4 ⟨b4, k4, rfl, _, _, hb4, K4, d4⟩
      have c4 := c3.trans (d4.mono c3.size)
      have P4 := P3.step d4
      have Q4 := Q3.step d4
      have U4 := K3.step d4
      clear c3 d4 P3 Q3 K3 hb3
      go_wp2_with fail
      refine (TZ.out _ _ _ (HT.out.below c4) P4).mono ?_
      rintro e w5 ⟨b5, k5, rfl, _, _, hb5, K5, d5⟩
      have c5 := c4.trans (d5.mono c4.size)
      have Q5 := Q4.step d5
      have U5 := U4.step d5
      have V5 := K4.step d5
      clear c4 d5 P4 Q4 U4 K4 hb4
      go_wp2_with fail
      refine (TU.out _ _ _ (HT.out.below c5) Q5).mono ?_
      rintro e w6 ⟨b6, k6, rfl, _, _, hb6, K6, d6⟩
      have ST := Lib.hid (show LI w w6 b3 b4 b5 b6 n gx gy gz gu from ⟨U5.step d6, V5.step d6, K5.step d6, K6, c5.trans (d6.mono c5.size)⟩)
      clear c5 d6 Q5 U5 V5 K5 K6 hb5 hb6 TX TY TZ TU R S HT K
      go_wp2_with fail
      refine (RO.out _).mono ?_
      rintro e w7 ⟨rfl, rfl⟩
      go_wp2_with fail
      go_loopw [22, 23] (fun v22 v23 wr => ∃ i p : Nat, v23 = .int .i64 (i : Int) ∧ v22 = .int .u64 (p : Nat) ∧ i ≤ n ∧ p = w0 ^ i % 18446744069414584321 ∧ LI w wr b3 b4 b5 b6 n gx gy gz gu) (fun _ v23 _ => n - (Lib.intOf v23).toNat)
      case atStart => exact ⟨0, 1, rfl, rfl, Nat.zero_le _, P0.out, ST.out⟩
      case round =>
        obtain ⟨i, p, rfl, rfl, hi2, hp, L⟩ := hrel
        clear ST P0
        by_cases hlt2 : i < n
        · have i2 : (i : Int) < n := by omega
          have x0 := L.x.c i hlt2
          have y0 := L.y.c i hlt2
          have z0 := L.z.c i hlt2
          have u0 := L.u.c i hlt2
          rw [Nat.zero_add] at x0 y0 z0 u0
          have ez := EZ.out i
          have eu := EU.out i
          rw [← hp] at eu
          have p64 : p < 18446744073709551616 := by rw [hp]; exact mod64 _
          have M1 := Lib.hid (fun W => Gr.mul (gy i) c HC.out W)
          have A1 := Lib.hid (fun W => Gr.add (gx i) (gy i * c % 18446744069414584321) W)
          have M2 := Lib.hid (fun W => Gr.mul (gx i) p p64 W)
          have M3 := Lib.hid (fun W => Gr.mul p w0 WL W)
          rw [← ez] at A1
          rw [← eu] at M2
          obtain ⟨p2, hp2⟩ : ∃ p2, p2 = p * w0 % 18446744069414584321 := ⟨_, rfl⟩
          rw [← hp2] at M3
          have HP := Lib.hid (show p2 = w0 ^ (i + 1) % 18446744069414584321 by rw [hp2, hp]; exact PS.out i)
          clear ez eu hp hp2 p64
          generalize gy i * c % 18446744069414584321 = m1 at *
          generalize gx i = x1 at *
          generalize gy i = y1 at *
          generalize gz i = zz at *
          generalize gu i = uu at *
          have L1 := Lib.hid L
          clear L
          go_upto_region 23 with fail
          go_quiet ((first
            | (go_at_call 19; with_reducible exact qs (A1.out _))
            | (go_at_call 20; first | with_reducible exact qs (M1.out _) | with_reducible exact qs (M2.out _))))
          have L2 := L1.out.drewN nq
          clear L1 x0 y0 z0 u0 M1 A1 M2
          go_wp2_with fail
          refine (M3.out _).mono ?_
          rintro e w8 ⟨rfl, rfl⟩
          go_wp2_with fail
          go_roundw
          case rel => exact ⟨i + 1, p2, rfl, rfl, by omega, HP.out, L2⟩
          case measure => simp [Lib.intOf]; omega
        · have i2 : ¬ (i : Int) < n := by omega
          have cf := L.b
          clear L
          go_wp2
          go_ret
          exact ⟨by simp [go_sem], cf⟩

set_option maxHeartbeats 1000000 in
set_option maxRecDepth 100000 in
theorem walk_in_1 (A B : Option Addr) (ca cb n c k : Nat) (xs ys : List Nat) (hx : xs.length = n) (hy : ys.length = n) (hl : n ≤ 64) (hk : k ≤ 10) (hn : n = 2 ^ k) (hc : c < 18446744073709551616) (w : World) (hT : Ft.Tab w) (R : Ws w w.heap.size A xs) (S : Ws w w.heap.size B ys) :
    Calls Tryd.prog 5 #[.slice A n ca, .slice B n cb, .int .u64 (c : Nat), .int .i64 1] w fun e w' => e = .returned (.bool true) ∧ Below w.heap.size w w' := by
  have h1 : ¬ 64 < (n : Int) := by omega
  have k0 : ¬ (k : Int) < 0 := by omega
  have K := Lib.hid (fun W => fits_doc n k (by omega) hn W)
  have n0 : 0 < n := by rw [hn]; exact Nat.two_pow_pos k
  obtain ⟨SF, hSF⟩ : ∃ g : Nat → Nat, g = fun i => (Pn.pl xs i + Pn.pl ys i * c % 18446744069414584321) % 18446744069414584321 := ⟨_, rfl⟩
  obtain ⟨TF, hTF⟩ : ∃ g : Nat → Nat, g = fun i => Pn.pl xs ((i + n - 1) % n) := ⟨_, rfl⟩
  have MB := Lib.hid (fun i W => Gr.mul (Pn.pl ys i) c hc W)
  have AB := Lib.hid (fun i W => show Calls Tryd.prog 19 #[.int .u64 (Pn.pl xs i : Nat), .int .u64 ((Pn.pl ys i * c % 18446744069414584321 : Nat) : Int)] W fun e w' => e = .returned (.int .u64 (SF i : Nat)) ∧ W = w' by rw [hSF]; exact Gr.add _ _ W)
  have TE := Lib.hid (fun i => show TF i = Pn.pl xs ((i + n - 1) % n) by rw [hTF])
  have S64 := Lib.hid (fun i => show SF i < 18446744073709551616 by rw [hSF]; exact mod64 _)
  have T64 := Lib.hid (fun i => show TF i < 18446744073709551616 by rw [hTF]; exact pl64 R _)
  have TX := Lib.hid (fun W T R => transform A n ca k 1 xs (by omega) (by decide) hn hx W T R)
  have TY := Lib.hid (fun W T R => transform B n cb k 1 ys (by omega) (by decide) hn hy W T R)
  have TR := Lib.hid (fun g A1 c1 W T R => transform A1 n c1 k 1 (rg g n) (by omega) (by decide) hn (rg_len _ _) W T R)
  have EZ := Lib.hid (fun j => show ft k 1 (Pn.pl (rg SF n)) j = (ft k 1 (Pn.pl xs) j + ft k 1 (Pn.pl ys) j * c % 18446744069414584321) % 18446744069414584321 by
    rw [ft_congr (y := SF) (fun i hi => pl_rg _ _ _ (by omega)), hSF]; exact ft_lin k _ c j _ _)
  have EU := Lib.hid (fun j => show ft k 1 (Pn.pl (rg TF n)) j = ft k 1 (Pn.pl xs) j * (rd k 1 ^ j % 18446744069414584321) % 18446744069414584321 by
    rw [ft_congr (y := TF) (fun i hi => pl_rg _ _ _ (by omega)), hTF]; exact ft_turned k _ n j (by omega) hn _)
  have TZ := Lib.hid (TR.out SF)
  have TU := Lib.hid (TR.out TF)
  have RO := Lib.hid (fun W => rroot k 1 (by omega) (by decide) W)
  have PS := Lib.hid (fun j => Rt.pw_step (rd k 1) j _ rfl)
  have P0 := Lib.hid (show 1 = rd k 1 ^ 0 % 18446744069414584321 by rw [Nat.pow_zero])
  have WL : rd k 1 < 18446744073709551616 := Nat.lt_trans (rd_lt k 1) (by decide)
  have HX := Lib.hid hx
  have HY := Lib.hid hy
  have R := Lib.hid R
  have S := Lib.hid S
  have HT := Lib.hid hT
  have SU := Lib.hid (rg_succ SF)
  have SL := Lib.hid (rg_len SF)
  have UU := Lib.hid (rg_succ TF)
  have UL := Lib.hid (rg_len TF)
  have HC := Lib.hid hc
  generalize ft k 1 (Pn.pl (rg SF n)) = gz at *
  generalize ft k 1 (Pn.pl (rg TF n)) = gu at *
  generalize ft k 1 (Pn.pl xs) = gx at *
  generalize ft k 1 (Pn.pl ys) = gy at *
  generalize rd k 1 = w0 at *
  have z0 : ((n : Int) == 0) = false := by rw [beq_eq_false_iff_ne]; omega
  have z1 : ¬ (n : Int) = 0 := by omega
  clear hx hy hn hk hSF hTF TR hc hT
  go_enter Tryd.func5, Tryd.ntmps5
  go_wp2_with fail
  refine (Kn.awake _ HT.out).mono ?_
  rintro e w1 ⟨rfl, c1⟩
  go_wp2_with fail
  refine (K.out _).mono ?_
  rintro e w' ⟨rfl, rfl⟩
  have ST := Lib.hid (show TwI w w1 (.slice none 0 0) (.slice none 0 0) (rg SF 0) (rg TF 0) from TwI.nil_ c1)
  clear c1
  go_wp2_with fail
  go_loopw [10, 11, 12] (fun v10 v11 v12 wr => ∃ i : Nat, v12 = .int .i64 (i : Int) ∧ i ≤ n ∧ TwI w wr v10 v11 (rg SF i) (rg TF i)) (fun _ _ v12 _ => n - (Lib.intOf v12).toNat)
  case atStart => exact ⟨0, rfl, Nat.zero_le _, ST.out⟩
  case round =>
    obtain ⟨i, rfl, hi, I⟩ := hrel
    clear ST
    by_cases hlt : i < n
    · have i1 : (i : Int) < n := by omega
      obtain ⟨s1, hs1⟩ : ∃ s1, s1 = i + n := ⟨_, rfl⟩
      obtain ⟨s2, hs2⟩ : ∃ s2, s2 = i + n - 1 := ⟨_, rfl⟩
      obtain ⟨s3, hs3⟩ : ∃ s3, s3 = (i + n - 1) % n := ⟨_, rfl⟩
      have q1 : IntKind.i64.wrap ((i : Int) + (n : Int)) = (s1 : Int) := by rw [IntKind.wrap_i64]; omega
      have q2 : IntKind.i64.wrap ((s1 : Int) - 1) = (s2 : Int) := by rw [IntKind.wrap_i64]; omega
      have q3 : (s2 : Int).tmod (n : Int) = (s3 : Int) := by show ((s2 % n : Nat) : Int) = s3; rw [hs2, hs3]
      have s3n : s3 < n := by rw [hs3]; exact Nat.mod_lt _ n0
      have q4 : IntKind.i64.wrap (s3 : Int) = (s3 : Int) := IntWalk.i64_in _ (by omega)
      have q5 : (s2 : Int) % (n : Int) = (s3 : Int) := by show ((s2 % n : Nat) : Int) = s3; rw [hs2, hs3]
      have s3i : (s3 : Int) < n := by omega
      have te := TE.out i
      rw [← hs3] at te
      have TE1 := Lib.hid te
      clear te hs1 hs2 hs3
      have R1 := R.out.below I.b
      have S1 := S.out.below I.b
      obtain ⟨ba, oa, rfl, hBa, ca1⟩ := R1.at_ i (by rw [HX.out]; exact hlt)
      obtain ⟨bb, ob, rfl, hBb, cb1⟩ := S1.at_ i (by rw [HY.out]; exact hlt)
      have ca2 : wr.drew.cell? ⟨ba, oa + i, none⟩ = some (.int .u64 (Pn.pl xs i : Nat)) := ca1
      have cb2 : wr.drew.cell? ⟨bb, ob + i, none⟩ = some (.int .u64 (Pn.pl ys i : Nat)) := cb1
      have M1 := Lib.hid (MB.out i)
      have A1 := Lib.hid (AB.out i)
      have E1 := Lib.hid (SU.out i)
      have E2 := Lib.hid (UU.out i)
      have L1 := Lib.hid (SL.out i)
      have L2 := Lib.hid (UL.out i)
      have I1 := Lib.hid I.drew
      have hsz := I.b.size
      have C1 := Lib.hid (show (rg SF i).length + 1 ≤ 17592186044416 by rw [rg_len]; omega)
      have C2 := Lib.hid (show w.heap.size ≤ (wr.drew.alloc (.cells #[.int .u64 (SF i : Nat)] 27)).heap.size by have := I.b.drew.size; simp at this ⊢; omega)
      clear ca1 cb1 R1 S1 I
      generalize Pn.pl ys i * c % 18446744069414584321 = m1 at *
      generalize Pn.pl xs i = x1 at *
      generalize Pn.pl ys i = y1 at *
      generalize SF i = s at *
      generalize TF i = tt at *
      go_upto_region 10 with fail
      go_cut [10] (fun v10 wx => TwI w wx v10 u11 (rg SF (i + 1)) (rg TF i))
      case first =>
        go_region_law (first
          | (refine append1_step (wr.drew.alloc (.cells #[.int .u64 s] 27)) rfl (.tmp 57) (.tmp 69) rfl w.heap.size u10 (rg SF i) rfl (I1.out.e.alloc _) wr.heap.size s rfl (cut1 _ _ _) C1.out C2.out ?_; intro v1 w3 O3 hg3 hat3)
          | (go_simp; go_at_call 20; refine (M1.out _).mono ?_; rintro e w' ⟨rfl, rfl⟩)
          | (go_simp; go_at_call 19; refine (A1.out _).mono ?_; rintro e w' ⟨rfl, rfl⟩))
        all_goals (go_wp2_with fail; go_meet)
        all_goals exact I1.out.fst (by rw [← E1.out]; exact O3) hg3 hat3
      case rest =>
        have R2 := R.out.below hcut.b
        obtain ⟨b9, o9, e9, hB9, c9⟩ := R2.at_ s3 (by rw [HX.out]; exact s3n)
        injection e9 with e9
        injection e9 with e91 e92
        subst e91 e92
        have c10 : wc.cell? ⟨ba, oa + s3, none⟩ = some (.int .u64 (tt : Nat)) := by rw [TE1.out]; exact c9
        have hsz2 := hcut.b.size
        have I2 := Lib.hid hcut
        clear c9 R2 hcut ca2 cb2
        go_wp2_with (at_builtin; go_loud (refine append1_at (wc.alloc (.cells #[.int .u64 tt] 27)) ?hgd (.tmp 71) (.tmp 83) ?ho w.heap.size u11 (rg TF i) ?hs (I2.out.o.alloc _) wc.heap.size tt ?hx (cut1 _ _ _) ?c1 ?c2 (fun v6 w4 O4 hg4 hat4 => ?_)); (case hgd => rfl); (case ho => rfl); (case hs => rfl); (case hx => rfl))
        case c1 => rw [L2.out]; omega
        case c2 => first | omega | (simp; omega) | (simp [World.alloc]; omega)
        rw [E2.out] at O4
        have I3 := I2.out.snd O4 hg4 hat4
        clear O4 hg4 hat4 I2
        go_wp2_with fail
        go_roundw
        case rel => exact ⟨i + 1, rfl, by omega, I3⟩
        case measure => simp [Lib.intOf]; omega
    · have i1 : ¬ (i : Int) < n := by omega
      obtain rfl : n = i := by omega
      obtain ⟨A8, k8, e8, P2⟩ := I.e.ws (fun j hj => by rw [rg_len] at hj; rw [rg_at _ _ _ hj]; exact S64.out j)
      obtain ⟨A9, k9, e9, Q2⟩ := I.o.ws (fun j hj => by rw [rg_len] at hj; rw [rg_at _ _ _ hj]; exact T64.out j)
      rw [rg_len] at e8 e9
      subst e8 e9
      have c2 := I.b
      clear I MB AB TE S64 T64 SU SL UU UL z0 z1
      go_wp2_with fail
      refine (TX.out _ (HT.out.below c2) (R.out.step c2)).mono ?_
      rintro e w3 ⟨b3, k3, rfl, _, _, hb3, K3, d3⟩
      have c3 := c2.trans (d3.mono c2.size)
      have P3 := P2.step d3
      have Q3 := Q2.step d3
      clear c2 d3 P2 Q2
      go_wp2_with fail
      refine (TY.out _ (HT.out.below c3) (S.out.step c3)).mono ?_
      rintro e w4 ⟨b4, k4, rfl, _, _, hb4, K4, d4⟩
      have c4 := c3.trans (d4.mono c3.size)
      have P4 := P3.step d4
      have Q4 := Q3.step d4
      have U4 := K3.step d4
      clear c3 d4 P3 Q3 K3 hb3
      go_wp2_with fail
      refine (TZ.out _ _ _ (HT.out.below c4) P4).mono ?_
      rintro e w5 ⟨b5, k5, rfl, _, _, hb5, K5, d5⟩
      have c5 := c4.trans (d5.mono c4.size)
      have Q5 := Q4.step d5
      have U5 := U4.step d5
      have V5 := K4.step d5
      clear c4 d5 P4 Q4 U4 K4 hb4
      go_wp2_with fail
      refine (TU.out _ _ _ (HT.out.below c5) Q5).mono ?_
      rintro e w6 ⟨b6, k6, rfl, _, _, hb6, K6, d6⟩
      have ST := Lib.hid (show LI w w6 b3 b4 b5 b6 n gx gy gz gu from ⟨U5.step d6, V5.step d6, K5.step d6, K6, c5.trans (d6.mono c5.size)⟩)
      clear c5 d6 Q5 U5 V5 K5 K6 hb5 hb6 TX TY TZ TU R S HT K
      go_wp2_with fail
      refine (RO.out _).mono ?_
      rintro e w7 ⟨rfl, rfl⟩
      go_wp2_with fail
      go_loopw [22, 23] (fun v22 v23 wr => ∃ i p : Nat, v23 = .int .i64 (i : Int) ∧ v22 = .int .u64 (p : Nat) ∧ i ≤ n ∧ p = w0 ^ i % 18446744069414584321 ∧ LI w wr b3 b4 b5 b6 n gx gy gz gu) (fun _ v23 _ => n - (Lib.intOf v23).toNat)
      case atStart => exact ⟨0, 1, rfl, rfl, Nat.zero_le _, P0.out, ST.out⟩
      case round =>
        obtain ⟨i, p, rfl, rfl, hi2, hp, L⟩ := hrel
        clear ST P0
        by_cases hlt2 : i < n
        · have i2 : (i : Int) < n := by omega
          have x0 := L.x.c i hlt2
          have y0 := L.y.c i hlt2
          have z0 := L.z.c i hlt2
          have u0 := L.u.c i hlt2
          rw [Nat.zero_add] at x0 y0 z0 u0
          have ez := EZ.out i
          have eu := EU.out i
          rw [← hp] at eu
          have p64 : p < 18446744073709551616 := by rw [hp]; exact mod64 _
          have M1 := Lib.hid (fun W => Gr.mul (gy i) c HC.out W)
          have A1 := Lib.hid (fun W => Gr.add (gx i) (gy i * c % 18446744069414584321) W)
          have M2 := Lib.hid (fun W => Gr.mul (gx i) p p64 W)
          have M3 := Lib.hid (fun W => Gr.mul p w0 WL W)
          rw [← ez] at A1
          rw [← eu] at M2
          obtain ⟨p2, hp2⟩ : ∃ p2, p2 = p * w0 % 18446744069414584321 := ⟨_, rfl⟩
          rw [← hp2] at M3
          have HP := Lib.hid (show p2 = w0 ^ (i + 1) % 18446744069414584321 by rw [hp2, hp]; exact PS.out i)
          clear ez eu hp hp2 p64
          generalize gy i * c % 18446744069414584321 = m1 at *
          generalize gx i = x1 at *
          generalize gy i = y1 at *
          generalize gz i = zz at *
          generalize gu i = uu at *
          have L1 := Lib.hid L
          clear L
          go_upto_region 23 with fail
          go_quiet ((first
            | (go_at_call 19; with_reducible exact qs (A1.out _))
            | (go_at_call 20; first | with_reducible exact qs (M1.out _) | with_reducible exact qs (M2.out _))))
          have L2 := L1.out.drewN nq
          clear L1 x0 y0 z0 u0 M1 A1 M2
          go_wp2_with fail
          refine (M3.out _).mono ?_
          rintro e w8 ⟨rfl, rfl⟩
          go_wp2_with fail
          go_roundw
          case rel => exact ⟨i + 1, p2, rfl, rfl, by omega, HP.out, L2⟩
          case measure => simp [Lib.intOf]; omega
        · have i2 : ¬ (i : Int) < n := by omega
          have cf := L.b
          clear L
          go_wp2
          go_ret
          exact ⟨by simp [go_sem], cf⟩

theorem walk (A B : Option Addr) (ca cb n m : Nat) (xs ys : List Nat) (hx : xs.length = n) (hy : ys.length = m) (c : Nat) (d : Int) (hc : c < 18446744073709551616) (w : World) (hT : Ft.Tab w) (R : Ws w w.heap.size A xs) (S : Ws w w.heap.size B ys) :
    Calls Tryd.prog 5 #[.slice A n ca, .slice B m cb, .int .u64 (c : Nat), .int .i64 d] w fun e w' => e = .returned (.bool true) ∧ Below w.heap.size w w' := by
  by_cases h : ∃ j : Nat, j ≤ 32 ∧ (n : Int) = ((2 ^ j : Nat) : Int)
  · obtain ⟨k, hk, e⟩ := h
    have hn : n = 2 ^ k := by omega
    have hF := fun W => fits_doc n k hk hn W
    by_cases h1 : 64 < n
    · exact walk_long A B ca cb n m c d _ hF h1 w hT
    by_cases h2 : m = n
    · by_cases hd : d ≠ 0 ∧ d ≠ 1
      · exact walk_kind A B ca cb n m c d _ hF ⟨by omega, h2, by omega, hd.1, hd.2⟩ w hT
      · have hk5 : k ≤ 10 := Nat.le_of_not_lt fun c => by
          have := Nat.pow_le_pow_right (n := 2) (by decide) c
          have e11 : 2 ^ Nat.succ 10 = 2048 := by decide
          omega
        subst h2
        have hd2 : d = 0 ∨ d = 1 := by omega
        rcases hd2 with rfl | rfl
        · exact walk_in_0 A B ca cb m c k xs ys hx hy (by omega) hk5 hn hc w hT R S
        · exact walk_in_1 A B ca cb m c k xs ys hx hy (by omega) hk5 hn hc w hT R S
    · exact walk_other A B ca cb n m c d _ hF ⟨by omega, h2⟩ w hT
  · have hF := fun W => Ft.ref_any (n : Int) (-1) (fun i hi e => absurd ⟨i, hi, e⟩ h) (fun _ => rfl) W
    by_cases h1 : 64 < n
    · exact walk_long A B ca cb n m c d _ hF h1 w hT
    by_cases h2 : m = n
    · exact walk_none A B ca cb n m c d _ hF ⟨by omega, h2, by decide⟩ w hT
    · exact walk_other A B ca cb n m c d _ hF ⟨by omega, h2⟩ w hT

theorem g32 : Tryd.prog.globalNamed "math/bits.deBruijn32tab" = some 0 := by kernel_rfl
theorem g64 : Tryd.prog.globalNamed "math/bits.deBruijn64tab" = some 1 := by kernel_rfl
theorem t64 : (Tryd.prog.globals[1]?).map (·.type) = some 81 := by kernel_rfl
/-- What the row's condition gives the walk: the table's cells. -/
theorem of_laid {W : World} (h : laidMetH Tryd.prog Rows.halvesLinearRow.laid W) : Ft.Tab W := by
  rw [MakeChecks.laidMetH_plain _ _ _ (by kernel_rfl)] at h
  obtain ⟨ps, ⟨g0, t0, cs0, f0, p0, q0, hg0, ht0, hv0, hd0, ⟨g1, t1, cs1, f1, p1, q1, hg1, ht1, hv1, hd1, _, _⟩, _⟩, _, _⟩ := h
  obtain rfl := Option.some.inj (g64.symm.trans hg1)
  obtain rfl := Option.some.inj (t64.symm.trans ht1)
  have hd2 : DataW.trod _ Tryd.prog W 0 _ false f1 81 cs1.toList = some (Lib.tabData .u8 (Lib.deBruijn64tab.map Int.ofNat), p1) := hd1
  have hc := Lib.cells_of_tab Tryd.underlying81 Tryd.underlying5 (by kernel_rfl) (by kernel_rfl) hd2
  intro i hi
  have c := World.var?_cell hg1 hv1 i
  rw [c, ← Array.getElem?_toList, hc]
  have hl : Lib.deBruijn64tab.length = 64 := by decide
  simp [List.getD, hl, hi]

/-- The door's own heap meets the condition. -/
theorem door_met (os : Os) (args : Array Value) : laidMetH Tryd.prog Rows.halvesLinearRow.laid ((World.doorLaid Tryd.prog 400 os).forCall (fun _ _ => 0) ⟨#[], args, []⟩).memory :=
  laidMetH_of_parts3 (fuel := 8) (laidMet_of_run' 8 (by kernel_rfl) (by kernel_rfl)) (by kernel_rfl) (by kernel_rfl)
set_option maxRecDepth 100000 in
theorem lifted (os : Os) (started : os.Started) (H : Type) (enc : TypeId × Value → H) :
    ReturnsInHanded {} Tryd.checked os 5 .any (fun w args => (Rows.halvesLinearSpec.pre enc Tryd.prog Tryd.f5 [] false w args ∧ laidMetH Tryd.prog Rows.halvesLinearRow.laid w) ∧ sizedMet enc Tryd.prog Tryd.f5 (OpenSpec.ofChange Rows.halvesLinearSpec) false w args)
      (Rows.halvesLinearSpec.post enc Tryd.prog Tryd.f5 false true false false) := by
  refine returnsInHanded_of_change_and (C := Tryd.checked) (X := fun w _ => laidMetH Tryd.prog Rows.halvesLinearRow.laid w) (fun _ _ _ hh h => h.of_heap hh) Fr.own started (by kernel_rfl) Tryd.func5
    (ChangeSpec.witness_shaped (enc := enc) (C := Tryd.checked) (os := os) (X := fun w _ => laidMetH Tryd.prog Rows.halvesLinearRow.laid w) false (World.doorLaid Tryd.prog 400 os) #[.slice none 0 0, .slice none 0 0, .int .u64 0, .int .i64 0] 8 rfl (World.shaped_of_RefB (by kernel_rfl) (by kernel_rfl)) (by kernel_rfl) (by kernel_rfl) (by kernel_rfl) (door_met os _)) ?_
  intro W base args ds gs before hval0 hW _ _ hL _
  have hval : ∀ (j : Nat) t v, Tryd.f5.params[j]? = some t → args[j]? = some v → Value.okWide Tryd.prog W .any base t v := hval0
  have hW' := hW
  obtain ⟨p, q, hA0, hV, rfl, hfz, hnd⟩ := hW
  have hA : DataW.TrodAll enc Tryd.prog W 0 (fun _ => true) true Tryd.f5.params.toList args.toList ds p := hA0
  obtain ⟨rfl, rfl⟩ := trodVars_none hV
  rw [Tryd.params5] at hA hval
  obtain ⟨v0, vs0, d0, ds0, p0, q0, hargs, rfl, rfl, h0, r0⟩ := trodAll_cons hA
  obtain ⟨v1, vs1, d1, ds1, p1, q1, rfl, rfl, rfl, h1, r1⟩ := trodAll_cons r0
  obtain ⟨v2, vs2, d2, ds2, p2, q2, rfl, rfl, rfl, h2, r2⟩ := trodAll_cons r1
  obtain ⟨v3, vs3, d3, ds3, p3, q3, rfl, rfl, rfl, h3, r3⟩ := trodAll_cons r2
  obtain ⟨rfl, rfl, rfl⟩ := trodAll_nil r3
  obtain rfl : args = #[v0, v1, v2, v3] := by cases args; simp_all
  obtain ⟨A0, n0, c0, rfl⟩ := okWide_slice Tryd.underlying22 (hval 0 22 v0 rfl rfl)
  obtain ⟨fuel0, hf0⟩ := h0
  obtain ⟨xs0, rfl, lc0, lm0, R0⟩ := Ww.open_words hf0
  obtain ⟨A1, n1, c1, rfl⟩ := okWide_slice Tryd.underlying22 (hval 1 22 v1 rfl rfl)
  obtain ⟨fuel1, hf1⟩ := h1
  obtain ⟨xs1, rfl, lc1, lm1, R1⟩ := Ww.open_words hf1
  obtain ⟨a2, rfl, rfl, rfl, w2⟩ := open_int Tryd.underlying27 (hval 2 27 v2 rfl rfl) h2
  have b2 : 0 ≤ a2 ∧ a2 ≤ 18446744073709551615 := by simpa [Lit.wf, IntKind.min, IntKind.max, IntKind.signed, IntKind.bits] using w2
  obtain ⟨x2, rfl⟩ := Int.eq_ofNat_of_zero_le b2.1
  obtain ⟨x3, rfl, rfl, rfl, w3⟩ := open_int Tryd.underlying3 (hval 3 3 v3 rfl rfl) h3
  have b3 : -9223372036854775808 ≤ x3 ∧ x3 ≤ 9223372036854775807 := by simpa [Lit.wf, IntKind.min, IntKind.max, IntKind.signed, IntKind.bits] using w3
  simp only [List.append_nil] at hW' hA0
  refine (walk A0 A1 c0 c1 xs0.length xs1.length xs0 xs1 rfl rfl x2 x3 (by omega) W (of_laid hL) R0 R1).mono fun e W' ⟨he, hb⟩ => ?_
  subst he
  exact ⟨_, rfl, Fr.law_post (tb := 4) hW' hA0 rfl rfl rfl Tryd.underlying4 (by rw [Tryd.params5]; intro t ht; simp at ht; rcases ht with rfl | rfl | rfl | rfl; all_goals exact ⟨by kernel_rfl, of_decide_eq_true (by kernel_rfl)⟩) hb⟩

theorem row_holds : Rows.HalvesLinearSaid :=
  OpenClaim.holds_of_wide 5 Tryd.f5 rfl rfl rfl rfl rfl rfl rfl ⟨rfl, rfl, rfl, rfl, rfl⟩ rfl rfl rfl rfl rfl (by kernel_rfl) Tryd.func5 (by kernel_rfl)
    (of_decide_eq_true (by kernel_rfl)) (by unfold Func.isWrapper; first | (rw [if_pos (by decide +kernel)]; kernel_rfl) | (rw [if_neg (by decide +kernel)]; exact ⟨rfl, rfl⟩))
    (fun os started H enc _ => lifted os started H enc)

theorem proved : Rows.HalvesLinearCardSaid :=
  Claim7.holds_tied_plain_at .later [] [.data, .data] true Rows.halvesLinearCard.stood.harness false
    row_holds (fun _ h => by cases h) (by kernel_rfl) (fun _ h => by cases h) halvesLinear_row_tie rfl ⟨rfl, rfl⟩ (by kernel_rfl) rfl
    (fun f fn hf hfn => by
      obtain rfl : f = 5 := Option.some.inj ((show Tryd.prog.funcNamed "abacist/abacistlaw09.HalvesLinear" = some 5 by kernel_rfl).symm.trans hf) |>.symm
      obtain rfl : fn = Tryd.f5 := (Option.some.inj (Tryd.func5.symm.trans hfn)).symm
      exact ⟨by kernel_rfl, fun j t ht => by
        rw [Tryd.params5] at ht
        have hm : t ∈ [22, 27, 3] := by simpa using Array.mem_of_getElem? ht
        have hall : ([22, 27, 3].all fun u => !Tryd.prog.wantsStandIn u) = true := by kernel_rfl
        exact (show Tryd.prog.wantsStandIn t = false by simpa using List.all_eq_true.1 hall t hm)⟩)
    (by kernel_rfl)
end Go.Proofs.YtkgclgjlohofbaaDoor.halvesLinear
