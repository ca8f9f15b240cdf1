/- QuartersAlike: of every row, exponent and direction the law answers true that by quarters and by halves a transform is the same, and changes nothing, where the library's two tables are as their initialisers lay them (the card ties them to the program's text). -/
import Derived.Test.YtfkhnfaammfbeaaDoorFrame
import Derived.Test.YtfkhnfaammfbeaaDoorQuartF
import Derived.Test.YtfkhnfaammfbeaaDoorQuartW
import Derived.BigRegion
import Derived.Test.YtfkhnfaammfbeaaDoorTie
import Derived.Test.YtfkhnfaammfbeaaDoorCards
import Derived.Lib.LaidTab
import Derived.LaidMore
import Derived.Stop.Joined
import Derived.SevenTiedAt
set_option linter.unusedVariables false
namespace Go.Proofs.YtfkhnfaammfbeaaDoor.quartersAlike
open Go.ChangeShapes Go.WideShapes Go.ChangeAt Go.RowKit
open Kn Kq Td Tn Ww Pl

theorem tdiv11 (x k : Nat) (h : k = x % 11) (hx : x ≤ 255) : ((x : Int).tmod 11 = (k : Int)) ∧ ((x : Int) % 11 = (k : Int)) ∧ IntKind.i64.wrap (k : Int) = (k : Int) ∧ IntKind.i64.wrap (x : Int) = (x : Int) := by
  refine ⟨?_, by omega, IntWalk.i64_in _ (by omega), IntWalk.i64_in _ (by omega)⟩
  rw [Int.tmod_eq_emod_of_nonneg (by omega)]; omega

set_option maxHeartbeats 1000000 in
set_option maxRecDepth 100000 in
theorem walk_long (A : Option Addr) (ca n x : Nat) (d : Int) (hl : 40 < n) (hx : x ≤ 255) (w : World) :
    Calls Tryd.prog 4 #[.slice A n ca, .int .u8 (x : Int), .int .i64 d] w fun e w' => e = .returned (.bool true) ∧ Below w.heap.size w w' := by
  have h1 : 40 < (n : Int) := by omega
  obtain ⟨k, hk⟩ : ∃ k, k = x % 11 := ⟨_, rfl⟩
  obtain ⟨m1, m2, m3, m4⟩ := tdiv11 x k hk hx
  clear hk hx
  go_enter Tryd.func4, Tryd.ntmps4
  go_wp2_with fail
  refine (Kq.awake _).mono ?_
  rintro e w1 ⟨rfl, c1⟩
  go_wp2
  go_ret
  exact ⟨by simp [go_sem], c1⟩
set_option maxHeartbeats 1000000 in
set_option maxRecDepth 100000 in
theorem walk_kind (A : Option Addr) (ca n x : Nat) (d : Int) (hl : n ≤ 40) (hx : x ≤ 255) (h0 : d ≠ 0) (h2 : d ≠ 1) (w : World) :
    Calls Tryd.prog 4 #[.slice A n ca, .int .u8 (x : Int), .int .i64 d] w fun e w' => e = .returned (.bool true) ∧ Below w.heap.size w w' := by
  have h1 : ¬ 40 < (n : Int) := by omega
  have d0 : (d != 0) = true := by simp [h0]
  have d1 : (d != 1) = true := by simp [h2]
  obtain ⟨k, hk⟩ : ∃ k, k = x % 11 := ⟨_, rfl⟩
  obtain ⟨m1, m2, m3, m4⟩ := tdiv11 x k hk hx
  clear hk hx
  go_enter Tryd.func4, Tryd.ntmps4
  go_wp2_with fail
  refine (Kq.awake _).mono ?_
  rintro e w1 ⟨rfl, c1⟩
  go_wp2
  go_ret
  exact ⟨by simp [go_sem], c1⟩

theorem pl_lt (f : Nat → Nat) (N : Nat) (hf : ∀ j, f j < 18446744069414584321) (i : Nat) : Pn.pl (rg f N) i < 18446744069414584321 := by
  by_cases h : i < N
  · rw [pl_rg _ _ _ h]; exact hf i
  · rw [Pn.pl_far _ _ (by rw [rg_len]; omega)]; decide
theorem upd_lt (f : Nat → Nat) (hf : ∀ j, f j < 18446744069414584321) (i v : Nat) (hv : v < 18446744069414584321) (j : Nat) : upd f i v j < 18446744069414584321 := by
  unfold upd
  split
  · exact hv
  · exact hf j

set_option maxHeartbeats 2000000 in
set_option maxRecDepth 100000 in
theorem walk_z0 (A : Option Addr) (ca n x kk N : Nat) (xs : List Nat) (hl : n ≤ 40) (hn : n = 0) (hx : x ≤ 255) (hkk : kk = x % 11) (hN : N = 2 ^ kk) (hxs : xs.length = n) (w : World) (hT : Ft.Tab w) (R : Ws w w.heap.size A xs) :
    Calls Tryd.prog 4 #[.slice A n ca, .int .u8 (x : Int), .int .i64 0] w fun e w' => e = .returned (.bool true) ∧ Below w.heap.size w w' := by
  have h1 : ¬ 40 < (n : Int) := by omega
  obtain ⟨m1, m2, m3, m4⟩ := tdiv11 x kk hkk hx
  have hk : kk ≤ 10 := by omega
  have hNl : N ≤ 1024 := by rw [hN]; exact Nat.le_trans (Nat.pow_le_pow_right (by decide) hk) (show 2 ^ 10 ≤ 1024 by decide)
  have s1 := Bt.pow_i64 kk (by omega)
  have s2 := Bt.wrapN kk (by omega)
  have mk := make_words N (by omega) (by omega)
  have NX := Lib.hid (fun W => Kq.new_at kk (by omega) W)
  have NY := Lib.hid (fun W => Kn.new_at kk (by omega) W)
  have N0 := Lib.hid (show 0 < N by rw [hN]; exact Nat.two_pow_pos kk)
  have n0 := N0.out
  have HT := Lib.hid hT
  have RX := Lib.hid (fun d (hd : d ≤ 1) (w : World) p p2 bf bi bp b f hf hT (Z : Kg w b kk p p2 bf bi bp) J => Kq.run_kg kk d (by omega) hd b N N hN (Nat.le_refl _) f hf hT Z J)
  have RY := Lib.hid (fun d (hd : d ≤ 1) (w : World) p bf bi b f hf hT (Z : Ka w b kk p bf bi) J => Kn.run_ka kk d (by omega) hd b N N hN (Nat.le_refl _) f hf hT Z J)
  have SG := Lib.hid (fun (g h : Nat → Nat) (e : ∀ i, i < N → g i = h i) (A B : Option Addr) (ca cb : Nat) W Ra Rb => same_rg (n := N) e (by omega) A B ca cb W Ra Rb)
  have FB := Lib.hid (fun d (hd : d ≤ 1) (f : Nat → Nat) i (hi : i < N) => show ft kk (1 - d) (ft kk d f) i = f i % 18446744069414584321 from ft_ft kk d (by omega) hd f i (by rw [← hN]; exact hi))
  rw [← hN] at s1
  subst hn
  clear hkk hx hxs hN hk hT R
  go_enter Tryd.func4, Tryd.ntmps4
  go_wp2_with fail
  refine (Kq.awake _).mono ?_
  rintro e w1 ⟨rfl, c1⟩
  go_upto_region 6 with fail
  go_cut [8, 9] (fun v8 v9 wx => ∃ ba bb : Nat, v8 = .slice (some ⟨ba, 0, none⟩) N N ∧ v9 = .slice (some ⟨bb, 0, none⟩) N N ∧ AB w1.heap.size N ba bb (fun _ => 0) (fun _ => 0) w1 wx)
  case first =>
    have AM := Lib.hid (AB.made w1 N 28)
    go_region
    all_goals (go_wp2_with fail; go_meet)
    all_goals first | exact ⟨_, _, rfl, rfl, AM.out.drew⟩ | exact ⟨_, _, rfl, rfl, AM.out.symm.drew⟩
  case rest =>
    obtain ⟨ba, bb, rfl, rfl, I0⟩ := hcut
    clear mk
    go_wp2_with fail
    go_loopw [10] (fun v10 wr => ∃ i : Nat, v10 = .int .i64 (i : Int) ∧ i = 0 ∧ ∃ f : Nat → Nat, (∀ j, f j < 18446744069414584321) ∧ AB w1.heap.size N ba bb f f w1 wr) (fun v10 _ => N - (Lib.intOf v10).toNat)
    case atStart => exact ⟨0, rfl, rfl, _, fun _ => by decide, I0⟩
    case round =>
      obtain ⟨i, rfl, hi, II⟩ := hrel
      clear I0
      have i1 : (i : Int) < N := by omega
      clear hi
      obtain ⟨f, hf, I⟩ := II
      have O3 := Lib.hid (Ow.fresh wr wr.heap.size (Nat.le_refl _))
      have RA3 := Lib.hid ((wk_ws I.a hf I.sa).alloc (Nat.le_refl _) (.cells #[] 28))
      have BA3 := Lib.hid (below_alloc wr (.cells #[] 28))
      have HXE := Lib.hid (show Value.slice (some ⟨ba, 0, none⟩) N N = Value.slice (some ⟨ba, 0, none⟩) (rg f N).length N by rw [rg_len])
      have RL := Lib.hid (show ∀ i, i < (rg f N).length → (rg f N).getD i 0 < 18446744073709551616 from (wk_ws I.a hf I.sa).lt)
      go_wp2_with (at_builtin; (refine append_all (wr.alloc (.cells #[] 28)) ?hgd (.tmp 72) (.tmp 73) ?ho wr.heap.size (.slice (some ⟨wr.heap.size, 0, none⟩) 0 0) [] ?hs O3.out wr.heap.size (some ⟨ba, 0, none⟩) N (rg f N) ?hx RA3.out (fun h => by cases h) ?c1 ?c2 (fun v3 w3 OO hg => ?_)); (case hgd => rfl); (case ho => rfl); (case hs => rfl); (case hx => exact HXE.out))
      case c1 => rw [rg_len]; (try simp only [List.length_nil]); omega
      try (case c2 => simp)
      obtain ⟨bw, k3, rfl, hk3, hb3, J3, d3⟩ := copied_wk (rg_len f N) N0.out O3.out BA3.out OO hg
      clear O3 RA3 BA3 OO hg HXE RL
      go_wp2_with fail
      refine (NX.out _).mono ?_
      rintro e w4 ⟨p, p2, bf, bi, bp, rfl, X4, d4⟩
      go_wp2_with fail
      refine (NY.out _).mono ?_
      rintro e w5 ⟨q, qf, qi, rfl, Y5, d5⟩
      have L5 := Al.start I hb3 J3 d3 X4 d4 Y5 d5
      have T5 := HT.out.below (c1.trans (L5.d.mono c1.size))
      generalize w3.heap.size = lo at *
      clear I J3 d3 X4 d4 Y5 d5 NX NY hb3
      have U := Lib.hid (RX.out 0 (by decide) _ _ _ _ _ _ ba f (fun i _ => Nat.lt_trans (hf i) (by decide)) T5 (L5.x.aside L5.la) L5.ja)
      go_wp2_with fail
      refine U.out.mono ?_
      rintro e w6 ⟨rfl, J6⟩
      have L6 := L5.runa J6
      have T6 := HT.out.below (c1.trans (L6.d.mono c1.size))
      clear U L5 J6 T5
      have U := Lib.hid (RY.out 0 (by decide) _ _ _ _ bb f (fun i _ => Nat.lt_trans (hf i) (by decide)) T6 (L6.y.aside L6.lb) L6.jb)
      go_wp2_with fail
      refine U.out.mono ?_
      rintro e w7 ⟨rfl, J7⟩
      have L7 := L6.runb J7
      clear U L6 J7 T6
      have U := Lib.hid (fun c1 c2 => SG.out _ _ (fun _ _ => rfl) _ _ c1 c2 _ (L7.wa (ft_lt kk 0 f)) (L7.wb (ft_lt kk 0 f)))
      go_wp2_with fail
      refine (U.out _ _).mono ?_
      rintro e w8 ⟨rfl, d8⟩
      have L8 := L7.below d8
      have T8 := HT.out.below (c1.trans (L8.d.mono c1.size))
      clear U L7 d8
      have U := Lib.hid (RY.out 1 (by decide) _ _ _ _ ba (ft kk 0 f) (fun i _ => Nat.lt_trans (ft_lt kk 0 f i) (by decide)) T8 (L8.y.aside L8.la) L8.ja)
      go_wp2_with fail
      refine U.out.mono ?_
      rintro e w9 ⟨rfl, J9⟩
      have L9 := L8.runa J9
      have T9 := HT.out.below (c1.trans (L9.d.mono c1.size))
      clear U L8 J9 T8
      have U := Lib.hid (RX.out 1 (by decide) _ _ _ _ _ _ bb (ft kk 0 f) (fun i _ => Nat.lt_trans (ft_lt kk 0 f i) (by decide)) T9 (L9.x.aside L9.lb) L9.jb)
      go_wp2_with fail
      refine U.out.mono ?_
      rintro e w10 ⟨rfl, J10⟩
      have LA := L9.runb J10
      clear U L9 J10 T9
      have BK := Lib.hid (fun i (hi : i < N) => show ft kk 1 (ft kk 0 f) i = Pn.pl (rg f N) i by rw [pl_rg _ _ _ hi]; exact (FB.out 0 (by decide) f i hi).trans (Nat.mod_eq_of_lt (hf i)))
      have PL := fun i => show Pn.pl (rg f N) i < 18446744069414584321 from pl_lt f N hf i
      have U := Lib.hid (fun c1 c2 => SG.out _ _ BK.out _ _ c1 c2 _ (LA.wa (ft_lt kk 1 (ft kk 0 f))) (LA.wc PL))
      go_wp2_with fail
      refine (U.out _ _).mono ?_
      rintro e w11 ⟨rfl, d11⟩
      have LB := LA.below d11
      clear U LA d11
      have U := Lib.hid (fun c1 c2 => SG.out _ _ BK.out _ _ c1 c2 _ (LB.wb (ft_lt kk 1 (ft kk 0 f))) (LB.wc PL))
      go_wp2_with fail
      refine (U.out _ _).mono ?_
      rintro e w12 ⟨rfl, d12⟩
      have OK := Lib.hid (c1.trans ((LB.below d12).d.mono c1.size))
      clear U LB d12
      go_wp2
      go_ret
      exact ⟨by simp [go_sem], OK.out⟩

set_option maxHeartbeats 2000000 in
set_option maxRecDepth 100000 in
theorem walk_z1 (A : Option Addr) (ca n x kk N : Nat) (xs : List Nat) (hl : n ≤ 40) (hn : n = 0) (hx : x ≤ 255) (hkk : kk = x % 11) (hN : N = 2 ^ kk) (hxs : xs.length = n) (w : World) (hT : Ft.Tab w) (R : Ws w w.heap.size A xs) :
    Calls Tryd.prog 4 #[.slice A n ca, .int .u8 (x : Int), .int .i64 1] w fun e w' => e = .returned (.bool true) ∧ Below w.heap.size w w' := by
  have h1 : ¬ 40 < (n : Int) := by omega
  obtain ⟨m1, m2, m3, m4⟩ := tdiv11 x kk hkk hx
  have hk : kk ≤ 10 := by omega
  have hNl : N ≤ 1024 := by rw [hN]; exact Nat.le_trans (Nat.pow_le_pow_right (by decide) hk) (show 2 ^ 10 ≤ 1024 by decide)
  have s1 := Bt.pow_i64 kk (by omega)
  have s2 := Bt.wrapN kk (by omega)
  have mk := make_words N (by omega) (by omega)
  have NX := Lib.hid (fun W => Kq.new_at kk (by omega) W)
  have NY := Lib.hid (fun W => Kn.new_at kk (by omega) W)
  have N0 := Lib.hid (show 0 < N by rw [hN]; exact Nat.two_pow_pos kk)
  have n0 := N0.out
  have HT := Lib.hid hT
  have RX := Lib.hid (fun d (hd : d ≤ 1) (w : World) p p2 bf bi bp b f hf hT (Z : Kg w b kk p p2 bf bi bp) J => Kq.run_kg kk d (by omega) hd b N N hN (Nat.le_refl _) f hf hT Z J)
  have RY := Lib.hid (fun d (hd : d ≤ 1) (w : World) p bf bi b f hf hT (Z : Ka w b kk p bf bi) J => Kn.run_ka kk d (by omega) hd b N N hN (Nat.le_refl _) f hf hT Z J)
  have SG := Lib.hid (fun (g h : Nat → Nat) (e : ∀ i, i < N → g i = h i) (A B : Option Addr) (ca cb : Nat) W Ra Rb => same_rg (n := N) e (by omega) A B ca cb W Ra Rb)
  have FB := Lib.hid (fun d (hd : d ≤ 1) (f : Nat → Nat) i (hi : i < N) => show ft kk (1 - d) (ft kk d f) i = f i % 18446744069414584321 from ft_ft kk d (by omega) hd f i (by rw [← hN]; exact hi))
  rw [← hN] at s1
  subst hn
  clear hkk hx hxs hN hk hT R
  go_enter Tryd.func4, Tryd.ntmps4
  go_wp2_with fail
  refine (Kq.awake _).mono ?_
  rintro e w1 ⟨rfl, c1⟩
  go_upto_region 6 with fail
  go_cut [8, 9] (fun v8 v9 wx => ∃ ba bb : Nat, v8 = .slice (some ⟨ba, 0, none⟩) N N ∧ v9 = .slice (some ⟨bb, 0, none⟩) N N ∧ AB w1.heap.size N ba bb (fun _ => 0) (fun _ => 0) w1 wx)
  case first =>
    have AM := Lib.hid (AB.made w1 N 28)
    go_region
    all_goals (go_wp2_with fail; go_meet)
    all_goals first | exact ⟨_, _, rfl, rfl, AM.out.drew⟩ | exact ⟨_, _, rfl, rfl, AM.out.symm.drew⟩
  case rest =>
    obtain ⟨ba, bb, rfl, rfl, I0⟩ := hcut
    clear mk
    go_wp2_with fail
    go_loopw [10] (fun v10 wr => ∃ i : Nat, v10 = .int .i64 (i : Int) ∧ i = 0 ∧ ∃ f : Nat → Nat, (∀ j, f j < 18446744069414584321) ∧ AB w1.heap.size N ba bb f f w1 wr) (fun v10 _ => N - (Lib.intOf v10).toNat)
    case atStart => exact ⟨0, rfl, rfl, _, fun _ => by decide, I0⟩
    case round =>
      obtain ⟨i, rfl, hi, II⟩ := hrel
      clear I0
      have i1 : (i : Int) < N := by omega
      clear hi
      obtain ⟨f, hf, I⟩ := II
      have O3 := Lib.hid (Ow.fresh wr wr.heap.size (Nat.le_refl _))
      have RA3 := Lib.hid ((wk_ws I.a hf I.sa).alloc (Nat.le_refl _) (.cells #[] 28))
      have BA3 := Lib.hid (below_alloc wr (.cells #[] 28))
      have HXE := Lib.hid (show Value.slice (some ⟨ba, 0, none⟩) N N = Value.slice (some ⟨ba, 0, none⟩) (rg f N).length N by rw [rg_len])
      have RL := Lib.hid (show ∀ i, i < (rg f N).length → (rg f N).getD i 0 < 18446744073709551616 from (wk_ws I.a hf I.sa).lt)
      go_wp2_with (at_builtin; (refine append_all (wr.alloc (.cells #[] 28)) ?hgd (.tmp 72) (.tmp 73) ?ho wr.heap.size (.slice (some ⟨wr.heap.size, 0, none⟩) 0 0) [] ?hs O3.out wr.heap.size (some ⟨ba, 0, none⟩) N (rg f N) ?hx RA3.out (fun h => by cases h) ?c1 ?c2 (fun v3 w3 OO hg => ?_)); (case hgd => rfl); (case ho => rfl); (case hs => rfl); (case hx => exact HXE.out))
      case c1 => rw [rg_len]; (try simp only [List.length_nil]); omega
      try (case c2 => simp)
      obtain ⟨bw, k3, rfl, hk3, hb3, J3, d3⟩ := copied_wk (rg_len f N) N0.out O3.out BA3.out OO hg
      clear O3 RA3 BA3 OO hg HXE RL
      go_wp2_with fail
      refine (NX.out _).mono ?_
      rintro e w4 ⟨p, p2, bf, bi, bp, rfl, X4, d4⟩
      go_wp2_with fail
      refine (NY.out _).mono ?_
      rintro e w5 ⟨q, qf, qi, rfl, Y5, d5⟩
      have L5 := Al.start I hb3 J3 d3 X4 d4 Y5 d5
      have T5 := HT.out.below (c1.trans (L5.d.mono c1.size))
      generalize w3.heap.size = lo at *
      clear I J3 d3 X4 d4 Y5 d5 NX NY hb3
      have U := Lib.hid (RX.out 1 (by decide) _ _ _ _ _ _ ba f (fun i _ => Nat.lt_trans (hf i) (by decide)) T5 (L5.x.aside L5.la) L5.ja)
      go_wp2_with fail
      refine U.out.mono ?_
      rintro e w6 ⟨rfl, J6⟩
      have L6 := L5.runa J6
      have T6 := HT.out.below (c1.trans (L6.d.mono c1.size))
      clear U L5 J6 T5
      have U := Lib.hid (RY.out 1 (by decide) _ _ _ _ bb f (fun i _ => Nat.lt_trans (hf i) (by decide)) T6 (L6.y.aside L6.lb) L6.jb)
      go_wp2_with fail
      refine U.out.mono ?_
      rintro e w7 ⟨rfl, J7⟩
      have L7 := L6.runb J7
      clear U L6 J7 T6
      have U := Lib.hid (fun c1 c2 => SG.out _ _ (fun _ _ => rfl) _ _ c1 c2 _ (L7.wa (ft_lt kk 1 f)) (L7.wb (ft_lt kk 1 f)))
      go_wp2_with fail
      refine (U.out _ _).mono ?_
      rintro e w8 ⟨rfl, d8⟩
      have L8 := L7.below d8
      have T8 := HT.out.below (c1.trans (L8.d.mono c1.size))
      clear U L7 d8
      have U := Lib.hid (RY.out 0 (by decide) _ _ _ _ ba (ft kk 1 f) (fun i _ => Nat.lt_trans (ft_lt kk 1 f i) (by decide)) T8 (L8.y.aside L8.la) L8.ja)
      go_wp2_with fail
      refine U.out.mono ?_
      rintro e w9 ⟨rfl, J9⟩
      have L9 := L8.runa J9
      have T9 := HT.out.below (c1.trans (L9.d.mono c1.size))
      clear U L8 J9 T8
      have U := Lib.hid (RX.out 0 (by decide) _ _ _ _ _ _ bb (ft kk 1 f) (fun i _ => Nat.lt_trans (ft_lt kk 1 f i) (by decide)) T9 (L9.x.aside L9.lb) L9.jb)
      go_wp2_with fail
      refine U.out.mono ?_
      rintro e w10 ⟨rfl, J10⟩
      have LA := L9.runb J10
      clear U L9 J10 T9
      have BK := Lib.hid (fun i (hi : i < N) => show ft kk 0 (ft kk 1 f) i = Pn.pl (rg f N) i by rw [pl_rg _ _ _ hi]; exact (FB.out 1 (by decide) f i hi).trans (Nat.mod_eq_of_lt (hf i)))
      have PL := fun i => show Pn.pl (rg f N) i < 18446744069414584321 from pl_lt f N hf i
      have U := Lib.hid (fun c1 c2 => SG.out _ _ BK.out _ _ c1 c2 _ (LA.wa (ft_lt kk 0 (ft kk 1 f))) (LA.wc PL))
      go_wp2_with fail
      refine (U.out _ _).mono ?_
      rintro e w11 ⟨rfl, d11⟩
      have LB := LA.below d11
      clear U LA d11
      have U := Lib.hid (fun c1 c2 => SG.out _ _ BK.out _ _ c1 c2 _ (LB.wb (ft_lt kk 0 (ft kk 1 f))) (LB.wc PL))
      go_wp2_with fail
      refine (U.out _ _).mono ?_
      rintro e w12 ⟨rfl, d12⟩
      have OK := Lib.hid (c1.trans ((LB.below d12).d.mono c1.size))
      clear U LB d12
      go_wp2
      go_ret
      exact ⟨by simp [go_sem], OK.out⟩

set_option maxHeartbeats 2000000 in
set_option maxRecDepth 100000 in
theorem walk_p0 (A : Option Addr) (ca n x kk N : Nat) (xs : List Nat) (hl : n ≤ 40) (hn : 0 < n) (hx : x ≤ 255) (hkk : kk = x % 11) (hN : N = 2 ^ kk) (hxs : xs.length = n) (w : World) (hT : Ft.Tab w) (R : Ws w w.heap.size A xs) :
    Calls Tryd.prog 4 #[.slice A n ca, .int .u8 (x : Int), .int .i64 0] w fun e w' => e = .returned (.bool true) ∧ Below w.heap.size w w' := by
  have h1 : ¬ 40 < (n : Int) := by omega
  obtain ⟨m1, m2, m3, m4⟩ := tdiv11 x kk hkk hx
  have hk : kk ≤ 10 := by omega
  have hNl : N ≤ 1024 := by rw [hN]; exact Nat.le_trans (Nat.pow_le_pow_right (by decide) hk) (show 2 ^ 10 ≤ 1024 by decide)
  have s1 := Bt.pow_i64 kk (by omega)
  have s2 := Bt.wrapN kk (by omega)
  have mk := make_words N (by omega) (by omega)
  have NX := Lib.hid (fun W => Kq.new_at kk (by omega) W)
  have NY := Lib.hid (fun W => Kn.new_at kk (by omega) W)
  have N0 := Lib.hid (show 0 < N by rw [hN]; exact Nat.two_pow_pos kk)
  have n0 := N0.out
  have HT := Lib.hid hT
  have RX := Lib.hid (fun d (hd : d ≤ 1) (w : World) p p2 bf bi bp b f hf hT (Z : Kg w b kk p p2 bf bi bp) J => Kq.run_kg kk d (by omega) hd b N N hN (Nat.le_refl _) f hf hT Z J)
  have RY := Lib.hid (fun d (hd : d ≤ 1) (w : World) p bf bi b f hf hT (Z : Ka w b kk p bf bi) J => Kn.run_ka kk d (by omega) hd b N N hN (Nat.le_refl _) f hf hT Z J)
  have SG := Lib.hid (fun (g h : Nat → Nat) (e : ∀ i, i < N → g i = h i) (A B : Option Addr) (ca cb : Nat) W Ra Rb => same_rg (n := N) e (by omega) A B ca cb W Ra Rb)
  have FB := Lib.hid (fun d (hd : d ≤ 1) (f : Nat → Nat) i (hi : i < N) => show ft kk (1 - d) (ft kk d f) i = f i % 18446744069414584321 from ft_ft kk d (by omega) hd f i (by rw [← hN]; exact hi))
  rw [← hN] at s1
  have b0 : ((n : Int) == 0) = false := by rw [beq_eq_false_iff_ne]; omega
  have b1 : ¬ (n : Int) = 0 := by omega
  have b2 : (0 : Int) < (n : Int) := by omega
  have MU := Lib.hid (fun r c (hr : r < n) (hc : c < 18446744073709551616) W => Gr.mul (Pn.pl xs r) c hc W)
  have R := Lib.hid R
  have HXS := Lib.hid hxs
  have HNN := Lib.hid hn
  clear hkk hx hxs hN hk hT hn
  go_enter Tryd.func4, Tryd.ntmps4
  go_wp2_with fail
  refine (Kq.awake _).mono ?_
  rintro e w1 ⟨rfl, c1⟩
  go_upto_region 6 with fail
  go_cut [8, 9] (fun v8 v9 wx => ∃ ba bb : Nat, v8 = .slice (some ⟨ba, 0, none⟩) N N ∧ v9 = .slice (some ⟨bb, 0, none⟩) N N ∧ AB w1.heap.size N ba bb (fun _ => 0) (fun _ => 0) w1 wx)
  case first =>
    have AM := Lib.hid (AB.made w1 N 28)
    go_region
    all_goals (go_wp2_with fail; go_meet)
    all_goals first | exact ⟨_, _, rfl, rfl, AM.out.drew⟩ | exact ⟨_, _, rfl, rfl, AM.out.symm.drew⟩
  case rest =>
    obtain ⟨ba, bb, rfl, rfl, I0⟩ := hcut
    clear mk
    go_wp2_with fail
    go_loopw [10] (fun v10 wr => ∃ i : Nat, v10 = .int .i64 (i : Int) ∧ i ≤ N ∧ ∃ f : Nat → Nat, (∀ j, f j < 18446744069414584321) ∧ AB w1.heap.size N ba bb f f w1 wr) (fun v10 _ => N - (Lib.intOf v10).toNat)
    case atStart => exact ⟨0, rfl, Nat.zero_le _, _, fun _ => by decide, I0⟩
    case round =>
      obtain ⟨i, rfl, hi, II⟩ := hrel
      clear I0
      by_cases hlt : i < N
      · have i1 : (i : Int) < N := by omega
        obtain ⟨f, hf, I⟩ := II
        clear NX NY RX RY SG FB
        obtain ⟨r, hr⟩ : ∃ r, r = i % n := ⟨_, rfl⟩
        have hrn : r < n := by rw [hr]; exact Nat.mod_lt _ HNN.out
        have r1 : (i : Int).tmod (n : Int) = (r : Int) := by rw [Int.tmod_eq_emod_of_nonneg (by omega), hr, Int.natCast_emod]
        have r2 : (i : Int) % (n : Int) = (r : Int) := by rw [hr, Int.natCast_emod]
        have r3 : IntKind.i64.wrap (r : Int) = (r : Int) := IntWalk.i64_in _ (by omega)
        obtain ⟨s, hs⟩ : ∃ s, s = i * i := ⟨_, rfl⟩
        have hsl : s ≤ 1048576 := by rw [hs]; exact Nat.le_trans (Nat.mul_le_mul (show i ≤ 1024 by omega) (show i ≤ 1024 by omega)) (by decide)
        have q1 : IntKind.i64.wrap ((i : Int) * (i : Int)) = (s : Int) := by rw [hs, ← Int.natCast_mul]; exact IntWalk.i64_in _ (by omega)
        obtain ⟨c, hc⟩ : ∃ c, c = s + 1 := ⟨_, rfl⟩
        have q2 : IntKind.i64.wrap ((s : Int) + 1) = (c : Int) := by rw [IntKind.wrap_i64]; omega
        have q3 : IntKind.u64.wrap (c : Int) = (c : Int) := Bt.wrapN c (by omega)
        have q4 : IntKind.i64.wrap ((i : Int) + 1) = ((i + 1 : Nat) : Int) := by rw [IntKind.wrap_i64]; omega
        have R1 := R.out.step (c1.trans (I.d.mono c1.size))
        obtain ⟨b3, o3, rfl, hB3, cc⟩ := R1.at_ r (by rw [HXS.out]; exact hrn)
        have cl : wr.cell? ⟨b3, o3 + r, none⟩ = some (.int .u64 (Pn.pl xs r : Nat)) := cc
        have M := Lib.hid (MU.out r c hrn (by omega))
        obtain ⟨v, hv⟩ : ∃ v, v = Pn.pl xs r * c % 18446744069414584321 := ⟨_, rfl⟩
        rw [← hv] at M
        have hvl : v < 18446744069414584321 := by rw [hv]; exact Nat.mod_lt _ (by decide)
        obtain ⟨a1, a2⟩ := I.ata i hlt
        have IP := I.puta i v hlt
        have hf2 := Lib.hid (upd_lt f hf i v hvl)
        clear hr hs hc hsl R1 cc hv MU I
        generalize Pn.pl xs r = y at *
        generalize f i = f0 at *
        go_wp2_with fail
        refine (M.out _).mono ?_
        rintro e w2 ⟨rfl, rfl⟩
        clear cl
        go_upto_region 11 with fail
        generalize wr.setCell ⟨ba, i, none⟩ (.int .u64 (v : Nat)) = wa at *
        clear a1 a2
        obtain ⟨a1, a2⟩ := IP.ata i hlt
        rw [upd_same] at a1
        obtain ⟨a3, a4⟩ := IP.symm.ata i hlt
        have IQ := Lib.hid (IP.symm.puta i v hlt)
        clear IP
        go_wp2_with fail
        go_roundw
        case rel => exact ⟨i + 1, rfl, hlt, _, hf2.out, IQ.out.symm⟩
        case measure => simp [Lib.intOf]; omega
      · have i1 : ¬ (i : Int) < N := by omega
        clear MU R
        obtain ⟨f, hf, I⟩ := II
        have O3 := Lib.hid (Ow.fresh wr wr.heap.size (Nat.le_refl _))
        have RA3 := Lib.hid ((wk_ws I.a hf I.sa).alloc (Nat.le_refl _) (.cells #[] 28))
        have BA3 := Lib.hid (below_alloc wr (.cells #[] 28))
        have HXE := Lib.hid (show Value.slice (some ⟨ba, 0, none⟩) N N = Value.slice (some ⟨ba, 0, none⟩) (rg f N).length N by rw [rg_len])
        have RL := Lib.hid (show ∀ i, i < (rg f N).length → (rg f N).getD i 0 < 18446744073709551616 from (wk_ws I.a hf I.sa).lt)
        go_wp2_with (at_builtin; (refine append_all (wr.alloc (.cells #[] 28)) ?hgd (.tmp 72) (.tmp 73) ?ho wr.heap.size (.slice (some ⟨wr.heap.size, 0, none⟩) 0 0) [] ?hs O3.out wr.heap.size (some ⟨ba, 0, none⟩) N (rg f N) ?hx RA3.out (fun h => by cases h) ?c1 ?c2 (fun v3 w3 OO hg => ?_)); (case hgd => rfl); (case ho => rfl); (case hs => rfl); (case hx => exact HXE.out))
        case c1 => rw [rg_len]; (try simp only [List.length_nil]); omega
        try (case c2 => simp)
        obtain ⟨bw, k3, rfl, hk3, hb3, J3, d3⟩ := copied_wk (rg_len f N) N0.out O3.out BA3.out OO hg
        clear O3 RA3 BA3 OO hg HXE RL
        go_wp2_with fail
        refine (NX.out _).mono ?_
        rintro e w4 ⟨p, p2, bf, bi, bp, rfl, X4, d4⟩
        go_wp2_with fail
        refine (NY.out _).mono ?_
        rintro e w5 ⟨q, qf, qi, rfl, Y5, d5⟩
        have L5 := Al.start I hb3 J3 d3 X4 d4 Y5 d5
        have T5 := HT.out.below (c1.trans (L5.d.mono c1.size))
        generalize w3.heap.size = lo at *
        clear I J3 d3 X4 d4 Y5 d5 NX NY hb3
        have U := Lib.hid (RX.out 0 (by decide) _ _ _ _ _ _ ba f (fun i _ => Nat.lt_trans (hf i) (by decide)) T5 (L5.x.aside L5.la) L5.ja)
        go_wp2_with fail
        refine U.out.mono ?_
        rintro e w6 ⟨rfl, J6⟩
        have L6 := L5.runa J6
        have T6 := HT.out.below (c1.trans (L6.d.mono c1.size))
        clear U L5 J6 T5
        have U := Lib.hid (RY.out 0 (by decide) _ _ _ _ bb f (fun i _ => Nat.lt_trans (hf i) (by decide)) T6 (L6.y.aside L6.lb) L6.jb)
        go_wp2_with fail
        refine U.out.mono ?_
        rintro e w7 ⟨rfl, J7⟩
        have L7 := L6.runb J7
        clear U L6 J7 T6
        have U := Lib.hid (fun c1 c2 => SG.out _ _ (fun _ _ => rfl) _ _ c1 c2 _ (L7.wa (ft_lt kk 0 f)) (L7.wb (ft_lt kk 0 f)))
        go_wp2_with fail
        refine (U.out _ _).mono ?_
        rintro e w8 ⟨rfl, d8⟩
        have L8 := L7.below d8
        have T8 := HT.out.below (c1.trans (L8.d.mono c1.size))
        clear U L7 d8
        have U := Lib.hid (RY.out 1 (by decide) _ _ _ _ ba (ft kk 0 f) (fun i _ => Nat.lt_trans (ft_lt kk 0 f i) (by decide)) T8 (L8.y.aside L8.la) L8.ja)
        go_wp2_with fail
        refine U.out.mono ?_
        rintro e w9 ⟨rfl, J9⟩
        have L9 := L8.runa J9
        have T9 := HT.out.below (c1.trans (L9.d.mono c1.size))
        clear U L8 J9 T8
        have U := Lib.hid (RX.out 1 (by decide) _ _ _ _ _ _ bb (ft kk 0 f) (fun i _ => Nat.lt_trans (ft_lt kk 0 f i) (by decide)) T9 (L9.x.aside L9.lb) L9.jb)
        go_wp2_with fail
        refine U.out.mono ?_
        rintro e w10 ⟨rfl, J10⟩
        have LA := L9.runb J10
        clear U L9 J10 T9
        have BK := Lib.hid (fun i (hi : i < N) => show ft kk 1 (ft kk 0 f) i = Pn.pl (rg f N) i by rw [pl_rg _ _ _ hi]; exact (FB.out 0 (by decide) f i hi).trans (Nat.mod_eq_of_lt (hf i)))
        have PL := fun i => show Pn.pl (rg f N) i < 18446744069414584321 from pl_lt f N hf i
        have U := Lib.hid (fun c1 c2 => SG.out _ _ BK.out _ _ c1 c2 _ (LA.wa (ft_lt kk 1 (ft kk 0 f))) (LA.wc PL))
        go_wp2_with fail
        refine (U.out _ _).mono ?_
        rintro e w11 ⟨rfl, d11⟩
        have LB := LA.below d11
        clear U LA d11
        have U := Lib.hid (fun c1 c2 => SG.out _ _ BK.out _ _ c1 c2 _ (LB.wb (ft_lt kk 1 (ft kk 0 f))) (LB.wc PL))
        go_wp2_with fail
        refine (U.out _ _).mono ?_
        rintro e w12 ⟨rfl, d12⟩
        have OK := Lib.hid (c1.trans ((LB.below d12).d.mono c1.size))
        clear U LB d12
        go_wp2
        go_ret
        exact ⟨by simp [go_sem], OK.out⟩

set_option maxHeartbeats 2000000 in
set_option maxRecDepth 100000 in
theorem walk_p1 (A : Option Addr) (ca n x kk N : Nat) (xs : List Nat) (hl : n ≤ 40) (hn : 0 < n) (hx : x ≤ 255) (hkk : kk = x % 11) (hN : N = 2 ^ kk) (hxs : xs.length = n) (w : World) (hT : Ft.Tab w) (R : Ws w w.heap.size A xs) :
    Calls Tryd.prog 4 #[.slice A n ca, .int .u8 (x : Int), .int .i64 1] w fun e w' => e = .returned (.bool true) ∧ Below w.heap.size w w' := by
  have h1 : ¬ 40 < (n : Int) := by omega
  obtain ⟨m1, m2, m3, m4⟩ := tdiv11 x kk hkk hx
  have hk : kk ≤ 10 := by omega
  have hNl : N ≤ 1024 := by rw [hN]; exact Nat.le_trans (Nat.pow_le_pow_right (by decide) hk) (show 2 ^ 10 ≤ 1024 by decide)
  have s1 := Bt.pow_i64 kk (by omega)
  have s2 := Bt.wrapN kk (by omega)
  have mk := make_words N (by omega) (by omega)
  have NX := Lib.hid (fun W => Kq.new_at kk (by omega) W)
  have NY := Lib.hid (fun W => Kn.new_at kk (by omega) W)
  have N0 := Lib.hid (show 0 < N by rw [hN]; exact Nat.two_pow_pos kk)
  have n0 := N0.out
  have HT := Lib.hid hT
  have RX := Lib.hid (fun d (hd : d ≤ 1) (w : World) p p2 bf bi bp b f hf hT (Z : Kg w b kk p p2 bf bi bp) J => Kq.run_kg kk d (by omega) hd b N N hN (Nat.le_refl _) f hf hT Z J)
  have RY := Lib.hid (fun d (hd : d ≤ 1) (w : World) p bf bi b f hf hT (Z : Ka w b kk p bf bi) J => Kn.run_ka kk d (by omega) hd b N N hN (Nat.le_refl _) f hf hT Z J)
  have SG := Lib.hid (fun (g h : Nat → Nat) (e : ∀ i, i < N → g i = h i) (A B : Option Addr) (ca cb : Nat) W Ra Rb => same_rg (n := N) e (by omega) A B ca cb W Ra Rb)
  have FB := Lib.hid (fun d (hd : d ≤ 1) (f : Nat → Nat) i (hi : i < N) => show ft kk (1 - d) (ft kk d f) i = f i % 18446744069414584321 from ft_ft kk d (by omega) hd f i (by rw [← hN]; exact hi))
  rw [← hN] at s1
  have b0 : ((n : Int) == 0) = false := by rw [beq_eq_false_iff_ne]; omega
  have b1 : ¬ (n : Int) = 0 := by omega
  have b2 : (0 : Int) < (n : Int) := by omega
  have MU := Lib.hid (fun r c (hr : r < n) (hc : c < 18446744073709551616) W => Gr.mul (Pn.pl xs r) c hc W)
  have R := Lib.hid R
  have HXS := Lib.hid hxs
  have HNN := Lib.hid hn
  clear hkk hx hxs hN hk hT hn
  go_enter Tryd.func4, Tryd.ntmps4
  go_wp2_with fail
  refine (Kq.awake _).mono ?_
  rintro e w1 ⟨rfl, c1⟩
  go_upto_region 6 with fail
  go_cut [8, 9] (fun v8 v9 wx => ∃ ba bb : Nat, v8 = .slice (some ⟨ba, 0, none⟩) N N ∧ v9 = .slice (some ⟨bb, 0, none⟩) N N ∧ AB w1.heap.size N ba bb (fun _ => 0) (fun _ => 0) w1 wx)
  case first =>
    have AM := Lib.hid (AB.made w1 N 28)
    go_region
    all_goals (go_wp2_with fail; go_meet)
    all_goals first | exact ⟨_, _, rfl, rfl, AM.out.drew⟩ | exact ⟨_, _, rfl, rfl, AM.out.symm.drew⟩
  case rest =>
    obtain ⟨ba, bb, rfl, rfl, I0⟩ := hcut
    clear mk
    go_wp2_with fail
    go_loopw [10] (fun v10 wr => ∃ i : Nat, v10 = .int .i64 (i : Int) ∧ i ≤ N ∧ ∃ f : Nat → Nat, (∀ j, f j < 18446744069414584321) ∧ AB w1.heap.size N ba bb f f w1 wr) (fun v10 _ => N - (Lib.intOf v10).toNat)
    case atStart => exact ⟨0, rfl, Nat.zero_le _, _, fun _ => by decide, I0⟩
    case round =>
      obtain ⟨i, rfl, hi, II⟩ := hrel
      clear I0
      by_cases hlt : i < N
      · have i1 : (i : Int) < N := by omega
        obtain ⟨f, hf, I⟩ := II
        clear NX NY RX RY SG FB
        obtain ⟨r, hr⟩ : ∃ r, r = i % n := ⟨_, rfl⟩
        have hrn : r < n := by rw [hr]; exact Nat.mod_lt _ HNN.out
        have r1 : (i : Int).tmod (n : Int) = (r : Int) := by rw [Int.tmod_eq_emod_of_nonneg (by omega), hr, Int.natCast_emod]
        have r2 : (i : Int) % (n : Int) = (r : Int) := by rw [hr, Int.natCast_emod]
        have r3 : IntKind.i64.wrap (r : Int) = (r : Int) := IntWalk.i64_in _ (by omega)
        obtain ⟨s, hs⟩ : ∃ s, s = i * i := ⟨_, rfl⟩
        have hsl : s ≤ 1048576 := by rw [hs]; exact Nat.le_trans (Nat.mul_le_mul (show i ≤ 1024 by omega) (show i ≤ 1024 by omega)) (by decide)
        have q1 : IntKind.i64.wrap ((i : Int) * (i : Int)) = (s : Int) := by rw [hs, ← Int.natCast_mul]; exact IntWalk.i64_in _ (by omega)
        obtain ⟨c, hc⟩ : ∃ c, c = s + 1 := ⟨_, rfl⟩
        have q2 : IntKind.i64.wrap ((s : Int) + 1) = (c : Int) := by rw [IntKind.wrap_i64]; omega
        have q3 : IntKind.u64.wrap (c : Int) = (c : Int) := Bt.wrapN c (by omega)
        have q4 : IntKind.i64.wrap ((i : Int) + 1) = ((i + 1 : Nat) : Int) := by rw [IntKind.wrap_i64]; omega
        have R1 := R.out.step (c1.trans (I.d.mono c1.size))
        obtain ⟨b3, o3, rfl, hB3, cc⟩ := R1.at_ r (by rw [HXS.out]; exact hrn)
        have cl : wr.cell? ⟨b3, o3 + r, none⟩ = some (.int .u64 (Pn.pl xs r : Nat)) := cc
        have M := Lib.hid (MU.out r c hrn (by omega))
        obtain ⟨v, hv⟩ : ∃ v, v = Pn.pl xs r * c % 18446744069414584321 := ⟨_, rfl⟩
        rw [← hv] at M
        have hvl : v < 18446744069414584321 := by rw [hv]; exact Nat.mod_lt _ (by decide)
        obtain ⟨a1, a2⟩ := I.ata i hlt
        have IP := I.puta i v hlt
        have hf2 := Lib.hid (upd_lt f hf i v hvl)
        clear hr hs hc hsl R1 cc hv MU I
        generalize Pn.pl xs r = y at *
        generalize f i = f0 at *
        go_wp2_with fail
        refine (M.out _).mono ?_
        rintro e w2 ⟨rfl, rfl⟩
        clear cl
        go_upto_region 11 with fail
        generalize wr.setCell ⟨ba, i, none⟩ (.int .u64 (v : Nat)) = wa at *
        clear a1 a2
        obtain ⟨a1, a2⟩ := IP.ata i hlt
        rw [upd_same] at a1
        obtain ⟨a3, a4⟩ := IP.symm.ata i hlt
        have IQ := Lib.hid (IP.symm.puta i v hlt)
        clear IP
        go_wp2_with fail
        go_roundw
        case rel => exact ⟨i + 1, rfl, hlt, _, hf2.out, IQ.out.symm⟩
        case measure => simp [Lib.intOf]; omega
      · have i1 : ¬ (i : Int) < N := by omega
        clear MU R
        obtain ⟨f, hf, I⟩ := II
        have O3 := Lib.hid (Ow.fresh wr wr.heap.size (Nat.le_refl _))
        have RA3 := Lib.hid ((wk_ws I.a hf I.sa).alloc (Nat.le_refl _) (.cells #[] 28))
        have BA3 := Lib.hid (below_alloc wr (.cells #[] 28))
        have HXE := Lib.hid (show Value.slice (some ⟨ba, 0, none⟩) N N = Value.slice (some ⟨ba, 0, none⟩) (rg f N).length N by rw [rg_len])
        have RL := Lib.hid (show ∀ i, i < (rg f N).length → (rg f N).getD i 0 < 18446744073709551616 from (wk_ws I.a hf I.sa).lt)
        go_wp2_with (at_builtin; (refine append_all (wr.alloc (.cells #[] 28)) ?hgd (.tmp 72) (.tmp 73) ?ho wr.heap.size (.slice (some ⟨wr.heap.size, 0, none⟩) 0 0) [] ?hs O3.out wr.heap.size (some ⟨ba, 0, none⟩) N (rg f N) ?hx RA3.out (fun h => by cases h) ?c1 ?c2 (fun v3 w3 OO hg => ?_)); (case hgd => rfl); (case ho => rfl); (case hs => rfl); (case hx => exact HXE.out))
        case c1 => rw [rg_len]; (try simp only [List.length_nil]); omega
        try (case c2 => simp)
        obtain ⟨bw, k3, rfl, hk3, hb3, J3, d3⟩ := copied_wk (rg_len f N) N0.out O3.out BA3.out OO hg
        clear O3 RA3 BA3 OO hg HXE RL
        go_wp2_with fail
        refine (NX.out _).mono ?_
        rintro e w4 ⟨p, p2, bf, bi, bp, rfl, X4, d4⟩
        go_wp2_with fail
        refine (NY.out _).mono ?_
        rintro e w5 ⟨q, qf, qi, rfl, Y5, d5⟩
        have L5 := Al.start I hb3 J3 d3 X4 d4 Y5 d5
        have T5 := HT.out.below (c1.trans (L5.d.mono c1.size))
        generalize w3.heap.size = lo at *
        clear I J3 d3 X4 d4 Y5 d5 NX NY hb3
        have U := Lib.hid (RX.out 1 (by decide) _ _ _ _ _ _ ba f (fun i _ => Nat.lt_trans (hf i) (by decide)) T5 (L5.x.aside L5.la) L5.ja)
        go_wp2_with fail
        refine U.out.mono ?_
        rintro e w6 ⟨rfl, J6⟩
        have L6 := L5.runa J6
        have T6 := HT.out.below (c1.trans (L6.d.mono c1.size))
        clear U L5 J6 T5
        have U := Lib.hid (RY.out 1 (by decide) _ _ _ _ bb f (fun i _ => Nat.lt_trans (hf i) (by decide)) T6 (L6.y.aside L6.lb) L6.jb)
        go_wp2_with fail
        refine U.out.mono ?_
        rintro e w7 ⟨rfl, J7⟩
        have L7 := L6.runb J7
        clear U L6 J7 T6
        have U := Lib.hid (fun c1 c2 => SG.out _ _ (fun _ _ => rfl) _ _ c1 c2 _ (L7.wa (ft_lt kk 1 f)) (L7.wb (ft_lt kk 1 f)))
        go_wp2_with fail
        refine (U.out _ _).mono ?_
        rintro e w8 ⟨rfl, d8⟩
        have L8 := L7.below d8
        have T8 := HT.out.below (c1.trans (L8.d.mono c1.size))
        clear U L7 d8
        have U := Lib.hid (RY.out 0 (by decide) _ _ _ _ ba (ft kk 1 f) (fun i _ => Nat.lt_trans (ft_lt kk 1 f i) (by decide)) T8 (L8.y.aside L8.la) L8.ja)
        go_wp2_with fail
        refine U.out.mono ?_
        rintro e w9 ⟨rfl, J9⟩
        have L9 := L8.runa J9
        have T9 := HT.out.below (c1.trans (L9.d.mono c1.size))
        clear U L8 J9 T8
        have U := Lib.hid (RX.out 0 (by decide) _ _ _ _ _ _ bb (ft kk 1 f) (fun i _ => Nat.lt_trans (ft_lt kk 1 f i) (by decide)) T9 (L9.x.aside L9.lb) L9.jb)
        go_wp2_with fail
        refine U.out.mono ?_
        rintro e w10 ⟨rfl, J10⟩
        have LA := L9.runb J10
        clear U L9 J10 T9
        have BK := Lib.hid (fun i (hi : i < N) => show ft kk 0 (ft kk 1 f) i = Pn.pl (rg f N) i by rw [pl_rg _ _ _ hi]; exact (FB.out 1 (by decide) f i hi).trans (Nat.mod_eq_of_lt (hf i)))
        have PL := fun i => show Pn.pl (rg f N) i < 18446744069414584321 from pl_lt f N hf i
        have U := Lib.hid (fun c1 c2 => SG.out _ _ BK.out _ _ c1 c2 _ (LA.wa (ft_lt kk 0 (ft kk 1 f))) (LA.wc PL))
        go_wp2_with fail
        refine (U.out _ _).mono ?_
        rintro e w11 ⟨rfl, d11⟩
        have LB := LA.below d11
        clear U LA d11
        have U := Lib.hid (fun c1 c2 => SG.out _ _ BK.out _ _ c1 c2 _ (LB.wb (ft_lt kk 0 (ft kk 1 f))) (LB.wc PL))
        go_wp2_with fail
        refine (U.out _ _).mono ?_
        rintro e w12 ⟨rfl, d12⟩
        have OK := Lib.hid (c1.trans ((LB.below d12).d.mono c1.size))
        clear U LB d12
        go_wp2
        go_ret
        exact ⟨by simp [go_sem], OK.out⟩

theorem walk (A : Option Addr) (ca n : Nat) (xs : List Nat) (x : Nat) (d : Int) (hxs : xs.length = n) (hx : x ≤ 255) (w : World) (hT : Ft.Tab w) (R : Ws w w.heap.size A xs) :
    Calls Tryd.prog 4 #[.slice A n ca, .int .u8 (x : Int), .int .i64 d] w fun e w' => e = .returned (.bool true) ∧ Below w.heap.size w w' := by
  by_cases hl : 40 < n
  · exact walk_long A ca n x d hl hx w
  by_cases hd : d ≠ 0 ∧ d ≠ 1
  · exact walk_kind A ca n x d (by omega) hx hd.1 hd.2 w
  obtain rfl | rfl : d = 0 ∨ d = 1 := by omega
  · by_cases hn : n = 0
    · exact walk_z0 A ca n x _ _ xs (by omega) hn hx rfl rfl hxs w hT R
    · exact walk_p0 A ca n x _ _ xs (by omega) (by omega) hx rfl rfl hxs w hT R
  · by_cases hn : n = 0
    · exact walk_z1 A ca n x _ _ xs (by omega) hn hx rfl rfl hxs w hT R
    · exact walk_p1 A ca n x _ _ xs (by omega) (by omega) hx rfl rfl hxs w hT R

theorem g32 : Tryd.prog.globalNamed "math/bits.deBruijn32tab" = some 0 := by kernel_rfl
theorem g64 : Tryd.prog.globalNamed "math/bits.deBruijn64tab" = some 1 := by kernel_rfl
theorem t64 : (Tryd.prog.globals[1]?).map (·.type) = some 87 := by kernel_rfl
/-- What the row's condition gives the walk: the table's cells. -/
theorem of_laid {W : World} (h : laidMetH Tryd.prog Rows.quartersAlikeRow.laid W) : Ft.Tab W := by
  rw [MakeChecks.laidMetH_plain _ _ _ (by kernel_rfl)] at h
  obtain ⟨ps, ⟨g0, t0, cs0, f0, p0, q0, hg0, ht0, hv0, hd0, ⟨g1, t1, cs1, f1, p1, q1, hg1, ht1, hv1, hd1, _, _⟩, _⟩, _, _⟩ := h
  obtain rfl := Option.some.inj (g64.symm.trans hg1)
  obtain rfl := Option.some.inj (t64.symm.trans ht1)
  have hd2 : DataW.trod _ Tryd.prog W 0 _ false f1 87 cs1.toList = some (Lib.tabData .u8 (Lib.deBruijn64tab.map Int.ofNat), p1) := hd1
  have hc := Lib.cells_of_tab Tryd.underlying87 Tryd.underlying5 (by kernel_rfl) (by kernel_rfl) hd2
  intro i hi
  have c := World.var?_cell hg1 hv1 i
  rw [c, ← Array.getElem?_toList, hc]
  have hl : Lib.deBruijn64tab.length = 64 := by decide
  simp [List.getD, hl, hi]

/-- The door's own heap meets the condition. -/
theorem door_met (os : Os) (args : Array Value) : laidMetH Tryd.prog Rows.quartersAlikeRow.laid ((World.doorLaid Tryd.prog 400 os).forCall (fun _ _ => 0) ⟨#[], args, []⟩).memory :=
  laidMetH_of_parts3 (fuel := 8) (laidMet_of_run' 8 (by kernel_rfl) (by kernel_rfl)) (by kernel_rfl) (by kernel_rfl)
set_option maxRecDepth 100000 in
theorem lifted (os : Os) (started : os.Started) (H : Type) (enc : TypeId × Value → H) :
    ReturnsInHanded {} Tryd.checked os 4 .any (fun w args => (Rows.quartersAlikeSpec.pre enc Tryd.prog Tryd.f4 [] false w args ∧ laidMetH Tryd.prog Rows.quartersAlikeRow.laid w) ∧ sizedMet enc Tryd.prog Tryd.f4 (OpenSpec.ofChange Rows.quartersAlikeSpec) false w args)
      (Rows.quartersAlikeSpec.post enc Tryd.prog Tryd.f4 false true false false) := by
  refine returnsInHanded_of_change_and (C := Tryd.checked) (X := fun w _ => laidMetH Tryd.prog Rows.quartersAlikeRow.laid w) (fun _ _ _ hh h => h.of_heap hh) Fr.own started (by kernel_rfl) Tryd.func4
    (ChangeSpec.witness_shaped (enc := enc) (C := Tryd.checked) (os := os) (X := fun w _ => laidMetH Tryd.prog Rows.quartersAlikeRow.laid w) false (World.doorLaid Tryd.prog 400 os) #[.slice none 0 0, .int .u8 0, .int .i64 0] 8 rfl (World.shaped_of_RefB (by kernel_rfl) (by kernel_rfl)) (by kernel_rfl) (by kernel_rfl) (by kernel_rfl) (door_met os _)) ?_
  intro W base args ds gs before hval0 hW _ _ hL _
  have hval : ∀ (j : Nat) t v, Tryd.f4.params[j]? = some t → args[j]? = some v → Value.okWide Tryd.prog W .any base t v := hval0
  have hW' := hW
  obtain ⟨p, q, hA0, hV, rfl, hfz, hnd⟩ := hW
  have hA : DataW.TrodAll enc Tryd.prog W 0 (fun _ => true) true Tryd.f4.params.toList args.toList ds p := hA0
  obtain ⟨rfl, rfl⟩ := trodVars_none hV
  rw [Tryd.params4] at hA hval
  obtain ⟨v0, vs0, d0, ds0, p0, q0, hargs, rfl, rfl, h0, r0⟩ := trodAll_cons hA
  obtain ⟨v1, vs1, d1, ds1, p1, q1, rfl, rfl, rfl, h1, r1⟩ := trodAll_cons r0
  obtain ⟨v2, vs2, d2, ds2, p2, q2, rfl, rfl, rfl, h2, r2⟩ := trodAll_cons r1
  obtain ⟨rfl, rfl, rfl⟩ := trodAll_nil r2
  obtain rfl : args = #[v0, v1, v2] := by cases args; simp_all
  obtain ⟨A0, n0, c0, rfl⟩ := okWide_slice Tryd.underlying22 (hval 0 22 v0 rfl rfl)
  obtain ⟨fuel0, hf0⟩ := h0
  obtain ⟨xs0, rfl, lc0, lm0, R0⟩ := Ww.open_words hf0
  obtain ⟨a1, rfl, rfl, rfl, w1⟩ := open_int Tryd.underlying5 (hval 1 5 v1 rfl rfl) h1
  have b1 : 0 ≤ a1 ∧ a1 ≤ 255 := by simpa [Lit.wf, IntKind.min, IntKind.max, IntKind.signed, IntKind.bits] using w1
  obtain ⟨x1, rfl⟩ := Int.eq_ofNat_of_zero_le b1.1
  obtain ⟨x2, rfl, rfl, rfl, w2⟩ := open_int Tryd.underlying3 (hval 2 3 v2 rfl rfl) h2
  have b2 : -9223372036854775808 ≤ x2 ∧ x2 ≤ 9223372036854775807 := by simpa [Lit.wf, IntKind.min, IntKind.max, IntKind.signed, IntKind.bits] using w2
  simp only [List.append_nil] at hW' hA0
  refine (walk A0 c0 xs0.length xs0 x1 x2 rfl (by omega) W (of_laid hL) R0).mono fun e W' ⟨he, hb⟩ => ?_
  subst he
  exact ⟨_, rfl, Fr.law_post (tb := 4) hW' hA0 rfl rfl rfl Tryd.underlying4 (by rw [Tryd.params4]; intro t ht; simp at ht; rcases ht with rfl | rfl | rfl; all_goals exact ⟨by kernel_rfl, of_decide_eq_true (by kernel_rfl)⟩) hb⟩

theorem row_holds : Rows.QuartersAlikeSaid :=
  OpenClaim.holds_of_wide 4 Tryd.f4 rfl rfl rfl rfl rfl rfl rfl ⟨rfl, rfl, rfl, rfl, rfl⟩ rfl rfl rfl rfl rfl (by kernel_rfl) Tryd.func4 (by kernel_rfl)
    (of_decide_eq_true (by kernel_rfl)) (by unfold Func.isWrapper; first | (rw [if_pos (by decide +kernel)]; kernel_rfl) | (rw [if_neg (by decide +kernel)]; exact ⟨rfl, rfl⟩))
    (fun os started H enc _ => lifted os started H enc)

theorem proved : Rows.QuartersAlikeCardSaid :=
  Claim7.holds_tied_plain_at .later [] [.data, .data] true Rows.quartersAlikeCard.stood.harness false
    row_holds (fun _ h => by cases h) (by kernel_rfl) (fun _ h => by cases h) quartersAlike_row_tie rfl ⟨rfl, rfl⟩ (by kernel_rfl) rfl
    (fun f fn hf hfn => by
      obtain rfl : f = 4 := Option.some.inj ((show Tryd.prog.funcNamed "abacist/abacistlaw10.QuartersAlike" = some 4 by kernel_rfl).symm.trans hf) |>.symm
      obtain rfl : fn = Tryd.f4 := (Option.some.inj (Tryd.func4.symm.trans hfn)).symm
      exact ⟨by kernel_rfl, fun j t ht => by
        rw [Tryd.params4] at ht
        have hm : t ∈ [22, 5, 3] := by simpa using Array.mem_of_getElem? ht
        have hall : ([22, 5, 3].all fun u => !Tryd.prog.wantsStandIn u) = true := by kernel_rfl
        exact (show Tryd.prog.wantsStandIn t = false by simpa using List.all_eq_true.1 hall t hm)⟩)
    (by kernel_rfl)
end Go.Proofs.YtfkhnfaammfbeaaDoor.quartersAlike
