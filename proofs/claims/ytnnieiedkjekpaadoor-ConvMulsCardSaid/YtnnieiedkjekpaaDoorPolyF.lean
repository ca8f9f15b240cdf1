/- Contract of package poly: Mul. -/
import Derived.Test.YtnnieiedkjekpaaDoorPolyE
set_option linter.unusedVariables false
namespace Go.Proofs.YtnnieiedkjekpaaDoor
open Go.RowKit Go.Lib Go.Sort
namespace Pl
open Ww Pn Nt

/-- A polynomial that a call answers, with OK. -/
def PoT (c : Nat → Nat) (w : World) (e : Ending) (w' : World) : Prop :=
  ∃ zs A cap, Nf 18446744069414584321 zs ∧ (∀ i, pl zs i = c i % 18446744069414584321) ∧ e = .returned (.tuple #[.slice A zs.length cap, .int .i64 0]) ∧ Ws w' w'.heap.size A zs ∧ Below w.heap.size w w'
theorem Po.pair {c : Nat → Nat} {w w' : World} {e : Ending} (h : Po c w e w') : ∃ (zs : List Nat) (A : Option Addr) (cap : Nat), e = .returned (.slice A zs.length cap) ∧ PoT c w (.returned (.tuple #[.slice A zs.length cap, .int .i64 0])) w' := by
  obtain ⟨zs, A, cap, h1, h2, h3, h4⟩ := h
  exact ⟨zs, A, cap, h3, zs, A, cap, h1, h2, rfl, h4⟩
theorem cs_add (ps qs : List Nat) (i j : Nat) : (cs ps qs (i + j) i % 18446744069414584321 + pl ps i * pl qs j % 18446744069414584321) % 18446744069414584321 = cs ps qs (i + j) (i + 1) % 18446744069414584321 := by
  rw [cs_succ, if_pos (by omega), show i + j - i = j by omega, ← Nat.add_mod]
theorem cs_low (ps qs : List Nat) (i m : Nat) (h : m < i) : cs ps qs m (i + 1) = cs ps qs m i := by rw [cs_succ, if_neg (by omega), Nat.mul_zero, Nat.add_zero]
theorem cs_high (ps qs : List Nat) (i m : Nat) (h : i + qs.length ≤ m) : cs ps qs m (i + 1) = cs ps qs m i := by rw [cs_succ, if_pos (by omega), pl_far qs _ (by omega), Nat.mul_zero, Nat.add_zero]
theorem mx_two (xs ys : List Nat) (hx : xs.length ≤ 4096) (hy : ys.length ≤ 4096) : ¬ (4096 : Int) < ((mx [xs, ys] 2 : Nat) : Int) := by
  have : mx [xs, ys] 2 ≤ 4096 := by
    rw [mx_succ, mx_succ]
    show max (max 0 xs.length) ys.length ≤ 4096
    omega
  omega

set_option maxHeartbeats 4000000 in
set_option maxRecDepth 100000 in
theorem mul (A B : Option Addr) (ca cb : Nat) (xs ys : List Nat) (hx : xs.length ≤ 4096) (hy : ys.length ≤ 4096) (w : World) (Ra : Ws w w.heap.size A xs) (Rb : Ws w w.heap.size B ys) :
    Calls Tryd.prog 63 #[.slice A xs.length ca, .slice B ys.length cb] w (PoT (conv (pl xs) (pl ys)) w) := by
  have LO := Lib.hid (longest (some ⟨w.heap.size, 0, none⟩) 2 [xs, ys] (by simp) _ (rs_two ca cb Ra Rb 22))
  have hm := mx_two xs ys hx hy
  have b0 := below_alloc w (.cells #[.slice A xs.length ca, .slice B ys.length cb] 22)
  have Ra0 := Ra.step b0
  have Rb0 := Rb.step b0
  have T1 := Lib.hid (trim A ca xs (by omega) _ Ra0)
  have T2 := Lib.hid (fun W R => trim B cb ys (by omega) W R)
  have hp := tr_len_le 18446744069414584321 xs
  have hq := tr_len_le 18446744069414584321 ys
  obtain ⟨F, hF⟩ : ∃ F : Nat → Nat → Nat, F = fun k i => cs (tr 18446744069414584321 xs) (tr 18446744069414584321 ys) i k % 18446744069414584321 := ⟨_, rfl⟩
  obtain ⟨n, hN⟩ : ∃ n : Nat, n = (tr 18446744069414584321 xs).length + (tr 18446744069414584321 ys).length := ⟨_, rfl⟩
  have OUT := Lib.hid (fun (w1 w' : World) e (hb : Below w.heap.size w w1) (h : Row (tr 18446744069414584321 (rg (F (tr 18446744069414584321 xs).length) n)) w1 e w') => show Po (conv (pl xs) (pl ys)) w e w' from
    Po.mod (c := conv (pl (tr 18446744069414584321 xs)) (pl (tr 18446744069414584321 ys))) (conv_mod (fun i => by rw [pl_tr, Nat.mod_mod]) (fun i => by rw [pl_tr, Nat.mod_mod]))
      (Po.of_trim (fun i _ => by rw [hF]; show cs _ _ i _ % _ % _ = _; rw [Nat.mod_mod, cs_all]) (fun i hi => by rw [conv_far _ _ i (by omega)]) hb h))
  have F64 := Lib.hid (fun k i => show F k i < 18446744073709551616 by rw [hF]; exact mod64 _)
  have F0 := Lib.hid (fun i => show 0 = F 0 i by rw [hF]; rfl)
  have FL := Lib.hid (fun k i (h : i < k) => show F (k + 1) i = F k i by rw [hF]; show cs _ _ i (k + 1) % _ = cs _ _ i k % _; rw [cs_low _ _ _ _ h])
  have FE := Lib.hid (fun k i (h : k + (tr 18446744069414584321 ys).length ≤ i) => show F (k + 1) i = F k i by rw [hF]; show cs _ _ i (k + 1) % _ = cs _ _ i k % _; rw [cs_high _ _ _ _ h])
  have ADD := Lib.hid (fun k j W => show Calls Tryd.prog 78 #[.int .u64 (F k (k + j) : Nat), .int .u64 ((pl (tr 18446744069414584321 xs) k * pl (tr 18446744069414584321 ys) j % 18446744069414584321 : Nat) : Int)] W fun e w' => e = .returned (.int .u64 (F (k + 1) (k + j) : Nat)) ∧ W = w' by
    have c := Gd.add (F k (k + j)) (pl (tr 18446744069414584321 xs) k * pl (tr 18446744069414584321 ys) j % 18446744069414584321) (F64.out k (k + j)) (mod64 _) W
    rw [hF] at c ⊢
    simp only [cs_add] at c
    exact c)
  clear hF
  generalize tr 18446744069414584321 xs = ps at *
  generalize tr 18446744069414584321 ys = qs at *
  have mk := make_words n (by omega) (by omega)
  have nw : IntKind.i64.wrap ((ps.length : Int) + (qs.length : Int)) = (n : Int) := by rw [IntKind.wrap_i64]; omega
  have HN := Lib.hid hN
  have hn8 : n ≤ 8192 := by omega
  generalize conv (pl xs) (pl ys) = cf at *
  have hps : ps.length ≤ 4096 := by omega
  have hqs : qs.length ≤ 4096 := by omega
  generalize mx [xs, ys] 2 = mxv at *
  clear hN hp hq
  go_enter Tryd.func63, Tryd.ntmps63
  go_wp2_with fail
  refine LO.out.mono ?_
  rintro e w1 ⟨rfl, rfl⟩
  go_wp2_with fail
  refine T1.out.mono ?_
  rintro e w1 ⟨A1, c1, rfl, P1, d1⟩
  have e1 := b0.trans (d1.mono b0.size)
  have Rb1 := Rb0.step d1
  clear Rb0 Ra0 d1 b0 T1 LO
  go_wp2_with fail
  refine (T2.out _ Rb1).mono ?_
  rintro e w2 ⟨A2, c2, rfl, Q2, d2⟩
  have P2 := P1.step d2
  have e2 := e1.trans (d2.mono e1.size)
  clear d2 e1 Rb1 P1 T2
  have ST := Lib.hid (Hd.congr (g := F 0) (Hd.made (w := w2) (w1 := w2) n (Below.refl _ _) 32) (fun j _ => F0.out j))
  go_wp2_with fail
  go_loopw [28] (fun v28 wr => ∃ k : Nat, v28 = .int .i64 (k : Int) ∧ k ≤ ps.length ∧ Hd (F k) n w2.heap.size w2 wr) (fun v28 _ => ps.length - (Lib.intOf v28).toNat)
  case atStart => exact ⟨0, rfl, Nat.zero_le _, ST.out⟩
  case round =>
    obtain ⟨k, rfl, hk, HB⟩ := hrel
    clear ST mk
    by_cases hlt : k < ps.length
    · have k1 : (k : Int) < ps.length := by omega
      have P3 := P2.below HB.bel
      obtain ⟨b, off, rfl, hB, c⟩ := P3.at_ k hlt
      have c0 : wr.cell? ⟨b, off + k, none⟩ = some (.int .u64 (pl ps k : Nat)) := c
      have hpl := P3.lt k hlt
      have FEk := Lib.hid (FE.out k)
      have ADk := Lib.hid (ADD.out k)
      have MU := Lib.hid (fun j (h : pl qs j < 18446744073709551616) W => Gd.mul (pl ps k) (pl qs j) hpl h W)
      have HB0 := Lib.hid (HB.congr (g := ac (F k) (F (k + 1)) (k + 0)) (fun j _ => (ac_zero _ _ (k + 0) j (fun j hj => FL.out k j (by omega))).symm))
      obtain ⟨wo, rfl⟩ : ∃ wo : World, wo = wr := ⟨_, rfl⟩
      have HN1 := HN.out
      have kn : k + qs.length < n := by omega
      clear c HB P3 HN1 hpl
      generalize pl ps k = x at *
      go_wp2_with fail
      go_loopw [35] (fun v35 wr => ∃ j : Nat, v35 = .int .i64 (j : Int) ∧ j ≤ qs.length ∧ Hd (ac (F k) (F (k + 1)) (k + j)) n w2.heap.size w2 wr) (fun v35 _ => qs.length - (Lib.intOf v35).toNat)
      case atStart => exact ⟨0, rfl, Nat.zero_le _, HB0.out⟩
      case round =>
        obtain ⟨j, rfl, hj, HB⟩ := hrel
        clear HB0 c0
        by_cases hlt2 : j < qs.length
        · have j1 : (j : Int) < qs.length := by omega
          have Q3 := Q2.below HB.bel
          obtain ⟨b2, off2, rfl, hB2, c3⟩ := Q3.at_ j hlt2
          have c4 : wr.cell? ⟨b2, off2 + j, none⟩ = some (.int .u64 (pl qs j : Nat)) := c3
          have M := Lib.hid (MU.out j (Q3.lt j hlt2))
          have X := Lib.hid (ADk.out j)
          obtain ⟨t, ht⟩ : ∃ t, t = k + j := ⟨_, rfl⟩
          have htn : t < n := by omega
          have PT := Lib.hid (fun w3 (h : Hd (ac (F k) (F (k + 1)) t) n w2.heap.size w2 w3) => (h.put t (F (k + 1) t) htn).congr (fun j _ => ac_upd (F k) (F (k + 1)) t j))
          have ACT := ac_at (F k) (F (k + 1)) t
          have tw : IntKind.i64.wrap ((k : Int) + (j : Int)) = (t : Int) := by rw [IntKind.wrap_i64]; omega
          have t1 : (t : Int) < n := by omega
          have HT := Lib.hid ht
          rw [← ht] at X HB
          clear c3 Q3 ht
          generalize ac (F k) (F (k + 1)) t = fo at *
          have hK := HB.at_ t htn
          rw [ACT] at hK
          obtain ⟨k0, k1⟩ := hK
          generalize x * pl qs j % 18446744069414584321 = m at *
          generalize pl qs j = y at *
          generalize F k t = f0 at *
          generalize F (k + 1) t = f1 at *
          go_upto_region 11 with fail
          clear c4
          have l0 := HB.drew.at_ t htn
          rw [ACT] at l0
          obtain ⟨l0, l1⟩ := l0
          go_region_with (first
            | (go_at_call 42; refine (M.out _).mono ?_; rintro e w3 ⟨rfl, hb3⟩; have K3 := HB.drew.call hb3; have g0 := K3.at_ t htn; rw [ACT] at g0; obtain ⟨g0, g1⟩ := g0)
            | (go_at_call 78; refine (X.out _).mono ?_; rintro e w4 ⟨rfl, rfl⟩))
          all_goals (go_wp2_with fail)
          all_goals go_roundw
          all_goals first
            | exact ⟨j + 1, rfl, by omega, by rw [← Nat.add_assoc, ← HT.out]; exact PT.out _ K3⟩
            | (simp [Lib.intOf]; omega)
        · have j1 : ¬ (j : Int) < qs.length := by omega
          obtain rfl : j = qs.length := by omega
          have PT := Lib.hid (HB.congr (g := F (k + 1)) (fun j _ => ac_end _ _ _ j (fun j hj => FEk.out j hj)))
          clear HB
          go_wp2_with fail
          go_roundw
          case rel => exact ⟨k + 1, rfl, by omega, PT.out⟩
          case measure => simp [Lib.intOf]; omega
    · have k1 : ¬ (k : Int) < ps.length := by omega
      obtain rfl : k = ps.length := by omega
      have R1 := HB.ws (fun i _ => F64.out _ i)
      have hbl := e2.trans (HB.bel.mono e2.size)
      have T := trim (some ⟨w2.heap.size, 0, none⟩) n (rg (F ps.length) n) (by rw [rg_len]; omega) wr R1
      rw [rg_len] at T
      have T := Lib.hid T
      clear HB
      go_wp2_with fail
      refine T.out.mono ?_
      rintro e w3 hT
      obtain ⟨zs, A3, c3, rfl, OK⟩ := Po.pair (OUT.out _ _ _ hbl hT)
      have OK := Lib.hid OK
      clear hT
      go_wp2
      exact bodyPost_ret (v := .tuple #[.slice A3 zs.length c3, .int .i64 0]) (by simp [results, Tryd.results63, go_sem]) rfl OK.out
end Pl
end Go.Proofs.YtnnieiedkjekpaaDoor
