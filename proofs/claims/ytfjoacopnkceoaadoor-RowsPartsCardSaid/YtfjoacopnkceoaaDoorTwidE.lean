/- Contracts of package twid: Slow; of the document's own Scale, Dft, Transform, Canon; awake. / Contracts of the document's own Dft, Transform, Canon; awake. / awake of layer 8. -/
import Derived.Test.YtfjoacopnkceoaaDoorTwidB
import Derived.Test.YtfjoacopnkceoaaDoorFits
import Derived.Test.YtfjoacopnkceoaaDoorSame
set_option linter.unusedVariables false
namespace Go.Proofs.YtfjoacopnkceoaaDoor
open Go.RowKit Go.Lib
namespace Td
open Nm Ww Tn Pl

theorem rwE_of {g h : Nat → Nat} {n b : Nat} {w w1 w' : World} (h1 : Below w.heap.size w w1) (e : ∀ i, i < n → g i = h i) (hs : w1.heap.size ≤ b) (hb : b < w'.heap.size) (K : Wk w' b 0 n g) (h2 : Below w1.heap.size w1 w') :
    RwE h n w (.returned (.tuple #[.slice (some ⟨b, 0, none⟩) n n, .int .i64 0])) w' :=
  ⟨b, rfl, Nat.le_trans h1.size hs, hb, wk_congr K e, h1.trans (h2.mono h1.size)⟩

/- The document's own. -/
set_option maxHeartbeats 1000000 in
set_option maxRecDepth 100000 in
theorem rscale_out (A : Option Addr) (ca n : Nat) (xs : List Nat) (hn : xs.length = n) (hl : n ≤ 1048576) (a : Nat) (ha : a < 18446744073709551616) (w : World) (R : Ws w w.heap.size A xs) :
    Calls Tryd.prog 40 #[.slice A n ca, .int .u64 (a : Nat)] w (Out (rg (fun i => Pn.pl xs i * a % 18446744069414584321) n) w) := by
  have M := Lib.hid (fun i W => Gr.mul (Pn.pl xs i) a ha W)
  obtain ⟨G, hG⟩ : ∃ G : Nat → Nat, G = fun i => Pn.pl xs i * a % 18446744069414584321 := ⟨_, rfl⟩
  have Gi : ∀ i, Pn.pl xs i * a % 18446744069414584321 = G i := fun i => by rw [hG]
  rw [← hG]
  simp only [Gi] at M
  have HN := Lib.hid hn
  have N0 := Lib.hid (Ow.nil_ w w.heap.size)
  have SU := Lib.hid (rg_succ G)
  have LE := Lib.hid (rg_len G)
  clear hG Gi ha hn
  go_enter Tryd.func40, Tryd.ntmps40
  go_wp2_with fail
  go_loopw [5, 6] (fun v5 v6 wr => ∃ i : Nat, v6 = .int .i64 (i : Int) ∧ i ≤ n ∧ Ow wr w.heap.size v5 (rg G i) ∧ Below w.heap.size w wr) (fun _ v6 _ => n - (Lib.intOf v6).toNat)
  case atStart => exact ⟨0, rfl, Nat.zero_le _, N0.out, Below.refl _ _⟩
  case round =>
    obtain ⟨i, rfl, hi, O, hbl⟩ := hrel
    clear N0
    by_cases hlt : i < n
    · have i1 : (i : Int) < n := by omega
      have R1 := R.below hbl
      obtain ⟨b, off, rfl, hB, c⟩ := R1.at_ i (by rw [HN.out]; exact hlt)
      have c2 : wr.cell? ⟨b, off + i, none⟩ = some (.int .u64 (Pn.pl xs i : Nat)) := c
      have M1 := Lib.hid (M.out i)
      have S := Lib.hid (SU.out i)
      have L := Lib.hid (LE.out i)
      clear c
      generalize Pn.pl xs i = x at *
      generalize G i = p at *
      go_wp2_with fail
      refine (M1.out _).mono ?_
      rintro e w1 ⟨rfl, rfl⟩
      go_wp2_with (at_builtin; go_loud (refine append1 (wr.alloc (.cells #[.int .u64 p] 51)) ?hgd (.tmp 13) (.tmp 20) ?ho w.heap.size u5 (rg G i) ?hs (O.alloc _) wr.heap.size p ?hx (cut1 _ _ _) ?c1 ?c2 (fun v6 w1 O1 hg => ?_)); (case hgd => rfl); (case ho => rfl); (case hs => rfl); (case hx => rfl))
      case c1 => rw [L.out]; omega
      case c2 => have := hbl.size; simp; omega
      rw [S.out] at O1
      have b1 := (O.alloc _).grow (hbl.alloc hbl.size _) hg (by have := hbl.size; simp; omega)
      go_wp2_with fail
      go_roundw
      case rel => exact ⟨i + 1, rfl, by omega, O1, b1⟩
      case measure => simp [Lib.intOf]; omega
    · have i1 : ¬ (i : Int) < n := by omega
      obtain rfl : n = i := by omega
      go_wp2
      exact bodyPost_ret (v := u5) (by simp [results, Tryd.results40, go_sem]) rfl (Out.mk_ O hbl)
/-- A row of n words that a call answers, whose words are a rule's. -/
def RwA (g : Nat → Nat) (n : Nat) (w : World) (e : Ending) (w' : World) : Prop := ∃ A ca, e = .returned (.slice A n ca) ∧ Ws w' w'.heap.size A (rg g n) ∧ Below w.heap.size w w'
theorem rwA_of {g h : Nat → Nat} {n : Nat} (hg : ∀ i, g i < 18446744069414584321) (he : ∀ i, i < n → g i = h i) {w w' : World} {e : Ending} (O : Out (rg g n) w e w') : RwA h n w e w' := by
  obtain ⟨A, ca, rfl, R, hb⟩ := Row.of_out (fun i hi => by rw [rg_at _ _ _ (by rwa [rg_len] at hi)]; exact Nat.lt_trans (hg i) (by decide)) O
  rw [rg_congr n he] at R
  exact ⟨A, ca, by rw [rg_len], R, hb⟩
theorem rscale (A : Option Addr) (ca n : Nat) (xs : List Nat) (hn : xs.length = n) (hl : n ≤ 1048576) (a : Nat) (ha : a < 18446744073709551616) (w : World) (R : Ws w w.heap.size A xs) :
    Calls Tryd.prog 40 #[.slice A n ca, .int .u64 (a : Nat)] w (RwA (fun i => Pn.pl xs i * a % 18446744069414584321) n w) :=
  (rscale_out A ca n xs hn hl a ha w R).mono fun _ _ h => rwA_of (fun i => Nat.mod_lt _ (by decide)) (fun _ _ => rfl) h
end Td
end Go.Proofs.YtfjoacopnkceoaaDoor
set_option linter.unusedVariables false
namespace Go.Proofs.YtfjoacopnkceoaaDoor
open Go.RowKit Go.Lib
namespace Td
open Nm Ww Tn Pl

theorem dft_s (xs : List Nat) (x j i s p : Nat) (hs : s = Nt.sg (fun i => Pn.pl xs i * x ^ (i * j)) i % 18446744069414584321) (hp : p = x ^ (i * j) % 18446744069414584321) :
    (s + Pn.pl xs i * p % 18446744069414584321) % 18446744069414584321 = Nt.sg (fun i => Pn.pl xs i * x ^ (i * j)) (i + 1) % 18446744069414584321 := by
  show _ = (Nt.sg _ i + Pn.pl xs i * x ^ (i * j)) % _
  rw [hs, hp, Nat.mul_mod_mod, ← Nat.add_mod]
theorem dft_p (x j i p t : Nat) (hp : p = x ^ (i * j) % 18446744069414584321) (ht : t = x ^ j % 18446744069414584321) : p * t % 18446744069414584321 = x ^ ((i + 1) * j) % 18446744069414584321 := by
  rw [hp, ht, ← Nat.mul_mod, ← Nat.pow_add, Nat.succ_mul]
/-- What the inner loop keeps. -/
structure IR (S Q : Nat → Nat) (n i s p : Nat) : Prop where
  hi : i ≤ n
  s : s = S i
  p : p = Q i
set_option maxHeartbeats 1000000 in
set_option maxRecDepth 100000 in
theorem rdft_core (A : Option Addr) (ca n k d x : Nat) (xs : List Nat) (hn : xs.length = n) (hl : n ≤ 1048576) (G T : Nat → Nat) (S Q : Nat → Nat → Nat)
    (hR : ∀ W, Calls Tryd.prog 60 #[.int .i64 (k : Int), .int .i64 (d : Int)] W fun e w' => e = .returned (.int .u64 (x : Nat)) ∧ W = w')
    (hM : ∀ i j W, Calls Tryd.prog 62 #[.int .u64 (Pn.pl xs i : Nat), .int .u64 (Q j i : Nat)] W fun e w' => e = .returned (.int .u64 ((Pn.pl xs i * Q j i % 18446744069414584321 : Nat) : Int)) ∧ W = w')
    (hA : ∀ i j W, Calls Tryd.prog 61 #[.int .u64 (S j i : Nat), .int .u64 ((Pn.pl xs i * Q j i % 18446744069414584321 : Nat) : Int)] W fun e w' => e = .returned (.int .u64 (S j (i + 1) : Nat)) ∧ W = w')
    (hP : ∀ i j W, Calls Tryd.prog 62 #[.int .u64 (Q j i : Nat), .int .u64 (T j : Nat)] W fun e w' => e = .returned (.int .u64 (Q j (i + 1) : Nat)) ∧ W = w')
    (hT : ∀ j W, Calls Tryd.prog 62 #[.int .u64 (T j : Nat), .int .u64 (x : Nat)] W fun e w' => e = .returned (.int .u64 (T (j + 1) : Nat)) ∧ W = w')
    (hS0 : ∀ j, 0 = S j 0) (hQ0 : ∀ j, 1 = Q j 0) (hT0 : 1 = T 0) (hSn : ∀ j, S j n = G j) (w : World) (R : Ws w w.heap.size A xs) :
    Calls Tryd.prog 39 #[.slice A n ca, .int .i64 (k : Int), .int .i64 (d : Int)] w (Out (rg G n) w) := by
  have HR := Lib.hid hR
  have HM := Lib.hid hM
  have HA := Lib.hid hA
  have HP := Lib.hid hP
  have HT := Lib.hid hT
  have S0 := Lib.hid hS0
  have Q0 := Lib.hid hQ0
  have T0 := Lib.hid hT0
  have SN := Lib.hid hSn
  have HN := Lib.hid hn
  have N0 := Lib.hid (Ow.nil_ w w.heap.size)
  have SU := Lib.hid (rg_succ G)
  have LE := Lib.hid (rg_len G)
  clear hR hM hA hP hT hS0 hQ0 hT0 hSn hn
  go_enter Tryd.func39, Tryd.ntmps39
  go_wp2_with fail
  refine (HR.out _).mono ?_
  rintro e w1 ⟨rfl, rfl⟩
  go_wp2_with fail
  go_loopw [8, 9, 10] (fun v8 v9 v10 wr => ∃ j t : Nat, v10 = .int .i64 (j : Int) ∧ v9 = .int .u64 (t : Nat) ∧ j ≤ n ∧ t = T j ∧ Ow wr w.heap.size v8 (rg G j) ∧ Below w.heap.size w wr) (fun _ _ v10 _ => n - (Lib.intOf v10).toNat)
  case atStart => exact ⟨0, 1, rfl, rfl, Nat.zero_le _, T0.out, N0.out, Below.refl _ _⟩
  case round =>
    obtain ⟨j, t, rfl, rfl, hj, ht, O, hbl⟩ := hrel
    clear N0 HR T0
    by_cases hlt : j < n
    · have j1 : (j : Int) < n := by omega
      have T1 := Lib.hid (HT.out j)
      have P1 := Lib.hid (fun i => HP.out i j)
      have M1 := Lib.hid (fun i => HM.out i j)
      have A1 := Lib.hid (fun i => HA.out i j)
      have s0 := Lib.hid (S0.out j)
      have q0 := Lib.hid (Q0.out j)
      have sn := Lib.hid (SN.out j)
      have S1 := Lib.hid (SU.out j)
      have L1 := Lib.hid (LE.out j)
      rw [← ht] at P1 T1
      clear HT HP HM HA S0 Q0 SN SU LE ht
      generalize S j = Sj at *
      generalize Q j = Qj at *
      obtain ⟨t2, ht2⟩ : ∃ t2, t2 = T (j + 1) := ⟨_, rfl⟩
      rw [← ht2] at T1
      have HT2 := Lib.hid ht2
      clear ht2
      have R1 := R.below hbl
      go_wp2_with fail
      go_loop [11, 12, 13] (fun v11 v12 v13 => ∃ i s p : Nat, v13 = .int .i64 (i : Int) ∧ v11 = .int .u64 (s : Nat) ∧ v12 = .int .u64 (p : Nat) ∧ IR Sj Qj n i s p) (fun _ _ v13 => n - (Lib.intOf v13).toNat)
      case atStart => exact ⟨0, 0, 1, rfl, rfl, rfl, ⟨Nat.zero_le _, s0.out, q0.out⟩⟩
      case round =>
        obtain ⟨i, s, p, rfl, rfl, rfl, I⟩ := hrel
        have hi := I.hi
        have hs := I.s
        have hp := I.p
        clear I s0 q0
        by_cases hit : i < n
        · have i1 : (i : Int) < n := by omega
          obtain ⟨b, off, rfl, hB, c⟩ := R1.at_ i (by rw [HN.out]; exact hit)
          have c2 : wr.cell? ⟨b, off + i, none⟩ = some (.int .u64 (Pn.pl xs i : Nat)) := c
          have M2 := Lib.hid (M1.out i)
          have A2 := Lib.hid (A1.out i)
          have P2 := Lib.hid (P1.out i)
          rw [← hp] at M2 P2 A2
          rw [← hs] at A2
          obtain ⟨s2, hs2⟩ : ∃ s2, s2 = Sj (i + 1) := ⟨_, rfl⟩
          obtain ⟨p2, hp2⟩ : ∃ p2, p2 = Qj (i + 1) := ⟨_, rfl⟩
          rw [← hs2] at A2
          rw [← hp2] at P2
          have HS2 := Lib.hid hs2
          have HP2 := Lib.hid hp2
          clear c hs hp hs2 hp2
          generalize Pn.pl xs i * p % 18446744069414584321 = m at *
          generalize Pn.pl xs i = y at *
          go_wp2_with fail
          refine (M2.out _).mono ?_
          rintro e w2 ⟨rfl, rfl⟩
          go_wp2_with fail
          refine (A2.out _).mono ?_
          rintro e w2 ⟨rfl, rfl⟩
          go_wp2_with fail
          refine (P2.out _).mono ?_
          rintro e w2 ⟨rfl, rfl⟩
          go_wp2_with fail
          go_round
          case rel => exact ⟨i + 1, s2, p2, rfl, rfl, rfl, ⟨by omega, HS2.out, HP2.out⟩⟩
          case measure => simp [Lib.intOf]; omega
        · have i1 : ¬ (i : Int) < n := by omega
          obtain rfl : n = i := by omega
          have hg := hs.trans sn.out
          rw [← hg] at S1
          clear hs hp M1 A1 P1 sn hg
          go_wp2_with (at_builtin; go_loud (refine append1 (wr.alloc (.cells #[.int .u64 s] 51)) ?hgd (.tmp 40) (.tmp 42) ?ho w.heap.size u8 (rg G j) ?hs (O.alloc _) wr.heap.size s ?hx (cut1 _ _ _) ?c1 ?c2 (fun v6 w1 O1 hg => ?_)); (case hgd => rfl); (case ho => rfl); (case hs => rfl); (case hx => rfl))
          case c1 => rw [L1.out]; omega
          case c2 => have := hbl.size; simp; omega
          rw [S1.out] at O1
          have b1 := (O.alloc _).grow (hbl.alloc hbl.size _) hg (by have := hbl.size; simp; omega)
          go_wp2_with fail
          refine (T1.out _).mono ?_
          rintro e w2 ⟨rfl, rfl⟩
          go_wp2_with fail
          go_roundw
          case rel => exact ⟨j + 1, t2, rfl, rfl, by omega, HT2.out, O1, b1⟩
          case measure => simp [Lib.intOf]; omega
    · have j1 : ¬ (j : Int) < n := by omega
      obtain rfl : n = j := by omega
      go_wp2
      exact bodyPost_ret (v := u8) (by simp [results, Tryd.results39, go_sem]) rfl (Out.mk_ O hbl)
theorem rdft (A : Option Addr) (ca n k d : Nat) (xs : List Nat) (hn : xs.length = n) (hl : n ≤ 1048576) (hk : k ≤ 32) (hd : d ≤ 1) (w : World) (R : Ws w w.heap.size A xs) :
    Calls Tryd.prog 39 #[.slice A n ca, .int .i64 (k : Int), .int .i64 (d : Int)] w (RwA (tf (Pn.pl xs) n (rd k d)) n w) := by
  refine (rdft_core A ca n k d (rd k d) xs hn hl (tf (Pn.pl xs) n (rd k d)) (fun j => rd k d ^ j % 18446744069414584321)
    (fun j i => Nt.sg (fun i => Pn.pl xs i * rd k d ^ (i * j)) i % 18446744069414584321) (fun j i => rd k d ^ (i * j) % 18446744069414584321)
    (fun W => rroot k d hk hd W) (fun i j W => Gr.mul _ _ (mod64 _) W) (fun i j W => ?_) (fun i j W => ?_) (fun j W => ?_) (fun j => rfl) (fun j => by rw [Nat.zero_mul, Nat.pow_zero]) (by rw [Nat.pow_zero]) (fun j => rfl) w R).mono
    fun _ _ h => rwA_of (fun i => tf_lt _ _ _ _) (fun _ _ => rfl) h
  · have c := Gr.add (Nt.sg (fun i => Pn.pl xs i * rd k d ^ (i * j)) i % 18446744069414584321) (Pn.pl xs i * (rd k d ^ (i * j) % 18446744069414584321) % 18446744069414584321) W
    rw [dft_s xs (rd k d) j i _ _ rfl rfl] at c
    exact c
  · have c := Gr.mul (rd k d ^ (i * j) % 18446744069414584321) (rd k d ^ j % 18446744069414584321) (mod64 _) W
    rw [dft_p (rd k d) j i _ _ rfl rfl] at c
    exact c
  · have c := Gr.mul (rd k d ^ j % 18446744069414584321) (rd k d) (Nat.lt_trans (rd_lt k d) (by decide)) W
    rw [Rt.pw_step (rd k d) j _ rfl] at c
    exact c
theorem rwA_congr {g h : Nat → Nat} {n : Nat} (he : ∀ i, i < n → g i = h i) {w w1 w' : World} (h1 : Below w.heap.size w w1) {A : Option Addr} {ca : Nat} (R : Ws w' w'.heap.size A (rg g n)) (hb : Below w1.heap.size w1 w') : RwA h n w (.returned (.slice A n ca)) w' := by
  rw [rg_congr n he] at R
  exact ⟨A, ca, rfl, R, h1.trans (hb.mono h1.size)⟩
set_option maxHeartbeats 400000 in
theorem rtransform_fwd (A : Option Addr) (ca n k : Nat) (xs : List Nat) (hn : xs.length = n) (hl : n ≤ 1048576) (hk : k ≤ 32) (hn2 : n = 2 ^ k) (w : World) (R : Ws w w.heap.size A xs) :
    Calls Tryd.prog 25 #[.slice A n ca, .int .i64 (k : Int), .int .i64 0] w (RwA (ft k 0 (Pn.pl xs)) n w) := by
  have D := Lib.hid (rdft A ca n k 0 xs hn hl hk (by omega) w R)
  have E := Lib.hid (fun i (_ : i < n) => show tf (Pn.pl xs) n (rd k 0) i = ft k 0 (Pn.pl xs) i by rw [ft_zero, rd_zero, hn2])
  generalize tf (Pn.pl xs) n (rd k 0) = g at *
  generalize ft k 0 (Pn.pl xs) = h at *
  clear hn hl hk hn2 R
  go_enter Tryd.func25, Tryd.ntmps25
  go_wp2_with fail
  refine D.out.mono ?_
  rintro e w1 ⟨A1, c1, rfl, R1, b1⟩
  have O := Lib.hid (rwA_congr (ca := c1) E.out (Below.refl _ w) R1 b1)
  clear R1 b1 E
  go_wp2
  exact bodyPost_ret (v := .slice A1 n c1) (by simp [results, Tryd.results25, go_sem]) rfl O.out
set_option maxHeartbeats 400000 in
theorem rtransform_inv (A : Option Addr) (ca n k : Nat) (xs : List Nat) (hn : xs.length = n) (hl : n ≤ 1048576) (hk : k ≤ 32) (hn2 : n = 2 ^ k) (w : World) (R : Ws w w.heap.size A xs) :
    Calls Tryd.prog 25 #[.slice A n ca, .int .i64 (k : Int), .int .i64 1] w (RwA (ft k 1 (Pn.pl xs)) n w) := by
  have D := Lib.hid (rdft A ca n k 1 xs hn hl hk (by omega) w R)
  have H := Lib.hid (fun W => rshare k hk W)
  have L := Lib.hid (fun (A1 : Option Addr) c1 W R => rscale A1 c1 n (rg (tf (Pn.pl xs) n (rd k 1)) n) (rg_len _ _) hl (Nt.inv (2 ^ k)) (Nat.lt_trans (Nt.inv_lt _) (by decide)) W R)
  have E := Lib.hid (fun i (hi : i < n) => show Pn.pl (rg (tf (Pn.pl xs) n (rd k 1)) n) i * Nt.inv (2 ^ k) % 18446744069414584321 = ft k 1 (Pn.pl xs) i by
    rw [pl_rg _ _ _ hi]; unfold ft; rw [sc_other k 1 (by decide), hn2])
  generalize tf (Pn.pl xs) n (rd k 1) = g at *
  generalize ft k 1 (Pn.pl xs) = h at *
  generalize Nt.inv (2 ^ k) = s at *
  clear hn hl hk hn2 R
  go_enter Tryd.func25, Tryd.ntmps25
  go_wp2_with fail
  refine D.out.mono ?_
  rintro e w1 ⟨A1, c1, rfl, R1, b1⟩
  go_wp2_with fail
  refine (H.out _).mono ?_
  rintro e w2 ⟨rfl, rfl⟩
  go_wp2_with fail
  refine (L.out _ _ _ R1).mono ?_
  rintro e w2 ⟨A2, c2, rfl, R2, b2⟩
  have O := Lib.hid (rwA_congr (ca := c2) E.out b1 R2 b2)
  clear R1 b1 E R2 b2
  go_wp2
  exact bodyPost_ret (v := .slice A2 n c2) (by simp [results, Tryd.results25, go_sem]) rfl O.out
theorem rtransform (A : Option Addr) (ca n k d : Nat) (xs : List Nat) (hn : xs.length = n) (hl : n ≤ 1048576) (hk : k ≤ 32) (hd : d ≤ 1) (hn2 : n = 2 ^ k) (w : World) (R : Ws w w.heap.size A xs) :
    Calls Tryd.prog 25 #[.slice A n ca, .int .i64 (k : Int), .int .i64 (d : Int)] w (RwA (ft k d (Pn.pl xs)) n w) := by
  rcases Nat.eq_zero_or_pos d with h | h
  · subst h; exact rtransform_fwd A ca n k xs hn hl hk hn2 w R
  · obtain rfl : d = 1 := by omega
    exact rtransform_inv A ca n k xs hn hl hk hn2 w R
end Td
end Go.Proofs.YtfjoacopnkceoaaDoor
set_option linter.unusedVariables false
namespace Go.Proofs.YtfjoacopnkceoaaDoor
open Go.RowKit Go.Lib
namespace Td
open Nm Ww Tn Pl

theorem aw_words (m : Nat) (hm : m = 0) : ft (m + 1) 0 (Pn.pl [1, 1]) 0 = 2 ∧ ft (m + 1) 0 (Pn.pl [1, 1]) 1 = 0 := by
  have r := Nt.rt1 m hm
  have e : 2 ^ (m + 1) = 2 := by rw [hm]
  rw [ft_zero, ft_zero, r, e]
  exact ⟨by decide, by decide⟩
/-- Rows whose words are alike are the same. -/
theorem same_rg {g h : Nat → Nat} {n : Nat} (he : ∀ i, i < n → g i = h i) (hl : n ≤ 1048576) (A B : Option Addr) (ca cb : Nat) (w : World) (Ra : Ws w w.heap.size A (rg g n)) (Rb : Ws w w.heap.size B (rg h n)) :
    Calls Tryd.prog 13 #[.slice A n ca, .slice B n cb] w fun e w' => e = .returned (.bool true) ∧ Below w.heap.size w w' := by
  rw [← rg_congr n he] at Rb
  exact Sm.same A B n n ca cb (rg g n) (rg_len g n).symm (rg_len g n).symm (by rw [rg_len]; omega) w Ra Rb
/-- The document's Fits of a power of two. -/
theorem fits_doc (n k : Nat) (hk : k ≤ 32) (hn : n = 2 ^ k) (w : World) : Calls Tryd.prog 17 #[.int .i64 (n : Int)] w fun e w' => e = .returned (.int .i64 (k : Int)) ∧ w = w' :=
  Ft.ref_any (n : Int) (k : Int) (fun i hi e => by
    have e2 : 2 ^ k = 2 ^ i := by omega
    rw [Nat.pow_right_inj (a := 2) (by decide) |>.mp e2]) (fun h => absurd (by rw [hn]) (h k hk)) w
end Td
end Go.Proofs.YtfjoacopnkceoaaDoor
