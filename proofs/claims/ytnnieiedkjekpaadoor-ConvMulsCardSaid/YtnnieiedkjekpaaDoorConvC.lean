/- Contracts of the document's own convolutions, correlation and shift. -/
import Derived.Test.YtnnieiedkjekpaaDoorConvN
import Derived.Test.YtnnieiedkjekpaaDoorTwidE
import Derived.Test.YtnnieiedkjekpaaDoorOwnA
set_option linter.unusedVariables false
namespace Go.Proofs.YtnnieiedkjekpaaDoor
open Go.RowKit Go.Lib
namespace Cv
open Ww Pl Td Pn

/-- The first i terms of the document's sum. -/
def dsm (a b : Nat → Nat) (n c j i : Nat) : Nat := Nt.sg (fun i => if i ≤ j then a i * b (j - i) else c * (a i * b (j + n - i))) i % 18446744069414584321
theorem dsm_zero (a b : Nat → Nat) (n c j : Nat) : dsm a b n c j 0 = 0 := rfl
theorem dsm_near (a b : Nat → Nat) (n c j i : Nat) (h : i ≤ j) : (dsm a b n c j i + a i * b (j - i) % 18446744069414584321) % 18446744069414584321 = dsm a b n c j (i + 1) := by
  unfold dsm
  rw [← Nat.add_mod]
  show _ = (Nt.sg (fun i => if i ≤ j then a i * b (j - i) else c * (a i * b (j + n - i))) i + if i ≤ j then a i * b (j - i) else c * (a i * b (j + n - i))) % 18446744069414584321
  rw [if_pos h]
theorem dsm_far (a b : Nat → Nat) (n j i : Nat) (h : j < i) : (dsm a b n 1 j i + a i * b (j + n - i) % 18446744069414584321) % 18446744069414584321 = dsm a b n 1 j (i + 1) := by
  unfold dsm
  rw [← Nat.add_mod]
  show _ = (Nt.sg (fun i => if i ≤ j then a i * b (j - i) else 1 * (a i * b (j + n - i))) i + if i ≤ j then a i * b (j - i) else 1 * (a i * b (j + n - i))) % 18446744069414584321
  rw [if_neg (by omega), Nat.one_mul]
theorem dsm_neg (a b : Nat → Nat) (n j i : Nat) (h : j < i) : (dsm a b n 18446744069414584320 j i + (18446744069414584321 - a i * b (j + n - i) % 18446744069414584321 % 18446744069414584321)) % 18446744069414584321 = dsm a b n 18446744069414584320 j (i + 1) := by
  rw [← Tn.sub_form]
  unfold dsm
  rw [Nat.add_mod, Nat.mul_mod_mod, Nat.mod_mod, ← Nat.add_mod]
  show _ = (Nt.sg (fun i => if i ≤ j then a i * b (j - i) else 18446744069414584320 * (a i * b (j + n - i))) i + if i ≤ j then a i * b (j - i) else 18446744069414584320 * (a i * b (j + n - i))) % 18446744069414584321
  rw [if_neg (by omega)]
theorem dsm_cyc (a b : Nat → Nat) (n j : Nat) (h : j < n) : dsm a b n 1 j n = cyc a b n j % 18446744069414584321 := by
  rw [cyc_doc a b n j h]
  unfold dsm
  congr 1
  exact Pn.sg_congr n fun i hi => by
    show (if i ≤ j then a i * b (j - i) else 1 * (a i * b (j + n - i))) = a i * b (if i ≤ j then j - i else j + n - i)
    by_cases h : i ≤ j
    · rw [if_pos h, if_pos h]
    · rw [if_neg h, if_neg h, Nat.one_mul]
theorem dsm_ngc (a b : Nat → Nat) (n j : Nat) : dsm a b n 18446744069414584320 j n = ngc a b n j % 18446744069414584321 := rfl

set_option maxHeartbeats 2000000 in
set_option maxRecDepth 100000 in
theorem rcyc_core (neg : Bool) (A B : Option Addr) (ca cb n : Nat) (xs ys : List Nat) (hn : xs.length = n) (hm : ys.length = n) (hl : n ≤ 1048576) (G : Nat → Nat) (S : Nat → Nat → Nat)
    (hM : ∀ i j W, Calls Tryd.prog 29 #[.int .u64 (pl xs i : Nat), .int .u64 (pl ys j : Nat)] W fun e w' => e = .returned (.int .u64 ((pl xs i * pl ys j % 18446744069414584321 : Nat) : Int)) ∧ W = w')
    (hA : ∀ i j, i ≤ j → ∀ W, Calls Tryd.prog 28 #[.int .u64 (S j i : Nat), .int .u64 ((pl xs i * pl ys (j - i) % 18446744069414584321 : Nat) : Int)] W fun e w' => e = .returned (.int .u64 (S j (i + 1) : Nat)) ∧ W = w')
    (hB : ∀ i j, j < i → neg = true → ∀ W, Calls Tryd.prog 30 #[.int .u64 (S j i : Nat), .int .u64 ((pl xs i * pl ys (j + n - i) % 18446744069414584321 : Nat) : Int)] W fun e w' => e = .returned (.int .u64 (S j (i + 1) : Nat)) ∧ W = w')
    (hC : ∀ i j, j < i → neg = false → ∀ W, Calls Tryd.prog 28 #[.int .u64 (S j i : Nat), .int .u64 ((pl xs i * pl ys (j + n - i) % 18446744069414584321 : Nat) : Int)] W fun e w' => e = .returned (.int .u64 (S j (i + 1) : Nat)) ∧ W = w')
    (hS0 : ∀ j, S j 0 = 0) (hSn : ∀ j, j < n → S j n = G j) (w : World) (Ra : Ws w w.heap.size A xs) (Rb : Ws w w.heap.size B ys) :
    Calls Tryd.prog 12 #[.slice A n ca, .slice B n cb, .bool neg] w (Out (rg G n) w) := by
  have HM := Lib.hid hM
  have HA := Lib.hid hA
  have HB := Lib.hid hB
  have HC := Lib.hid hC
  have S0 := Lib.hid hS0
  have SN := Lib.hid hSn
  have HN := Lib.hid hn
  have HY := Lib.hid hm
  have N0 := Lib.hid (Ow.nil_ w w.heap.size)
  have SU := Lib.hid (rg_succ G)
  have LE := Lib.hid (rg_len G)
  clear hM hA hB hC hS0 hSn hn hm
  go_enter Tryd.func12, Tryd.ntmps12
  go_wp2_with fail
  go_loopw [7, 8] (fun v7 v8 wr => ∃ j : Nat, v8 = .int .i64 (j : Int) ∧ j ≤ n ∧ Ow wr w.heap.size v7 (rg G j) ∧ Below w.heap.size w wr) (fun _ v8 _ => n - (Lib.intOf v8).toNat)
  case atStart => exact ⟨0, rfl, Nat.zero_le _, N0.out, Below.refl _ _⟩
  case round =>
    obtain ⟨j, rfl, hj, O, hbl⟩ := hrel
    clear N0
    by_cases hlt : j < n
    · have j1 : (j : Int) < n := by omega
      have hbl0 := hbl
      have O0 := O
      have A1 := Lib.hid (fun i => HA.out i j)
      have B1 := Lib.hid (fun i => HB.out i j)
      have C1 := Lib.hid (fun i => HC.out i j)
      have s0 := Lib.hid (S0.out j)
      have sn := Lib.hid (SN.out j hlt)
      have S1 := Lib.hid (SU.out j)
      have L1 := Lib.hid (LE.out j)
      clear HA HB HC S0 SN SU LE
      generalize S j = Sj at *
      obtain ⟨wo, rfl⟩ : ∃ wo : World, wo = wr := ⟨_, rfl⟩
      go_wp2_with fail
      go_loopw [9, 10] (fun v9 v10 wr => ∃ i s : Nat, v10 = .int .i64 (i : Int) ∧ v9 = .int .u64 (s : Nat) ∧ i ≤ n ∧ s = Sj i ∧ Ow wr w.heap.size u7 (rg G j) ∧ Below w.heap.size w wr) (fun _ v10 _ => n - (Lib.intOf v10).toNat)
      case atStart => exact ⟨0, 0, rfl, rfl, Nat.zero_le _, s0.out.symm, O0, hbl0⟩
      case round =>
        obtain ⟨i, s, rfl, rfl, hi, hs, O, hbl⟩ := hrel
        clear O0 hbl0 s0
        by_cases hit : i < n
        · have i1 : (i : Int) < n := by omega
          have Ra1 := Ra.below hbl
          have Rb1 := Rb.below hbl
          obtain ⟨b, off, rfl, hB, c⟩ := Ra1.at_ i (by rw [HN.out]; exact hit)
          have c2 : wr.cell? ⟨b, off + i, none⟩ = some (.int .u64 (pl xs i : Nat)) := c
          by_cases hij : i ≤ j
          · obtain ⟨q, hq⟩ : ∃ q, q = j - i := ⟨_, rfl⟩
            have q1 : IntKind.i64.wrap ((j : Int) - (i : Int)) = (q : Int) := by rw [IntKind.wrap_i64]; omega
            obtain ⟨d, off2, rfl, hD, c3⟩ := Rb1.at_ q (by rw [HY.out]; omega)
            have c4 : wr.cell? ⟨d, off2 + q, none⟩ = some (.int .u64 (pl ys q : Nat)) := c3
            have M1 := Lib.hid (HM.out i q)
            have A2 := Lib.hid (A1.out i hij)
            rw [← hs, ← hq] at A2
            obtain ⟨s2, hs2⟩ : ∃ s2, s2 = Sj (i + 1) := ⟨_, rfl⟩
            rw [← hs2] at A2
            have HS2 := Lib.hid hs2
            have ql : (q : Int) < n := by omega
            clear c c3 hs hs2 hq Ra1 Rb1 HM A1 B1 C1
            generalize pl xs i * pl ys q % 18446744069414584321 = m at *
            generalize pl xs i = x at *
            generalize pl ys q = y at *
            go_wp2_with fail
            go_quiet ((first
              | (go_at_call 29; with_reducible exact qs (M1.out _))
              | (go_at_call 28; with_reducible exact qs (A2.out _))))
            go_wp2_with fail
            go_roundw
            case rel => exact ⟨i + 1, s2, rfl, rfl, by omega, HS2.out, O.drewN _, below_drewN hbl _⟩
            case measure => simp [Lib.intOf]; omega
          · obtain ⟨r, hr⟩ : ∃ r : Int, r = (j : Int) - (i : Int) := ⟨_, rfl⟩
            obtain ⟨q, hq⟩ : ∃ q, q = j + n - i := ⟨_, rfl⟩
            have r0 : ¬ (0 : Int) ≤ r := by omega
            have q1 : IntKind.i64.wrap ((j : Int) - (i : Int)) = r := by rw [IntKind.wrap_i64]; omega
            have q2 : IntKind.i64.wrap (r + (n : Int)) = (q : Int) := by rw [IntKind.wrap_i64]; omega
            obtain ⟨d, off2, rfl, hD, c3⟩ := Rb1.at_ q (by rw [HY.out]; omega)
            have c4 : wr.cell? ⟨d, off2 + q, none⟩ = some (.int .u64 (pl ys q : Nat)) := c3
            have M1 := Lib.hid (HM.out i q)
            have B2 := Lib.hid (B1.out i (by omega))
            have C2 := Lib.hid (C1.out i (by omega))
            rw [← hs, ← hq] at B2 C2
            obtain ⟨s2, hs2⟩ : ∃ s2, s2 = Sj (i + 1) := ⟨_, rfl⟩
            rw [← hs2] at B2 C2
            have HS2 := Lib.hid hs2
            have ql : (q : Int) < n := by omega
            clear c c3 hs hs2 hq hr Ra1 Rb1 HM A1 B1 C1
            generalize pl xs i * pl ys q % 18446744069414584321 = m at *
            generalize pl xs i = x at *
            generalize pl ys q = y at *
            cases neg
            · have C3 := Lib.hid (C2.out rfl)
              clear C2 B2
              go_wp2_with fail
              go_quiet ((first
                | (go_at_call 29; with_reducible exact qs (M1.out _))
                | (go_at_call 28; with_reducible exact qs (C3.out _))))
              go_wp2_with fail
              go_roundw
              case rel => exact ⟨i + 1, s2, rfl, rfl, by omega, HS2.out, O.drewN _, below_drewN hbl _⟩
              case measure => simp [Lib.intOf]; omega
            · have B3 := Lib.hid (B2.out rfl)
              clear C2 B2
              go_wp2_with fail
              go_quiet ((first
                | (go_at_call 29; with_reducible exact qs (M1.out _))
                | (go_at_call 30; with_reducible exact qs (B3.out _))))
              go_wp2_with fail
              go_roundw
              case rel => exact ⟨i + 1, s2, rfl, rfl, by omega, HS2.out, O.drewN _, below_drewN hbl _⟩
              case measure => simp [Lib.intOf]; omega
        · have i1 : ¬ (i : Int) < n := by omega
          obtain rfl : i = n := by omega
          have e1 := hs.trans sn.out
          rw [← e1] at S1
          clear hs e1 HM A1 B1 C1 sn
          obtain ⟨p, rfl⟩ : ∃ p, p = s := ⟨_, rfl⟩
          go_wp2_with (at_builtin; go_loud (refine append1 (wr.alloc (.cells #[.int .u64 p] 32)) ?hgd (.tmp 69) (.tmp 71) ?ho w.heap.size u7 (rg G j) ?hs (O.alloc _) wr.heap.size p ?hx (cut1 _ _ _) ?c1 ?c2 (fun v6 w1 O1 hg => ?_)); (case hgd => rfl); (case ho => rfl); (case hs => rfl); (case hx => rfl))
          case c1 => rw [L1.out]; omega
          case c2 => have := hbl.size; simp; omega
          rw [S1.out] at O1
          have b1 := (O.alloc _).grow (hbl.alloc hbl.size _) hg (by have := hbl.size; simp; omega)
          go_wp2_with fail
          go_roundw
          case rel => exact ⟨j + 1, rfl, by omega, O1, b1⟩
          case measure => simp [Lib.intOf]; omega
    · have j1 : ¬ (j : Int) < n := by omega
      obtain rfl : j = n := by omega
      have OK := Lib.hid (Out.mk_ O hbl)
      clear O hbl
      go_wp2
      exact bodyPost_ret (v := u7) (by simp [results, Tryd.results12, go_sem]) rfl OK.out
theorem rcyc (A B : Option Addr) (ca cb n : Nat) (xs ys : List Nat) (hn : xs.length = n) (hm : ys.length = n) (hl : n ≤ 1048576) (w : World) (Ra : Ws w w.heap.size A xs) (Rb : Ws w w.heap.size B ys) :
    Calls Tryd.prog 12 #[.slice A n ca, .slice B n cb, .bool false] w (RwA (fun j => cyc (pl xs) (pl ys) n j % 18446744069414584321) n w) :=
  (rcyc_core false A B ca cb n xs ys hn hm hl (fun j => cyc (pl xs) (pl ys) n j % 18446744069414584321) (fun j i => dsm (pl xs) (pl ys) n 1 j i) (fun i j W => Gr.mul _ _ (pl64 Rb j) W)
    (fun i j h W => by have c := Gr.add (dsm (pl xs) (pl ys) n 1 j i) (pl xs i * pl ys (j - i) % 18446744069414584321) W; rw [dsm_near _ _ _ _ _ _ h] at c; exact c) (fun i j _ h => nomatch h)
    (fun i j h _ W => by have c := Gr.add (dsm (pl xs) (pl ys) n 1 j i) (pl xs i * pl ys (j + n - i) % 18446744069414584321) W; rw [dsm_far _ _ _ _ _ h] at c; exact c)
    (fun j => dsm_zero _ _ _ _ _) (fun j h => dsm_cyc _ _ _ _ h) w Ra Rb).mono fun _ _ h => rwA_of (g := fun j => cyc (pl xs) (pl ys) n j % 18446744069414584321) (fun i => Nat.mod_lt _ (by decide)) (fun _ _ => rfl) h
theorem rngc (A B : Option Addr) (ca cb n : Nat) (xs ys : List Nat) (hn : xs.length = n) (hm : ys.length = n) (hl : n ≤ 1048576) (w : World) (Ra : Ws w w.heap.size A xs) (Rb : Ws w w.heap.size B ys) :
    Calls Tryd.prog 12 #[.slice A n ca, .slice B n cb, .bool true] w (RwA (fun j => ngc (pl xs) (pl ys) n j % 18446744069414584321) n w) :=
  (rcyc_core true A B ca cb n xs ys hn hm hl (fun j => ngc (pl xs) (pl ys) n j % 18446744069414584321) (fun j i => dsm (pl xs) (pl ys) n 18446744069414584320 j i) (fun i j W => Gr.mul _ _ (pl64 Rb j) W)
    (fun i j h W => by have c := Gr.add (dsm (pl xs) (pl ys) n 18446744069414584320 j i) (pl xs i * pl ys (j - i) % 18446744069414584321) W; rw [dsm_near _ _ _ _ _ _ h] at c; exact c)
    (fun i j h _ W => by have c := Gr.sub (dsm (pl xs) (pl ys) n 18446744069414584320 j i) (pl xs i * pl ys (j + n - i) % 18446744069414584321) W; rw [dsm_neg _ _ _ _ _ h] at c; exact c) (fun i j _ h => nomatch h)
    (fun j => dsm_zero _ _ _ _ _) (fun j h => dsm_ngc _ _ _ _) w Ra Rb).mono fun _ _ h => rwA_of (g := fun j => ngc (pl xs) (pl ys) n j % 18446744069414584321) (fun i => Nat.mod_lt _ (by decide)) (fun _ _ => rfl) h

set_option maxHeartbeats 2000000 in
set_option maxRecDepth 100000 in
theorem rcor_core (A B : Option Addr) (ca cb n : Nat) (xs ys : List Nat) (hn : xs.length = n) (hm : ys.length = n) (hl : n ≤ 1048576) (G : Nat → Nat) (S : Nat → Nat → Nat)
    (hM : ∀ i j W, Calls Tryd.prog 29 #[.int .u64 (pl xs i : Nat), .int .u64 (pl ys j : Nat)] W fun e w' => e = .returned (.int .u64 ((pl xs i * pl ys j % 18446744069414584321 : Nat) : Int)) ∧ W = w')
    (hA : ∀ i j W, Calls Tryd.prog 28 #[.int .u64 (S j i : Nat), .int .u64 ((pl xs ((i + j) % n) * pl ys i % 18446744069414584321 : Nat) : Int)] W fun e w' => e = .returned (.int .u64 (S j (i + 1) : Nat)) ∧ W = w')
    (hS0 : ∀ j, S j 0 = 0) (hSn : ∀ j, j < n → S j n = G j) (w : World) (Ra : Ws w w.heap.size A xs) (Rb : Ws w w.heap.size B ys) :
    Calls Tryd.prog 13 #[.slice A n ca, .slice B n cb] w (Out (rg G n) w) := by
  have HM := Lib.hid hM
  have HA := Lib.hid hA
  have S0 := Lib.hid hS0
  have SN := Lib.hid hSn
  have HN := Lib.hid hn
  have HY := Lib.hid hm
  have N0 := Lib.hid (Ow.nil_ w w.heap.size)
  have SU := Lib.hid (rg_succ G)
  have LE := Lib.hid (rg_len G)
  clear hM hA hS0 hSn hn hm
  go_enter Tryd.func13, Tryd.ntmps13
  go_wp2_with fail
  go_loopw [5, 6] (fun v5 v6 wr => ∃ j : Nat, v6 = .int .i64 (j : Int) ∧ j ≤ n ∧ Ow wr w.heap.size v5 (rg G j) ∧ Below w.heap.size w wr) (fun _ v6 _ => n - (Lib.intOf v6).toNat)
  case atStart => exact ⟨0, rfl, Nat.zero_le _, N0.out, Below.refl _ _⟩
  case round =>
    obtain ⟨j, rfl, hj, O, hbl⟩ := hrel
    clear N0
    by_cases hlt : j < n
    · have j1 : (j : Int) < n := by omega
      have hbl0 := hbl
      have O0 := O
      have A1 := Lib.hid (fun i => HA.out i j)
      have s0 := Lib.hid (S0.out j)
      have sn := Lib.hid (SN.out j hlt)
      have S1 := Lib.hid (SU.out j)
      have L1 := Lib.hid (LE.out j)
      clear HA S0 SN SU LE
      generalize S j = Sj at *
      obtain ⟨wo, rfl⟩ : ∃ wo : World, wo = wr := ⟨_, rfl⟩
      go_wp2_with fail
      go_loopw [7, 8] (fun v7 v8 wr => ∃ i s : Nat, v8 = .int .i64 (i : Int) ∧ v7 = .int .u64 (s : Nat) ∧ i ≤ n ∧ s = Sj i ∧ Ow wr w.heap.size u5 (rg G j) ∧ Below w.heap.size w wr) (fun _ v8 _ => n - (Lib.intOf v8).toNat)
      case atStart => exact ⟨0, 0, rfl, rfl, Nat.zero_le _, s0.out.symm, O0, hbl0⟩
      case round =>
        obtain ⟨i, s, rfl, rfl, hi, hs, O, hbl⟩ := hrel
        clear O0 hbl0 s0
        by_cases hit : i < n
        · have i1 : (i : Int) < n := by omega
          have Ra1 := Ra.below hbl
          have Rb1 := Rb.below hbl
          obtain ⟨q, hq⟩ : ∃ q, q = (i + j) % n := ⟨_, rfl⟩
          have ql : q < n := by rw [hq]; exact Nat.mod_lt _ (by omega)
          have q1 : IntKind.i64.wrap ((i : Int) + (j : Int)) = ((i + j : Nat) : Int) := by rw [IntKind.wrap_i64]; omega
          have b0 : ((n : Int) == 0) = false := by rw [beq_eq_false_iff_ne]; omega
          have b1 : ¬ (n : Int) = 0 := by omega
          have d1 : ((i + j : Nat) : Int).tmod (n : Int) = (q : Int) := by rw [← Int.ofNat_tmod, ← hq]
          have d2 : ((i + j : Nat) : Int) % (n : Int) = (q : Int) := by rw [← Int.natCast_emod, ← hq]
          have d3 : IntKind.i64.wrap (q : Int) = (q : Int) := IntWalk.i64_in _ (by omega)
          obtain ⟨b, off, rfl, hB, c⟩ := Ra1.at_ q (by rw [HN.out]; exact ql)
          have c2 : wr.cell? ⟨b, off + q, none⟩ = some (.int .u64 (pl xs q : Nat)) := c
          obtain ⟨d, off2, rfl, hD, c3⟩ := Rb1.at_ i (by rw [HY.out]; omega)
          have c4 : wr.cell? ⟨d, off2 + i, none⟩ = some (.int .u64 (pl ys i : Nat)) := c3
          have M1 := Lib.hid (HM.out q i)
          have A2 := Lib.hid (A1.out i)
          rw [← hs, ← hq] at A2
          obtain ⟨s2, hs2⟩ : ∃ s2, s2 = Sj (i + 1) := ⟨_, rfl⟩
          rw [← hs2] at A2
          have HS2 := Lib.hid hs2
          obtain ⟨t, ht⟩ : ∃ t, t = i + j := ⟨_, rfl⟩
          rw [← ht] at q1 d1 d2
          clear c c3 hs hs2 hq ht Ra1 Rb1 HM A1
          generalize pl xs q * pl ys i % 18446744069414584321 = m at *
          generalize pl xs q = x at *
          generalize pl ys i = y at *
          go_wp2_with fail
          go_quiet ((first
            | (go_at_call 29; with_reducible exact qs (M1.out _))
            | (go_at_call 28; with_reducible exact qs (A2.out _))))
          go_wp2_with fail
          go_roundw
          case rel => exact ⟨i + 1, s2, rfl, rfl, by omega, HS2.out, O.drewN _, below_drewN hbl _⟩
          case measure => simp [Lib.intOf]; omega
        · have i1 : ¬ (i : Int) < n := by omega
          obtain rfl : i = n := by omega
          have e1 := hs.trans sn.out
          rw [← e1] at S1
          clear hs e1 HM A1 sn
          obtain ⟨p, rfl⟩ : ∃ p, p = s := ⟨_, rfl⟩
          go_wp2_with (at_builtin; go_loud (refine append1 (wr.alloc (.cells #[.int .u64 p] 32)) ?hgd (.tmp 37) (.tmp 39) ?ho w.heap.size u5 (rg G j) ?hs (O.alloc _) wr.heap.size p ?hx (cut1 _ _ _) ?c1 ?c2 (fun v6 w1 O1 hg => ?_)); (case hgd => rfl); (case ho => rfl); (case hs => rfl); (case hx => rfl))
          case c1 => rw [L1.out]; omega
          case c2 => have := hbl.size; simp; omega
          rw [S1.out] at O1
          have b1 := (O.alloc _).grow (hbl.alloc hbl.size _) hg (by have := hbl.size; simp; omega)
          go_wp2_with fail
          go_roundw
          case rel => exact ⟨j + 1, rfl, by omega, O1, b1⟩
          case measure => simp [Lib.intOf]; omega
    · have j1 : ¬ (j : Int) < n := by omega
      obtain rfl : j = n := by omega
      have OK := Lib.hid (Out.mk_ O hbl)
      clear O hbl
      go_wp2
      exact bodyPost_ret (v := u5) (by simp [results, Tryd.results13, go_sem]) rfl OK.out
theorem csm_step (a b : Nat → Nat) (n j i : Nat) : (Nt.sg (fun m => a ((m + j) % n) * b m) i % 18446744069414584321 + a ((i + j) % n) * b i % 18446744069414584321) % 18446744069414584321 = Nt.sg (fun m => a ((m + j) % n) * b m) (i + 1) % 18446744069414584321 := by
  rw [← Nat.add_mod]
  rfl
theorem rcor (A B : Option Addr) (ca cb n : Nat) (xs ys : List Nat) (hn : xs.length = n) (hm : ys.length = n) (hl : n ≤ 1048576) (w : World) (Ra : Ws w w.heap.size A xs) (Rb : Ws w w.heap.size B ys) :
    Calls Tryd.prog 13 #[.slice A n ca, .slice B n cb] w (RwA (fun j => cor (pl xs) (pl ys) n j % 18446744069414584321) n w) :=
  (rcor_core A B ca cb n xs ys hn hm hl (fun j => cor (pl xs) (pl ys) n j % 18446744069414584321) (fun j i => Nt.sg (fun m => pl xs ((m + j) % n) * pl ys m) i % 18446744069414584321) (fun i j W => Gr.mul _ _ (pl64 Rb j) W)
    (fun i j W => by have c := Gr.add (Nt.sg (fun m => pl xs ((m + j) % n) * pl ys m) i % 18446744069414584321) (pl xs ((i + j) % n) * pl ys i % 18446744069414584321) W; rw [csm_step] at c; exact c)
    (fun j => rfl) (fun j h => rfl) w Ra Rb).mono fun _ _ h => rwA_of (g := fun j => cor (pl xs) (pl ys) n j % 18446744069414584321) (fun i => Nat.mod_lt _ (by decide)) (fun _ _ => rfl) h
end Cv
end Go.Proofs.YtnnieiedkjekpaaDoor
