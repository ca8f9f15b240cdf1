/- ConvMuls: of every polynomials and every number the law of products and powers answers true, and changes nothing, where the library's two tables are as their initialisers lay them (the card ties them to the program's text). -/
import Derived.Test.YtnnieiedkjekpaaDoorFrame
import Derived.Test.YtnnieiedkjekpaaDoorConvD
import Derived.Test.YtnnieiedkjekpaaDoorConvE
import Derived.Test.YtnnieiedkjekpaaDoorTie
import Derived.Test.YtnnieiedkjekpaaDoorCards
import Derived.Lib.LaidTab
import Derived.LaidMore
import Derived.Stop.Joined
import Derived.SevenTiedAt
set_option linter.unusedVariables false
namespace Go.Proofs.YtnnieiedkjekpaaDoor.convMuls
open Go.ChangeShapes Go.WideShapes Go.ChangeAt Go.RowKit
open Nm Ww Tn Pl Kn Td Cv Lib

set_option maxHeartbeats 400000 in
theorem walk_rows (A B : Option Addr) (cm cb m l : Nat) (n : Int) (h : 4 < m) (w : World) (hT : Ft.Tab w) : Calls Tryd.prog 4 #[.slice A m cm, .slice B l cb, .int .i64 n] w fun e w' => e = .returned (.bool true) ∧ Below w.heap.size w w' := by
  have AW := Lib.hid (awake w hT)
  have h1 : (4 : Int) < (m : Int) := by omega
  clear h hT
  go_enter Tryd.func4, Tryd.ntmps4
  go_wp2_with fail
  refine AW.out.mono ?_
  rintro e w1 ⟨rfl, c1⟩
  clear AW
  go_wp2
  go_ret
  exact ⟨by simp [go_sem], c1⟩
set_option maxHeartbeats 400000 in
theorem walk_long (A B : Option Addr) (cm cb m l : Nat) (n : Int) (h0 : m ≤ 4) (h : 20 < l) (w : World) (hT : Ft.Tab w) : Calls Tryd.prog 4 #[.slice A m cm, .slice B l cb, .int .i64 n] w fun e w' => e = .returned (.bool true) ∧ Below w.heap.size w w' := by
  have AW := Lib.hid (awake w hT)
  have h1 : ¬ (4 : Int) < (m : Int) := by omega
  have h2 : (20 : Int) < (l : Int) := by omega
  clear h0 h hT
  go_enter Tryd.func4, Tryd.ntmps4
  go_wp2_with fail
  refine AW.out.mono ?_
  rintro e w1 ⟨rfl, c1⟩
  clear AW
  go_wp2
  go_ret
  exact ⟨by simp [go_sem], c1⟩
set_option maxHeartbeats 400000 in
theorem walk_none (A B : Option Addr) (cm cb m l : Nat) (n : Int) (h0 : m ≤ 4) (h : l = 0) (hn : 6 < n) (w : World) (hT : Ft.Tab w) : Calls Tryd.prog 4 #[.slice A m cm, .slice B l cb, .int .i64 n] w fun e w' => e = .returned (.bool true) ∧ Below w.heap.size w w' := by
  have AW := Lib.hid (awake w hT)
  have h1 : ¬ (4 : Int) < (m : Int) := by omega
  have h2 : ¬ (20 : Int) < (l : Int) := by omega
  have h3 : ((l : Int) == 0) = true := by simp [h]
  have h4 : (l : Int) = 0 := by omega
  clear h0 h hT
  go_enter Tryd.func4, Tryd.ntmps4
  go_wp2_with fail
  refine AW.out.mono ?_
  rintro e w1 ⟨rfl, c1⟩
  clear AW
  go_wp2
  go_ret
  exact ⟨by simp [go_sem], c1⟩
set_option maxHeartbeats 400000 in
theorem walk_few (A B : Option Addr) (cm cb m l : Nat) (n : Int) (h0 : m ≤ 4) (h : 0 < l) (hl : l ≤ 20) (hn : 6 < n) (hq : n ≤ ((524288 / l : Nat) : Int)) (w : World) (hT : Ft.Tab w) : Calls Tryd.prog 4 #[.slice A m cm, .slice B l cb, .int .i64 n] w fun e w' => e = .returned (.bool true) ∧ Below w.heap.size w w' := by
  have AW := Lib.hid (awake w hT)
  obtain ⟨q, hq1, q1, q2, q3⟩ := quo_facts l h
  rw [← hq1] at hq
  have h1 : ¬ (4 : Int) < (m : Int) := by omega
  have h2 : ¬ (20 : Int) < (l : Int) := by omega
  have h3 : ((l : Int) == 0) = false := by rw [beq_eq_false_iff_ne]; omega
  have h4 : ¬ (l : Int) = 0 := by omega
  clear h0 h hl hq1 hT
  go_enter Tryd.func4, Tryd.ntmps4
  go_wp2_with fail
  refine AW.out.mono ?_
  rintro e w1 ⟨rfl, c1⟩
  clear AW
  go_wp2
  go_ret
  exact ⟨by simp [go_sem], c1⟩
theorem same_po {c : Nat → Nat} {zs us : List Nat} (h1 : Pn.Nf 18446744069414584321 zs) (k1 : ∀ i, Pn.pl zs i = c i % 18446744069414584321) (h2 : Pn.Nf 18446744069414584321 us) (k2 : ∀ i, Pn.pl us i = c i % 18446744069414584321) (hl : zs.length ≤ 524288) (A B : Option Addr) (ca cb : Nat) (w : World) (Ra : Ws w w.heap.size A us) (Rb : Ws w w.heap.size B zs) :
    Calls Tryd.prog 11 #[.slice A us.length ca, .slice B zs.length cb] w fun e w' => e = .returned (.bool true) ∧ Below w.heap.size w w' := by
  obtain rfl := Pn.Nf.ext h1 h2 fun i => (k1 i).trans (k2 i).symm
  exact Sm.same A B _ _ ca cb zs rfl rfl (by omega) w Ra Rb
theorem tot20 (ls : List (List Nat)) : ∀ i, i ≤ ls.length → (∀ k, k < i → (ls.getD k []).length ≤ 20) → Jn.tot ls i ≤ 20 * i := by
  intro i
  induction i with
  | zero => intro _ _; simp [Jn.tot]
  | succ i ih =>
    intro hi h
    have := ih (by omega) (fun k hk => h k (by omega))
    have := h i (by omega)
    rw [Jn.tot_succ ls i (by omega)]
    omega
theorem take_next (ls : List (List Nat)) (i : Nat) (h : i < ls.length) (j : Nat) : Pn.conv (prd (ls.take i)) (Pn.pl (ls.getD i [])) j = prd (ls.take (i + 1)) j := by
  rw [List.take_succ_eq_append_getElem h, prd_append]
  have e : ls[i] = ls.getD i [] := by simp [List.getD, h]
  rw [e]
  exact Pn.conv_congr (fun _ => rfl) (fun k => (prd_one _ k).symm) j
/-- What the law's loops keep. -/
def Wi (c : Nat → Nat) (w : World) (v : Value) (wr : World) : Prop := Po c w (.returned v) wr
theorem mul_next {c d : Nat → Nat} {w : World} (W : World) (zs ys : List Nat) (A1 A2 : Option Addr) (c1 c2 : Nat) (hz : ∀ i, Pn.pl zs i = c i % 18446744069414584321) (h1 : zs.length ≤ 524288) (h2 : ys.length ≤ 524288) (hd : ∀ i, Pn.conv c (Pn.pl ys) i % 18446744069414584321 = d i % 18446744069414584321) (b : Below w.heap.size w W) (R1 : Ws W W.heap.size A1 zs) (R2 : Ws W W.heap.size A2 ys) :
    Calls Tryd.prog 14 #[.slice A1 zs.length c1, .slice A2 ys.length c2] W fun e w' => ∃ v, e = .returned v ∧ Wi d w v w' := by
  refine (rmul A1 A2 c1 c2 zs ys h1 h2 W R1 R2).mono fun e w' h => ?_
  have h := (h.more b).mod (d := d) fun i => by rw [← hd i]; exact Pn.conv_mod (fun j => by rw [hz j, Nat.mod_mod]) (fun _ => rfl) i
  obtain ⟨us, A, ca, e1, h3⟩ := Po.ret h
  exact ⟨_, e1, h3⟩
theorem wi_open {c : Nat → Nat} {w wr : World} {v : Value} (h : Wi c w v wr) : ∃ zs A cap, v = .slice A zs.length cap ∧ Pn.Nf 18446744069414584321 zs ∧ (∀ i, Pn.pl zs i = c i % 18446744069414584321) ∧ Ws wr wr.heap.size A zs ∧ Below w.heap.size w wr := by
  obtain ⟨zs, A, cap, h1, h2, h3, h4⟩ := h
  injection h3 with h3
  exact ⟨zs, A, cap, h3, h1, h2, h4⟩

set_option maxHeartbeats 2000000 in
set_option maxRecDepth 100000 in
theorem walk_neg (A B : Option Addr) (cm cb m l : Nat) (ls : List (List Nat)) (xs : List Nat) (n : Int) (hn : n < 0) (hm : ls.length = m) (hc : m ≤ cm) (hx : xs.length = l) (h4 : m ≤ 4) (h20 : l ≤ 20) (w : World) (hT : Ft.Tab w) (R : Jn.Rj w w.heap.size A ls) (Q : Ws w w.heap.size B xs) :
    Calls Tryd.prog 4 #[.slice A m cm, .slice B l cb, .int .i64 n] w fun e w' => e = .returned (.bool true) ∧ Below w.heap.size w w' := by
  have AW := Lib.hid (awake w hT)
  have ST := Lib.hid (fun W => show Wi (prd (ls.take 0)) W (.slice (some ⟨W.heap.size, 0, none⟩) 1 1) (W.alloc (.cells #[.int .u64 1] 32)) from po_one W _)
  have AT := Lib.hid (fun W (d : Below w.heap.size w W) i (hi : i < m) => (R.step d).at_ i (by omega))
  have TO := Lib.hid (fun i (hi : i ≤ m) h => tot20 ls i (by omega) h)
  have MN := Lib.hid (fun i (hi : i < m) (hall : ∀ k, k < i → (ls.getD k []).length ≤ 20) w1 v W (hv : Wi (prd (ls.take i)) w1 v W) => show ∃ (zs : List Nat) (A1 : Option Addr) (c1 : Nat), v = .slice A1 zs.length c1 ∧ Below w1.heap.size w1 W ∧ ∀ A2 c2, (ls.getD i []).length ≤ 20 → Ws W W.heap.size A2 (ls.getD i []) →
      Calls Tryd.prog 14 #[.slice A1 zs.length c1, .slice A2 (ls.getD i []).length c2] W fun e w' => ∃ v, e = .returned v ∧ Wi (prd (ls.take (i + 1))) w1 v w' from by
    obtain ⟨zs, A1, c1, e, n1, k1, R1, b1⟩ := wi_open hv
    refine ⟨zs, A1, c1, e, b1, fun A2 c2 hl R2 => mul_next W zs _ A1 A2 c1 c2 k1 ?_ (by omega) (fun j => by rw [take_next ls i (by omega)]) b1 R1 R2⟩
    have := TO.out i (by omega) hall
    have : (ls.take i).flatten.length ≤ 20 * i := this
    have := Pn.Nf.short n1 (20 * i + 1) fun j hj => by rw [k1 j, prd_far _ j (by omega), Nat.zero_mod]
    omega)
  have TM := Lib.hid (show ls.take m = ls by rw [← hm]; exact List.take_length)
  have PR := Lib.hid (fun W (d : Below w.heap.size w W) (hall : ∀ k, k < m → (ls.getD k []).length ≤ 20) => show Calls Tryd.prog 15 #[.slice A m cm] W (PoT (prd ls) W) from by
    have h := TO.out m (by omega) hall
    have h : (ls.take m).flatten.length ≤ 20 * m := h
    rw [TM.out] at h
    exact product A m cm ls hm hc (by omega) (by omega) W (hT.below d) (R.step d))
  have ZL := Lib.hid (fun (zs : List Nat) (hall : ∀ k, k < m → (ls.getD k []).length ≤ 20) (n1 : Pn.Nf 18446744069414584321 zs) (k1 : ∀ i, Pn.pl zs i = prd ls i % 18446744069414584321) => show zs.length ≤ 524288 from by
    have h := TO.out m (by omega) hall
    have h : (ls.take m).flatten.length ≤ 20 * m := h
    rw [TM.out] at h
    have := Pn.Nf.short n1 (20 * m + 1) fun j hj => by rw [k1 j, prd_far _ j (by omega), Nat.zero_mod]
    omega)
  have h1 : ¬ (4 : Int) < (m : Int) := by omega
  have h2 : ¬ (20 : Int) < (l : Int) := by omega
  have PW := Lib.hid (fun W => power_neg B l cb n hn W)
  have n6 : ¬ (6 : Int) < n := by omega
  clear hm hc hx h20 hT R Q
  go_enter Tryd.func4, Tryd.ntmps4
  go_wp2_with fail
  refine AW.out.mono ?_
  rintro e w1 ⟨rfl, c1⟩
  clear AW
  have ST1 := Lib.hid (ST.out w1)
  have C1 := Lib.hid c1
  clear ST c1
  go_wp2_with fail
  go_loopw [7, 8] (fun v7 v8 wr => ∃ i : Nat, v8 = .int .i64 (i : Int) ∧ i ≤ m ∧ Wi (prd (ls.take i)) w1 v7 wr ∧ Hid (∀ k, k < i → (ls.getD k []).length ≤ 20)) (fun _ v8 _ => m - (Lib.intOf v8).toNat)
  case atStart => exact ⟨0, rfl, Nat.zero_le _, ST1.out, Lib.hid fun k hk => absurd hk (Nat.not_lt_zero k)⟩
  case round =>
    obtain ⟨i, rfl, hi, V, HA⟩ := hrel
    clear ST1
    by_cases hlt : i < m
    · have i1 : (i : Int) < m := by omega
      obtain ⟨zs, A1, c1, e1, b1, MU⟩ := MN.out i hlt HA.out w1 _ wr V
      have D := C1.out.trans (b1.mono C1.out.size)
      obtain ⟨b, off, Ai, ci, rfl, hB, c, Ri, z⟩ := AT.out wr D i hlt
      have HL := Lib.hid (fun (h : (ls.getD i []).length ≤ 20) => show ∀ k, k < i + 1 → (ls.getD k []).length ≤ 20 from fun k hk => by
        rcases Nat.lt_or_ge k i with h2 | h2
        · exact HA.out k h2
        · obtain rfl : k = i := by omega
          exact h)
      have MU := Lib.hid (fun h => MU Ai ci h Ri)
      clear MN AT TO TM PR ZL V HA z Ri b1 PW 
      obtain ⟨L, hL⟩ : ∃ L, L = (ls.getD i []).length := ⟨_, rfl⟩
      rw [← hL] at c MU HL
      subst e1
      by_cases hL20 : L ≤ 20
      · have l1 : ¬ (20 : Int) < (L : Int) := by omega
        have MU2 := Lib.hid (MU.out hL20)
        have HL2 := Lib.hid (HL.out hL20)
        clear MU HL hL
        go_wp2_with fail
        refine MU2.out.mono ?_
        rintro e w2 ⟨v, rfl, V2⟩
        have V2 := Lib.hid V2
        clear MU2
        go_wp2_with fail
        go_roundw
        case rel => exact ⟨i + 1, rfl, by omega, V2.out, HL2⟩
        case measure => simp [Lib.intOf]; omega
      · have l1 : (20 : Int) < (L : Int) := by omega
        clear MU HL hL
        go_wp2
        exact bodyPost_ret (v := .bool true) (by simp [results, Tryd.results4, go_sem]) rfl ⟨rfl, D⟩
    · have i1 : ¬ (i : Int) < m := by omega
      obtain rfl : i = m := by omega
      rw [TM.out] at V
      obtain ⟨zs, A1, c1, rfl, n1, k1, R1, b1⟩ := wi_open V
      have D := C1.out.trans (b1.mono C1.out.size)
      have P2 := Lib.hid (PR.out wr D HA.out)
      have ZL2 := Lib.hid (ZL.out zs HA.out n1 k1)
      have N1 := Lib.hid n1
      have K1 := Lib.hid k1
      clear MN AT TO TM PR ZL V HA n1 k1 b1 C1
      go_wp2_with fail
      refine P2.out.mono ?_
      rintro e w2 ⟨us, A2, c2, n2, k2, rfl, R2, d2⟩
      have D2 := D.trans (d2.mono D.size)
      have R1 := R1.step d2
      have S1 := Lib.hid (fun W (R1 : Ws W W.heap.size A1 zs) (R2 : Ws W W.heap.size A2 us) => same_po N1.out K1.out n2 k2 ZL2.out A2 A1 c2 c1 W R2 R1)
      clear P2 N1 K1 n2 k2 ZL2 D d2
      go_wp2_with fail
      refine (PW.out _).mono ?_
      rintro e w3 ⟨rfl, rfl⟩
      have S3 := Lib.hid (S1.out _ R1 R2)
      clear PW S1 R1 R2
      go_wp2_with fail
      refine S3.out.mono ?_
      rintro e w4 ⟨rfl, d4⟩
      have D4 := D2.trans (d4.mono D2.size)
      clear S3 d4 D2
      go_wp2
      go_ret
      exact ⟨by simp [go_sem], D4⟩
set_option maxHeartbeats 2000000 in
set_option maxRecDepth 100000 in
theorem walk_large (A B : Option Addr) (cm cb m l : Nat) (ls : List (List Nat)) (xs : List Nat) (n : Int) (hl0 : 0 < l) (hn : 6 < n) (hq : ((524288 / l : Nat) : Int) < n) (hm : ls.length = m) (hc : m ≤ cm) (hx : xs.length = l) (h4 : m ≤ 4) (h20 : l ≤ 20) (w : World) (hT : Ft.Tab w) (R : Jn.Rj w w.heap.size A ls) (Q : Ws w w.heap.size B xs) :
    Calls Tryd.prog 4 #[.slice A m cm, .slice B l cb, .int .i64 n] w fun e w' => e = .returned (.bool true) ∧ Below w.heap.size w w' := by
  have AW := Lib.hid (awake w hT)
  have ST := Lib.hid (fun W => show Wi (prd (ls.take 0)) W (.slice (some ⟨W.heap.size, 0, none⟩) 1 1) (W.alloc (.cells #[.int .u64 1] 32)) from po_one W _)
  have AT := Lib.hid (fun W (d : Below w.heap.size w W) i (hi : i < m) => (R.step d).at_ i (by omega))
  have TO := Lib.hid (fun i (hi : i ≤ m) h => tot20 ls i (by omega) h)
  have MN := Lib.hid (fun i (hi : i < m) (hall : ∀ k, k < i → (ls.getD k []).length ≤ 20) w1 v W (hv : Wi (prd (ls.take i)) w1 v W) => show ∃ (zs : List Nat) (A1 : Option Addr) (c1 : Nat), v = .slice A1 zs.length c1 ∧ Below w1.heap.size w1 W ∧ ∀ A2 c2, (ls.getD i []).length ≤ 20 → Ws W W.heap.size A2 (ls.getD i []) →
      Calls Tryd.prog 14 #[.slice A1 zs.length c1, .slice A2 (ls.getD i []).length c2] W fun e w' => ∃ v, e = .returned v ∧ Wi (prd (ls.take (i + 1))) w1 v w' from by
    obtain ⟨zs, A1, c1, e, n1, k1, R1, b1⟩ := wi_open hv
    refine ⟨zs, A1, c1, e, b1, fun A2 c2 hl R2 => mul_next W zs _ A1 A2 c1 c2 k1 ?_ (by omega) (fun j => by rw [take_next ls i (by omega)]) b1 R1 R2⟩
    have := TO.out i (by omega) hall
    have : (ls.take i).flatten.length ≤ 20 * i := this
    have := Pn.Nf.short n1 (20 * i + 1) fun j hj => by rw [k1 j, prd_far _ j (by omega), Nat.zero_mod]
    omega)
  have TM := Lib.hid (show ls.take m = ls by rw [← hm]; exact List.take_length)
  have PR := Lib.hid (fun W (d : Below w.heap.size w W) (hall : ∀ k, k < m → (ls.getD k []).length ≤ 20) => show Calls Tryd.prog 15 #[.slice A m cm] W (PoT (prd ls) W) from by
    have h := TO.out m (by omega) hall
    have h : (ls.take m).flatten.length ≤ 20 * m := h
    rw [TM.out] at h
    exact product A m cm ls hm hc (by omega) (by omega) W (hT.below d) (R.step d))
  have ZL := Lib.hid (fun (zs : List Nat) (hall : ∀ k, k < m → (ls.getD k []).length ≤ 20) (n1 : Pn.Nf 18446744069414584321 zs) (k1 : ∀ i, Pn.pl zs i = prd ls i % 18446744069414584321) => show zs.length ≤ 524288 from by
    have h := TO.out m (by omega) hall
    have h : (ls.take m).flatten.length ≤ 20 * m := h
    rw [TM.out] at h
    have := Pn.Nf.short n1 (20 * m + 1) fun j hj => by rw [k1 j, prd_far _ j (by omega), Nat.zero_mod]
    omega)
  have h1 : ¬ (4 : Int) < (m : Int) := by omega
  have h2 : ¬ (20 : Int) < (l : Int) := by omega
  have PW := Lib.hid (fun W => power_large B l cb n hl0 hq W)
  obtain ⟨q, hq1, q1, q2, q3⟩ := quo_facts l hl0
  rw [← hq1] at hq
  have q4 : ¬ n ≤ (q : Int) := by omega
  have n0 : ¬ n < 0 := by omega
  have h3 : ((l : Int) == 0) = false := by rw [beq_eq_false_iff_ne]; omega
  have h5 : ¬ (l : Int) = 0 := by omega
  clear hm hc hx h20 hT R Q hq1 hl0 hq
  go_enter Tryd.func4, Tryd.ntmps4
  go_wp2_with fail
  refine AW.out.mono ?_
  rintro e w1 ⟨rfl, c1⟩
  clear AW
  have ST1 := Lib.hid (ST.out w1)
  have C1 := Lib.hid c1
  clear ST c1
  go_wp2_with fail
  go_loopw [7, 8] (fun v7 v8 wr => ∃ i : Nat, v8 = .int .i64 (i : Int) ∧ i ≤ m ∧ Wi (prd (ls.take i)) w1 v7 wr ∧ Hid (∀ k, k < i → (ls.getD k []).length ≤ 20)) (fun _ v8 _ => m - (Lib.intOf v8).toNat)
  case atStart => exact ⟨0, rfl, Nat.zero_le _, ST1.out, Lib.hid fun k hk => absurd hk (Nat.not_lt_zero k)⟩
  case round =>
    obtain ⟨i, rfl, hi, V, HA⟩ := hrel
    clear ST1
    by_cases hlt : i < m
    · have i1 : (i : Int) < m := by omega
      obtain ⟨zs, A1, c1, e1, b1, MU⟩ := MN.out i hlt HA.out w1 _ wr V
      have D := C1.out.trans (b1.mono C1.out.size)
      obtain ⟨b, off, Ai, ci, rfl, hB, c, Ri, z⟩ := AT.out wr D i hlt
      have HL := Lib.hid (fun (h : (ls.getD i []).length ≤ 20) => show ∀ k, k < i + 1 → (ls.getD k []).length ≤ 20 from fun k hk => by
        rcases Nat.lt_or_ge k i with h2 | h2
        · exact HA.out k h2
        · obtain rfl : k = i := by omega
          exact h)
      have MU := Lib.hid (fun h => MU Ai ci h Ri)
      clear MN AT TO TM PR ZL V HA z Ri b1 PW 
      obtain ⟨L, hL⟩ : ∃ L, L = (ls.getD i []).length := ⟨_, rfl⟩
      rw [← hL] at c MU HL
      subst e1
      by_cases hL20 : L ≤ 20
      · have l1 : ¬ (20 : Int) < (L : Int) := by omega
        have MU2 := Lib.hid (MU.out hL20)
        have HL2 := Lib.hid (HL.out hL20)
        clear MU HL hL
        go_wp2_with fail
        refine MU2.out.mono ?_
        rintro e w2 ⟨v, rfl, V2⟩
        have V2 := Lib.hid V2
        clear MU2
        go_wp2_with fail
        go_roundw
        case rel => exact ⟨i + 1, rfl, by omega, V2.out, HL2⟩
        case measure => simp [Lib.intOf]; omega
      · have l1 : (20 : Int) < (L : Int) := by omega
        clear MU HL hL
        go_wp2
        exact bodyPost_ret (v := .bool true) (by simp [results, Tryd.results4, go_sem]) rfl ⟨rfl, D⟩
    · have i1 : ¬ (i : Int) < m := by omega
      obtain rfl : i = m := by omega
      rw [TM.out] at V
      obtain ⟨zs, A1, c1, rfl, n1, k1, R1, b1⟩ := wi_open V
      have D := C1.out.trans (b1.mono C1.out.size)
      have P2 := Lib.hid (PR.out wr D HA.out)
      have ZL2 := Lib.hid (ZL.out zs HA.out n1 k1)
      have N1 := Lib.hid n1
      have K1 := Lib.hid k1
      clear MN AT TO TM PR ZL V HA n1 k1 b1 C1
      go_wp2_with fail
      refine P2.out.mono ?_
      rintro e w2 ⟨us, A2, c2, n2, k2, rfl, R2, d2⟩
      have D2 := D.trans (d2.mono D.size)
      have R1 := R1.step d2
      have S1 := Lib.hid (fun W (R1 : Ws W W.heap.size A1 zs) (R2 : Ws W W.heap.size A2 us) => same_po N1.out K1.out n2 k2 ZL2.out A2 A1 c2 c1 W R2 R1)
      clear P2 N1 K1 n2 k2 ZL2 D d2
      go_wp2_with fail
      refine (PW.out _).mono ?_
      rintro e w3 ⟨rfl, rfl⟩
      have S3 := Lib.hid (S1.out _ R1 R2)
      clear PW S1 R1 R2
      go_wp2_with fail
      refine S3.out.mono ?_
      rintro e w4 ⟨rfl, d4⟩
      have D4 := D2.trans (d4.mono D2.size)
      clear S3 d4 D2
      go_wp2
      go_ret
      exact ⟨by simp [go_sem], D4⟩
set_option maxHeartbeats 2000000 in
set_option maxRecDepth 100000 in
theorem walk_in (A B : Option Addr) (cm cb m l : Nat) (ls : List (List Nat)) (xs : List Nat) (n : Nat) (hn : n ≤ 6) (hm : ls.length = m) (hc : m ≤ cm) (hx : xs.length = l) (h4 : m ≤ 4) (h20 : l ≤ 20) (w : World) (hT : Ft.Tab w) (R : Jn.Rj w w.heap.size A ls) (Q : Ws w w.heap.size B xs) :
    Calls Tryd.prog 4 #[.slice A m cm, .slice B l cb, .int .i64 (n : Int)] w fun e w' => e = .returned (.bool true) ∧ Below w.heap.size w w' := by
  have AW := Lib.hid (awake w hT)
  have ST := Lib.hid (fun W => show Wi (prd (ls.take 0)) W (.slice (some ⟨W.heap.size, 0, none⟩) 1 1) (W.alloc (.cells #[.int .u64 1] 32)) from po_one W _)
  have AT := Lib.hid (fun W (d : Below w.heap.size w W) i (hi : i < m) => (R.step d).at_ i (by omega))
  have TO := Lib.hid (fun i (hi : i ≤ m) h => tot20 ls i (by omega) h)
  have MN := Lib.hid (fun i (hi : i < m) (hall : ∀ k, k < i → (ls.getD k []).length ≤ 20) w1 v W (hv : Wi (prd (ls.take i)) w1 v W) => show ∃ (zs : List Nat) (A1 : Option Addr) (c1 : Nat), v = .slice A1 zs.length c1 ∧ Below w1.heap.size w1 W ∧ ∀ A2 c2, (ls.getD i []).length ≤ 20 → Ws W W.heap.size A2 (ls.getD i []) →
      Calls Tryd.prog 14 #[.slice A1 zs.length c1, .slice A2 (ls.getD i []).length c2] W fun e w' => ∃ v, e = .returned v ∧ Wi (prd (ls.take (i + 1))) w1 v w' from by
    obtain ⟨zs, A1, c1, e, n1, k1, R1, b1⟩ := wi_open hv
    refine ⟨zs, A1, c1, e, b1, fun A2 c2 hl R2 => mul_next W zs _ A1 A2 c1 c2 k1 ?_ (by omega) (fun j => by rw [take_next ls i (by omega)]) b1 R1 R2⟩
    have := TO.out i (by omega) hall
    have : (ls.take i).flatten.length ≤ 20 * i := this
    have := Pn.Nf.short n1 (20 * i + 1) fun j hj => by rw [k1 j, prd_far _ j (by omega), Nat.zero_mod]
    omega)
  have TM := Lib.hid (show ls.take m = ls by rw [← hm]; exact List.take_length)
  have PR := Lib.hid (fun W (d : Below w.heap.size w W) (hall : ∀ k, k < m → (ls.getD k []).length ≤ 20) => show Calls Tryd.prog 15 #[.slice A m cm] W (PoT (prd ls) W) from by
    have h := TO.out m (by omega) hall
    have h : (ls.take m).flatten.length ≤ 20 * m := h
    rw [TM.out] at h
    exact product A m cm ls hm hc (by omega) (by omega) W (hT.below d) (R.step d))
  have ZL := Lib.hid (fun (zs : List Nat) (hall : ∀ k, k < m → (ls.getD k []).length ≤ 20) (n1 : Pn.Nf 18446744069414584321 zs) (k1 : ∀ i, Pn.pl zs i = prd ls i % 18446744069414584321) => show zs.length ≤ 524288 from by
    have h := TO.out m (by omega) hall
    have h : (ls.take m).flatten.length ≤ 20 * m := h
    rw [TM.out] at h
    have := Pn.Nf.short n1 (20 * m + 1) fun j hj => by rw [k1 j, prd_far _ j (by omega), Nat.zero_mod]
    omega)
  have h1 : ¬ (4 : Int) < (m : Int) := by omega
  have h2 : ¬ (20 : Int) < (l : Int) := by omega
  have PW := Lib.hid (fun W (d : Below w.heap.size w W) => show Calls Tryd.prog 16 #[.slice B l cb, .int .i64 (n : Int)] W (PoT (pw (Pn.pl xs) n) W) from by
    rcases Nat.eq_zero_or_pos n with hn0 | hn0
    · subst hn0
      exact power_zero B l cb W
    rcases Nat.eq_zero_or_pos l with hl0 | hl0
    · subst hl0
      exact power_none B cb n xs hx hn0 W (Q.step d)
    · exact power_in B l cb n xs hx hl0 hn0 (Nat.le_trans (Nat.mul_le_mul hn h20) (by decide)) W (hT.below d) (Q.step d))
  have S2 := Lib.hid (fun W => show Wi (pw (Pn.pl xs) 0) W (.slice (some ⟨W.heap.size, 0, none⟩) 1 1) (W.alloc (.cells #[.int .u64 1] 32)) from po_one W _)
  have PF := fun i => pw_far (Pn.pl xs) 19 (fun j hj => Pn.pl_far xs j (by omega)) i
  have M2 := Lib.hid (fun i (hi : i < n) w1 v W (dw : Below w.heap.size w w1) (hv : Wi (pw (Pn.pl xs) i) w1 v W) => show ∃ (zs : List Nat) (A1 : Option Addr) (c1 : Nat), v = .slice A1 zs.length c1 ∧ Calls Tryd.prog 14 #[.slice A1 zs.length c1, .slice B l cb] W fun e w' => ∃ v, e = .returned v ∧ Wi (pw (Pn.pl xs) (i + 1)) w1 v w' from by
    obtain ⟨zs, A1, c1, e, n1, k1, R1, b1⟩ := wi_open hv
    have zl := Pn.Nf.short n1 (i * 19 + 1) fun j hj => by rw [k1 j, PF i j (by omega), Nat.zero_mod]
    have C := mul_next (d := pw (Pn.pl xs) (i + 1)) W zs xs A1 B c1 cb k1 (by omega) (by omega) (fun j => rfl) b1 R1 (Q.step (dw.trans (b1.mono dw.size)))
    rw [hx] at C
    exact ⟨zs, A1, c1, e, C⟩)
  have Z2 := Lib.hid (fun (zs : List Nat) (n1 : Pn.Nf 18446744069414584321 zs) (k1 : ∀ i, Pn.pl zs i = pw (Pn.pl xs) n i % 18446744069414584321) => show zs.length ≤ 524288 from by
    have := Pn.Nf.short n1 (n * 19 + 1) fun j hj => by rw [k1 j, PF n j (by omega), Nat.zero_mod]
    omega)
  have n6 : ¬ (6 : Int) < (n : Int) := by omega
  have n0 : ¬ (n : Int) < 0 := by omega
  clear hm hc hx h20 hT R Q PF
  go_enter Tryd.func4, Tryd.ntmps4
  go_wp2_with fail
  refine AW.out.mono ?_
  rintro e w1 ⟨rfl, c1⟩
  clear AW
  have ST1 := Lib.hid (ST.out w1)
  have C1 := Lib.hid c1
  clear ST c1
  go_wp2_with fail
  go_loopw [7, 8] (fun v7 v8 wr => ∃ i : Nat, v8 = .int .i64 (i : Int) ∧ i ≤ m ∧ Wi (prd (ls.take i)) w1 v7 wr ∧ Hid (∀ k, k < i → (ls.getD k []).length ≤ 20)) (fun _ v8 _ => m - (Lib.intOf v8).toNat)
  case atStart => exact ⟨0, rfl, Nat.zero_le _, ST1.out, Lib.hid fun k hk => absurd hk (Nat.not_lt_zero k)⟩
  case round =>
    obtain ⟨i, rfl, hi, V, HA⟩ := hrel
    clear ST1
    by_cases hlt : i < m
    · have i1 : (i : Int) < m := by omega
      obtain ⟨zs, A1, c1, e1, b1, MU⟩ := MN.out i hlt HA.out w1 _ wr V
      have D := C1.out.trans (b1.mono C1.out.size)
      obtain ⟨b, off, Ai, ci, rfl, hB, c, Ri, z⟩ := AT.out wr D i hlt
      have HL := Lib.hid (fun (h : (ls.getD i []).length ≤ 20) => show ∀ k, k < i + 1 → (ls.getD k []).length ≤ 20 from fun k hk => by
        rcases Nat.lt_or_ge k i with h2 | h2
        · exact HA.out k h2
        · obtain rfl : k = i := by omega
          exact h)
      have MU := Lib.hid (fun h => MU Ai ci h Ri)
      clear MN AT TO TM PR ZL V HA z Ri b1 PW S2 M2 Z2
      obtain ⟨L, hL⟩ : ∃ L, L = (ls.getD i []).length := ⟨_, rfl⟩
      rw [← hL] at c MU HL
      subst e1
      by_cases hL20 : L ≤ 20
      · have l1 : ¬ (20 : Int) < (L : Int) := by omega
        have MU2 := Lib.hid (MU.out hL20)
        have HL2 := Lib.hid (HL.out hL20)
        clear MU HL hL
        go_wp2_with fail
        refine MU2.out.mono ?_
        rintro e w2 ⟨v, rfl, V2⟩
        have V2 := Lib.hid V2
        clear MU2
        go_wp2_with fail
        go_roundw
        case rel => exact ⟨i + 1, rfl, by omega, V2.out, HL2⟩
        case measure => simp [Lib.intOf]; omega
      · have l1 : (20 : Int) < (L : Int) := by omega
        clear MU HL hL
        go_wp2
        exact bodyPost_ret (v := .bool true) (by simp [results, Tryd.results4, go_sem]) rfl ⟨rfl, D⟩
    · have i1 : ¬ (i : Int) < m := by omega
      obtain rfl : i = m := by omega
      rw [TM.out] at V
      obtain ⟨zs, A1, c1, rfl, n1, k1, R1, b1⟩ := wi_open V
      have D := C1.out.trans (b1.mono C1.out.size)
      have P2 := Lib.hid (PR.out wr D HA.out)
      have ZL2 := Lib.hid (ZL.out zs HA.out n1 k1)
      have N1 := Lib.hid n1
      have K1 := Lib.hid k1
      clear MN AT TO TM PR ZL V HA n1 k1 b1 C1
      go_wp2_with fail
      refine P2.out.mono ?_
      rintro e w2 ⟨us, A2, c2, n2, k2, rfl, R2, d2⟩
      have D2 := D.trans (d2.mono D.size)
      have R1 := R1.step d2
      have S1 := Lib.hid (fun W (R1 : Ws W W.heap.size A1 zs) (R2 : Ws W W.heap.size A2 us) => same_po N1.out K1.out n2 k2 ZL2.out A2 A1 c2 c1 W R2 R1)
      clear P2 N1 K1 n2 k2 ZL2 D d2
      go_wp2_with fail
      refine (PW.out w2 D2).mono ?_
      rintro e w3 ⟨ps, A3, c3, n3, k3, rfl, R3, d3⟩
      have D3 := D2.trans (d3.mono D2.size)
      have S3 := Lib.hid (S1.out _ (R1.step d3) (R2.step d3))
      have N3 := Lib.hid n3
      have K3 := Lib.hid k3
      clear PW S1 R1 R2 d3 D2 n3 k3
      go_wp2_with fail
      refine S3.out.mono ?_
      rintro e w4 ⟨rfl, d4⟩
      have D4 := Lib.hid (D3.trans (d4.mono D3.size))
      have R4 := R3.step d4
      have ST4 := Lib.hid (S2.out w4)
      clear S3 d4 D3 R3 S2
      go_wp2_with fail
      go_loopw [7, 13] (fun v7 v13 wr => ∃ i : Nat, v13 = .int .i64 (i : Int) ∧ i ≤ n ∧ Wi (pw (Pn.pl xs) i) w4 v7 wr) (fun _ v13 _ => n - (Lib.intOf v13).toNat)
      case atStart => exact ⟨0, rfl, Nat.zero_le _, ST4.out⟩
      case round =>
        obtain ⟨i, rfl, hi, V⟩ := hrel
        clear ST4
        by_cases hlt : i < n
        · have i1 : (i : Int) < n := by omega
          obtain ⟨zs, A1, c1, e1, MU⟩ := M2.out i hlt w4 _ wr D4.out V
          have MU := Lib.hid MU
          clear M2 V Z2 N3 K3 R4
          subst e1
          go_wp2_with fail
          refine MU.out.mono ?_
          rintro e w5 ⟨v, rfl, V2⟩
          have V2 := Lib.hid V2
          clear MU
          go_wp2_with fail
          go_roundw
          case rel => exact ⟨i + 1, rfl, by omega, V2.out⟩
          case measure => simp [Lib.intOf]; omega
        · have i1 : ¬ (i : Int) < n := by omega
          obtain rfl : i = n := by omega
          obtain ⟨zs, A1, c1, rfl, n1, k1, R1, b1⟩ := wi_open V
          have D5 := D4.out.trans (b1.mono D4.out.size)
          have S5 := Lib.hid (same_po n1 k1 N3.out K3.out (Z2.out zs n1 k1) A3 A1 c3 c1 wr (R4.step b1) R1)
          clear V M2 Z2 N3 K3 R4 n1 k1 R1 b1 D4
          go_wp2_with fail
          refine S5.out.mono ?_
          rintro e w6 ⟨rfl, d6⟩
          have D6 := D5.trans (d6.mono D5.size)
          clear S5 d6 D5
          go_wp2
          go_ret
          exact ⟨by simp [go_sem], D6⟩
theorem walk (A B : Option Addr) (cm cb m l : Nat) (ls : List (List Nat)) (xs : List Nat) (n : Int) (hm : ls.length = m) (hc : m ≤ cm) (hx : xs.length = l) (w : World) (hT : Ft.Tab w) (R : Jn.Rj w w.heap.size A ls) (Q : Ws w w.heap.size B xs) :
    Calls Tryd.prog 4 #[.slice A m cm, .slice B l cb, .int .i64 n] w fun e w' => e = .returned (.bool true) ∧ Below w.heap.size w w' := by
  by_cases h1 : 4 < m
  · exact walk_rows A B cm cb m l n h1 w hT
  by_cases h2 : 20 < l
  · exact walk_long A B cm cb m l n (by omega) h2 w hT
  by_cases h3 : 6 < n
  · by_cases h4 : l = 0
    · exact walk_none A B cm cb m l n (by omega) h4 h3 w hT
    · by_cases h5 : n ≤ ((524288 / l : Nat) : Int)
      · exact walk_few A B cm cb m l n (by omega) (Nat.pos_of_ne_zero h4) (by omega) h3 h5 w hT
      · exact walk_large A B cm cb m l ls xs n (Nat.pos_of_ne_zero h4) h3 (Int.lt_of_not_ge h5) hm hc hx (by omega) (by omega) w hT R Q
  · by_cases h4 : n < 0
    · exact walk_neg A B cm cb m l ls xs n h4 hm hc hx (by omega) (by omega) w hT R Q
    · obtain ⟨k, rfl⟩ := Int.eq_ofNat_of_zero_le (show 0 ≤ n by omega)
      exact walk_in A B cm cb m l ls xs k (by omega) hm hc hx (by omega) (by omega) w hT R Q

theorem g32 : Tryd.prog.globalNamed "math/bits.deBruijn32tab" = some 0 := by kernel_rfl
theorem g64 : Tryd.prog.globalNamed "math/bits.deBruijn64tab" = some 1 := by kernel_rfl
theorem t64 : (Tryd.prog.globals[1]?).map (·.type) = some 91 := by kernel_rfl
/-- What the row's condition gives the walk: the table's cells. -/
theorem of_laid {W : World} (h : laidMetH Tryd.prog Rows.convMulsRow.laid W) : Ft.Tab W := by
  rw [MakeChecks.laidMetH_plain _ _ _ (by kernel_rfl)] at h
  obtain ⟨ps, ⟨g0, t0, cs0, f0, p0, q0, hg0, ht0, hv0, hd0, ⟨g1, t1, cs1, f1, p1, q1, hg1, ht1, hv1, hd1, _, _⟩, _⟩, _, _⟩ := h
  obtain rfl := Option.some.inj (g64.symm.trans hg1)
  obtain rfl := Option.some.inj (t64.symm.trans ht1)
  have hd2 : DataW.trod _ Tryd.prog W 0 _ false f1 91 cs1.toList = some (Lib.tabData .u8 (Lib.deBruijn64tab.map Int.ofNat), p1) := hd1
  have hc := Lib.cells_of_tab Tryd.underlying91 Tryd.underlying5 (by kernel_rfl) (by kernel_rfl) hd2
  intro i hi
  have c := World.var?_cell hg1 hv1 i
  rw [c, ← Array.getElem?_toList, hc]
  have hl : Lib.deBruijn64tab.length = 64 := by decide
  simp [List.getD, hl, hi]

/-- The door's own heap meets the condition. -/
theorem door_met (os : Os) (args : Array Value) : laidMetH Tryd.prog Rows.convMulsRow.laid ((World.doorLaid Tryd.prog 400 os).forCall (fun _ _ => 0) ⟨#[], args, []⟩).memory :=
  laidMetH_of_parts3 (fuel := 8) (laidMet_of_run' 8 (by kernel_rfl) (by kernel_rfl)) (by kernel_rfl) (by kernel_rfl)
set_option maxRecDepth 100000 in
theorem lifted (os : Os) (started : os.Started) (H : Type) (enc : TypeId × Value → H) :
    ReturnsInHanded {} Tryd.checked os 4 .any (fun w args => (Rows.convMulsSpec.pre enc Tryd.prog Tryd.f4 [] false w args ∧ laidMetH Tryd.prog Rows.convMulsRow.laid w) ∧ sizedMet enc Tryd.prog Tryd.f4 (OpenSpec.ofChange Rows.convMulsSpec) false w args)
      (Rows.convMulsSpec.post enc Tryd.prog Tryd.f4 false true false false) := by
  refine returnsInHanded_of_change_and (C := Tryd.checked) (X := fun w _ => laidMetH Tryd.prog Rows.convMulsRow.laid w) (fun _ _ _ hh h => h.of_heap hh) Fr.own started (by kernel_rfl) Tryd.func4
    (ChangeSpec.witness_shaped (enc := enc) (C := Tryd.checked) (os := os) (X := fun w _ => laidMetH Tryd.prog Rows.convMulsRow.laid w) false (World.doorLaid Tryd.prog 400 os) #[.slice none 0 0, .slice none 0 0, .int .i64 0] 8 rfl (World.shaped_of_RefB (by kernel_rfl) (by kernel_rfl)) (by kernel_rfl) (by kernel_rfl) (by kernel_rfl) (door_met os _)) ?_
  intro W base args ds gs before hval0 hW _ _ hL _
  have hval : ∀ (j : Nat) t v, Tryd.f4.params[j]? = some t → args[j]? = some v → Value.okWide Tryd.prog W .any base t v := hval0
  have hW' := hW
  obtain ⟨p, q, hA0, hV, rfl, hfz, hnd⟩ := hW
  have hA : DataW.TrodAll enc Tryd.prog W 0 (fun _ => true) true Tryd.f4.params.toList args.toList ds p := hA0
  obtain ⟨rfl, rfl⟩ := trodVars_none hV
  rw [Tryd.params4] at hA hval
  obtain ⟨v0, vs0, d0, ds0, p0, q0, hargs, rfl, rfl, h0, r0⟩ := trodAll_cons hA
  obtain ⟨v1, vs1, d1, ds1, p1, q1, rfl, rfl, rfl, h1, r1⟩ := trodAll_cons r0
  obtain ⟨v2, vs2, d2, ds2, p2, q2, rfl, rfl, rfl, h2, r2⟩ := trodAll_cons r1
  obtain ⟨rfl, rfl, rfl⟩ := trodAll_nil r2
  obtain rfl : args = #[v0, v1, v2] := by cases args; simp_all
  obtain ⟨A0, n0, c0, rfl⟩ := okWide_slice Tryd.underlying31 (hval 0 31 v0 rfl rfl)
  obtain ⟨fuel0, hf0⟩ := h0
  obtain ⟨xs0, rfl, lm0, R0⟩ := Pt.open_rows hf0
  obtain ⟨A1, n1, c1, rfl⟩ := okWide_slice Tryd.underlying22 (hval 1 22 v1 rfl rfl)
  obtain ⟨fuel1, hf1⟩ := h1
  obtain ⟨xs1, rfl, lc1, lm1, R1⟩ := Ww.open_words hf1
  obtain ⟨x2, rfl, rfl, rfl, w2⟩ := open_int Tryd.underlying3 (hval 2 3 v2 rfl rfl) h2
  have b2 : -9223372036854775808 ≤ x2 ∧ x2 ≤ 9223372036854775807 := by simpa [Lit.wf, IntKind.min, IntKind.max, IntKind.signed, IntKind.bits] using w2
  simp only [List.append_nil] at hW' hA0
  refine (walk A0 A1 c0 c1 xs0.length xs1.length xs0 xs1 x2 rfl (Pt.rows_cap hf0) rfl W (of_laid hL) R0 R1).mono fun e W' ⟨he, hb⟩ => ?_
  subst he
  exact ⟨_, rfl, Fr.law_post (tb := 4) hW' hA0 rfl rfl rfl Tryd.underlying4 (by rw [Tryd.params4]; intro t ht; simp at ht; rcases ht with rfl | rfl | rfl; all_goals exact ⟨by kernel_rfl, of_decide_eq_true (by kernel_rfl)⟩) hb⟩

theorem row_holds : Rows.ConvMulsSaid :=
  OpenClaim.holds_of_wide 4 Tryd.f4 rfl rfl rfl rfl rfl rfl rfl ⟨rfl, rfl, rfl, rfl, rfl⟩ rfl rfl rfl rfl rfl (by kernel_rfl) Tryd.func4 (by kernel_rfl)
    (of_decide_eq_true (by kernel_rfl)) (by unfold Func.isWrapper; first | (rw [if_pos (by decide +kernel)]; kernel_rfl) | (rw [if_neg (by decide +kernel)]; exact ⟨rfl, rfl⟩))
    (fun os started H enc _ => lifted os started H enc)

theorem proved : Rows.ConvMulsCardSaid :=
  Claim7.holds_tied_plain_at .later [] [.data, .data] true Rows.convMulsCard.stood.harness false
    row_holds (fun _ h => by cases h) (by kernel_rfl) (fun _ h => by cases h) convMuls_row_tie rfl ⟨rfl, rfl⟩ (by kernel_rfl) rfl
    (fun f fn hf hfn => by
      obtain rfl : f = 4 := Option.some.inj ((show Tryd.prog.funcNamed "abacist/abacistlaw13.ConvMuls" = some 4 by kernel_rfl).symm.trans hf) |>.symm
      obtain rfl : fn = Tryd.f4 := (Option.some.inj (Tryd.func4.symm.trans hfn)).symm
      exact ⟨by kernel_rfl, fun j t ht => by
        rw [Tryd.params4] at ht
        have hm : t ∈ [31, 22, 3] := by simpa using Array.mem_of_getElem? ht
        have hall : ([31, 22, 3].all fun u => !Tryd.prog.wantsStandIn u) = true := by kernel_rfl
        exact (show Tryd.prog.wantsStandIn t = false by simpa using List.all_eq_true.1 hall t hm)⟩)
    (by kernel_rfl)
end Go.Proofs.YtnnieiedkjekpaaDoor.convMuls
