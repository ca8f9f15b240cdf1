/- Rows that calls answer, as polynomials; contracts of the document's own functions of polynomials: get, Trim, At, Add, Mul, Scale, Derive. -/
import Derived.Test.YtnnieiedkjekpaaDoorPolyR
import Derived.Test.YtnnieiedkjekpaaDoorGoldP
import Derived.Test.YtnnieiedkjekpaaDoorRowG
import Derived.Test.YtnnieiedkjekpaaDoorSame
set_option linter.unusedVariables false
namespace Go.Proofs.YtnnieiedkjekpaaDoor
open Go.RowKit Go.Lib
namespace Pl
open Ww Pn Nt

/-- A polynomial that a call answers: trimmed, canonical, told by its coefficients. -/
def Po (c : Nat → Nat) (w : World) (e : Ending) (w' : World) : Prop :=
  ∃ zs A cap, Nf 18446744069414584321 zs ∧ (∀ i, pl zs i = c i % 18446744069414584321) ∧ e = .returned (.slice A zs.length cap) ∧ Ws w' w'.heap.size A zs ∧ Below w.heap.size w w'
theorem tr_rg (m : Nat) (xs : List Nat) : tr m xs = rg (fun i => pl xs i % m) (tr m xs).length := by rw [tr_len]; rfl
theorem nf64 {zs : List Nat} (h : Nf 18446744069414584321 zs) (i : Nat) (_ : i < zs.length) : zs.getD i 0 < 18446744073709551616 := Nat.lt_trans (h.lt i) (by decide)
theorem Po.of_row {c : Nat → Nat} {zs : List Nat} {w w' : World} {e : Ending} (hn : Nf 18446744069414584321 zs) (hc : ∀ i, pl zs i = c i % 18446744069414584321) (h : Row zs w e w') : Po c w e w' := by
  obtain ⟨A, cap, h1, h2, h3⟩ := h
  exact ⟨zs, A, cap, hn, hc, h1, h2, h3⟩
/-- A row of n words, trimmed, is the polynomial c, if it has c's coefficients and c has none behind. -/
theorem Po.of_tr {c g : Nat → Nat} {n : Nat} {w w' : World} {e : Ending} (h1 : ∀ i, i < n → g i % 18446744069414584321 = c i % 18446744069414584321) (h2 : ∀ i, n ≤ i → c i % 18446744069414584321 = 0)
    (h : Row (tr 18446744069414584321 (rg g n)) w e w') : Po c w e w' :=
  Po.of_row (tr_nf (by decide) _) (fun i => by
    rw [pl_tr]
    by_cases hi : i < n
    · rw [pl_rg g n i hi, h1 i hi]
    · rw [pl_far _ i (by rw [rg_len]; omega), h2 i (by omega), Nat.zero_mod]) h
theorem Po.mod {c d : Nat → Nat} {w w' : World} {e : Ending} (hcd : ∀ i, c i % 18446744069414584321 = d i % 18446744069414584321) (h : Po c w e w') : Po d w e w' := by
  obtain ⟨zs, A, cap, h1, h2, h3⟩ := h
  exact ⟨zs, A, cap, h1, fun i => (h2 i).trans (hcd i), h3⟩

/- The document's own functions. -/
set_option maxHeartbeats 400000 in
theorem get_in (A : Option Addr) (ca : Nat) (xs : List Nat) (i : Nat) (hi : i < xs.length) {B : Nat} (w : World) (R : Ws w B A xs) :
    Calls Tryd.prog 31 #[.slice A xs.length ca, .int .i64 (i : Int)] w fun e w' => e = .returned (.int .u64 (pl xs i : Nat)) ∧ w = w' := by
  have i0 : (0 : Int) ≤ i := by omega
  have i1 : (i : Int) < xs.length := by omega
  obtain ⟨b, off, rfl, hB, c⟩ := R.at_ i hi
  have c2 : w.cell? ⟨b, off + i, none⟩ = some (.int .u64 (pl xs i : Nat)) := c
  clear c R
  generalize pl xs i = v at *
  go_enter Tryd.func31, Tryd.ntmps31
  go_wp2
  go_ret
  exact ⟨rfl, rfl⟩
set_option maxHeartbeats 400000 in
theorem get_low (A : Option Addr) (n ca : Nat) (z : Int) (hz : z < 0) (w : World) :
    Calls Tryd.prog 31 #[.slice A n ca, .int .i64 z] w fun e w' => e = .returned (.int .u64 0) ∧ w = w' := by
  have i0 : ¬ (0 : Int) ≤ z := by omega
  clear hz
  go_enter Tryd.func31, Tryd.ntmps31
  go_wp2
  go_ret
  exact ⟨rfl, rfl⟩
set_option maxHeartbeats 400000 in
theorem get_far (A : Option Addr) (n ca : Nat) (i : Nat) (hi : n ≤ i) (w : World) :
    Calls Tryd.prog 31 #[.slice A n ca, .int .i64 (i : Int)] w fun e w' => e = .returned (.int .u64 0) ∧ w = w' := by
  have i0 : (0 : Int) ≤ i := by omega
  have i1 : ¬ (i : Int) < n := by omega
  clear hi
  go_enter Tryd.func31, Tryd.ntmps31
  go_wp2
  go_ret
  exact ⟨rfl, rfl⟩
theorem get (A : Option Addr) (ca : Nat) (xs : List Nat) (i : Nat) {B : Nat} (w : World) (R : Ws w B A xs) :
    Calls Tryd.prog 31 #[.slice A xs.length ca, .int .i64 (i : Int)] w fun e w' => e = .returned (.int .u64 (pl xs i : Nat)) ∧ w = w' := by
  by_cases h : i < xs.length
  · exact get_in A ca xs i h w R
  · rw [pl_far xs i (by omega)]
    exact get_far A xs.length ca i (by omega) w
/-- What a row has at i - k, if it has such a place. -/
theorem get_less (A : Option Addr) (ca : Nat) (xs : List Nat) (i k : Nat) {B : Nat} (w : World) (R : Ws w B A xs) :
    Calls Tryd.prog 31 #[.slice A xs.length ca, .int .i64 ((i : Int) - k)] w fun e w' => e = .returned (.int .u64 ((if k ≤ i then pl xs (i - k) else 0 : Nat) : Int)) ∧ w = w' := by
  by_cases h : k ≤ i
  · rw [if_pos h, show (i : Int) - k = ((i - k : Nat) : Int) by omega]
    exact get A ca xs (i - k) w R
  · rw [if_neg h]
    exact get_low A xs.length ca _ (by omega) w

theorem dg_succ (m : Nat) (xs : List Nat) (k : Nat) : dg m xs (k + 1) = if pl xs k % m ≠ 0 then k + 1 else dg m xs k := rfl
set_option maxHeartbeats 1000000 in
set_option maxRecDepth 100000 in
theorem rtrim_out (A : Option Addr) (ca : Nat) (xs : List Nat) (hn : xs.length ≤ 1048576) (w : World) (R : Ws w w.heap.size A xs) :
    Calls Tryd.prog 32 #[.slice A xs.length ca] w (Out (tr 18446744069414584321 xs) w) := by
  have N0 := Lib.hid (Ow.nil_ w w.heap.size)
  have TR := Lib.hid (tr_rg 18446744069414584321 xs)
  have TL := Lib.hid (tr_len 18446744069414584321 xs)
  have DS := Lib.hid (dg_succ 18446744069414584321 xs)
  have DL := Lib.hid (dg_le 18446744069414584321 xs)
  have D0 := Lib.hid (show 0 = dg 18446744069414584321 xs 0 from rfl)
  obtain ⟨G, hG⟩ : ∃ G : Nat → Nat, G = fun i => pl xs i % 18446744069414584321 := ⟨_, rfl⟩
  have Gi : ∀ i, pl xs i % 18446744069414584321 = G i := fun i => by rw [hG]
  rw [← hG] at TR
  have OF := Lib.hid (fun i W => Gr.of (pl xs i) W)
  simp only [Gi] at OF DS
  clear hG Gi
  generalize dg 18446744069414584321 xs = dgx at *
  generalize tr 18446744069414584321 xs = zs at *
  go_enter Tryd.func32, Tryd.ntmps32
  go_wp2_with fail
  go_loop [3, 4] (fun v3 v4 => ∃ i n : Nat, v4 = .int .i64 (i : Int) ∧ v3 = .int .i64 (n : Int) ∧ i ≤ xs.length ∧ n = dgx i) (fun _ v4 => xs.length - (Lib.intOf v4).toNat)
  case atStart => exact ⟨0, 0, rfl, rfl, Nat.zero_le _, D0.out⟩
  case round =>
    obtain ⟨i, n, rfl, rfl, hi, hn2⟩ := hrel
    by_cases hlt : i < xs.length
    · have i1 : (i : Int) < xs.length := by omega
      obtain ⟨b, off, rfl, hB, c⟩ := R.at_ i hlt
      have c2 : w.cell? ⟨b, off + i, none⟩ = some (.int .u64 (pl xs i : Nat)) := c
      have O := Lib.hid (OF.out i)
      have dn := DS.out i
      clear c
      generalize pl xs i = x at *
      generalize G i = g at *
      by_cases hg : g = 0
      · rw [hg] at O
        rw [if_neg (by rw [hg]; simp)] at dn
        have H2 := Lib.hid (hn2.trans dn.symm)
        clear dn hn2 hg
        go_wp2_with fail
        refine (O.out _).mono ?_
        rintro e w1 ⟨rfl, rfl⟩
        go_wp2_with fail
        go_round
        case rel => exact ⟨i + 1, n, rfl, rfl, by omega, H2.out⟩
        case measure => simp [Lib.intOf]; omega
      · have g0 : ((g : Int) != 0) = true := by simp; omega
        rw [if_pos hg] at dn
        have H2 := Lib.hid dn.symm
        clear dn hn2 hg
        go_wp2_with fail
        refine (O.out _).mono ?_
        rintro e w1 ⟨rfl, rfl⟩
        go_wp2_with fail
        go_round
        case rel => exact ⟨i + 1, i + 1, rfl, rfl, by omega, H2.out⟩
        case measure => simp [Lib.intOf]; omega
    · have i1 : ¬ (i : Int) < xs.length := by omega
      obtain rfl : i = xs.length := by omega
      have HN := Lib.hid hn2
      have nle : n ≤ xs.length := by rw [hn2]; exact DL.out _
      clear hn2 D0
      go_wp2_with fail
      go_loopw [5, 6] (fun v5 v6 wr => ∃ i : Nat, v6 = .int .i64 (i : Int) ∧ i ≤ n ∧ Ow wr w.heap.size v5 (rg G i) ∧ Below w.heap.size w wr ∧ Ws wr w.heap.size A xs) (fun _ v6 _ => n - (Lib.intOf v6).toNat)
      case atStart => exact ⟨0, rfl, Nat.zero_le _, N0.out, Below.refl _ _, R⟩
      case round =>
        obtain ⟨k, rfl, hk, O, hbl, R1⟩ := hrel
        clear N0
        by_cases hlt : k < n
        · have k1 : (k : Int) < n := by omega
          have k2 : (k : Int) < xs.length := by omega
          obtain ⟨b, off, rfl, hB, c⟩ := R1.at_ k (by omega)
          have c2 : wr.cell? ⟨b, off + k, none⟩ = some (.int .u64 (pl xs k : Nat)) := c
          have OF1 := Lib.hid (OF.out k)
          have S := Lib.hid (rg_succ G k)
          have L := Lib.hid (rg_len G k)
          clear c
          generalize pl xs k = x at *
          generalize G k = p at *
          go_wp2_with fail
          refine (OF1.out _).mono ?_
          rintro e w1 ⟨rfl, rfl⟩
          go_wp2_with (at_builtin; go_loud (refine append1 (wr.alloc (.cells #[.int .u64 p] 32)) ?hgd (.tmp 26) (.tmp 32) ?ho w.heap.size u5 (rg G k) ?hs (O.alloc _) wr.heap.size p ?hx (cut1 _ _ _) ?c1 ?c2 (fun v6 w1 O1 hg => ?_)); (case hgd => rfl); (case ho => rfl); (case hs => rfl); (case hx => rfl))
          case c1 => rw [L.out]; omega
          case c2 => have := hbl.size; simp; omega
          rw [S.out] at O1
          have b1 := (O.alloc _).grow (hbl.alloc hbl.size _) hg (by have := hbl.size; simp; omega)
          go_wp2_with fail
          go_roundw
          case rel => exact ⟨k + 1, rfl, by omega, O1, b1, R.below b1⟩
          case measure => simp [Lib.intOf]; omega
        · have k1 : ¬ (k : Int) < n := by omega
          obtain rfl : k = n := by omega
          have E : zs = rg G k := by rw [TR.out, TL.out, HN.out]
          rw [E]
          go_wp2
          exact bodyPost_ret (v := u5) (by simp [results, Tryd.results32, go_sem]) rfl (Out.mk_ O hbl)
theorem rtrim (A : Option Addr) (ca : Nat) (xs : List Nat) (hn : xs.length ≤ 1048576) (w : World) (R : Ws w w.heap.size A xs) :
    Calls Tryd.prog 32 #[.slice A xs.length ca] w (Row (tr 18446744069414584321 xs) w) :=
  (rtrim_out A ca xs hn w R).mono fun _ _ h => Row.of_out (nf64 (tr_nf (by decide) xs)) h
end Pl
end Go.Proofs.YtnnieiedkjekpaaDoor
