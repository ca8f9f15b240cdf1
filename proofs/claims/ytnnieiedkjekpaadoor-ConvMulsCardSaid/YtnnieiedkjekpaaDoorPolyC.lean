/- Contracts of package poly: Degree, Trim, At, Scale, Derive, DivLinear. -/
import Derived.Test.YtnnieiedkjekpaaDoorPolyB
import Derived.Lib.QuietBelow
set_option linter.unusedVariables false
namespace Go.Proofs.YtnnieiedkjekpaaDoor
open Go.RowKit Go.Lib Go.Sort
namespace Pl
open Ww Pn Nt


theorem dg_zero (m : Nat) (xs : List Nat) : dg m xs 0 = 0 := rfl
set_option maxHeartbeats 1000000 in
set_option maxRecDepth 100000 in
theorem degree (A : Option Addr) (ca : Nat) (xs : List Nat) (hn : xs.length ≤ 1048576) {B : Nat} (w : World) (R : Ws w B A xs) :
    Calls Tryd.prog 49 #[.slice A xs.length ca] w fun e w' => e = .returned (.int .i64 (((tr 18446744069414584321 xs).length : Int) - 1)) ∧ w = w' := by
  rw [tr_len]
  have DS := Lib.hid (dg_succ 18446744069414584321 xs)
  have D0 := Lib.hid (dg_zero 18446744069414584321 xs)
  have OF := Lib.hid (fun i (h : pl xs i < 18446744073709551616) W => Gd.of (pl xs i) h W)
  generalize dg 18446744069414584321 xs = dgx at *
  obtain ⟨r, hr⟩ : ∃ r : Int, r = (dgx xs.length : Int) - 1 := ⟨_, rfl⟩
  rw [← hr]
  have HR := Lib.hid hr
  clear hr
  go_enter Tryd.func49, Tryd.ntmps49
  go_wp2_with fail
  go_loop [3] (fun v3 => ∃ (k : Nat) (z : Int), v3 = .int .i64 z ∧ z = (k : Int) - 1 ∧ k ≤ xs.length ∧ dgx xs.length = dgx k) (fun v3 => (Lib.intOf v3 + 1).toNat)
  case atStart => exact ⟨xs.length, _, rfl, rfl, Nat.le_refl _, rfl⟩
  case round =>
    obtain ⟨k, z, rfl, hz, hk, hd⟩ := hrel
    have HD := Lib.hid hd
    clear hd
    cases k with
    | zero =>
      obtain rfl : z = -1 := by simpa using hz
      clear hz
      go_wp2
      go_ret
      exact ⟨by rw [show r = -1 by rw [HR.out, HD.out, D0.out]; rfl]; rfl, rfl⟩
    | succ j =>
      obtain rfl : z = (j : Int) := by simpa using hz
      have j0 : (0 : Int) ≤ j := by omega
      have j1 : (j : Int) < xs.length := by omega
      obtain ⟨b, off, rfl, hB, c⟩ := R.at_ j (by omega)
      have c2 : w.cell? ⟨b, off + j, none⟩ = some (.int .u64 (pl xs j : Nat)) := c
      have O := Lib.hid (OF.out j (R.lt j (by omega)))
      have dn := DS.out j
      clear c hz
      generalize pl xs j = x at *
      by_cases hg : x % 18446744069414584321 = 0
      · rw [hg] at O
        rw [if_neg (by rw [hg]; simp)] at dn
        have H2 := Lib.hid (HD.out.trans dn)
        clear dn hg
        go_wp2_with fail
        refine (O.out _).mono ?_
        rintro e w1 ⟨rfl, rfl⟩
        go_wp2_with fail
        go_round
        case rel => exact ⟨j, (j : Int) - 1, rfl, rfl, by omega, H2.out⟩
        case measure => simp [Lib.intOf]
      · have g0 : (((x % 18446744069414584321 : Nat) : Int) == 0) = false := by rw [beq_eq_false_iff_ne]; omega
        rw [if_pos hg] at dn
        have H2 := Lib.hid (HD.out.trans dn)
        clear dn hg
        generalize x % 18446744069414584321 = g at *
        go_wp2_with fail
        refine (O.out _).mono ?_
        rintro e w1 ⟨rfl, rfl⟩
        go_wp2
        go_ret
        exact ⟨by rw [show r = (j : Int) by rw [HR.out, H2.out]; omega]; rfl, rfl⟩

/-- What poly.Trim answers: a block of its own. -/
def TrOut (xs : List Nat) (w : World) (e : Ending) (w' : World) : Prop :=
  e = .returned (.slice (some ⟨w.heap.size, 0, none⟩) (tr 18446744069414584321 xs).length (tr 18446744069414584321 xs).length) ∧ Wk w' w.heap.size 0 (tr 18446744069414584321 xs).length (fun i => pl xs i % 18446744069414584321) ∧ w.heap.size < w'.heap.size ∧ Below w.heap.size w w'
theorem TrOut.ws {xs : List Nat} {w w' : World} {e : Ending} (h : TrOut xs w e w') : Ws w' w'.heap.size (some ⟨w.heap.size, 0, none⟩) (tr 18446744069414584321 xs) := by
  have := h.2.1.ws (fun i _ => mod64 _) h.2.2.1
  rw [show (List.range (tr 18446744069414584321 xs).length).map (fun i => pl xs i % 18446744069414584321) = tr 18446744069414584321 xs from (tr_rg _ xs).symm] at this
  exact this
theorem TrOut.row {xs : List Nat} {w w' : World} {e : Ending} (h : TrOut xs w e w') : Row (tr 18446744069414584321 xs) w e w' := ⟨_, _, h.1, h.ws, h.2.2.2⟩

set_option maxHeartbeats 1000000 in
set_option maxRecDepth 100000 in
theorem trim_out (A : Option Addr) (ca : Nat) (xs : List Nat) (hn : xs.length ≤ 1048576) (w : World) (R : Ws w w.heap.size A xs) :
    Calls Tryd.prog 34 #[.slice A xs.length ca] w (TrOut xs w) := by
  have DE := Lib.hid (degree A ca xs hn w R)
  have TL := tr_len_le 18446744069414584321 xs
  have OF := Lib.hid (fun i (h : pl xs i < 18446744073709551616) W => Gd.of (pl xs i) h W)
  have OUT := Lib.hid (fun (w' : World) (h : Bd (fun i => pl xs i % 18446744069414584321) (tr 18446744069414584321 xs).length w.heap.size w w' (fun j => j < (tr 18446744069414584321 xs).length)) =>
    show TrOut xs w (.returned (.slice (some ⟨w.heap.size, 0, none⟩) (tr 18446744069414584321 xs).length (tr 18446744069414584321 xs).length)) w' from ⟨rfl, h.wk (fun _ h => h), h.s, h.bel⟩)
  obtain ⟨G, hG⟩ : ∃ G : Nat → Nat, G = fun i => pl xs i % 18446744069414584321 := ⟨_, rfl⟩
  have Gi : ∀ i, pl xs i % 18446744069414584321 = G i := fun i => by rw [hG]
  rw [← hG] at OUT
  simp only [Gi] at OF
  clear hG Gi
  generalize (tr 18446744069414584321 xs).length = n at *
  have mk := make_words n (by omega) (by omega)
  obtain ⟨z, hz⟩ : ∃ z : Int, z = (n : Int) - 1 := ⟨_, rfl⟩
  rw [← hz] at DE
  have zw : IntKind.i64.wrap (z + 1) = (n : Int) := by rw [IntKind.wrap_i64]; omega
  clear hz
  have ST := Lib.hid (Bd.start (w := w) (w1 := w) (D := fun j => j < 0) G n (Below.refl _ _) 32 (fun j hj => by omega))
  go_enter Tryd.func34, Tryd.ntmps34
  go_wp2_with fail
  refine DE.out.mono ?_
  rintro e w1 ⟨rfl, rfl⟩
  go_wp2_with fail
  go_loopw [11] (fun v11 wr => ∃ i : Nat, v11 = .int .i64 (i : Int) ∧ i ≤ n ∧ Bd G n w.heap.size w wr (fun j => j < i)) (fun v11 _ => n - (Lib.intOf v11).toNat)
  case atStart => exact ⟨0, rfl, Nat.zero_le _, ST.out⟩
  case round =>
    obtain ⟨i, rfl, hi, BD⟩ := hrel
    clear ST mk
    by_cases hlt : i < n
    · have i1 : (i : Int) < n := by omega
      have i2 : (i : Int) < xs.length := by omega
      have R1 := R.below BD.bel
      obtain ⟨b, off, rfl, hB, c⟩ := R1.at_ i (by omega)
      have c2 : wr.cell? ⟨b, off + i, none⟩ = some (.int .u64 (pl xs i : Nat)) := c
      have O := Lib.hid (OF.out i (R1.lt i (by omega)))
      obtain ⟨⟨v, k0⟩, k1⟩ := BD.at_ i hlt
      have PUT := Lib.hid (BD.put i hlt (D' := fun j => j < i + 1) (fun j hj => by omega))
      clear c
      generalize pl xs i = x at *
      generalize G i = g at *
      go_wp2_with fail
      refine (O.out _).mono ?_
      rintro e w1 ⟨rfl, rfl⟩
      go_wp2_with fail
      go_roundw
      case rel => exact ⟨i + 1, rfl, by omega, PUT.out⟩
      case measure => simp [Lib.intOf]; omega
    · have i1 : ¬ (i : Int) < n := by omega
      obtain rfl : i = n := by omega
      have OK := Lib.hid (OUT.out wr BD)
      clear BD
      go_wp2
      exact bodyPost_ret (v := .slice (some ⟨w.heap.size, 0, none⟩) i i) (by simp [results, Tryd.results34, go_sem]) rfl OK.out
theorem trim (A : Option Addr) (ca : Nat) (xs : List Nat) (hn : xs.length ≤ 1048576) (w : World) (R : Ws w w.heap.size A xs) :
    Calls Tryd.prog 34 #[.slice A xs.length ca] w (Row (tr 18446744069414584321 xs) w) := (trim_out A ca xs hn w R).mono fun _ _ h => h.row

theorem at_step (xs : List Nat) (x k v : Nat) (hv : v = evl x (xs.drop (k + 1)) % 18446744069414584321) : (v * x % 18446744069414584321 + pl xs k) % 18446744069414584321 = evl x (xs.drop k) % 18446744069414584321 := by
  rw [evl_drop x xs k, hv, Nat.mod_mul_mod, Nat.mod_add_mod, Nat.mul_comm, Nat.add_comm]
end Pl
end Go.Proofs.YtnnieiedkjekpaaDoor
