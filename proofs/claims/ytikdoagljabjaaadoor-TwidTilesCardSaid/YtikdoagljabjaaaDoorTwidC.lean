/- Contracts of package twid: Slow; of the document's own Scale, Dft, Transform, Canon; awake. -/
import Derived.Test.YtikdoagljabjaaaDoorTwidB
import Derived.Test.YtikdoagljabjaaaDoorFits
set_option linter.unusedVariables false
namespace Go.Proofs.YtikdoagljabjaaaDoor
open Go.RowKit Go.Lib
namespace Td
open Nm Ww Tn Pl

set_option maxHeartbeats 400000 in
theorem slow_len (A : Option Addr) (n ca : Nat) (d : Int) (h : ∀ j, j ≤ 32 → (n : Int) ≠ ((2 ^ j : Nat) : Int)) (w : World) :
    Calls Tryd.prog 22 #[.slice A n ca, .int .i64 d] w fun e w' => e = .returned (.tuple #[.slice none 0 0, .int .i64 4]) ∧ w = w' := by
  have F := Lib.hid (fun W => Ft.fits_none (n : Int) h W)
  clear h
  go_enter Tryd.func22, Tryd.ntmps22
  go_wp2_with fail
  refine (F.out _).mono ?_
  rintro e w1 ⟨rfl, rfl⟩
  go_wp2
  go_ret2
  exact ⟨rfl, rfl⟩
set_option maxHeartbeats 400000 in
theorem slow_kind (A : Option Addr) (n ca k : Nat) (d : Int) (hk : k ≤ 32) (hn : n = 2 ^ k) (h0 : d ≠ 0) (h1 : d ≠ 1) (w : World) (hT : Ft.Tab w) :
    Calls Tryd.prog 22 #[.slice A n ca, .int .i64 d] w fun e w' => e = .returned (.tuple #[.slice none 0 0, .int .i64 18]) ∧ w = w' := by
  have F := Lib.hid (Ft.fits_some k hk w hT)
  rw [← hn] at F
  have C := Lib.hid (fun W => root_kind (k : Int) d (by omega) h0 h1 W)
  clear h0 h1 hk hn hT
  go_enter Tryd.func22, Tryd.ntmps22
  go_wp2_with fail
  refine F.out.mono ?_
  rintro e w1 ⟨rfl, rfl⟩
  go_wp2_with fail
  refine (C.out _).mono ?_
  rintro e w1 ⟨rfl, rfl⟩
  go_wp2
  go_ret2
  exact ⟨rfl, rfl⟩
theorem rwE_of {g h : Nat → Nat} {n b : Nat} {w w1 w' : World} (h1 : Below w.heap.size w w1) (e : ∀ i, i < n → g i = h i) (hs : w1.heap.size ≤ b) (hb : b < w'.heap.size) (K : Wk w' b 0 n g) (h2 : Below w1.heap.size w1 w') :
    RwE h n w (.returned (.tuple #[.slice (some ⟨b, 0, none⟩) n n, .int .i64 0])) w' :=
  ⟨b, rfl, Nat.le_trans h1.size hs, hb, wk_congr K e, h1.trans (h2.mono h1.size)⟩
set_option maxHeartbeats 400000 in
theorem slow_fwd (A : Option Addr) (n ca k : Nat) (xs : List Nat) (hk : k ≤ 10) (hn : n = 2 ^ k) (hx : xs.length = n) (w : World) (hT : Ft.Tab w) (R : Ws w w.heap.size A xs) :
    Calls Tryd.prog 22 #[.slice A n ca, .int .i64 0] w (RwE (ft k 0 (Pn.pl xs)) n w) := by
  have hl : 2 ^ k ≤ 2 ^ 10 := Nat.pow_le_pow_right (by decide) hk
  have F := Lib.hid (Ft.fits_some k (by omega) w hT)
  rw [← hn] at F
  have C := Lib.hid (fun W => root_fwd k (by omega) W)
  have S := Lib.hid (fun W R => sumsOf A ca n xs hx (by omega) (Nt.rt k) (Nat.lt_trans (Nt.rt_lt k) (by decide)) W R)
  have k1 : ¬ 10 < (k : Int) := by omega
  have E := Lib.hid (fun i (_ : i < n) => show tf (Pn.pl xs) n (Nt.rt k) i = ft k 0 (Pn.pl xs) i by rw [ft_zero, hn])
  generalize tf (Pn.pl xs) n (Nt.rt k) = g at *
  generalize ft k 0 (Pn.pl xs) = h at *
  generalize Nt.rt k = r at *
  clear hl hk hn hx hT
  go_enter Tryd.func22, Tryd.ntmps22
  go_wp2_with fail
  refine F.out.mono ?_
  rintro e w1 ⟨rfl, rfl⟩
  go_wp2_with fail
  refine (C.out _).mono ?_
  rintro e w1 ⟨rfl, h1⟩
  have R1 := R.step h1
  clear R
  go_wp2_with fail
  refine (S.out _ R1).mono ?_
  rintro e w2 ⟨b, rfl, hs, hb, K, h2⟩
  have O := Lib.hid (rwE_of h1 E.out hs hb K h2)
  clear K h2 hs hb R1 h1 E
  go_wp2
  exact bodyPost_ret (v := .tuple #[.slice (some ⟨b, 0, none⟩) n n, .int .i64 0]) (by simp [results, Tryd.results22, go_sem]) rfl O.out
set_option maxHeartbeats 400000 in
theorem slow_inv (A : Option Addr) (n ca k : Nat) (xs : List Nat) (hk : k ≤ 10) (hn : n = 2 ^ k) (hx : xs.length = n) (w : World) (hT : Ft.Tab w) (R : Ws w w.heap.size A xs) :
    Calls Tryd.prog 22 #[.slice A n ca, .int .i64 1] w (RwE (ft k 1 (Pn.pl xs)) n w) := by
  have hl : 2 ^ k ≤ 2 ^ 10 := Nat.pow_le_pow_right (by decide) hk
  have F := Lib.hid (Ft.fits_some k (by omega) w hT)
  rw [← hn] at F
  have C := Lib.hid (fun W => root_inv k (by omega) W)
  have S := Lib.hid (fun W R => sumsOf A ca n xs hx (by omega) (Nt.inv (Nt.rt k)) (Nat.lt_trans (Nt.inv_lt _) (by decide)) W R)
  have H := Lib.hid (fun W => share k (by omega) W)
  have L := Lib.hid (fun (A1 : Option Addr) c1 W R => scale A1 c1 n (rg (tf (Pn.pl xs) n (Nt.inv (Nt.rt k))) n) (rg_len _ _) (by omega) (Nt.inv (2 ^ k)) (Nat.lt_trans (Nt.inv_lt _) (by decide)) W R)
  have k1 : ¬ 10 < (k : Int) := by omega
  have E := Lib.hid (fun i (hi : i < n) => show Pn.pl (rg (tf (Pn.pl xs) n (Nt.inv (Nt.rt k))) n) i * Nt.inv (2 ^ k) % 18446744069414584321 = ft k 1 (Pn.pl xs) i by
    rw [pl_rg _ _ _ hi]; unfold ft; rw [sc_other k 1 (by decide), rd_other k 1 (by decide), hn])
  have G := Lib.hid (fun j => tf_lt (Pn.pl xs) n (Nt.inv (Nt.rt k)) j)
  generalize tf (Pn.pl xs) n (Nt.inv (Nt.rt k)) = g at *
  generalize ft k 1 (Pn.pl xs) = h at *
  generalize Nt.inv (Nt.rt k) = r at *
  generalize Nt.inv (2 ^ k) = s at *
  clear hl hk hn hx hT
  go_enter Tryd.func22, Tryd.ntmps22
  go_wp2_with fail
  refine F.out.mono ?_
  rintro e w1 ⟨rfl, rfl⟩
  go_wp2_with fail
  refine (C.out _).mono ?_
  rintro e w1 ⟨rfl, h1⟩
  have R1 := R.step h1
  clear R
  go_wp2_with fail
  refine (S.out _ R1).mono ?_
  rintro e w2 ⟨b, rfl, hs, hb, K, h2⟩
  have Y := wk_ws K G.out hb
  have c2 := h1.trans (h2.mono h1.size)
  clear K h2 hs hb R1 h1 G
  go_wp2_with fail
  refine (H.out _).mono ?_
  rintro e w3 ⟨rfl, h3⟩
  have Y3 := Y.step h3
  have c3 := c2.trans (h3.mono c2.size)
  clear Y c2 h3
  go_wp2_with fail
  refine (L.out _ _ _ Y3).mono ?_
  rintro e w4 ⟨b4, rfl, hs, hb, K, h4⟩
  have O := Lib.hid (rwE_of c3 E.out hs hb K h4)
  clear K h4 hs hb Y3 c3 E
  go_wp2
  exact bodyPost_ret (v := .tuple #[.slice (some ⟨b4, 0, none⟩) n n, .int .i64 0]) (by simp [results, Tryd.results22, go_sem]) rfl O.out
theorem slow (A : Option Addr) (n ca k d : Nat) (xs : List Nat) (hk : k ≤ 10) (hd : d ≤ 1) (hn : n = 2 ^ k) (hx : xs.length = n) (w : World) (hT : Ft.Tab w) (R : Ws w w.heap.size A xs) :
    Calls Tryd.prog 22 #[.slice A n ca, .int .i64 (d : Int)] w (RwE (ft k d (Pn.pl xs)) n w) := by
  rcases Nat.eq_zero_or_pos d with h | h
  · subst h; exact slow_fwd A n ca k xs hk hn hx w hT R
  · obtain rfl : d = 1 := by omega
    exact slow_inv A n ca k xs hk hn hx w hT R

/- The document's own. -/
set_option maxHeartbeats 1000000 in
set_option maxRecDepth 100000 in
theorem rscale_out (A : Option Addr) (ca n : Nat) (xs : List Nat) (hn : xs.length = n) (hl : n ≤ 1048576) (a : Nat) (ha : a < 18446744073709551616) (w : World) (R : Ws w w.heap.size A xs) :
    Calls Tryd.prog 26 #[.slice A n ca, .int .u64 (a : Nat)] w (Out (rg (fun i => Pn.pl xs i * a % 18446744069414584321) n) w) := by
  have M := Lib.hid (fun i W => Gr.mul (Pn.pl xs i) a ha W)
  obtain ⟨G, hG⟩ : ∃ G : Nat → Nat, G = fun i => Pn.pl xs i * a % 18446744069414584321 := ⟨_, rfl⟩
  have Gi : ∀ i, Pn.pl xs i * a % 18446744069414584321 = G i := fun i => by rw [hG]
  rw [← hG]
  simp only [Gi] at M
  have HN := Lib.hid hn
  have N0 := Lib.hid (Ow.nil_ w w.heap.size)
  have SU := Lib.hid (rg_succ G)
  have LE := Lib.hid (rg_len G)
  clear hG Gi ha hn
  go_enter Tryd.func26, Tryd.ntmps26
  go_wp2_with fail
  go_loopw [5, 6] (fun v5 v6 wr => ∃ i : Nat, v6 = .int .i64 (i : Int) ∧ i ≤ n ∧ Ow wr w.heap.size v5 (rg G i) ∧ Below w.heap.size w wr) (fun _ v6 _ => n - (Lib.intOf v6).toNat)
  case atStart => exact ⟨0, rfl, Nat.zero_le _, N0.out, Below.refl _ _⟩
  case round =>
    obtain ⟨i, rfl, hi, O, hbl⟩ := hrel
    clear N0
    by_cases hlt : i < n
    · have i1 : (i : Int) < n := by omega
      have R1 := R.below hbl
      obtain ⟨b, off, rfl, hB, c⟩ := R1.at_ i (by rw [HN.out]; exact hlt)
      have c2 : wr.cell? ⟨b, off + i, none⟩ = some (.int .u64 (Pn.pl xs i : Nat)) := c
      have M1 := Lib.hid (M.out i)
      have S := Lib.hid (SU.out i)
      have L := Lib.hid (LE.out i)
      clear c
      generalize Pn.pl xs i = x at *
      generalize G i = p at *
      go_wp2_with fail
      refine (M1.out _).mono ?_
      rintro e w1 ⟨rfl, rfl⟩
      go_wp2_with (at_builtin; go_loud (refine append1 (wr.alloc (.cells #[.int .u64 p] 23)) ?hgd (.tmp 13) (.tmp 20) ?ho w.heap.size u5 (rg G i) ?hs (O.alloc _) wr.heap.size p ?hx (cut1 _ _ _) ?c1 ?c2 (fun v6 w1 O1 hg => ?_)); (case hgd => rfl); (case ho => rfl); (case hs => rfl); (case hx => rfl))
      case c1 => rw [L.out]; omega
      case c2 => have := hbl.size; simp; omega
      rw [S.out] at O1
      have b1 := (O.alloc _).grow (hbl.alloc hbl.size _) hg (by have := hbl.size; simp; omega)
      go_wp2_with fail
      go_roundw
      case rel => exact ⟨i + 1, rfl, by omega, O1, b1⟩
      case measure => simp [Lib.intOf]; omega
    · have i1 : ¬ (i : Int) < n := by omega
      obtain rfl : n = i := by omega
      go_wp2
      exact bodyPost_ret (v := u5) (by simp [results, Tryd.results26, go_sem]) rfl (Out.mk_ O hbl)
/-- A row of n words that a call answers, whose words are a rule's. -/
def RwA (g : Nat → Nat) (n : Nat) (w : World) (e : Ending) (w' : World) : Prop := ∃ A ca, e = .returned (.slice A n ca) ∧ Ws w' w'.heap.size A (rg g n) ∧ Below w.heap.size w w'
theorem rwA_of {g h : Nat → Nat} {n : Nat} (hg : ∀ i, g i < 18446744069414584321) (he : ∀ i, i < n → g i = h i) {w w' : World} {e : Ending} (O : Out (rg g n) w e w') : RwA h n w e w' := by
  obtain ⟨A, ca, rfl, R, hb⟩ := Row.of_out (fun i hi => by rw [rg_at _ _ _ (by rwa [rg_len] at hi)]; exact Nat.lt_trans (hg i) (by decide)) O
  rw [rg_congr n he] at R
  exact ⟨A, ca, by rw [rg_len], R, hb⟩
theorem rscale (A : Option Addr) (ca n : Nat) (xs : List Nat) (hn : xs.length = n) (hl : n ≤ 1048576) (a : Nat) (ha : a < 18446744073709551616) (w : World) (R : Ws w w.heap.size A xs) :
    Calls Tryd.prog 26 #[.slice A n ca, .int .u64 (a : Nat)] w (RwA (fun i => Pn.pl xs i * a % 18446744069414584321) n w) :=
  (rscale_out A ca n xs hn hl a ha w R).mono fun _ _ h => rwA_of (fun i => Nat.mod_lt _ (by decide)) (fun _ _ => rfl) h
end Td
end Go.Proofs.YtikdoagljabjaaaDoor
