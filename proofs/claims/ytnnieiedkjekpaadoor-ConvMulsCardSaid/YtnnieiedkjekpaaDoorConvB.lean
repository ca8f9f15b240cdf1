/- Contracts of slices.Reverse of a row without its first word, of package conv's Cyclic, Negacyclic, Correlate. -/
import Derived.Test.YtnnieiedkjekpaaDoorConvA
import Derived.Lib.Walk
set_option linter.unusedVariables false
namespace Go.Proofs.YtnnieiedkjekpaaDoor
open Go.RowKit Go.Lib Go.Sort
namespace Cv
open Nm Ww Tn Pl Kn Kq Td

/-- A row of which i words from both ends, but for the first, are turned about. -/
def rvi (f : Nat → Nat) (n i m : Nat) : Nat := if (1 ≤ m ∧ m ≤ i) ∨ n ≤ m + i then f (n - m) else f m
theorem rvi_zero (f : Nat → Nat) (n m : Nat) (h : m < n) : rvi f n 0 m = f m := if_neg (by omega)
theorem rvi_at (f : Nat → Nat) (n i m : Nat) (h : i < m) (h2 : m + i < n) : rvi f n i m = f m := if_neg (by omega)
theorem rvi_step (f : Nat → Nat) (n i j m : Nat) (hj : j + i + 2 = n) (h : i < j) (hm : m < n) : upd (upd (rvi f n i) (1 + i) (f (1 + j))) (1 + j) (f (1 + i)) m = rvi f n (i + 1) m := by
  by_cases e : m = 1 + j
  · subst e
    rw [upd_same]
    unfold rvi
    rw [if_pos (by omega), show n - (1 + j) = 1 + i by omega]
  · rw [upd_other _ _ _ e]
    by_cases e2 : m = 1 + i
    · subst e2
      rw [upd_same]
      unfold rvi
      rw [if_pos (by omega), show n - (1 + i) = 1 + j by omega]
    · rw [upd_other _ _ _ e2]
      unfold rvi
      by_cases h : (1 ≤ m ∧ m ≤ i) ∨ n ≤ m + i
      · rw [if_pos h, if_pos (by omega)]
      · rw [if_neg h, if_neg (by omega)]
theorem rvi_end (f : Nat → Nat) (n i m : Nat) (h : n ≤ 2 * i + 2) (hi0 : i < n) (hm : m < n) : rvi f n i m = f ((n - m) % n) := by
  by_cases h0 : m = 0
  · subst h0
    rw [Nat.sub_zero, Nat.mod_self]
    exact if_neg (by omega)
  · rw [Nat.mod_eq_of_lt (show n - m < n by omega)]
    unfold rvi
    by_cases hi : (1 ≤ m ∧ m ≤ i) ∨ n ≤ m + i
    · rw [if_pos hi]
    · rw [if_neg hi, show n - m = m by omega]

set_option maxHeartbeats 400000 in
theorem reverse_none (A : Option Addr) (c : Nat) (w : World) :
    Calls Tryd.prog 26 #[.slice A 0 c] w fun e w' => e = .returned (.tuple #[]) ∧ w = w' := by
  go_enter Tryd.func26, Tryd.ntmps26
  have w1 : IntKind.i64.wrap (-1) = -1 := by rw [IntKind.wrap_i64]; omega
  go_wp2_with fail
  go_loopw [2, 3] (fun v2 v3 wr => v2 = .int .i64 0 ∧ v3 = .int .i64 (-1) ∧ Hid (wr = w)) (fun _ _ _ => 0)
  case atStart => exact ⟨rfl, rfl, Lib.hid rfl⟩
  case round =>
    obtain ⟨rfl, rfl, hw⟩ := hrel
    obtain rfl := hw.out
    clear hw
    go_wp2
    exact bodyPost_end (v := .tuple #[]) (by simp [results, Tryd.results26, go_sem]) rfl ⟨rfl, rfl⟩
set_option maxHeartbeats 1000000 in
set_option maxRecDepth 100000 in
theorem reverse_some (b n l c : Nat) (f : Nat → Nat) (hn : n = l + 1) (h0 : 0 < l) (hl : n ≤ 1048576) (w : World) (J : JR b n f w w) :
    Calls Tryd.prog 26 #[.slice (some ⟨b, 1, none⟩) l c] w fun e w' => e = .returned (.tuple #[]) ∧ JR b n (fun m => f ((n - m) % n)) w w' := by
  have ST := Lib.hid (J.congr (g := rvi f n 0) fun m hm => (rvi_zero f n m hm).symm)
  have EN := Lib.hid (fun i (h : n ≤ 2 * i + 2) (hi : i < n) W (K : JR b n (rvi f n i) w W) => K.congr (g := fun m => f ((n - m) % n)) fun m hm => rvi_end f n i m h hi hm)
  have SP := Lib.hid (fun i j (hj : j + i + 2 = n) (h : i < j) W (K : JR b n (upd (upd (rvi f n i) (1 + i) (f (1 + j))) (1 + j) (f (1 + i))) w W) => K.congr (g := rvi f n (i + 1)) fun m hm => rvi_step f n i j m hj h hm)
  have AT := Lib.hid (fun i m (h : i < m) (h2 : m + i < n) => rvi_at f n i m h h2)
  have w1 : IntKind.i64.wrap ((l : Int) - 1) = (((l - 1 : Nat)) : Int) := by rw [IntKind.wrap_i64]; omega
  have hn1 : n ≤ l + 1 := by omega
  have hn2 : l + 1 ≤ n := by omega
  clear J hn
  go_enter Tryd.func26, Tryd.ntmps26
  go_wp2_with fail
  go_loopw [2, 3] (fun v2 v3 wr => ∃ i j : Nat, v2 = .int .i64 (i : Int) ∧ v3 = .int .i64 (j : Int) ∧ j + i + 2 = n ∧ JR b n (rvi f n i) w wr) (fun v2 _ _ => n - (Lib.intOf v2).toNat)
  case atStart => exact ⟨0, l - 1, rfl, rfl, by omega, ST.out⟩
  case round =>
    obtain ⟨i, j, rfl, rfl, hj, T⟩ := hrel
    clear ST w1
    by_cases hlt : i < j
    · have j1 : (i : Int) < j := by omega
      have q1 : IntKind.i64.wrap ((i : Int) + 1) = ((i + 1 : Nat) : Int) := by rw [IntKind.wrap_i64]; omega
      have q2 : IntKind.i64.wrap ((j : Int) - 1) = ((j - 1 : Nat) : Int) := by rw [IntKind.wrap_i64]; omega
      have p1 : 1 + i < n := by omega
      have p2 : 1 + j < n := by omega
      obtain ⟨c1, z1⟩ := T.at_ (1 + i) p1
      obtain ⟨c2, z2⟩ := T.at_ (1 + j) p2
      rw [AT.out i (1 + i) (by omega) (by omega)] at c1
      rw [AT.out i (1 + j) (by omega) (by omega)] at c2
      have TP := (T.put (1 + i) (f (1 + j)) p1).put (1 + j) (f (1 + i)) p2
      have TQ := Lib.hid (SP.out i j hj hlt _ TP).drew
      have l1 : wr.drew.cell? ⟨b, 1 + i, none⟩ = some (.int .u64 (f (1 + i) : Nat)) := c1
      have l2 : wr.drew.cell? ⟨b, 1 + j, none⟩ = some (.int .u64 (f (1 + j) : Nat)) := c2
      have l3 : wr.drew.frozen? ⟨b, 1 + i, none⟩ = false := z1
      have l4 : wr.drew.frozen? ⟨b, 1 + j, none⟩ = false := z2
      have na : (⟨b, 1 + j, none⟩ : Addr) ≠ ⟨b, 1 + i, none⟩ := fun e => by injection e with _ e; omega
      have l5 : (wr.setCell ⟨b, 1 + i, none⟩ (.int .u64 (f (1 + j) : Nat))).cell? ⟨b, 1 + j, none⟩ = some (.int .u64 (f (1 + j) : Nat)) := by rw [World.cell?_setCell_other _ _ _ _ (Ne.symm na)]; exact c2
      have l6 : (wr.setCell ⟨b, 1 + i, none⟩ (.int .u64 (f (1 + j) : Nat))).drew.cell? ⟨b, 1 + j, none⟩ = some (.int .u64 (f (1 + j) : Nat)) := l5
      have l7 : (wr.setCell ⟨b, 1 + i, none⟩ (.int .u64 (f (1 + j) : Nat))).frozen? ⟨b, 1 + j, none⟩ = false := by rw [World.frozen?_setCell]; exact z2
      have l8 : (wr.setCell ⟨b, 1 + i, none⟩ (.int .u64 (f (1 + j) : Nat))).drew.frozen? ⟨b, 1 + j, none⟩ = false := l7
      clear na TP T SP AT EN
      generalize f (1 + i) = f1 at *
      generalize f (1 + j) = f2 at *
      go_upto_region 3 with fail
      go_region
      go_wp2_with fail
      go_roundw
      case rel => exact ⟨i + 1, j - 1, rfl, rfl, by omega, TQ.out⟩
      case measure => simp [Lib.intOf]; omega
    · have j1 : ¬ (i : Int) < j := by omega
      have OK := Lib.hid (EN.out i (by omega) (by omega) _ T)
      clear T SP AT EN
      go_wp2
      exact bodyPost_end (v := .tuple #[]) (by simp [results, Tryd.results26, go_sem]) rfl ⟨rfl, OK.out⟩
set_option maxHeartbeats 400000 in
theorem cyclic_err (A B : Option Addr) (n m ca cb : Nat) (x : Int) (hx : x ≠ 0) (w : World)
    (hE : Calls Tryd.prog 20 #[.slice A n ca, .slice B m cb] w fun e w' => e = .returned (.tuple #[.int .i64 0, .int .i64 x]) ∧ w = w') :
    Calls Tryd.prog 7 #[.slice A n ca, .slice B m cb] w fun e w' => e = .returned (.tuple #[.slice none 0 0, .int .i64 x]) ∧ w = w' := by
  have C := Lib.hid hE
  have ne : (x != 0) = true := by simpa using hx
  clear hE hx
  go_enter Tryd.func7, Tryd.ntmps7
  go_wp2_with fail
  refine C.out.mono ?_
  rintro e w1 ⟨rfl, rfl⟩
  go_wp2
  go_ret2
  exact ⟨rfl, rfl⟩

set_option maxHeartbeats 400000 in
theorem negacyclic_err (A B : Option Addr) (n m ca cb : Nat) (x : Int) (hx : x ≠ 0) (w : World)
    (hE : Calls Tryd.prog 20 #[.slice A n ca, .slice B m cb] w fun e w' => e = .returned (.tuple #[.int .i64 0, .int .i64 x]) ∧ w = w') :
    Calls Tryd.prog 8 #[.slice A n ca, .slice B m cb] w fun e w' => e = .returned (.tuple #[.slice none 0 0, .int .i64 x]) ∧ w = w' := by
  have C := Lib.hid hE
  have ne : (x != 0) = true := by simpa using hx
  clear hE hx
  go_enter Tryd.func8, Tryd.ntmps8
  go_wp2_with fail
  refine C.out.mono ?_
  rintro e w1 ⟨rfl, rfl⟩
  go_wp2
  go_ret2
  exact ⟨rfl, rfl⟩

set_option maxHeartbeats 400000 in
theorem correlate_err (A B : Option Addr) (n m ca cb : Nat) (x : Int) (hx : x ≠ 0) (w : World)
    (hE : Calls Tryd.prog 20 #[.slice A n ca, .slice B m cb] w fun e w' => e = .returned (.tuple #[.int .i64 0, .int .i64 x]) ∧ w = w') :
    Calls Tryd.prog 9 #[.slice A n ca, .slice B m cb] w fun e w' => e = .returned (.tuple #[.slice none 0 0, .int .i64 x]) ∧ w = w' := by
  have C := Lib.hid hE
  have ne : (x != 0) = true := by simpa using hx
  clear hE hx
  go_enter Tryd.func9, Tryd.ntmps9
  go_wp2_with fail
  refine C.out.mono ?_
  rintro e w1 ⟨rfl, rfl⟩
  go_wp2
  go_ret2
  exact ⟨rfl, rfl⟩

theorem rwE_of_rwN {g : Nat → Nat} {n : Nat} {w w' : World} {v : Value} (h : RwN g n w (.returned v) w') : RwE g n w (.returned (.tuple #[v, .int .i64 0])) w' := by
  obtain ⟨b, e, h1⟩ := h
  injection e with e
  subst e
  exact ⟨b, rfl, h1⟩
set_option maxHeartbeats 400000 in
theorem cyclic (k n ca cb : Nat) (A B : Option Addr) (xs ys : List Nat) (hk : k ≤ 19) (hn : n = 2 ^ k) (hx : xs.length = n) (hy : ys.length = n) (w : World) (hT : Ft.Tab w) (Ra : Ws w w.heap.size A xs) (Rb : Ws w w.heap.size B ys) :
    Calls Tryd.prog 7 #[.slice A n ca, .slice B n cb] w (RwE (fun j => cyc (Pn.pl xs) (Pn.pl ys) n j % 18446744069414584321) n w) := by
  have h0 : 0 < n := by rw [hn]; exact Nat.two_pow_pos k
  have E := Lib.hid (exponent_in A B n ca cb k hk hn w hT)
  have C := Lib.hid (convolve k n ca cb n n A B xs ys (by omega) hn hx hy (Nat.le_refl _) h0 (Nat.le_refl _) h0 w hT Ra Rb)
  clear hk hn hx hy hT Ra Rb h0
  go_enter Tryd.func7, Tryd.ntmps7
  go_wp2_with fail
  refine E.out.mono ?_
  rintro e w1 ⟨rfl, rfl⟩
  go_wp2_with fail
  refine C.out.mono ?_
  rintro e w1 ⟨b, rfl, O⟩
  have OK := Lib.hid (rwE_of_rwN ⟨b, rfl, O⟩)
  clear O C E
  go_wp2
  exact bodyPost_ret (v := .tuple #[.slice (some ⟨b, 0, none⟩) n n, .int .i64 0]) (by simp [results, Tryd.results7, go_sem]) rfl OK.out

set_option maxHeartbeats 1000000 in
theorem negacyclic (k n ca cb : Nat) (A B : Option Addr) (xs ys : List Nat) (hk : k ≤ 19) (hn : n = 2 ^ k) (hx : xs.length = n) (hy : ys.length = n) (w : World) (hT : Ft.Tab w) (Ra : Ws w w.heap.size A xs) (Rb : Ws w w.heap.size B ys) :
    Calls Tryd.prog 8 #[.slice A n ca, .slice B n cb] w (RwE (fun j => ngc (Pn.pl xs) (Pn.pl ys) n j % 18446744069414584321) n w) := by
  have h0 : 0 < n := by rw [hn]; exact Nat.two_pow_pos k
  have hl : n ≤ 1048576 := by rw [hn]; exact two20 (by omega)
  have E := Lib.hid (exponent_in A B n ca cb k hk hn w hT)
  obtain ⟨U, hU⟩ : ∃ U : Nat → Nat, U = fun i => rd (k + 1) 0 ^ i % 18446744069414584321 := ⟨_, rfl⟩
  obtain ⟨V, hV⟩ : ∃ V : Nat → Nat, V = fun i => rd (k + 1) 1 ^ i % 18446744069414584321 := ⟨_, rfl⟩
  have fU : ∀ i, U i < 18446744069414584321 := by rw [hU]; exact fun i => Nat.mod_lt _ (by decide)
  have fV : ∀ i, V i < 18446744069414584321 := by rw [hV]; exact fun i => Nat.mod_lt _ (by decide)
  have T1 := Lib.hid (fun W => show Calls Tryd.prog 22 #[.int .i64 (k : Int), .int .i64 0] W (RwN U n W) from by rw [hU]; exact turns k 0 n 0 rfl hk (by decide) hn W)
  have T2 := Lib.hid (fun W => show Calls Tryd.prog 22 #[.int .i64 (k : Int), .int .i64 1] W (RwN V n W) from by rw [hV]; exact turns k 1 n 1 rfl hk (by decide) hn W)
  obtain ⟨F, hF⟩ : ∃ F : Nat → Nat, F = fun i => Pn.pl xs i * Pn.pl (rg U n) i % 18446744069414584321 := ⟨_, rfl⟩
  obtain ⟨G, hG⟩ : ∃ G : Nat → Nat, G = fun i => Pn.pl ys i * Pn.pl (rg U n) i % 18446744069414584321 := ⟨_, rfl⟩
  obtain ⟨H, hH⟩ : ∃ H : Nat → Nat, H = fun j => cyc (Pn.pl (rg F n)) (Pn.pl (rg G n)) n j % 18446744069414584321 := ⟨_, rfl⟩
  obtain ⟨O, hO⟩ : ∃ O : Nat → Nat, O = fun j => ngc (Pn.pl xs) (Pn.pl ys) n j % 18446744069414584321 := ⟨_, rfl⟩
  have fF : ∀ i, F i < 18446744069414584321 := by rw [hF]; exact fun i => Nat.mod_lt _ (by decide)
  have fG : ∀ i, G i < 18446744069414584321 := by rw [hG]; exact fun i => Nat.mod_lt _ (by decide)
  have fH : ∀ i, H i < 18446744069414584321 := by rw [hH]; exact fun i => Nat.mod_lt _ (by decide)
  rw [← hO]
  have M1 := Lib.hid (fun W b (d : Below w.heap.size w W) (K : Wk W b 0 n U) (s : b < W.heap.size) => show Calls Tryd.prog 23 #[.slice A n ca, .slice (some ⟨b, 0, none⟩) n n] W (RwN F n W) from by
    rw [hF]; exact times A _ ca n n xs (rg U n) hx (rg_len _ _) hl W (Ra.step d) (wk_ws K fU s))
  have M2 := Lib.hid (fun W b (d : Below w.heap.size w W) (K : Wk W b 0 n U) (s : b < W.heap.size) => show Calls Tryd.prog 23 #[.slice B n cb, .slice (some ⟨b, 0, none⟩) n n] W (RwN G n W) from by
    rw [hG]; exact times B _ cb n n ys (rg U n) hy (rg_len _ _) hl W (Rb.step d) (wk_ws K fU s))
  have CV := Lib.hid (fun W b1 b2 (d : Below w.heap.size w W) (K1 : Wk W b1 0 n F) (s1 : b1 < W.heap.size) (K2 : Wk W b2 0 n G) (s2 : b2 < W.heap.size) => show Calls Tryd.prog 21 #[.slice (some ⟨b1, 0, none⟩) n n, .slice (some ⟨b2, 0, none⟩) n n, .int .i64 (k : Int)] W (RwN H n W) from by
    rw [hH]; exact convolve k n n n n n _ _ (rg F n) (rg G n) (by omega) hn (rg_len _ _) (rg_len _ _) (Nat.le_refl _) h0 (Nat.le_refl _) h0 W (hT.below d) (wk_ws K1 fF s1) (wk_ws K2 fG s2))
  have eO : ∀ i, i < n → Pn.pl (rg H n) i * Pn.pl (rg V n) i % 18446744069414584321 = O i := fun i hi => by
    rw [pl_rg _ _ _ hi, pl_rg _ _ _ hi, hO, hH, hV, hn]
    show cyc (Pn.pl (rg F (2 ^ k))) (Pn.pl (rg G (2 ^ k))) (2 ^ k) i % 18446744069414584321 * (rd (k + 1) 1 ^ i % 18446744069414584321) % 18446744069414584321 = ngc (Pn.pl xs) (Pn.pl ys) (2 ^ k) i % 18446744069414584321
    rw [← ngc_ft _ _ k (by omega) i (by omega), cyc_ft _ _ k (by omega) i (by omega)]
    congr 1
    congr 1
    congr 1
    refine cyc_congr (fun j hj => ?_) (fun j hj => ?_) i
    · rw [pl_rg _ _ _ hj, hF]
      show Pn.pl xs j * Pn.pl (rg U n) j % 18446744069414584321 = _
      rw [pl_rg _ _ _ (by omega), hU]
    · rw [pl_rg _ _ _ hj, hG]
      show Pn.pl ys j * Pn.pl (rg U n) j % 18446744069414584321 = _
      rw [pl_rg _ _ _ (by omega), hU]
  have M3 := Lib.hid (fun W b1 b2 (d : Below w.heap.size w W) (K1 : Wk W b1 0 n H) (s1 : b1 < W.heap.size) (K2 : Wk W b2 0 n V) (s2 : b2 < W.heap.size) => show Calls Tryd.prog 23 #[.slice (some ⟨b1, 0, none⟩) n n, .slice (some ⟨b2, 0, none⟩) n n] W fun e w' => ∃ b, e = .returned (.slice (some ⟨b, 0, none⟩) n n) ∧ RwE O n w (.returned (.tuple #[.slice (some ⟨b, 0, none⟩) n n, .int .i64 0])) w' from
    (times _ _ n n n (rg H n) (rg V n) (rg_len _ _) (rg_len _ _) hl W (wk_ws K1 fH s1) (wk_ws K2 fV s2)).mono fun e w' ⟨b, h1, h2, h3, h4, h5⟩ => ⟨b, h1, b, rfl, Nat.le_trans d.size h2, h3, wk_congr h4 eO, d.trans (h5.mono d.size)⟩)
  clear hk hn hx hy hT Ra Rb h0 hl hU hV hF hG hH hO fU fV fF fG fH eO
  go_enter Tryd.func8, Tryd.ntmps8
  go_wp2_with fail
  refine E.out.mono ?_
  rintro e w1 ⟨rfl, rfl⟩
  clear E
  go_wp2_with fail
  refine (T1.out _).mono ?_
  rintro e w1 ⟨b1, rfl, o1, s1, K1, d1⟩
  clear T1
  go_wp2_with fail
  refine (T2.out _).mono ?_
  rintro e w2 ⟨b2, rfl, o2, s2, K2, d2⟩
  have D2 := d1.trans (d2.mono d1.size)
  have K1 := K1.below s1 d2
  have s1 := Nat.lt_of_lt_of_le s1 d2.size
  have C3 := Lib.hid (M1.out w2 b1 D2 K1 s1)
  clear T2 M1 d1 d2 o1 o2
  go_wp2_with fail
  refine C3.out.mono ?_
  rintro e w3 ⟨b3, rfl, o3, s3, K3, d3⟩
  have D3 := D2.trans (d3.mono D2.size)
  have C4 := Lib.hid (M2.out w3 b1 D3 (K1.below s1 d3) (Nat.lt_of_lt_of_le s1 d3.size))
  have K2 := K2.below s2 d3
  have s2 := Nat.lt_of_lt_of_le s2 d3.size
  clear C3 M2 D2 d3 K1 s1 o3
  go_wp2_with fail
  refine C4.out.mono ?_
  rintro e w4 ⟨b4, rfl, o4, s4, K4, d4⟩
  have D4 := D3.trans (d4.mono D3.size)
  have C5 := Lib.hid (CV.out w4 b3 b4 D4 (K3.below s3 d4) (Nat.lt_of_lt_of_le s3 d4.size) K4 s4)
  have K2 := K2.below s2 d4
  have s2 := Nat.lt_of_lt_of_le s2 d4.size
  clear C4 CV D3 d4 K3 s3 K4 s4 o4
  go_wp2_with fail
  refine C5.out.mono ?_
  rintro e w5 ⟨b5, rfl, o5, s5, K5, d5⟩
  have D5 := D4.trans (d5.mono D4.size)
  have C6 := Lib.hid (M3.out w5 b5 b2 D5 K5 s5 (K2.below s2 d5) (Nat.lt_of_lt_of_le s2 d5.size))
  clear C5 M3 D4 d5 K5 s5 K2 s2 o5 D5
  go_wp2_with fail
  refine C6.out.mono ?_
  rintro e w6 ⟨b6, rfl, OK⟩
  have OK := Lib.hid OK
  clear C6
  go_wp2
  exact bodyPost_ret (v := .tuple #[.slice (some ⟨b6, 0, none⟩) n n, .int .i64 0]) (by simp [results, Tryd.results8, go_sem]) rfl OK.out

/-- b[1:] of a row of one's own. -/
theorem slice_rest (b n l : Nat) (h0 : 0 < n) (hl : l = n - 1) : ∃ o, (o = 1 ∨ n = 1) ∧ ∀ W, (Instr.slice 22 (.slice (some ⟨b, 0, none⟩) n n) (some (.int .i64 1)) none none).run Tryd.prog W = .ok (.slice (some ⟨b, o, none⟩) l l) W := by
  subst hl
  by_cases h1 : n = 1
  · subst h1
    refine ⟨0, Or.inr rfl, fun W => ?_⟩
    have ht := Tryd.underlying22
    have ht' : Tryd.prog.underlying 22 = some (.slice (Tryd.prog.elem 22)) := by simp [Program.elem, ht]
    have he : Tryd.prog.elem 22 = 32 := by simp [Program.elem, ht]
    rw [run_slice_l W 22 _ _ _ ht' .i64 _ (by omega) (by omega), he, sizeU]
    simp [Result.andThen, sliced]
  · exact ⟨1, Or.inl rfl, fun W => slice_from W b n 1 (n - 1) (by omega) (by omega)⟩
theorem reverse_rest (b n o l : Nat) (f : Nat → Nat) (ho : o = 1 ∨ n = 1) (hl : l = n - 1) (h0 : 0 < n) (hn : n ≤ 1048576) (w : World) (J : JR b n f w w) :
    Calls Tryd.prog 26 #[.slice (some ⟨b, o, none⟩) l l] w fun e w' => e = .returned (.tuple #[]) ∧ JR b n (fun m => f ((n - m) % n)) w w' := by
  by_cases h1 : n = 1
  · have l0 : l = 0 := by omega
    subst l0
    refine (reverse_none (some ⟨b, o, none⟩) 0 w).mono fun e w' ⟨h, hw⟩ => ⟨h, ?_⟩
    subst hw
    exact J.congr fun m hm => by
      obtain rfl : m = 0 := by omega
      rw [Nat.sub_zero, Nat.mod_self]
  · obtain rfl : o = 1 := by omega
    exact reverse_some b n l l f (by omega) (by omega) hn w J

set_option maxHeartbeats 1000000 in
theorem correlate (k n ca cb : Nat) (A B : Option Addr) (xs ys : List Nat) (hk : k ≤ 19) (hn : n = 2 ^ k) (hx : xs.length = n) (hy : ys.length = n) (w : World) (hT : Ft.Tab w) (Ra : Ws w w.heap.size A xs) (Rb : Ws w w.heap.size B ys) :
    Calls Tryd.prog 9 #[.slice A n ca, .slice B n cb] w (RwE (fun j => cor (Pn.pl xs) (Pn.pl ys) n j % 18446744069414584321) n w) := by
  have h0 : 0 < n := by rw [hn]; exact Nat.two_pow_pos k
  have hl : n ≤ 1048576 := by rw [hn]; exact two20 (by omega)
  obtain ⟨l, hl1⟩ : ∃ l, l = n - 1 := ⟨_, rfl⟩
  have E := Lib.hid (exponent_in A B n ca cb k hk hn w hT)
  have NE := Lib.hid (Kq.new k (by omega) w)
  obtain ⟨F, hF⟩ : ∃ F, F = ft k 0 (Pn.pl xs) := ⟨_, rfl⟩
  obtain ⟨G, hG⟩ : ∃ G, G = ft k 0 (Pn.pl ys) := ⟨_, rfl⟩
  obtain ⟨R, hR⟩ : ∃ R : Nat → Nat, R = fun m => G ((n - m) % n) := ⟨_, rfl⟩
  obtain ⟨O, hO⟩ : ∃ O : Nat → Nat, O = fun j => cor (Pn.pl xs) (Pn.pl ys) n j % 18446744069414584321 := ⟨_, rfl⟩
  rw [← hO]
  have V1 := Lib.hid (fun W (b : Below w.heap.size w W) p p2 bf bi bp (Z : Kf W W.heap.size k p p2 bf bi bp) => show Calls Tryd.prog 25 #[.pointer (some ⟨p, 0, none⟩), .slice B n cb] W (RwN G n W) from by
    rw [hG]; exact values k n cb n B ys (by omega) hn hy (Nat.le_refl _) h0 (hT.below b) Z (Rb.step b))
  have V2 := Lib.hid (fun W (b : Below w.heap.size w W) p p2 bf bi bp (Z : Kf W W.heap.size k p p2 bf bi bp) => show Calls Tryd.prog 25 #[.pointer (some ⟨p, 0, none⟩), .slice A n ca] W (RwN F n W) from by
    rw [hF]; exact values k n ca n A xs (by omega) hn hx (Nat.le_refl _) h0 (hT.below b) Z (Ra.step b))
  have fF : ∀ i, F i < 18446744069414584321 := by rw [hF]; exact fun i => ft_lt _ _ _ _
  have fG : ∀ i, G i < 18446744069414584321 := by rw [hG]; exact fun i => ft_lt _ _ _ _
  have fR : ∀ i, R i < 18446744069414584321 := by rw [hR]; exact fun i => fG _
  have RV := Lib.hid (fun W b o (ho : o = 1 ∨ n = 1) (K : Wk W b 0 n G) (s : b < W.heap.size) => show Calls Tryd.prog 26 #[.slice (some ⟨b, o, none⟩) l l] W fun e w' => e = .returned (.tuple #[]) ∧ JR b n R W w' from by
    rw [hR]; exact reverse_rest b n o l G ho hl1 h0 hl W ⟨K, But.refl _ _, s⟩)
  have TM := Lib.hid (fun W b1 b2 (K1 : Wk W b1 0 n F) (s1 : b1 < W.heap.size) (K2 : Wk W b2 0 n R) (s2 : b2 < W.heap.size) =>
    times (some ⟨b1, 0, none⟩) (some ⟨b2, 0, none⟩) n n n (rg F n) (rg R n) (rg_len _ _) (rg_len _ _) hl W (wk_ws K1 fF s1) (wk_ws K2 fR s2))
  have RO := Lib.hid (fun W b p p2 bf bi bp (hb : Below w.heap.size w W) (Z : Kf W b k p p2 bf bi bp) (K : Wk W b 0 n (fun i => Pn.pl (rg F n) i * Pn.pl (rg R n) i % 18446744069414584321)) (s : b < W.heap.size) (lo : w.heap.size ≤ b) =>
    show Calls Tryd.prog 27 #[.pointer (some ⟨p, 0, none⟩), .slice (some ⟨b, 0, none⟩) n n] W fun e w' => e = .returned (.slice (some ⟨b, 0, none⟩) n n) ∧ RwE O n w (.returned (.tuple #[.slice (some ⟨b, 0, none⟩) n n, .int .i64 0])) w' from
    (rowOf k b n n _ (by omega) hn (Nat.le_refl _) (fun i _ => Nat.lt_trans (Nat.mod_lt _ (by decide)) (by decide)) (hT.below hb) Z ⟨K, But.refl _ _, s⟩).mono fun e w' ⟨h1, J⟩ => ⟨h1, b, rfl, lo, J.s, wk_congr J.k (fun i hi => by
      rw [hO]
      show ft k 1 (fun i => Pn.pl (rg F n) i * Pn.pl (rg R n) i % 18446744069414584321) i = cor (Pn.pl xs) (Pn.pl ys) n i % 18446744069414584321
      rw [ft_congr (y := fun m => ft k 0 (Pn.pl xs) m * ft k 0 (Pn.pl ys) ((2 ^ k - m) % 2 ^ k) % 18446744069414584321) (fun j hj => by
        show Pn.pl (rg F n) j * Pn.pl (rg R n) j % 18446744069414584321 = ft k 0 (Pn.pl xs) j * ft k 0 (Pn.pl ys) ((2 ^ k - j) % 2 ^ k) % 18446744069414584321
        rw [pl_rg _ _ _ (by omega), pl_rg _ _ _ (by omega), hR, hF, hG, hn]) 1 i, hn]
      exact cor_ft _ _ k (by omega) i (by omega)), hb.trans (J.bel.mono lo)⟩)
  have SR := Lib.hid (fun b => slice_rest b n l h0 hl1)
  clear hl1
  clear fF fG fR hF hG hR hO hx hy hT Ra Rb hk hn h0 hl
  go_enter Tryd.func9, Tryd.ntmps9
  go_wp2_with fail
  refine E.out.mono ?_
  rintro e w1 ⟨rfl, rfl⟩
  clear E
  go_wp2_with fail
  refine NE.out.mono ?_
  rintro e w1 ⟨p, p2, bf, bi, bp, rfl, Z1, d1⟩
  have C1 := Lib.hid (V1.out w1 d1 p p2 bf bi bp Z1)
  clear NE V1
  go_wp2_with fail
  refine C1.out.mono ?_
  rintro e w2 ⟨b1, rfl, o1, s1, K1, d2⟩
  obtain ⟨o, ho, sl⟩ := SR.out b1
  have C2 := Lib.hid (RV.out w2 b1 o ho K1 s1)
  have Z2 := Z1.below d2
  have D2 := d1.trans (d2.mono d1.size)
  clear C1 RV SR Z1 K1 s1 ho
  have z1 := d2.size
  have z0 := d1.size
  clear d2 d1
  go_wp2_with fail
  refine C2.out.mono ?_
  rintro e w3 ⟨rfl, J⟩
  have D3 := D2.trans (J.bel.mono (Nat.le_trans z0 o1))
  have Z3 := (Z2.below (J.bel.mono o1)).more (Nat.le_trans z1 J.bel.size)
  have K1 := J.k
  have s1 := J.s
  have C3 := Lib.hid (V2.out w3 D3 p p2 bf bi bp Z3)
  clear C2 V2 Z2 D2 J o1 z1 z0 sl
  go_wp2_with fail
  refine C3.out.mono ?_
  rintro e w4 ⟨b2, rfl, o2, s2, K2, d4⟩
  have D4 := D3.trans (d4.mono D3.size)
  have Z4 := Z3.step d4
  have C4 := Lib.hid (TM.out w4 b2 b1 K2 s2 (K1.below s1 d4) (Nat.lt_of_lt_of_le s1 d4.size))
  clear C3 TM D3 Z3 K1 s1 K2 s2 d4 o2
  go_wp2_with fail
  refine C4.out.mono ?_
  rintro e w5 ⟨b3, rfl, o3, s3, K3, d5⟩
  have D5 := D4.trans (d5.mono D4.size)
  have C5 := Lib.hid (RO.out w5 b3 p p2 bf bi bp D5 ((Z4.below d5).more o3) K3 s3 (Nat.le_trans D4.size o3))
  clear C4 RO D4 D5 Z4 K3 s3 d5 o3
  go_wp2_with fail
  refine C5.out.mono ?_
  rintro e w6 ⟨rfl, OK⟩
  have OK := Lib.hid OK
  clear C5
  go_wp2
  exact bodyPost_ret (v := .tuple #[.slice (some ⟨b3, 0, none⟩) n n, .int .i64 0]) (by simp [results, Tryd.results9, go_sem]) rfl OK.out
end Cv
end Go.Proofs.YtnnieiedkjekpaaDoor
