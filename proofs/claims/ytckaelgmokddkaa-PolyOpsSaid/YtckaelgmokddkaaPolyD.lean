/- Contracts of package poly: Scale, Derive, DivLinear. -/
import Derived.Test.YtckaelgmokddkaaPolyC
import Derived.Deep.RegionHeld3
import Derived.Deep.RegionWith
import Derived.Deep.DeepCutAuto
set_option linter.unusedVariables false
namespace Go.Proofs.Ytckaelgmokddkaa
open Go.RowKit Go.Lib Go.Sort
namespace Pl
open Ww Pn Nt

/-- A slice that lies in no block below B. -/
def New (B : Nat) (A : Option Addr) : Prop := ∀ p : Addr, A = some p → B ≤ p.block
theorem New.mk_ {B b : Nat} (h : B ≤ b) : New B (some ⟨b, 0, none⟩) := fun p hp => by injection hp with hp; subst hp; exact h
theorem New.less {B B' : Nat} {A : Option Addr} (h : New B A) (hB : B' ≤ B) : New B' A := fun p hp => Nat.le_trans hB (h p hp)
/-- A polynomial that a call answers, in a block of its own. -/
def PoN (c : Nat → Nat) (w : World) (e : Ending) (w' : World) : Prop :=
  ∃ zs A cap, Nf 18446744069414584321 zs ∧ (∀ i, pl zs i = c i % 18446744069414584321) ∧ e = .returned (.slice A zs.length cap) ∧ Ws w' w'.heap.size A zs ∧ Below w.heap.size w w' ∧ New w.heap.size A
theorem PoN.po {c : Nat → Nat} {w w' : World} {e : Ending} (h : PoN c w e w') : Po c w e w' := by
  obtain ⟨zs, A, cap, h1, h2, h3, h4, h5, _⟩ := h
  exact ⟨zs, A, cap, h1, h2, h3, h4, h5⟩
theorem PoN.ret {c : Nat → Nat} {w w' : World} {e : Ending} (h : PoN c w e w') : ∃ (zs : List Nat) (A : Option Addr) (cap : Nat), e = .returned (.slice A zs.length cap) ∧ PoN c w (.returned (.slice A zs.length cap)) w' := by
  obtain ⟨zs, A, cap, h1, h2, h3, h4⟩ := h
  exact ⟨zs, A, cap, h3, zs, A, cap, h1, h2, rfl, h4⟩
theorem PoN.of_trim {c g : Nat → Nat} {n : Nat} {w w1 w' : World} {e : Ending} (h1 : ∀ i, i < n → g i % 18446744069414584321 = c i % 18446744069414584321) (h2 : ∀ i, n ≤ i → c i % 18446744069414584321 = 0)
    (hb : Below w.heap.size w w1) (h : TrOut (rg g n) w1 e w') : PoN c w e w' :=
  ⟨tr 18446744069414584321 (rg g n), some ⟨w1.heap.size, 0, none⟩, _, tr_nf (by decide) _, (fun i => by
    rw [pl_tr]
    by_cases hi : i < n
    · rw [pl_rg g n i hi, h1 i hi]
    · rw [pl_far _ i (by rw [rg_len]; omega), h2 i (by omega), Nat.zero_mod]), h.1, h.ws, hb.trans (h.2.2.2.mono hb.size), New.mk_ hb.size⟩

set_option maxHeartbeats 1000000 in
set_option maxRecDepth 100000 in
theorem scale_new (A : Option Addr) (ca : Nat) (xs : List Nat) (a : Nat) (ha : a < 18446744073709551616) (hn : xs.length ≤ 1048576) (w : World) (R : Ws w w.heap.size A xs) :
    Calls Try.prog 21 #[.slice A xs.length ca, .int .u64 (a : Nat)] w (PoN (fun i => a * pl xs i) w) := by
  obtain ⟨G, hG⟩ : ∃ G : Nat → Nat, G = fun i => pl xs i * a % 18446744069414584321 := ⟨_, rfl⟩
  have OUT := Lib.hid (fun (w1 w' : World) e (hb : Below w.heap.size w w1) (h : TrOut (rg G xs.length) w1 e w') => show PoN (fun i => a * pl xs i) w e w' from
    PoN.of_trim (fun i _ => by rw [hG]; show pl xs i * a % _ % _ = _; rw [Nat.mod_mod, Nat.mul_comm]) (fun i hi => by rw [pl_far xs i hi, Nat.mul_zero]) hb h)
  have G64 := Lib.hid (fun i => show G i < 18446744073709551616 by rw [hG]; exact mod64 _)
  have MU := Lib.hid (fun i W (h : pl xs i < 18446744073709551616) => show Calls Try.prog 34 #[.int .u64 (pl xs i : Nat), .int .u64 (a : Nat)] W fun e w' => e = .returned (.int .u64 (G i : Nat)) ∧ Below W.heap.size W w' by rw [hG]; exact Gd.mul (pl xs i) a h ha W)
  have mk := make_words xs.length (by omega) (by omega)
  have ST := Lib.hid (Bd.start (w := w) (w1 := w) (D := fun j => j < 0) G xs.length (Below.refl _ _) 23 (fun j hj => by omega))
  clear hG ha
  generalize (fun i => a * pl xs i) = cf at *
  go_enter Try.func21, Try.ntmps21
  go_wp2_with fail
  go_loopw [13] (fun v13 wr => ∃ i : Nat, v13 = .int .i64 (i : Int) ∧ i ≤ xs.length ∧ Bd G xs.length w.heap.size w wr (fun j => j < i)) (fun v13 _ => xs.length - (Lib.intOf v13).toNat)
  case atStart => exact ⟨0, rfl, Nat.zero_le _, ST.out⟩
  case round =>
    obtain ⟨i, rfl, hi, BD⟩ := hrel
    clear ST mk
    by_cases hlt : i < xs.length
    · have i1 : (i : Int) < xs.length := by omega
      have R1 := R.below BD.bel
      obtain ⟨b, off, rfl, hB, c⟩ := R1.at_ i hlt
      have c2 : wr.cell? ⟨b, off + i, none⟩ = some (.int .u64 (pl xs i : Nat)) := c
      have hl := R1.lt i hlt
      have M := Lib.hid (fun W => MU.out i W hl)
      have PUT := Lib.hid (fun w1 (h : Below wr.heap.size wr w1) => (BD.call h).put i hlt (D' := fun j => j < i + 1) (fun j hj => by omega))
      clear c hl
      generalize pl xs i = x at *
      generalize G i = g at *
      go_wp2_with fail
      refine (M.out _).mono ?_
      rintro e w1 ⟨rfl, hb⟩
      have BD1 := BD.call hb
      obtain ⟨⟨v, k0⟩, k1⟩ := BD1.at_ i hlt
      have PT := Lib.hid (PUT.out w1 hb)
      clear PUT BD1
      go_wp2_with fail
      go_roundw
      case rel => exact ⟨i + 1, rfl, by omega, PT.out⟩
      case measure => simp [Lib.intOf]; omega
    · have i1 : ¬ (i : Int) < xs.length := by omega
      obtain rfl : i = xs.length := by omega
      have R1 := BD.ws (fun _ h => h) G64.out
      have hbl := BD.bel
      have T := trim_out (some ⟨w.heap.size, 0, none⟩) xs.length (rg G xs.length) (by rw [rg_len]; omega) wr R1
      rw [rg_len] at T
      have T := Lib.hid T
      go_wp2_with fail
      refine T.out.mono ?_
      rintro e w1 hT
      obtain ⟨zs, A2, c2, rfl, OK⟩ := PoN.ret (OUT.out _ _ _ hbl hT)
      have OK := Lib.hid OK
      clear hT
      go_wp2
      exact bodyPost_ret (v := .slice A2 zs.length c2) (by simp [results, Try.results21, go_sem]) rfl OK.out
theorem scale (A : Option Addr) (ca : Nat) (xs : List Nat) (a : Nat) (ha : a < 18446744073709551616) (hn : xs.length ≤ 1048576) (w : World) (R : Ws w w.heap.size A xs) :
    Calls Try.prog 21 #[.slice A xs.length ca, .int .u64 (a : Nat)] w (Po (fun i => a * pl xs i) w) := (scale_new A ca xs a ha hn w R).mono fun _ _ h => h.po

theorem max0 (n : Nat) : max (0 : Int) ((n : Int) - 1) = ((n - 1 : Nat) : Int) := by omega
set_option maxHeartbeats 1000000 in
set_option maxRecDepth 100000 in
theorem derive (A : Option Addr) (ca : Nat) (xs : List Nat) (hn : xs.length ≤ 1048576) (w : World) (R : Ws w w.heap.size A xs) :
    Calls Try.prog 22 #[.slice A xs.length ca] w (Po (dv (pl xs)) w) := by
  obtain ⟨G, hG⟩ : ∃ G : Nat → Nat, G = fun i => pl xs (i + 1) * (i + 1) % 18446744069414584321 := ⟨_, rfl⟩
  obtain ⟨n, hN⟩ : ∃ n : Nat, n = xs.length - 1 := ⟨_, rfl⟩
  have OUT := Lib.hid (fun (w1 w' : World) e (hb : Below w.heap.size w w1) (h : Row (tr 18446744069414584321 (rg G n)) w1 e w') => show Po (dv (pl xs)) w e w' from
    Po.of_trim (fun i _ => by rw [hG]; show pl xs (i + 1) * (i + 1) % _ % _ = _; rw [Nat.mod_mod, Nat.mul_comm]; rfl) (fun i hi => by unfold dv; rw [pl_far xs (i + 1) (by omega), Nat.mul_zero]) hb h)
  have G64 := Lib.hid (fun i => show G i < 18446744073709551616 by rw [hG]; exact mod64 _)
  have MU := Lib.hid (fun i W (h : pl xs (i + 1) < 18446744073709551616) (h2 : i + 1 < 18446744073709551616) => show Calls Try.prog 34 #[.int .u64 (pl xs (i + 1) : Nat), .int .u64 ((i + 1 : Nat) : Int)] W fun e w' => e = .returned (.int .u64 (G i : Nat)) ∧ Below W.heap.size W w' by rw [hG]; exact Gd.mul (pl xs (i + 1)) (i + 1) h h2 W)
  have mk := make_words n (by omega) (by omega)
  have ST := Lib.hid (Bd.start (w := w) (w1 := w) (D := fun j => j < 0) G n (Below.refl _ _) 23 (fun j hj => by omega))
  have hmax : max (0 : Int) ((xs.length : Int) - 1) = (n : Int) := by omega
  have hn1 : n ≤ 1048576 := by omega
  have hn2 : ∀ i, i < n → i + 1 < xs.length := by intro i hi; omega
  have H2 := Lib.hid hn2
  clear hG hN hn2
  generalize dv (pl xs) = cf at *
  go_enter Try.func22, Try.ntmps22
  go_wp2_with fail
  go_loopw [12] (fun v12 wr => ∃ i : Nat, v12 = .int .i64 (i : Int) ∧ i ≤ n ∧ Bd G n w.heap.size w wr (fun j => j < i)) (fun v12 _ => n - (Lib.intOf v12).toNat)
  case atStart => exact ⟨0, rfl, Nat.zero_le _, ST.out⟩
  case round =>
    obtain ⟨i, rfl, hi, BD⟩ := hrel
    clear ST mk
    by_cases hlt : i < n
    · have i1 : (i : Int) < n := by omega
      have i0 := H2.out i hlt
      have i2 : (i : Int) + 1 < xs.length := by omega
      obtain ⟨z, hz⟩ : ∃ z : Nat, z = i + 1 := ⟨_, rfl⟩
      have zi : IntKind.i64.wrap ((i : Int) + 1) = (z : Int) := by rw [IntKind.wrap_i64]; omega
      have zu := Bt.wrapN z (by omega)
      have z2 : (z : Int) < xs.length := by omega
      rw [← hz] at i0
      have R1 := R.below BD.bel
      obtain ⟨b, off, rfl, hB, c⟩ := R1.at_ z i0
      have c2 : wr.cell? ⟨b, off + z, none⟩ = some (.int .u64 (pl xs z : Nat)) := c
      have hl := R1.lt z i0
      have M := MU.out i
      rw [← hz] at M
      have M := Lib.hid (fun W => M W hl (by omega))
      obtain ⟨⟨v0, m0⟩, m1⟩ := BD.at_ i hlt
      have PUT := Lib.hid (fun w1 (h : Below wr.heap.size wr w1) => (BD.call h).put i hlt (D' := fun j => j < i + 1) (fun j hj => by omega))
      have HZ := Lib.hid hz
      clear c hl hz i2
      generalize pl xs z = x at *
      generalize G i = g at *
      go_wp2_with fail
      refine (M.out _).mono ?_
      rintro e w1 ⟨rfl, hb⟩
      have BD1 := BD.call hb
      obtain ⟨⟨v, k0⟩, k1⟩ := BD1.at_ i hlt
      have PT := Lib.hid (PUT.out w1 hb)
      clear PUT BD1
      go_wp2_with fail
      go_roundw
      case rel => exact ⟨i + 1, by rw [HZ.out], by omega, PT.out⟩
      case measure => have := HZ.out; simp [Lib.intOf]; omega
    · have i1 : ¬ (i : Int) < n := by omega
      obtain rfl : i = n := by omega
      have R1 := BD.ws (fun _ h => h) G64.out
      have hbl := BD.bel
      have T := trim (some ⟨w.heap.size, 0, none⟩) i (rg G i) (by rw [rg_len]; omega) wr R1
      rw [rg_len] at T
      have T := Lib.hid T
      go_wp2_with fail
      refine T.out.mono ?_
      rintro e w1 hT
      obtain ⟨zs, A2, c2, rfl, OK⟩ := Po.ret (OUT.out _ _ _ hbl hT)
      have OK := Lib.hid OK
      clear hT
      go_wp2
      exact bodyPost_ret (v := .slice A2 zs.length c2) (by simp [results, Try.results22, go_sem]) rfl OK.out

/-- What DivLinear answers of a trimmed row ys: the values of what is behind each place, and its own value. -/
def DlOut (ys : List Nat) (a : Nat) (w : World) (e : Ending) (w' : World) : Prop :=
  ∃ A cap r, e = .returned (.tuple #[.slice A (ys.length - 1) cap, .int .u64 (r : Nat)]) ∧ r = evl a ys % 18446744069414584321 ∧ Ws w' w'.heap.size A (rg (fun i => evl a (ys.drop (i + 1)) % 18446744069414584321) (ys.length - 1)) ∧ Below w.heap.size w w'

/-- The same, in a block of its own. -/
def DlNew (ys : List Nat) (a : Nat) (w : World) (e : Ending) (w' : World) : Prop :=
  ∃ A cap r, e = .returned (.tuple #[.slice A (ys.length - 1) cap, .int .u64 (r : Nat)]) ∧ r = evl a ys % 18446744069414584321 ∧ Ws w' w'.heap.size A (rg (fun i => evl a (ys.drop (i + 1)) % 18446744069414584321) (ys.length - 1)) ∧ Below w.heap.size w w' ∧ New w.heap.size A

set_option maxHeartbeats 2000000 in
set_option maxRecDepth 100000 in
theorem divLinear_new (A : Option Addr) (ca : Nat) (xs : List Nat) (a : Nat) (ha : a < 18446744073709551616) (hn : xs.length ≤ 1048576) (w : World) (R : Ws w w.heap.size A xs) :
    Calls Try.prog 24 #[.slice A xs.length ca, .int .u64 (a : Nat)] w (DlNew (tr 18446744069414584321 xs) a w) := by
  have TR := Lib.hid (trim A ca xs hn w R)
  have hl0 := tr_len_le 18446744069414584321 xs
  generalize tr 18446744069414584321 xs = ys at *
  obtain ⟨G, hG⟩ : ∃ G : Nat → Nat, G = fun i => evl a (ys.drop (i + 1)) % 18446744069414584321 := ⟨_, rfl⟩
  obtain ⟨n, hN⟩ : ∃ n : Nat, n = ys.length - 1 := ⟨_, rfl⟩
  have OUT := Lib.hid (fun (A : Option Addr) (cap r : Nat) (w' : World) (hr : r = evl a (ys.drop 0) % 18446744069414584321) (hR : Ws w' w'.heap.size A (rg G n)) (hb : Below w.heap.size w w') (hA : New w.heap.size A) =>
    show DlNew ys a w (.returned (.tuple #[.slice A n cap, .int .u64 (r : Nat)])) w' from ⟨A, cap, r, by rw [hN], hr, by rw [← hN, ← hG]; exact hR, hb, hA⟩)
  have G64 := Lib.hid (fun i => show G i < 18446744073709551616 by rw [hG]; exact mod64 _)
  have GE := Lib.hid (fun i => show evl a (ys.drop (i + 1)) % 18446744069414584321 = G i by rw [hG])
  have ST := Lib.hid (fun k v hv => at_step ys a k v hv)
  have S0 := Lib.hid (show 0 = evl a (ys.drop ys.length) % 18446744069414584321 by rw [List.drop_length]; rfl)
  have V64 := Lib.hid (fun k => mod64 (evl a (ys.drop k)))
  have M := Lib.hid (fun v (h : v < 18446744073709551616) W => Gd.mul v a h ha W)
  have AD := Lib.hid (fun v k (h : v < 18446744073709551616) (h2 : pl ys k < 18446744073709551616) W => Gd.add v (pl ys k) h h2 W)
  have M64 := Lib.hid (fun v => mod64 (v * a))
  have mk := make_words n (by omega) (by omega)
  have hmax : max (0 : Int) ((ys.length : Int) - 1) = (n : Int) := by omega
  have hn1 : n ≤ 1048576 := by omega
  have hn2 : ∀ j, j < n ↔ j + 1 < ys.length := by intro j; omega
  have H2 := Lib.hid hn2
  clear hG hN ha hn2
  go_enter Try.func24, Try.ntmps24
  go_wp2_with fail
  refine TR.out.mono ?_
  rintro e w1 ⟨A1, c1, rfl, R1, hb1⟩
  have ST0 := Lib.hid (Bd.start (w := w) (w1 := w1) (D := fun j => ys.length ≤ j) G n hb1 23 (fun j hj => by have := H2.out j; omega))
  have hs0 := hb1.size
  clear TR
  go_wp2_with fail
  go_loopw [5, 6] (fun v5 v6 wr => ∃ (k v : Nat) (z : Int), v6 = .int .i64 z ∧ v5 = .int .u64 (v : Nat) ∧ z = (k : Int) - 1 ∧ k ≤ ys.length ∧ v = evl a (ys.drop k) % 18446744069414584321 ∧ Bd G n w1.heap.size w wr (fun j => k ≤ j) ∧ Ws wr w1.heap.size A1 ys) (fun _ v6 _ => (Lib.intOf v6 + 1).toNat)
  case atStart => exact ⟨ys.length, 0, _, rfl, rfl, rfl, Nat.le_refl _, S0.out, ST0.out, R1.alloc (Nat.le_refl _) _⟩
  case round =>
    obtain ⟨k, v, z, rfl, rfl, hz, hk, hv, BD, RY⟩ := hrel
    clear S0 ST0 mk R1
    cases k with
    | zero =>
      obtain rfl : z = -1 := by simpa using hz
      have OK := Lib.hid (OUT.out (some ⟨w1.heap.size, 0, none⟩) n v wr hv (BD.ws (fun _ _ => Nat.zero_le _) G64.out) BD.bel (New.mk_ hs0))
      clear hz hv BD
      go_wp2
      exact bodyPost_ret (v := .tuple #[.slice (some ⟨w1.heap.size, 0, none⟩) n n, .int .u64 (v : Nat)]) (by simp [results, Try.results24, go_sem]) rfl OK.out
    | succ j =>
      obtain rfl : z = (j : Int) := by simpa using hz
      have j0 : (0 : Int) ≤ j := by omega
      have j1 : (j : Int) < ys.length := by omega
      have hl := RY.lt j (by omega)
      have E := Lib.hid (ST.out j v hv)
      have hv64 : v < 18446744073709551616 := by rw [hv]; exact V64.out _
      have hvG := Lib.hid (hv.trans (GE.out j))
      have D1 := Lib.hid (fun W d os => Calls.regrown_of (M.out v hv64 (grow (redrawn W d) os)))
      have D2 := Lib.hid (fun W d os => Calls.regrown_of ((AD.out (v * a % 18446744069414584321) j (M64.out v) hl (grow (redrawn W d) os)).mono fun _ _ h => ⟨h.1, h.2 ▸ Below.refl _ _⟩))
      clear hz hv hv64 hl
      by_cases hjn : j < n
      · have j2 : (j : Int) < n := by omega
        obtain ⟨⟨v0, k0⟩, k1⟩ := BD.at_ j hjn
        have BD1 := BD.put j hjn (D' := fun i => j ≤ i) (fun i hi => by omega)
        rw [← hvG.out] at BD1
        have RY1 := RY.setCell (p := ⟨w1.heap.size, j, none⟩) (Nat.le_refl _) (.int .u64 (v : Nat))
        have BD1 := Lib.hid BD1
        have RY1 := Lib.hid RY1
        clear BD RY
        go_upto_region 8 with fail
        generalize wr.setCell ⟨w1.heap.size, j, none⟩ (.int .u64 (v : Nat)) = w2 at *
        clear k0 k1
        have RY := RY1.out
        have BD := BD1.out
        obtain ⟨b, off, rfl, hB, c⟩ := RY.at_ j (by omega)
        have c2 : w2.cell? ⟨b, off + j, none⟩ = some (.int .u64 (pl ys j : Nat)) := c
        have q2 := cell_regrown c2
        clear c
        generalize pl ys j = y at *
        generalize v * a % 18446744069414584321 = m at *
        obtain ⟨v', hv'⟩ : ∃ v', v' = (m + y) % 18446744069414584321 := ⟨_, rfl⟩
        rw [← hv'] at D2 E
        clear hv'
        refine wp_region_quiet_below (by as_aux_lemma => kernel_rfl) (by as_aux_lemma => kernel_rfl) ?_
        repeat (go_big_quiet_step ((first
          | (go_at_call 34; with_reducible exact D1.out _ _ _)
          | (go_at_call 33; with_reducible exact D2.out _ _ _))))
        refine wpQuiet_nil ?_
        intro _ hw'
        obtain ⟨⟨dq, osq⟩, hw''⟩ := hw'
        subst hw''
        have hb := below_regrown w2 dq osq
        have BD5 := BD.call hb
        have RY5 := RY.below (hb.mono (Nat.le_of_lt BD.s))
        clear q2 c2 D1 D2 hb BD RY BD1 RY1
        show Exit.inBlock _ _ _ _ (grow (redrawn w2 dq) osq)
        generalize grow (redrawn w2 dq) osq = w5 at *
        go_wp2_with fail
        go_roundw
        case rel => exact ⟨j, v', (j : Int) - 1, rfl, rfl, rfl, by omega, E.out, BD5, RY5⟩
        case measure => simp [Lib.intOf]
      · have j2 : ¬ (j : Int) < n := by omega
        obtain ⟨b, off, rfl, hB, c⟩ := RY.at_ j (by omega)
        have c2 : wr.cell? ⟨b, off + j, none⟩ = some (.int .u64 (pl ys j : Nat)) := c
        have q2 := cell_regrown c2
        clear c
        generalize pl ys j = y at *
        generalize v * a % 18446744069414584321 = m at *
        obtain ⟨v', hv'⟩ : ∃ v', v' = (m + y) % 18446744069414584321 := ⟨_, rfl⟩
        rw [← hv'] at D2 E
        clear hv'
        go_wp2_with fail
        refine wp_region_quiet_below (by as_aux_lemma => kernel_rfl) (by as_aux_lemma => kernel_rfl) ?_
        repeat (go_big_quiet_step ((first
          | (go_at_call 34; with_reducible exact D1.out _ _ _)
          | (go_at_call 33; with_reducible exact D2.out _ _ _))))
        refine wpQuiet_nil ?_
        intro _ hw'
        obtain ⟨⟨dq, osq⟩, hw''⟩ := hw'
        subst hw''
        have hb := below_regrown wr dq osq
        have BD5 : Bd G n w1.heap.size w (grow (redrawn wr dq) osq) (fun i => j ≤ i) := by
          obtain ⟨⟨f, K, hf⟩, h2, h3, h4⟩ := BD.call hb
          exact ⟨⟨f, K, fun i hi hin => hf i (by omega) hin⟩, h2, h3, h4⟩
        have RY5 := RY.below (hb.mono (Nat.le_of_lt BD.s))
        clear q2 c2 D1 D2 hb BD RY
        show Exit.inBlock _ _ _ _ (grow (redrawn wr dq) osq)
        generalize grow (redrawn wr dq) osq = w5 at *
        go_wp2_with fail
        go_roundw
        case rel => exact ⟨j, v', (j : Int) - 1, rfl, rfl, rfl, by omega, E.out, BD5, RY5⟩
        case measure => simp [Lib.intOf]
theorem divLinear (A : Option Addr) (ca : Nat) (xs : List Nat) (a : Nat) (ha : a < 18446744073709551616) (hn : xs.length ≤ 1048576) (w : World) (R : Ws w w.heap.size A xs) :
    Calls Try.prog 24 #[.slice A xs.length ca, .int .u64 (a : Nat)] w (DlOut (tr 18446744069414584321 xs) a w) :=
  (divLinear_new A ca xs a ha hn w R).mono fun _ _ ⟨A1, c1, r, h1, h2, h3, h4, _⟩ => ⟨A1, c1, r, h1, h2, h3, h4⟩
end Pl
end Go.Proofs.Ytckaelgmokddkaa
