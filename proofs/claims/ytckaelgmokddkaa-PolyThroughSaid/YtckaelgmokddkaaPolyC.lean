/- Contracts of package poly: Degree, Trim, At, Scale, Derive, DivLinear. -/
import Derived.Test.YtckaelgmokddkaaPolyB
import Derived.Lib.QuietBelow
set_option linter.unusedVariables false
namespace Go.Proofs.Ytckaelgmokddkaa
open Go.RowKit Go.Lib Go.Sort
namespace Pl
open Ww Pn Nt

/-- A block of one's own of n words, of which those at D are g's. -/
structure Bd (g : Nat → Nat) (n b : Nat) (w wr : World) (D : Nat → Prop) : Prop where
  k : ∃ f, Wk wr b 0 n f ∧ ∀ j, D j → j < n → f j = g j
  s : b < wr.heap.size
  hb : w.heap.size ≤ b
  bel : Below w.heap.size w wr
section
variable {g : Nat → Nat} {n b : Nat} {w wr w1 : World} {D : Nat → Prop}
theorem Bd.start (g : Nat → Nat) (n : Nat) (hw : Below w.heap.size w w1) (e : TypeId) (hD : ∀ j, D j → ¬ j < n) : Bd g n w1.heap.size w (w1.alloc (.cells (madeCells #[.int .u64 0] n) e)) D :=
  ⟨⟨_, Wk.made w1 n e, fun j hj h => absurd h (hD j hj)⟩, by simp, hw.size, hw.alloc hw.size _⟩
theorem Bd.call (h : Bd g n b w wr D) (hc : Below wr.heap.size wr w1) : Bd g n b w w1 D := by
  obtain ⟨f, K, hf⟩ := h.k
  exact ⟨⟨f, K.step hc, hf⟩, Nat.lt_of_lt_of_le h.s hc.size, h.hb, h.bel.trans (hc.mono h.bel.size)⟩
theorem Bd.put (h : Bd g n b w wr D) (i : Nat) (hi : i < n) {D' : Nat → Prop} (hD : ∀ j, D' j → D j ∨ j = i) : Bd g n b w (wr.setCell ⟨b, i, none⟩ (.int .u64 (g i : Nat))) D' := by
  obtain ⟨f, K, hf⟩ := h.k
  have K1 := K.put i (g i) hi
  rw [Nat.zero_add] at K1
  refine ⟨⟨_, K1, fun j hj hn => ?_⟩, by simp [World.setCell]; exact h.s, h.hb, h.bel.setCell h.hb _⟩
  by_cases e : j = i
  · subst e; rw [upd_same]
  · rw [upd_other _ _ _ e]; exact hf j ((hD j hj).resolve_right e) hn
theorem Bd.at_ (h : Bd g n b w wr D) (i : Nat) (hi : i < n) : (∃ v : Nat, wr.cell? ⟨b, i, none⟩ = some (.int .u64 (v : Nat))) ∧ wr.frozen? ⟨b, i, none⟩ = false := by
  obtain ⟨f, K, hf⟩ := h.k
  have c := K.c i hi
  have z := K.z i hi
  rw [Nat.zero_add] at c z
  exact ⟨⟨_, c⟩, z⟩
theorem Bd.wk (h : Bd g n b w wr D) (hD : ∀ j, j < n → D j) : Wk wr b 0 n g := by
  obtain ⟨f, K, hf⟩ := h.k
  exact ⟨fun i hi => by rw [K.c i hi, hf i (hD i hi) hi], K.z⟩
theorem Bd.ws (h : Bd g n b w wr D) (hD : ∀ j, j < n → D j) (hg : ∀ i, g i < 18446744073709551616) : Ws wr wr.heap.size (some ⟨b, 0, none⟩) (rg g n) := (h.wk hD).ws (fun i _ => hg i) h.s
end

theorem dg_zero (m : Nat) (xs : List Nat) : dg m xs 0 = 0 := rfl
set_option maxHeartbeats 1000000 in
set_option maxRecDepth 100000 in
theorem degree (A : Option Addr) (ca : Nat) (xs : List Nat) (hn : xs.length ≤ 1048576) {B : Nat} (w : World) (R : Ws w B A xs) :
    Calls Try.prog 14 #[.slice A xs.length ca] w fun e w' => e = .returned (.int .i64 (((tr 18446744069414584321 xs).length : Int) - 1)) ∧ w = w' := by
  rw [tr_len]
  have DS := Lib.hid (dg_succ 18446744069414584321 xs)
  have D0 := Lib.hid (dg_zero 18446744069414584321 xs)
  have OF := Lib.hid (fun i (h : pl xs i < 18446744073709551616) W => Gd.of (pl xs i) h W)
  generalize dg 18446744069414584321 xs = dgx at *
  obtain ⟨r, hr⟩ : ∃ r : Int, r = (dgx xs.length : Int) - 1 := ⟨_, rfl⟩
  rw [← hr]
  have HR := Lib.hid hr
  clear hr
  go_enter Try.func14, Try.ntmps14
  go_wp2_with fail
  go_loop [3] (fun v3 => ∃ (k : Nat) (z : Int), v3 = .int .i64 z ∧ z = (k : Int) - 1 ∧ k ≤ xs.length ∧ dgx xs.length = dgx k) (fun v3 => (Lib.intOf v3 + 1).toNat)
  case atStart => exact ⟨xs.length, _, rfl, rfl, Nat.le_refl _, rfl⟩
  case round =>
    obtain ⟨k, z, rfl, hz, hk, hd⟩ := hrel
    have HD := Lib.hid hd
    clear hd
    cases k with
    | zero =>
      obtain rfl : z = -1 := by simpa using hz
      clear hz
      go_wp2
      go_ret
      exact ⟨by rw [show r = -1 by rw [HR.out, HD.out, D0.out]; rfl]; rfl, rfl⟩
    | succ j =>
      obtain rfl : z = (j : Int) := by simpa using hz
      have j0 : (0 : Int) ≤ j := by omega
      have j1 : (j : Int) < xs.length := by omega
      obtain ⟨b, off, rfl, hB, c⟩ := R.at_ j (by omega)
      have c2 : w.cell? ⟨b, off + j, none⟩ = some (.int .u64 (pl xs j : Nat)) := c
      have O := Lib.hid (OF.out j (R.lt j (by omega)))
      have dn := DS.out j
      clear c hz
      generalize pl xs j = x at *
      by_cases hg : x % 18446744069414584321 = 0
      · rw [hg] at O
        rw [if_neg (by rw [hg]; simp)] at dn
        have H2 := Lib.hid (HD.out.trans dn)
        clear dn hg
        go_wp2_with fail
        refine (O.out _).mono ?_
        rintro e w1 ⟨rfl, rfl⟩
        go_wp2_with fail
        go_round
        case rel => exact ⟨j, (j : Int) - 1, rfl, rfl, by omega, H2.out⟩
        case measure => simp [Lib.intOf]
      · have g0 : (((x % 18446744069414584321 : Nat) : Int) == 0) = false := by rw [beq_eq_false_iff_ne]; omega
        rw [if_pos hg] at dn
        have H2 := Lib.hid (HD.out.trans dn)
        clear dn hg
        generalize x % 18446744069414584321 = g at *
        go_wp2_with fail
        refine (O.out _).mono ?_
        rintro e w1 ⟨rfl, rfl⟩
        go_wp2
        go_ret
        exact ⟨by rw [show r = (j : Int) by rw [HR.out, H2.out]; omega]; rfl, rfl⟩

/-- What poly.Trim answers: a block of its own. -/
def TrOut (xs : List Nat) (w : World) (e : Ending) (w' : World) : Prop :=
  e = .returned (.slice (some ⟨w.heap.size, 0, none⟩) (tr 18446744069414584321 xs).length (tr 18446744069414584321 xs).length) ∧ Wk w' w.heap.size 0 (tr 18446744069414584321 xs).length (fun i => pl xs i % 18446744069414584321) ∧ w.heap.size < w'.heap.size ∧ Below w.heap.size w w'
theorem TrOut.ws {xs : List Nat} {w w' : World} {e : Ending} (h : TrOut xs w e w') : Ws w' w'.heap.size (some ⟨w.heap.size, 0, none⟩) (tr 18446744069414584321 xs) := by
  have := h.2.1.ws (fun i _ => mod64 _) h.2.2.1
  rw [show (List.range (tr 18446744069414584321 xs).length).map (fun i => pl xs i % 18446744069414584321) = tr 18446744069414584321 xs from (tr_rg _ xs).symm] at this
  exact this
theorem TrOut.row {xs : List Nat} {w w' : World} {e : Ending} (h : TrOut xs w e w') : Row (tr 18446744069414584321 xs) w e w' := ⟨_, _, h.1, h.ws, h.2.2.2⟩

set_option maxHeartbeats 1000000 in
set_option maxRecDepth 100000 in
theorem trim_out (A : Option Addr) (ca : Nat) (xs : List Nat) (hn : xs.length ≤ 1048576) (w : World) (R : Ws w w.heap.size A xs) :
    Calls Try.prog 12 #[.slice A xs.length ca] w (TrOut xs w) := by
  have DE := Lib.hid (degree A ca xs hn w R)
  have TL := tr_len_le 18446744069414584321 xs
  have OF := Lib.hid (fun i (h : pl xs i < 18446744073709551616) W => Gd.of (pl xs i) h W)
  have OUT := Lib.hid (fun (w' : World) (h : Bd (fun i => pl xs i % 18446744069414584321) (tr 18446744069414584321 xs).length w.heap.size w w' (fun j => j < (tr 18446744069414584321 xs).length)) =>
    show TrOut xs w (.returned (.slice (some ⟨w.heap.size, 0, none⟩) (tr 18446744069414584321 xs).length (tr 18446744069414584321 xs).length)) w' from ⟨rfl, h.wk (fun _ h => h), h.s, h.bel⟩)
  obtain ⟨G, hG⟩ : ∃ G : Nat → Nat, G = fun i => pl xs i % 18446744069414584321 := ⟨_, rfl⟩
  have Gi : ∀ i, pl xs i % 18446744069414584321 = G i := fun i => by rw [hG]
  rw [← hG] at OUT
  simp only [Gi] at OF
  clear hG Gi
  generalize (tr 18446744069414584321 xs).length = n at *
  have mk := make_words n (by omega) (by omega)
  obtain ⟨z, hz⟩ : ∃ z : Int, z = (n : Int) - 1 := ⟨_, rfl⟩
  rw [← hz] at DE
  have zw : IntKind.i64.wrap (z + 1) = (n : Int) := by rw [IntKind.wrap_i64]; omega
  clear hz
  have ST := Lib.hid (Bd.start (w := w) (w1 := w) (D := fun j => j < 0) G n (Below.refl _ _) 23 (fun j hj => by omega))
  go_enter Try.func12, Try.ntmps12
  go_wp2_with fail
  refine DE.out.mono ?_
  rintro e w1 ⟨rfl, rfl⟩
  go_wp2_with fail
  go_loopw [11] (fun v11 wr => ∃ i : Nat, v11 = .int .i64 (i : Int) ∧ i ≤ n ∧ Bd G n w.heap.size w wr (fun j => j < i)) (fun v11 _ => n - (Lib.intOf v11).toNat)
  case atStart => exact ⟨0, rfl, Nat.zero_le _, ST.out⟩
  case round =>
    obtain ⟨i, rfl, hi, BD⟩ := hrel
    clear ST mk
    by_cases hlt : i < n
    · have i1 : (i : Int) < n := by omega
      have i2 : (i : Int) < xs.length := by omega
      have R1 := R.below BD.bel
      obtain ⟨b, off, rfl, hB, c⟩ := R1.at_ i (by omega)
      have c2 : wr.cell? ⟨b, off + i, none⟩ = some (.int .u64 (pl xs i : Nat)) := c
      have O := Lib.hid (OF.out i (R1.lt i (by omega)))
      obtain ⟨⟨v, k0⟩, k1⟩ := BD.at_ i hlt
      have PUT := Lib.hid (BD.put i hlt (D' := fun j => j < i + 1) (fun j hj => by omega))
      clear c
      generalize pl xs i = x at *
      generalize G i = g at *
      go_wp2_with fail
      refine (O.out _).mono ?_
      rintro e w1 ⟨rfl, rfl⟩
      go_wp2_with fail
      go_roundw
      case rel => exact ⟨i + 1, rfl, by omega, PUT.out⟩
      case measure => simp [Lib.intOf]; omega
    · have i1 : ¬ (i : Int) < n := by omega
      obtain rfl : i = n := by omega
      have OK := Lib.hid (OUT.out wr BD)
      clear BD
      go_wp2
      exact bodyPost_ret (v := .slice (some ⟨w.heap.size, 0, none⟩) i i) (by simp [results, Try.results12, go_sem]) rfl OK.out
theorem trim (A : Option Addr) (ca : Nat) (xs : List Nat) (hn : xs.length ≤ 1048576) (w : World) (R : Ws w w.heap.size A xs) :
    Calls Try.prog 12 #[.slice A xs.length ca] w (Row (tr 18446744069414584321 xs) w) := (trim_out A ca xs hn w R).mono fun _ _ h => h.row

theorem at_step (xs : List Nat) (x k v : Nat) (hv : v = evl x (xs.drop (k + 1)) % 18446744069414584321) : (v * x % 18446744069414584321 + pl xs k) % 18446744069414584321 = evl x (xs.drop k) % 18446744069414584321 := by
  rw [evl_drop x xs k, hv, Nat.mod_mul_mod, Nat.mod_add_mod, Nat.mul_comm, Nat.add_comm]
set_option maxHeartbeats 1000000 in
set_option maxRecDepth 100000 in
theorem pat (A : Option Addr) (ca : Nat) (xs : List Nat) (x : Nat) (hx : x < 18446744073709551616) (hn : xs.length ≤ 1048576) (w : World) (R : Ws w w.heap.size A xs) :
    Calls Try.prog 15 #[.slice A xs.length ca, .int .u64 (x : Nat)] w fun e w' => e = .returned (.int .u64 ((evl x xs % 18446744069414584321 : Nat) : Int)) ∧ Below w.heap.size w w' := by
  obtain ⟨r, hr⟩ : ∃ r, r = evl x xs % 18446744069414584321 := ⟨_, rfl⟩
  rw [← hr]
  have HR := Lib.hid hr
  have ST := Lib.hid (fun k v hv => at_step xs x k v hv)
  have S0 := Lib.hid (show 0 = evl x (xs.drop xs.length) % 18446744069414584321 by rw [List.drop_length]; rfl)
  have V64 := Lib.hid (fun k => mod64 (evl x (xs.drop k)))
  have M := Lib.hid (fun v (h : v < 18446744073709551616) W => Gd.mul v x h hx W)
  have AD := Lib.hid (fun v k (h : v < 18446744073709551616) (h2 : pl xs k < 18446744073709551616) W => Gd.add v (pl xs k) h h2 W)
  have M64 := Lib.hid (fun v => mod64 (v * x))
  clear hr hx
  go_enter Try.func15, Try.ntmps15
  go_wp2_with fail
  go_loopw [5, 6] (fun v5 v6 wr => ∃ (k v : Nat) (z : Int), v6 = .int .i64 z ∧ v5 = .int .u64 (v : Nat) ∧ z = (k : Int) - 1 ∧ k ≤ xs.length ∧ v = evl x (xs.drop k) % 18446744069414584321 ∧ Below w.heap.size w wr) (fun _ v6 _ => (Lib.intOf v6 + 1).toNat)
  case atStart => exact ⟨xs.length, 0, _, rfl, rfl, rfl, Nat.le_refl _, S0.out, Below.refl _ _⟩
  case round =>
    obtain ⟨k, v, z, rfl, rfl, hz, hk, hv, hbl⟩ := hrel
    clear S0
    cases k with
    | zero =>
      obtain rfl : z = -1 := by simpa using hz
      have HV := Lib.hid hv
      clear hz hv
      go_wp2
      go_ret
      exact ⟨by rw [show r = v by rw [HR.out, HV.out]; rfl]; rfl, hbl⟩
    | succ j =>
      obtain rfl : z = (j : Int) := by simpa using hz
      have j0 : (0 : Int) ≤ j := by omega
      have j1 : (j : Int) < xs.length := by omega
      have R1 := R.below hbl
      obtain ⟨b, off, rfl, hB, c⟩ := R1.at_ j (by omega)
      have c2 : wr.cell? ⟨b, off + j, none⟩ = some (.int .u64 (pl xs j : Nat)) := c
      have q2 := cell_regrown c2
      have hl := R1.lt j (by omega)
      have E := Lib.hid (ST.out j v hv)
      have hv64 : v < 18446744073709551616 := by rw [hv]; exact V64.out _
      have D1 := Lib.hid (fun d os => Calls.regrown_of (M.out v hv64 (grow (redrawn wr d) os)))
      have D2 := Lib.hid (fun d os => Calls.regrown_of ((AD.out (v * x % 18446744069414584321) j (M64.out v) hl (grow (redrawn wr d) os)).mono fun _ _ h => ⟨h.1, h.2 ▸ Below.refl _ _⟩))
      clear c hz hv hv64 hl
      generalize pl xs j = y at *
      generalize v * x % 18446744069414584321 = m at *
      obtain ⟨v', hv'⟩ : ∃ v', v' = (m + y) % 18446744069414584321 := ⟨_, rfl⟩
      rw [← hv'] at D2 E
      clear hv'
      go_wp2_with fail
      refine wp_region_quiet_below (by as_aux_lemma => kernel_rfl) (by as_aux_lemma => kernel_rfl) ?_
      repeat (go_big_quiet_step ((first
        | (go_at_call 34; with_reducible exact D1.out _ _)
        | (go_at_call 33; with_reducible exact D2.out _ _))))
      refine wpQuiet_nil ?_
      intro _ hw'
      obtain ⟨⟨dq, osq⟩, hw''⟩ := hw'
      subst hw''
      have hb := below_regrown wr dq osq
      have c5 := hbl.trans (hb.mono hbl.size)
      clear q2 c2 D1 D2 hb R1
      show Exit.inBlock _ _ _ _ (grow (redrawn wr dq) osq)
      generalize grow (redrawn wr dq) osq = w5 at *
      go_wp2_with fail
      go_roundw
      case rel => exact ⟨j, v', (j : Int) - 1, rfl, rfl, rfl, by omega, E.out, c5⟩
      case measure => simp [Lib.intOf]
end Pl
end Go.Proofs.Ytckaelgmokddkaa
