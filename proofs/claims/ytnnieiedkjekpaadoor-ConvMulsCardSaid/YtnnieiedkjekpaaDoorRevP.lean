/- Contracts of package rev's put (whatever tells where the words go), Turn, TurnBy, Even, Weave, and of the document's own Turn. -/
import Derived.Test.YtnnieiedkjekpaaDoorRev
import Derived.Test.YtnnieiedkjekpaaDoorOwnA
import Derived.Test.YtnnieiedkjekpaaDoorFits
import Derived.Deep.RegionWith
import Derived.Deep.DeepCutAuto
import Derived.Deep.CutBlock
set_option linter.unusedVariables false
namespace Go.Proofs.YtnnieiedkjekpaaDoor
open Go.RowKit Go.Lib
namespace Rv
open Rn Ww

/-- What has been put: the first j words stand where they go; the rest is as it was. -/
structure PutI (w wr : World) (g N j : Nat) (go : Nat → Nat) (xs : List Nat) (f0 : Nat → Nat) (Inv : World → Prop) : Prop where
  k : ∃ f, Wk wr g 0 N f ∧ (∀ i, i < j → f (go i) = xs.getD i 0) ∧ ∀ p, (∀ i, i < j → go i ≠ p) → f p = f0 p
  b : Below g w wr
  s : wr.heap.size = w.heap.size
  i : Inv wr
theorem PutI.step {w wr : World} {g N j n : Nat} {go : Nat → Nat} {xs : List Nat} {f0 : Nat → Nat} {Inv : World → Prop} (h : PutI w wr g N j go xs f0 Inv)
    (hj : j < n) (hinj : ∀ i i', i < n → i' < n → go i = go i' → i = i') (hgo : ∀ i, i < n → go i < N) (hI1 : ∀ W m, Inv W → Inv (W.drewN m)) (hI2 : ∀ W q v, Inv W → Inv (W.setCell ⟨g, q, none⟩ v)) (m : Nat) :
    PutI w ((wr.drewN m).setCell ⟨g, go j, none⟩ (.int .u64 (xs.getD j 0 : Nat))) g N (j + 1) go xs f0 Inv := by
  obtain ⟨f, K, h1, h2⟩ := h.k
  refine ⟨⟨upd f (go j) (xs.getD j 0), ?_, fun i hi => ?_, fun p hp => ?_⟩, ?_, ?_, hI2 _ _ _ (hI1 _ _ h.i)⟩
  · have := (K.drewN m).put (go j) (xs.getD j 0) (hgo j hj)
    rwa [Nat.zero_add] at this
  · by_cases e : i = j
    · subst e; exact upd_same _ _ _
    · rw [upd_other _ _ _ (fun c => e (hinj i j (by omega) hj c))]
      exact h1 i (by omega)
  · rw [upd_other _ _ _ (fun c => hp j (by omega) c.symm)]
    exact h2 p fun i hi => hp i (by omega)
  · exact (Ww.below_drewN h.b m).setCell (Nat.le_refl _) _
  · rw [← h.s]; simp [World.setCell]

set_option maxHeartbeats 1000000 in
theorem put (F : FuncId) (he : ∀ args w, (callFunc F args).run Tryd.prog w = .ok (.enter F args) w) (cap : Array Value) (g N ca cb : Nat) (A : Option Addr) (xs : List Nat) (go f0 : Nat → Nat) (Inv : World → Prop) (hn : xs.length ≤ 9223372036854775807)
    (hinj : ∀ i i', i < xs.length → i' < xs.length → go i = go i' → i = i') (hgo : ∀ i, i < xs.length → go i < N) (hN : N ≤ 9223372036854775807) (hI1 : ∀ W m, Inv W → Inv (W.drewN m)) (hI2 : ∀ W q v, Inv W → Inv (W.setCell ⟨g, q, none⟩ v))
    (hF : ∀ i W, i < xs.length → Inv W → Calls Tryd.prog F (#[.int .i64 (i : Nat)] ++ cap) W fun e w' => e = .returned (.int .i64 (go i : Nat)) ∧ ∃ m, w' = W.drewN m)
    (w : World) (hi : Inv w) (K : Wk w g 0 N f0) (R : Ws w g A xs) :
    Calls Tryd.prog 86 #[.slice (some ⟨g, 0, none⟩) N ca, .slice A xs.length cb, .func (.func F) #[] cap] w fun e w' => e = .returned (.tuple #[]) ∧ PutI w w' g N xs.length go xs f0 Inv := by
  have I0 := Lib.hid (show PutI w w g N 0 go xs f0 Inv from ⟨⟨f0, K, fun i hi => absurd hi (Nat.not_lt_zero i), fun _ _ => rfl⟩, Below.refl _ _, rfl, hi⟩)
  have RR := Lib.hid R
  have HF := Lib.hid hF
  have ST := Lib.hid (fun j wr (h : PutI w wr g N j go xs f0 Inv) (hj : j < xs.length) m => h.step hj hinj hgo hI1 hI2 m)
  have HG := Lib.hid hgo
  clear hI1 hI2 hinj hF K hi R hgo
  go_enter Tryd.func86, Tryd.ntmps86
  go_wp2_with fail
  go_loopw [10] (fun v10 wr => ∃ j : Nat, v10 = .int .i64 (j : Int) ∧ j ≤ xs.length ∧ PutI w wr g N j go xs f0 Inv) (fun v10 _ => xs.length - (Lib.intOf v10).toNat)
  case atStart => exact ⟨0, rfl, Nat.zero_le _, I0.out⟩
  case round =>
    obtain ⟨j, rfl, hj, I⟩ := hrel
    clear I0
    by_cases hlt : j < xs.length
    · have j1 : (j : Int) < xs.length := by omega
      have Rr := RR.out.below I.b
      obtain ⟨b, off, rfl, hB, c0⟩ := Rr.at_ j hlt
      have CF := Lib.hid (HF.out j wr hlt I.i)
      have gl := HG.out j hlt
      have S2 := Lib.hid (ST.out j wr I hlt)
      obtain ⟨f, K, _, _⟩ := I.k
      have k0 := K.c (go j) gl
      have k1 := K.z (go j) gl
      rw [Nat.zero_add] at k0 k1
      generalize go j = q at *
      generalize xs.getD j 0 = x at *
      clear HF ST HG Rr K I
      go_wp2_with fail
      refine CF.out.mono ?_
      rintro e w1 ⟨rfl, m, rfl⟩
      have I2 := S2.out m
      have k2 := (World.cell?_drewN wr m ⟨g, q, none⟩).trans k0
      go_wp2_with fail
      go_roundw
      case rel => exact ⟨j + 1, rfl, by omega, I2⟩
      case measure => simp [Lib.intOf]; omega
    · have j1 : ¬ (j : Int) < xs.length := by omega
      obtain rfl : j = xs.length := by omega
      go_wp2
      go_end0
      exact ⟨rfl, I⟩

/-- The row turned about. -/
def tl (k r : Nat) (xs : List Nat) : List Nat := (List.range xs.length).map fun p => xs.getD (tn k r p) 0
theorem tl_len (k r : Nat) (xs : List Nat) : (tl k r xs).length = xs.length := by simp [tl]
theorem tl_at (k r : Nat) (xs : List Nat) (p : Nat) (h : p < xs.length) : (tl k r xs).getD p 0 = xs.getD (tn k r p) 0 := by simp [tl, List.getD, h]
theorem list_ext (xs ys : List Nat) (h : xs.length = ys.length) (he : ∀ i, i < xs.length → xs.getD i 0 = ys.getD i 0) : xs = ys := by
  apply List.ext_getElem h
  intro i h1 h2
  have := he i h1
  simpa [List.getD, h1, h2] using this
theorem tl_tl (k r : Nat) (xs : List Nat) (hl : xs.length = 2 ^ k) (h : k % r = 0) : tl k r (tl k r xs) = xs := by
  refine list_ext _ _ (by rw [tl_len, tl_len]) fun i hi => ?_
  rw [tl_len, tl_len] at hi
  have h1 := tn_lt k r i h
  rw [tl_at k r _ i (by rw [tl_len]; exact hi), tl_at k r xs _ (by omega), tn_tn k r i h (by omega)]
/-- What a call answers that hands back a row and no error. -/
def RowOut (ys : List Nat) (w : World) (e : Ending) (w' : World) : Prop :=
  ∃ A, e = .returned (.tuple #[.slice A ys.length ys.length, .int .i64 0]) ∧ Ws w' w'.heap.size A ys ∧ (A = none → ys = []) ∧ Below w.heap.size w w'
/-- .. in a new block. -/
def RowNew (ys : List Nat) (w : World) (e : Ending) (w' : World) : Prop :=
  ∃ g, e = .returned (.tuple #[.slice (some ⟨g, 0, none⟩) ys.length ys.length, .int .i64 0]) ∧ w.heap.size ≤ g ∧ Ws w' w'.heap.size (some ⟨g, 0, none⟩) ys ∧ Below w.heap.size w w'
theorem RowNew.out {ys : List Nat} {w w' : World} {e : Ending} (h : RowNew ys w e w') : RowOut ys w e w' := by
  obtain ⟨g, h1, _, h2, h3⟩ := h
  exact ⟨_, h1, h2, (fun h => nomatch h), h3⟩
theorem turn_end {w wr w' : World} {g k r : Nat} {xs : List Nat} {f0 : Nat → Nat} {Inv : World → Prop} (hl : xs.length = 2 ^ k) (h : k % r = 0) (I : PutI wr w' g xs.length xs.length (tn k r) xs f0 Inv) (hx : ∀ i, i < xs.length → xs.getD i 0 < 18446744073709551616) (hg : g < wr.heap.size) :
    Ws w' w'.heap.size (some ⟨g, 0, none⟩) (tl k r xs) := by
  obtain ⟨f, K, h1, _⟩ := I.k
  have e : ∀ p, p < xs.length → f p = xs.getD (tn k r p) 0 := fun p hp => by
    have ht := tn_lt k r p h
    have := h1 (tn k r p) (by omega)
    rwa [tn_tn k r p h (by omega)] at this
  have E : tl k r xs = (List.range xs.length).map f := List.map_congr_left fun p hp => (e p (by simpa using hp)).symm
  rw [E]
  exact K.ws (fun i hi => by rw [e i hi]; exact hx _ (by have := tn_lt k r i h; omega)) (by rw [I.s]; exact hg)

set_option maxHeartbeats 400000 in
theorem turnBy_none (A : Option Addr) (n ca : Nat) (r : Int) (hn : n ≤ 9223372036854775807) (nf : ∀ W, Calls Tryd.prog 39 #[.int .i64 (n : Nat)] W fun e w' => e = .returned (.tuple #[.int .i64 0, .bool false]) ∧ W = w') (w : World) :
    Calls Tryd.prog 81 #[.slice A n ca, .int .i64 r] w fun e w' => e = .returned (.tuple #[.slice none 0 0, .int .i64 4]) ∧ w = w' := by
  have NF := Lib.hid nf
  clear nf
  go_enter Tryd.func81, Tryd.ntmps81
  go_wp2_with fail
  refine (NF.out _).mono ?_
  rintro e w1 ⟨rfl, rfl⟩
  go_wp2
  go_ret2
  exact ⟨rfl, rfl⟩
set_option maxHeartbeats 400000 in
theorem turnBy_odd (A : Option Addr) (n ca k : Nat) (r : Int) (hn : n ≤ 9223372036854775807) (nf : ∀ W, Ft.Tab W → Calls Tryd.prog 39 #[.int .i64 (n : Nat)] W fun e w' => e = .returned (.tuple #[.int .i64 (k : Nat), .bool true]) ∧ W = w') (ho : Odd k r) (w : World) (hT : Ft.Tab w) :
    Calls Tryd.prog 81 #[.slice A n ca, .int .i64 r] w fun e w' => e = .returned (.tuple #[.slice none 0 0, .int .i64 1]) ∧ w = w' := by
  have NF := Lib.hid (fun W T => nf W T)
  have P := Lib.hid (fun W => parts_odd k r ho W)
  have T := Lib.hid hT
  clear nf ho hT
  go_enter Tryd.func81, Tryd.ntmps81
  go_wp2_with fail
  refine (NF.out _ T.out).mono ?_
  rintro e w1 ⟨rfl, rfl⟩
  go_wp2_with fail
  refine (P.out _).mono ?_
  rintro e w1 ⟨rfl, rfl⟩
  go_wp2
  go_ret2
  exact ⟨rfl, rfl⟩
set_option maxHeartbeats 1000000 in
theorem turnBy_new (A : Option Addr) (ca k r : Nat) (xs : List Nat) (hl : xs.length = 2 ^ k) (hk : k ≤ 32) (h0 : 0 < r) (h8 : r ≤ 8) (hkr : k % r = 0) (w : World) (hT : Ft.Tab w) (R : Ws w w.heap.size A xs) :
    Calls Tryd.prog 81 #[.slice A xs.length ca, .int .i64 (r : Nat)] w (RowNew (tl k r xs) w) := by
  have hp : 2 ^ k ≤ 2 ^ 32 := Nat.pow_le_pow_right (by decide) hk
  have hN : xs.length ≤ 4294967296 := by rw [hl]; exact hp
  have NF := Lib.hid (Ft.fits_some k hk w hT)
  rw [← hl] at NF
  have P := Lib.hid (fun W => parts_yes k r h0 h8 hkr W)
  have TU := Lib.hid (fun W => turner k r h8 W)
  have mk := make_words xs.length (by omega) (by omega)
  have PU := Lib.hid (fun b g cb W (hb : g + 1 = b) => put 90 Tryd.call90 #[.pointer (some ⟨b, 0, none⟩), .pointer (some ⟨b + 1, 0, none⟩), .pointer (some ⟨b + 2, 0, none⟩)] g xs.length xs.length cb A xs (tn k r) (fun _ => 0) (fun W => Cp W b k r) (by omega)
    (fun i i' hi hi' e => by rw [← tn_tn k r i hkr (by omega), e, tn_tn k r i' hkr (by omega)]) (fun i hi => by have := tn_lt k r i hkr; omega) (by omega) (fun W m h => h.drewN m) (fun W q v h => h.setCell (Or.inl (by show g < b; omega)) v)
    (fun i W hi hC => turned b k r i h0 h8 hk hkr (by omega) W hC) W)
  have HE := Lib.hid (fun wr w' I hg => turn_end (w := w) (wr := wr) (w' := w') (g := w.heap.size) (f0 := fun _ => 0) (Inv := fun W => Cp W (w.heap.size + 1) k r) hl hkr I R.lt hg)
  have TL := Lib.hid (tl_len k r xs)
  generalize tl k r xs = ys at *
  have K := Lib.hid (Wk.made w xs.length 32)
  have R1 := Lib.hid (R.alloc (Nat.le_refl _) (.cells (madeCells #[.int .u64 0] xs.length) 32))
  have b1 := (Below.refl w.heap.size w).alloc (Nat.le_refl _) (.cells (madeCells #[.int .u64 0] xs.length) 32)
  have s1 : (w.alloc (.cells (madeCells #[.int .u64 0] xs.length) 32)).heap.size = w.heap.size + 1 := by simp
  have B1 := Lib.hid b1
  have S1 := Lib.hid s1
  clear hl hkr hT R hp b1 s1
  go_enter Tryd.func81, Tryd.ntmps81
  go_wp2_with fail
  refine NF.out.mono ?_
  rintro e w1 ⟨rfl, rfl⟩
  go_wp2_with fail
  refine (P.out _).mono ?_
  rintro e w1 ⟨rfl, rfl⟩
  go_wp2_with fail
  refine (TU.out _).mono ?_
  generalize w.alloc (.cells (madeCells #[.int .u64 0] xs.length) 32) = w1 at *
  rintro e w2 ⟨rfl, C2, b2, s2⟩
  have K2 := K.out.step b2
  have b2' := b2
  rw [S1.out] at b2' s2 C2
  have R2 := R1.out.below (b2'.mono (Nat.le_succ _))
  rw [S1.out]
  unfold fn
  go_wp2_with fail
  refine (PU.out (w.heap.size + 1) w.heap.size ca w2 rfl C2 K2 R2).mono ?_
  rintro e w3 ⟨rfl, I⟩
  have O := HE.out w2 w3 I (by omega)
  have b3 := (B1.out.trans (b2'.mono (Nat.le_succ _))).trans I.b
  have OUT := Lib.hid (show RowNew ys w (.returned (.tuple #[.slice (some ⟨w.heap.size, 0, none⟩) xs.length xs.length, .int .i64 0])) w3 from ⟨w.heap.size, by rw [TL.out], Nat.le_refl _, O, b3⟩)
  clear I O b3 K2 R2 C2 b2 b2' HE PU
  go_wp2
  exact bodyPost_ret (v := .tuple #[.slice (some ⟨w.heap.size, 0, none⟩) xs.length xs.length, .int .i64 0]) (by simp [results, Tryd.results81, go_sem]) rfl OUT.out

theorem turnBy (A : Option Addr) (ca k r : Nat) (xs : List Nat) (hl : xs.length = 2 ^ k) (hk : k ≤ 32) (h0 : 0 < r) (h8 : r ≤ 8) (hkr : k % r = 0) (w : World) (hT : Ft.Tab w) (R : Ws w w.heap.size A xs) :
    Calls Tryd.prog 81 #[.slice A xs.length ca, .int .i64 (r : Nat)] w (RowOut (tl k r xs) w) :=
  (turnBy_new A ca k r xs hl hk h0 h8 hkr w hT R).mono fun _ _ h => h.out

set_option maxHeartbeats 400000 in
theorem turn_none (A : Option Addr) (n ca : Nat) (hn : n ≤ 9223372036854775807) (nf : ∀ W, Calls Tryd.prog 39 #[.int .i64 (n : Nat)] W fun e w' => e = .returned (.tuple #[.int .i64 0, .bool false]) ∧ W = w') (w : World) :
    Calls Tryd.prog 74 #[.slice A n ca] w fun e w' => e = .returned (.tuple #[.slice none 0 0, .int .i64 4]) ∧ w = w' := by
  have C := Lib.hid (fun W => turnBy_none A n ca 1 hn nf W)
  clear nf
  go_enter Tryd.func74, Tryd.ntmps74
  go_wp2_with fail
  refine (C.out _).mono ?_
  rintro e w1 ⟨rfl, rfl⟩
  go_wp2
  go_ret2
  exact ⟨rfl, rfl⟩
set_option maxHeartbeats 400000 in
theorem turn_new (A : Option Addr) (ca k : Nat) (xs : List Nat) (hl : xs.length = 2 ^ k) (hk : k ≤ 32) (w : World) (hT : Ft.Tab w) (R : Ws w w.heap.size A xs) :
    Calls Tryd.prog 74 #[.slice A xs.length ca] w (RowNew (tl k 1 xs) w) := by
  have C := Lib.hid (turnBy_new A ca k 1 xs hl hk (by decide) (by decide) (Nat.mod_one k) w hT R)
  clear hl hT R
  generalize tl k 1 xs = ys at *
  go_enter Tryd.func74, Tryd.ntmps74
  go_wp2_with fail
  refine C.out.mono ?_
  rintro e w1 ⟨A1, rfl, h1, R1, b1⟩
  have OUT := Lib.hid (show RowNew ys w (.returned (.tuple #[.slice (some ⟨A1, 0, none⟩) ys.length ys.length, .int .i64 0])) w1 from ⟨_, rfl, h1, R1, b1⟩)
  go_wp2
  exact bodyPost_ret (v := .tuple #[.slice (some ⟨A1, 0, none⟩) ys.length ys.length, .int .i64 0]) (by simp [results, Tryd.results74, go_sem]) rfl OUT.out
theorem turn (A : Option Addr) (ca k : Nat) (xs : List Nat) (hl : xs.length = 2 ^ k) (hk : k ≤ 32) (w : World) (hT : Ft.Tab w) (R : Ws w w.heap.size A xs) :
    Calls Tryd.prog 74 #[.slice A xs.length ca] w (RowOut (tl k 1 xs) w) :=
  (turn_new A ca k xs hl hk w hT R).mono fun _ _ h => h.out

/-- What the document's own Turn has written: the first j words. -/
structure RefI (w wr : World) (g k r j : Nat) (xs : List Nat) : Prop where
  k : ∃ f, Wk wr g 0 xs.length f ∧ ∀ i, i < j → f (tn k r i) = xs.getD i 0
  g0 : w.heap.size ≤ g
  g1 : g < wr.heap.size
  b : Below w.heap.size w wr
theorem RefI.drew {w wr : World} {g k r j : Nat} {xs : List Nat} (h : RefI w wr g k r j xs) : RefI w wr.drew g k r j xs := by
  obtain ⟨f, K, h1⟩ := h.k
  exact ⟨⟨f, K.drew, h1⟩, h.g0, h.g1, h.b.drew⟩
theorem RefI.step {w wr : World} {g k r j : Nat} {xs : List Nat} (h : RefI w wr g k r j xs) (hl : xs.length = 2 ^ k) (hkr : k % r = 0) (hj : j < xs.length) :
    RefI w (wr.setCell ⟨g, tn k r j, none⟩ (.int .u64 (xs.getD j 0 : Nat))) g k r (j + 1) xs := by
  obtain ⟨f, K, h1⟩ := h.k
  have ht := tn_lt k r j hkr
  refine ⟨⟨upd f (tn k r j) (xs.getD j 0), ?_, fun i hi => ?_⟩, h.g0, ?_, h.b.setCell h.g0 _⟩
  · have := K.put (tn k r j) (xs.getD j 0) (by omega)
    rwa [Nat.zero_add] at this
  · by_cases e : i = j
    · subst e; exact upd_same _ _ _
    · rw [upd_other _ _ _ (fun c => e (by rw [← tn_tn k r i hkr (by omega), c, tn_tn k r j hkr (by omega)]))]
      exact h1 i (by omega)
  · simp [World.setCell]; exact h.g1
theorem RefI.end_ {w wr : World} {g k r : Nat} {xs : List Nat} (h : RefI w wr g k r xs.length xs) (hl : xs.length = 2 ^ k) (hkr : k % r = 0) (hx : ∀ i, i < xs.length → xs.getD i 0 < 18446744073709551616) :
    Ws wr wr.heap.size (some ⟨g, 0, none⟩) (tl k r xs) := by
  obtain ⟨f, K, h1⟩ := h.k
  have e : ∀ p, p < xs.length → f p = xs.getD (tn k r p) 0 := fun p hp => by
    have ht := tn_lt k r p hkr
    have := h1 (tn k r p) (by omega)
    rwa [tn_tn k r p hkr (by omega)] at this
  have E : tl k r xs = (List.range xs.length).map f := List.map_congr_left fun p hp => (e p (by simpa using hp)).symm
  rw [E]
  exact K.ws (fun i hi => by rw [e i hi]; exact hx _ (by have := tn_lt k r i hkr; omega)) h.g1
/-- What it answers. -/
def RefOut (ys : List Nat) (w : World) (e : Ending) (w' : World) : Prop :=
  ∃ A cap, e = .returned (.slice A ys.length cap) ∧ Ws w' w'.heap.size A ys ∧ Below w.heap.size w w'
end Rv
end Go.Proofs.YtnnieiedkjekpaaDoor
