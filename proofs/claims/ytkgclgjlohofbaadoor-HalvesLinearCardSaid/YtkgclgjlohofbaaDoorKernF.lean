/- Contracts of slices.Clone of words, of package kern2's Transform, and of the laws' awake. -/
import Derived.Test.YtkgclgjlohofbaaDoorKernE
import Derived.WalkSpells
set_option linter.unusedVariables false
namespace Go.Proofs.YtkgclgjlohofbaaDoor
open Go.RowKit Go.Lib Go.Sort
namespace Kn
open Nm Ww Tn Pl Td

/-- A row in a new block, with a capacity. -/
def ClN (xs : List Nat) (n : Nat) (w : World) (e : Ending) (w' : World) : Prop :=
  ∃ b ca, e = .returned (.slice (some ⟨b, 0, none⟩) n ca) ∧ n ≤ ca ∧ w.heap.size ≤ b ∧ b < w'.heap.size ∧ Wk w' b 0 n (Pn.pl xs) ∧ Below w.heap.size w w'
theorem clN_of {xs : List Nat} {n : Nat} (hn : xs.length = n) (h0 : 0 < n) {w w' : World} {v : Value} (O : Ow w' w.heap.size v xs) (hb : Below w.heap.size w w') : ClN xs n w (.returned v) w' := by
  subst hn
  obtain ⟨g, cap, rfl, h1, h2, h3, K⟩ := O.wk h0
  exact ⟨g, cap, rfl, h3, h1, h2, K, hb⟩
set_option maxHeartbeats 400000 in
theorem clone (ad : Addr) (ca n : Nat) (xs : List Nat) (hn : xs.length = n) (h0 : 0 < n) (hl : n ≤ 1048576) (w : World) (R : Ws w w.heap.size (some ad) xs) :
    Calls Tryd.prog 37 #[.slice (some ad) n ca] w (ClN xs n w) := by
  have O1 := Lib.hid (Ow.fresh w w.heap.size (Nat.le_refl _))
  have R1 := Lib.hid (R.alloc (Nat.le_refl _) (.cells #[] 27))
  have B1 := Lib.hid (below_alloc w (.cells #[] 27))
  have CO := Lib.hid (fun (w' : World) (v : Value) (O : Ow w' w.heap.size v xs) hb => clN_of hn h0 O hb)
  have qn : ∀ (W : World), (binOp .eql 22 (.slice (some ad) n ca) (.slice none 0 0)).run Tryd.prog W = .ok (.bool false) W := fun W => Lib.run_eql_slice_nil W _ _ _ _ _ _ _ Tryd.underlying22
  clear R h0
  subst hn
  go_enter Tryd.func37, Tryd.ntmps37
  go_wp2_with (at_builtin; (refine append_all (w.alloc (.cells #[] 27)) ?hgd (.tmp 5) (.tmp 6) ?ho w.heap.size (.slice (some ⟨w.heap.size, 0, none⟩) 0 0) [] ?hs O1.out w.heap.size (some ad) ca xs ?hx R1.out ?c3 ?c1 ?c2 (fun v7 w2 O2 hg => ?_)); (case hgd => rfl); (case ho => rfl); (case hs => rfl); (case hx => rfl))
  case c3 => intro h; cases h
  case c1 => simp; omega
  case c2 => simp
  rw [List.nil_append] at O2
  have b2 := O1.out.grow B1.out hg B1.out.size
  have F := Lib.hid (CO.out _ _ O2 b2)
  clear O1 R1 B1 O2 hg b2 CO
  go_wp2
  exact bodyPost_ret (v := v7) (by simp [results, Tryd.results37, go_sem]) rfl F.out

set_option maxHeartbeats 400000 in
theorem transform_len (A : Option Addr) (n ca : Nat) (d : Int) (h : ∀ j, j ≤ 32 → (n : Int) ≠ ((2 ^ j : Nat) : Int)) (w : World) :
    Calls Tryd.prog 17 #[.slice A n ca, .int .i64 d] w fun e w' => e = .returned (.tuple #[.slice none 0 0, .int .i64 4]) ∧ w = w' := by
  have F := Lib.hid (fun W => Ft.fits_none (n : Int) h W)
  clear h
  go_enter Tryd.func17, Tryd.ntmps17
  go_wp2_with fail
  refine (F.out _).mono ?_
  rintro e w1 ⟨rfl, rfl⟩
  go_wp2
  go_ret2
  exact ⟨rfl, rfl⟩
set_option maxHeartbeats 400000 in
theorem transform_kind (A : Option Addr) (n ca k : Nat) (d : Int) (hk : k ≤ 32) (hn : n = 2 ^ k) (h0 : d ≠ 0) (h1 : d ≠ 1) (w : World) (hT : Ft.Tab w) :
    Calls Tryd.prog 17 #[.slice A n ca, .int .i64 d] w fun e w' => e = .returned (.tuple #[.slice none 0 0, .int .i64 18]) ∧ w = w' := by
  have F := Lib.hid (Ft.fits_some k hk w hT)
  rw [← hn] at F
  have C := Lib.hid (fun W => root_kind (k : Int) d (by omega) h0 h1 W)
  clear h0 h1 hk hn hT
  go_enter Tryd.func17, Tryd.ntmps17
  go_wp2_with fail
  refine F.out.mono ?_
  rintro e w1 ⟨rfl, rfl⟩
  go_wp2_with fail
  refine (C.out _).mono ?_
  rintro e w1 ⟨rfl, rfl⟩
  go_wp2
  go_ret2
  exact ⟨rfl, rfl⟩
/-- A row in a new block and OK. -/
def RwF (g : Nat → Nat) (n : Nat) (w : World) (e : Ending) (w' : World) : Prop :=
  ∃ b ca, e = .returned (.tuple #[.slice (some ⟨b, 0, none⟩) n ca, .int .i64 0]) ∧ n ≤ ca ∧ w.heap.size ≤ b ∧ b < w'.heap.size ∧ Wk w' b 0 n g ∧ Below w.heap.size w w'
set_option maxHeartbeats 1000000 in
theorem transform_core (ad : Addr) (n ca k x : Nat) (d : Int) (hk : k ≤ 20) (xs : List Nat) (G : Nat → Nat) (w : World)
    (hF : Calls Tryd.prog 35 #[.int .i64 (n : Int)] w fun e w' => e = .returned (.tuple #[.int .i64 (k : Int), .bool true]) ∧ w = w')
    (hR : ∀ W, Calls Tryd.prog 36 #[.int .i64 (k : Int), .int .i64 d] W fun e w' => e = .returned (.tuple #[.int .u64 (x : Nat), .int .i64 0]) ∧ Below W.heap.size W w')
    (hN : ∀ W, Calls Tryd.prog 9 #[.int .i64 (k : Int)] W fun e w' => ∃ p bf bi, e = .returned (.pointer (some ⟨p, 0, none⟩)) ∧ Kr w' w'.heap.size k p bf bi ∧ Below W.heap.size W w')
    (hC : ∀ W, Ws W W.heap.size (some ad) xs → Calls Tryd.prog 37 #[.slice (some ad) n ca] W (ClN xs n W))
    (hU : ∀ W p bf bi b c2, Ft.Tab W → Kr W b k p bf bi → JR b n (Pn.pl xs) W W → n ≤ c2 → Calls Tryd.prog 11 #[.pointer (some ⟨p, 0, none⟩), .slice (some ⟨b, 0, none⟩) n c2, .int .i64 d] W fun e w' => e = .returned (.int .i64 0) ∧ JR b n G W w')
    (hT : Ft.Tab w) (R : Ws w w.heap.size (some ad) xs) :
    Calls Tryd.prog 17 #[.slice (some ad) n ca, .int .i64 d] w (RwF G n w) := by
  have F := Lib.hid hF
  have RO := Lib.hid hR
  have NE := Lib.hid hN
  have CL := Lib.hid hC
  have RU := Lib.hid hU
  have HT := Lib.hid hT
  clear hF hR hN hC hU hT
  go_enter Tryd.func17, Tryd.ntmps17
  go_wp2_with fail
  refine F.out.mono ?_
  rintro e w1 ⟨rfl, rfl⟩
  go_wp2_with fail
  refine (RO.out _).mono ?_
  rintro e w1 ⟨rfl, c1⟩
  go_wp2_with fail
  refine (NE.out _).mono ?_
  rintro e w2 ⟨p, bf, bi, rfl, Z2, d2⟩
  have c2 := c1.trans (d2.mono c1.size)
  have R2 := R.step c2
  clear c1 d2 R
  go_wp2_with fail
  refine (CL.out _ R2).mono ?_
  rintro e w3 ⟨b, cb, rfl, hcb, hb1, hb2, K3, d3⟩
  have c3 := c2.trans (d3.mono c2.size)
  have U := Lib.hid (RU.out w3 p bf bi b cb (HT.out.below c3) ((Z2.below d3).more hb1) ⟨K3, Below.refl _ _, hb2⟩ hcb)
  have hw : w.heap.size ≤ b := Nat.le_trans c2.size hb1
  clear Z2 K3 R2 d3 c2 hb1 hb2 RU CL NE RO F
  go_wp2_with fail
  refine U.out.mono ?_
  rintro e w4 ⟨rfl, J⟩
  have FF := Lib.hid (show RwF G n w (.returned (.tuple #[.slice (some ⟨b, 0, none⟩) n cb, .int .i64 0])) w4 from ⟨b, cb, rfl, hcb, hw, J.s, J.k, c3.trans (J.bel.mono hw)⟩)
  clear J c3 U
  go_wp2
  exact bodyPost_ret (v := .tuple #[.slice (some ⟨b, 0, none⟩) n cb, .int .i64 0]) (by simp [results, Tryd.results17, go_sem]) rfl FF.out
/-- The transform of a row, in a new block. -/
theorem transform (A : Option Addr) (n ca k d : Nat) (xs : List Nat) (hk : k ≤ 20) (hd : d ≤ 1) (hn : n = 2 ^ k) (hx : xs.length = n) (w : World) (hT : Ft.Tab w) (R : Ws w w.heap.size A xs) :
    Calls Tryd.prog 17 #[.slice A n ca, .int .i64 (d : Int)] w (RwF (ft k d (Pn.pl xs)) n w) := by
  have hl : n ≤ 1048576 := by rw [hn]; exact Nat.le_trans (Nat.pow_le_pow_right (by decide) hk) (show 2 ^ 20 ≤ 1048576 by decide)
  have h0 : 0 < n := by rw [hn]; exact Nat.two_pow_pos k
  obtain ⟨b, off, rfl, _, _⟩ := R.at_ 0 (by omega)
  have F := Ft.fits_some k (by omega) w hT
  rw [← hn] at F
  exact transform_core ⟨b, off, none⟩ n ca k _ d hk xs _ w F (fun W => root_in k d (by omega) hd W) (fun W => new k hk W) (fun W R => clone _ ca n xs hx h0 hl W R)
    (fun W p bf bi b c2 T Z J hc => run k d hk hd b n c2 hn hc (Pn.pl xs) (fun i hi => R.lt i (by omega)) T Z J) hT R

theorem aw_four (k j : Nat) (hk : 2 ^ k = 4) : ft k 0 (Pn.pl [1, 0, 0, 0]) j = 1 := by
  rw [ft_zero, hk]
  generalize Nt.rt k = r
  show ((((0 + 1 * r ^ (0 * j)) + 0 * r ^ (1 * j)) + 0 * r ^ (2 * j)) + 0 * r ^ (3 * j)) % 18446744069414584321 = 1
  rw [Nat.zero_mul, Nat.zero_mul, Nat.zero_mul, Nat.zero_mul, Nat.pow_zero]
theorem ws_four (w : World) (t : TypeId) : Ws (w.alloc (.cells #[.int .u64 1, .int .u64 0, .int .u64 0, .int .u64 0] t)) (w.alloc (.cells #[.int .u64 1, .int .u64 0, .int .u64 0, .int .u64 0] t)).heap.size (some ⟨w.heap.size, 0, none⟩) [1, 0, 0, 0] := by
  refine ⟨fun i hi => ⟨w.heap.size, 0, rfl, by simp, ?_⟩, fun i hi => ?_⟩
  · rcases i with _ | _ | _ | _ | i
    · simp [go_sem]
    · simp [go_sem]
    · simp [go_sem]
    · simp [go_sem]
    · exact absurd hi (by simp)
  · rcases i with _ | _ | _ | _ | i
    · exact (by decide : (1 : Nat) < 18446744073709551616)
    · exact (by decide : (0 : Nat) < 18446744073709551616)
    · exact (by decide : (0 : Nat) < 18446744073709551616)
    · exact (by decide : (0 : Nat) < 18446744073709551616)
    · exact absurd hi (by simp)
theorem transform_four {A : Option Addr} (w : World) (hT : Ft.Tab w) (R : Ws w w.heap.size A [1, 0, 0, 0]) : ∃ g : Nat → Nat, (∀ j, g j = 1) ∧ Calls Tryd.prog 17 #[.slice A 4 4, .int .i64 0] w (RwF g 4 w) := by
  obtain ⟨k, hk⟩ : ∃ k : Nat, k = 2 := ⟨_, rfl⟩
  have h4 : 2 ^ k = 4 := by rw [hk]
  exact ⟨_, fun j => aw_four k j h4, transform A 4 4 k 0 [1, 0, 0, 0] (by omega) (by decide) h4.symm rfl w hT R⟩
set_option maxHeartbeats 400000 in
theorem awake (w : World) (hT : Ft.Tab w) : Calls Tryd.prog 8 #[] w fun e w' => e = .returned (.bool true) ∧ Below w.heap.size w w' := by
  have b0 := below_alloc w (.cells #[.int .u64 1, .int .u64 0, .int .u64 0, .int .u64 0] 27)
  obtain ⟨g, g0, S⟩ := transform_four (A := some ⟨w.heap.size, 0, none⟩) (w.alloc (.cells #[.int .u64 1, .int .u64 0, .int .u64 0, .int .u64 0] 27)) (hT.below b0) (ws_four w _)
  have S := Lib.hid S
  clear hT
  go_enter Tryd.func8, Tryd.ntmps8
  go_wp2_with fail
  refine S.out.mono ?_
  rintro e w1 ⟨b, cb, rfl, hcb, hs, hb, K, h1⟩
  have k0 := K.c 0 (by decide)
  have k1 := K.c 1 (by decide)
  have k2 := K.c 2 (by decide)
  have k3 := K.c 3 (by decide)
  rw [Nat.zero_add, g0] at k0 k1 k2 k3
  have c1 := b0.trans (h1.mono b0.size)
  clear K S hs hb h1 b0 g0
  go_wp2
  go_ret
  exact ⟨by simp [go_sem], c1⟩
end Kn
end Go.Proofs.YtkgclgjlohofbaaDoor
