/- Layer 15: contracts of abacistref15: Write, Sync, Boot, New. -/
import Derived.Test.YtfjlhbamldgklaaDiskR
set_option linter.unusedVariables false
namespace Go.Proofs.Ytfjlhbamldgklaa
open Go.RowKit Go.Lib
namespace Dk
open Ww

/-- What a call answers: n sectors in a slice that is new. -/
def SxN (f : Nat → Sec) (n : Nat) (w : World) (e : Ending) (w' : World) : Prop := ∃ v, e = .returned v ∧ Sx w' w.heap.size v f n ∧ Below w.heap.size w w'
theorem empty_own (w : World) (f : Nat → Sec) : Sx (w.alloc (.cells #[] 71)) w.heap.size (.slice (some ⟨w.heap.size, 0, none⟩) 0 0) f 0 :=
  World.ownsRow_made w #[] 0 (Nat.le_refl _) (by simp [maxLen]) (by simp)
/-- The copy that each of them begins with. -/
theorem copied {w w1 w' : World} {v : Value} {f : Nat → Sec} {n : Nat} (b1 : Below w.heap.size w w1) (hs : w.heap.size < w1.heap.size) (O : Sx w' w.heap.size v f n) (hg : w1.grownBy w' (Value.slice (some ⟨w.heap.size, 0, none⟩) 0 0).ownBlock) (h0 : 0 < n) :
    ∃ g c, v = .slice (some ⟨g, 0, none⟩) n c ∧ w.heap.size ≤ g ∧ Sx w' w.heap.size (.slice (some ⟨g, 0, none⟩) n c) f n ∧ Below w.heap.size w w' := by
  obtain ⟨A, c, rfl⟩ := O.slice
  obtain ⟨g, rfl, hg2, _⟩ := O.at_ h0
  exact ⟨g, c, rfl, hg2, O, b1.grown hg (by omega) (fun k hk => by cases hk; exact Nat.le_refl _)⟩
def wrote (s : Sec) (b : ByteArray) : Sec := { s with now := b, dirty := true, touched := true }
def synced (s : Sec) : Sec := { s with safe := s.now, dirty := false }
def synk (f : Nat → Sec) (j : Nat) : Nat → Sec := fun i => if i < j then synced (f i) else f i

set_option maxHeartbeats 1000000 in
theorem rwrite (B : Nat) (A : Option Addr) (c n i : Nat) (f : Nat → Sec) (b : ByteArray) (w : World) (R : Sx w B (.slice A n c) f n) (hi : i < n) (hn : n ≤ 1099511627776) :
    Calls Try.prog 28 #[.slice A n c, .int .i64 (i : Nat), .string b] w (SxN (put f i (wrote (f i) b)) n w) := by
  have i1 : (i : Int) < n := by omega
  have E := Lib.hid (empty_own w f)
  have R1 := Lib.hid (R.below ((Below.refl w.heap.size w).alloc (Nat.le_refl _) (.cells #[] 71)))
  have HB := Lib.hid ((Below.refl w.heap.size w).alloc (Nat.le_refl _) (.cells #[] 71))
  have HI := Lib.hid hi
  have HN := Lib.hid hn
  clear R hn
  go_enter Try.func28, Try.ntmps28
  go_upto_region 2 with (at_builtin; (refine append_all (w.alloc (.cells #[] 71)) ?hgd (.tmp 8) (.tmp 9) ?ho w.heap.size _ f n c ?hs E.out B A ?hx R1.out ?h0 ?c1 ?c2 (fun v7 w1 O hg => ?_)); (case hgd => rfl); (case ho => rfl); (case hs => rfl); (case hx => rfl); (case h0 => have := HI.out; omega); (case c1 => exact HN.out); (case c2 => simp); (have O := Lib.hid (copied HB.out (by simp) O hg (by have := HI.out; omega))))
  clear hg
  obtain ⟨g, cg, rfl, hg1, O, D⟩ := O.out
  obtain ⟨_, e, _, _, C⟩ := O.at_ (by omega)
  cases e
  have t1 : w1.cell? ⟨g, i * 4 + 1, none⟩ = some (.string (f i).now) := (C i hi 1 (by omega)).1
  have t2 : w1.cell? ⟨g, i * 4 + 2, none⟩ = some (.bool (f i).dirty) := (C i hi 2 (by omega)).1
  have t3 : w1.cell? ⟨g, i * 4 + 3, none⟩ = some (.bool (f i).touched) := (C i hi 3 (by omega)).1
  have z1 := (C i hi 1 (by omega)).2
  have z2 := (C i hi 2 (by omega)).2
  have z3 := (C i hi 3 (by omega)).2
  have O1 := O.store i 1 (.string b) { f i with now := b } hi (by omega) rfl
  have O2 := O1.store i 2 (.bool true) { f i with now := b, dirty := true } hi (by omega) (by rw [put_same]; rfl)
  rw [put_put] at O2
  have O3 := O2.store i 3 (.bool true) (wrote (f i) b) hi (by omega) (by rw [put_same]; rfl)
  rw [put_put] at O3
  have D3 := Lib.hid (((D.setCell (p := ⟨g, i * 4 + 1, none⟩) hg1 (.string b)).setCell (p := ⟨g, i * 4 + 2, none⟩) hg1 (.bool true)).setCell (p := ⟨g, i * 4 + 3, none⟩) hg1 (.bool true))
  replace O3 := Lib.hid O3
  clear O C O1 O2 D R1 E HB HI HN hi
  go_wp2
  exact bodyPost_ret (v := .slice (some ⟨g, 0, none⟩) n cg) (by simp [results, Try.results28, go_sem]) rfl ⟨_, rfl, O3.out, D3.out⟩

/-- A sector that was synced. -/
theorem synk_zero (f : Nat → Sec) : synk f 0 = f := by funext i; simp [synk]
theorem synk_at (f : Nat → Sec) (j : Nat) : synk f j j = f j := if_neg (Nat.lt_irrefl j)
theorem synk_step (f : Nat → Sec) (j : Nat) : put (synk f j) j (synced (f j)) = synk f (j + 1) := by
  funext i
  unfold put synk
  by_cases e : i = j
  · subst e; simp
  · rw [if_neg e]
    by_cases h : i < j
    · rw [if_pos h, if_pos (by omega)]
    · rw [if_neg h, if_neg (by omega)]
set_option maxHeartbeats 1000000 in
theorem rsync (B : Nat) (A : Option Addr) (c n : Nat) (f : Nat → Sec) (w : World) (R : Sx w B (.slice A n c) f n) (h0 : 0 < n) (hn : n ≤ 1099511627776) :
    Calls Try.prog 27 #[.slice A n c] w (SxN (fun i => synced (f i)) n w) := by
  have E := Lib.hid (empty_own w f)
  have R1 := Lib.hid (R.below ((Below.refl w.heap.size w).alloc (Nat.le_refl _) (.cells #[] 71)))
  have HB := Lib.hid ((Below.refl w.heap.size w).alloc (Nat.le_refl _) (.cells #[] 71))
  have HI := Lib.hid h0
  have HN := Lib.hid hn
  clear R h0
  go_enter Try.func27, Try.ntmps27
  go_upto_region 2 with (at_builtin; (refine append_all (w.alloc (.cells #[] 71)) ?hgd (.tmp 5) (.tmp 6) ?ho w.heap.size _ f n c ?hs E.out B A ?hx R1.out ?h0 ?c1 ?c2 (fun v7 w1 O hg => ?_)); (case hgd => rfl); (case ho => rfl); (case hs => rfl); (case hx => rfl); (case h0 => exact HI.out); (case c1 => exact HN.out); (case c2 => simp); (have O := Lib.hid (copied HB.out (by simp) O hg HI.out)))
  clear hg
  obtain ⟨g, cg, rfl, hg1, O, D⟩ := O.out
  have J := Lib.hid (And.intro O D)
  clear O D R1 E HB
  go_wp2_with fail
  go_loopw [4] (fun v4 wr => ∃ j : Nat, v4 = .int .i64 (j : Int) ∧ j ≤ n ∧ Sx wr w.heap.size (.slice (some ⟨g, 0, none⟩) n cg) (synk f j) n ∧ Below w.heap.size w wr) (fun v4 _ => n - (Lib.intOf v4).toNat)
  case atStart => exact ⟨0, rfl, Nat.zero_le _, by rw [synk_zero]; exact J.out.1, J.out.2⟩
  case round =>
    clear J
    obtain ⟨j, rfl, hj, O, D⟩ := hrel
    by_cases hlt : j < n
    · have i1 : (j : Int) < n := by omega
      obtain ⟨_, e, _, _, C⟩ := O.at_ (by omega)
      cases e
      have t0 : wr.cell? ⟨g, j * 4, none⟩ = some (.string (f j).safe) := by have := (C j hlt 0 (by omega)).1; rw [synk_at] at this; exact this
      have t1 : wr.cell? ⟨g, j * 4 + 1, none⟩ = some (.string (f j).now) := by have := (C j hlt 1 (by omega)).1; rw [synk_at] at this; exact this
      have t2 : wr.cell? ⟨g, j * 4 + 2, none⟩ = some (.bool (f j).dirty) := by have := (C j hlt 2 (by omega)).1; rw [synk_at] at this; exact this
      have z0 : wr.frozen? ⟨g, j * 4, none⟩ = false := (C j hlt 0 (by omega)).2
      have z2 := (C j hlt 2 (by omega)).2
      have O1 := O.store j 0 (.string (f j).now) { f j with safe := (f j).now } hlt (by omega) (by rw [synk_at]; rfl)
      have O2 := O1.store j 2 (.bool false) (synced (f j)) hlt (by omega) (by rw [put_same]; rfl)
      rw [put_put, synk_step] at O2
      have D2 := Lib.hid ((D.setCell (p := ⟨g, j * 4, none⟩) hg1 (.string (f j).now)).setCell (p := ⟨g, j * 4 + 2, none⟩) hg1 (.bool false))
      replace O2 := Lib.hid O2
      clear O C O1 D
      go_wp2_with fail
      go_roundw
      case rel => exact ⟨j + 1, rfl, by omega, O2.out, D2.out⟩
      case measure => simp [Lib.intOf]; omega
    · have i1 : ¬ (j : Int) < n := by omega
      have F := Lib.hid (show SxN (fun i => synced (f i)) n w (.returned (.slice (some ⟨g, 0, none⟩) n cg)) wr from ⟨_, rfl, O.congr (fun i hi => if_pos (by omega)), D⟩)
      clear O D HI HN
      go_wp2
      exact bodyPost_ret (v := .slice (some ⟨g, 0, none⟩) n cg) (by simp [results, Try.results27, go_sem]) rfl F.out
/-- A slice of choices. -/
structure Kb (w : World) (B : Nat) (A : Option Addr) (K : Nat) (ks : Nat → Bool) : Prop where
  at_ : ∀ i, i < K → ∃ b off, A = some ⟨b, off, none⟩ ∧ b < B ∧ w.cell? ⟨b, off + i, none⟩ = some (.bool (ks i))
theorem Kb.below {w w' : World} {B K : Nat} {A : Option Addr} {ks : Nat → Bool} (h : Kb w B A K ks) (d : Below B w w') : Kb w' B A K ks :=
  ⟨fun i hi => by
    obtain ⟨b, off, e, hb, c⟩ := h.at_ i hi
    exact ⟨b, off, e, hb, (d.cell (p := ⟨b, off + i, none⟩) hb).trans c⟩⟩
/-- How many of the first j are in the cache. -/
def cnt (f : Nat → Sec) : Nat → Nat
  | 0 => 0
  | j + 1 => cnt f j + (if (f j).dirty = true then 1 else 0)
theorem cnt_le (f : Nat → Sec) : ∀ j, cnt f j ≤ j
  | 0 => Nat.le_refl _
  | j + 1 => by
    have := cnt_le f j
    show cnt f j + _ ≤ _
    split <;> omega
/-- A sector behind a boot. -/
def booted (s : Sec) (keep : Bool) : Sec := if s.dirty = true then { s with safe := if keep = true then s.now else s.safe, now := if keep = true then s.now else s.safe, dirty := false } else s
def kept (f : Nat → Sec) (K : Nat) (ks : Nat → Bool) (i : Nat) : Bool := decide (cnt f i < K) && ks (cnt f i)
def bootk (f : Nat → Sec) (K : Nat) (ks : Nat → Bool) (j : Nat) : Nat → Sec := fun i => if i < j then booted (f i) (kept f K ks i) else f i
theorem bootk_zero (f : Nat → Sec) (K : Nat) (ks : Nat → Bool) : bootk f K ks 0 = f := by funext i; simp [bootk]
theorem bootk_at (f : Nat → Sec) (K : Nat) (ks : Nat → Bool) (j : Nat) : bootk f K ks j j = f j := if_neg (Nat.lt_irrefl j)
theorem bootk_step (f : Nat → Sec) (K : Nat) (ks : Nat → Bool) (j : Nat) (s : Sec) (hs : s = booted (f j) (kept f K ks j)) : put (bootk f K ks j) j s = bootk f K ks (j + 1) := by
  subst hs
  funext i
  unfold put bootk
  by_cases e : i = j
  · subst e; simp
  · rw [if_neg e]
    by_cases h : i < j
    · rw [if_pos h, if_pos (by omega)]
    · rw [if_neg h, if_neg (by omega)]
theorem bootk_same (f : Nat → Sec) (K : Nat) (ks : Nat → Bool) (j : Nat) (hd : (f j).dirty = false) : bootk f K ks j = bootk f K ks (j + 1) := by
  rw [← bootk_step f K ks j (f j) (by unfold booted; rw [hd]; rfl)]
  funext i
  unfold put
  by_cases e : i = j
  · subst e; rw [if_pos rfl, bootk_at]
  · rw [if_neg e]
set_option maxHeartbeats 1000000 in
set_option maxRecDepth 100000 in
theorem rboot (B : Nat) (A A2 : Option Addr) (c n K c2 : Nat) (f : Nat → Sec) (ks : Nat → Bool) (w : World) (R : Sx w B (.slice A n c) f n) (Q : Kb w w.heap.size A2 K ks) (h0 : 0 < n) (hn : n ≤ 1099511627776) (hK : K ≤ 9223372036854775807) :
    Calls Try.prog 26 #[.slice A n c, .slice A2 K c2] w (SxN (fun i => booted (f i) (kept f K ks i)) n w) := by
  have E := Lib.hid (empty_own w f)
  have R1 := Lib.hid (R.below ((Below.refl w.heap.size w).alloc (Nat.le_refl _) (.cells #[] 71)))
  have HB := Lib.hid ((Below.refl w.heap.size w).alloc (Nat.le_refl _) (.cells #[] 71))
  have HI := Lib.hid h0
  have HN := Lib.hid hn
  have HK := Lib.hid hK
  replace Q := Lib.hid Q
  clear R h0 hK
  go_enter Try.func26, Try.ntmps26
  go_upto_region 2 with (at_builtin; (refine append_all (w.alloc (.cells #[] 71)) ?hgd (.tmp 8) (.tmp 9) ?ho w.heap.size _ f n c ?hs E.out B A ?hx R1.out ?h0 ?c1 ?c2 (fun v7 w1 O hg => ?_)); (case hgd => rfl); (case ho => rfl); (case hs => rfl); (case hx => rfl); (case h0 => exact HI.out); (case c1 => exact HN.out); (case c2 => simp); (have O := Lib.hid (copied HB.out (by simp) O hg HI.out)))
  clear hg
  obtain ⟨g, cg, rfl, hg1, O, D⟩ := O.out
  have J := Lib.hid (And.intro O D)
  clear O D R1 E HB
  go_wp2_with fail
  go_loopw [6, 7] (fun v6 v7 wr => ∃ j : Nat, v7 = .int .i64 (j : Int) ∧ v6 = .int .i64 (cnt f j : Nat) ∧ j ≤ n ∧ Sx wr w.heap.size (.slice (some ⟨g, 0, none⟩) n cg) (bootk f K ks j) n ∧ Below w.heap.size w wr) (fun _ v7 _ => n - (Lib.intOf v7).toNat)
  case atStart => exact ⟨0, rfl, rfl, Nat.zero_le _, by rw [bootk_zero]; exact J.out.1, J.out.2⟩
  case round =>
    clear J
    obtain ⟨j, rfl, rfl, hj, O, D⟩ := hrel
    by_cases hlt : j < n
    · have i1 : (j : Int) < n := by omega
      obtain ⟨_, e, _, _, C⟩ := O.at_ (by omega)
      cases e
      have t2 : wr.cell? ⟨g, j * 4 + 2, none⟩ = some (.bool (f j).dirty) := by have := (C j hlt 2 (by omega)).1; rw [bootk_at] at this; exact this
      cases hd : (f j).dirty with
      | false =>
        rw [hd] at t2
        have O1 := O
        rw [bootk_same f K ks j hd] at O1
        have ec : cnt f (j + 1) = cnt f j := by show cnt f j + _ = _; rw [hd]; rfl
        have F := Lib.hid (And.intro ec (And.intro O1 D))
        clear O C D O1 hd ec
        go_wp2_with fail
        go_roundw
        case rel => exact ⟨j + 1, rfl, by rw [F.out.1], by omega, F.out.2⟩
        case measure => simp [Lib.intOf]; omega
      | true =>
        rw [hd] at t2
        have ec : cnt f (j + 1) = cnt f j + 1 := by show cnt f j + _ = _; rw [hd]; rfl
        obtain ⟨q, hq⟩ : ∃ q, q = cnt f j := ⟨_, rfl⟩
        have qn : q ≤ 1099511627776 := by have := cnt_le f j; omega
        have t0 : wr.cell? ⟨g, j * 4, none⟩ = some (.string (f j).safe) := by have := (C j hlt 0 (by omega)).1; rw [bootk_at] at this; exact this
        have t1 : wr.cell? ⟨g, j * 4 + 1, none⟩ = some (.string (f j).now) := by have := (C j hlt 1 (by omega)).1; rw [bootk_at] at this; exact this
        have z0 : wr.frozen? ⟨g, j * 4, none⟩ = false := (C j hlt 0 (by omega)).2
        have z1 := (C j hlt 1 (by omega)).2
        have z2 := (C j hlt 2 (by omega)).2
        have O1 := fun (x : ByteArray) => O.store j 0 (.string x) { f j with safe := x } hlt (by omega) (by rw [bootk_at]; rfl)
        have O2 := fun (x : ByteArray) => (O1 x).store j 1 (.string x) { f j with safe := x, now := x } hlt (by omega) (by rw [put_same]; rfl)
        have O3 := fun (x : ByteArray) => (O2 x).store j 2 (.bool false) { f j with safe := x, now := x, dirty := false } hlt (by omega) (by rw [put_same]; rfl)
        have D3 := fun (x : ByteArray) => ((D.setCell (p := ⟨g, j * 4, none⟩) hg1 (.string x)).setCell (p := ⟨g, j * 4 + 1, none⟩) hg1 (.string x)).setCell (p := ⟨g, j * 4 + 2, none⟩) hg1 (.bool false)
        have N1 := O.store j 1 (.string (f j).safe) { f j with now := (f j).safe } hlt (by omega) (by rw [bootk_at]; rfl)
        have N2 := N1.store j 2 (.bool false) { f j with now := (f j).safe, dirty := false } hlt (by omega) (by rw [put_same]; rfl)
        have D4 := (D.setCell (p := ⟨g, j * 4 + 1, none⟩) hg1 (.string (f j).safe)).setCell (p := ⟨g, j * 4 + 2, none⟩) hg1 (.bool false)
        by_cases hk : q < K
        · have i2 : (q : Int) < K := by omega
          obtain ⟨b2, off2, rfl, hb2, t5⟩ := (Q.out.below D).at_ q hk
          cases hs : ks q with
          | true =>
            rw [hs] at t5
            have O4 := O3 (f j).now
            simp only [put_put] at O4
            rw [bootk_step f K ks j _ (by unfold booted kept; rw [if_pos hd, ← hq, decide_eq_true hk, hs]; rfl)] at O4
            have F := Lib.hid (And.intro ec (And.intro O4 (D3 (f j).now)))
            clear O C D O1 O2 O3 D3 N1 N2 D4 hd ec O4 hs
            rw [← hq] at F ⊢
            clear hq
            go_wp2_with fail
            go_roundw
            case rel => exact ⟨j + 1, rfl, by rw [F.out.1]; rfl, by omega, F.out.2⟩
            case measure => simp [Lib.intOf]; omega
          | false =>
            rw [hs] at t5
            simp only [put_put] at N2
            rw [bootk_step f K ks j _ (by unfold booted kept; rw [if_pos hd, ← hq, decide_eq_true hk, hs]; rfl)] at N2
            have F := Lib.hid (And.intro ec (And.intro N2 D4))
            clear O C D O1 O2 O3 D3 N1 N2 D4 hd ec hs
            rw [← hq] at F ⊢
            clear hq
            go_wp2_with fail
            go_roundw
            case rel => exact ⟨j + 1, rfl, by rw [F.out.1]; rfl, by omega, F.out.2⟩
            case measure => simp [Lib.intOf]; omega
        · have i2 : ¬ (q : Int) < K := by omega
          simp only [put_put] at N2
          rw [bootk_step f K ks j _ (by unfold booted kept; rw [if_pos hd, ← hq, decide_eq_false hk]; rfl)] at N2
          have F := Lib.hid (And.intro ec (And.intro N2 D4))
          clear O C D O1 O2 O3 D3 N1 N2 D4 hd ec
          rw [← hq] at F ⊢
          clear hq
          go_wp2_with fail
          go_roundw
          case rel => exact ⟨j + 1, rfl, by rw [F.out.1]; rfl, by omega, F.out.2⟩
          case measure => simp [Lib.intOf]; omega
    · have i1 : ¬ (j : Int) < n := by omega
      have F := Lib.hid (show SxN (fun i => booted (f i) (kept f K ks i)) n w (.returned (.slice (some ⟨g, 0, none⟩) n cg)) wr from ⟨_, rfl, O.congr (fun i hi => if_pos (by omega)), D⟩)
      clear O D HI HN
      go_wp2
      exact bodyPost_ret (v := .slice (some ⟨g, 0, none⟩) n cg) (by simp [results, Try.results26, go_sem]) rfl F.out
end Dk
end Go.Proofs.Ytfjlhbamldgklaa
