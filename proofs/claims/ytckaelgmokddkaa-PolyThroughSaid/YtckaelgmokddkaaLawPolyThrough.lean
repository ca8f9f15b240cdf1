/- PolyThrough: of any two rows the law of the polynomial through points answers true, and changes nothing. -/
import Derived.Test.YtckaelgmokddkaaFrame
import Derived.Test.YtckaelgmokddkaaPolyL
set_option linter.unusedVariables false
namespace Go.Proofs.Ytckaelgmokddkaa.polyThrough
open Go.ChangeShapes Go.WideShapes Go.ChangeAt Go.RowKit
open Ww Pn Nt Pl

set_option maxHeartbeats 2000000 in
set_option maxRecDepth 100000 in
theorem walk_long_a (A : Option Addr) (ca : Nat) (xs : List Nat) (B : Option Addr) (cb : Nat) (ys : List Nat) (hl : 12 < xs.length) (w : World) :
    Calls Try.prog 6 #[.slice A xs.length ca, .slice B ys.length cb] w fun e w' => e = .returned (.bool true) ∧ Below w.heap.size w w' := by
  have h1 : 12 < (xs.length : Int) := by omega
  go_enter Try.func6, Try.ntmps6
  go_wp2_with fail
  refine (Pl.awake _).mono ?_
  rintro e w1 ⟨rfl, c1⟩
  go_wp2
  go_ret
  exact ⟨by simp [go_sem], c1⟩

set_option maxHeartbeats 2000000 in
set_option maxRecDepth 100000 in
theorem walk_long_b (A : Option Addr) (ca : Nat) (xs : List Nat) (B : Option Addr) (cb : Nat) (ys : List Nat) (hx : ¬ 12 < xs.length) (hl : 12 < ys.length) (w : World) :
    Calls Try.prog 6 #[.slice A xs.length ca, .slice B ys.length cb] w fun e w' => e = .returned (.bool true) ∧ Below w.heap.size w w' := by
  have h1 : ¬ 12 < (xs.length : Int) := by omega
  have h2 : 12 < (ys.length : Int) := by omega
  go_enter Try.func6, Try.ntmps6
  go_wp2_with fail
  refine (Pl.awake _).mono ?_
  rintro e w1 ⟨rfl, c1⟩
  go_wp2
  go_ret
  exact ⟨by simp [go_sem], c1⟩

set_option maxHeartbeats 2000000 in
set_option maxRecDepth 100000 in
theorem walk_odd (A : Option Addr) (ca : Nat) (xs : List Nat) (B : Option Addr) (cb : Nat) (ys : List Nat) (hx : xs.length ≤ 12) (hy : ys.length ≤ 12) (hne : xs.length ≠ ys.length) (w : World) :
    Calls Try.prog 6 #[.slice A xs.length ca, .slice B ys.length cb] w fun e w' => e = .returned (.bool true) ∧ Below w.heap.size w w' := by
  have h1 : ¬ 12 < (xs.length : Int) := by omega
  have h2 : ¬ 12 < (ys.length : Int) := by omega
  have h3 : ((xs.length : Int) != (ys.length : Int)) = true := by simp; omega
  have TO := Lib.hid (fun W => through_odd A B xs.length ys.length ca cb hne W)
  clear hne
  go_enter Try.func6, Try.ntmps6
  go_wp2_with fail
  refine (Pl.awake _).mono ?_
  rintro e w1 ⟨rfl, c1⟩
  go_wp2_with fail
  refine (TO.out _).mono ?_
  rintro e w2 ⟨rfl, rfl⟩
  go_wp2
  go_ret
  exact ⟨by simp [go_sem], c1⟩

set_option maxHeartbeats 2000000 in
set_option maxRecDepth 100000 in
theorem walk_apart (A : Option Addr) (ca : Nat) (xs : List Nat) (B : Option Addr) (cb : Nat) (ys : List Nat) (hx : xs.length ≤ 12) (hy : ys.length = xs.length) (hA : Apart xs) (w : World) (Ra : Ws w w.heap.size A xs) (Rb : Ws w w.heap.size B ys) :
    Calls Try.prog 6 #[.slice A xs.length ca, .slice B xs.length cb] w fun e w' => e = .returned (.bool true) ∧ Below w.heap.size w w' := by
  have h1 : ¬ 12 < (xs.length : Int) := by omega
  have YL := Lib.hid hy
  have OF := Lib.hid (fun x W => Gr.of x W)
  have TH := Lib.hid (fun W R1 R2 => show Calls Try.prog 28 #[.slice A xs.length ca, .slice B xs.length cb] W fun e w' => ∃ (zs : List Nat) (A2 : Option Addr) (cap : Nat), Nf 18446744069414584321 zs ∧ zs.length ≤ xs.length ∧ (∀ k, k < xs.length → evl (pl xs k) zs % 18446744069414584321 = pl ys k % 18446744069414584321) ∧ e = .returned (.tuple #[.slice A2 zs.length cap, .int .i64 0]) ∧ Ws w' w'.heap.size A2 zs ∧ Below W.heap.size W w' from
    (through_walk A B ca cb xs ys (by omega) hy W R1 R2).mono fun e w' h => h.elim (fun h => h.2) (fun h => absurd hA h.1))
  have NE := Lib.hid (fun i k (hi : i < xs.length) (hk : k < i) => show (((pl xs i % 18446744069414584321 : Nat) : Int) == ((pl xs k % 18446744069414584321 : Nat) : Int)) = false by
    have := hA i k hi hk
    rw [beq_eq_false_iff_ne]; omega)
  have QR := Lib.hid (fun (Az : Option Addr) (kz : Nat) (zs : List Nat) (h : Nf 18446744069414584321 zs) (hl : zs.length ≤ 200) W R => show Calls Try.prog 13 #[.slice Az zs.length kz] W (Row zs W) by
    have c := rtrim Az kz zs (by omega) W R
    rw [tr_self (by decide) h] at c
    exact c)
  have S0 := Lib.hid (fun (A1 A2 : Option Addr) (k1 k2 : Nat) (zs : List Nat) (hl : zs.length ≤ 9223372036854775807) W R1 R2 => Sm.same A1 A2 _ _ k1 k2 zs rfl rfl hl W R1 R2)
  have QV := Lib.hid (fun (Az : Option Addr) (kz x : Nat) (zs : List Nat) (hx : x < 18446744073709551616) (hl : zs.length ≤ 200) W R => rat Az kz zs x hx (by omega) W R)
  clear hy hA
  go_enter Try.func6, Try.ntmps6
  go_wp2_with fail
  refine (Pl.awake _).mono ?_
  rintro e w1 ⟨rfl, c1⟩
  have X1 := Ra.step c1
  have Y1 := Rb.step c1
  clear Ra Rb
  go_wp2_with fail
  refine (TH.out _ X1 Y1).mono ?_
  rintro e w2 ⟨zs, Az, kz, Nz0, hlz, hE0, rfl, Z2, d2⟩
  have Nz := Lib.hid Nz0
  have hE := Lib.hid hE0
  have c2 := c1.trans (d2.mono c1.size)
  have X2 := X1.step d2
  have Y2 := Y1.step d2
  have hz1 : ¬ (xs.length : Int) < (zs.length : Int) := by omega
  clear Nz0 hE0 c1 X1 Y1 d2 TH
  go_wp2_with fail
  go_loopw [7] (fun v7 wr => ∃ i : Nat, v7 = .int .i64 (i : Int) ∧ i ≤ xs.length ∧ Below w2.heap.size w2 wr) (fun v7 _ => xs.length - (Lib.intOf v7).toNat)
  case atStart => exact ⟨0, rfl, Nat.zero_le _, Below.refl _ _⟩
  case round =>
    obtain ⟨i, rfl, hi, hbl⟩ := hrel
    by_cases hlt : i < xs.length
    · have i1 : (i : Int) < xs.length := by omega
      obtain ⟨wo, rfl⟩ : ∃ wo : World, wo = wr := ⟨_, rfl⟩
      go_wp2_with fail
      go_loopw [8] (fun v8 wr => ∃ k : Nat, v8 = .int .i64 (k : Int) ∧ k ≤ i ∧ Below w2.heap.size w2 wr) (fun v8 _ => i - (Lib.intOf v8).toNat)
      case atStart => exact ⟨0, rfl, Nat.zero_le _, hbl⟩
      case round =>
        obtain ⟨k, rfl, hk, hbk⟩ := hrel
        by_cases hki : k < i
        · have k1 : (k : Int) < i := by omega
          have k2 : (k : Int) < xs.length := by omega
          have X3 := X2.below hbk
          obtain ⟨b, off, rfl, hB, c0⟩ := X3.at_ i hlt
          obtain ⟨b', off', e', _, c3⟩ := X3.at_ k (by omega)
          injection e' with e'
          injection e' with e1 e2
          subst e1 e2
          have u0 : wr.cell? ⟨b, off + i, none⟩ = some (.int .u64 (pl xs i : Nat)) := c0
          have u1 : wr.cell? ⟨b, off + k, none⟩ = some (.int .u64 (pl xs k : Nat)) := c3
          have O1 := Lib.hid (OF.out (pl xs i))
          have O2 := Lib.hid (OF.out (pl xs k))
          have ne := NE.out i k hlt hki
          clear c0 c3 X3 
          generalize pl xs i % 18446744069414584321 = g1 at *
          generalize pl xs k % 18446744069414584321 = g2 at *
          generalize pl xs i = x1 at *
          generalize pl xs k = x2 at *
          go_wp2_with fail
          go_quiet ((go_at_call 29; first | exact qs (O1.out _) | exact qs (O2.out _)))
          go_wp2_with fail
          go_roundw
          case rel => exact ⟨k + 1, rfl, by omega, below_drewN hbk _⟩
          case measure => simp [Lib.intOf]; omega
        · have k1 : ¬ (k : Int) < i := by omega
          obtain rfl : k = i := by omega
          go_wp2_with fail
          go_roundw
          case rel => exact ⟨k + 1, rfl, by omega, hbk⟩
          case measure => simp [Lib.intOf]; omega
    · have i1 : ¬ (i : Int) < xs.length := by omega
      obtain rfl : i = xs.length := by omega
      have cr := c2.trans (hbl.mono c2.size)
      have X3 := (X2.below hbl).more hbl.size
      have Y3 := (Y2.below hbl).more hbl.size
      have Z3 := (Z2.below hbl).more hbl.size
      clear X2 Y2 Z2 c2 hbl
      go_wp2_with fail
      refine (QR.out Az kz zs Nz.out (by omega) _ Z3).mono ?_
      rintro e w4 ⟨At, kt, rfl, Z4, d4⟩
      have c4 := cr.trans (d4.mono cr.size)
      have X4 := X3.step d4
      have Y4 := Y3.step d4
      have Z5 := Z3.step d4
      clear X3 Y3 Z3 d4 cr
      go_wp2_with fail
      refine (S0.out Az At kz kt zs (by omega) _ Z5 Z4).mono ?_
      rintro e w5 ⟨rfl, d5⟩
      have c5 := c4.trans (d5.mono c4.size)
      have X5 := X4.step d5
      have Y5 := Y4.step d5
      have Z6 := Z5.step d5
      clear X4 Y4 Z4 Z5 d5 c4
      go_wp2_with fail
      go_loopw [9] (fun v9 wr => ∃ i : Nat, v9 = .int .i64 (i : Int) ∧ i ≤ xs.length ∧ Below w5.heap.size w5 wr) (fun v9 _ => xs.length - (Lib.intOf v9).toNat)
      case atStart => exact ⟨0, rfl, Nat.zero_le _, Below.refl _ _⟩
      case round =>
        obtain ⟨i, rfl, hi, hbl⟩ := hrel
        by_cases hlt : i < xs.length
        · have i1 : (i : Int) < xs.length := by omega
          have X6 := X5.below hbl
          have Y6 := Y5.below hbl
          have Z7 := (Z6.below hbl).more hbl.size
          obtain ⟨b, off, rfl, hB, c0⟩ := X6.at_ i hlt
          obtain ⟨b2, off2, rfl, hB2, c3⟩ := Y6.at_ i (by have := YL.out; omega)
          have u0 : wr.cell? ⟨b, off + i, none⟩ = some (.int .u64 (pl xs i : Nat)) := c0
          have u1 : wr.cell? ⟨b2, off2 + i, none⟩ = some (.int .u64 (pl ys i : Nat)) := c3
          have O1 := Lib.hid (OF.out (pl ys i))
          have V := fun W R => QV.out Az kz (pl xs i) zs (X6.lt i hlt) (by omega) W R
          rw [hE.out i hlt] at V
          have V := Lib.hid V
          clear c0 c3 X6 Y6
          generalize pl ys i % 18446744069414584321 = g1 at *
          generalize pl xs i = x1 at *
          generalize pl ys i = x2 at *
          go_wp2_with fail
          go_quiet ((first
            | (go_at_call 29; exact qs (O1.out _))
            | (go_at_call 16; exact qs (V.out _ (Z7.drewN _)))))
          go_wp2_with fail
          go_roundw
          case rel => exact ⟨i + 1, rfl, by omega, below_drewN hbl _⟩
          case measure => simp [Lib.intOf]; omega
        · have i1 : ¬ (i : Int) < xs.length := by omega
          have cf := c5.trans (hbl.mono c5.size)
          go_wp2
          go_ret
          exact ⟨by simp [go_sem], cf⟩

set_option maxHeartbeats 2000000 in
set_option maxRecDepth 100000 in
theorem walk_same (A : Option Addr) (ca : Nat) (xs : List Nat) (B : Option Addr) (cb : Nat) (ys : List Nat) (hx : xs.length ≤ 12) (hy : ys.length = xs.length) (hA : ¬ Apart xs) (w : World) (Ra : Ws w w.heap.size A xs) (Rb : Ws w w.heap.size B ys) :
    Calls Try.prog 6 #[.slice A xs.length ca, .slice B xs.length cb] w fun e w' => e = .returned (.bool true) ∧ Below w.heap.size w w' := by
  have h1 : ¬ 12 < (xs.length : Int) := by omega
  have YL := Lib.hid hy
  have OF := Lib.hid (fun x W => Gr.of x W)
  have TH := Lib.hid (fun W R1 R2 => show Calls Try.prog 28 #[.slice A xs.length ca, .slice B xs.length cb] W fun e w' => e = .returned (.tuple #[.slice none 0 0, .int .i64 13]) ∧ Below W.heap.size W w' from
    (through_walk A B ca cb xs ys (by omega) hy W R1 R2).mono fun e w' h => h.elim (fun h => absurd h.1 hA) (fun h => h.2))
  have HA := Lib.hid hA
  clear hy hA
  go_enter Try.func6, Try.ntmps6
  go_wp2_with fail
  refine (Pl.awake _).mono ?_
  rintro e w1 ⟨rfl, c1⟩
  have X1 := Ra.step c1
  have Y1 := Rb.step c1
  clear Ra Rb
  go_wp2_with fail
  refine (TH.out _ X1 Y1).mono ?_
  rintro e w2 ⟨rfl, d2⟩
  have c2 := c1.trans (d2.mono c1.size)
  have X2 := X1.step d2
  clear c1 X1 Y1 d2 TH
  go_wp2_with fail
  go_loopw [7] (fun v7 wr => ∃ i : Nat, v7 = .int .i64 (i : Int) ∧ i ≤ xs.length ∧ Below w2.heap.size w2 wr ∧ (∀ a b, a < i → b < a → pl xs a % 18446744069414584321 ≠ pl xs b % 18446744069414584321)) (fun v7 _ => xs.length - (Lib.intOf v7).toNat)
  case atStart => exact ⟨0, rfl, Nat.zero_le _, Below.refl _ _, (fun a b h => absurd h (Nat.not_lt_zero a))⟩
  case round =>
    obtain ⟨i, rfl, hi, hbl, SO0⟩ := hrel
    have SO := Lib.hid SO0
    clear SO0
    by_cases hlt : i < xs.length
    · have i1 : (i : Int) < xs.length := by omega
      obtain ⟨wo, rfl⟩ : ∃ wo : World, wo = wr := ⟨_, rfl⟩
      go_wp2_with fail
      go_loopw [8] (fun v8 wr => ∃ k : Nat, v8 = .int .i64 (k : Int) ∧ k ≤ i ∧ Below w2.heap.size w2 wr ∧ (∀ b, b < k → pl xs i % 18446744069414584321 ≠ pl xs b % 18446744069414584321)) (fun v8 _ => i - (Lib.intOf v8).toNat)
      case atStart => exact ⟨0, rfl, Nat.zero_le _, hbl, (fun b h => absurd h (Nat.not_lt_zero b))⟩
      case round =>
        obtain ⟨k, rfl, hk, hbk, SI0⟩ := hrel
        have SI := Lib.hid SI0
        clear SI0
        by_cases hki : k < i
        · have k1 : (k : Int) < i := by omega
          have k2 : (k : Int) < xs.length := by omega
          have X3 := X2.below hbk
          obtain ⟨b, off, rfl, hB, c0⟩ := X3.at_ i hlt
          obtain ⟨b', off', e', _, c3⟩ := X3.at_ k (by omega)
          injection e' with e'
          injection e' with e1 e2
          subst e1 e2
          have u0 : wr.cell? ⟨b, off + i, none⟩ = some (.int .u64 (pl xs i : Nat)) := c0
          have u1 : wr.cell? ⟨b, off + k, none⟩ = some (.int .u64 (pl xs k : Nat)) := c3
          have O1 := Lib.hid (OF.out (pl xs i))
          have O2 := Lib.hid (OF.out (pl xs k))
          by_cases hs : pl xs i % 18446744069414584321 = pl xs k % 18446744069414584321
          · rw [← hs] at O2
            have cf := fun m => c2.trans ((below_drewN hbk m).mono c2.size)
            clear c0 c3 X3 hs
            generalize pl xs i % 18446744069414584321 = g1 at *
            generalize pl xs i = x1 at *
            generalize pl xs k = x2 at *
            go_wp2_with fail
            go_quiet ((go_at_call 29; first | exact qs (O1.out _) | exact qs (O2.out _)))
            go_wp2
            go_ret
            exact ⟨by simp [go_sem], cf _⟩
          · have ne : (((pl xs i % 18446744069414584321 : Nat) : Int) == ((pl xs k % 18446744069414584321 : Nat) : Int)) = false := by rw [beq_eq_false_iff_ne]; omega
            have SI2 := Lib.hid (fun b (hb : b < k + 1) => show pl xs i % 18446744069414584321 ≠ pl xs b % 18446744069414584321 from by
              by_cases e : b = k
              · rw [e]; exact hs
              · exact SI.out b (by omega))
            clear c0 c3 X3 hs SI
            generalize pl xs i % 18446744069414584321 = g1 at *
            generalize pl xs k % 18446744069414584321 = g2 at *
            generalize pl xs i = x1 at *
            generalize pl xs k = x2 at *
            go_wp2_with fail
            go_quiet ((go_at_call 29; first | exact qs (O1.out _) | exact qs (O2.out _)))
            go_wp2_with fail
            go_roundw
            case rel => exact ⟨k + 1, rfl, by omega, below_drewN hbk _, SI2.out⟩
            case measure => simp [Lib.intOf]; omega
        · have k1 : ¬ (k : Int) < i := by omega
          obtain rfl : k = i := by omega
          have SO2 := Lib.hid (fun a b (ha : a < k + 1) (hb : b < a) => show pl xs a % 18446744069414584321 ≠ pl xs b % 18446744069414584321 from by
            by_cases e : a = k
            · rw [e]; exact SI.out b (by omega)
            · exact SO.out a b (by omega) hb)
          go_wp2_with fail
          go_roundw
          case rel => exact ⟨k + 1, rfl, by omega, hbk, SO2.out⟩
          case measure => simp [Lib.intOf]; omega
    · have i1 : ¬ (i : Int) < xs.length := by omega
      obtain rfl : i = xs.length := by omega
      exact absurd (fun a b ha hb => SO.out a b ha hb) HA.out

theorem walk (A : Option Addr) (ca : Nat) (xs : List Nat) (B : Option Addr) (cb : Nat) (ys : List Nat) (w : World) (Ra : Ws w w.heap.size A xs) (Rb : Ws w w.heap.size B ys) :
    Calls Try.prog 6 #[.slice A xs.length ca, .slice B ys.length cb] w fun e w' => e = .returned (.bool true) ∧ Below w.heap.size w w' := by
  by_cases h : 12 < xs.length
  · exact walk_long_a A ca xs B cb ys h w
  · by_cases h2 : 12 < ys.length
    · exact walk_long_b A ca xs B cb ys h h2 w
    · by_cases he : xs.length = ys.length
      · rw [← he]
        by_cases hA : Apart xs
        · exact walk_apart A ca xs B cb ys (by omega) he.symm hA w Ra Rb
        · exact walk_same A ca xs B cb ys (by omega) he.symm hA w Ra Rb
      · exact walk_odd A ca xs B cb ys (by omega) (by omega) he w

set_option maxRecDepth 100000 in
theorem lifted (os : Os) (started : os.Started) (H : Type) (enc : TypeId × Value → H) :
    ReturnsInHanded {} Try.checked os 6 .any (Rows.polyThroughSpec.pre6 enc Try.prog Try.f6 Rows.polyThroughRow.domain false) (Rows.polyThroughSpec.post enc Try.prog Try.f6 false true false false) := by
  refine returnsInHanded_of_change (C := Try.checked) Fr.own started (by kernel_rfl) Try.func6
    (ChangeSpec.witness6 (enc := enc) (C := Try.checked) false ⟨#[], #[.slice none 0 0, .slice none 0 0], []⟩ 8 (by kernel_rfl) (by kernel_rfl) (by kernel_rfl) (by kernel_rfl)) ?_
  intro W base args ds gs before hval0 hW hcnd _
  have hval : ∀ (j : Nat) t v, Try.f6.params[j]? = some t → args[j]? = some v → Value.okWide Try.prog W .any base t v := hval0
  have hW' := hW
  obtain ⟨p, q, hA0, hV, rfl, hfz, hnd⟩ := hW
  have hA : DataW.TrodAll enc Try.prog W 0 (fun _ => true) true Try.f6.params.toList args.toList ds p := hA0
  obtain ⟨rfl, rfl⟩ := trodVars_none hV
  rw [Try.params6] at hA hval
  obtain ⟨v0, vs0, d0, ds0, p0, q0, hargs, rfl, rfl, h0, r0⟩ := trodAll_cons hA
  obtain ⟨v1, vs1, d1, ds1, p1, q1, rfl, rfl, rfl, h1, r1⟩ := trodAll_cons r0
  obtain ⟨rfl, rfl, rfl⟩ := trodAll_nil r1
  obtain rfl : args = #[v0, v1] := by cases args; simp_all
  obtain ⟨A0, n0, c0, rfl⟩ := okWide_slice Try.underlying22 (hval 0 22 v0 rfl rfl)
  obtain ⟨fuel0, hf0⟩ := h0
  obtain ⟨xs0, rfl, lc0, lm0, R0⟩ := Ww.open_words hf0
  obtain ⟨A1, n1, c1, rfl⟩ := okWide_slice Try.underlying22 (hval 1 22 v1 rfl rfl)
  obtain ⟨fuel1, hf1⟩ := h1
  obtain ⟨xs1, rfl, lc1, lm1, R1⟩ := Ww.open_words hf1
  simp only [List.append_nil] at hW' hA0
  refine (walk A0 c0 xs0 A1 c1 xs1 W R0 R1).mono fun e W' ⟨he, hb⟩ => ?_
  subst he
  exact ⟨_, rfl, Fr.law_post (tb := 4) hW' hA0 rfl rfl rfl Try.underlying4 (by rw [Try.params6]; intro t ht; simp at ht; rcases ht with rfl | rfl; all_goals exact ⟨by kernel_rfl, of_decide_eq_true (by kernel_rfl)⟩) hb⟩

theorem proved : Rows.PolyThroughSaid :=
  OpenClaim.holds_of_wide 6 Try.f6 rfl rfl rfl rfl rfl rfl rfl ⟨rfl, rfl, rfl, rfl, rfl⟩ rfl rfl rfl rfl rfl (by kernel_rfl) Try.func6 (by kernel_rfl)
    (of_decide_eq_true (by kernel_rfl)) (by unfold Func.isWrapper; first | (rw [if_pos (by decide +kernel)]; kernel_rfl) | (rw [if_neg (by decide +kernel)]; exact ⟨rfl, rfl⟩))
    (fun os started H enc _ => lifted os started H enc)
end Go.Proofs.Ytckaelgmokddkaa.polyThrough
