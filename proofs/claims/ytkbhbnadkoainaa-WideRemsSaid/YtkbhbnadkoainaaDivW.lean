/- The contract of math/bits' Div64, of every numbers with hi below y: quotient and rest; nothing that was there is written. -/
import Derived.Test.YtkbhbnadkoainaaBits
import Derived.Test.YtkbhbnadkoainaaBitsB
import Derived.Test.YtkbhbnadkoainaaDiv
import Derived.RegionTactic
import Derived.Deep.CutBlock
import Derived.Deep.LoopGhost
import Derived.Deep.DeepCutAuto
import Derived.Deep.QuietTactic
import Derived.BigQuiet
import Derived.WalkSmall
set_option linter.unusedVariables false
namespace Go.Proofs.Ytkbhbnadkoainaa
open Go.RowKit
namespace Bt

set_option maxHeartbeats 400000 in
theorem div64_zero (l y : Nat) (hl : l < 18446744073709551616) (n3 : 0 < y) (w : World) :
    Calls Try.prog 39 #[.int .u64 0, .int .u64 l, .int .u64 y] w fun e w' => e = .returned (.tuple #[.int .u64 ((l / y : Nat) : Int), .int .u64 ((l % y : Nat) : Int)]) ∧ Below w.heap.size w w' := by
  have n4 : ((y : Int) == 0) = false := by simp; omega
  have n1 : ¬ y ≤ 0 := by omega
  have r1 : IntKind.u64.wrap ((l : Int) / y) = ((l / y : Nat) : Int) := wrapN _ (Nat.lt_of_le_of_lt (Nat.div_le_self _ _) hl)
  clear hl n3
  generalize l / y = q at r1 ⊢
  go_enter Try.func39, Try.ntmps39
  go_wp2
  go_quiet (fail)
  go_wp2
  go_ret2
  exact ⟨rfl, below_drewN (Below.refl _ _) _⟩

theorem guess_rule (U q yh r : Nat) (hU : U < 18446744073709551616) (h : q * yh + r = U) : IntKind.u64.wrap ((U : Int) - IntKind.u64.wrap ((q : Int) * yh)) = (r : Int) := by
  rw [mulN]
  generalize q * yh = P at h ⊢
  rw [wrapN P (by omega), show (U : Int) - P = (r : Int) from by omega, wrapN _ (by omega)]
theorem rest_rule (y U d : Nat) (hy : y < 18446744073709551616) (h0 : 0 < y) :
    IntKind.u64.wrap (IntKind.u64.wrap (IntKind.u64.wrap ((U : Int) * 4294967296) + (d : Int)) - IntKind.u64.wrap ((((U * 4294967296 + d) / y : Nat) : Int) * (y : Int))) = (((U * 4294967296 + d) % y : Nat) : Int) := by
  rw [← Dv.rest_wrap y U d hy h0, mulN]
  generalize (U * 4294967296 + d) / y * y = P
  simp only [IntKind.wrap_u64]
  omega

/-- What the walk of the long way takes as given: each step's number under a name of its own. -/
structure Steps (h l y s Y yh yl U L u1 u0 : Nat) : Prop where
  y_lt : yh < 4294967296
  y_ge : 2147483648 ≤ yh
  yl_lt : yl < 4294967296
  u1_lt : u1 < 4294967296
  u0_lt : u0 < 4294967296
  Y_eq : yh * 4294967296 + yl = Y
  U_lt : U < Y
  rY : IntKind.u64.wrap ((y : Int) * 2 ^ s) = (Y : Int)
  ryh : (Y : Int) / 4294967296 = (yh : Int)
  ryl : bits .and .u64 (Y : Int) 4294967295 = (yl : Int)
  rU : bits .or .u64 (IntKind.u64.wrap ((h : Int) * 2 ^ s)) ((l : Int) / 2 ^ (64 - s)) = (U : Int)
  rL : IntKind.u64.wrap ((l : Int) * 2 ^ s) = (L : Int)
  ru1 : (L : Int) / 4294967296 = (u1 : Int)
  ru0 : bits .and .u64 (L : Int) 4294967295 = (u0 : Int)

set_option maxHeartbeats 1000000 in
set_option maxRecDepth 100000 in
theorem div64_main (h l y s Y yh yl U L u1 u0 : Nat) (ST : Steps h l y s Y yh yl U L u1 u0) (n1 : ¬ y ≤ h) (n2 : ((h : Int) == 0) = false) (n3 : ((y : Int) == 0) = false) (hs : s ≤ 63)
    (Hl : Hid (∀ w, Calls Try.prog 49 #[.int .u64 y] w fun e w' => e = .returned (.int .i64 (s : Int)) ∧ w = w')) (w : World) :
    Calls Try.prog 39 #[.int .u64 h, .int .u64 l, .int .u64 y] w fun e w' => e = .returned (.tuple #[.int .u64 (((U * 4294967296 + u1) / Y * 4294967296 + ((U * 4294967296 + u1) % Y * 4294967296 + u0) / Y : Nat) : Int), .int .u64 ((((U * 4294967296 + u1) % Y * 4294967296 + u0) % Y / 2 ^ s : Nat) : Int)]) ∧ Below w.heap.size w w' := by
  have rY := ST.rY
  have ryh := ST.ryh
  have ryl := ST.ryl
  have rU := ST.rU
  have rL := ST.rL
  have ru1 := ST.ru1
  have ru0 := ST.ru0
  have n4 : ((yh : Int) == 0) = false := by have := ST.y_ge; simp; omega
  have n5 : ¬ (yh : Int) = 0 := by have := ST.y_ge; omega
  have g0 := Dv.guess_init yh yl U u1 ST.y_lt ST.y_ge ST.yl_lt ST.u1_lt (by rw [ST.Y_eq]; exact ST.U_lt)
  generalize hq0 : U / yh = q0 at g0
  generalize hr0 : U - q0 * yh = r0 at g0
  have rq : IntKind.u64.wrap ((U : Int) / yh) = (q0 : Int) := by
    rw [show (U : Int) / yh = ((U / yh : Nat) : Int) from rfl, hq0]; exact wrapN _ (by have := g0.q_le; omega)
  have rp := guess_rule U q0 yh r0 (by have := ST.U_lt; have := ST.Y_eq; have := ST.y_lt; have := ST.yl_lt; omega) g0.sum
  clear hq0 hr0
  go_enter Try.func39, Try.ntmps39
  go_upto_block 0 with (go_at_call 49; refine (Hl.out _).mono ?_; rintro e w' ⟨rfl, rfl⟩)
  clear Hl rY ryh ryl rU rL ru1 ru0 n1 n2 n3
  go_cut [15] from 67 to 85 (fun v15 wx => v15 = .int .u64 (((U * 4294967296 + u1) / Y : Nat) : Int) ∧ wx = w)
  case first =>
    go_wp2_with fail
    go_loopg [15, 16] q0 (fun k v15 v16 wr => ∃ r : Nat, v15 = .int .u64 (k : Int) ∧ v16 = .int .u64 (r : Int) ∧ Dv.Guess yh yl U u1 k r ∧ wr = w)
    case atStart => exact ⟨r0, rfl, rfl, g0, rfl⟩
    case round =>
      obtain ⟨r, rfl, rfl, g, rfl⟩ := hrel
      clear g0 rq rp
      have HUlt : Hid (U < Y) := ST.U_lt
      have gr := g.r_lt
      have gq := g.q_le
      by_cases hbig : 4294967296 ≤ gk
      · have hA : (4294967296 : Int) ≤ gk := by omega
        have top := Dv.top_big yh yl U u1 gk ST.u1_lt (by rw [ST.Y_eq]; exact HUlt.out) hbig
        obtain ⟨q, hq⟩ : ∃ q, gk = q + 1 := ⟨gk - 1, by omega⟩
        have rm : IntKind.u64.wrap ((gk : Int) - 1) = (q : Int) := by rw [show (gk : Int) - 1 = (q : Int) from by omega]; exact wrapN q (by omega)
        obtain ⟨r', hr'⟩ : ∃ r', r' = r + yh := ⟨_, rfl⟩
        have ra : IntKind.u64.wrap ((r : Int) + yh) = (r' : Int) := by rw [addN, ← hr']; exact wrapN r' (by have := ST.y_lt; omega)
        have HS := Lib.hid (Dv.next_sum q yh r U gk r' hq hr' g.sum)
        have HT : Hid (U * 4294967296 + u1 < (q + 1) * (yh * 4294967296 + yl)) := by rw [hq] at top; exact top
        have hq2 : q < gk := by omega
        have hq3 : q ≤ 4294967296 := by omega
        clear top hq hr' g gr gq
        by_cases hbr : 4294967296 ≤ r'
        · have hb1 : (4294967296 : Int) ≤ r' := by omega
          have HQ := Lib.hid (Dv.quot_break yh yl U u1 q r' Y ST.Y_eq ST.yl_lt HS.out hq3 hbr HT.out)
          clear HS HT
          go_wp2
          go_meet
          exact ⟨by rw [← HQ.out], rfl⟩
        · have hb1 : ¬ (4294967296 : Int) ≤ r' := by omega
          have HG : Hid (Dv.Guess yh yl U u1 q r') := ⟨HS.out, HT.out, by omega, by omega⟩
          clear HS HT
          go_wp2
          go_roundg q
          case measure => exact hq2
          case rel => exact ⟨r', rfl, rfl, HG.out, rfl⟩
      · have hA : ¬ (4294967296 : Int) ≤ gk := by omega
        have hm : gk * yl ≤ 4294967295 * 4294967295 := Nat.mul_le_mul (by omega) (by have := ST.yl_lt; omega)
        obtain ⟨X, hX⟩ : ∃ X, X = gk * yl := ⟨_, rfl⟩
        have rX : IntKind.u64.wrap ((gk : Int) * yl) = (X : Int) := by rw [mulN, ← hX]; exact wrapN X (by omega)
        obtain ⟨Z0, hZ0⟩ : ∃ Z0, Z0 = 4294967296 * r := ⟨_, rfl⟩
        have rZ0 : IntKind.u64.wrap (4294967296 * (r : Int)) = (Z0 : Int) := by rw [show 4294967296 * (r : Int) = (Z0 : Int) from by omega]; exact wrapN Z0 (by omega)
        obtain ⟨Z, hZ⟩ : ∃ Z, Z = Z0 + u1 := ⟨_, rfl⟩
        have rZ : IntKind.u64.wrap ((Z0 : Int) + u1) = (Z : Int) := by rw [addN, ← hZ]; exact wrapN Z (by have := ST.u1_lt; omega)
        have HX := Lib.hid hX
        have HZ : Hid (Z = 4294967296 * r + u1) := by rw [hZ, hZ0]; exact rfl
        clear hm hX hZ0 hZ
        by_cases hgt : Z < X
        · have hne : 1 ≤ gk := by
            apply Nat.pos_of_ne_zero
            intro h0
            have := HX.out
            rw [h0, Nat.zero_mul] at this
            omega
          have top := Dv.top_test yh yl U u1 gk r g.sum (by rw [← HX.out, ← HZ.out]; exact hgt)
          obtain ⟨q, hq⟩ : ∃ q, gk = q + 1 := ⟨gk - 1, by omega⟩
          have rm : IntKind.u64.wrap ((gk : Int) - 1) = (q : Int) := by rw [show (gk : Int) - 1 = (q : Int) from by omega]; exact wrapN q (by omega)
          obtain ⟨r', hr'⟩ : ∃ r', r' = r + yh := ⟨_, rfl⟩
          have ra : IntKind.u64.wrap ((r : Int) + yh) = (r' : Int) := by rw [addN, ← hr']; exact wrapN r' (by have := ST.y_lt; omega)
          have HS := Lib.hid (Dv.next_sum q yh r U gk r' hq hr' g.sum)
          have HT : Hid (U * 4294967296 + u1 < (q + 1) * (yh * 4294967296 + yl)) := by rw [hq] at top; exact top
          have hq2 : q < gk := by omega
          have hq3 : q ≤ 4294967296 := by omega
          clear top hq hr' g gr gq
          by_cases hbr : 4294967296 ≤ r'
          · have hb1 : (4294967296 : Int) ≤ r' := by omega
            have HQ := Lib.hid (Dv.quot_break yh yl U u1 q r' Y ST.Y_eq ST.yl_lt HS.out hq3 hbr HT.out)
            clear HS HT
            go_wp2
            go_meet
            exact ⟨by rw [← HQ.out], rfl⟩
          · have hb1 : ¬ (4294967296 : Int) ≤ r' := by omega
            have HG : Hid (Dv.Guess yh yl U u1 q r') := ⟨HS.out, HT.out, by omega, by omega⟩
            clear HS HT
            go_wp2
            go_roundg q
            case measure => exact hq2
            case rel => exact ⟨r', rfl, rfl, HG.out, rfl⟩
        · have HQ := Lib.hid (Dv.quot_test yh yl U u1 gk r Y X Z ST.Y_eq g HX.out HZ.out hgt)
          clear g gr gq HX HZ
          go_wp2
          go_meet
          exact ⟨by rw [← HQ.out], rfl⟩
  case rest =>
    obtain ⟨rfl, rfl⟩ := hcut
    have hYp : 0 < Y := by have := ST.Y_eq; have := ST.y_ge; omega
    have hY64 : Y < 18446744073709551616 := by have := ST.Y_eq; have := ST.y_lt; have := ST.yl_lt; omega
    have HUlt : Hid (U < Y) := ST.U_lt
    have rR := rest_rule Y U u1 hY64 hYp
    have hRY : (U * 4294967296 + u1) % Y < Y := Nat.mod_lt _ hYp
    have hd1 : (U * 4294967296 + u1) / Y < 4294967296 := by rw [← ST.Y_eq]; exact Dv.digit_lt yh yl U u1 ST.u1_lt (by rw [ST.Y_eq]; exact ST.U_lt)
    clear g0 rq rp
    generalize e1 : (U * 4294967296 + u1) / Y = q1 at rR hd1 ⊢
    generalize e2 : (U * 4294967296 + u1) % Y = R at rR hRY ⊢
    have E1 := Lib.hid e1
    have E2 := Lib.hid e2
    clear e1 e2
    have g0 := Dv.guess_init yh yl R u0 ST.y_lt ST.y_ge ST.yl_lt ST.u0_lt (by rw [ST.Y_eq]; exact hRY)
    generalize hq0 : R / yh = q2 at g0
    generalize hr0 : R - q2 * yh = r2 at g0
    have rq : IntKind.u64.wrap ((R : Int) / yh) = (q2 : Int) := by
      rw [show (R : Int) / yh = ((R / yh : Nat) : Int) from rfl, hq0]; exact wrapN _ (by have := g0.q_le; omega)
    have rp := guess_rule R q2 yh r2 (by omega) g0.sum
    clear hq0 hr0 HUlt
    go_upto_block 2 with (fail)
    clear rR rq rp
    go_cut [18] from 102 to 120 (fun v18 wx => v18 = .int .u64 (((R * 4294967296 + u0) / Y : Nat) : Int) ∧ wx = wc)
    case first =>
      go_wp2_with fail
      go_loopg [18, 16] q2 (fun k v18 v16 wr => ∃ r : Nat, v18 = .int .u64 (k : Int) ∧ v16 = .int .u64 (r : Int) ∧ Dv.Guess yh yl R u0 k r ∧ wr = wc)
      case atStart => exact ⟨r2, rfl, rfl, g0, rfl⟩
      case round =>
        obtain ⟨r, rfl, rfl, g, rfl⟩ := hrel
        clear g0
        have HUlt : Hid (R < Y) := hRY
        have gr := g.r_lt
        have gq := g.q_le
        by_cases hbig : 4294967296 ≤ gk
        · have hA : (4294967296 : Int) ≤ gk := by omega
          have top := Dv.top_big yh yl R u0 gk ST.u0_lt (by rw [ST.Y_eq]; exact HUlt.out) hbig
          obtain ⟨q, hq⟩ : ∃ q, gk = q + 1 := ⟨gk - 1, by omega⟩
          have rm : IntKind.u64.wrap ((gk : Int) - 1) = (q : Int) := by rw [show (gk : Int) - 1 = (q : Int) from by omega]; exact wrapN q (by omega)
          obtain ⟨r', hr'⟩ : ∃ r', r' = r + yh := ⟨_, rfl⟩
          have ra : IntKind.u64.wrap ((r : Int) + yh) = (r' : Int) := by rw [addN, ← hr']; exact wrapN r' (by have := ST.y_lt; omega)
          have HS := Lib.hid (Dv.next_sum q yh r R gk r' hq hr' g.sum)
          have HT : Hid (R * 4294967296 + u0 < (q + 1) * (yh * 4294967296 + yl)) := by rw [hq] at top; exact top
          have hq2 : q < gk := by omega
          have hq3 : q ≤ 4294967296 := by omega
          clear top hq hr' g gr gq
          by_cases hbr : 4294967296 ≤ r'
          · have hb1 : (4294967296 : Int) ≤ r' := by omega
            have HQ := Lib.hid (Dv.quot_break yh yl R u0 q r' Y ST.Y_eq ST.yl_lt HS.out hq3 hbr HT.out)
            clear HS HT
            go_wp2
            go_meet
            exact ⟨by rw [← HQ.out], rfl⟩
          · have hb1 : ¬ (4294967296 : Int) ≤ r' := by omega
            have HG : Hid (Dv.Guess yh yl R u0 q r') := ⟨HS.out, HT.out, by omega, by omega⟩
            clear HS HT
            go_wp2
            go_roundg q
            case measure => exact hq2
            case rel => exact ⟨r', rfl, rfl, HG.out, rfl⟩
        · have hA : ¬ (4294967296 : Int) ≤ gk := by omega
          have hm : gk * yl ≤ 4294967295 * 4294967295 := Nat.mul_le_mul (by omega) (by have := ST.yl_lt; omega)
          obtain ⟨X, hX⟩ : ∃ X, X = gk * yl := ⟨_, rfl⟩
          have rX : IntKind.u64.wrap ((gk : Int) * yl) = (X : Int) := by rw [mulN, ← hX]; exact wrapN X (by omega)
          obtain ⟨Z0, hZ0⟩ : ∃ Z0, Z0 = 4294967296 * r := ⟨_, rfl⟩
          have rZ0 : IntKind.u64.wrap (4294967296 * (r : Int)) = (Z0 : Int) := by rw [show 4294967296 * (r : Int) = (Z0 : Int) from by omega]; exact wrapN Z0 (by omega)
          obtain ⟨Z, hZ⟩ : ∃ Z, Z = Z0 + u0 := ⟨_, rfl⟩
          have rZ : IntKind.u64.wrap ((Z0 : Int) + u0) = (Z : Int) := by rw [addN, ← hZ]; exact wrapN Z (by have := ST.u0_lt; omega)
          have HX := Lib.hid hX
          have HZ : Hid (Z = 4294967296 * r + u0) := by rw [hZ, hZ0]; exact rfl
          clear hm hX hZ0 hZ
          by_cases hgt : Z < X
          · have hne : 1 ≤ gk := by
              apply Nat.pos_of_ne_zero
              intro h0
              have := HX.out
              rw [h0, Nat.zero_mul] at this
              omega
            have top := Dv.top_test yh yl R u0 gk r g.sum (by rw [← HX.out, ← HZ.out]; exact hgt)
            obtain ⟨q, hq⟩ : ∃ q, gk = q + 1 := ⟨gk - 1, by omega⟩
            have rm : IntKind.u64.wrap ((gk : Int) - 1) = (q : Int) := by rw [show (gk : Int) - 1 = (q : Int) from by omega]; exact wrapN q (by omega)
            obtain ⟨r', hr'⟩ : ∃ r', r' = r + yh := ⟨_, rfl⟩
            have ra : IntKind.u64.wrap ((r : Int) + yh) = (r' : Int) := by rw [addN, ← hr']; exact wrapN r' (by have := ST.y_lt; omega)
            have HS := Lib.hid (Dv.next_sum q yh r R gk r' hq hr' g.sum)
            have HT : Hid (R * 4294967296 + u0 < (q + 1) * (yh * 4294967296 + yl)) := by rw [hq] at top; exact top
            have hq2 : q < gk := by omega
            have hq3 : q ≤ 4294967296 := by omega
            clear top hq hr' g gr gq
            by_cases hbr : 4294967296 ≤ r'
            · have hb1 : (4294967296 : Int) ≤ r' := by omega
              have HQ := Lib.hid (Dv.quot_break yh yl R u0 q r' Y ST.Y_eq ST.yl_lt HS.out hq3 hbr HT.out)
              clear HS HT
              go_wp2
              go_meet
              exact ⟨by rw [← HQ.out], rfl⟩
            · have hb1 : ¬ (4294967296 : Int) ≤ r' := by omega
              have HG : Hid (Dv.Guess yh yl R u0 q r') := ⟨HS.out, HT.out, by omega, by omega⟩
              clear HS HT
              go_wp2
              go_roundg q
              case measure => exact hq2
              case rel => exact ⟨r', rfl, rfl, HG.out, rfl⟩
          · have HQ := Lib.hid (Dv.quot_test yh yl R u0 gk r Y X Z ST.Y_eq g HX.out HZ.out hgt)
            clear g gr gq HX HZ
            go_wp2
            go_meet
            exact ⟨by rw [← HQ.out], rfl⟩
    case rest =>
      obtain ⟨rfl, rfl⟩ := hcut
      have rR := rest_rule Y R u0 hY64 hYp
      have hd2 : (R * 4294967296 + u0) / Y < 4294967296 := by rw [← ST.Y_eq]; exact Dv.digit_lt yh yl R u0 ST.u0_lt (by rw [ST.Y_eq]; exact hRY)
      generalize e3 : (R * 4294967296 + u0) / Y = q3 at rR hd2 ⊢
      generalize e4 : (R * 4294967296 + u0) % Y = R2 at rR ⊢
      have E3 := Lib.hid e3
      have E4 := Lib.hid e4
      clear e3 e4
      have rZ : IntKind.u64.wrap (IntKind.u64.wrap ((q1 : Int) * 4294967296) + (q3 : Int)) = ((q1 * 4294967296 + q3 : Nat) : Int) := by
        rw [show (q1 : Int) * 4294967296 = ((q1 * 4294967296 : Nat) : Int) from by omega, wrapN _ (by omega), addN, wrapN _ (by omega)]
      generalize e5 : q1 * 4294967296 + q3 = A at rZ ⊢
      have E5 := Lib.hid e5
      clear e5
      have rS : (R2 : Int) / 2 ^ s = ((R2 / 2 ^ s : Nat) : Int) := Nm.cast_shr R2 s
      have HS := Lib.hid rS
      clear rS hd1 hd2 hRY g0 hYp hY64
      go_wp2
      rw [HS.out]
      go_ret2
      refine ⟨?_, Below.refl _ _⟩
      rw [E1.out, E2.out, E3.out, E4.out, E5.out]
      rfl
end Bt
end Go.Proofs.Ytkbhbnadkoainaa
