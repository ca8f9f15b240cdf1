/- WideRems: of every wide number and every word the law of quotients and rests answers true, and changes nothing. No condition. -/
import Derived.Test.YtkbhbnadkoainaaFrame
import Derived.Test.YtkbhbnadkoainaaAwake
import Derived.Test.YtkbhbnadkoainaaWideC
import Derived.Test.YtkbhbnadkoainaaSum
import Derived.Test.YtkbhbnadkoainaaKeep
import Derived.Deep.RegionHeld3
import Derived.Deep.DeepCutAuto
set_option linter.unusedVariables false
namespace Go.Proofs.Ytkbhbnadkoainaa.wideRems
open Go.ChangeShapes Go.WideShapes Go.ChangeAt Go.RowKit
open Nm Rf

theorem kall {w w' : World} {g5 g8 q1 q2 b h l : Nat} (K : KP w w' [(g8, q1, q2), (g5, q1, q2), (b, h, l)]) : w'.cell? ⟨g5, 0, none⟩ = some (.int .u64 q1) ∧ w'.cell? ⟨g5, 1, none⟩ = some (.int .u64 q2) ∧ KP w w' [(g8, q1, q2), (g5, q1, q2), (b, h, l)] := ⟨K.tail.head.c0, K.tail.head.c1, K⟩

theorem back_num (v m : Nat) (hv : v < 340282366920938463463374607431768211456) (hm : m < 18446744073709551616) (h0 : 0 < m) :
    lo (v / m) * m + (hi (v / m) * m * 2 ^ 64 + (v % m + 0)) = v ∧ hi (v / m) * m < 18446744073709551616 := by
  have e : hi (v / m) * 18446744073709551616 + lo (v / m) = v / m := by
    have := vl_hi_lo (v / m)
    rw [Nat.mod_eq_of_lt (Nat.lt_of_le_of_lt (Nat.div_le_self _ _) hv)] at this
    exact this
  have d := Nat.div_add_mod v m
  have k : m * (v / m) = hi (v / m) * m * 18446744073709551616 + lo (v / m) * m := by
    conv => lhs; rw [← e]
    rw [Nat.mul_add, Nat.mul_comm m (lo (v / m)), Nat.mul_comm m (_ * _), Nat.mul_right_comm]
  rw [p64]
  generalize hi (v / m) * m = A at *
  generalize lo (v / m) * m = C at *
  omega

/-- The three numbers in a new row. -/
theorem row_new (W : World) (t : TypeId) (X Y r x1 x2 s1 s2 : Nat) (a1 : hi X = x1) (a2 : lo X = x2) (b1 : hi Y = s1) (b2 : lo Y = s2) (hr : r < 18446744073709551616) :
    Wd.Row (W.alloc (.cells #[.int .u64 x1, .int .u64 x2, .int .u64 s1, .int .u64 s2, .int .u64 0, .int .u64 r] t)) (W.heap.size + 1) (some ⟨W.heap.size, 0, none⟩) [X, Y, r] := by
  refine ⟨fun i hi => ⟨W.heap.size, 0, rfl, by omega, ?_, ?_⟩⟩
  · have : i = 0 ∨ i = 1 ∨ i = 2 := by simp at hi; omega
    rcases this with rfl | rfl | rfl
    · simp [go_sem, a1]
    · simp [go_sem, b1]
    · simp [go_sem, show Nm.hi r = 0 from by unfold Nm.hi; omega]
  · have : i = 0 ∨ i = 1 ∨ i = 2 := by simp at hi; omega
    rcases this with rfl | rfl | rfl
    · simp [go_sem, a2]
    · simp [go_sem, b2]
    · simp [go_sem, show Nm.lo r = r from by unfold Nm.lo; omega]

theorem kall2 {w w' : World} {gb y1 y2 ga x1 x2 : Nat} {L L' : List (Nat × Nat × Nat)} (e : (ga, x1, x2) :: L' = L) (K : KP w w' ((gb, y1, y2) :: L)) :
    w'.cell? ⟨gb, 0, none⟩ = some (.int .u64 y1) ∧ w'.cell? ⟨gb, 1, none⟩ = some (.int .u64 y2) ∧ w'.cell? ⟨ga, 0, none⟩ = some (.int .u64 x1) ∧ w'.cell? ⟨ga, 1, none⟩ = some (.int .u64 x2) ∧ KP w w' ((gb, y1, y2) :: L) := by
  subst e
  exact ⟨K.head.c0, K.head.c1, K.tail.head.c0, K.tail.head.c1, K⟩

theorem sum3 (A : Option Addr) (x y z : Nat) (W : World) (hr : Wd.Row W W.heap.size A [x, y, z]) :
    Calls Try.prog 15 #[.slice A 3 3] W fun e w' => e = .returned (.agg #[.int .u64 (hi [x, y, z].sum : Nat), .int .u64 (lo [x, y, z].sum : Nat)]) ∧ Below W.heap.size W w' :=
  Wd.sum A 3 [x, y, z] (by simp) W hr

set_option maxHeartbeats 1000000 in
theorem walk0 (h l : Nat) (w : World) :
    Calls Try.prog 3 #[.agg #[.int .u64 h, .int .u64 l], .int .u64 0] w fun e w' => e = .returned (.bool true) ∧ Below w.heap.size w w' := by
  go_enter Try.func3, Try.ntmps3
  go_wp2_with fail
  refine (Wd.awake _).mono ?_
  rintro e w0 ⟨rfl, hb0⟩
  have Ta := Two.below (Two.fresh w h l _) hb0
  have hbl : Below w.heap.size w w0 := ((Below.refl w.heap.size w).alloc (Nat.le_refl _) _).trans (hb0.mono (by simp <;> omega))
  clear hb0
  have a0 := Ta.c0
  have a1 := Ta.c1
  go_wp2_with fail
  refine (Wd.rem_none h l _).mono ?_
  rintro e w1 ⟨rfl, hb1⟩
  go_wp2
  go_ret
  exact ⟨by simp [go_sem], (hbl.trans (hb1.mono hbl.size)).alloc (by have := hbl.size; have := hb1.size; omega) _⟩

set_option maxHeartbeats 8000000 in
theorem core (h l m q1 q2 r s1 s2 x1 x2 y1 y2 X Y : Nat) (n3 : ((m : Int) == 0) = false)
    (C1 : Hid (∀ W, Calls Try.prog 12 #[.agg #[.int .u64 h, .int .u64 l], .int .u64 m] W fun e w' => e = .returned (.tuple #[.agg #[.int .u64 q1, .int .u64 q2], .int .u64 r, .int .i64 0]) ∧ Below W.heap.size W w'))
    (C2 : Hid (∀ W, Calls Try.prog 13 #[.agg #[.int .u64 h, .int .u64 l], .int .u64 m] W fun e w' => e = .returned (.tuple #[.agg #[.int .u64 q1, .int .u64 q2], .int .u64 r]) ∧ Below W.heap.size W w'))
    (ML : Hid (∀ W, Calls Try.prog 14 #[.int .u64 q2, .int .u64 m] W fun e w' => e = .returned (.agg #[.int .u64 x1, .int .u64 x2]) ∧ Below W.heap.size W w'))
    (MH : Hid (∀ W, Calls Try.prog 14 #[.int .u64 q1, .int .u64 m] W fun e w' => e = .returned (.agg #[.int .u64 y1, .int .u64 y2]) ∧ Below W.heap.size W w'))
    (SH : Hid (∀ W, Calls Try.prog 16 #[.agg #[.int .u64 y1, .int .u64 y2], .int .i64 64] W fun e w' => e = .returned (.agg #[.int .u64 s1, .int .u64 s2]) ∧ Below W.heap.size W w'))
    (SM : Hid (∀ W A, Wd.Row W W.heap.size A [X, Y, r] → Calls Try.prog 15 #[.slice A 3 3] W fun e w' => e = .returned (.agg #[.int .u64 h, .int .u64 l]) ∧ Below W.heap.size W w'))
    (RN : Hid (∀ (W : World) (t : TypeId), Wd.Row (W.alloc (.cells #[.int .u64 x1, .int .u64 x2, .int .u64 s1, .int .u64 s2, .int .u64 0, .int .u64 r] t)) (W.heap.size + 1) (some ⟨W.heap.size, 0, none⟩) [X, Y, r]))
    (HY : Hid (y1 = 0)) (HR : Hid (r < m)) (w : World) :
    Calls Try.prog 3 #[.agg #[.int .u64 h, .int .u64 l], .int .u64 m] w fun e w' => e = .returned (.bool true) ∧ Below w.heap.size w w' := by
  go_enter Try.func3, Try.ntmps3
  go_wp2_with fail
  refine (Wd.awake _).mono ?_
  rintro e w0 ⟨rfl, hb0⟩
  have Ta := Two.below (Two.fresh w h l _) hb0
  have hbl : Below w.heap.size w w0 := ((Below.refl w.heap.size w).alloc (Nat.le_refl _) _).trans (hb0.mono (by simp <;> omega))
  clear hb0
  have a0 := Ta.c0
  have a1 := Ta.c1
  go_wp2_with fail
  refine (C1.out _).mono ?_
  rintro e w1 ⟨rfl, hb1⟩
  have K1 : KP w w1 [(w.heap.size, h, l)] := ⟨fun x hx => by rw [List.mem_singleton.1 hx]; exact Ta.below hb1, hbl.trans (hb1.mono hbl.size)⟩
  clear hb1 Ta hbl a0 a1 C1
  have a0 := K1.head.c0
  have a1 := K1.head.c1
  have z0 := K1.lt _ (List.mem_cons_self ..)
  simp only at z0
  go_wp2_with fail
  refine (C2.out _).mono ?_
  rintro e w2 ⟨rfl, hb2⟩
  have K2 := (K1.fresh q1 q2 _).call hb2
  clear K1 hb2 a0 a1 C2 z0
  generalize w1.heap.size = g5 at *
  have c0 := K2.head.c0
  have c1 := K2.head.c1
  have z5 := K2.lt _ (List.mem_cons_self ..)
  have z2 := K2.tail.lt _ (List.mem_cons_self ..)
  simp only at z2 z5
  go_upto_region 7 with fail
  have K3 := K2.fresh q1 q2 24
  generalize hw3 : w2.alloc (.cells #[.int .u64 q1, .int .u64 q2] 24) = w3 at K3 ⊢
  clear hw3 K2 c0 c1 z5 z2
  generalize w2.heap.size = g8 at *
  have Hn3 := Lib.hid n3
  clear n3
  go_cut [10, 11] (fun v10 v11 wx => ∃ ga gb : Nat, v10 = .pointer (some ⟨ga, 0, none⟩) ∧ v11 = .pointer (some ⟨gb, 0, none⟩) ∧ KP w wx [(gb, y1, y2), (ga, x1, x2), (g8, q1, q2), (g5, q1, q2), (w.heap.size, h, l)])
  case first =>
    have z3 := K3.below.size
    go_region_held3 (fun w' => w'.cell? ⟨g5, 0, none⟩ = some (.int .u64 q1) ∧ w'.cell? ⟨g5, 1, none⟩ = some (.int .u64 q2) ∧ KP w w' [(g8, q1, q2), (g5, q1, q2), (w.heap.size, h, l)])
      (exact kall (by repeat (first | with_reducible exact K3 | with_reducible refine KP.alloc ?_ _ | with_reducible refine KP.call ?_ hb5 | with_reducible refine KP.call ?_ hb4 | with_reducible refine KP.store ?_ (by omega) (K3.ne (by omega)) _ | with_reducible refine KP.drew ?_)))
      (first
        | ((with_reducible refine (ML.out _).mono ?_); rintro e w4 ⟨rfl, hb4⟩; have z4 := hb4.size; (try simp at z4); (try have u1 : w3.heap.size < w4.heap.size := (by omega)); (try have u2 : w3.heap.size + 1 < w4.heap.size := (by omega));
           (try (have Na : Two w4 w3.heap.size 0 0 := (by with_reducible exact Two.below (Two.drew (Two.zero w3 _)) hb4); have na0 := Na.c0; have na1 := Na.c1; have na2 := Na.f0; have na3 := Na.f1));
           (try (have Na : Two w4 w3.heap.size 0 0 := (by with_reducible exact Two.below (Two.drew (Two.alloc (Two.zero w3 _) _)) hb4); have Nb : Two w4 (w3.heap.size + 1) 0 0 := (by with_reducible exact Two.below (Two.drew (Two.zero1 w3 _ _)) hb4); have na0 := Na.c0; have na1 := Na.c1; have na2 := Na.f0; have na3 := Na.f1; have nb0 := Nb.c0; have nb1 := Nb.c1; have nb2 := Nb.f0; have nb3 := Nb.f1)))
        | ((with_reducible refine (MH.out _).mono ?_); rintro e w5 ⟨rfl, hb5⟩; have z5 := hb5.size; (try simp at z5); (try have u3 : w3.heap.size < w5.heap.size := (by omega)); (try have u4 : w3.heap.size + 1 < w5.heap.size := (by omega)); (try have u5 : w4.heap.size < w5.heap.size := (by omega)); (try have u6 : w4.heap.size + 1 < w5.heap.size := (by omega));
           (try (have Pa : Two w5 w3.heap.size 0 0 := (by with_reducible exact Two.below Na hb5); have pa0 := Pa.c0; have pa1 := Pa.c1; have pa2 := Pa.f0; have pa3 := Pa.f1));
           (try (have Pb : Two w5 (w3.heap.size + 1) 0 0 := (by with_reducible exact Two.below Nb hb5); have pb0 := Pb.c0; have pb1 := Pb.c1; have pb2 := Pb.f0; have pb3 := Pb.f1));
           (try (have Pa : Two w5 w3.heap.size 0 0 := (by with_reducible exact Two.below (Two.alloc Na _) hb5); have pa0 := Pa.c0; have pa1 := Pa.c1; have pa2 := Pa.f0; have pa3 := Pa.f1));
           (try (have Pc : Two w5 w4.heap.size 0 0 := (by with_reducible exact Two.below (Two.zero w4 _) hb5); have pc0 := Pc.c0; have pc1 := Pc.c1; have pc2 := Pc.f0; have pc3 := Pc.f1));
           (try (have Pc : Two w5 w4.heap.size 0 0 := (by with_reducible exact Two.below (Two.alloc (Two.zero w4 _) _) hb5); have Pd : Two w5 (w4.heap.size + 1) 0 0 := (by with_reducible exact Two.below (Two.zero1 w4 _ _) hb5); have pc0 := Pc.c0; have pc1 := Pc.c1; have pc2 := Pc.f0; have pc3 := Pc.f1; have pd0 := Pd.c0; have pd1 := Pd.c1; have pd2 := Pd.f0; have pd3 := Pd.f1))))
    all_goals (go_wp2_with fail; go_meet)
    all_goals
      have K5 : KP w w5 [(g8, q1, q2), (g5, q1, q2), (w.heap.size, h, l)] := by repeat (first | with_reducible exact K3 | with_reducible refine KP.alloc ?_ _ | with_reducible refine KP.call ?_ hb5 | with_reducible refine KP.call ?_ hb4 | with_reducible refine KP.drew ?_)
      refine ⟨_, _, rfl, rfl, ?_⟩
      first | (with_reducible exact K5.fin1 _ _) | (with_reducible exact K5.fin2 _ _) | (with_reducible exact K5.fin3 Pa (by omega) (K3.ne (by omega)) _) | (with_reducible exact K5.fin3' Pa (by omega) (K3.ne (by omega)) _) | (with_reducible exact K5.fin3 Pc (by omega) (K3.ne (by omega)) _) | (with_reducible exact K5.fin3' Pc (by omega) (K3.ne (by omega)) _) | (with_reducible exact K5.fin4 Pa Pb (by omega) (by omega) (by omega) (K3.ne (by omega)) (K3.ne (by omega))) | (with_reducible exact K5.fin4 Pb Pa (by omega) (by omega) (by omega) (K3.ne (by omega)) (K3.ne (by omega))) | (with_reducible exact K5.fin4 Pa Pc (by omega) (by omega) (by omega) (K3.ne (by omega)) (K3.ne (by omega))) | (with_reducible exact K5.fin4 Pc Pa (by omega) (by omega) (by omega) (K3.ne (by omega)) (K3.ne (by omega))) | (with_reducible exact K5.fin4 Pc Pd (by omega) (by omega) (by omega) (K3.ne (by omega)) (K3.ne (by omega))) | (with_reducible exact K5.fin4 Pd Pc (by omega) (by omega) (by omega) (K3.ne (by omega)) (K3.ne (by omega)))
  case rest =>
    obtain ⟨ga, gb, rfl, rfl, K⟩ := hcut
    clear K3
    have c0 := K.head.c0
    have c1 := K.head.c1
    have d0 := K.tail.head.c0
    have d1 := K.tail.head.c1
    clear ML MH
    have zk := K.below.size
    generalize hL : [(ga, x1, x2), (g8, q1, q2), (g5, q1, q2), (w.heap.size, h, l)] = L at K
    have HL := Lib.hid hL
    clear hL
    go_upto_region 8 with fail
    go_cut [12] (fun v12 wx => ∃ gd : Nat, v12 = .pointer (some ⟨gd, 0, none⟩) ∧ KP w wx ((gd, h, l) :: (gb, y1, y2) :: L))
    case first =>
      go_region_held3 (fun w' => w'.cell? ⟨gb, 0, none⟩ = some (.int .u64 y1) ∧ w'.cell? ⟨gb, 1, none⟩ = some (.int .u64 y2) ∧ w'.cell? ⟨ga, 0, none⟩ = some (.int .u64 x1) ∧ w'.cell? ⟨ga, 1, none⟩ = some (.int .u64 x2) ∧ KP w w' ((gb, y1, y2) :: L))
        (exact kall2 HL.out (by repeat (first | with_reducible exact K | with_reducible refine KP.alloc ?_ _ | with_reducible refine KP.call ?_ hb7 | with_reducible refine KP.call ?_ hb6 | with_reducible refine KP.store ?_ (by omega) (K.ne (by omega)) _ | with_reducible refine KP.drew ?_)))
        (first
          | (go_at_call 16; with_reducible refine (SH.out _).mono ?_; rintro e w6 ⟨rfl, hb6⟩; have z6 := hb6.size; (try simp at z6); (try have u1 : wc.heap.size < w6.heap.size := (by omega));
             (try (have Na : Two w6 wc.heap.size 0 0 := (by with_reducible exact Two.below (Two.drew (Two.zero wc _)) hb6); have na0 := Na.c0; have na1 := Na.c1; have na2 := Na.f0; have na3 := Na.f1)))
          | (go_at_call 15; with_reducible refine (SM.out _ _ ?hrow).mono ?_; (case hrow => first | (with_reducible exact (RN.out _ _).more (by simp)) | (with_reducible exact ((RN.out _ _).below ((Below.refl _ _).alloc (by simp) _)).more (by simp)) | (have h := RN.out (w6.alloc (.cells #[.int .u64 0, .int .u64 0] 24)) 24; simp only [World.size_alloc] at h; with_reducible exact h.more (by simp))); rintro e w7 ⟨rfl, hb7⟩; have z7 := hb7.size; (try simp at z7);
             (try (have Pa : Two w7 wc.heap.size 0 0 := (by with_reducible exact Two.below (Two.alloc Na _) hb7); have pa0 := Pa.c0; have pa1 := Pa.c1; have pa2 := Pa.f0; have pa3 := Pa.f1));
             (try (have Pc : Two w7 w6.heap.size 0 0 := (by with_reducible exact Two.below (Two.alloc (Two.zero w6 _) _) hb7); have pc0 := Pc.c0; have pc1 := Pc.c1; have pc2 := Pc.f0; have pc3 := Pc.f1));
             (try (have Pd : Two w7 (w6.heap.size + 1) 0 0 := (by with_reducible exact Two.below (Two.zero1 w6 _ _) hb7); have pd0 := Pd.c0; have pd1 := Pd.c1; have pd2 := Pd.f0; have pd3 := Pd.f1))))
      all_goals (go_wp2_with fail; go_meet)
      all_goals
        have K7 : KP w w7 ((gb, y1, y2) :: L) := by repeat (first | with_reducible exact K | with_reducible refine KP.alloc ?_ _ | with_reducible refine KP.call ?_ hb7 | with_reducible refine KP.call ?_ hb6 | with_reducible refine KP.drew ?_)
        refine ⟨_, rfl, ?_⟩
        first | (with_reducible exact K7.fresh h l _) | (with_reducible exact K7.put (by omega) (K.ne (by omega)) Pa h l) | (with_reducible exact K7.put (by omega) (K.ne (by omega)) Pc h l) | (with_reducible exact K7.put (by omega) (K.ne (by omega)) Pd h l)
    case rest =>
      obtain ⟨gd, rfl, KD⟩ := hcut
      have hL := HL.out
      subst hL
      clear K
      have hy := HY.out
      subst hy
      have hrm := HR.out
      have e1 := KD.head.c0
      have e2 := KD.head.c1
      have e3 := KD.tail.head.c0
      have e4 := KD.tail.tail.tail.head.c0
      have e5 := KD.tail.tail.tail.head.c1
      have e6 := KD.tail.tail.tail.tail.head.c0
      have e7 := KD.tail.tail.tail.tail.head.c1
      have e8 := KD.tail.tail.tail.tail.tail.head.c0
      have e9 := KD.tail.tail.tail.tail.tail.head.c1
      go_wp2
      go_ret
      exact ⟨by simp [go_sem], KD.below⟩

theorem sum_three (a b c : Nat) : [a, b, c].sum = a + (b + (c + 0)) := rfl

set_option maxHeartbeats 400000 in
theorem walk1 (h l m : Nat) (hh : h < 18446744073709551616) (hl : l < 18446744073709551616) (hm : m < 18446744073709551616) (h0 : 0 < m) (w : World) :
    Calls Try.prog 3 #[.agg #[.int .u64 h, .int .u64 l], .int .u64 m] w fun e w' => e = .returned (.bool true) ∧ Below w.heap.size w w' := by
  have n3 : ((m : Int) == 0) = false := by simp; omega
  have C1 := Lib.hid (fun W => Wd.rem h l m hh hl hm h0 W)
  have C2 := Lib.hid (fun W => Rf.rem h l m hh hl hm h0 W)
  have ML := Lib.hid (fun W => Wd.mul (lo (vl h l / m)) m (lo_lt _) hm W)
  have MH := Lib.hid (fun W => Wd.mul (hi (vl h l / m)) m (hi_lt _) hm W)
  have bk := back_num (vl h l) m (vl_lt h l hh hl) hm h0
  have hrm : vl h l % m < m := Nat.mod_lt _ h0
  obtain ⟨q1, e1⟩ : ∃ q1, q1 = hi (vl h l / m) := ⟨_, rfl⟩
  obtain ⟨q2, e2⟩ : ∃ q2, q2 = lo (vl h l / m) := ⟨_, rfl⟩
  obtain ⟨r, e3⟩ : ∃ r, r = vl h l % m := ⟨_, rfl⟩
  rw [← e1, ← e2, ← e3] at C1 C2
  rw [← e2] at ML
  rw [← e1] at MH
  rw [← e1, ← e2, ← e3] at bk
  rw [← e3] at hrm
  have SH := Lib.hid (fun W => Wd.shl (hi (q1 * m)) (lo (q1 * m)) 64 (hi_lt _) (lo_lt _) (by decide) W)
  rw [vl_word _ (by omega), show (64 : Int).toNat = 64 from rfl] at SH
  have SM := Lib.hid (fun W A (hr : Wd.Row W W.heap.size A [q2 * m, q1 * m * 2 ^ 64, r]) => sum3 A _ _ _ W hr)
  rw [sum_three, bk.1, hi_vl h l hh hl, lo_vl h l hl] at SM
  have y10 : hi (q1 * m) = 0 := by unfold hi; omega
  have RN := Lib.hid (fun W t => row_new W t (q2 * m) (q1 * m * 2 ^ 64) r _ _ _ _ rfl rfl rfl rfl (by omega))
  exact core h l m q1 q2 r _ _ _ _ _ _ _ _ n3 C1 C2 ML MH SH SM RN (Lib.hid y10) (Lib.hid hrm) w

theorem walk (h l m : Nat) (hh : h < 18446744073709551616) (hl : l < 18446744073709551616) (hm : m < 18446744073709551616) (w : World) :
    Calls Try.prog 3 #[.agg #[.int .u64 h, .int .u64 l], .int .u64 m] w fun e w' => e = .returned (.bool true) ∧ Below w.heap.size w w' := by
  by_cases h0 : m = 0
  · subst h0
    exact walk0 h l w
  · exact walk1 h l m hh hl hm (by omega) w

theorem cellsW : Try.prog.cellsOf 24 = 2 := by kernel_rfl

set_option maxRecDepth 100000 in
theorem lifted (os : Os) (started : os.Started) (H : Type) (enc : TypeId × Value → H) :
    ReturnsInHanded {} Try.checked os 3 .any (Rows.wideRemsSpec.pre6 enc Try.prog Try.f3 Rows.wideRemsRow.domain false) (Rows.wideRemsSpec.post enc Try.prog Try.f3 false true false false) := by
  refine returnsInHanded_of_change (C := Try.checked) Fr.own started (by kernel_rfl) Try.func3
    (ChangeSpec.witness6 (enc := enc) (C := Try.checked) false ⟨#[], #[.agg #[.int .u64 0, .int .u64 0], .int .u64 0], []⟩ 8 (by kernel_rfl) (by kernel_rfl) (by kernel_rfl) (by kernel_rfl)) ?_
  intro W base args ds gs before hval0 hW hcnd _
  have hval : ∀ (j : Nat) t v, Try.f3.params[j]? = some t → args[j]? = some v → Value.okWide Try.prog W .any base t v := hval0
  have hW' := hW
  obtain ⟨p, q, hA0, hV, rfl, hfz, hnd⟩ := hW
  have hA : DataW.TrodAll enc Try.prog W 0 (fun _ => true) true Try.f3.params.toList args.toList ds p := hA0
  obtain ⟨rfl, rfl⟩ := trodVars_none hV
  rw [Try.params3] at hA hval
  obtain ⟨v0, vs0, d0, ds0, p0, q0, hargs, rfl, rfl, h0, r0⟩ := trodAll_cons hA
  obtain ⟨v1, vs1, d1, ds1, p1, q1, rfl, rfl, rfl, h1, r1⟩ := trodAll_cons r0
  obtain ⟨rfl, rfl, rfl⟩ := trodAll_nil r1
  obtain rfl : args = #[v0, v1] := by cases args; simp_all
  obtain ⟨c00, c01, y00, y01, m0, rfl, rfl, rfl, hy00, hy01⟩ := Joins.open_agg2 Try.underlying24 (by kernel_rfl) cellsW (hval 0 24 v0 rfl rfl) h0
  obtain ⟨a0, e00, rfl, wa0⟩ := DataW.trod_int Try.underlying22 hy00
  obtain ⟨b0, e01, rfl, wb0⟩ := DataW.trod_int Try.underlying22 hy01
  simp at e00 e01
  subst e00 e01
  have ba0 : 0 ≤ a0 ∧ a0 ≤ 18446744073709551615 := by simpa [Lit.wf, IntKind.min, IntKind.max, IntKind.signed, IntKind.bits] using wa0
  have bb0 : 0 ≤ b0 ∧ b0 ≤ 18446744073709551615 := by simpa [Lit.wf, IntKind.min, IntKind.max, IntKind.signed, IntKind.bits] using wb0
  obtain ⟨p0h, rfl⟩ := Int.eq_ofNat_of_zero_le ba0.1
  obtain ⟨p0l, rfl⟩ := Int.eq_ofNat_of_zero_le bb0.1
  obtain ⟨a1, rfl, rfl, rfl, w1⟩ := open_int Try.underlying22 (hval 1 22 v1 rfl rfl) h1
  have b1 : 0 ≤ a1 ∧ a1 ≤ 18446744073709551615 := by simpa [Lit.wf, IntKind.min, IntKind.max, IntKind.signed, IntKind.bits] using w1
  obtain ⟨x1, rfl⟩ := Int.eq_ofNat_of_zero_le b1.1
  simp only [List.append_nil] at hW'
  refine (walk p0h p0l x1 (by omega) (by omega) (by omega) W).mono fun e W' ⟨he, hb⟩ => ?_
  subst he
  exact ⟨_, rfl, Fr.law_post (tb := 4) hW' hA0 rfl rfl rfl Try.underlying4 (by rw [Try.params3]; intro t ht; simp at ht; rcases ht with rfl | rfl; all_goals exact ⟨by kernel_rfl, of_decide_eq_true (by kernel_rfl)⟩) hb⟩

theorem proved : Rows.WideRemsSaid :=
  OpenClaim.holds_of_wide 3 Try.f3 rfl rfl rfl rfl rfl rfl rfl ⟨rfl, rfl, rfl, rfl, rfl⟩ rfl rfl rfl rfl rfl (by kernel_rfl) Try.func3 (by kernel_rfl)
    (of_decide_eq_true (by kernel_rfl)) (by unfold Func.isWrapper; first | (rw [if_pos (by decide +kernel)]; kernel_rfl) | (rw [if_neg (by decide +kernel)]; exact ⟨rfl, rfl⟩))
    (fun os started H enc _ => lifted os started H enc)
end Go.Proofs.Ytkbhbnadkoainaa.wideRems
