/- Contracts of package kern4: New, Plain. -/
import Derived.Test.YtfkhnfaammfbeaaDoorQuartC
set_option linter.unusedVariables false
namespace Go.Proofs.YtfkhnfaammfbeaaDoor
open Go.RowKit Go.Lib Go.Sort
namespace Kq
open Nm Ww Tn Pl Kn Td

/-- A kernel by quarters of an exponent, in memory below block B. -/
structure Kf (w : World) (B k p p2 bf bi bp : Nat) : Prop where
  c : Cq w p (.pointer (some ⟨p2, 0, none⟩)) (.slice (some ⟨bp, 0, none⟩) (2 ^ k) (2 ^ k)) (.int .u64 (Nt.inv (2 ^ k) : Nat))
  p : p < B
  z : Kr w B k p2 bf bi
  r : Ws w B (some ⟨bp, 0, none⟩) (rg (fun i => Nt.rt k ^ i % 18446744069414584321) (2 ^ k))
theorem Kf.below {w w' : World} {B k p p2 bf bi bp : Nat} (h : Kf w B k p p2 bf bi bp) (hb : Below B w w') : Kf w' B k p p2 bf bi bp := ⟨h.c.low h.p hb, h.p, h.z.below hb, h.r.below hb⟩
theorem Kf.more {w : World} {B B' k p p2 bf bi bp : Nat} (h : Kf w B k p p2 bf bi bp) (hb : B ≤ B') : Kf w B' k p p2 bf bi bp := ⟨h.c, Nat.lt_of_lt_of_le h.p hb, h.z.more hb, h.r.more hb⟩
theorem Kf.step {w w' : World} {k p p2 bf bi bp : Nat} (h : Kf w w.heap.size k p p2 bf bi bp) (hb : Below w.heap.size w w') : Kf w' w'.heap.size k p p2 bf bi bp := (h.below hb).more hb.size
/-- .. in other blocks than b. -/
structure Kg (w : World) (b k p p2 bf bi bp : Nat) : Prop where
  c : Cq w p (.pointer (some ⟨p2, 0, none⟩)) (.slice (some ⟨bp, 0, none⟩) (2 ^ k) (2 ^ k)) (.int .u64 (Nt.inv (2 ^ k) : Nat))
  p : p ≠ b
  z : Ka w b k p2 bf bi
  r : Wo w b (some ⟨bp, 0, none⟩) (rg (fun i => Nt.rt k ^ i % 18446744069414584321) (2 ^ k))
theorem Kg.but {w w' : World} {b k p p2 bf bi bp : Nat} (h : Kg w b k p p2 bf bi bp) (o : But b w w') : Kg w' b k p p2 bf bi bp := ⟨h.c.but h.p o, h.p, h.z.but o, h.r.but o⟩
theorem Kf.aside {w : World} {b k p p2 bf bi bp : Nat} (h : Kf w b k p p2 bf bi bp) (hb : b ≤ w.heap.size) : Kg w b k p p2 bf bi bp := ⟨h.c, Nat.ne_of_lt h.p, h.z.aside hb, Wo.low h.r hb⟩
/-- .. in blocks from lo on. -/
structure Kh (w : World) (lo k p p2 bf bi bp : Nat) : Prop where
  r : Kf w w.heap.size k p p2 bf bi bp
  p : lo ≤ p
  z : Kb w lo k p2 bf bi
  b : lo ≤ bp
theorem Kh.step {w w' : World} {lo k p p2 bf bi bp : Nat} (h : Kh w lo k p p2 bf bi bp) (hb : Below w.heap.size w w') : Kh w' lo k p p2 bf bi bp := ⟨h.r.step hb, h.p, h.z.step hb, h.b⟩
theorem Kh.aside {w : World} {lo b k p p2 bf bi bp : Nat} (h : Kh w lo k p p2 bf bi bp) (hb : b < lo) : Kg w b k p p2 bf bi bp :=
  ⟨h.r.c, by have := h.p; omega, h.z.aside hb, Wo.of h.r.r (Nat.le_refl _) (fun b2 off e _ => by injection e with e; injection e with e1 e2; have := h.b; omega)⟩

set_option maxHeartbeats 400000 in
theorem new_bad (k : Int) (h : k < 0 ∨ 20 < k) (w : World) :
    Calls Tryd.prog 6 #[.int .i64 k] w fun e w' => e = .returned (.pointer none) ∧ w = w' := by
  have C := Lib.hid (Kn.new_bad k h w)
  clear h
  go_enter Tryd.func6, Tryd.ntmps6
  go_wp2_with fail
  refine C.out.mono ?_
  rintro e w1 ⟨rfl, rfl⟩
  go_wp2
  go_ret
  exact ⟨by simp, rfl⟩

set_option maxHeartbeats 1000000 in
theorem new_core (k n x sh : Nat) (hn : IntKind.i64.wrap ((2 : Int) ^ k) = (n : Int)) (hk : k ≤ 20) (w : World) (Z : World → Nat → Nat → Nat → Prop)
    (hZ : ∀ W W' a b c, Z W a b c → Below W.heap.size W W' → Z W' a b c)
    (hH : Calls Tryd.prog 14 #[.int .i64 (k : Int)] w fun e w' => ∃ p2 bf bi, e = .returned (.pointer (some ⟨p2, 0, none⟩)) ∧ Z w' p2 bf bi ∧ Below w.heap.size w w')
    (hR : ∀ W, Calls Tryd.prog 18 #[.int .i64 (k : Int), .int .i64 0] W fun e w' => e = .returned (.tuple #[.int .u64 (x : Nat), .int .i64 0]) ∧ Below W.heap.size W w')
    (hP : ∀ W, Calls Tryd.prog 19 #[.int .u64 (x : Nat), .int .i64 (n : Int)] W (Rt.PowOut x n W))
    (hS : ∀ W, Calls Tryd.prog 20 #[.int .i64 (k : Int)] W fun e w' => e = .returned (.tuple #[.int .u64 (sh : Nat), .int .i64 0]) ∧ Below W.heap.size W w') :
    Calls Tryd.prog 6 #[.int .i64 (k : Int)] w fun e w' => ∃ p p2 bf bi bp, e = .returned (.pointer (some ⟨p, 0, none⟩)) ∧ Cq w' p (.pointer (some ⟨p2, 0, none⟩)) (.slice (some ⟨bp, 0, none⟩) n n) (.int .u64 (sh : Nat)) ∧ p < w'.heap.size ∧
      Z w' p2 bf bi ∧ Wk w' bp 0 n (fun i => x ^ i % 18446744069414584321) ∧ bp < w'.heap.size ∧ Below w.heap.size w w' ∧ w.heap.size ≤ p ∧ w.heap.size ≤ bp := by
  have H := Lib.hid hH
  have RO := Lib.hid hR
  have PW := Lib.hid hP
  have SH := Lib.hid hS
  have HZ := Lib.hid hZ
  clear hZ hH hR hP hS
  go_enter Tryd.func6, Tryd.ntmps6
  go_wp2_with fail
  refine H.out.mono ?_
  rintro e w1 ⟨p2, bf, bi, rfl, Z1, d1⟩
  go_wp2_with fail
  refine (RO.out _).mono ?_
  rintro e w2 ⟨rfl, h2⟩
  have d2 := d1.trans (h2.mono d1.size)
  have Z2 := HZ.out _ _ _ _ _ Z1 h2
  clear d1 h2 Z1 H RO
  go_wp2_with fail
  refine (PW.out _).mono ?_
  rintro e w3 ⟨rfl, K3, s3, h3⟩
  have d3 := d2.trans (h3.mono d2.size)
  have Z3 := HZ.out _ _ _ _ _ Z2 h3
  have lo := d2.size
  generalize w2.heap.size = bp at *
  clear d2 h3 Z2 PW
  go_wp2_with fail
  refine (SH.out _).mono ?_
  rintro e w4 ⟨rfl, h4⟩
  have d4 := d3.trans (h4.mono d3.size)
  have Z4 := HZ.out _ _ _ _ _ Z3 h4
  have K4 := K3.below s3 h4
  have s4 := Nat.lt_of_lt_of_le s3 h4.size
  clear d3 h4 Z3 SH K3 s3
  have bl := below_alloc w4 (.cells #[.pointer (some ⟨p2, 0, none⟩), .slice (some ⟨bp, 0, none⟩) n n, .int .u64 (sh : Nat)] 30)
  have F := Lib.hid (show
      Cq (w4.alloc (.cells #[.pointer (some ⟨p2, 0, none⟩), .slice (some ⟨bp, 0, none⟩) n n, .int .u64 (sh : Nat)] 30)) w4.heap.size (.pointer (some ⟨p2, 0, none⟩)) (.slice (some ⟨bp, 0, none⟩) n n) (.int .u64 (sh : Nat)) ∧
      w4.heap.size < (w4.alloc (.cells #[.pointer (some ⟨p2, 0, none⟩), .slice (some ⟨bp, 0, none⟩) n n, .int .u64 (sh : Nat)] 30)).heap.size ∧
      Z (w4.alloc (.cells #[.pointer (some ⟨p2, 0, none⟩), .slice (some ⟨bp, 0, none⟩) n n, .int .u64 (sh : Nat)] 30)) p2 bf bi ∧
      Wk (w4.alloc (.cells #[.pointer (some ⟨p2, 0, none⟩), .slice (some ⟨bp, 0, none⟩) n n, .int .u64 (sh : Nat)] 30)) bp 0 n (fun i => x ^ i % 18446744069414584321) ∧
      bp < (w4.alloc (.cells #[.pointer (some ⟨p2, 0, none⟩), .slice (some ⟨bp, 0, none⟩) n n, .int .u64 (sh : Nat)] 30)).heap.size ∧
      Below w.heap.size w (w4.alloc (.cells #[.pointer (some ⟨p2, 0, none⟩), .slice (some ⟨bp, 0, none⟩) n n, .int .u64 (sh : Nat)] 30)) ∧ w.heap.size ≤ w4.heap.size ∧ w.heap.size ≤ bp from
    ⟨Cq.fresh _ _ _ _ _, by simp, HZ.out _ _ _ _ _ Z4 bl, K4.below s4 bl, Nat.lt_of_lt_of_le s4 bl.size, d4.trans (bl.mono d4.size), d4.size, lo⟩)
  clear bl d4 Z4 K4 s4 HZ
  go_wp2
  exact bodyPost_ret (v := .pointer (some ⟨w4.heap.size, 0, none⟩)) (by simp [results, Tryd.results6, go_sem]) rfl ⟨_, p2, bf, bi, bp, rfl, F.out⟩
theorem new_at (k : Nat) (hk : k ≤ 20) (w : World) :
    Calls Tryd.prog 6 #[.int .i64 (k : Int)] w fun e w' => ∃ p p2 bf bi bp, e = .returned (.pointer (some ⟨p, 0, none⟩)) ∧ Kh w' w.heap.size k p p2 bf bi bp ∧ Below w.heap.size w w' := by
  have hl : 2 ^ k ≤ 1048576 := Nat.le_trans (Nat.pow_le_pow_right (by decide) hk) (show 2 ^ 20 ≤ 1048576 by decide)
  have hx : Nt.rt k < 18446744073709551616 := Nat.lt_trans (Nt.rt_lt k) (by decide)
  have RO := fun W => Td.root_in k 0 (by omega) (by decide) W
  rw [rd_zero] at RO
  refine (new_core k (2 ^ k) (Nt.rt k) _ (Bt.pow_i64 k (by omega)) hk w (fun W p2 bf bi => Kb W w.heap.size k p2 bf bi) (fun W W' a b c h hb => h.step hb) (Kn.new_at k hk w) RO (fun W => Rt.powers _ _ hx hl W) (fun W => share k (by omega) W)).mono ?_
  rintro e w' ⟨p, p2, bf, bi, bp, rfl, c, hp, z, K, hb, d, o1, o2⟩
  exact ⟨p, p2, bf, bi, bp, rfl, ⟨⟨c, hp, z.r, K.ws (fun i _ => Nat.lt_trans (Nat.mod_lt _ (by decide)) (by decide)) hb⟩, o1, z, o2⟩, d⟩
theorem new (k : Nat) (hk : k ≤ 20) (w : World) :
    Calls Tryd.prog 6 #[.int .i64 (k : Int)] w fun e w' => ∃ p p2 bf bi bp, e = .returned (.pointer (some ⟨p, 0, none⟩)) ∧ Kf w' w'.heap.size k p p2 bf bi bp ∧ Below w.heap.size w w' :=
  (new_at k hk w).mono fun e w' ⟨p, p2, bf, bi, bp, he, h, hb⟩ => ⟨p, p2, bf, bi, bp, he, h.r, hb⟩

/-- Small rows go by halves. -/
theorem plain_small {w : World} {p p2 : Nat} {v1 v2 u1 u2 u3 : Value} (k : Nat) (hk : k < 2) (C : Cq w p (.pointer (some ⟨p2, 0, none⟩)) v1 v2) (C2 : Ce w p2 (.int .i64 (k : Int)) u1 u2 u3) (A : Option Addr) (n ca : Nat) (d r : Int) (X : World → Prop)
    (hP : Calls Tryd.prog 23 #[.pointer (some ⟨p2, 0, none⟩), .slice A n ca, .int .i64 d] w fun e w' => e = .returned (.int .i64 r) ∧ X w') :
    Calls Tryd.prog 9 #[.pointer (some ⟨p, 0, none⟩), .slice A n ca, .int .i64 d] w fun e w' => e = .returned (.int .i64 r) ∧ X w' := by
  have K := Lib.hid (kOf C2)
  have S := Lib.hid (fun W => steps k 0 (k % 2) (by omega) (by omega) rfl W)
  have PL := Lib.hid hP
  have c0 := C.c0
  generalize k % 2 = h at *
  clear C C2 hP hk
  go_enter Tryd.func9, Tryd.ntmps9
  go_wp2_with fail
  refine K.out.mono ?_
  rintro e w1 ⟨rfl, rfl⟩
  go_wp2_with fail
  refine (S.out _).mono ?_
  rintro e w1 ⟨rfl, rfl⟩
  go_wp2_with fail
  refine PL.out.mono ?_
  rintro e w1 ⟨rfl, hX⟩
  have HX := Lib.hid hX
  clear hX c0
  go_wp2
  go_ret
  exact ⟨by simp, HX.out⟩
set_option maxHeartbeats 400000 in
theorem plain_len2 {w : World} {p p2 : Nat} {v1 v2 u1 u2 u3 : Value} (k : Nat) (hk : k ≤ 20) (hk2 : 2 ≤ k) (C : Cq w p (.pointer (some ⟨p2, 0, none⟩)) v1 v2) (C2 : Ce w p2 (.int .i64 (k : Int)) u1 u2 u3) (A : Option Addr) (n ca : Nat) (d : Int) (hn : n ≠ 2 ^ k) :
    Calls Tryd.prog 9 #[.pointer (some ⟨p, 0, none⟩), .slice A n ca, .int .i64 d] w fun e w' => e = .returned (.int .i64 4) ∧ w = w' := by
  have K := Lib.hid (kOf C2)
  have S := Lib.hid (fun W => steps k (k / 2) (k % 2) hk rfl rfl W)
  have c0 := C.c0
  have s1 := Bt.pow_i64 k (by omega)
  obtain ⟨N, hN⟩ : ∃ N, N = 2 ^ k := ⟨_, rfl⟩
  rw [← hN] at s1 hn
  have ne : ((n : Int) != (N : Int)) = true := by simp; omega
  have q0 : ¬ k / 2 = 0 := by omega
  generalize k % 2 = h at *
  generalize k / 2 = q at *
  have q1 : ¬ (q : Int) = 0 := by omega
  clear C C2 hN hn hk2
  go_enter Tryd.func9, Tryd.ntmps9
  go_wp2_with fail
  refine K.out.mono ?_
  rintro e w1 ⟨rfl, rfl⟩
  go_wp2_with fail
  refine (S.out _).mono ?_
  rintro e w1 ⟨rfl, rfl⟩
  go_wp2_with fail
  refine K.out.mono ?_
  rintro e w1 ⟨rfl, rfl⟩
  go_wp2
  go_ret
  exact ⟨by simp, rfl⟩
set_option maxHeartbeats 400000 in
theorem plain_kind2 {w : World} {p p2 : Nat} {v1 v2 u1 u2 u3 : Value} (k : Nat) (hk : k ≤ 20) (hk2 : 2 ≤ k) (C : Cq w p (.pointer (some ⟨p2, 0, none⟩)) v1 v2) (C2 : Ce w p2 (.int .i64 (k : Int)) u1 u2 u3) (A : Option Addr) (n ca : Nat) (d : Int) (hn : n = 2 ^ k) (h0 : d ≠ 0) (h1 : d ≠ 1) :
    Calls Tryd.prog 9 #[.pointer (some ⟨p, 0, none⟩), .slice A n ca, .int .i64 d] w fun e w' => e = .returned (.int .i64 18) ∧ w = w' := by
  have K := Lib.hid (kOf C2)
  have S := Lib.hid (fun W => steps k (k / 2) (k % 2) hk rfl rfl W)
  have U := Lib.hid (fun W => unit_kind d h0 h1 W)
  have c0 := C.c0
  have s1 := Bt.pow_i64 k (by omega)
  rw [← hn] at s1
  have q0 : ¬ k / 2 = 0 := by omega
  generalize k % 2 = h at *
  generalize k / 2 = q at *
  have q1 : ¬ (q : Int) = 0 := by omega
  clear C C2 hn hk2 h0 h1
  go_enter Tryd.func9, Tryd.ntmps9
  go_wp2_with fail
  refine K.out.mono ?_
  rintro e w1 ⟨rfl, rfl⟩
  go_wp2_with fail
  refine (S.out _).mono ?_
  rintro e w1 ⟨rfl, rfl⟩
  go_wp2_with fail
  refine K.out.mono ?_
  rintro e w1 ⟨rfl, rfl⟩
  go_wp2_with fail
  refine (U.out _).mono ?_
  rintro e w1 ⟨rfl, rfl⟩
  go_wp2
  go_ret
  exact ⟨by simp, rfl⟩

/-- What the loops keep. -/
structure L1 (b n hs : Nat) (H : Nat → Nat → Nat) (w wr : World) (i h : Nat) : Prop where
  le : i ≤ hs
  eq : h = 2 ^ i
  j : JR b n (H i) w wr
structure L2 (b n hs q : Nat) (H : Nat → Nat → Nat) (w wr : World) (i h : Nat) : Prop where
  le : i ≤ q
  eq : h = 2 ^ (hs + 2 * i)
  j : JR b n (H (hs + 2 * i)) w wr

set_option maxHeartbeats 1000000 in
set_option maxRecDepth 100000 in
theorem plain_core {w : World} {p p2 : Nat} {v1 v2 u1 u2 u3 : Value} (k q hs u : Nat) (hk : k ≤ 20) (hq0 : 0 < q) (hs1 : hs ≤ 1) (hkq : k = hs + 2 * q) (C : Cq w p (.pointer (some ⟨p2, 0, none⟩)) v1 v2) (C2 : Ce w p2 (.int .i64 (k : Int)) u1 u2 u3) (b n ca : Nat) (d : Int) (hn : n = 2 ^ k) (hl : n ≤ 1048576) (f x : Nat → Nat) (H : Nat → Nat → Nat)
    (hU : Calls Tryd.prog 17 #[.int .i64 d] w fun e w' => e = .returned (.tuple #[.int .u64 (u : Nat), .int .i64 0]) ∧ Below w.heap.size w w')
    (hTU : ∀ W, Below w.heap.size w W → Calls Tryd.prog 24 #[.slice (some ⟨b, 0, none⟩) n ca] W fun e w' => ∃ g, e = .returned (.tuple #[.slice (some ⟨g, 0, none⟩) n n, .int .i64 0]) ∧ W.heap.size ≤ g ∧ Ws w' w'.heap.size (some ⟨g, 0, none⟩) (rg x n) ∧ Below W.heap.size W w')
    (hx : H 0 = x) (hJ : hs = 1 → ∀ W, JR b n (H 0) W W → Calls Tryd.prog 25 #[.slice (some ⟨b, 0, none⟩) n ca] W fun e w' => e = .returned (.tuple #[]) ∧ JR b n (H 1) W w')
    (hQ : ∀ s h : Nat, h = 2 ^ s → s + 2 ≤ k → ∀ W, But b w W → JR b n (H s) W W → Calls Tryd.prog 26 #[.pointer (some ⟨p, 0, none⟩), .slice (some ⟨b, 0, none⟩) n ca, .int .i64 (h : Int), .int .u64 (u : Nat), .int .i64 d] W fun e w' => e = .returned (.tuple #[]) ∧ JR b n (H (s + 2)) W w')
    (J : JR b n f w w) :
    Calls Tryd.prog 9 #[.pointer (some ⟨p, 0, none⟩), .slice (some ⟨b, 0, none⟩) n ca, .int .i64 d] w fun e w' => e = .returned (.int .i64 0) ∧ JR b n (H k) w w' := by
  have K := Lib.hid (kOf C2)
  have S := Lib.hid (fun W => steps k q hs hk (by omega) (by omega) W)
  have U := Lib.hid hU
  have TU := Lib.hid hTU
  have JH := Lib.hid hJ
  have JQ := Lib.hid hQ
  have HX := Lib.hid hx
  have c0 := C.c0
  have s1 := Bt.pow_i64 k (by omega)
  rw [← hn] at s1
  have q1 : ¬ (q : Int) = 0 := by omega
  have EK := Lib.hid hkq
  have PO := Lib.hid (fun i (hi : i ≤ q) => show 2 ^ (hs + 2 * i) ≤ 1048576 from Nat.le_trans (Nat.pow_le_pow_right (by decide) (show hs + 2 * i ≤ 20 by omega)) (show 2 ^ 20 ≤ 1048576 by decide))
  clear C C2 hn hU hTU hJ hQ hx hkq hq0
  go_enter Tryd.func9, Tryd.ntmps9
  go_wp2_with fail
  refine K.out.mono ?_
  rintro e w1 ⟨rfl, rfl⟩
  go_wp2_with fail
  refine (S.out _).mono ?_
  rintro e w1 ⟨rfl, rfl⟩
  go_wp2_with fail
  refine K.out.mono ?_
  rintro e w1 ⟨rfl, rfl⟩
  go_wp2_with fail
  refine U.out.mono ?_
  rintro e w1 ⟨rfl, h1⟩
  have T1 := Lib.hid (TU.out _ h1)
  have J1 := J.call h1
  clear K S U TU J h1 c0
  go_wp2_with fail
  refine T1.out.mono ?_
  rintro e w2 ⟨g, rfl, hg, Y, d2⟩
  have J2 := J1.call d2
  have J3 := J2.self
  have B2 := J2.o
  have gc : ∀ i, i < n → w2.cell? ⟨g, 0 + i, none⟩ = some (.int .u64 (x i : Nat)) := fun i hi => by
    obtain ⟨b3, o3, e3, _, c3⟩ := Y.at_ i (by rw [rg_len]; exact hi)
    injection e3 with e3
    injection e3 with e4 e5
    subst e4 e5
    rw [rg_at _ _ _ hi] at c3
    exact c3
  clear J1 J2 T1 d2 Y
  go_wp2_with ((refine copy_cells w2 ?hgd (.tmp 60) (.tmp 61) ?ho b n ca g n f x ?hd ?hs J3 gc (fun w3 J4 => ?_)); (case hgd => rfl); (case ho => rfl); (case hd => rfl); (case hs => rfl))
  rw [← HX.out] at J4
  have ST := Lib.hid (show L1 b n hs H w w3 0 1 from ⟨Nat.zero_le _, rfl, J4.trans B2⟩)
  clear J4 J3 gc hg B2
  go_wp2_with fail
  go_loopw [14, 64] (fun v14 v64 wr => ∃ i h : Nat, v64 = .int .i64 (i : Int) ∧ v14 = .int .i64 (h : Int) ∧ L1 b n hs H w wr i h) (fun _ v64 _ => hs - (Lib.intOf v64).toNat)
  case atStart => exact ⟨0, 1, rfl, rfl, ST.out⟩
  case round =>
    obtain ⟨i, h, rfl, rfl, I⟩ := hrel
    clear ST
    by_cases hlt : i < hs
    · have i1 : (i : Int) < hs := by omega
      have hi0 : i = 0 := by omega
      have h1 : h = 1 := by rw [I.eq, hi0]
      have j := I.j
      rw [hi0] at j
      have A := Lib.hid (JH.out (by omega) _ j.self)
      have G := Lib.hid (fun W (h : JR b n (H 1) wr W) => show L1 b n hs H w W 1 2 from ⟨by omega, rfl, h.trans j.o⟩)
      subst hi0 h1
      clear I j JH JQ
      go_wp2_with fail
      refine A.out.mono ?_
      rintro e w5 ⟨rfl, j5⟩
      have I5 := Lib.hid (G.out _ j5)
      clear j5 A G
      go_wp2_with fail
      go_roundw
      case rel => exact ⟨1, 2, rfl, rfl, I5.out⟩
      case measure => simp [Lib.intOf]; omega
    · have i1 : ¬ (i : Int) < hs := by omega
      have hi := I.le
      obtain rfl : i = hs := by omega
      have S2 := Lib.hid (show L2 b n i q H w wr 0 h from ⟨Nat.zero_le _, I.eq, I.j⟩)
      clear I JH
      go_wp2_with fail
      obtain ⟨wo, rfl⟩ : ∃ wo : World, wo = wr := ⟨_, rfl⟩
      go_loopw [14, 72] (fun v14 v72 wr => ∃ i2 h2 : Nat, v72 = .int .i64 (i2 : Int) ∧ v14 = .int .i64 (h2 : Int) ∧ L2 b n i q H w wr i2 h2) (fun _ v72 _ => q - (Lib.intOf v72).toNat)
      case atStart => exact ⟨0, h, rfl, rfl, S2.out⟩
      case round =>
        obtain ⟨i2, h2, rfl, rfl, I⟩ := hrel
        clear S2
        by_cases hlt2 : i2 < q
        · have i3 : (i2 : Int) < q := by omega
          have j := I.j
          have e2 := I.eq
          have p2 := PO.out i2 (by omega)
          rw [← e2] at p2
          have A := Lib.hid (JQ.out (i + 2 * i2) h2 e2 (by have := EK.out; omega) _ j.o j.self)
          obtain ⟨h4, e4⟩ : ∃ h4, h4 = h2 * 4 := ⟨_, rfl⟩
          have m4 : IntKind.i64.wrap ((h2 : Int) * 4) = (h4 : Int) := by rw [IntKind.wrap_i64]; omega
          have G := Lib.hid (fun W (h : JR b n (H (i + 2 * i2 + 2)) wr W) => show L2 b n i q H w W (i2 + 1) h4 from ⟨by omega, by rw [e4, e2, show i + 2 * (i2 + 1) = i + 2 * i2 + 2 by omega, Nat.pow_add 2 (i + 2 * i2) 2, show (2 : Nat) ^ 2 = 4 from rfl], by rw [show i + 2 * (i2 + 1) = i + 2 * i2 + 2 by omega]; exact h.trans j.o⟩)
          have hq20 : i2 ≤ 20 := by have := EK.out; omega
          clear I j JQ e2 e4
          go_wp2_with fail
          refine A.out.mono ?_
          rintro e w5 ⟨rfl, j5⟩
          have I5 := Lib.hid (G.out _ j5)
          clear j5 A G
          go_wp2_with fail
          go_roundw
          case rel => exact ⟨i2 + 1, h4, by first | rfl | simp, rfl, I5.out⟩
          case measure => simp [Lib.intOf]; omega
        · have i3 : ¬ (i2 : Int) < q := by omega
          have hi2 := I.le
          obtain rfl : i2 = q := by omega
          have j := I.j
          rw [← EK.out] at j
          have OK := Lib.hid j
          clear I j JQ
          go_wp2
          go_ret
          exact ⟨by simp, OK.out⟩
end Kq
end Go.Proofs.YtfkhnfaammfbeaaDoor
