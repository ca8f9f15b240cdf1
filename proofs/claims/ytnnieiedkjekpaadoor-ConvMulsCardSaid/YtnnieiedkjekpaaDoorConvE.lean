/- Contracts of package conv: room, multiply, productOf, Product, Power. -/
import Derived.Test.YtnnieiedkjekpaaDoorConvB
import Derived.Test.YtnnieiedkjekpaaDoorBitsB
import Derived.Test.YtnnieiedkjekpaaDoorPolyF
import Derived.Test.YtnnieiedkjekpaaDoorRowsO
import Derived.Lib.ItoaNum
set_option linter.unusedVariables false
namespace Go.Proofs.YtnnieiedkjekpaaDoor
open Go.RowKit Go.Lib Go.Sort
namespace Cv
open Nm Ww Tn Pl Kn Kq Td

theorem bits_len (x : Nat) (hx : x < 18446744073709551616) (w : World) :
    Calls Tryd.prog 51 #[.int .u64 x] w fun e w' => e = .returned (.int .i64 (Lib.bitLen x : Nat)) ∧ w = w' := by
  go_enter Tryd.func51, Tryd.ntmps51
  go_wp2_with (go_at_call 65; refine (Bt.len64 x hx _).mono ?_; rintro e w' ⟨rfl, rfl⟩)
  go_ret
  exact ⟨rfl, rfl⟩
theorem len_room (n : Nat) (h0 : 0 < n) (hn : n ≤ 1048576) : Lib.bitLen (n - 1) ≤ 20 ∧ n ≤ 2 ^ Lib.bitLen (n - 1) := by
  refine ⟨Lib.bitLen_le (n - 1) 20 (by decide) (by omega), ?_⟩
  by_cases h : n - 1 = 0
  · have := Nat.two_pow_pos (Lib.bitLen (n - 1))
    omega
  · have := (Lib.bitLenAux_bounds 64 (n - 1) (by omega) h).2.2
    have e : Lib.bitLen (n - 1) = Lib.bitLenAux 64 (n - 1) := rfl
    rw [e]
    omega
/-- The exponent of a row that has room. -/
theorem room (n : Nat) (h0 : 0 < n) (hn : n ≤ 1048576) : ∃ k : Nat, k ≤ 20 ∧ n ≤ 2 ^ k ∧ ∀ w, Calls Tryd.prog 35 #[.int .i64 (n : Int)] w fun e w' => e = .returned (.int .i64 (k : Int)) ∧ w = w' := by
  obtain ⟨h1, h2⟩ := len_room n h0 hn
  refine ⟨Lib.bitLen (n - 1), h1, h2, fun w => ?_⟩
  have C := Lib.hid (bits_len (n - 1) (by omega) w)
  obtain ⟨m, hm⟩ : ∃ m, m = n - 1 := ⟨_, rfl⟩
  rw [← hm] at C ⊢
  generalize Lib.bitLen m = k at *
  have q1 : IntKind.i64.wrap ((n : Int) - 1) = (m : Int) := by rw [IntKind.wrap_i64]; omega
  have q2 : IntKind.u64.wrap (m : Int) = (m : Int) := by rw [IntKind.wrap_u64]; omega
  clear hm
  go_enter Tryd.func35, Tryd.ntmps35
  go_wp2_with fail
  refine C.out.mono ?_
  rintro e w' ⟨rfl, rfl⟩
  go_wp2
  go_ret
  exact ⟨rfl, rfl⟩

theorem po_nil {c : Nat → Nat} (hc : ∀ i, c i % 18446744069414584321 = 0) (w : World) : Po c w (.returned (.slice none 0 0)) w :=
  ⟨[], none, 0, Pn.Nf.nil (by decide), fun i => by rw [Pn.pl_nil, hc i], rfl, ⟨fun i hi => absurd hi (by simp), fun i hi => absurd hi (by simp)⟩, Below.refl _ _⟩
theorem conv_nil2 (f : Nat → Nat) (qs : List Nat) (h : qs.length = 0) (i : Nat) : Pn.conv f (Pn.pl qs) i = 0 := by
  rw [Pn.conv_comm, List.length_eq_zero_iff.1 h, Pn.conv_nil]

set_option maxHeartbeats 1000000 in
theorem multiply (A B : Option Addr) (ca cb m l : Nat) (ps qs : List Nat) (hp : ps.length = m) (hq : qs.length = l) (hl : m + l ≤ 524288) (w : World) (hT : Ft.Tab w) (Ra : Ws w w.heap.size A ps) (Rb : Ws w w.heap.size B qs) :
    Calls Tryd.prog 48 #[.slice A m ca, .slice B l cb] w (Po (Pn.conv (Pn.pl ps) (Pn.pl qs)) w) := by
  by_cases m0 : m = 0
  · have OK := Lib.hid (po_nil (c := Pn.conv (Pn.pl ps) (Pn.pl qs)) (fun i => by rw [List.length_eq_zero_iff.1 (hp.trans m0), Pn.conv_nil]) w)
    have e0 : ((m : Int) == 0) = true := by simp [m0]
    have e1 : (m : Int) = 0 := by omega
    clear hp hq hl hT Ra Rb m0
    go_enter Tryd.func48, Tryd.ntmps48
    go_wp2
    exact bodyPost_ret (v := .slice none 0 0) (by simp [results, Tryd.results48, go_sem]) rfl OK.out
  by_cases l0 : l = 0
  · have OK := Lib.hid (po_nil (c := Pn.conv (Pn.pl ps) (Pn.pl qs)) (fun i => by rw [conv_nil2 _ _ (hq.trans l0)]) w)
    have e0 : ((m : Int) == 0) = false := by rw [beq_eq_false_iff_ne]; omega
    have e1 : ¬ (m : Int) = 0 := by omega
    have e2 : ((l : Int) == 0) = true := by simp [l0]
    have e3 : (l : Int) = 0 := by omega
    clear hp hq hl hT Ra Rb m0 l0
    go_enter Tryd.func48, Tryd.ntmps48
    go_wp2
    exact bodyPost_ret (v := .slice none 0 0) (by simp [results, Tryd.results48, go_sem]) rfl OK.out
  have e0 : ((m : Int) == 0) = false := by rw [beq_eq_false_iff_ne]; omega
  have e1 : ¬ (m : Int) = 0 := by omega
  have e2 : ((l : Int) == 0) = false := by rw [beq_eq_false_iff_ne]; omega
  have e3 : ¬ (l : Int) = 0 := by omega
  by_cases h : m + l ≤ 128
  · have M := Lib.hid (Pl.mul A B ca cb ps qs (by omega) (by omega) w Ra Rb)
    rw [hp, hq] at M
    have s1 : IntKind.i64.wrap ((m : Int) + (l : Int)) = ((m + l : Nat) : Int) := by rw [IntKind.wrap_i64]; omega
    obtain ⟨t, ht⟩ : ∃ t, t = m + l := ⟨_, rfl⟩
    rw [← ht] at s1 h
    have t1 : (t : Int) ≤ 128 := by omega
    clear hp hq hl hT Ra Rb m0 l0 ht h
    go_enter Tryd.func48, Tryd.ntmps48
    go_wp2_with fail
    refine M.out.mono ?_
    rintro e w1 ⟨zs, A2, c2, h1, h2, rfl, h3, h4⟩
    have OK := Lib.hid (show Po (Pn.conv (Pn.pl ps) (Pn.pl qs)) w (.returned (.slice A2 zs.length c2)) w1 from ⟨zs, A2, c2, h1, h2, rfl, h3, h4⟩)
    clear M h1 h2 h3 h4
    go_wp2
    exact bodyPost_ret (v := .slice A2 zs.length c2) (by simp [results, Tryd.results48, go_sem]) rfl OK.out
  · obtain ⟨k, hk, hn, RO⟩ := room (m + l - 1) (by omega) (by omega)
    obtain ⟨n, hN⟩ : ∃ n, n = 2 ^ k := ⟨_, rfl⟩
    have hn20 : n ≤ 1048576 := by rw [hN]; exact two20 hk
    rw [← hN] at hn
    have CV := Lib.hid (convolve k n ca cb m l A B ps qs hk hN hp hq (by omega) (by omega) (by omega) (by omega) w hT Ra Rb)
    obtain ⟨G, hG⟩ : ∃ G : Nat → Nat, G = fun j => cyc (Pn.pl ps) (Pn.pl qs) n j % 18446744069414584321 := ⟨_, rfl⟩
    rw [← hG] at CV
    have fG : ∀ i, G i < 18446744069414584321 := by rw [hG]; exact fun i => Nat.mod_lt _ (by decide)
    have TR := Lib.hid (fun W b (d : Below w.heap.size w W) (K : Wk W b 0 n G) (s : b < W.heap.size) => show Calls Tryd.prog 34 #[.slice (some ⟨b, 0, none⟩) n n] W (Po (Pn.conv (Pn.pl ps) (Pn.pl qs)) w) from by
      have C := trim (some ⟨b, 0, none⟩) n (rg G n) (by rw [rg_len]; omega) W (wk_ws K fG s)
      rw [rg_len] at C
      refine C.mono fun e w' h => Po.of_trim (fun i hi => ?_) (fun i hi => by rw [Pn.conv_far ps qs i (by omega)]) d h
      rw [hG, conv_cyc ps qs n i (by omega) hi]
      exact Nat.mod_mod _ _)
    have s1 : IntKind.i64.wrap ((m : Int) + (l : Int)) = ((m + l : Nat) : Int) := by rw [IntKind.wrap_i64]; omega
    have s2 : IntKind.i64.wrap (((m + l : Nat) : Int) - 1) = ((m + l - 1 : Nat) : Int) := by rw [IntKind.wrap_i64]; omega
    have RO := Lib.hid RO
    obtain ⟨t, ht⟩ : ∃ t, t = m + l := ⟨_, rfl⟩
    rw [← ht] at s1 s2 h RO
    obtain ⟨u, hu⟩ : ∃ u, u = t - 1 := ⟨_, rfl⟩
    rw [← hu] at s2 RO
    have t1 : ¬ (t : Int) ≤ 128 := by omega
    clear hp hq hl hT Ra Rb m0 l0 ht h hu hG fG hN hn hn20 hk
    go_enter Tryd.func48, Tryd.ntmps48
    go_wp2_with fail
    refine (RO.out _).mono ?_
    rintro e w1 ⟨rfl, rfl⟩
    go_wp2_with fail
    refine CV.out.mono ?_
    rintro e w1 ⟨b, rfl, o1, s1', K1, d1⟩
    have C2 := Lib.hid (TR.out w1 b d1 K1 s1')
    clear CV TR RO K1 s1' o1 d1
    go_wp2_with fail
    refine C2.out.mono ?_
    rintro e w2 h2
    obtain ⟨zs, A2, c2, rfl, OK⟩ := Po.ret h2
    have OK := Lib.hid OK
    clear C2 h2
    go_wp2
    exact bodyPost_ret (v := .slice A2 zs.length c2) (by simp [results, Tryd.results48, go_sem]) rfl OK.out
/-- Products of many. -/
theorem conv_zero2 (f g : Nat → Nat) (A B i : Nat) (hf : ∀ i, A ≤ i → f i = 0) (hg : ∀ i, B ≤ i → g i = 0) (h : A + B ≤ i) : Pn.conv f g i = 0 :=
  Pn.sg_zero _ fun k hk => by
    by_cases hA : A ≤ k
    · rw [hf k hA, Nat.zero_mul]
    · rw [hg (i - k) (by omega), Nat.mul_zero]
theorem prd_short : ∀ (l : List (List Nat)), l ≠ [] → ∀ i, l.flatten.length ≤ i → prd l i = 0
  | [], h, i, _ => absurd rfl h
  | [x], _, i, h => by
    rw [prd_one]
    exact Pn.pl_far x i (by simpa using h)
  | x :: y :: l, _, i, h => by
    rw [List.flatten_cons, List.length_append] at h
    exact conv_zero2 _ _ x.length (y :: l).flatten.length i (fun i hi => Pn.pl_far x i hi) (prd_short (y :: l) (by simp)) h
theorem prd_split (ls : List (List Nat)) (j i : Nat) : Pn.conv (prd (ls.take j)) (prd (ls.drop j)) i = prd ls i := by
  rw [← prd_append, List.take_append_drop]
theorem po_short {ls : List (List Nat)} {zs : List Nat} (h0 : ls ≠ []) (h : Pn.Nf 18446744069414584321 zs) (hc : ∀ i, Pn.pl zs i = prd ls i % 18446744069414584321) : zs.length ≤ ls.flatten.length :=
  Pn.Nf.short h _ fun i hi => by rw [hc i, prd_short ls h0 i hi, Nat.zero_mod]
theorem po_ret2 {c : Nat → Nat} {w w' : World} {e : Ending} (h : Po c w e w') : ∃ (zs : List Nat) (A : Option Addr) (cap : Nat), e = .returned (.slice A zs.length cap) ∧ Below w.heap.size w w' ∧ Po c w (.returned (.slice A zs.length cap)) w' := by
  obtain ⟨zs, A, cap, h1, h2, h3, h4, h5⟩ := h
  exact ⟨zs, A, cap, h3, h5, zs, A, cap, h1, h2, rfl, h4, h5⟩
theorem bl_call {w w1 w2 : World} (h : Below w.heap.size w w1) (h2 : Below w1.heap.size w1 w2) : Below w.heap.size w w2 := h.trans (h2.mono h.size)
theorem nf_one : Pn.Nf 18446744069414584321 [1] := ⟨fun i => by rw [pl_one]; unfold dl; split <;> decide, fun _ => by decide⟩
theorem po_one (w : World) (t : TypeId) : Po dl w (.returned (.slice (some ⟨w.heap.size, 0, none⟩) 1 1)) (w.alloc (.cells #[.int .u64 1] t)) :=
  ⟨[1], _, 1, nf_one, fun i => by rw [pl_one]; unfold dl; split <;> decide, rfl, ws_one w 1 (by decide) t, below_alloc _ _⟩
set_option maxHeartbeats 400000 in
theorem productOf_none (A : Option Addr) (cm : Nat) (w : World) : Calls Tryd.prog 33 #[.slice A 0 cm] w (Po dl w) := by
  have OK := Lib.hid (po_one w 32)
  go_enter Tryd.func33, Tryd.ntmps33
  go_wp2
  exact bodyPost_ret (v := .slice (some ⟨w.heap.size, 0, none⟩) 1 1) (by simp [results, Tryd.results33, go_sem]) rfl OK.out
set_option maxHeartbeats 400000 in
theorem productOf_one (A : Option Addr) (cm : Nat) (xs : List Nat) (hx : xs.length ≤ 524288) (w : World) (R : Jn.Rj w w.heap.size A [xs]) : Calls Tryd.prog 33 #[.slice A 1 cm] w (Po (prd [xs]) w) := by
  obtain ⟨b, off, Ai, ci, rfl, hB, c, Ri, z⟩ := R.at_ 0 (by simp)
  have T := Lib.hid (show Calls Tryd.prog 34 #[.slice Ai xs.length ci] w (Po (prd [xs]) w) from
    (trim Ai ci xs (by omega) w Ri).mono fun e w' h => Po.of_row (Pn.tr_nf (by decide) xs) (fun i => by rw [Pn.pl_tr, prd_one]) h)
  have c1 : w.cell? ⟨b, off, none⟩ = some (.slice Ai xs.length ci) := c
  clear R c Ri z
  generalize prd [xs] = C at *
  go_enter Tryd.func33, Tryd.ntmps33
  go_wp2_with fail
  refine T.out.mono ?_
  rintro e w1 h1
  obtain ⟨zs, A2, c2, rfl, OK⟩ := Po.ret h1
  have OK := Lib.hid OK
  clear T h1
  go_wp2
  exact bodyPost_ret (v := .slice A2 zs.length c2) (by simp [results, Tryd.results33, go_sem]) rfl OK.out
set_option maxHeartbeats 1000000 in
set_option maxRecDepth 100000 in
theorem productOf_step (b off m cm h g : Nat) (hm : 2 ≤ m) (hh : h = m / 2) (hg : h + g = m) (hc : m ≤ cm) (hl : m ≤ 4611686018427387904) (C1 C2 C : Nat → Nat) (w : World)
    (H1 : ∀ W, Below w.heap.size w W → Calls Tryd.prog 33 #[.slice (some ⟨b, off, none⟩) h cm] W (Po C1 W))
    (H2 : ∀ W, Below w.heap.size w W → Calls Tryd.prog 33 #[.slice (some ⟨b, off + h, none⟩) g (cm - h)] W (Po C2 W))
    (HM : ∀ W zs ys A1 A2 c1 c2, Below w.heap.size w W → Pn.Nf 18446744069414584321 zs → (∀ i, Pn.pl zs i = C1 i % 18446744069414584321) → Pn.Nf 18446744069414584321 ys → (∀ i, Pn.pl ys i = C2 i % 18446744069414584321) → Ws W W.heap.size A1 zs → Ws W W.heap.size A2 ys →
      Calls Tryd.prog 48 #[.slice A1 zs.length c1, .slice A2 ys.length c2] W (Po C W)) :
    Calls Tryd.prog 33 #[.slice (some ⟨b, off, none⟩) m cm] w (Po C w) := by
  have P1 := Lib.hid H1
  have P2 := Lib.hid H2
  have PM := Lib.hid (fun W zs ys A1 A2 c1 c2 (d : Below w.heap.size w W) n1 k1 n2 k2 r1 r2 => (HM W zs ys A1 A2 c1 c2 d n1 k1 n2 k2 r1 r2).mono fun e w' hp => po_ret2 (Po.more hp d))
  have sl1 := fun W => Pt.rows_upto W b off m cm h (by omega)
  have sl2 := fun W => Pt.rows_from W b off m cm h g (by omega) hg hc
  have e0 : ((m : Int) == 0) = false := by rw [beq_eq_false_iff_ne]; omega
  have e1 : ¬ (m : Int) = 0 := by omega
  have e2 : ((m : Int) == 1) = false := by rw [beq_eq_false_iff_ne]; omega
  have e3 : ¬ (m : Int) = 1 := by omega
  have d1 : (m : Int).tdiv 2 = (h : Int) := by rw [Int.tdiv_eq_ediv_of_nonneg (by omega)]; omega
  have d2 : (m : Int) / 2 = (h : Int) := by omega
  have d3 : IntKind.i64.wrap (h : Int) = (h : Int) := IntWalk.i64_in _ (by omega)
  clear H1 H2 HM hh hg
  go_enter Tryd.func33, Tryd.ntmps33
  go_upto_region 7 with fail
  go_region_held3 (fun w' => Below w.heap.size w w')
    (exact (by repeat (first | with_reducible exact Below.refl _ _ | with_reducible exact h10 | with_reducible refine Below.drew ?_ | with_reducible refine bl_call ?_ h8 | with_reducible refine bl_call ?_ h9)))
    (first
      | (go_at_call 33; (with_reducible refine (P1.out _ (by repeat (first | with_reducible exact Below.refl _ _ | with_reducible refine Below.drew ?_ | with_reducible refine bl_call ?_ h8 | with_reducible refine bl_call ?_ h9))).mono ?_); rintro e w8 ⟨zs, A1, c1, n1, k1, rfl, R1, h8⟩)
      | (go_at_call 33; (with_reducible refine (P2.out _ (by repeat (first | with_reducible exact Below.refl _ _ | with_reducible refine Below.drew ?_ | with_reducible refine bl_call ?_ h8 | with_reducible refine bl_call ?_ h9))).mono ?_); rintro e w9 ⟨ys, A2, c2, n2, k2, rfl, R2, h9⟩)
      | (go_at_call 48; (with_reducible refine (PM.out _ _ _ _ _ _ _ (by repeat (first | with_reducible exact Below.refl _ _ | with_reducible refine Below.drew ?_ | with_reducible refine bl_call ?_ h8 | with_reducible refine bl_call ?_ h9)) n1 k1 n2 k2 (R1.step (by repeat (first | with_reducible exact Below.refl _ _ | with_reducible refine Below.drew ?_ | with_reducible refine bl_call ?_ h8 | with_reducible refine bl_call ?_ h9))) (R2.step (by repeat (first | with_reducible exact Below.refl _ _ | with_reducible refine Below.drew ?_ | with_reducible refine bl_call ?_ h8 | with_reducible refine bl_call ?_ h9)))).mono ?_); rintro e w10 ⟨us, A3, c3, rfl, h10, OK⟩))
  all_goals have OK := Lib.hid OK
  all_goals clear n1 k1 n2 k2 R1 R2 h8 h9 h10
  all_goals go_wp2
  all_goals exact bodyPost_ret (v := .slice A3 us.length c3) (by simp [results, Tryd.results33, go_sem]) rfl OK.out
theorem productOf : ∀ (N : Nat) (A : Option Addr) (m cm : Nat) (ls : List (List Nat)), m ≤ N → ls.length = m → m ≤ cm → m ≤ 4611686018427387904 → ls.flatten.length ≤ 524288 → ∀ w, Ft.Tab w → Jn.Rj w w.heap.size A ls →
    Calls Tryd.prog 33 #[.slice A m cm] w (Po (prd ls) w)
  | 0, A, m, cm, ls, h1, h2, h3, h4, h5, w, hT, R => by
    obtain rfl : m = 0 := by omega
    obtain rfl := List.length_eq_zero_iff.1 h2
    exact productOf_none A cm w
  | N + 1, A, m, cm, ls, h1, h2, h3, h4, h5, w, hT, R => by
    by_cases m0 : m ≤ N
    · exact productOf N A m cm ls m0 h2 h3 h4 h5 w hT R
    by_cases m1 : m ≤ 1
    · obtain rfl : m = 1 := by omega
      match ls, h2 with
      | [x], _ => exact productOf_one A cm x (by simpa using h5) w R
    · obtain ⟨b, off, _, _, rfl, _⟩ := R.at_ 0 (by omega)
      have e : (ls.take (m / 2)).flatten.length + (ls.drop (m / 2)).flatten.length = ls.flatten.length := by rw [← List.length_append, ← List.flatten_append, List.take_append_drop]
      have t1 : (ls.take (m / 2)).length = m / 2 := by rw [List.length_take]; omega
      have t2 : (ls.drop (m / 2)).length = m - m / 2 := by rw [List.length_drop]; omega
      have ne1 : ls.take (m / 2) ≠ [] := fun h => by rw [h] at t1; simp at t1; omega
      have ne2 : ls.drop (m / 2) ≠ [] := fun h => by rw [h] at t2; simp at t2; omega
      refine productOf_step b off m cm (m / 2) (m - m / 2) (by omega) rfl (by omega) h3 h4 (prd (ls.take (m / 2))) (prd (ls.drop (m / 2))) (prd ls) w
        (fun W d => productOf N _ (m / 2) cm _ (by omega) t1 (by omega) (by omega) (by omega) W (hT.below d) (Pt.rj_take (R.step d) _))
        (fun W d => productOf N _ (m - m / 2) (cm - m / 2) _ (by omega) t2 (by omega) (by omega) (by omega) W (hT.below d) (Pt.rj_drop (R.step d) _))
        (fun W zs ys A1 A2 c1 c2 d n1 k1 n2 k2 r1 r2 => ?_)
      have l1 := po_short ne1 n1 k1
      have l2 := po_short ne2 n2 k2
      refine (multiply A1 A2 c1 c2 zs.length ys.length zs ys rfl rfl (by omega) W (hT.below d) r1 r2).mono fun e w' h => h.mod fun i => ?_
      rw [← prd_split ls (m / 2) i]
      exact Pn.conv_mod (fun j => by rw [k1 j, Nat.mod_mod]) (fun j => by rw [k2 j, Nat.mod_mod]) i

set_option maxHeartbeats 1000000 in
set_option maxRecDepth 100000 in
theorem product (A : Option Addr) (m cm : Nat) (ls : List (List Nat)) (hm : ls.length = m) (hc : m ≤ cm) (hml : m ≤ 4611686018427387904) (hl : ls.flatten.length ≤ 524288) (w : World) (hT : Ft.Tab w) (R : Jn.Rj w w.heap.size A ls) :
    Calls Tryd.prog 15 #[.slice A m cm] w (PoT (prd ls) w) := by
  have PO := Lib.hid (productOf m A m cm ls (Nat.le_refl _) hm hc hml hl w hT R)
  have TS := Lib.hid (fun i (hi : i < m) => Jn.tot_succ ls i (by omega))
  have TL := Lib.hid (fun i => Nat.le_trans (Jn.tot_le ls i) hl)
  have TZ := Lib.hid (show Jn.tot ls 0 = 0 from rfl)
  have AT := Lib.hid (fun i (hi : i < m) => R.at_ i (by omega))
  clear hm hl R hT hc
  generalize prd ls = C at *
  go_enter Tryd.func15, Tryd.ntmps15
  go_wp2_with fail
  go_loopw [4, 9] (fun v4 v9 wr => ∃ i t : Nat, v9 = .int .i64 (i : Int) ∧ v4 = .int .i64 (t : Int) ∧ i ≤ m ∧ Hid (t = Jn.tot ls i) ∧ Hid (wr = w)) (fun _ v9 _ => m - (Lib.intOf v9).toNat)
  case atStart => exact ⟨0, 0, rfl, rfl, Nat.zero_le _, Lib.hid TZ.out.symm, Lib.hid rfl⟩
  case round =>
    obtain ⟨i, t, rfl, rfl, hi, ht, hw⟩ := hrel
    obtain ⟨wo, hwo⟩ : ∃ wo, wo = wr := ⟨_, rfl⟩
    obtain rfl := hw.out
    clear hwo wo hw
    by_cases hlt : i < m
    · have i1 : (i : Int) < m := by omega
      obtain ⟨b, off, Ai, ci, rfl, hB, c, Ri, z⟩ := AT.out i hlt
      have e := TS.out i hlt
      have l1 := TL.out (i + 1)
      have ht2 := ht.out
      obtain ⟨t', et⟩ : ∃ t', t' = Jn.tot ls (i + 1) := ⟨_, rfl⟩
      rw [← et] at l1 e
      rw [← ht2] at e
      have E := Lib.hid et
      obtain ⟨L, hL⟩ : ∃ L, L = (ls.getD i []).length := ⟨_, rfl⟩
      rw [← hL] at c e
      have q1 : IntKind.i64.wrap ((t : Int) + (L : Int)) = (t' : Int) := by rw [IntKind.wrap_i64]; omega
      have q2 : ¬ (524288 : Int) < (t' : Int) := by omega
      clear e et hL l1 ht2 ht Ri z
      go_wp2_with fail
      go_roundw
      case rel => exact ⟨i + 1, t', rfl, rfl, by omega, Lib.hid E.out, by first | exact Lib.hid rfl | exact Lib.hid trivial⟩
      case measure => simp [Lib.intOf]; omega
    · have i1 : ¬ (i : Int) < m := by omega
      clear TS TL TZ AT ht
      go_wp2_with fail
      refine PO.out.mono ?_
      rintro e w1 h1
      obtain ⟨zs, A2, c2, rfl, OK⟩ := Po.pair h1
      have OK := Lib.hid OK
      clear PO h1
      go_wp2
      exact bodyPost_ret (v := .tuple #[.slice A2 zs.length c2, .int .i64 0]) (by simp [results, Tryd.results15, go_sem]) rfl OK.out

/-- Powers. -/
theorem poT_none {c : Nat → Nat} (hc : ∀ i, c i % 18446744069414584321 = 0) {w w1 : World} (d : Below w.heap.size w w1) : PoT c w (.returned (.tuple #[.slice none 0 0, .int .i64 0])) w1 :=
  ⟨[], none, 0, Pn.Nf.nil (by decide), fun i => by rw [Pn.pl_nil, hc i], rfl, ⟨fun i hi => absurd hi (by simp), fun i hi => absurd hi (by simp)⟩, d⟩
theorem pw_none (f : Nat → Nat) (hf : ∀ i, f i % 18446744069414584321 = 0) (n i : Nat) (hn : 0 < n) : pw f n i % 18446744069414584321 = 0 := by
  obtain ⟨m, rfl⟩ : ∃ m, n = m + 1 := ⟨n - 1, by omega⟩
  show Pn.conv (pw f m) f i % 18446744069414584321 = 0
  rw [Pn.conv_mod (f' := pw f m) (g' := fun _ => 0) (m := 18446744069414584321) (fun _ => rfl) (fun j => by rw [hf j]) i]
  unfold Pn.conv
  rw [Pn.sg_zero _ fun k _ => Nat.mul_zero _]
set_option maxHeartbeats 400000 in
theorem power_neg (A : Option Addr) (m ca : Nat) (n : Int) (h : n < 0) (w : World) : Calls Tryd.prog 16 #[.slice A m ca, .int .i64 n] w fun e w' => e = .returned (.tuple #[.slice none 0 0, .int .i64 1]) ∧ w = w' := by
  go_enter Tryd.func16, Tryd.ntmps16
  go_wp2
  go_ret2
  exact ⟨rfl, rfl⟩
theorem quo_facts (m : Nat) (h0 : 0 < m) : ∃ q : Nat, q = 524288 / m ∧ (524288 : Int).tdiv (m : Int) = (q : Int) ∧ (524288 : Int) / (m : Int) = (q : Int) ∧ IntKind.i64.wrap (q : Int) = (q : Int) := by
  have e : (524288 : Int) / (m : Int) = ((524288 / m : Nat) : Int) := (Int.natCast_ediv 524288 m).symm
  refine ⟨524288 / m, rfl, by rw [Int.tdiv_eq_ediv_of_nonneg (by omega), e], e, IntWalk.i64_in _ ?_⟩
  have := Nat.div_le_self 524288 m
  generalize 524288 / m = q at *
  omega
set_option maxHeartbeats 400000 in
theorem power_large (A : Option Addr) (m ca : Nat) (n : Int) (h0 : 0 < m) (h : ((524288 / m : Nat) : Int) < n) (w : World) : Calls Tryd.prog 16 #[.slice A m ca, .int .i64 n] w fun e w' => e = .returned (.tuple #[.slice none 0 0, .int .i64 14]) ∧ w = w' := by
  obtain ⟨q, hq, q1, q2, q3⟩ := quo_facts m h0
  rw [← hq] at h
  have n0 : ¬ n < 0 := by omega
  have m0 : (0 : Int) < (m : Int) := by omega
  have m1 : ((m : Int) == 0) = false := by rw [beq_eq_false_iff_ne]; omega
  have m2 : ¬ (m : Int) = 0 := by omega
  clear hq h0
  go_enter Tryd.func16, Tryd.ntmps16
  go_wp2
  go_ret2
  exact ⟨rfl, rfl⟩
set_option maxHeartbeats 400000 in
theorem power_zero (A : Option Addr) (m ca : Nat) (w : World) : Calls Tryd.prog 16 #[.slice A m ca, .int .i64 0] w (PoT dl w) := by
  obtain ⟨zs, A2, c2, h2, OK⟩ := Po.pair (po_one w 32)
  injection h2 with h2
  rw [← h2] at OK
  have OK := Lib.hid OK
  clear h2
  by_cases h0 : 0 < m
  · obtain ⟨q, hq, q1, q2, q3⟩ := quo_facts m h0
    have m0 : (0 : Int) < (m : Int) := by omega
    have m1 : ((m : Int) == 0) = false := by rw [beq_eq_false_iff_ne]; omega
    have m2 : ¬ (m : Int) = 0 := by omega
    have m3 : ¬ (q : Int) < 0 := by omega
    clear hq h0
    go_enter Tryd.func16, Tryd.ntmps16
    go_wp2
    exact bodyPost_ret (v := .tuple #[.slice (some ⟨w.heap.size, 0, none⟩) 1 1, .int .i64 0]) (by simp [results, Tryd.results16, go_sem]) rfl OK.out
  · obtain rfl : m = 0 := by omega
    clear h0
    go_enter Tryd.func16, Tryd.ntmps16
    go_wp2
    exact bodyPost_ret (v := .tuple #[.slice (some ⟨w.heap.size, 0, none⟩) 1 1, .int .i64 0]) (by simp [results, Tryd.results16, go_sem]) rfl OK.out
set_option maxHeartbeats 400000 in
/-- Of no words, and of words that are noughts. -/
theorem power_none (A : Option Addr) (ca n : Nat) (xs : List Nat) (hx : xs.length = 0) (hn : 0 < n) (w : World) (R : Ws w w.heap.size A xs) : Calls Tryd.prog 16 #[.slice A 0 ca, .int .i64 (n : Int)] w (PoT (pw (Pn.pl xs) n) w) := by
  have OK := Lib.hid (fun W (d : Below w.heap.size w W) => poT_none (c := pw (Pn.pl xs) n) (fun i => pw_none _ (fun j => by rw [Pn.pl_far _ _ (by omega)]) n i hn) d)
  have T := trim A ca xs (by omega) w R
  rw [hx] at T
  have T := Lib.hid T
  have TL := Pn.tr_len_le 18446744069414584321 xs
  rw [hx] at TL
  obtain ⟨t, ht⟩ : ∃ t, t = (Pn.tr 18446744069414584321 xs).length := ⟨_, rfl⟩
  have HT := Lib.hid ht
  rw [← ht] at TL
  have n0 : ¬ (n : Int) < 0 := by omega
  have n1 : ((n : Int) == 0) = false := by rw [beq_eq_false_iff_ne]; omega
  have n2 : ¬ (n : Int) = 0 := by omega
  clear ht hx hn R
  generalize pw (Pn.pl xs) n = C at *
  go_enter Tryd.func16, Tryd.ntmps16
  go_wp2_with fail
  refine T.out.mono ?_
  rintro e w1 ⟨A1, c1, rfl, _, d1⟩
  rw [← HT.out]
  have OK1 := Lib.hid (OK.out w1 d1)
  obtain rfl : t = 0 := by omega
  clear T OK HT
  go_wp2
  exact bodyPost_ret (v := .tuple #[.slice none 0 0, .int .i64 0]) (by simp [results, Tryd.results16, go_sem]) rfl OK1.out

set_option maxHeartbeats 2000000 in
set_option maxRecDepth 100000 in
theorem power_in (A : Option Addr) (m ca n : Nat) (xs : List Nat) (hx : xs.length = m) (h0 : 0 < m) (hn0 : 0 < n) (hn : n * m ≤ 524288) (w : World) (hT : Ft.Tab w) (R : Ws w w.heap.size A xs) : Calls Tryd.prog 16 #[.slice A m ca, .int .i64 (n : Int)] w (PoT (pw (Pn.pl xs) n) w) := by
  obtain ⟨q, hq, q1, q2, q3⟩ := quo_facts m h0
  have q4 : ¬ (q : Int) < (n : Int) := by
    have : n ≤ q := by rw [hq]; exact (Nat.le_div_iff_mul_le h0).2 hn
    omega
  have m0 : (0 : Int) < (m : Int) := by omega
  have m1 : ((m : Int) == 0) = false := by rw [beq_eq_false_iff_ne]; omega
  have m2 : ¬ (m : Int) = 0 := by omega
  have n0 : ¬ (n : Int) < 0 := by omega
  have n1 : ((n : Int) == 0) = false := by rw [beq_eq_false_iff_ne]; omega
  have n2 : ¬ (n : Int) = 0 := by omega
  have nl : n ≤ 524288 := Nat.le_trans (Nat.le_mul_of_pos_right n h0) hn
  have ml : m ≤ 524288 := Nat.le_trans (Nat.le_mul_of_pos_left m hn0) hn
  have T := trim A ca xs (by omega) w R
  rw [hx] at T
  have T := Lib.hid T
  have TL := Pn.tr_len_le 18446744069414584321 xs
  rw [hx] at TL
  have TP := fun i => Pn.pl_tr 18446744069414584321 xs i
  obtain ⟨zs, hz⟩ : ∃ zs, zs = Pn.tr 18446744069414584321 xs := ⟨_, rfl⟩
  rw [← hz] at T TL TP
  clear hz
  obtain ⟨t, ht⟩ : ∃ t, t = zs.length := ⟨_, rfl⟩
  rw [← ht] at TL
  have HTL := Lib.hid ht
  have PM : ∀ i, pw (Pn.pl zs) n i % 18446744069414584321 = pw (Pn.pl xs) n i % 18446744069414584321 := pw_mod (fun i => by rw [TP i, Nat.mod_mod]) n
  by_cases t0 : t = 0
  · have OK := Lib.hid (fun W (d : Below w.heap.size w W) => poT_none (c := pw (Pn.pl xs) n) (fun i => by rw [← PM i]; exact pw_none _ (fun j => by rw [Pn.pl_far _ _ (by omega)]) n i hn0) d)
    clear hq hx h0 hn0 hn R hT TP PM ht nl ml
    generalize pw (Pn.pl xs) n = C at *
    go_enter Tryd.func16, Tryd.ntmps16
    go_wp2_with fail
    refine T.out.mono ?_
    rintro e w1 ⟨A1, c1, rfl, _, d1⟩
    rw [← HTL.out]
    have OK1 := Lib.hid (OK.out w1 d1)
    obtain rfl := t0
    clear T OK HTL
    go_wp2
    exact bodyPost_ret (v := .tuple #[.slice none 0 0, .int .i64 0]) (by simp [results, Tryd.results16, go_sem]) rfl OK1.out
  · obtain ⟨s, hs⟩ : ∃ s, s = t - 1 := ⟨_, rfl⟩
    obtain ⟨u, hu⟩ : ∃ u, u = s * n := ⟨_, rfl⟩
    have ul : u + n ≤ 524288 := by
      have h1 : (s + 1) * n ≤ m * n := Nat.mul_le_mul_right n (by omega)
      rw [Nat.succ_mul, ← hu, Nat.mul_comm m n] at h1
      omega
    obtain ⟨k, hk, hN0, RO⟩ := room (u + 1) (by omega) (by omega)
    obtain ⟨N, hN⟩ : ∃ N, N = 2 ^ k := ⟨_, rfl⟩
    have hN20 : N ≤ 1048576 := by rw [hN]; exact two20 hk
    rw [← hN] at hN0
    have FZ : ∀ i, s < i → Pn.pl zs i = 0 := fun i hi => Pn.pl_far zs i (by omega)
    have tN : t ≤ N := by
      have : s ≤ u := by rw [hu]; exact Nat.le_mul_of_pos_right s hn0
      omega
    obtain ⟨F, hF⟩ : ∃ F, F = ft k 0 (Pn.pl zs) := ⟨_, rfl⟩
    have fF : ∀ i, F i < 18446744069414584321 := by rw [hF]; exact fun i => ft_lt _ _ _ _
    obtain ⟨G, hG⟩ : ∃ G : Nat → Nat, G = fun i => F i ^ n % 18446744069414584321 := ⟨_, rfl⟩
    have fG : ∀ i, G i < 18446744069414584321 := by rw [hG]; exact fun i => Nat.mod_lt _ (by decide)
    obtain ⟨H, hH⟩ : ∃ H, H = ft k 1 G := ⟨_, rfl⟩
    have fH : ∀ i, H i < 18446744069414584321 := by rw [hH]; exact fun i => ft_lt _ _ _ _
    have HE : ∀ i, i < N → H i = pw (Pn.pl zs) n i % 18446744069414584321 := fun i hi => by
      rw [hH, hG, hF]
      exact pw_ft (Pn.pl zs) s k n i FZ (by omega) (by rw [← hN, Nat.mul_comm, ← hu]; omega) (by omega)
    have NE := Lib.hid (fun W => Kq.new k hk W)
    have VA := Lib.hid (fun W A1 c1 p p2 bf bi bp (d : Below w.heap.size w W) (Z : Kf W W.heap.size k p p2 bf bi bp) (R1 : Ws W W.heap.size A1 zs) => show Calls Tryd.prog 25 #[.pointer (some ⟨p, 0, none⟩), .slice A1 t c1] W (RwN F N W) from by
      rw [hF]; exact values k N c1 t A1 zs hk hN ht.symm tN (by omega) (hT.below d) Z R1)
    have PW := Lib.hid (fun i W => show Calls Tryd.prog 36 #[.int .u64 (F i : Nat), .int .u64 (n : Nat)] W fun e w' => e = .returned (.int .u64 (G i : Nat)) ∧ Below W.heap.size W w' from by
      rw [hG]; exact Gd.pow (F i) n (Nat.lt_trans (fF i) (by decide)) (by omega) W)
    have RW := Lib.hid (fun W b p p2 bf bi bp (d : Below w.heap.size w W) (Z : Kf W b k p p2 bf bi bp) (J : JR b N G W W) => show Calls Tryd.prog 27 #[.pointer (some ⟨p, 0, none⟩), .slice (some ⟨b, 0, none⟩) N N] W fun e w' => e = .returned (.slice (some ⟨b, 0, none⟩) N N) ∧ JR b N H W w' from by
      rw [hH]; exact rowOf k b N N G hk hN (Nat.le_refl _) (fun i _ => Nat.lt_trans (fG i) (by decide)) (hT.below d) Z J)
    have TR := Lib.hid (fun W b (d : Below w.heap.size w W) (J : JR b N H W W) => show Calls Tryd.prog 34 #[.slice (some ⟨b, 0, none⟩) N N] W (Po (pw (Pn.pl xs) n) w) from by
      have C := trim (some ⟨b, 0, none⟩) N (rg H N) (by rw [rg_len]; omega) W (wk_ws J.k fH J.s)
      rw [rg_len] at C
      refine C.mono fun e w' h => Po.of_trim (fun i hi => ?_) (fun i hi => ?_) d h
      · rw [HE i hi, Nat.mod_mod, PM i]
      · rw [← PM i, pw_far _ s FZ n i (by rw [Nat.mul_comm, ← hu]; omega), Nat.zero_mod])
    have s1 : IntKind.i64.wrap ((t : Int) - 1) = (s : Int) := by rw [IntKind.wrap_i64]; omega
    have s2 : IntKind.i64.wrap ((s : Int) * (n : Int)) = (u : Int) := by rw [← Int.natCast_mul, ← hu]; exact IntWalk.i64_in _ (by omega)
    have s3 : IntKind.i64.wrap ((u : Int) + 1) = ((u + 1 : Nat) : Int) := by rw [IntKind.wrap_i64]; omega
    have s4 : IntKind.u64.wrap (n : Int) = (n : Int) := by rw [IntKind.wrap_u64]; omega
    have t1 : ((t : Int) == 0) = false := by rw [beq_eq_false_iff_ne]; omega
    have t2 : ¬ (t : Int) = 0 := by omega
    obtain ⟨v, hv⟩ : ∃ v, v = u + 1 := ⟨_, rfl⟩
    rw [← hv] at s3 RO
    have RO := Lib.hid RO
    clear hq hx h0 hn0 hn R hT TP PM ht nl ml HE FZ hF fF hG fG hH fH hN hN0 tN hu ul hs hv t0 hk
    generalize pw (Pn.pl xs) n = C at *
    go_enter Tryd.func16, Tryd.ntmps16
    go_wp2_with fail
    refine T.out.mono ?_
    rintro e w1 ⟨A1, c1, rfl, R1, d1⟩
    rw [← HTL.out]
    clear T
    go_wp2_with fail
    refine (RO.out _).mono ?_
    rintro e w2 ⟨rfl, rfl⟩
    go_wp2_with fail
    refine (NE.out _).mono ?_
    rintro e w2 ⟨p, p2, bf, bi, bp, rfl, Z2, d2⟩
    have D2 := d1.trans (d2.mono d1.size)
    have C2 := Lib.hid (VA.out w2 A1 c1 p p2 bf bi bp D2 Z2 (R1.step d2))
    clear RO NE VA R1 d1 d2
    go_wp2_with fail
    refine C2.out.mono ?_
    rintro e w3 ⟨b, rfl, o3, x3, K3, d3⟩
    have D3 := Lib.hid (D2.trans (d3.mono D2.size))
    have Z3 := Lib.hid (Z2.below d3)
    have J0 := Lib.hid (show JR b N (mx F G 0) w3 w3 by rw [mx_zero]; exact ⟨K3, But.refl _ _, x3⟩)
    have bo := Lib.hid (Nat.le_trans D2.size o3)
    have o3 := Lib.hid o3
    clear C2 K3 x3 d3 D2 Z2
    go_wp2_with fail
    go_loopw [43] (fun v43 wr => ∃ i : Nat, v43 = .int .i64 (i : Int) ∧ i ≤ N ∧ JR b N (mx F G i) w3 wr) (fun v43 _ => N - (Lib.intOf v43).toNat)
    case atStart => exact ⟨0, rfl, Nat.zero_le _, J0.out⟩
    case round =>
      obtain ⟨i, rfl, hi, J⟩ := hrel
      clear J0
      by_cases hlt : i < N
      · have i1 : (i : Int) < N := by omega
        have c1 := (J.at_ i hlt).1
        rw [show mx F G i i = F i from if_neg (Nat.lt_irrefl i)] at c1
        have P1 := Lib.hid (PW.out i)
        have UP := Lib.hid (fun W (J2 : JR b N (mx F G i) w3 W) => show JR b N (mx F G (i + 1)) w3 (W.setCell ⟨b, i, none⟩ (.int .u64 (G i : Nat))) by
          have := J2.put i (G i) hlt
          rw [mx_upd] at this
          exact this)
        clear PW RW TR
        generalize F i = x at *
        generalize G i = y at *
        go_wp2_with fail
        refine (P1.out _).mono ?_
        rintro e w4 ⟨rfl, d4⟩
        have J4 := J.call d4
        obtain ⟨k0, k1⟩ := J4.at_ i hlt
        have J5 := Lib.hid (UP.out _ J4)
        clear P1 UP J J4 d4
        go_wp2_with fail
        go_roundw
        case rel => exact ⟨i + 1, rfl, by omega, J5.out⟩
        case measure => simp [Lib.intOf]; omega
      · have i1 : ¬ (i : Int) < N := by omega
        obtain rfl : i = N := by omega
        have JG := J.congr (g := G) fun j hj => mx_all F G i j hj
        have D4 := D3.out.trans (JG.bel.mono bo.out)
        have Z4 := (Z3.out.below (JG.bel.mono o3.out)).more o3.out
        have C4 := Lib.hid (RW.out _ b p p2 bf bi bp D4 Z4 JG.self)
        have D4 := Lib.hid D4
        clear PW RW J JG Z3 Z4 D3
        go_wp2_with fail
        refine C4.out.mono ?_
        rintro e w5 ⟨rfl, J5⟩
        have C5 := Lib.hid (TR.out w5 b (D4.out.trans (J5.bel.mono bo.out)) J5.self)
        clear C4 TR J5 D4
        go_wp2_with fail
        refine C5.out.mono ?_
        rintro e w6 h6
        obtain ⟨us, A6, c6, rfl, OK⟩ := Po.pair h6
        have OK := Lib.hid OK
        clear C5 h6
        go_wp2
        exact bodyPost_ret (v := .tuple #[.slice A6 us.length c6, .int .i64 0]) (by simp [results, Tryd.results16, go_sem]) rfl OK.out
end Cv
end Go.Proofs.YtnnieiedkjekpaaDoor
