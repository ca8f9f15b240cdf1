/- Contracts of the document's own functions of polynomials: At, Add, Mul, Scale, Derive. -/
import Derived.Test.YtckaelgmokddkaaPolyA
set_option linter.unusedVariables false
namespace Go.Proofs.Ytckaelgmokddkaa
open Go.RowKit Go.Lib
namespace Pl
open Ww Pn Nt

theorem rat_step (xs : List Nat) (x i s p : Nat) (hs : s = sg (fun j => pl xs j * x ^ j) i % 18446744069414584321) (hp : p = x ^ i % 18446744069414584321) :
    (s + pl xs i * p % 18446744069414584321) % 18446744069414584321 = sg (fun j => pl xs j * x ^ j) (i + 1) % 18446744069414584321 := by
  subst hs hp
  show _ = (sg (fun j => pl xs j * x ^ j) i + pl xs i * x ^ i) % 18446744069414584321
  rw [Nat.mul_mod, Nat.mod_mod, ← Nat.mul_mod, ← Nat.add_mod]
theorem pow_step (x i p : Nat) (hp : p = x ^ i % 18446744069414584321) : p * x % 18446744069414584321 = x ^ (i + 1) % 18446744069414584321 := by
  rw [hp, Nat.mod_mul_mod, ← Nat.pow_succ]

set_option maxHeartbeats 1000000 in
set_option maxRecDepth 100000 in
theorem rat (A : Option Addr) (ca : Nat) (xs : List Nat) (x : Nat) (hx : x < 18446744073709551616) (hn : xs.length ≤ 1048576) (w : World) (R : Ws w w.heap.size A xs) :
    Calls Try.prog 16 #[.slice A xs.length ca, .int .u64 x] w fun e w' => e = .returned (.int .u64 ((evl x xs % 18446744069414584321 : Nat) : Int)) ∧ w = w' := by
  rw [evl_sg]
  obtain ⟨r, hr⟩ : ∃ r, r = sg (fun j => pl xs j * x ^ j) xs.length % 18446744069414584321 := ⟨_, rfl⟩
  rw [← hr]
  have HR := Lib.hid hr
  clear hr
  have ST := Lib.hid (fun i s p hs hp => rat_step xs x i s p hs hp)
  have PS := Lib.hid (fun i p hp => pow_step x i p hp)
  have P0 := Lib.hid (show 1 = x ^ 0 % 18446744069414584321 by rw [Nat.pow_zero])
  have S0 := Lib.hid (show 0 = sg (fun j => pl xs j * x ^ j) 0 % 18446744069414584321 from rfl)
  have M2 := Lib.hid (fun p W => Gr.mul p x hx W)
  have HL := Lib.hid (fun i : Nat => mod64 (x ^ i))
  clear hx
  generalize sg (fun j => pl xs j * x ^ j) = S at *
  go_enter Try.func16, Try.ntmps16
  go_wp2_with fail
  go_loop [5, 6, 7] (fun v5 v6 v7 => ∃ i s p : Nat, v7 = .int .i64 (i : Int) ∧ v5 = .int .u64 (s : Nat) ∧ v6 = .int .u64 (p : Nat) ∧ i ≤ xs.length ∧ s = S i % 18446744069414584321 ∧ p = x ^ i % 18446744069414584321) (fun _ _ v7 => xs.length - (Lib.intOf v7).toNat)
  case atStart => exact ⟨0, 0, 1, rfl, rfl, rfl, Nat.zero_le _, S0.out, P0.out⟩
  case round =>
    obtain ⟨i, s, p, rfl, rfl, rfl, hi, hs, hp⟩ := hrel
    clear S0 P0
    by_cases hlt : i < xs.length
    · have i1 : (i : Int) < xs.length := by omega
      obtain ⟨b, off, rfl, hB, c⟩ := R.at_ i hlt
      have c2 : w.cell? ⟨b, off + i, none⟩ = some (.int .u64 (pl xs i : Nat)) := c
      have E1 := Lib.hid (ST.out i s p hs hp)
      have E2 := Lib.hid (PS.out i p hp)
      have hpl : p < 18446744073709551616 := by rw [hp]; exact HL.out i
      have M1 := Lib.hid (fun W => Gr.mul (pl xs i) p hpl W)
      have A1 := Lib.hid (fun W => Gr.add s (pl xs i * p % 18446744069414584321) W)
      have M3 := Lib.hid (M2.out p)
      clear c hs hp hpl
      generalize pl xs i = y at *
      generalize y * p % 18446744069414584321 = z at *
      obtain ⟨s', hs'⟩ : ∃ s', s' = (s + z) % 18446744069414584321 := ⟨_, rfl⟩
      obtain ⟨p', hp'⟩ : ∃ p', p' = p * x % 18446744069414584321 := ⟨_, rfl⟩
      rw [← hs'] at A1 E1
      rw [← hp'] at M3 E2
      clear hs' hp'
      go_wp2_with fail
      refine (M1.out _).mono ?_
      rintro e w1 ⟨rfl, rfl⟩
      go_wp2_with fail
      refine (A1.out _).mono ?_
      rintro e w1 ⟨rfl, rfl⟩
      go_wp2_with fail
      refine (M3.out _).mono ?_
      rintro e w1 ⟨rfl, rfl⟩
      go_wp2_with fail
      go_round
      case rel => exact ⟨i + 1, s', p', rfl, rfl, rfl, by omega, E1.out, E2.out⟩
      case measure => simp [Lib.intOf]; omega
    · have i1 : ¬ (i : Int) < xs.length := by omega
      obtain rfl : i = xs.length := by omega
      have HS := Lib.hid hs
      clear hs hp
      go_wp2
      go_ret
      exact ⟨by rw [show r = s from HR.out.trans HS.out.symm]; rfl, rfl⟩

/-- What a call answers that trims a row of its own. -/
theorem Po.of_trim {c g : Nat → Nat} {n : Nat} {w w1 w' : World} {e : Ending} (h1 : ∀ i, i < n → g i % 18446744069414584321 = c i % 18446744069414584321) (h2 : ∀ i, n ≤ i → c i % 18446744069414584321 = 0)
    (hb : Below w.heap.size w w1) (h : Row (tr 18446744069414584321 (rg g n)) w1 e w') : Po c w e w' := Po.of_tr h1 h2 (h.more hb)
/-- It is the answer that is handed on. -/
theorem Po.ret {c : Nat → Nat} {w w' : World} {e : Ending} (h : Po c w e w') : ∃ (zs : List Nat) (A : Option Addr) (cap : Nat), e = .returned (.slice A zs.length cap) ∧ Po c w (.returned (.slice A zs.length cap)) w' := by
  obtain ⟨zs, A, cap, h1, h2, h3, h4⟩ := h
  exact ⟨zs, A, cap, h3, zs, A, cap, h1, h2, rfl, h4⟩

set_option maxHeartbeats 1000000 in
set_option maxRecDepth 100000 in
theorem radd (A B : Option Addr) (ca cb : Nat) (xs ys : List Nat) (hn : xs.length ≤ 1048576) (hm : ys.length ≤ 1048576) (w : World) (Ra : Ws w w.heap.size A xs) (Rb : Ws w w.heap.size B ys) :
    Calls Try.prog 17 #[.slice A xs.length ca, .slice B ys.length cb] w (Po (fun i => pl xs i + pl ys i) w) := by
  have N0 := Lib.hid (Ow.nil_ w w.heap.size)
  obtain ⟨G, hG⟩ : ∃ G : Nat → Nat, G = fun i => (pl xs i + pl ys i) % 18446744069414584321 := ⟨_, rfl⟩
  obtain ⟨n, hN⟩ : ∃ n : Nat, n = max xs.length ys.length := ⟨_, rfl⟩
  have AD := Lib.hid (fun i W => show Calls Try.prog 31 #[.int .u64 (pl xs i : Nat), .int .u64 (pl ys i : Nat)] W fun e w' => e = .returned (.int .u64 (G i : Nat)) ∧ W = w' by rw [hG]; exact Gr.add (pl xs i) (pl ys i) W)
  have OUT := Lib.hid (fun (w1 w' : World) e (hb : Below w.heap.size w w1) (h : Row (tr 18446744069414584321 (rg G n)) w1 e w') => show Po (fun i => pl xs i + pl ys i) w e w' from Po.of_trim (fun i _ => by rw [hG, Nat.mod_mod]) (fun i hi => by rw [pl_far xs i (by omega), pl_far ys i (by omega)]) hb h)
  have G64 := Lib.hid (fun i => show G i < 18446744073709551616 by rw [hG]; exact mod64 _)
  have hn1 : n ≤ 1048576 := by omega
  have ha1 : xs.length ≤ n := by omega
  have hb1 : ys.length ≤ n := by omega
  have hmx : ∀ i, i < n → ¬ i < xs.length → i < ys.length := by intro i h1 h2; omega
  have HX := Lib.hid hmx
  clear hG hN hmx
  generalize (fun i => pl xs i + pl ys i) = cf at *
  go_enter Try.func17, Try.ntmps17
  go_wp2_with fail
  go_loopw [5, 6] (fun v5 v6 wr => ∃ i : Nat, v6 = .int .i64 (i : Int) ∧ i ≤ n ∧ Ow wr w.heap.size v5 (rg G i) ∧ Below w.heap.size w wr) (fun _ v6 _ => n - (Lib.intOf v6).toNat)
  case atStart => exact ⟨0, rfl, Nat.zero_le _, N0.out, Below.refl _ _⟩
  case round =>
    obtain ⟨i, rfl, hi, O, hbl⟩ := hrel
    clear N0
    have Ra1 := Ra.below hbl
    have Rb1 := Rb.below hbl
    by_cases hlt : i < n
    · have S := Lib.hid (rg_succ G i)
      have L := Lib.hid (rg_len G i)
      have X1 := Lib.hid (fun W R => get A ca xs i (B := w.heap.size) W R)
      have X2 := Lib.hid (fun W R => get B cb ys i (B := w.heap.size) W R)
      have X3 := Lib.hid (AD.out i)
      generalize G i = p at *
      generalize pl xs i = x at *
      generalize pl ys i = y at *
      by_cases h1 : i < xs.length
      · have i1 : (i : Int) < xs.length := by omega
        go_wp2_with fail
        refine (X1.out _ Ra1).mono ?_
        rintro e w1 ⟨rfl, rfl⟩
        go_wp2_with fail
        refine (X2.out _ Rb1).mono ?_
        rintro e w1 ⟨rfl, rfl⟩
        go_wp2_with fail
        refine (X3.out _).mono ?_
        rintro e w1 ⟨rfl, rfl⟩
        go_wp2_with (at_builtin; go_loud (refine append1 (wr.alloc (.cells #[.int .u64 p] 23)) ?hgd (.tmp 19) (.tmp 27) ?ho w.heap.size u5 (rg G i) ?hs (O.alloc _) wr.heap.size p ?hx (cut1 _ _ _) ?c1 ?c2 (fun v6 w1 O1 hg => ?_)); (case hgd => rfl); (case ho => rfl); (case hs => rfl); (case hx => rfl))
        case c1 => rw [L.out]; omega
        case c2 => have := hbl.size; simp; omega
        rw [S.out] at O1
        have b1 := (O.alloc _).grow (hbl.alloc hbl.size _) hg (by have := hbl.size; simp; omega)
        go_wp2_with fail
        go_roundw
        case rel => exact ⟨i + 1, rfl, by omega, O1, b1⟩
        case measure => simp [Lib.intOf]; omega
      · have i1 : ¬ (i : Int) < xs.length := by omega
        have i2 : (i : Int) < ys.length := by have := HX.out i hlt h1; omega
        go_wp2_with fail
        refine (X1.out _ Ra1).mono ?_
        rintro e w1 ⟨rfl, rfl⟩
        go_wp2_with fail
        refine (X2.out _ Rb1).mono ?_
        rintro e w1 ⟨rfl, rfl⟩
        go_wp2_with fail
        refine (X3.out _).mono ?_
        rintro e w1 ⟨rfl, rfl⟩
        go_wp2_with (at_builtin; go_loud (refine append1 (wr.alloc (.cells #[.int .u64 p] 23)) ?hgd (.tmp 19) (.tmp 27) ?ho w.heap.size u5 (rg G i) ?hs (O.alloc _) wr.heap.size p ?hx (cut1 _ _ _) ?c1 ?c2 (fun v6 w1 O1 hg => ?_)); (case hgd => rfl); (case ho => rfl); (case hs => rfl); (case hx => rfl))
        case c1 => rw [L.out]; omega
        case c2 => have := hbl.size; simp; omega
        rw [S.out] at O1
        have b1 := (O.alloc _).grow (hbl.alloc hbl.size _) hg (by have := hbl.size; simp; omega)
        go_wp2_with fail
        go_roundw
        case rel => exact ⟨i + 1, rfl, by omega, O1, b1⟩
        case measure => simp [Lib.intOf]; omega
    · have i1 : ¬ (i : Int) < xs.length := by omega
      have i2 : ¬ (i : Int) < ys.length := by omega
      obtain rfl : i = n := by omega
      obtain ⟨A1, c1, rfl, R1⟩ := O.ws (fun j hj => by rw [rg_len] at hj; rw [rg_at G i j hj]; exact G64.out j)
      have T := Lib.hid (rtrim A1 c1 (rg G i) (by rw [rg_len]; omega) wr R1)
      go_wp2_with fail
      refine T.out.mono ?_
      rintro e w1 hT
      obtain ⟨zs, A2, c2, rfl, OK⟩ := Po.ret (OUT.out _ _ _ hbl hT)
      have OK := Lib.hid OK
      clear hT
      go_wp2
      exact bodyPost_ret (v := .slice A2 zs.length c2) (by simp [results, Try.results17, go_sem]) rfl OK.out

/-- The document's own sum, so far. -/
def cs (xs ys : List Nat) (i k : Nat) : Nat := sg (fun k => pl xs k * (if k ≤ i then pl ys (i - k) else 0)) k
theorem cs_succ (xs ys : List Nat) (i k : Nat) : cs xs ys i (k + 1) = cs xs ys i k + pl xs k * (if k ≤ i then pl ys (i - k) else 0) := rfl
theorem cs_all (xs ys : List Nat) (i : Nat) : cs xs ys i xs.length = conv (pl xs) (pl ys) i := (conv_long xs (pl ys) i).symm
theorem cs_step (xs ys : List Nat) (i k s : Nat) (hs : s = cs xs ys i k % 18446744069414584321) : (s + pl xs k * (if k ≤ i then pl ys (i - k) else 0) % 18446744069414584321) % 18446744069414584321 = cs xs ys i (k + 1) % 18446744069414584321 := by
  rw [hs, cs_succ, ← Nat.add_mod]
set_option maxHeartbeats 2000000 in
set_option maxRecDepth 100000 in
theorem rmul (A B : Option Addr) (ca cb : Nat) (xs ys : List Nat) (hn : xs.length ≤ 524288) (hm : ys.length ≤ 524288) (w : World) (Ra : Ws w w.heap.size A xs) (Rb : Ws w w.heap.size B ys) :
    Calls Try.prog 11 #[.slice A xs.length ca, .slice B ys.length cb] w (Po (conv (pl xs) (pl ys)) w) := by
  have N0 := Lib.hid (Ow.nil_ w w.heap.size)
  obtain ⟨G, hG⟩ : ∃ G : Nat → Nat, G = fun i => cs xs ys i xs.length % 18446744069414584321 := ⟨_, rfl⟩
  obtain ⟨n, hN⟩ : ∃ n : Nat, n = xs.length + ys.length := ⟨_, rfl⟩
  have nw : IntKind.i64.wrap ((xs.length : Int) + (ys.length : Int)) = (n : Int) := by rw [IntKind.wrap_i64]; omega
  have OUT := Lib.hid (fun (w1 w' : World) e (hb : Below w.heap.size w w1) (h : Row (tr 18446744069414584321 (rg G n)) w1 e w') => show Po (conv (pl xs) (pl ys)) w e w' from
    Po.of_trim (fun i _ => by rw [hG]; show cs xs ys i xs.length % _ % _ = _; rw [Nat.mod_mod, cs_all]) (fun i hi => by rw [conv_far xs ys i (by omega)]) hb h)
  have G64 := Lib.hid (fun i => show G i < 18446744073709551616 by rw [hG]; exact mod64 _)
  have GE := Lib.hid (fun i => show cs xs ys i xs.length % 18446744069414584321 = G i by rw [hG])
  have ST := Lib.hid (fun i k s hs => cs_step xs ys i k s hs)
  have C0 := Lib.hid (fun i => show 0 = cs xs ys i 0 % 18446744069414584321 from rfl)
  have Y64 := Lib.hid (fun j => pl64 Rb j)
  have hn1 : n ≤ 1048576 := by omega
  have HN := Lib.hid hN
  clear hG hN
  generalize conv (pl xs) (pl ys) = cf at *
  go_enter Try.func11, Try.ntmps11
  go_wp2_with fail
  go_loopw [5, 6] (fun v5 v6 wr => ∃ i : Nat, v6 = .int .i64 (i : Int) ∧ i ≤ n ∧ Ow wr w.heap.size v5 (rg G i) ∧ Below w.heap.size w wr) (fun _ v6 _ => n - (Lib.intOf v6).toNat)
  case atStart => exact ⟨0, rfl, Nat.zero_le _, N0.out, Below.refl _ _⟩
  case round =>
    obtain ⟨i, rfl, hi, O, hbl⟩ := hrel
    clear N0
    by_cases hlt : i < n
    · have i1 : (i : Int) < n := by omega
      have hbl0 := hbl
      have O0 := O
      obtain ⟨wo, rfl⟩ : ∃ wo : World, wo = wr := ⟨_, rfl⟩
      go_wp2_with fail
      go_loopw [7, 8] (fun v7 v8 wr => ∃ k s : Nat, v8 = .int .i64 (k : Int) ∧ v7 = .int .u64 (s : Nat) ∧ k ≤ xs.length ∧ s = cs xs ys i k % 18446744069414584321 ∧ Ow wr w.heap.size u5 (rg G i) ∧ Below w.heap.size w wr) (fun _ v8 _ => xs.length - (Lib.intOf v8).toNat)
      case atStart => exact ⟨0, 0, rfl, rfl, Nat.zero_le _, C0.out i, O0, hbl0⟩
      case round =>
        obtain ⟨k, s, rfl, rfl, hk, hs, O, hbl⟩ := hrel
        clear O0 hbl0
        by_cases hlt2 : k < xs.length
        · have k1 : (k : Int) < xs.length := by omega
          have Ra1 := Ra.below hbl
          have Rb1 := Rb.below hbl
          obtain ⟨b, off, rfl, hB, c⟩ := Ra1.at_ k hlt2
          have c2 : wr.cell? ⟨b, off + k, none⟩ = some (.int .u64 (pl xs k : Nat)) := c
          have E := Lib.hid (ST.out i k s hs)
          have g64 : (if k ≤ i then pl ys (i - k) else 0) < 18446744073709551616 := by split; exact Y64.out _; decide
          have X1 := Lib.hid (fun W R => get_less B cb ys i k (B := w.heap.size) W R)
          have X2 := Lib.hid (fun W => Gr.mul (pl xs k) (if k ≤ i then pl ys (i - k) else 0) g64 W)
          have X3 := Lib.hid (fun W => Gr.add s (pl xs k * (if k ≤ i then pl ys (i - k) else 0) % 18446744069414584321) W)
          obtain ⟨q, hq⟩ : ∃ q : Int, q = (i : Int) - (k : Int) := ⟨_, rfl⟩
          rw [← hq] at X1
          have dz : IntKind.i64.wrap ((i : Int) - (k : Int)) = q := by rw [IntKind.wrap_i64]; omega
          clear hq
          clear c hs g64
          generalize pl xs k = x at *
          generalize (if k ≤ i then pl ys (i - k) else 0) = y at *
          generalize x * y % 18446744069414584321 = z at *
          obtain ⟨s', hs'⟩ : ∃ s', s' = (s + z) % 18446744069414584321 := ⟨_, rfl⟩
          rw [← hs'] at X3 E
          clear hs'
          have RB := Lib.hid Rb1
          clear Rb1 Ra1
          go_wp2_with fail
          go_quiet ((first
            | (go_at_call 35; with_reducible exact qs (X1.out _ (RB.out.drewN _)))
            | (go_at_call 30; with_reducible exact qs (X2.out _))
            | (go_at_call 31; with_reducible exact qs (X3.out _))))
          go_wp2_with fail
          go_roundw
          case rel => exact ⟨k + 1, s', rfl, rfl, by omega, E.out, O.drewN _, below_drewN hbl _⟩
          case measure => simp [Lib.intOf]; omega
        · have k1 : ¬ (k : Int) < xs.length := by omega
          obtain rfl : k = xs.length := by omega
          have S := Lib.hid (rg_succ G i)
          have L := Lib.hid (rg_len G i)
          have e1 := hs.trans (GE.out i)
          rw [← e1] at S
          clear hs e1
          obtain ⟨p, rfl⟩ : ∃ p, p = s := ⟨_, rfl⟩
          go_wp2_with (at_builtin; go_loud (refine append1 (wr.alloc (.cells #[.int .u64 p] 23)) ?hgd (.tmp 36) (.tmp 38) ?ho w.heap.size u5 (rg G i) ?hs (O.alloc _) wr.heap.size p ?hx (cut1 _ _ _) ?c1 ?c2 (fun v6 w1 O1 hg => ?_)); (case hgd => rfl); (case ho => rfl); (case hs => rfl); (case hx => rfl))
          case c1 => rw [L.out]; omega
          case c2 => have := hbl.size; simp; omega
          rw [S.out] at O1
          have b1 := (O.alloc _).grow (hbl.alloc hbl.size _) hg (by have := hbl.size; simp; omega)
          go_wp2_with fail
          go_roundw
          case rel => exact ⟨i + 1, rfl, by omega, O1, b1⟩
          case measure => simp [Lib.intOf]; omega
    · have i1 : ¬ (i : Int) < n := by omega
      obtain rfl : i = n := by omega
      obtain ⟨A1, c1, rfl, R1⟩ := O.ws (fun j hj => by rw [rg_len] at hj; rw [rg_at G i j hj]; exact G64.out j)
      have T := Lib.hid (rtrim A1 c1 (rg G i) (by rw [rg_len]; omega) wr R1)
      go_wp2_with fail
      refine T.out.mono ?_
      rintro e w1 hT
      obtain ⟨zs, A2, c2, rfl, OK⟩ := Po.ret (OUT.out _ _ _ hbl hT)
      have OK := Lib.hid OK
      clear hT
      go_wp2
      exact bodyPost_ret (v := .slice A2 zs.length c2) (by simp [results, Try.results11, go_sem]) rfl OK.out

/-- A row of one word that was laid just now. -/
theorem ws_one (w : World) (a : Nat) (ha : a < 18446744073709551616) (t : TypeId) : Ws (w.alloc (.cells #[.int .u64 (a : Nat)] t)) (w.alloc (.cells #[.int .u64 (a : Nat)] t)).heap.size (some ⟨w.heap.size, 0, none⟩) [a] :=
  ⟨fun i hi => ⟨w.heap.size, 0, rfl, by simp, by obtain rfl : i = 0 := by simp at hi; omega
                                                 simp [go_sem]⟩, fun i hi => by obtain rfl : i = 0 := by simp at hi; omega
                                                                                exact ha⟩
/-- A row of two words that was laid just now. -/
theorem ws_two (w : World) (a b : Nat) (ha : a < 18446744073709551616) (hb : b < 18446744073709551616) (t : TypeId) : Ws (w.alloc (.cells #[.int .u64 (a : Nat), .int .u64 (b : Nat)] t)) (w.alloc (.cells #[.int .u64 (a : Nat), .int .u64 (b : Nat)] t)).heap.size (some ⟨w.heap.size, 0, none⟩) [a, b] := by
  refine ⟨fun i hi => ⟨w.heap.size, 0, rfl, by simp, ?_⟩, fun i hi => ?_⟩
  · rcases i with _ | _ | i
    · simp [go_sem]
    · simp [go_sem]
    · exact absurd hi (by simp)
  · rcases i with _ | _ | i
    · exact ha
    · exact hb
    · exact absurd hi (by simp)
theorem below_alloc (w : World) (o : Obj) : Below w.heap.size w (w.alloc o) := (Below.refl _ _).alloc (Nat.le_refl _) _
theorem conv_single (a : Nat) (f : Nat → Nat) (i : Nat) : conv f (pl [a]) i = a * f i := by
  rw [conv_comm]
  cases i with
  | zero => rw [conv_cons_zero]
  | succ i => rw [conv_cons_succ, conv_nil, Nat.add_zero]
theorem Po.more {c : Nat → Nat} {w w1 w' : World} {e : Ending} (h : Po c w1 e w') (hb : Below w.heap.size w w1) : Po c w e w' := by
  obtain ⟨zs, A, cap, h1, h2, h3, h4, h5⟩ := h
  exact ⟨zs, A, cap, h1, h2, h3, h4, hb.trans (h5.mono hb.size)⟩

set_option maxHeartbeats 1000000 in
set_option maxRecDepth 100000 in
theorem rscale (A : Option Addr) (ca : Nat) (xs : List Nat) (a : Nat) (ha : a < 18446744073709551616) (hn : xs.length ≤ 524288) (w : World) (R : Ws w w.heap.size A xs) :
    Calls Try.prog 18 #[.slice A xs.length ca, .int .u64 (a : Nat)] w (Po (fun i => a * pl xs i) w) := by
  have W1 := ws_one w a ha 23
  have R1 := R.step (below_alloc w (.cells #[.int .u64 (a : Nat)] 23))
  have M := Lib.hid (rmul A (some ⟨w.heap.size, 0, none⟩) ca 1 xs [a] hn (by simp) _ R1 W1)
  have OUT := Lib.hid (fun (w' : World) e (h : Po (conv (pl xs) (pl [a])) (w.alloc (.cells #[.int .u64 (a : Nat)] 23)) e w') => show Po (fun i => a * pl xs i) w e w' from
    (h.mod (fun i => by rw [conv_single])).more (below_alloc w _))
  clear ha W1 R1
  generalize (fun i => a * pl xs i) = cf at *
  go_enter Try.func18, Try.ntmps18
  go_wp2_with fail
  refine M.out.mono ?_
  rintro e w1 hT
  obtain ⟨zs, A2, c2, rfl, OK⟩ := Po.ret (OUT.out _ _ hT)
  have OK := Lib.hid OK
  clear hT
  go_wp2
  exact bodyPost_ret (v := .slice A2 zs.length c2) (by simp [results, Try.results18, go_sem]) rfl OK.out

set_option maxHeartbeats 1000000 in
set_option maxRecDepth 100000 in
theorem rderive (A : Option Addr) (ca : Nat) (xs : List Nat) (hn : xs.length ≤ 1048576) (w : World) (R : Ws w w.heap.size A xs) :
    Calls Try.prog 23 #[.slice A xs.length ca] w (Po (dv (pl xs)) w) := by
  have N0 := Lib.hid (Ow.nil_ w w.heap.size)
  obtain ⟨G, hG⟩ : ∃ G : Nat → Nat, G = fun i => (i + 1) * pl xs (i + 1) % 18446744069414584321 := ⟨_, rfl⟩
  obtain ⟨n, hN⟩ : ∃ n : Nat, n = xs.length - 1 := ⟨_, rfl⟩
  have OUT := Lib.hid (fun (w1 w' : World) e (hb : Below w.heap.size w w1) (h : Row (tr 18446744069414584321 (rg G n)) w1 e w') => show Po (dv (pl xs)) w e w' from
    Po.of_trim (fun i _ => by rw [hG]; exact Nat.mod_mod _ _) (fun i hi => by unfold dv; rw [pl_far xs (i + 1) (by omega), Nat.mul_zero]) hb h)
  have G64 := Lib.hid (fun i => show G i < 18446744073709551616 by rw [hG]; exact mod64 _)
  have MU := Lib.hid (fun i W (h : pl xs (i + 1) < 18446744073709551616) => show Calls Try.prog 30 #[.int .u64 ((i + 1 : Nat) : Int), .int .u64 (pl xs (i + 1) : Nat)] W fun e w' => e = .returned (.int .u64 (G i : Nat)) ∧ W = w' by rw [hG]; exact Gr.mul (i + 1) (pl xs (i + 1)) h W)
  have HN := Lib.hid hN
  have hn1 : n ≤ 1048576 := by omega
  have hn2 : ∀ i, i < n → i + 1 < xs.length := by intro i hi; omega
  have hn3 : ∀ i, ¬ i < n → ¬ i + 1 < xs.length := by intro i hi; omega
  have H2 := Lib.hid hn2
  have H3 := Lib.hid hn3
  clear hG hN hn2 hn3
  generalize dv (pl xs) = cf at *
  go_enter Try.func23, Try.ntmps23
  go_wp2_with fail
  go_loopw [3, 4] (fun v3 v4 wr => ∃ i z : Nat, v4 = .int .i64 (z : Int) ∧ z = i + 1 ∧ i ≤ n ∧ Ow wr w.heap.size v3 (rg G i) ∧ Below w.heap.size w wr) (fun _ v4 _ => n + 1 - (Lib.intOf v4).toNat)
  case atStart => exact ⟨0, 1, rfl, rfl, Nat.zero_le _, N0.out, Below.refl _ _⟩
  case round =>
    obtain ⟨i, z, rfl, hz, hi, O, hbl⟩ := hrel
    clear N0
    by_cases hlt : i < n
    · have i0 := H2.out i hlt
      rw [← hz] at i0
      have i1 : (z : Int) < xs.length := by omega
      have S := Lib.hid (rg_succ G i)
      have L := Lib.hid (rg_len G i)
      have R1 := R.below hbl
      obtain ⟨b, off, rfl, hB, c⟩ := R1.at_ z i0
      have c2 : wr.cell? ⟨b, off + z, none⟩ = some (.int .u64 (pl xs z : Nat)) := c
      have hl := R1.lt z i0
      have X := MU.out i
      rw [← hz] at X
      have X := Lib.hid (fun W => X W hl)
      have q1 := Bt.wrapN z (by omega)
      have HZ := Lib.hid hz
      clear c hl hz i0
      generalize G i = p at *
      generalize pl xs z = y at *
      go_wp2_with fail
      refine (X.out _).mono ?_
      rintro e w1 ⟨rfl, rfl⟩
      go_wp2_with (at_builtin; go_loud (refine append1 (wr.alloc (.cells #[.int .u64 p] 23)) ?hgd (.tmp 11) (.tmp 19) ?ho w.heap.size u3 (rg G i) ?hs (O.alloc _) wr.heap.size p ?hx (cut1 _ _ _) ?c1 ?c2 (fun v6 w1 O1 hg => ?_)); (case hgd => rfl); (case ho => rfl); (case hs => rfl); (case hx => rfl))
      case c1 => rw [L.out]; omega
      case c2 => have := hbl.size; simp; omega
      rw [S.out] at O1
      have b1 := (O.alloc _).grow (hbl.alloc hbl.size _) hg (by have := hbl.size; simp; omega)
      go_wp2_with fail
      go_roundw
      case rel => exact ⟨i + 1, z + 1, rfl, by rw [HZ.out], by omega, O1, b1⟩
      case measure => have := HZ.out; simp [Lib.intOf]; omega
    · have i0 := H3.out i hlt
      rw [← hz] at i0
      have i1 : ¬ (z : Int) < xs.length := by omega
      obtain rfl : i = n := by omega
      clear hz i0
      obtain ⟨A1, c1, rfl, R1⟩ := O.ws (fun j hj => by rw [rg_len] at hj; rw [rg_at G i j hj]; exact G64.out j)
      have T := Lib.hid (rtrim A1 c1 (rg G i) (by rw [rg_len]; omega) wr R1)
      go_wp2_with fail
      refine T.out.mono ?_
      rintro e w1 hT
      obtain ⟨zs, A2, c2, rfl, OK⟩ := Po.ret (OUT.out _ _ _ hbl hT)
      have OK := Lib.hid OK
      clear hT
      go_wp2
      exact bodyPost_ret (v := .slice A2 zs.length c2) (by simp [results, Try.results23, go_sem]) rfl OK.out
end Pl
end Go.Proofs.Ytckaelgmokddkaa
