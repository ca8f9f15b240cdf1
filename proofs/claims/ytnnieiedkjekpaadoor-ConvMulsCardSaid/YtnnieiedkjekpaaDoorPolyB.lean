/- Contracts of the document's own functions of polynomials: At, Add, Mul, Scale, Derive. -/
import Derived.Test.YtnnieiedkjekpaaDoorPolyA
set_option linter.unusedVariables false
namespace Go.Proofs.YtnnieiedkjekpaaDoor
open Go.RowKit Go.Lib
namespace Pl
open Ww Pn Nt

theorem rat_step (xs : List Nat) (x i s p : Nat) (hs : s = sg (fun j => pl xs j * x ^ j) i % 18446744069414584321) (hp : p = x ^ i % 18446744069414584321) :
    (s + pl xs i * p % 18446744069414584321) % 18446744069414584321 = sg (fun j => pl xs j * x ^ j) (i + 1) % 18446744069414584321 := by
  subst hs hp
  show _ = (sg (fun j => pl xs j * x ^ j) i + pl xs i * x ^ i) % 18446744069414584321
  rw [Nat.mul_mod, Nat.mod_mod, ← Nat.mul_mod, ← Nat.add_mod]
theorem pow_step (x i p : Nat) (hp : p = x ^ i % 18446744069414584321) : p * x % 18446744069414584321 = x ^ (i + 1) % 18446744069414584321 := by
  rw [hp, Nat.mod_mul_mod, ← Nat.pow_succ]


/-- What a call answers that trims a row of its own. -/
theorem Po.of_trim {c g : Nat → Nat} {n : Nat} {w w1 w' : World} {e : Ending} (h1 : ∀ i, i < n → g i % 18446744069414584321 = c i % 18446744069414584321) (h2 : ∀ i, n ≤ i → c i % 18446744069414584321 = 0)
    (hb : Below w.heap.size w w1) (h : Row (tr 18446744069414584321 (rg g n)) w1 e w') : Po c w e w' := Po.of_tr h1 h2 (h.more hb)
/-- It is the answer that is handed on. -/
theorem Po.ret {c : Nat → Nat} {w w' : World} {e : Ending} (h : Po c w e w') : ∃ (zs : List Nat) (A : Option Addr) (cap : Nat), e = .returned (.slice A zs.length cap) ∧ Po c w (.returned (.slice A zs.length cap)) w' := by
  obtain ⟨zs, A, cap, h1, h2, h3, h4⟩ := h
  exact ⟨zs, A, cap, h3, zs, A, cap, h1, h2, rfl, h4⟩


/-- The document's own sum, so far. -/
def cs (xs ys : List Nat) (i k : Nat) : Nat := sg (fun k => pl xs k * (if k ≤ i then pl ys (i - k) else 0)) k
theorem cs_succ (xs ys : List Nat) (i k : Nat) : cs xs ys i (k + 1) = cs xs ys i k + pl xs k * (if k ≤ i then pl ys (i - k) else 0) := rfl
theorem cs_all (xs ys : List Nat) (i : Nat) : cs xs ys i xs.length = conv (pl xs) (pl ys) i := (conv_long xs (pl ys) i).symm
theorem cs_step (xs ys : List Nat) (i k s : Nat) (hs : s = cs xs ys i k % 18446744069414584321) : (s + pl xs k * (if k ≤ i then pl ys (i - k) else 0) % 18446744069414584321) % 18446744069414584321 = cs xs ys i (k + 1) % 18446744069414584321 := by
  rw [hs, cs_succ, ← Nat.add_mod]
set_option maxHeartbeats 2000000 in
set_option maxRecDepth 100000 in
theorem rmul (A B : Option Addr) (ca cb : Nat) (xs ys : List Nat) (hn : xs.length ≤ 524288) (hm : ys.length ≤ 524288) (w : World) (Ra : Ws w w.heap.size A xs) (Rb : Ws w w.heap.size B ys) :
    Calls Tryd.prog 14 #[.slice A xs.length ca, .slice B ys.length cb] w (Po (conv (pl xs) (pl ys)) w) := by
  have N0 := Lib.hid (Ow.nil_ w w.heap.size)
  obtain ⟨G, hG⟩ : ∃ G : Nat → Nat, G = fun i => cs xs ys i xs.length % 18446744069414584321 := ⟨_, rfl⟩
  obtain ⟨n, hN⟩ : ∃ n : Nat, n = xs.length + ys.length := ⟨_, rfl⟩
  have nw : IntKind.i64.wrap ((xs.length : Int) + (ys.length : Int)) = (n : Int) := by rw [IntKind.wrap_i64]; omega
  have OUT := Lib.hid (fun (w1 w' : World) e (hb : Below w.heap.size w w1) (h : Row (tr 18446744069414584321 (rg G n)) w1 e w') => show Po (conv (pl xs) (pl ys)) w e w' from
    Po.of_trim (fun i _ => by rw [hG]; show cs xs ys i xs.length % _ % _ = _; rw [Nat.mod_mod, cs_all]) (fun i hi => by rw [conv_far xs ys i (by omega)]) hb h)
  have G64 := Lib.hid (fun i => show G i < 18446744073709551616 by rw [hG]; exact mod64 _)
  have GE := Lib.hid (fun i => show cs xs ys i xs.length % 18446744069414584321 = G i by rw [hG])
  have ST := Lib.hid (fun i k s hs => cs_step xs ys i k s hs)
  have C0 := Lib.hid (fun i => show 0 = cs xs ys i 0 % 18446744069414584321 from rfl)
  have Y64 := Lib.hid (fun j => pl64 Rb j)
  have hn1 : n ≤ 1048576 := by omega
  have HN := Lib.hid hN
  clear hG hN
  generalize conv (pl xs) (pl ys) = cf at *
  go_enter Tryd.func14, Tryd.ntmps14
  go_wp2_with fail
  go_loopw [5, 6] (fun v5 v6 wr => ∃ i : Nat, v6 = .int .i64 (i : Int) ∧ i ≤ n ∧ Ow wr w.heap.size v5 (rg G i) ∧ Below w.heap.size w wr) (fun _ v6 _ => n - (Lib.intOf v6).toNat)
  case atStart => exact ⟨0, rfl, Nat.zero_le _, N0.out, Below.refl _ _⟩
  case round =>
    obtain ⟨i, rfl, hi, O, hbl⟩ := hrel
    clear N0
    by_cases hlt : i < n
    · have i1 : (i : Int) < n := by omega
      have hbl0 := hbl
      have O0 := O
      obtain ⟨wo, rfl⟩ : ∃ wo : World, wo = wr := ⟨_, rfl⟩
      go_wp2_with fail
      go_loopw [7, 8] (fun v7 v8 wr => ∃ k s : Nat, v8 = .int .i64 (k : Int) ∧ v7 = .int .u64 (s : Nat) ∧ k ≤ xs.length ∧ s = cs xs ys i k % 18446744069414584321 ∧ Ow wr w.heap.size u5 (rg G i) ∧ Below w.heap.size w wr) (fun _ v8 _ => xs.length - (Lib.intOf v8).toNat)
      case atStart => exact ⟨0, 0, rfl, rfl, Nat.zero_le _, C0.out i, O0, hbl0⟩
      case round =>
        obtain ⟨k, s, rfl, rfl, hk, hs, O, hbl⟩ := hrel
        clear O0 hbl0
        by_cases hlt2 : k < xs.length
        · have k1 : (k : Int) < xs.length := by omega
          have Ra1 := Ra.below hbl
          have Rb1 := Rb.below hbl
          obtain ⟨b, off, rfl, hB, c⟩ := Ra1.at_ k hlt2
          have c2 : wr.cell? ⟨b, off + k, none⟩ = some (.int .u64 (pl xs k : Nat)) := c
          have E := Lib.hid (ST.out i k s hs)
          have g64 : (if k ≤ i then pl ys (i - k) else 0) < 18446744073709551616 := by split; exact Y64.out _; decide
          have X1 := Lib.hid (fun W R => get_less B cb ys i k (B := w.heap.size) W R)
          have X2 := Lib.hid (fun W => Gr.mul (pl xs k) (if k ≤ i then pl ys (i - k) else 0) g64 W)
          have X3 := Lib.hid (fun W => Gr.add s (pl xs k * (if k ≤ i then pl ys (i - k) else 0) % 18446744069414584321) W)
          obtain ⟨q, hq⟩ : ∃ q : Int, q = (i : Int) - (k : Int) := ⟨_, rfl⟩
          rw [← hq] at X1
          have dz : IntKind.i64.wrap ((i : Int) - (k : Int)) = q := by rw [IntKind.wrap_i64]; omega
          clear hq
          clear c hs g64
          generalize pl xs k = x at *
          generalize (if k ≤ i then pl ys (i - k) else 0) = y at *
          generalize x * y % 18446744069414584321 = z at *
          obtain ⟨s', hs'⟩ : ∃ s', s' = (s + z) % 18446744069414584321 := ⟨_, rfl⟩
          rw [← hs'] at X3 E
          clear hs'
          have RB := Lib.hid Rb1
          clear Rb1 Ra1
          go_wp2_with fail
          go_quiet ((first
            | (go_at_call 31; with_reducible exact qs (X1.out _ (RB.out.drewN _)))
            | (go_at_call 29; with_reducible exact qs (X2.out _))
            | (go_at_call 28; with_reducible exact qs (X3.out _))))
          go_wp2_with fail
          go_roundw
          case rel => exact ⟨k + 1, s', rfl, rfl, by omega, E.out, O.drewN _, below_drewN hbl _⟩
          case measure => simp [Lib.intOf]; omega
        · have k1 : ¬ (k : Int) < xs.length := by omega
          obtain rfl : k = xs.length := by omega
          have S := Lib.hid (rg_succ G i)
          have L := Lib.hid (rg_len G i)
          have e1 := hs.trans (GE.out i)
          rw [← e1] at S
          clear hs e1
          obtain ⟨p, rfl⟩ : ∃ p, p = s := ⟨_, rfl⟩
          go_wp2_with (at_builtin; go_loud (refine append1 (wr.alloc (.cells #[.int .u64 p] 32)) ?hgd (.tmp 36) (.tmp 38) ?ho w.heap.size u5 (rg G i) ?hs (O.alloc _) wr.heap.size p ?hx (cut1 _ _ _) ?c1 ?c2 (fun v6 w1 O1 hg => ?_)); (case hgd => rfl); (case ho => rfl); (case hs => rfl); (case hx => rfl))
          case c1 => rw [L.out]; omega
          case c2 => have := hbl.size; simp; omega
          rw [S.out] at O1
          have b1 := (O.alloc _).grow (hbl.alloc hbl.size _) hg (by have := hbl.size; simp; omega)
          go_wp2_with fail
          go_roundw
          case rel => exact ⟨i + 1, rfl, by omega, O1, b1⟩
          case measure => simp [Lib.intOf]; omega
    · have i1 : ¬ (i : Int) < n := by omega
      obtain rfl : i = n := by omega
      obtain ⟨A1, c1, rfl, R1⟩ := O.ws (fun j hj => by rw [rg_len] at hj; rw [rg_at G i j hj]; exact G64.out j)
      have T := Lib.hid (rtrim A1 c1 (rg G i) (by rw [rg_len]; omega) wr R1)
      go_wp2_with fail
      refine T.out.mono ?_
      rintro e w1 hT
      obtain ⟨zs, A2, c2, rfl, OK⟩ := Po.ret (OUT.out _ _ _ hbl hT)
      have OK := Lib.hid OK
      clear hT
      go_wp2
      exact bodyPost_ret (v := .slice A2 zs.length c2) (by simp [results, Tryd.results14, go_sem]) rfl OK.out

theorem conv_single (a : Nat) (f : Nat → Nat) (i : Nat) : conv f (pl [a]) i = a * f i := by
  rw [conv_comm]
  cases i with
  | zero => rw [conv_cons_zero]
  | succ i => rw [conv_cons_succ, conv_nil, Nat.add_zero]
theorem Po.more {c : Nat → Nat} {w w1 w' : World} {e : Ending} (h : Po c w1 e w') (hb : Below w.heap.size w w1) : Po c w e w' := by
  obtain ⟨zs, A, cap, h1, h2, h3, h4, h5⟩ := h
  exact ⟨zs, A, cap, h1, h2, h3, h4, hb.trans (h5.mono hb.size)⟩


end Pl
end Go.Proofs.YtnnieiedkjekpaaDoor
