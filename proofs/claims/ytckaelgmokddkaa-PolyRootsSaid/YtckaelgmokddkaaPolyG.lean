/- Contracts of package poly: FromRoots; that the laws are awake. -/
import Derived.Test.YtckaelgmokddkaaPolyF
set_option linter.unusedVariables false
namespace Go.Proofs.Ytckaelgmokddkaa
open Go.RowKit Go.Lib Go.Sort
namespace Pl
open Ww Pn Nt

/-- The product of x - a, for the first i words of a row. -/
def frl (xs : List Nat) : Nat → List Nat
  | 0 => [1]
  | i + 1 => tr 18446744069414584321 (mull (frl xs i) (ln 18446744069414584321 (pl xs i)))
theorem frl_succ (xs : List Nat) (i : Nat) : frl xs (i + 1) = tr 18446744069414584321 (mull (frl xs i) (ln 18446744069414584321 (pl xs i))) := rfl
theorem pl_frl (xs : List Nat) (i j : Nat) : pl (frl xs (i + 1)) j = conv (pl (frl xs i)) (pl (ln 18446744069414584321 (pl xs i))) j % 18446744069414584321 := by rw [frl_succ, pl_tr, pl_mull]
theorem frl_mo (xs : List Nat) : ∀ i, Mo 18446744069414584321 (frl xs i) i
  | 0 => Mo.start (by decide)
  | i + 1 => (frl_mo xs i).step (by decide) (pl xs i) (tr_nf (by decide) _) (pl_frl xs i)
theorem frl_len (xs : List Nat) (i : Nat) : (frl xs i).length = i + 1 := (frl_mo xs i).len
/-- A trimmed row with these coefficients is it. -/
theorem frl_eq (xs : List Nat) (i : Nat) {zs : List Nat} (h : Nf 18446744069414584321 zs) (hc : ∀ j, pl zs j = conv (pl (frl xs i)) (pl (ln 18446744069414584321 (pl xs i))) j % 18446744069414584321) : zs = frl xs (i + 1) :=
  h.ext (frl_mo xs (i + 1)).nf fun j => by rw [hc, pl_frl]
theorem frl_at (xs : List Nat) (x i : Nat) : evl x (frl xs (i + 1)) % 18446744069414584321 = evl x (frl xs i) * evl x (ln 18446744069414584321 (pl xs i)) % 18446744069414584321 :=
  evl_conv x fun j => by rw [pl_frl, Nat.mod_mod]
/-- Its value at each root is 0. -/
theorem frl_root (xs : List Nat) : ∀ i r, r < i → evl (pl xs r) (frl xs i) % 18446744069414584321 = 0
  | 0, r, h => absurd h (Nat.not_lt_zero r)
  | i + 1, r, h => by
    rw [frl_at]
    by_cases e : r = i
    · subst e; rw [Nat.mul_mod, ln_zero (by decide), Nat.mul_zero, Nat.zero_mod]
    · rw [Nat.mul_mod, frl_root xs i r (by omega), Nat.zero_mul, Nat.zero_mod]
theorem ln_eq (a : Nat) : ln 18446744069414584321 a = [(18446744069414584321 - a % 18446744069414584321) % 18446744069414584321, 1] := rfl
theorem ws_lit1 (w : World) (t : TypeId) : Ws (w.alloc (.cells #[.int .u64 1] t)) (w.alloc (.cells #[.int .u64 1] t)).heap.size (some ⟨w.heap.size, 0, none⟩) [1] := ws_one w 1 (by decide) t
theorem ws_lin (w : World) (a : Nat) (ha : a < 18446744073709551616) (t : TypeId) : Ws (w.alloc (.cells #[.int .u64 (a : Nat), .int .u64 1] t)) (w.alloc (.cells #[.int .u64 (a : Nat), .int .u64 1] t)).heap.size (some ⟨w.heap.size, 0, none⟩) [a, 1] := ws_two w a 1 ha (by decide) t
/-- What FromRoots answers. -/
def RowT (zs : List Nat) (w : World) (e : Ending) (w' : World) : Prop := ∃ A cap, e = .returned (.tuple #[.slice A zs.length cap, .int .i64 0]) ∧ Ws w' w'.heap.size A zs ∧ Below w.heap.size w w'

/-- A product by x - a, whose row was laid just now. -/
theorem mul_lin (A : Option Addr) (ca : Nat) (xs : List Nat) (i g : Nat) (hi : i ≤ 1000) (hg : g = (18446744069414584321 - pl xs i % 18446744069414584321) % 18446744069414584321) (w : World) (R : Ws w w.heap.size A (frl xs i)) :
    Calls Try.prog 9 #[.slice A (i + 1) ca, .slice (some ⟨w.heap.size, 0, none⟩) 2 2] (w.alloc (.cells #[.int .u64 (g : Nat), .int .u64 1] 23)) (RowT (frl xs (i + 1)) w) := by
  have hb := below_alloc w (.cells #[.int .u64 (g : Nat), .int .u64 1] 23)
  have M := mul A (some ⟨w.heap.size, 0, none⟩) ca 2 (frl xs i) [g, 1] (by rw [frl_len]; omega) (by simp) _ (R.step hb) (ws_lin w g (by rw [hg]; exact mod64 _) _)
  rw [frl_len] at M
  refine M.mono ?_
  rintro e w' ⟨zs, A1, c1, hz, hc, rfl, R1, hb1⟩
  obtain rfl : zs = frl xs (i + 1) := frl_eq xs i hz (fun j => by rw [hc, ln_eq, hg])
  exact ⟨A1, c1, rfl, R1, hb.trans (hb1.mono hb.size)⟩

set_option maxHeartbeats 1000000 in
set_option maxRecDepth 100000 in
theorem fromRoots (A : Option Addr) (ca : Nat) (xs : List Nat) (hx : xs.length ≤ 1000) (w : World) (R : Ws w w.heap.size A xs) :
    Calls Try.prog 27 #[.slice A xs.length ca] w (RowT (frl xs xs.length) w) := by
  have ML := Lib.hid (fun A1 c1 i g hi hg W R => mul_lin A1 c1 xs i g hi hg W R)
  have S0 := Lib.hid (show Ws (w.alloc (.cells #[.int .u64 1] 23)) (w.alloc (.cells #[.int .u64 1] 23)).heap.size (some ⟨w.heap.size, 0, none⟩) (frl xs 0) from ws_lit1 w _)
  have B0 := Lib.hid (below_alloc w (.cells #[.int .u64 1] 23))
  have LE := Lib.hid (frl_len xs)
  have OUT := Lib.hid (fun (A1 : Option Addr) (c1 : Nat) (w' : World) (h1 : Ws w' w'.heap.size A1 (frl xs xs.length)) (h2 : Below w.heap.size w w') => show RowT (frl xs xs.length) w (.returned (.tuple #[.slice A1 (xs.length + 1) c1, .int .i64 0])) w' from ⟨A1, c1, by rw [frl_len], h1, h2⟩)
  have NE := Lib.hid (fun x (h : x < 18446744073709551616) W => Gd.neg x h W)
  have h1 : ¬ (1000 : Int) < xs.length := by omega
  go_enter Try.func27, Try.ntmps27
  go_wp2_with fail
  go_loopw [4, 13] (fun v4 v13 wr => ∃ (i n : Nat) (A1 : Option Addr) (c1 : Nat), v13 = .int .i64 (i : Int) ∧ v4 = .slice A1 n c1 ∧ n = i + 1 ∧ i ≤ xs.length ∧ Ws wr wr.heap.size A1 (frl xs i) ∧ Below w.heap.size w wr) (fun _ v13 _ => xs.length - (Lib.intOf v13).toNat)
  case atStart => exact ⟨0, 1, _, 1, rfl, rfl, rfl, Nat.zero_le _, S0.out, B0.out⟩
  case round =>
    obtain ⟨i, n, A1, c1, rfl, rfl, hn, hi, Z, hbl⟩ := hrel
    clear S0 B0
    by_cases hlt : i < xs.length
    · have i1 : (i : Int) < xs.length := by omega
      have R1 := R.below hbl
      obtain ⟨b, off, rfl, hB, c⟩ := R1.at_ i hlt
      have c2 : wr.cell? ⟨b, off + i, none⟩ = some (.int .u64 (pl xs i : Nat)) := c
      have N := Lib.hid (NE.out (pl xs i) (R1.lt i hlt))
      obtain ⟨g, hg⟩ : ∃ g, g = (18446744069414584321 - pl xs i % 18446744069414584321) % 18446744069414584321 := ⟨_, rfl⟩
      have M := ML.out A1 c1 i g (by omega) hg wr Z
      obtain ⟨zs1, hzs⟩ : ∃ z, z = frl xs (i + 1) := ⟨_, rfl⟩
      rw [← hzs, ← hn] at M
      have M := Lib.hid M
      rw [← hg] at N
      have LI := Lib.hid (LE.out (i + 1))
      have HZ := Lib.hid hzs
      clear c hg hn hzs
      generalize pl xs i = x at *
      go_wp2_with fail
      refine (N.out _).mono ?_
      rintro e w1 ⟨rfl, rfl⟩
      go_wp2_with fail
      refine M.out.mono ?_
      rintro e w1 ⟨A2, c3, rfl, Z2, d2⟩
      have b2 := hbl.trans (d2.mono hbl.size)
      go_wp2_with fail
      go_roundw
      case rel => exact ⟨i + 1, zs1.length, A2, c3, rfl, rfl, by rw [HZ.out]; exact LI.out, by omega, by rw [← HZ.out]; exact Z2, b2⟩
      case measure => simp [Lib.intOf]; omega
    · have i1 : ¬ (i : Int) < xs.length := by omega
      obtain rfl : i = xs.length := by omega
      have OK := OUT.out A1 c1 wr Z hbl
      rw [← hn] at OK
      have OK := Lib.hid OK
      clear hn Z
      go_wp2
      exact bodyPost_ret (v := .tuple #[.slice A1 n c1, .int .i64 0]) (by simp [results, Try.results27, go_sem]) rfl OK.out

theorem add_zero (w : World) : Calls Try.prog 19 #[.slice none 0 0] w fun e w' => ∃ A cap, e = .returned (.slice A 0 cap) ∧ Below w.heap.size w w' := by
  refine (add_none w).mono ?_
  rintro e w' ⟨zs, A, cap, hz, hc, rfl, R, hb⟩
  have h0 : zs.length = 0 := Nat.le_zero.1 (hz.short 0 fun i _ => hc i)
  exact ⟨A, cap, by rw [h0], hb⟩
theorem frl_ex : frl [1, 2] 2 = [2, 18446744069414584318, 1] := by decide +kernel
theorem Ws.three {w : World} {B : Nat} {A : Option Addr} {x y z : Nat} (R : Ws w B A [x, y, z]) : ∃ b off : Nat, A = some ⟨b, off, none⟩ ∧ w.cell? ⟨b, off, none⟩ = some (.int .u64 (x : Nat)) ∧ w.cell? ⟨b, off + 1, none⟩ = some (.int .u64 (y : Nat)) ∧ w.cell? ⟨b, off + 2, none⟩ = some (.int .u64 (z : Nat)) := by
  obtain ⟨b, off, rfl, _, c0⟩ := R.at_ 0 (by simp)
  obtain ⟨b1, off1, e1, _, c1⟩ := R.at_ 1 (by simp)
  obtain ⟨b2, off2, e2, _, c2⟩ := R.at_ 2 (by simp)
  injection e1 with e1
  injection e1 with e3 e4
  subst e3 e4
  injection e2 with e2
  injection e2 with e3 e4
  subst e3 e4
  exact ⟨b, off, rfl, c0, c1, c2⟩
theorem roots_awake (w : World) : Calls Try.prog 27 #[.slice (some ⟨w.heap.size, 0, none⟩) 2 2] (w.alloc (.cells #[.int .u64 1, .int .u64 2] 23)) fun e w' =>
    ∃ (b off cap : Nat), e = .returned (.tuple #[.slice (some ⟨b, off, none⟩) 3 cap, .int .i64 0]) ∧ w'.cell? ⟨b, off, none⟩ = some (.int .u64 2) ∧ w'.cell? ⟨b, off + 1, none⟩ = some (.int .u64 18446744069414584318) ∧ w'.cell? ⟨b, off + 2, none⟩ = some (.int .u64 1) ∧ Below w.heap.size w w' := by
  have hb := below_alloc w (.cells #[.int .u64 1, .int .u64 2] 23)
  refine (fromRoots (some ⟨w.heap.size, 0, none⟩) 2 [1, 2] (by simp) _ (ws_two w 1 2 (by decide) (by decide) _)).mono ?_
  rintro e w' ⟨A, cap, rfl, R, hb1⟩
  have e3 : frl [1, 2] [1, 2].length = [2, 18446744069414584318, 1] := frl_ex
  rw [e3] at R ⊢
  obtain ⟨b, off, rfl, c0, c1, c2⟩ := Ws.three R
  exact ⟨b, off, cap, rfl, c0, c1, c2, hb.trans (hb1.mono hb.size)⟩

set_option maxHeartbeats 1000000 in
set_option maxRecDepth 100000 in
theorem awake (w : World) : Calls Try.prog 8 #[] w fun e w' => e = .returned (.bool true) ∧ Below w.heap.size w w' := by
  have RA := Lib.hid (roots_awake w)
  go_enter Try.func8, Try.ntmps8
  go_wp2_with fail
  refine RA.out.mono ?_
  rintro e w1 ⟨b, off, cap, rfl, c0, c1, c2, hb⟩
  clear RA
  go_wp2
  go_ret
  exact ⟨by simp [go_sem], hb⟩
end Pl
end Go.Proofs.Ytckaelgmokddkaa
