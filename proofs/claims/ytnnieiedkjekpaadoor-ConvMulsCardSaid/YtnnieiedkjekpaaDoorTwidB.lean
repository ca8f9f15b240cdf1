/- Contracts of package twid: Twiddle, Table, Scale, sumsOf. -/
import Derived.Test.YtnnieiedkjekpaaDoorTwidA
import Derived.Test.YtnnieiedkjekpaaDoorGoldS
set_option linter.unusedVariables false
namespace Go.Proofs.YtnnieiedkjekpaaDoor
open Go.RowKit Go.Lib
namespace Td
open Nm Ww Tn Pl

/-- A row in a block of its own, whose words are a rule's. -/
def RwN (g : Nat → Nat) (n : Nat) (w : World) (e : Ending) (w' : World) : Prop :=
  ∃ b, e = .returned (.slice (some ⟨b, 0, none⟩) n n) ∧ w.heap.size ≤ b ∧ b < w'.heap.size ∧ Wk w' b 0 n g ∧ Below w.heap.size w w'
/-- .. and OK. -/
def RwE (g : Nat → Nat) (n : Nat) (w : World) (e : Ending) (w' : World) : Prop :=
  ∃ b, e = .returned (.tuple #[.slice (some ⟨b, 0, none⟩) n n, .int .i64 0]) ∧ w.heap.size ≤ b ∧ b < w'.heap.size ∧ Wk w' b 0 n g ∧ Below w.heap.size w w'
theorem wk_ws {w : World} {b n : Nat} {g : Nat → Nat} (K : Wk w b 0 n g) (hg : ∀ i, g i < 18446744069414584321) (hb : b < w.heap.size) : Ws w w.heap.size (some ⟨b, 0, none⟩) (rg g n) := K.ws (fun i _ => Nat.lt_trans (hg i) (by decide)) hb
theorem wk_congr {w : World} {b n : Nat} {g h : Nat → Nat} (K : Wk w b 0 n g) (e : ∀ i, i < n → g i = h i) : Wk w b 0 n h := ⟨fun i hi => by rw [K.c i hi, e i hi], K.z⟩

theorem prod_lt {a b : Nat} (ha : a ≤ 4294967295) (hb : b ≤ 4294967295) : a * b < 18446744073709551616 :=
  Nat.lt_of_le_of_lt (Nat.mul_le_mul ha hb) (by decide)

set_option maxHeartbeats 400000 in
theorem table_bad {k d : Int} {x : Nat} {e : Int} (h : Rs k d x e) (he : e ≠ 0) (w : World) :
    Calls Tryd.prog 59 #[.int .i64 k, .int .i64 d] w fun e1 w' => e1 = .returned (.tuple #[.slice none 0 0, .int .i64 e]) ∧ Below w.heap.size w w' := by
  have C := Lib.hid (fun W => h.root W)
  have e1 : (e != 0) = true := by simp [he]
  clear h he
  go_enter Tryd.func59, Tryd.ntmps59
  go_wp2_with fail
  refine (C.out _).mono ?_
  rintro e w1 ⟨rfl, h1⟩
  go_wp2
  go_ret2
  exact ⟨rfl, h1⟩
set_option maxHeartbeats 400000 in
theorem table_large (k d : Nat) (hk : k ≤ 32) (hd : d ≤ 1) (h : 20 < k) (w : World) :
    Calls Tryd.prog 59 #[.int .i64 (k : Int), .int .i64 (d : Int)] w fun e1 w' => e1 = .returned (.tuple #[.slice none 0 0, .int .i64 14]) ∧ Below w.heap.size w w' := by
  have C := Lib.hid (fun W => root_in k d hk hd W)
  have k1 : 20 < (k : Int) := by omega
  generalize rd k d = r at *
  clear h hk hd
  go_enter Tryd.func59, Tryd.ntmps59
  go_wp2_with fail
  refine (C.out _).mono ?_
  rintro e w1 ⟨rfl, h1⟩
  go_wp2
  go_ret2
  exact ⟨rfl, h1⟩
theorem rwE_mk {x n : Nat} {w w1 w' : World} (h1 : Below w.heap.size w w1) (h : Rt.PowOut x n w1 (.returned (.tuple #[.slice (some ⟨w1.heap.size, 0, none⟩) n n, .int .i64 0])) w') :
    RwE (fun i => x ^ i % 18446744069414584321) n w (.returned (.tuple #[.slice (some ⟨w1.heap.size, 0, none⟩) n n, .int .i64 0])) w' := ⟨_, rfl, h1.size, h.2.2.1, h.2.1, h1.trans (h.2.2.2.mono h1.size)⟩
set_option maxHeartbeats 400000 in
theorem table (k d : Nat) (hk : k ≤ 20) (hd : d ≤ 1) (w : World) :
    Calls Tryd.prog 59 #[.int .i64 (k : Int), .int .i64 (d : Int)] w (RwE (fun i => rd k d ^ i % 18446744069414584321) (2 ^ (k - 1)) w) := by
  have C := Lib.hid (fun W => root_in k d (by omega) hd W)
  have k1 : ¬ 20 < (k : Int) := by omega
  have hl : 2 ^ (k - 1) ≤ 2 ^ 20 := Nat.pow_le_pow_right (by decide) (by omega)
  have hr := rd_lt k d
  have D := Lib.hid (fun W => Rt.powers (rd k d) (2 ^ (k - 1)) (by omega) hl W)
  obtain ⟨m, hm⟩ : ∃ m, m = k - 1 := ⟨_, rfl⟩
  rw [← hm] at D hl ⊢
  obtain ⟨q, hq⟩ : ∃ q : Int, q = (k : Int) - 1 := ⟨_, rfl⟩
  have q1 : IntKind.i64.wrap ((k : Int) - 1) = q := by rw [IntKind.wrap_i64]; omega
  have q2 : max (0 : Int) q = (m : Int) := by omega
  have s1 := Bt.pow_i64 m (by omega)
  obtain ⟨n, hn⟩ : ∃ n, n = 2 ^ m := ⟨_, rfl⟩
  rw [← hn] at D s1 ⊢
  generalize rd k d = r at *
  have bm : m ≤ 20 := by omega
  clear hk hd hl hr hm hq hn
  go_enter Tryd.func59, Tryd.ntmps59
  go_wp2_with fail
  refine (C.out _).mono ?_
  rintro e w1 ⟨rfl, h1⟩
  go_wp2_with fail
  refine (D.out _).mono ?_
  rintro e w2 ⟨rfl, h2⟩
  have O := rwE_mk h1 ⟨rfl, h2⟩
  clear h2
  go_wp2
  exact bodyPost_ret (v := .tuple #[.slice (some ⟨w1.heap.size, 0, none⟩) n n, .int .i64 0]) (by simp [results, Tryd.results59, go_sem]) rfl O

theorem rwN_mk {g : Nat → Nat} {n : Nat} {w wr : World} (h : Bd g n w.heap.size w wr (fun j => j < n)) : RwN g n w (.returned (.slice (some ⟨w.heap.size, 0, none⟩) n n)) wr :=
  ⟨_, rfl, Nat.le_refl _, h.s, h.wk (fun _ h => h), h.bel⟩
set_option maxHeartbeats 1000000 in
set_option maxRecDepth 100000 in
theorem scale (A : Option Addr) (ca n : Nat) (xs : List Nat) (hn : xs.length = n) (hl : n ≤ 1048576) (a : Nat) (ha : a < 18446744073709551616) (w : World) (R : Ws w w.heap.size A xs) :
    Calls Tryd.prog 62 #[.slice A n ca, .int .u64 (a : Nat)] w (RwN (fun i => Pn.pl xs i * a % 18446744069414584321) n w) := by
  have mk := make_words n (by omega) (by omega)
  have M := Lib.hid (fun i (h : Pn.pl xs i < 18446744073709551616) W => Gd.mul (Pn.pl xs i) a h ha W)
  obtain ⟨G, hG⟩ : ∃ G : Nat → Nat, G = fun i => Pn.pl xs i * a % 18446744069414584321 := ⟨_, rfl⟩
  have Gi : ∀ i, Pn.pl xs i * a % 18446744069414584321 = G i := fun i => by rw [hG]
  rw [← hG]
  simp only [Gi] at M
  have HN := Lib.hid hn
  clear hG Gi ha hn
  have ST := Lib.hid (Bd.start (w := w) (w1 := w) (D := fun j => j < 0) G n (Below.refl _ _) 32 (fun j hj => by omega))
  go_enter Tryd.func62, Tryd.ntmps62
  go_wp2_with fail
  go_loopw [13] (fun v13 wr => ∃ i : Nat, v13 = .int .i64 (i : Int) ∧ i ≤ n ∧ Bd G n w.heap.size w wr (fun j => j < i)) (fun v13 _ => n - (Lib.intOf v13).toNat)
  case atStart => exact ⟨0, rfl, Nat.zero_le _, ST.out⟩
  case round =>
    obtain ⟨i, rfl, hi, BD⟩ := hrel
    clear ST mk
    by_cases hlt : i < n
    · have i1 : (i : Int) < n := by omega
      have R1 := R.below BD.bel
      obtain ⟨b, off, rfl, hB, c⟩ := R1.at_ i (by rw [HN.out]; exact hlt)
      have c2 : wr.cell? ⟨b, off + i, none⟩ = some (.int .u64 (Pn.pl xs i : Nat)) := c
      have O := Lib.hid (M.out i (R1.lt i (by rw [HN.out]; exact hlt)))
      have PUT := Lib.hid (fun w1 (h : Bd G n w.heap.size w w1 (fun j => j < i)) => h.put i hlt (D' := fun j => j < i + 1) (fun j hj => by omega))
      clear c
      generalize Pn.pl xs i = x at *
      generalize G i = g at *
      go_wp2_with fail
      refine (O.out _).mono ?_
      rintro e w1 ⟨rfl, b1⟩
      have B1 := BD.call b1
      obtain ⟨⟨v, k0⟩, k1⟩ := B1.at_ i hlt
      have PU := Lib.hid (PUT.out _ B1)
      clear B1 b1 PUT BD
      go_wp2_with fail
      go_roundw
      case rel => exact ⟨i + 1, rfl, by omega, PU.out⟩
      case measure => simp [Lib.intOf]; omega
    · have i1 : ¬ (i : Int) < n := by omega
      obtain rfl : i = n := by omega
      have OK := Lib.hid (rwN_mk BD)
      clear BD
      go_wp2
      exact bodyPost_ret (v := .slice (some ⟨w.heap.size, 0, none⟩) i i) (by simp [results, Tryd.results62, go_sem]) rfl OK.out

/-- The sum that Dot tells of a row and the powers of a power. -/
theorem dot_tf (xs : List Nat) (n x j p : Nat) (hp : p = x ^ j % 18446744069414584321) : Gd.dsum xs (rg (fun i => p ^ i % 18446744069414584321) n) n % 18446744069414584321 = tf (Pn.pl xs) n x j := by
  refine Pn.sg_mod n fun i hi => ?_
  show xs.getD i 0 * (rg _ n).getD i 0 % _ = Pn.pl xs i * x ^ (i * j) % _
  rw [rg_at _ _ _ hi, hp, Nt.pmod, ← Nat.pow_mul, Nat.mul_mod_mod, Nat.mul_comm j i]
  rfl
/-- sumsOf's loop. -/
structure SRel (G : Nat → Nat) (x n : Nat) (w wr : World) (i p : Nat) : Prop where
  hi : i ≤ n
  p : p = x ^ i % 18446744069414584321
  b : Bd G n w.heap.size w wr (fun j => j < i)
end Td
end Go.Proofs.YtnnieiedkjekpaaDoor
