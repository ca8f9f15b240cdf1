/- Contracts of package codec's functions of forms. -/
import Derived.Test.YtinachlkaochdaaDoorBytes
import Derived.Test.YtinachlkaochdaaDoorNumB
import Derived.Lib.Walk
import Derived.IntWalk
set_option linter.unusedVariables false
namespace Go.Proofs.YtinachlkaochdaaDoor
open Go.RowKit Go.Lib
namespace Cc
open Ww Cd


/-- The bytes behind i rounds of putForm. -/
def pf (f : Nat → Nat) (k x i : Nat) : Nat → Nat := fun j => if k ≤ j ∧ j < k + i then x / 256 ^ (j - k) % 256 else f j
theorem pf_zero (f : Nat → Nat) (k x : Nat) : pf f k x 0 = f := by funext j; unfold pf; rw [if_neg (by omega)]
theorem pf_succ (f : Nat → Nat) (k x i : Nat) : upd (pf f k x i) (k + i) (x / 256 ^ i % 256) = pf f k x (i + 1) := by
  funext j
  unfold upd
  by_cases e : j = k + i
  · subst e
    rw [if_pos rfl]
    unfold pf
    rw [if_pos (by omega), show k + i - k = i from by omega]
  · rw [if_neg e]
    unfold pf
    by_cases h : k ≤ j ∧ j < k + i
    · rw [if_pos h, if_pos (by omega)]
    · rw [if_neg h, if_neg (by omega)]

theorem byte_at (x i : Nat) : (x : Int) / 2 ^ (8 * i) % 256 = ((x / 256 ^ i % 256 : Nat) : Int) := by
  rw [Int.natCast_emod, Int.natCast_ediv, Int.natCast_pow, Int.pow_mul]
  rfl
set_option maxHeartbeats 400000 in
set_option maxRecDepth 100000 in
theorem put_form (b n k x len cap : Nat) (f : Nat → Nat) (hk : k + 8 ≤ n) (hl : 8 ≤ len) (w : World) (K : Bk w b n f) :
    Calls Tryd.prog 27 #[.slice (some ⟨b, k, none⟩) len cap, .int .u64 x] w fun e w' => e = .returned (.tuple #[]) ∧ Bk w' b n (pf f k x 8) ∧ Below b w w' ∧ w'.heap.size = w.heap.size := by
  go_enter Tryd.func27, Tryd.ntmps27
  go_wp2_with fail
  go_loopw [5] (fun v5 wr => ∃ i : Nat, v5 = .int .i64 (i : Int) ∧ i ≤ 8 ∧ Bk wr b n (pf f k x i) ∧ Below b w wr ∧ wr.heap.size = w.heap.size) (fun v5 _ => 8 - (Lib.intOf v5).toNat)
  case atStart => exact ⟨0, rfl, by omega, by rw [pf_zero]; exact K, Below.refl _ _, rfl⟩
  case round =>
    obtain ⟨i, rfl, hi, K1, hb, hs⟩ := hrel
    have HS := Lib.hid hs
    clear hs K
    by_cases hlt : i < 8
    · have i1 : (i : Int) < 8 := by omega
      have i2 : i < len := by omega
      have i3 : (i : Int) < len := by omega
      have k0 := K1.c (k + i) (by omega)
      have k1 := K1.z (k + i) (by omega)
      have P1 := Lib.hid (K1.put (k + i) (x / 256 ^ i % 256) (by omega))
      go_wp2_with fail
      go_roundw
      case rel =>
        rw [byte_at]
        have P2 := P1.out
        rw [pf_succ] at P2
        exact ⟨i + 1, rfl, by omega, P2, hb.setCell (Nat.le_refl _) _, by rw [World.size_setCell]; exact HS.out⟩
      case measure => simp [Lib.intOf]; omega
    · have i1 : ¬ (i : Int) < 8 := by omega
      obtain rfl : i = 8 := by omega
      go_wp2
      exact bodyPost_end (v := .tuple #[]) (by simp [results, Tryd.results27, go_sem]) rfl ⟨rfl, K1, hb, HS.out⟩

theorem or_step (v d i : Nat) (hv : v < 256 ^ i) (hd : d < 256) (hi : i < 8) : bits .or .u64 (v : Int) (IntKind.u64.wrap ((d : Int) * 2 ^ (8 * i))) = ((v + 256 ^ i * d : Nat) : Int) := by
  have e : (256 : Nat) ^ i = 2 ^ (8 * i) := by rw [Nat.pow_mul]
  rw [e] at hv ⊢
  rw [Nm.wrap_shl, Nm.or_bits' _ _ _ (by omega) hv]
  have hp : d * 2 ^ (8 * i) < 18446744073709551616 := by
    have h1 : d * 2 ^ (8 * i) < 256 * 2 ^ (8 * i) := Nat.mul_lt_mul_of_pos_right hd (Nat.pow_pos (by decide))
    have h2 : 256 * 2 ^ (8 * i) = 2 ^ (8 * i + 8) := by rw [Nat.pow_add, Nat.mul_comm]
    have h3 : (2 : Nat) ^ (8 * i + 8) ≤ 2 ^ 64 := Nat.pow_le_pow_right (by decide) (by omega)
    rw [Nm.p64] at h3
    omega
  rw [Nat.mod_eq_of_lt hp, Nat.mul_comm, Nat.add_comm]
theorem vb_take (bs : List UInt8) (i : Nat) (h : i < bs.length) : vb (bs.take (i + 1)) = vb (bs.take i) + 256 ^ i * (bs.getD i 0).toNat := by
  have e : bs.take (i + 1) = bs.take i ++ [bs.getD i 0] := by
    rw [List.take_succ_eq_append_getElem h]; simp [List.getD, h]
  rw [e, vb_snoc, List.length_take, Nat.min_eq_left (by omega)]
theorem vb_take_lt (bs : List UInt8) (i : Nat) : vb (bs.take i) < 256 ^ i := by
  have h := vb_lt (bs.take i)
  have hl : (bs.take i).length ≤ i := by simp; omega
  exact Nat.lt_of_lt_of_le h (Nat.pow_le_pow_right (by decide) hl)

set_option maxHeartbeats 400000 in
theorem inside_yes (A : Option Addr) (n cap i : Nat) (hn : n ≤ 9223372036854775807) (h : i < n / 8) (w : World) :
    Calls Tryd.prog 26 #[.slice A n cap, .int .i64 (i : Int)] w fun e w' => e = .returned (.bool true) ∧ w = w' := by
  have h1 : (i : Int) < (n : Int) / 8 := by omega
  have h2 : (0 : Int) ≤ i := by omega
  go_enter Tryd.func26, Tryd.ntmps26
  go_wp2
  go_ret
  exact ⟨by simp [*], rfl⟩
set_option maxHeartbeats 400000 in
theorem inside_no (A : Option Addr) (n cap : Nat) (i : Int) (hn : n ≤ 9223372036854775807) (h : i < 0 ∨ (n : Int) / 8 ≤ i) (w : World) :
    Calls Tryd.prog 26 #[.slice A n cap, .int .i64 i] w fun e w' => e = .returned (.bool false) ∧ w = w' := by
  by_cases h0 : i < 0
  · have h1 : decide (0 ≤ i) = false := decide_eq_false (by omega)
    clear h
    go_enter Tryd.func26, Tryd.ntmps26
    go_wp2
    go_ret
    exact ⟨by simp [*], rfl⟩
  · have h1 : 0 ≤ i := by omega
    have h2 : decide (i < (n : Int) / 8) = false := decide_eq_false (by omega)
    clear h h0
    go_enter Tryd.func26, Tryd.ntmps26
    go_wp2
    go_ret
    exact ⟨by simp [*], rfl⟩

set_option maxHeartbeats 400000 in
theorem set_no (A : Option Addr) (n cap : Nat) (i : Int) (x : Nat) (hn : n ≤ 9223372036854775807) (h : i < 0 ∨ (n : Int) / 8 ≤ i) (w : World) :
    Calls Tryd.prog 24 #[.slice A n cap, .int .i64 i, .int .u64 x] w fun e w' => e = .returned (.int .i64 2) ∧ w = w' := by
  have I := Lib.hid (inside_no A n cap i hn h)
  clear h
  go_enter Tryd.func24, Tryd.ntmps24
  go_wp2_with fail
  refine (I.out _).mono ?_
  rintro e w' ⟨rfl, rfl⟩
  go_wp2
  go_ret
  exact ⟨rfl, rfl⟩
set_option maxHeartbeats 400000 in
theorem set_yes (b n cap i x : Nat) (f : Nat → Nat) (hn : n ≤ 9223372036854775807) (hc : n ≤ cap) (h : i < n / 8) (w : World) (K : Bk w b n f) :
    Calls Tryd.prog 24 #[.slice (some ⟨b, 0, none⟩) n cap, .int .i64 (i : Int), .int .u64 x] w fun e w' => e = .returned (.int .i64 0) ∧ Bk w' b n (pf f (8 * i) x 8) ∧ Below b w w' ∧ w'.heap.size = w.heap.size := by
  have I := Lib.hid (inside_yes (some ⟨b, 0, none⟩) n cap i hn h)
  have T := Lib.hid (put_form b n (8 * i) x (n - 8 * i) (cap - 8 * i) f (by omega) (by omega) w K)
  have q1 : (8 : Int) * i ≤ n := by omega
  go_enter Tryd.func24, Tryd.ntmps24
  go_wp2_with fail
  refine (I.out _).mono ?_
  rintro e w' ⟨rfl, rfl⟩
  go_wp2_with fail
  refine T.out.mono ?_
  rintro e w' ⟨rfl, K2, b2, s2⟩
  have S2 := Lib.hid s2
  clear s2
  go_wp2
  go_ret
  exact ⟨rfl, K2, b2, S2.out⟩


/-- The bytes behind i rounds of Put. -/
def ff (xs : List Nat) (i : Nat) : Nat → Nat := fun j => if j < 8 * i then xs.getD (j / 8) 0 / 256 ^ (j % 8) % 256 else 0
theorem ff_zero (xs : List Nat) : ff xs 0 = fun _ => 0 := by funext j; unfold ff; rw [if_neg (by omega)]
theorem ff_succ (xs : List Nat) (i : Nat) : pf (ff xs i) (8 * i) (xs.getD i 0) 8 = ff xs (i + 1) := by
  funext j
  unfold pf ff
  by_cases h : 8 * i ≤ j ∧ j < 8 * i + 8
  · rw [if_pos h, if_pos (by omega), show j / 8 = i from by omega, show j - 8 * i = j % 8 from by omega]
  · rw [if_neg h]
    by_cases h2 : j < 8 * i
    · rw [if_pos h2, if_pos (by omega)]
    · rw [if_neg h2, if_neg (by omega)]
theorem form_at : ∀ (l : List Nat) (j : Nat), j < 8 * l.length → ((form l).getD j 0).toNat = l.getD (j / 8) 0 / 256 ^ (j % 8) % 256
  | [], j, h => by simp at h
  | x :: l, j, h => by
    rw [form_cons]
    by_cases hj : j < 8
    · have e : (le 8 x ++ form l).getD j 0 = (le 8 x).getD j 0 := by simp [List.getD, List.getElem?_append, le_len, hj]
      rw [e, le_getD 8 x j hj, toNat_mod, show j / 8 = 0 from by omega, show j % 8 = j from by omega]
      rfl
    · have e : (le 8 x ++ form l).getD j 0 = (form l).getD (j - 8) 0 := by simp [List.getD, List.getElem?_append, le_len, hj]
      rw [e, form_at l (j - 8) (by simp at h; omega), show j / 8 = (j - 8) / 8 + 1 from by omega, show j % 8 = (j - 8) % 8 from by omega]
      rfl
/-- What Put answers. -/
def PutOut (xs : List Nat) (w : World) (e : Ending) (w' : World) : Prop :=
  e = .returned (.slice (some ⟨w.heap.size, 0, none⟩) (form xs).length (form xs).length) ∧ Bs w' w'.heap.size (some ⟨w.heap.size, 0, none⟩) (form xs) ∧ Below w.heap.size w w'


theorem wk_words {w : World} {b n : Nat} {f : Nat → Nat} (bs : List UInt8) (K : Wk w b 0 n f) (hf : ∀ j, j < n → f j = wordAt bs (8 * j)) {B : Nat} (hB : b < B) : Ws w B (some ⟨b, 0, none⟩) (words bs n) := by
  have h := K.ws (fun i hi => by rw [hf i hi]; exact wordAt_lt _ _) hB
  have e : (List.range n).map f = words bs n := by
    unfold words
    apply List.map_congr_left
    intro i hi
    exact hf i (by simpa using hi)
  rwa [e] at h
/-- What holds ahead of each round of Take. -/
structure TRel (bs : List UInt8) (n : Nat) (w wr : World) (i : Nat) : Prop where
  hi : i ≤ n
  k : ∃ f, Wk wr w.heap.size 0 n f ∧ ∀ j, j < i → f j = wordAt bs (8 * j)
  b : Below w.heap.size w wr
  s : w.heap.size < wr.heap.size
theorem TRel.next {bs : List UInt8} {n : Nat} {w wr : World} {i : Nat} (T : TRel bs n w wr i) (h : i < n) : TRel bs n w (wr.setCell ⟨w.heap.size, i, none⟩ (.int .u64 (wordAt bs (8 * i) : Nat))) (i + 1) := by
  obtain ⟨f, K, hf⟩ := T.k
  have P := K.put i (wordAt bs (8 * i)) h
  rw [Nat.zero_add] at P
  refine ⟨by omega, ⟨_, P, fun j hj => ?_⟩, T.b.setCell (Nat.le_refl _) _, by rw [World.size_setCell]; exact T.s⟩
  by_cases e : j = i
  · subst e; rw [upd_same]
  · rw [upd_other _ _ _ e]; exact hf j (by omega)
/-- What Take answers of canonical words. -/
def TakeOut (bs : List UInt8) (n : Nat) (w : World) (e : Ending) (w' : World) : Prop :=
  e = .returned (.tuple #[.slice (some ⟨w.heap.size, 0, none⟩) n n, .int .i64 0, .int .i64 0]) ∧ Ws w' w'.heap.size (some ⟨w.heap.size, 0, none⟩) (words bs n) ∧ Below w.heap.size w w'
end Cc
end Go.Proofs.YtinachlkaochdaaDoor
