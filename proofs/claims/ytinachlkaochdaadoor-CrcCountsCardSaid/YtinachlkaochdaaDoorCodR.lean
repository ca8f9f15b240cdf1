/- Contracts of the document's own answer for layer 4: forms. -/
import Derived.Test.YtinachlkaochdaaDoorCodA
set_option linter.unusedVariables false
namespace Go.Proofs.YtinachlkaochdaaDoor
open Go.RowKit Go.Lib
namespace Cr
open Ww Cd

theorem str_at (s : ByteArray) (i : Nat) (h : i < s.size) : s[i] = s.data.toList.getD i 0 := by
  have h2 : i < s.data.size := h
  show s.data[i] = s.data.toList[i]?.getD 0
  rw [Array.getElem?_toList, Array.getElem?_eq_getElem h2]
  rfl
theorem wrap_step (v d : Nat) (h : d + 256 * v < 18446744073709551616) : IntKind.u64.wrap (IntKind.u64.wrap (256 * (v : Int)) + IntKind.u64.wrap (d : Int)) = ((d + 256 * v : Nat) : Int) := by
  simp only [IntKind.wrap_u64]; omega
theorem vb_drop (t : List UInt8) (j : Nat) (h : j < t.length) : vb (t.drop j) = (t.getD j 0).toNat + 256 * vb (t.drop (j + 1)) := by
  rw [List.drop_eq_getElem_cons h]
  simp [vb, List.getD, h]

/-- The text of one byte that was just laid down. -/
theorem conv1 (W : World) (y : Nat) (hy : y < 256) : (convert 22 9 (.slice (some ⟨W.heap.size, 0, none⟩) 1 1)).run Tryd.prog (W.alloc (.cells #[.int .u8 (y : Int)] 5)) = .ok (.string ⟨[UInt8.ofNat y].toArray⟩) (W.alloc (.cells #[.int .u8 (y : Int)] 5)) := by
  have R : Bs (W.alloc (.cells #[.int .u8 (y : Int)] 5)) (W.heap.size + 1) (some ⟨W.heap.size, 0, none⟩) [UInt8.ofNat y] := ⟨fun i hi => by
    have e : i = 0 := by simpa using hi
    subst e
    refine ⟨_, _, rfl, Nat.lt_succ_self _, ?_⟩
    have e : (([UInt8.ofNat y] : List UInt8).getD 0 0).toNat = y := by simp; omega
    rw [e]
    simp [go_sem]⟩
  exact conv_bytes R 1
def sb (bs : List UInt8) : ByteArray := ⟨bs.toArray⟩
theorem sb_size (bs : List UInt8) : (sb bs).size = bs.length := by simp [sb, ByteArray.size]
theorem sb_list (bs : List UInt8) : (sb bs).data.toList = bs := by simp [sb]
theorem sb_append (a b : List UInt8) : sb a ++ sb b = sb (a ++ b) := by
  apply ByteArray.ext
  simp [sb]
theorem sb_of (s : ByteArray) : sb s.data.toList = s := by
  apply ByteArray.ext
  simp [sb]
/-- Strings are the same just if their bytes are. -/
theorem le_take_succ (x k : Nat) (h : k < 8) : (le 8 x).take (k + 1) = (le 8 x).take k ++ [UInt8.ofNat (x / 256 ^ k % 256)] := by
  rw [List.take_succ_eq_append_getElem (by rw [le_len]; exact h)]
  congr 2
  have := le_getD 8 x k h
  simpa [List.getD, le_len, h] using this

set_option maxHeartbeats 1000000 in
set_option maxRecDepth 100000 in
theorem put (A : Option Addr) (cap : Nat) (xs : List Nat) (hn : xs.length ≤ 1048576) (w : World) (R : Ws w w.heap.size A xs) :
    Calls Tryd.prog 17 #[.slice A xs.length cap] w fun e w' => e = .returned (.string (sb (form xs))) ∧ Below w.heap.size w w' := by
  go_enter Tryd.func17, Tryd.ntmps17
  go_wp2_with fail
  go_loopw [3, 4] (fun v3 v4 wr => ∃ i : Nat, v4 = .int .i64 (i : Int) ∧ i ≤ xs.length ∧ v3 = .string (sb (form (xs.take i))) ∧ Below w.heap.size w wr) (fun _ v4 _ => xs.length - (Lib.intOf v4).toNat)
  case atStart => exact ⟨0, rfl, by omega, rfl, Below.refl _ _⟩
  case round =>
    obtain ⟨i, rfl, hi, rfl, hb⟩ := hrel
    by_cases hlt : i < xs.length
    · have i1 : (i : Int) < xs.length := by omega
      obtain ⟨b, off, rfl, hB, c0⟩ := (R.below hb).at_ i hlt
      have e1 : xs.take (i + 1) = xs.take i ++ [xs.getD i 0] := by rw [List.take_succ_eq_append_getElem hlt]; simp [List.getD, hlt]
      have E1 := Lib.hid e1
      have hx := R.lt i hlt
      clear e1
      generalize xs.getD i 0 = x at *
      have hfl : (form (xs.take i)).length ≤ 8388608 := by rw [form_len, List.length_take]; omega
      generalize hF : form (xs.take i) = F at *
      have HF := Lib.hid hF
      clear hF
      obtain ⟨wo, rfl⟩ : ∃ wo : World, wo = wr := ⟨_, rfl⟩
      go_wp2_with fail
      clear c0
      go_loopw [3, 5, 6] (fun v3 v5 v6 wr => ∃ k : Nat, v6 = .int .i64 (k : Int) ∧ k ≤ 8 ∧ v5 = .int .u64 (x / 256 ^ k : Nat) ∧ v3 = .string (sb (F ++ (le 8 x).take k)) ∧ Below w.heap.size w wr) (fun _ _ v6 _ => 8 - (Lib.intOf v6).toNat)
      case atStart => exact ⟨0, rfl, by omega, by simp, by simp, hb⟩
      case round =>
        obtain ⟨k, rfl, hk, rfl, rfl, hb2⟩ := hrel
        by_cases hlt2 : k < 8
        · have k1 : (k : Int) < 8 := by omega
          have e2 := Lib.hid (le_take_succ x k hlt2)
          have e3 : x / 256 ^ k / 256 = x / 256 ^ (k + 1) := by rw [Nat.div_div_eq_div_mul, Nat.pow_succ]
          have E3 := Lib.hid e3
          clear e3
          have hlen : ((le 8 x).take k).length ≤ 8 := by rw [List.length_take]; omega
          have hq : x / 256 ^ k < 18446744073709551616 := Nat.lt_of_le_of_lt (Nat.div_le_self _ _) hx
          generalize x / 256 ^ k = q at *
          have cv := conv1 wr (q % 256) (Nat.mod_lt _ (by decide))
          rw [Int.natCast_emod, show ((256 : Nat) : Int) = 256 from rfl] at cv
          have hn1 : sb (F ++ (le 8 x).take (k + 1)) = sb (F ++ (le 8 x).take k) ++ (⟨[UInt8.ofNat (q % 256)].toArray⟩ : ByteArray) := by
            rw [e2.out, ← List.append_assoc, ← sb_append]
            rfl
          have hsz : (sb (F ++ (le 8 x).take k)).size ≤ 8388616 := by rw [sb_size, List.length_append]; omega
          have hs1 : (⟨[UInt8.ofNat (q % 256)].toArray⟩ : ByteArray).size = 1 := rfl
          generalize (⟨[UInt8.ofNat (q % 256)].toArray⟩ : ByteArray) = c at *
          generalize sb (F ++ (le 8 x).take k) = s at *
          have n1 : ¬ 9223372036854775807 < s.size + c.size := by omega
          have n2 : s.size + c.size ≤ 9223372036854775807 := by omega
          have HN1 := Lib.hid hn1
          clear hn1 hs1
          have hb3 := hb2.alloc hb2.size (.cells #[.int .u8 ((q : Int) % 256)] 5)
          go_wp2_with fail
          go_roundw
          case rel => exact ⟨k + 1, rfl, by omega, by rw [← E3.out]; rfl, by rw [HN1.out], hb3⟩
          case measure => simp [Lib.intOf]; omega
        · have k1 : ¬ (k : Int) < 8 := by omega
          obtain rfl : k = 8 := by omega
          have e4 : F ++ (le 8 x).take 8 = form (xs.take (i + 1)) := by rw [E1.out, form_snoc, HF.out, List.take_of_length_le (by rw [le_len]; omega)]
          have E4 := Lib.hid e4
          clear e4
          go_wp2_with fail
          go_roundw
          case rel => exact ⟨i + 1, rfl, by omega, by rw [E4.out], hb2⟩
          case measure => simp [Lib.intOf]; omega
    · have i1 : ¬ (i : Int) < xs.length := by omega
      obtain rfl : i = xs.length := by omega
      have e1 : xs.take xs.length = xs := List.take_of_length_le (Nat.le_refl _)
      have E1 := Lib.hid e1
      clear e1
      go_wp2
      go_ret
      exact ⟨rfl, hb⟩


/-- What Take answers of canonical words. -/
def TakeOut (xs : List Nat) (w : World) (e : Ending) (w' : World) : Prop :=
  ∃ v, e = .returned (.tuple #[v, .int .i64 0, .int .i64 0]) ∧ Ow w' w.heap.size v xs ∧ Below w.heap.size w w'
end Cr
end Go.Proofs.YtinachlkaochdaaDoor
