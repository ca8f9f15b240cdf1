/- Contracts of the document's own answer for layer 4: forms. -/
import Derived.Test.YtggocbblpgaaoaaDoorCodA
set_option linter.unusedVariables false
namespace Go.Proofs.YtggocbblpgaaoaaDoor
open Go.RowKit Go.Lib
namespace Cr
open Ww Cd

theorem str_at (s : ByteArray) (i : Nat) (h : i < s.size) : s[i] = s.data.toList.getD i 0 := by
  have h2 : i < s.data.size := h
  show s.data[i] = s.data.toList[i]?.getD 0
  rw [Array.getElem?_toList, Array.getElem?_eq_getElem h2]
  rfl
theorem wrap_step (v d : Nat) (h : d + 256 * v < 18446744073709551616) : IntKind.u64.wrap (IntKind.u64.wrap (256 * (v : Int)) + IntKind.u64.wrap (d : Int)) = ((d + 256 * v : Nat) : Int) := by
  simp only [IntKind.wrap_u64]; omega
theorem vb_drop (t : List UInt8) (j : Nat) (h : j < t.length) : vb (t.drop j) = (t.getD j 0).toNat + 256 * vb (t.drop (j + 1)) := by
  rw [List.drop_eq_getElem_cons h]
  simp [vb, List.getD, h]
set_option maxHeartbeats 400000 in
set_option maxRecDepth 100000 in
theorem word (s : ByteArray) (k : Nat) (hs : s.size ≤ 9223372036854775807) (h : k + 8 ≤ s.size) (w : World) :
    Calls Tryd.prog 15 #[.string s, .int .i64 (k : Int)] w fun e w' => e = .returned (.int .u64 (wordAt s.data.toList k : Nat)) ∧ w = w' := by
  obtain ⟨t, ht⟩ : ∃ t, t = (s.data.toList.drop k).take 8 := ⟨_, rfl⟩
  have hl : t.length = 8 := by rw [ht]; simp; omega
  have HT := Lib.hid ht
  have HL := Lib.hid hl
  clear ht hl
  go_enter Tryd.func15, Tryd.ntmps15
  go_wp2_with fail
  go_loop [5, 6] (fun v5 v6 => ∃ j : Nat, v6 = .int .i64 ((j : Int) - 1) ∧ j ≤ 8 ∧ v5 = .int .u64 (vb (t.drop j) : Nat)) (fun _ v6 => (Lib.intOf v6 + 1).toNat)
  case atStart => exact ⟨8, rfl, by omega, by rw [List.drop_eq_nil_of_le (by rw [HL.out]; omega)]; rfl⟩
  case round =>
    obtain ⟨j, rfl, hj, rfl⟩ := hrel
    by_cases h0 : j = 0
    · subst h0
      have i1 : ¬ (0 : Int) ≤ ((0 : Nat) : Int) - 1 := by omega
      go_wp2
      go_ret
      refine ⟨?_, rfl⟩
      unfold wordAt
      rw [← HT.out]
      rfl
    · obtain ⟨i, rfl⟩ : ∃ i, j = i + 1 := ⟨j - 1, by omega⟩
      rw [show (((i + 1 : Nat) : Int) - 1) = (i : Int) from by omega]
      have i1 : (0 : Int) ≤ (i : Int) := by omega
      have i2 : k + i < s.size := by omega
      have i3 : (k : Int) + i < s.size := by omega
      have e1 := vb_drop t i (by rw [HL.out]; omega)
      have e2 : (t.getD i 0) = s[k + i] := by
        rw [str_at s (k + i) i2, HT.out]
        simp [List.getD, show i < 8 by omega]
      have e3 : vb (t.drop i) < 18446744073709551616 := by
        have a := vb_lt (t.drop i)
        have b : (t.drop i).length ≤ 8 := by rw [List.length_drop, HL.out]; omega
        have c : (256 : Nat) ^ (t.drop i).length ≤ 256 ^ 8 := Nat.pow_le_pow_right (by decide) b
        omega
      rw [e2] at e1
      have E := Lib.hid (wrap_step (vb (t.drop (i + 1))) s[k + i].toNat (by omega))
      have E1 := Lib.hid e1
      clear e1 e2 e3
      generalize vb (t.drop (i + 1)) = v at *
      go_wp2_with fail
      go_round
      case rel => exact ⟨i, rfl, by omega, by rw [E.out, E1.out]⟩
      case measure => simp [Lib.intOf]

/-- The text of one byte that was just laid down. -/
theorem conv1 (W : World) (y : Nat) (hy : y < 256) : (convert 23 9 (.slice (some ⟨W.heap.size, 0, none⟩) 1 1)).run Tryd.prog (W.alloc (.cells #[.int .u8 (y : Int)] 5)) = .ok (.string ⟨[UInt8.ofNat y].toArray⟩) (W.alloc (.cells #[.int .u8 (y : Int)] 5)) := by
  have R : Bs (W.alloc (.cells #[.int .u8 (y : Int)] 5)) (W.heap.size + 1) (some ⟨W.heap.size, 0, none⟩) [UInt8.ofNat y] := ⟨fun i hi => by
    have e : i = 0 := by simpa using hi
    subst e
    refine ⟨_, _, rfl, Nat.lt_succ_self _, ?_⟩
    have e : (([UInt8.ofNat y] : List UInt8).getD 0 0).toNat = y := by simp; omega
    rw [e]
    simp [go_sem]⟩
  exact conv_bytes R 1
def sb (bs : List UInt8) : ByteArray := ⟨bs.toArray⟩
theorem sb_size (bs : List UInt8) : (sb bs).size = bs.length := by simp [sb, ByteArray.size]
theorem sb_list (bs : List UInt8) : (sb bs).data.toList = bs := by simp [sb]
theorem sb_append (a b : List UInt8) : sb a ++ sb b = sb (a ++ b) := by
  apply ByteArray.ext
  simp [sb]
theorem sb_of (s : ByteArray) : sb s.data.toList = s := by
  apply ByteArray.ext
  simp [sb]
/-- Strings are the same just if their bytes are. -/
theorem le_take_succ (x k : Nat) (h : k < 8) : (le 8 x).take (k + 1) = (le 8 x).take k ++ [UInt8.ofNat (x / 256 ^ k % 256)] := by
  rw [List.take_succ_eq_append_getElem (by rw [le_len]; exact h)]
  congr 2
  have := le_getD 8 x k h
  simpa [List.getD, le_len, h] using this

set_option maxHeartbeats 1000000 in
set_option maxRecDepth 100000 in
theorem put (A : Option Addr) (cap : Nat) (xs : List Nat) (hn : xs.length ≤ 1048576) (w : World) (R : Ws w w.heap.size A xs) :
    Calls Tryd.prog 10 #[.slice A xs.length cap] w fun e w' => e = .returned (.string (sb (form xs))) ∧ Below w.heap.size w w' := by
  go_enter Tryd.func10, Tryd.ntmps10
  go_wp2_with fail
  go_loopw [3, 4] (fun v3 v4 wr => ∃ i : Nat, v4 = .int .i64 (i : Int) ∧ i ≤ xs.length ∧ v3 = .string (sb (form (xs.take i))) ∧ Below w.heap.size w wr) (fun _ v4 _ => xs.length - (Lib.intOf v4).toNat)
  case atStart => exact ⟨0, rfl, by omega, rfl, Below.refl _ _⟩
  case round =>
    obtain ⟨i, rfl, hi, rfl, hb⟩ := hrel
    by_cases hlt : i < xs.length
    · have i1 : (i : Int) < xs.length := by omega
      obtain ⟨b, off, rfl, hB, c0⟩ := (R.below hb).at_ i hlt
      have e1 : xs.take (i + 1) = xs.take i ++ [xs.getD i 0] := by rw [List.take_succ_eq_append_getElem hlt]; simp [List.getD, hlt]
      have E1 := Lib.hid e1
      have hx := R.lt i hlt
      clear e1
      generalize xs.getD i 0 = x at *
      have hfl : (form (xs.take i)).length ≤ 8388608 := by rw [form_len, List.length_take]; omega
      generalize hF : form (xs.take i) = F at *
      have HF := Lib.hid hF
      clear hF
      obtain ⟨wo, rfl⟩ : ∃ wo : World, wo = wr := ⟨_, rfl⟩
      go_wp2_with fail
      clear c0
      go_loopw [3, 5, 6] (fun v3 v5 v6 wr => ∃ k : Nat, v6 = .int .i64 (k : Int) ∧ k ≤ 8 ∧ v5 = .int .u64 (x / 256 ^ k : Nat) ∧ v3 = .string (sb (F ++ (le 8 x).take k)) ∧ Below w.heap.size w wr) (fun _ _ v6 _ => 8 - (Lib.intOf v6).toNat)
      case atStart => exact ⟨0, rfl, by omega, by simp, by simp, hb⟩
      case round =>
        obtain ⟨k, rfl, hk, rfl, rfl, hb2⟩ := hrel
        by_cases hlt2 : k < 8
        · have k1 : (k : Int) < 8 := by omega
          have e2 := Lib.hid (le_take_succ x k hlt2)
          have e3 : x / 256 ^ k / 256 = x / 256 ^ (k + 1) := by rw [Nat.div_div_eq_div_mul, Nat.pow_succ]
          have E3 := Lib.hid e3
          clear e3
          have hlen : ((le 8 x).take k).length ≤ 8 := by rw [List.length_take]; omega
          have hq : x / 256 ^ k < 18446744073709551616 := Nat.lt_of_le_of_lt (Nat.div_le_self _ _) hx
          generalize x / 256 ^ k = q at *
          have cv := conv1 wr (q % 256) (Nat.mod_lt _ (by decide))
          rw [Int.natCast_emod, show ((256 : Nat) : Int) = 256 from rfl] at cv
          have hn1 : sb (F ++ (le 8 x).take (k + 1)) = sb (F ++ (le 8 x).take k) ++ (⟨[UInt8.ofNat (q % 256)].toArray⟩ : ByteArray) := by
            rw [e2.out, ← List.append_assoc, ← sb_append]
            rfl
          have hsz : (sb (F ++ (le 8 x).take k)).size ≤ 8388616 := by rw [sb_size, List.length_append]; omega
          have hs1 : (⟨[UInt8.ofNat (q % 256)].toArray⟩ : ByteArray).size = 1 := rfl
          generalize (⟨[UInt8.ofNat (q % 256)].toArray⟩ : ByteArray) = c at *
          generalize sb (F ++ (le 8 x).take k) = s at *
          have n1 : ¬ 9223372036854775807 < s.size + c.size := by omega
          have n2 : s.size + c.size ≤ 9223372036854775807 := by omega
          have HN1 := Lib.hid hn1
          clear hn1 hs1
          have hb3 := hb2.alloc hb2.size (.cells #[.int .u8 ((q : Int) % 256)] 5)
          go_wp2_with fail
          go_roundw
          case rel => exact ⟨k + 1, rfl, by omega, by rw [← E3.out]; rfl, by rw [HN1.out], hb3⟩
          case measure => simp [Lib.intOf]; omega
        · have k1 : ¬ (k : Int) < 8 := by omega
          obtain rfl : k = 8 := by omega
          have e4 : F ++ (le 8 x).take 8 = form (xs.take (i + 1)) := by rw [E1.out, form_snoc, HF.out, List.take_of_length_le (by rw [le_len]; omega)]
          have E4 := Lib.hid e4
          clear e4
          go_wp2_with fail
          go_roundw
          case rel => exact ⟨i + 1, rfl, by omega, by rw [E4.out], hb2⟩
          case measure => simp [Lib.intOf]; omega
    · have i1 : ¬ (i : Int) < xs.length := by omega
      obtain rfl : i = xs.length := by omega
      have e1 : xs.take xs.length = xs := List.take_of_length_le (Nat.le_refl _)
      have E1 := Lib.hid e1
      clear e1
      go_wp2
      go_ret
      exact ⟨rfl, hb⟩

set_option maxHeartbeats 400000 in
/-- Two rows that are the same. -/
theorem same_yes (A B : Option Addr) (ca cb k : Nat) (xs : List Nat) (hn : xs.length ≤ 9223372036854775807) (w : World) (Ra : Ws w k A xs) (Rb : Ws w k B xs) :
    Calls Tryd.prog 11 #[.slice A xs.length ca, .slice B xs.length cb] w fun e w' => e = .returned (.bool true) ∧ ∃ m, w' = w.drewN m := by
  go_enter Tryd.func11, Tryd.ntmps11
  go_wp2_with fail
  go_loopw [5] (fun v5 wr => ∃ i m : Nat, v5 = .int .i64 (i : Int) ∧ i ≤ xs.length ∧ wr = w.drewN m ∧ Ws wr k A xs ∧ Ws wr k B xs) (fun v5 _ => xs.length - (Lib.intOf v5).toNat)
  case atStart => exact ⟨0, 0, rfl, by omega, rfl, Ra, Rb⟩
  case round =>
    obtain ⟨i, m, rfl, hi, hm, Qa, Qb⟩ := hrel
    have HM := Lib.hid hm
    clear hm Ra Rb
    by_cases hlt : i < xs.length
    · have i1 : (i : Int) < xs.length := by omega
      obtain ⟨b1, o1, rfl, hB1, c1⟩ := Qa.at_ i hlt
      obtain ⟨b2, o2, rfl, hB2, c2⟩ := Qb.at_ i hlt
      generalize xs.getD i 0 = x at *
      go_wp2_with fail
      go_quiet (fail)
      go_wp2_with fail
      go_roundw
      case rel => exact ⟨i + 1, m + nq, rfl, by omega, by rw [HM.out, World.drewN_drewN], Qa.drewN _, Qb.drewN _⟩
      case measure => simp [Lib.intOf]; omega
    · have i1 : ¬ (i : Int) < xs.length := by omega
      go_wp2
      go_ret
      exact ⟨rfl, m, HM.out⟩

set_option maxHeartbeats 400000 in
theorem take_short (s : ByteArray) (hn : s.size ≤ 9223372036854775807) (h : s.size % 8 ≠ 0) (w : World) :
    Calls Tryd.prog 9 #[.string s] w fun e w' => e = .returned (.tuple #[.slice none 0 0, .int .i64 ((8 * (s.size / 8) : Nat) : Int), .int .i64 15]) ∧ w = w' := by
  have h1 : ((s.size : Int) != 8 * ((s.size : Int) / 8)) = true := by simp; omega
  have h2 : 8 * ((s.size : Int) / 8) = ((8 * (s.size / 8) : Nat) : Int) := by omega
  have H2 := Lib.hid h2
  clear h2
  go_enter Tryd.func9, Tryd.ntmps9
  go_wp2
  exact bodyPost_ret (v := .tuple #[.slice none 0 0, .int .i64 (8 * ((s.size : Int) / 8)), .int .i64 15]) (by simp [results, Tryd.results9, go_sem]) rfl ⟨by rw [H2.out], rfl⟩
/-- What Take answers of canonical words. -/
def TakeOut (xs : List Nat) (w : World) (e : Ending) (w' : World) : Prop :=
  ∃ v, e = .returned (.tuple #[v, .int .i64 0, .int .i64 0]) ∧ Ow w' w.heap.size v xs ∧ Below w.heap.size w w'
set_option maxHeartbeats 1000000 in
set_option maxRecDepth 100000 in
theorem take_ok (s : ByteArray) (n : Nat) (hn : n ≤ 1048576) (h : s.size = 8 * n) (hx : ∀ i, i < n → wordAt s.data.toList (8 * i) < 18446744069414584321) (w : World) :
    Calls Tryd.prog 9 #[.string s] w (TakeOut (words s.data.toList n) w) := by
  have h2 : (s.size : Int) / 8 = (n : Int) := by omega
  have h1 : ((s.size : Int) != 8 * (n : Int)) = false := by simp; omega
  have b1 : s.size ≤ 8388608 := by omega
  have HX := Lib.hid hx
  have HL := Lib.hid h
  have N0 := Lib.hid (Ow.nil_ w w.heap.size)
  clear hx h
  go_enter Tryd.func9, Tryd.ntmps9
  go_wp2_with fail
  clear h1 h2
  go_loopw [6, 7] (fun v6 v7 wr => ∃ i : Nat, v7 = .int .i64 (i : Int) ∧ i ≤ n ∧ Ow wr w.heap.size v6 (words s.data.toList i) ∧ Below w.heap.size w wr) (fun _ v7 _ => n - (Lib.intOf v7).toNat)
  case atStart => exact ⟨0, rfl, by omega, N0.out, Below.refl _ _⟩
  case round =>
    obtain ⟨i, rfl, hi, O, hbl⟩ := hrel
    clear N0
    by_cases hlt : i < n
    · have i1 : (i : Int) < n := by omega
      have W := Lib.hid (fun W => word s (8 * i) (by omega) (by have := HL.out; omega) W)
      rw [show ((8 * i : Nat) : Int) = 8 * (i : Int) from by omega] at W
      have G := HX.out i hlt
      have S := Lib.hid (words_succ s.data.toList i)
      have L := Lib.hid (words_len s.data.toList i)
      generalize wordAt s.data.toList (8 * i) = p at *
      have HG := Lib.hid G
      clear G
      go_wp2_with fail
      refine (W.out _).mono ?_
      rintro e w1 ⟨rfl, rfl⟩
      have g1 : decide ((18446744069414584321 : Int) ≤ p) = false := decide_eq_false (by have := HG.out; omega)
      go_wp2_with (at_builtin; go_loud (refine append1 (wr.alloc (.cells #[.int .u64 p] 35)) ?hgd (.tmp 32) (.tmp 34) ?ho w.heap.size u6 (words s.data.toList i) ?hs (O.alloc _) wr.heap.size p ?hx (cut1 _ _ _) ?c1 ?c2 (fun v6 w1 O1 hg => ?_)); (case hgd => rfl); (case ho => rfl); (case hs => rfl); (case hx => rfl))
      case c1 => rw [L.out]; omega
      case c2 => have := hbl.size; simp; omega
      rw [← S.out] at O1
      have b1 := (O.alloc _).grow (hbl.alloc hbl.size _) hg (by have := hbl.size; simp; omega)
      go_wp2_with fail
      go_roundw
      case rel => exact ⟨i + 1, rfl, by omega, O1, b1⟩
      case measure => simp [Lib.intOf]; omega
    · have i1 : ¬ (i : Int) < n := by omega
      obtain rfl : n = i := by omega
      go_wp2
      exact bodyPost_ret (v := .tuple #[u6, .int .i64 0, .int .i64 0]) (by simp [results, Tryd.results9, go_sem]) rfl ⟨u6, rfl, O, hbl⟩
set_option maxHeartbeats 1000000 in
set_option maxRecDepth 100000 in
theorem take_bad (s : ByteArray) (n k : Nat) (hn : n ≤ 1048576) (h : s.size = 8 * n) (hk : k < n) (hk2 : 18446744069414584321 ≤ wordAt s.data.toList (8 * k)) (hx : ∀ i, i < k → wordAt s.data.toList (8 * i) < 18446744069414584321) (w : World) :
    Calls Tryd.prog 9 #[.string s] w fun e w' => e = .returned (.tuple #[.slice none 0 0, .int .i64 ((8 * k : Nat) : Int), .int .i64 3]) ∧ Below w.heap.size w w' := by
  have h2 : (s.size : Int) / 8 = (n : Int) := by omega
  have h1 : ((s.size : Int) != 8 * (n : Int)) = false := by simp; omega
  have b1 : s.size ≤ 8388608 := by omega
  have HX := Lib.hid hx
  have HK := Lib.hid hk2
  have HL := Lib.hid h
  have N0 := Lib.hid (Ow.nil_ w w.heap.size)
  clear hx h hk2
  go_enter Tryd.func9, Tryd.ntmps9
  go_wp2_with fail
  clear h1 h2
  go_loopw [6, 7] (fun v6 v7 wr => ∃ i : Nat, v7 = .int .i64 (i : Int) ∧ i ≤ k ∧ Ow wr w.heap.size v6 (words s.data.toList i) ∧ Below w.heap.size w wr) (fun _ v7 _ => n - (Lib.intOf v7).toNat)
  case atStart => exact ⟨0, rfl, by omega, N0.out, Below.refl _ _⟩
  case round =>
    obtain ⟨i, rfl, hi, O, hbl⟩ := hrel
    clear N0
    have i1 : (i : Int) < n := by omega
    have W := Lib.hid (fun W => word s (8 * i) (by omega) (by have := HL.out; omega) W)
    rw [show ((8 * i : Nat) : Int) = 8 * (i : Int) from by omega] at W
    by_cases hlt : i < k
    · have G := HX.out i hlt
      have S := Lib.hid (words_succ s.data.toList i)
      have L := Lib.hid (words_len s.data.toList i)
      generalize wordAt s.data.toList (8 * i) = p at *
      have HG := Lib.hid G
      clear G
      go_wp2_with fail
      refine (W.out _).mono ?_
      rintro e w1 ⟨rfl, rfl⟩
      have g1 : decide ((18446744069414584321 : Int) ≤ p) = false := decide_eq_false (by have := HG.out; omega)
      go_wp2_with (at_builtin; go_loud (refine append1 (wr.alloc (.cells #[.int .u64 p] 35)) ?hgd (.tmp 32) (.tmp 34) ?ho w.heap.size u6 (words s.data.toList i) ?hs (O.alloc _) wr.heap.size p ?hx (cut1 _ _ _) ?c1 ?c2 (fun v6 w1 O1 hg => ?_)); (case hgd => rfl); (case ho => rfl); (case hs => rfl); (case hx => rfl))
      case c1 => rw [L.out]; omega
      case c2 => have := hbl.size; simp; omega
      rw [← S.out] at O1
      have b1 := (O.alloc _).grow (hbl.alloc hbl.size _) hg (by have := hbl.size; simp; omega)
      go_wp2_with fail
      go_roundw
      case rel => exact ⟨i + 1, rfl, by omega, O1, b1⟩
      case measure => simp [Lib.intOf]; omega
    · obtain rfl : k = i := by omega
      have G := HK.out
      generalize wordAt s.data.toList (8 * k) = p at *
      have HG := Lib.hid G
      clear G
      go_wp2_with fail
      refine (W.out _).mono ?_
      rintro e w1 ⟨rfl, rfl⟩
      have g1 : decide ((18446744069414584321 : Int) ≤ p) = true := decide_eq_true (by have := HG.out; omega)
      go_wp2
      exact bodyPost_ret (v := .tuple #[.slice none 0 0, .int .i64 (8 * (k : Int)), .int .i64 3]) (by simp [results, Tryd.results9, go_sem]) rfl ⟨by rw [show ((8 * k : Nat) : Int) = 8 * (k : Int) from by omega], hbl⟩
end Cr
end Go.Proofs.YtggocbblpgaaoaaDoor
