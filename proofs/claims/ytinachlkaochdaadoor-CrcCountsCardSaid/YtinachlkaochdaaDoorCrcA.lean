/- Layer 16: the document's own answer: sums bit by bit. -/
import Derived.Test.YtinachlkaochdaaDoorCrcB
import Derived.Test.YtinachlkaochdaaDoorCodR
set_option linter.unusedVariables false
namespace Go.Proofs.YtinachlkaochdaaDoor
open Go.RowKit Go.Lib
namespace Cx
open Ww Cr
theorem fold_drop (bs : List UInt8) (i v : Nat) (h : i < bs.length) : fold v (bs.drop i) = fold (byte v (bs.getD i 0).toNat) (bs.drop (i + 1)) := by
  rw [List.drop_eq_getElem_cons h]
  simp [fold, List.getD, h]
theorem byte_step (v c : Nat) (hv : v < 4294967296) : step (v ^^^ c % 2) = (if (v ^^^ c) % 2 = 1 then v / 2 ^^^ gen else v / 2) := by
  rw [step_doc]
  split <;> simp
set_option maxHeartbeats 1000000 in
set_option maxRecDepth 100000 in
theorem rof (s : ByteArray) (hs : s.size ≤ 9223372036854775807) (w : World) :
    Calls Tryd.prog 9 #[.string s] w fun e w' => e = .returned (.int .u32 (sum s.data.toList : Nat)) ∧ w = w' := by
  have HS := Lib.hid hs
  go_enter Tryd.func9, Tryd.ntmps9
  go_wp2_with fail
  go_loop [3, 4] (fun v3 v4 => ∃ i v : Nat, v4 = .int .i64 (i : Int) ∧ i ≤ s.size ∧ v3 = .int .u32 (v : Nat) ∧ v < 4294967296 ∧ fold v (s.data.toList.drop i) = fold all1 s.data.toList) (fun _ v4 => s.size - (Lib.intOf v4).toNat)
  case atStart => exact ⟨0, 4294967295, rfl, by omega, rfl, by omega, rfl⟩
  case round =>
    obtain ⟨i, v, rfl, hi, rfl, hv, hf⟩ := hrel
    have hz : s.data.toList.length = s.size := Array.length_toList
    by_cases hlt : i < s.size
    · have i1 : (i : Int) < s.size := by omega
      rw [fold_drop _ i v (by omega)] at hf
      have e2 : s[i] = s.data.toList.getD i 0 := str_at s i hlt
      have hc : (s.data.toList.getD i 0).toNat < 256 := UInt8.toNat_lt _
      have hb := byte_run v (s.data.toList.getD i 0).toNat hc
      have hl2 : byte v (s.data.toList.getD i 0).toNat < 4294967296 := byte_lt (by omega) hc
      obtain ⟨V, hV⟩ : ∃ V, V = byte v (s.data.toList.getD i 0).toNat := ⟨_, rfl⟩
      rw [← hV] at hf hb hl2
      rw [← e2] at hb hc
      replace hf := Lib.hid hf
      replace hb := Lib.hid hb
      clear hV e2
      go_wp2_with fail
      go_loop [3, 5, 6] (fun v3 v5 v6 => ∃ k v c : Nat, v6 = .int .i64 (k : Int) ∧ k ≤ 8 ∧ v3 = .int .u32 (v : Nat) ∧ v < 4294967296 ∧ v5 = .int .u8 (c : Nat) ∧ c < 256 ∧ run (8 - k) v c = V) (fun _ _ v6 => 8 - (Lib.intOf v6).toNat)
      case atStart => exact ⟨0, v, s[i].toNat, rfl, by omega, rfl, hv, rfl, hc, hb.out⟩
      case round =>
        obtain ⟨k, x, c, rfl, hk, rfl, hx, rfl, hcc, hr⟩ := hrel
        by_cases hk8 : k < 8
        · have j1 : (k : Int) < 8 := by omega
          obtain ⟨m, hm⟩ : ∃ m, 8 - k = m + 1 := ⟨7 - k, by omega⟩
          rw [hm, show run (m + 1) x c = run m (step (x ^^^ c % 2)) (c / 2) from rfl, byte_step x c hx] at hr
          have hxc := xor_u32 x c hx (by omega)
          have hxg := xor_gen (x / 2) (by omega)
          have hlt2 : x / 2 ^^^ gen < 4294967296 := Nat.xor_lt_two_pow (n := 32) (by omega) (by decide)
          have q1 : (c : Int) / 2 = ((c / 2 : Nat) : Int) := by omega
          have q2 : (x : Int) / 2 = ((x / 2 : Nat) : Int) := by omega
          have hc2 : c / 2 < 256 := by omega
          have hx2 : x / 2 < 4294967296 := by omega
          have hm2 : 8 - (k + 1) = m := by omega
          obtain ⟨y, hy⟩ : ∃ y, y = x ^^^ c := ⟨_, rfl⟩
          rw [← hy] at hxc hr
          by_cases ho : y % 2 = 1
          · have o1 : (y : Int) % 2 = 1 := by omega
            rw [if_pos ho] at hr
            replace hr := Lib.hid hr
            clear hm hy hf hb
            generalize c / 2 = c' at *
            generalize x / 2 = x' at *
            go_wp2_with fail
            go_round
            case rel => exact ⟨k + 1, x' ^^^ gen, c', rfl, by omega, rfl, hlt2, rfl, hc2, by rw [hm2]; exact hr.out⟩
            case measure => simp [Lib.intOf]; omega
          · have o1 : ¬ (y : Int) % 2 = 1 := by omega
            rw [if_neg ho] at hr
            replace hr := Lib.hid hr
            clear hm hy hf hb hxg hlt2
            generalize c / 2 = c' at *
            generalize x / 2 = x' at *
            go_wp2_with fail
            go_round
            case rel => exact ⟨k + 1, x', c', rfl, by omega, rfl, hx2, rfl, hc2, by rw [hm2]; exact hr.out⟩
            case measure => simp [Lib.intOf]; omega
        · have j1 : ¬ (k : Int) < 8 := by omega
          obtain rfl : k = 8 := by omega
          obtain rfl : x = V := hr
          go_wp2_with fail
          go_round
          case rel => exact ⟨i + 1, x, rfl, by omega, rfl, hl2, hf.out⟩
          case measure => simp [Lib.intOf]; omega
    · have i1 : ¬ (i : Int) < s.size := by omega
      obtain rfl : i = s.size := by omega
      rw [List.drop_eq_nil_of_le (by omega)] at hf
      have hx := xor_all v hv
      have E := Lib.hid (show (sum s.data.toList) = v ^^^ all1 from by unfold sum; rw [← hf]; rfl)
      clear hf
      go_wp2
      go_ret
      refine ⟨?_, rfl⟩
      rw [E.out]
      simp
set_option maxRecDepth 100000 in
theorem rofWords (A : Option Addr) (c : Nat) (xs : List Nat) (hn : xs.length ≤ 1048576) (w : World) (R : Ws w w.heap.size A xs) :
    Calls Tryd.prog 11 #[.slice A xs.length c] w fun e w' => e = .returned (.int .u32 (sum (Cd.form xs) : Nat)) ∧ Below w.heap.size w w' := by
  have P := Lib.hid (put A c xs hn w R)
  have e1 : (sb (Cd.form xs)).data.toList = Cd.form xs := sb_list _
  have Q := fun W => rof (sb (Cd.form xs)) (by rw [sb_size, Cd.form_len]; omega) W
  rw [e1] at Q
  replace Q := Lib.hid Q
  clear e1 R
  go_enter Tryd.func11, Tryd.ntmps11
  go_wp2_with (first
    | (go_at_call 17; refine P.out.mono ?_; rintro e w1 ⟨rfl, b1⟩; replace b1 := Lib.hid b1)
    | (go_at_call 9; refine (Q.out _).mono ?_; rintro e w2 ⟨rfl, rfl⟩))
  exact bodyPost_ret (v := .int .u32 (sum (Cd.form xs) : Nat)) (by simp [results, Tryd.results11, go_sem]) rfl ⟨rfl, b1.out⟩
end Cx
end Go.Proofs.YtinachlkaochdaaDoor
