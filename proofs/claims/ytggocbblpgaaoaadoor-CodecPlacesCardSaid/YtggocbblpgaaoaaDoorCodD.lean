/- Contract of package codec's Read. -/
import Derived.Test.YtggocbblpgaaoaaDoorCodT
import Derived.Lib.Bytes
set_option linter.unusedVariables false
namespace Go.Proofs.YtggocbblpgaaoaaDoor
open Go.RowKit
namespace Cc
open Ww Cd Cr Nm

set_option maxHeartbeats 400000 in
theorem read_empty (w : World) :
    Calls Tryd.prog 17 #[.string ⟨#[]⟩] w fun e w' => e = .returned (.tuple #[.slice none 0 0, .int .i64 0, .int .i64 0]) ∧ w = w' := by
  go_enter Tryd.func17, Tryd.ntmps17
  go_wp2
  exact bodyPost_ret (v := .tuple #[.slice none 0 0, .int .i64 0, .int .i64 0]) (by simp [results, Tryd.results17, go_sem]) rfl ⟨rfl, rfl⟩

/-- What is read from k on, behind acc, is what is read. -/
def To (L : List UInt8) (k : Nat) (acc : List Nat) : Prop := ∀ l a e, Rd L k acc l a e → Rd L 0 [] l a e
/-- What reading answers. -/
def ReadOut (L : List UInt8) (w : World) (e : Ending) (w' : World) : Prop :=
  ∃ v l a m, e = .returned (.tuple #[v, .int .i64 (a : Nat), .int .i64 (m : Nat)]) ∧ Rd L 0 [] l a m ∧ Ow w' w.heap.size v l ∧ Below w.heap.size w w'
theorem nume_pair (g : List UInt8) {x m : Nat} (h : nume g = (x, m)) : m ≠ 0 → x = 0 := by
  intro hm
  rcases nume_cases g with c | c | c | ⟨_, _, c⟩
  all_goals (rw [c] at h; cases h)
  · rfl
  · rfl
  · rfl
  · exact absurd rfl hm
theorem nume_lt (g : List UInt8) {x m : Nat} (h : nume g = (x, m)) : x < 18446744069414584321 ∧ m ≤ 17 := by
  rcases nume_cases g with c | c | c | ⟨_, c2, c⟩
  all_goals (rw [c] at h; cases h)
  · exact ⟨by decide, by decide⟩
  · exact ⟨by decide, by decide⟩
  · exact ⟨by decide, by decide⟩
  · exact ⟨c2, by decide⟩
theorem End.len {L : List UInt8} {k j x : Nat} (E : End L k j) (h : nume (sg L k) = (x, 0)) : k + (sg L k).length = j := by
  have hf : j = L.length ∨ L.getD j 0 = 32 := by
    by_cases hl : j = L.length
    · exact Or.inl hl
    · by_cases h2 : L.getD j 0 = 32
      · exact Or.inr h2
      · have := nume_line (E.sg_not (by have := E.jl; omega) h2)
        rw [this] at h
        cases h
  rw [E.sg_ended hf, cut_len L k j E.kj E.jl]
  have := E.kj
  omega

set_option maxHeartbeats 1000000 in
set_option maxRecDepth 100000 in
theorem read (s : ByteArray) (hs : s.size ≤ 1048576) (h0 : 0 < s.size) (w : World) :
    Calls Tryd.prog 17 #[.string s] w (ReadOut s.data.toList w) := by
  have e0 : s.toList.isEmpty = false := by
    rw [Lib.toList_data]
    have hl := str_len s
    cases hc : s.data.toList with
    | nil => rw [hc] at hl; simp at hl; omega
    | cons _ _ => rfl
  have N0 := Lib.hid (Ow.nil_ w w.heap.size)
  go_enter Tryd.func17, Tryd.ntmps17
  go_wp2_with fail
  clear e0
  go_loopw [2, 3] (fun v2 v3 wr => ∃ (k : Nat) (acc : List Nat), v3 = .int .i64 (k : Int) ∧ k ≤ s.size ∧ acc.length ≤ k ∧ To s.data.toList k acc ∧ Ow wr w.heap.size v2 acc ∧ Below w.heap.size w wr) (fun _ v3 _ => s.size + 1 - (Lib.intOf v3).toNat)
  case atStart => exact ⟨0, [], rfl, by omega, by simp, fun _ _ _ h => h, N0.out, Below.refl _ _⟩
  case round =>
    obtain ⟨k, acc, rfl, hk, hacc, T, O, hbl⟩ := hrel
    obtain ⟨j, E⟩ := end_ex s.data.toList _ k rfl (by rw [str_len]; exact hk)
    have D := Lib.hid (fun W => digits_end s k j hs E W)
    have R := Lib.hid (fun W => read_word s k j hs E W)
    have jl := E.jl
    have kj := E.kj
    rw [str_len] at jl
    obtain ⟨x, m, hxm⟩ : ∃ x m, nume (sg s.data.toList k) = (x, m) := ⟨_, _, rfl⟩
    rw [hxm] at R
    simp only at R
    have hnl := nume_lt _ hxm
    by_cases hm : m = 0
    · subst hm
      have hlen := E.len hxm
      by_cases hj : j = s.size
      · have R1 := Lib.hid (T _ _ _ (Rd.last hxm (by rw [hlen, str_len]; exact hj)))
        have t1 : ((j : Int) == (s.size : Int)) = true := by simp; omega
        clear hxm hlen hj N0 E T hnl
        go_wp2_with fail
        refine (D.out _).mono ?_
        rintro e w1 ⟨rfl, rfl⟩
        go_wp2_with fail
        refine (R.out _).mono ?_
        rintro e w1 ⟨rfl, b1⟩
        have O1 := O.below b1
        have hb1 := hbl.trans (b1.mono hbl.size)
        clear O b1 hbl R D
        go_wp2_with (at_builtin; go_loud (refine append1 (w1.alloc (.cells #[.int .u64 x] 35)) ?hgd (.tmp 24) (.tmp 26) ?ho w.heap.size u2 acc ?hs (O1.alloc _) w1.heap.size x ?hx (cut1 _ _ _) ?c1 ?c2 (fun v6 w2 O2 hg => ?_)); (case hgd => rfl); (case ho => rfl); (case hs => rfl); (case hx => rfl))
        case c1 => omega
        case c2 => have := hb1.size; simp; omega
        have b2 := (O1.alloc _).grow (hb1.alloc hb1.size _) hg (by have := hb1.size; simp; omega)
        go_wp2
        exact bodyPost_ret (v := .tuple #[v6, .int .i64 0, .int .i64 0]) (by simp [results, Tryd.results17, go_sem]) rfl ⟨v6, _, 0, 0, rfl, R1.out, O2, b2⟩
      · have hlt : j < s.size := by omega
        have T1 := Lib.hid (show To s.data.toList (j + 1) (acc ++ [x]) from fun l a e h => T l a e (Rd.next hxm (by rw [hlen, str_len]; exact hlt) (by rw [hlen]; exact h)))
        have t1 : ((j : Int) == (s.size : Int)) = false := by simp; omega
        clear hxm hlen hj N0 E T hnl
        go_wp2_with fail
        refine (D.out _).mono ?_
        rintro e w1 ⟨rfl, rfl⟩
        go_wp2_with fail
        refine (R.out _).mono ?_
        rintro e w1 ⟨rfl, b1⟩
        have O1 := O.below b1
        have hb1 := hbl.trans (b1.mono hbl.size)
        clear O b1 hbl R D
        go_wp2_with (at_builtin; go_loud (refine append1 (w1.alloc (.cells #[.int .u64 x] 35)) ?hgd (.tmp 24) (.tmp 26) ?ho w.heap.size u2 acc ?hs (O1.alloc _) w1.heap.size x ?hx (cut1 _ _ _) ?c1 ?c2 (fun v6 w2 O2 hg => ?_)); (case hgd => rfl); (case ho => rfl); (case hs => rfl); (case hx => rfl))
        case c1 => omega
        case c2 => have := hb1.size; simp; omega
        have b2 := (O1.alloc _).grow (hb1.alloc hb1.size _) hg (by have := hb1.size; simp; omega)
        go_wp2_with fail
        go_roundw
        case rel => exact ⟨j + 1, acc ++ [x], rfl, by omega, by simp; omega, T1.out, O2, b2⟩
        case measure => simp [Lib.intOf]; omega
    · have hx0 := nume_pair _ hxm hm
      subst hx0
      have R1 := Lib.hid (T _ _ _ (Rd.bad (acc := acc) hxm hm))
      have t1 : ((m : Int) != 0) = true := by simp; omega
      clear hxm hm E T hnl
      go_wp2_with fail
      refine (D.out _).mono ?_
      rintro e w1 ⟨rfl, rfl⟩
      go_wp2_with fail
      refine (R.out _).mono ?_
      rintro e w1 ⟨rfl, b1⟩
      have hb1 := hbl.trans (b1.mono hbl.size)
      go_wp2
      exact bodyPost_ret (v := .tuple #[.slice none 0 0, .int .i64 k, .int .i64 m]) (by simp [results, Tryd.results17, go_sem]) rfl ⟨_, [], k, m, rfl, R1.out, Ow.nil_ _ _, hb1⟩
end Cc
end Go.Proofs.YtggocbblpgaaoaaDoor
