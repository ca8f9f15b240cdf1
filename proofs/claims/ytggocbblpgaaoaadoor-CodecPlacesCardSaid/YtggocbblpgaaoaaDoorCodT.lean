/- Contracts of package codec's functions of texts that are read. -/
import Derived.Test.YtggocbblpgaaoaaDoorCodN
import Derived.Lib.Walk
set_option linter.unusedVariables false
namespace Go.Proofs.YtggocbblpgaaoaaDoor
open Go.RowKit
namespace Cc
open Ww Cd Cr Nm

/-- The digits from k on end at j. -/
structure End (L : List UInt8) (k j : Nat) : Prop where
  kj : k ≤ j
  jl : j ≤ L.length
  d : ∀ i, k ≤ i → i < j → Dig (L.getD i 0)
  e : j = L.length ∨ ¬ Dig (L.getD j 0)
theorem end_ex (L : List UInt8) : ∀ n k, L.length - k = n → k ≤ L.length → ∃ j, End L k j
  | 0, k, h, hk => ⟨k, Nat.le_refl _, hk, fun i h1 h2 => by omega, Or.inl (by omega)⟩
  | n + 1, k, h, hk => by
    by_cases hd : Dig (L.getD k 0)
    · obtain ⟨j, E⟩ := end_ex L n (k + 1) (by omega) (by omega)
      have := E.kj
      refine ⟨j, by omega, E.jl, fun i h1 h2 => ?_, E.e⟩
      by_cases e : i = k
      · rw [e]; exact hd
      · exact E.d i (by omega) h2
    · exact ⟨k, Nat.le_refl _, hk, fun i h1 h2 => by omega, Or.inr hd⟩
theorem mem_cut {L : List UInt8} {k j : Nat} {d : UInt8} (hj : j ≤ L.length) (h : d ∈ (L.drop k).take (j - k)) : ∃ i, k ≤ i ∧ i < j ∧ d = L.getD i 0 := by
  obtain ⟨i, hi, rfl⟩ := List.getElem_of_mem h
  have hi2 : i < j - k := by simp at hi; omega
  refine ⟨k + i, by omega, by omega, ?_⟩
  simp [List.getD, show k + i < L.length by omega]
theorem End.cut_dig {L : List UInt8} {k j : Nat} (E : End L k j) : ∀ d, d ∈ (L.drop k).take (j - k) → Dig d := by
  intro d hd
  obtain ⟨i, h1, h2, rfl⟩ := mem_cut E.jl hd
  exact E.d i h1 h2
theorem dig_no_blank {d : UInt8} (h : Dig d) : d ≠ 32 := by
  intro e
  subst e
  unfold Dig at h
  simp at h
theorem drop_cut (L : List UInt8) (k j : Nat) (h : k ≤ j) : L.drop k = (L.drop k).take (j - k) ++ L.drop j := by
  have := (List.take_append_drop (j - k) (L.drop k)).symm
  rwa [List.drop_drop, show k + (j - k) = j from by omega] at this
theorem End.sg_ended {L : List UInt8} {k j : Nat} (E : End L k j) (h : j = L.length ∨ L.getD j 0 = 32) : sg L k = (L.drop k).take (j - k) := by
  refine sg_of L k _ _ (drop_cut L k j E.kj) (fun d hd => dig_no_blank (E.cut_dig d hd)) ?_
  rcases h with h | h
  · exact Or.inl (List.drop_eq_nil_of_le (by omega))
  · by_cases hl : j < L.length
    · refine Or.inr ⟨L.drop (j + 1), ?_⟩
      rw [List.drop_eq_getElem_cons hl]
      congr 1
      simpa [List.getD, hl] using h
    · exact Or.inl (List.drop_eq_nil_of_le (by omega))
theorem End.sg_not {L : List UInt8} {k j : Nat} (E : End L k j) (hl : j < L.length) (h : L.getD j 0 ≠ 32) : NoNum (sg L k) := by
  have hnd : ¬ Dig (L.getD j 0) := by
    rcases E.e with e | e
    · omega
    · exact e
  refine Or.inr (Or.inr fun hall => hnd (hall _ ?_))
  unfold sg
  rw [drop_cut L k j E.kj, List.takeWhile_append_of_pos (fun d hd => by simpa using dig_no_blank (E.cut_dig d hd)), List.drop_eq_getElem_cons hl]
  have e1 : L.getD j 0 = L[j] := by simp [List.getD, hl]
  rw [e1] at h ⊢
  rw [List.takeWhile_cons_of_pos (by simpa using h)]
  simp
theorem cut_len (L : List UInt8) (k j : Nat) (hk : k ≤ j) (hj : j ≤ L.length) : ((L.drop k).take (j - k)).length = j - k := by simp; omega
theorem cut_head (L : List UInt8) (k j : Nat) (hk : k < j) (hj : j ≤ L.length) : ((L.drop k).take (j - k)).getD 0 0 = L.getD k 0 := by
  simp [List.getD, show 0 < j - k by omega]

set_option maxHeartbeats 400000 in
set_option maxRecDepth 100000 in
theorem digits_end (s : ByteArray) (k j : Nat) (hs : s.size ≤ 1048576) (E : End s.data.toList k j) (w : World) :
    Calls Tryd.prog 25 #[.string s, .int .i64 (k : Int)] w fun e w' => e = .returned (.int .i64 (j : Int)) ∧ w = w' := by
  have jl := E.jl
  rw [str_len] at jl
  go_enter Tryd.func25, Tryd.ntmps25
  go_wp2_with fail
  go_loop [1] (fun v1 => ∃ i : Nat, v1 = .int .i64 (i : Int) ∧ k ≤ i ∧ i ≤ j) (fun v1 => j - (Lib.intOf v1).toNat)
  case atStart => exact ⟨k, rfl, Nat.le_refl _, E.kj⟩
  case round =>
    obtain ⟨i, rfl, hi1, hi2⟩ := hrel
    by_cases hlt : i < j
    · have i1 : (i : Int) < s.size := by omega
      have i2 : i < s.size := by omega
      have D := E.d i hi1 hlt
      rw [← str_at s i i2] at D
      unfold Dig at D
      obtain ⟨D1, D2⟩ := D
      have d1 : (48 : Int) ≤ s[i].toNat := by omega
      have d2 : (s[i].toNat : Int) ≤ 57 := by omega
      go_wp2_with fail
      go_round
      case rel => exact ⟨i + 1, rfl, by omega, by omega⟩
      case measure => simp [Lib.intOf]; omega
    · obtain rfl : j = i := by omega
      by_cases hl : j < s.size
      · have i1 : (j : Int) < s.size := by omega
        have D : ¬ Dig s[j] := by
          rcases E.e with e | e
          · rw [str_len] at e; omega
          · rw [← str_at s j hl] at e; exact e
        unfold Dig at D
        by_cases d1 : (48 : Int) ≤ s[j].toNat
        · have d2 : ¬ (s[j].toNat : Int) ≤ 57 := by omega
          go_wp2
          go_ret
          exact ⟨rfl, rfl⟩
        · go_wp2
          go_ret
          exact ⟨rfl, rfl⟩
      · have i1 : ¬ (j : Int) < s.size := by omega
        go_wp2
        go_ret
        exact ⟨rfl, rfl⟩

set_option maxHeartbeats 400000 in
theorem word_not (s : ByteArray) (k j : Nat) (hs : s.size ≤ 1048576) (hk : k ≤ j) (hl : j < s.size) (h : s[j] ≠ 32) (w : World) :
    Calls Tryd.prog 26 #[.string s, .int .i64 (k : Int), .int .i64 (j : Int)] w fun e w' => e = .returned (.tuple #[.int .u64 0, .int .i64 17]) ∧ w = w' := by
  have t1 : ((j : Int) == (s.size : Int)) = false := by simp; omega
  have t2 : ((s[j].toNat : Int) == 32) = false := by
    simp
    intro e
    exact h (UInt8.toNat_inj.1 (by simpa using (show s[j].toNat = 32 by omega)))
  by_cases hkj : k = j
  · have t3 : ((k : Int) == (j : Int)) = true := by simp; omega
    clear h hkj
    go_enter Tryd.func26, Tryd.ntmps26
    go_wp2
    go_ret2
    exact ⟨rfl, rfl⟩
  · have t3 : ((k : Int) == (j : Int)) = false := by simp; omega
    clear h hkj
    go_enter Tryd.func26, Tryd.ntmps26
    go_wp2
    go_ret2
    exact ⟨rfl, rfl⟩
/-- The digits end with a blank, or the text. -/
def Fin (s : ByteArray) (j : Nat) : Prop := j = s.size ∨ ∃ h : j < s.size, s[j] = 32
set_option maxHeartbeats 400000 in
theorem word_none (s : ByteArray) (j : Nat) (hs : s.size ≤ 1048576) (hj : j ≤ s.size) (F : Fin s j) (w : World) :
    Calls Tryd.prog 26 #[.string s, .int .i64 (j : Int), .int .i64 (j : Int)] w fun e w' => e = .returned (.tuple #[.int .u64 0, .int .i64 17]) ∧ w = w' := by
  rcases F with h | ⟨h, h2⟩
  · have t1 : ((j : Int) == (s.size : Int)) = true := by simp; omega
    clear h
    go_enter Tryd.func26, Tryd.ntmps26
    go_wp2
    go_ret2
    exact ⟨rfl, rfl⟩
  · have t1 : ((j : Int) == (s.size : Int)) = false := by simp; omega
    have t2 : ((s[j].toNat : Int) == 32) = true := by simp [h2]
    clear h2
    go_enter Tryd.func26, Tryd.ntmps26
    go_wp2
    go_ret2
    exact ⟨rfl, rfl⟩
set_option maxHeartbeats 400000 in
theorem word_zero (s : ByteArray) (k j : Nat) (hs : s.size ≤ 1048576) (hk : k + 1 < j) (hj : j ≤ s.size) (hz : s[k]'(by omega) = 48) (F : Fin s j) (w : World) :
    Calls Tryd.prog 26 #[.string s, .int .i64 (k : Int), .int .i64 (j : Int)] w fun e w' => e = .returned (.tuple #[.int .u64 0, .int .i64 17]) ∧ w = w' := by
  have hk1 : k < s.size := by omega
  have t3 : ((k : Int) == (j : Int)) = false := by simp; omega
  have t4 : ((s[k].toNat : Int) == 48) = true := by simp [hz]
  have t5 : (k : Int) + 1 < j := by omega
  clear hz
  rcases F with h | ⟨h, h2⟩
  · have t1 : ((j : Int) == (s.size : Int)) = true := by simp; omega
    clear h
    go_enter Tryd.func26, Tryd.ntmps26
    go_wp2
    go_ret2
    exact ⟨rfl, rfl⟩
  · have t1 : ((j : Int) == (s.size : Int)) = false := by simp; omega
    have t2 : ((s[j].toNat : Int) == 32) = true := by simp [h2]
    clear h2
    go_enter Tryd.func26, Tryd.ntmps26
    go_wp2
    go_ret2
    exact ⟨rfl, rfl⟩
/-- No 0 stands in front of others. -/
def Led (s : ByteArray) (k j : Nat) : Prop := ∃ h : k < s.size, ((s[k].toNat : Int) == 48) = false ∨ (((s[k].toNat : Int) == 48) = true ∧ ¬ (k : Int) + 1 < j)
set_option maxHeartbeats 1000000 in
theorem word_long (s : ByteArray) (k j : Nat) (hs : s.size ≤ 1048576) (hk : k + 20 < j) (hj : j ≤ s.size) (hz : Led s k j) (F : Fin s j) (w : World) :
    Calls Tryd.prog 26 #[.string s, .int .i64 (k : Int), .int .i64 (j : Int)] w fun e w' => e = .returned (.tuple #[.int .u64 0, .int .i64 14]) ∧ w = w' := by
  obtain ⟨hk1, hz⟩ := hz
  have t3 : ((k : Int) == (j : Int)) = false := by simp; omega
  have t5 : (k : Int) + 20 < j := by omega
  rcases hz with t4 | ⟨t4, t6⟩
  all_goals
    rcases F with h | ⟨h, h2⟩
    · have t1 : ((j : Int) == (s.size : Int)) = true := by simp; omega
      clear h
      go_enter Tryd.func26, Tryd.ntmps26
      go_wp2
      go_ret2
      exact ⟨rfl, rfl⟩
    · have t1 : ((j : Int) == (s.size : Int)) = false := by simp; omega
      have t2 : ((s[j].toNat : Int) == 32) = true := by simp [h2]
      clear h2
      go_enter Tryd.func26, Tryd.ntmps26
      go_wp2
      go_ret2
      exact ⟨rfl, rfl⟩
/-- What becomes of a number. -/
def NumOut (p q x e : Nat) : Prop := (p ≠ 0 ∧ x = 0 ∧ e = 3) ∨ (p = 0 ∧ 18446744069414584321 ≤ q ∧ x = 0 ∧ e = 3) ∨ (p = 0 ∧ q < 18446744069414584321 ∧ x = q ∧ e = 0)
set_option maxHeartbeats 1000000 in
theorem word_num (s : ByteArray) (k j p q x m : Nat) (hs : s.size ≤ 1048576) (hk : k < j) (hk2 : j ≤ k + 20) (hj : j ≤ s.size) (hz : Led s k j) (F : Fin s j)
    (N : ∀ W, Calls Tryd.prog 30 #[.string (s.extract k j)] W fun e w' => e = .returned (.agg #[.int .u64 p, .int .u64 q]) ∧ Below W.heap.size W w') (hm : NumOut p q x m) (w : World) :
    Calls Tryd.prog 26 #[.string s, .int .i64 (k : Int), .int .i64 (j : Int)] w fun e w' => e = .returned (.tuple #[.int .u64 x, .int .i64 m]) ∧ Below w.heap.size w w' := by
  obtain ⟨hk1, hz⟩ := hz
  have HN := Lib.hid N
  have t3 : ((k : Int) == (j : Int)) = false := by simp; omega
  have t5 : ¬ (k : Int) + 20 < j := by omega
  have t7 : (k : Int) ≤ j := by omega
  have t8 : (j : Int) ≤ s.size := by omega
  clear N
  rcases hm with ⟨u1, rfl, rfl⟩ | ⟨rfl, u1, rfl, rfl⟩ | ⟨rfl, u1, rfl, rfl⟩
  · have u2 : ((p : Int) != 0) = true := by simp; omega
    rcases hz with t4 | ⟨t4, t6⟩
    all_goals
      rcases F with h | ⟨h, h2⟩
      · have t1 : ((j : Int) == (s.size : Int)) = true := by simp; omega
        clear h u1
        go_enter Tryd.func26, Tryd.ntmps26
        go_wp2_with fail
        refine (HN.out _).mono ?_
        rintro e w1 ⟨rfl, b1⟩
        go_wp2
        go_ret2
        exact ⟨rfl, b1.alloc b1.size _⟩
      · have t1 : ((j : Int) == (s.size : Int)) = false := by simp; omega
        have t2 : ((s[j].toNat : Int) == 32) = true := by simp [h2]
        clear h2 u1
        go_enter Tryd.func26, Tryd.ntmps26
        go_wp2_with fail
        refine (HN.out _).mono ?_
        rintro e w1 ⟨rfl, b1⟩
        go_wp2
        go_ret2
        exact ⟨rfl, b1.alloc b1.size _⟩
  · have G := Lib.hid (fun W => good_no q u1 W)
    rcases hz with t4 | ⟨t4, t6⟩
    all_goals
      rcases F with h | ⟨h, h2⟩
      · have t1 : ((j : Int) == (s.size : Int)) = true := by simp; omega
        clear h u1
        go_enter Tryd.func26, Tryd.ntmps26
        go_wp2_with fail
        refine (HN.out _).mono ?_
        rintro e w1 ⟨rfl, b1⟩
        go_wp2_with fail
        refine (G.out _).mono ?_
        rintro e w2 ⟨rfl, rfl⟩
        go_wp2
        go_ret2
        exact ⟨rfl, b1.alloc b1.size _⟩
      · have t1 : ((j : Int) == (s.size : Int)) = false := by simp; omega
        have t2 : ((s[j].toNat : Int) == 32) = true := by simp [h2]
        clear h2 u1
        go_enter Tryd.func26, Tryd.ntmps26
        go_wp2_with fail
        refine (HN.out _).mono ?_
        rintro e w1 ⟨rfl, b1⟩
        go_wp2_with fail
        refine (G.out _).mono ?_
        rintro e w2 ⟨rfl, rfl⟩
        go_wp2
        go_ret2
        exact ⟨rfl, b1.alloc b1.size _⟩
  · have G := Lib.hid (fun W => good_yes x u1 W)
    rcases hz with t4 | ⟨t4, t6⟩
    all_goals
      rcases F with h | ⟨h, h2⟩
      · have t1 : ((j : Int) == (s.size : Int)) = true := by simp; omega
        clear h u1
        go_enter Tryd.func26, Tryd.ntmps26
        go_wp2_with fail
        refine (HN.out _).mono ?_
        rintro e w1 ⟨rfl, b1⟩
        go_wp2_with fail
        refine (G.out _).mono ?_
        rintro e w2 ⟨rfl, rfl⟩
        go_wp2
        go_ret2
        exact ⟨rfl, b1.alloc b1.size _⟩
      · have t1 : ((j : Int) == (s.size : Int)) = false := by simp; omega
        have t2 : ((s[j].toNat : Int) == 32) = true := by simp [h2]
        clear h2 u1
        go_enter Tryd.func26, Tryd.ntmps26
        go_wp2_with fail
        refine (HN.out _).mono ?_
        rintro e w1 ⟨rfl, b1⟩
        go_wp2_with fail
        refine (G.out _).mono ?_
        rintro e w2 ⟨rfl, rfl⟩
        go_wp2
        go_ret2
        exact ⟨rfl, b1.alloc b1.size _⟩
theorem ex_list (s : ByteArray) (k j : Nat) : (s.extract k j).data.toList = (s.data.toList.drop k).take (j - k) := by
  simp [List.extract_eq_take_drop]
theorem ex_size (s : ByteArray) (k j : Nat) (hk : k ≤ j) (hj : j ≤ s.size) : (s.extract k j).size = j - k := by
  rw [← str_len, ex_list, cut_len _ _ _ hk (by rw [str_len]; exact hj)]
theorem num_out {V x e : Nat} (hV : V < 340282366920938463463374607431768211456) (h : (18446744069414584321 ≤ V ∧ x = 0 ∧ e = 3) ∨ (V < 18446744069414584321 ∧ x = V ∧ e = 0)) : NumOut (hi V) (lo V) x e := by
  unfold NumOut hi lo
  omega
/-- readWord of the digits from k to where they end: what the numeral there makes. -/
theorem read_word (s : ByteArray) (k j : Nat) (hs : s.size ≤ 1048576) (E : End s.data.toList k j) (w : World) :
    Calls Tryd.prog 26 #[.string s, .int .i64 (k : Int), .int .i64 (j : Int)] w fun e w' => e = .returned (.tuple #[.int .u64 ((nume (sg s.data.toList k)).1 : Nat), .int .i64 ((nume (sg s.data.toList k)).2 : Nat)]) ∧ Below w.heap.size w w' := by
  have still : ∀ {x m : Nat}, nume (sg s.data.toList k) = (x, m) → Calls Tryd.prog 26 #[.string s, .int .i64 (k : Int), .int .i64 (j : Int)] w (fun e w' => e = .returned (.tuple #[.int .u64 x, .int .i64 m]) ∧ w = w') →
      Calls Tryd.prog 26 #[.string s, .int .i64 (k : Int), .int .i64 (j : Int)] w fun e w' => e = .returned (.tuple #[.int .u64 ((nume (sg s.data.toList k)).1 : Nat), .int .i64 ((nume (sg s.data.toList k)).2 : Nat)]) ∧ Below w.heap.size w w' := by
    intro x m hnm h
    rw [hnm]
    exact h.mono fun e w' ⟨h1, h2⟩ => ⟨h1, h2 ▸ Below.refl _ _⟩
  have kj := E.kj
  have jl := E.jl
  rw [str_len] at jl
  by_cases hF : Fin s j
  · have hend : j = s.data.toList.length ∨ s.data.toList.getD j 0 = 32 := by
      rcases hF with h | ⟨h, h2⟩
      · exact Or.inl (by rw [str_len]; exact h)
      · exact Or.inr (by rw [← str_at s j h]; exact h2)
    have esg := E.sg_ended hend
    have elen := cut_len s.data.toList k j kj (by rw [str_len]; exact jl)
    by_cases hkj : k = j
    · subst hkj
      refine still (nume_line (Or.inl ?_)) (word_none s k hs jl hF w)
      rw [esg]
      exact List.length_eq_zero_iff.1 (by omega)
    have hks : k < s.size := by omega
    have ehd := cut_head s.data.toList k j (by omega) (by rw [str_len]; exact jl)
    rw [← str_at s k hks] at ehd
    by_cases hz : s[k] = 48 ∧ k + 1 < j
    · refine still (nume_line (Or.inr (Or.inl ?_))) (word_zero s k j hs hz.2 jl hz.1 hF w)
      rw [esg, ehd]
      exact ⟨hz.1, by omega⟩
    have hled : Led s k j := by
      refine ⟨hks, ?_⟩
      by_cases h48 : s[k] = 48
      · exact Or.inr ⟨by simp [h48], by have h9 : ¬ k + 1 < j := fun h => hz ⟨h48, h⟩; omega⟩
      · refine Or.inl ?_
        simp
        intro e
        exact h48 (UInt8.toNat_inj.1 (by simpa using (show s[k].toNat = 48 by omega)))
    have hnn : ¬ NoNum (sg s.data.toList k) := by
      rw [esg]
      rintro (e | ⟨e1, e2⟩ | e)
      · have := congrArg List.length e
        rw [elen] at this
        simp at this
        omega
      · rw [ehd] at e1
        exact hz ⟨e1, by omega⟩
      · exact e E.cut_dig
    by_cases h20 : k + 20 < j
    · exact still (nume_large hnn (by rw [esg]; omega)) (word_long s k j hs h20 jl hled hF w)
    have hnum := number (s.extract k j) (by rw [ex_size s k j kj jl]; omega) (by rw [ex_list]; exact E.cut_dig)
    rw [ex_list, ← esg] at hnum
    have hlt := dv_lt (sg s.data.toList k) (by rw [esg]; exact E.cut_dig)
    have hp : (10 : Nat) ^ (sg s.data.toList k).length ≤ 10 ^ 20 := Nat.pow_le_pow_right (by decide) (by rw [esg]; omega)
    have hlg : ¬ 20 < (sg s.data.toList k).length := by rw [esg]; omega
    by_cases h3 : 18446744069414584321 ≤ dv (sg s.data.toList k)
    · rw [nume_word hnn hlg h3]
      exact word_num s k j _ _ 0 3 hs (by omega) (by omega) jl hled hF hnum (num_out (by omega) (Or.inl ⟨h3, rfl, rfl⟩)) w
    · rw [nume_ok hnn hlg h3]
      exact word_num s k j _ _ _ 0 hs (by omega) (by omega) jl hled hF hnum (num_out (by omega) (Or.inr ⟨by omega, rfl, rfl⟩)) w
  · have hl : j < s.size := by
      rcases Nat.lt_or_ge j s.size with h | h
      · exact h
      · exact absurd (Or.inl (by omega)) hF
    have hne : s[j] ≠ 32 := fun e => hF (Or.inr ⟨hl, e⟩)
    exact still (nume_line (E.sg_not (by rw [str_len]; exact hl) (by rw [← str_at s j hl]; exact hne))) (word_not s k j hs kj hl hne w)
end Cc
end Go.Proofs.YtggocbblpgaaoaaDoor
