/- Contracts of the document's own answer for layer 4: texts. -/
import Derived.Test.YtggocbblpgaaoaaDoorCodD
set_option linter.unusedVariables false
namespace Go.Proofs.YtggocbblpgaaoaaDoor
open Go.RowKit
namespace Cr
open Ww Cd Cc Nm

theorem not_empty (s : ByteArray) (h : 0 < s.size) : s.toList.isEmpty = false := by
  rw [Lib.toList_data]
  have hl := str_len s
  cases hc : s.data.toList with
  | nil => rw [hc] at hl; simp at hl; omega
  | cons _ _ => rfl
theorem toNat_eq (d : UInt8) (n : Nat) (hn : n < 256) : ((d.toNat : Int) == n) = true ↔ d = UInt8.ofNat n := by
  simp
  constructor
  · intro h
    apply UInt8.toNat_inj.1
    simp
    omega
  · intro h
    subst h
    simp
    omega
set_option maxHeartbeats 400000 in
theorem num_empty (w : World) :
    Calls Tryd.prog 27 #[.string ⟨#[]⟩] w fun e w' => e = .returned (.tuple #[.int .u64 0, .int .i64 17]) ∧ w = w' := by
  go_enter Tryd.func27, Tryd.ntmps27
  go_wp2
  go_ret2
  exact ⟨rfl, rfl⟩
set_option maxHeartbeats 400000 in
theorem num_zero (s : ByteArray) (hs : s.size ≤ 1048576) (h : 1 < s.size) (hz : s[0] = 48) (w : World) :
    Calls Tryd.prog 27 #[.string s] w fun e w' => e = .returned (.tuple #[.int .u64 0, .int .i64 17]) ∧ w = w' := by
  have e0 := not_empty s (by omega)
  have h0 : 0 < s.size := by omega
  have h1 : (1 : Int) < s.size := by omega
  have t4 : ((s[0].toNat : Int) == 48) = true := by simp [hz]
  clear hz
  go_enter Tryd.func27, Tryd.ntmps27
  go_wp2
  go_ret2
  exact ⟨rfl, rfl⟩
/-- No 0 stands in front of others. -/
def Led0 (s : ByteArray) : Prop := ∃ h : 0 < s.size, ((s[0].toNat : Int) == 48) = false ∨ (((s[0].toNat : Int) == 48) = true ∧ ¬ (1 : Int) < s.size)
set_option maxHeartbeats 1000000 in
theorem num_bad (s : ByteArray) (k : Nat) (hs : s.size ≤ 1048576) (hz : Led0 s) (hk : k < s.size) (hd : ∀ i, i < k → Dig (s.data.toList.getD i 0)) (hb : ¬ Dig (s.data.toList.getD k 0)) (w : World) :
    Calls Tryd.prog 27 #[.string s] w fun e w' => e = .returned (.tuple #[.int .u64 0, .int .i64 17]) ∧ w = w' := by
  obtain ⟨h0, hz⟩ := hz
  have e0 := not_empty s h0
  have HD := Lib.hid hd
  have HB := Lib.hid hb
  clear hd hb
  rcases hz with t4 | ⟨t4, t5⟩
  all_goals
    go_enter Tryd.func27, Tryd.ntmps27
    go_wp2_with fail
    go_loop [4] (fun v4 => ∃ i : Nat, v4 = .int .i64 (i : Int) ∧ i ≤ k) (fun v4 => k - (Lib.intOf v4).toNat)
    case atStart => exact ⟨0, rfl, by omega⟩
    case round =>
      obtain ⟨i, rfl, hi⟩ := hrel
      have i2 : i < s.size := by omega
      have i1 : (i : Int) < s.size := by omega
      by_cases hlt : i < k
      · have D := HD.out i hlt
        rw [← str_at s i i2] at D
        unfold Dig at D
        obtain ⟨D1, D2⟩ := D
        have d1 : ¬ (s[i].toNat : Int) < 48 := by omega
        have d2 : ¬ (57 : Int) < s[i].toNat := by omega
        go_wp2_with fail
        go_round
        case rel => exact ⟨i + 1, rfl, by omega⟩
        case measure => simp [Lib.intOf]; omega
      · obtain rfl : k = i := by omega
        have D := HB.out
        rw [← str_at s k i2] at D
        unfold Dig at D
        by_cases d1 : (s[k].toNat : Int) < 48
        · go_wp2
          go_ret2
          exact ⟨rfl, rfl⟩
        · have d2 : (57 : Int) < s[k].toNat := by omega
          go_wp2
          go_ret2
          exact ⟨rfl, rfl⟩
set_option maxHeartbeats 1000000 in
theorem num_long (s : ByteArray) (hs : s.size ≤ 1048576) (hz : Led0 s) (hd : ∀ i, i < s.size → Dig (s.data.toList.getD i 0)) (hl : 20 < s.size) (w : World) :
    Calls Tryd.prog 27 #[.string s] w fun e w' => e = .returned (.tuple #[.int .u64 0, .int .i64 14]) ∧ w = w' := by
  obtain ⟨h0, hz⟩ := hz
  have e0 := not_empty s h0
  have HD := Lib.hid hd
  have l1 : (20 : Int) < s.size := by omega
  clear hd
  rcases hz with t4 | ⟨t4, t5⟩
  all_goals
    go_enter Tryd.func27, Tryd.ntmps27
    go_wp2_with fail
    go_loop [4] (fun v4 => ∃ i : Nat, v4 = .int .i64 (i : Int) ∧ i ≤ s.size) (fun v4 => s.size - (Lib.intOf v4).toNat)
    case atStart => exact ⟨0, rfl, by omega⟩
    case round =>
      obtain ⟨i, rfl, hi⟩ := hrel
      by_cases i2 : i < s.size
      · have i1 : (i : Int) < s.size := by omega
        have D := HD.out i i2
        rw [← str_at s i i2] at D
        unfold Dig at D
        obtain ⟨D1, D2⟩ := D
        have d1 : ¬ (s[i].toNat : Int) < 48 := by omega
        have d2 : ¬ (57 : Int) < s[i].toNat := by omega
        go_wp2_with fail
        go_round
        case rel => exact ⟨i + 1, rfl, by omega⟩
        case measure => simp [Lib.intOf]; omega
      · have i1 : ¬ (i : Int) < s.size := by omega
        go_wp2
        go_ret2
        exact ⟨rfl, rfl⟩
theorem dv_mono (g : List UInt8) : ∀ n i, i + n = g.length → dv (g.take i) ≤ dv g
  | 0, i, h => by rw [List.take_of_length_le (by omega)]; exact Nat.le_refl _
  | n + 1, i, h => by
    have a := dv_mono g n (i + 1) (by omega)
    rw [dv_take g i (by omega)] at a
    omega
set_option maxHeartbeats 1000000 in
set_option maxRecDepth 100000 in
theorem num_word (s : ByteArray) (hs : s.size ≤ 20) (hz : Led0 s) (hd : ∀ i, i < s.size → Dig (s.data.toList.getD i 0)) (x m : Nat) (hm : (18446744069414584321 ≤ dv s.data.toList ∧ x = 0 ∧ m = 3) ∨ (dv s.data.toList < 18446744069414584321 ∧ x = dv s.data.toList ∧ m = 0)) (w : World) :
    Calls Tryd.prog 27 #[.string s] w fun e w' => e = .returned (.tuple #[.int .u64 x, .int .i64 m]) ∧ w = w' := by
  obtain ⟨h0, hz⟩ := hz
  have e0 := not_empty s h0
  have HD := Lib.hid hd
  have HM := Lib.hid hm
  have l1 : ¬ (20 : Int) < s.size := by omega
  clear hd hm
  rcases hz with t4 | ⟨t4, t5⟩
  all_goals
    go_enter Tryd.func27, Tryd.ntmps27
    go_wp2_with fail
    go_loop [4] (fun v4 => ∃ i : Nat, v4 = .int .i64 (i : Int) ∧ i ≤ s.size) (fun v4 => s.size - (Lib.intOf v4).toNat)
    case atStart => exact ⟨0, rfl, by omega⟩
    case round =>
      obtain ⟨i, rfl, hi⟩ := hrel
      by_cases i2 : i < s.size
      · have i1 : (i : Int) < s.size := by omega
        have D := HD.out i i2
        rw [← str_at s i i2] at D
        unfold Dig at D
        obtain ⟨D1, D2⟩ := D
        have d1 : ¬ (s[i].toNat : Int) < 48 := by omega
        have d2 : ¬ (57 : Int) < s[i].toNat := by omega
        go_wp2_with fail
        go_round
        case rel => exact ⟨i + 1, rfl, by omega⟩
        case measure => simp [Lib.intOf]; omega
      · have i1 : ¬ (i : Int) < s.size := by omega
        go_wp2_with fail
        clear i1 i2
        go_loop [5, 6] (fun v5 v6 => ∃ i : Nat, v6 = .int .i64 (i : Int) ∧ i ≤ s.size ∧ v5 = .int .u64 (dv (s.data.toList.take i) : Nat) ∧ dv (s.data.toList.take i) < 18446744069414584321) (fun _ v6 => s.size - (Lib.intOf v6).toNat)
        case atStart => exact ⟨0, rfl, by omega, rfl, by simp [dv]⟩
        case round =>
          obtain ⟨i, rfl, hi, rfl, hv⟩ := hrel
          by_cases i2 : i < s.size
          · have i1 : (i : Int) < s.size := by omega
            have D := HD.out i i2
            have S := dv_take s.data.toList i (by rw [str_len]; exact i2)
            have Mn := dv_mono s.data.toList (s.size - (i + 1)) (i + 1) (by rw [str_len]; omega)
            rw [← str_at s i i2] at D S
            unfold Dig at D
            have HMn := Lib.hid Mn
            have HS := Lib.hid S
            clear S Mn
            generalize hV : dv (s.data.toList.take i) = V at *
            have HV := Lib.hid hV
            clear hV
            go_wp2_with fail
            · have hb : 18446744069414584321 ≤ dv (s.data.toList.take (i + 1)) := by have := HS.out; omega
              have hc := HMn.out
              rcases HM.out with ⟨_, rfl, rfl⟩ | ⟨h9, _, _⟩
              · go_ret2
                exact ⟨rfl, rfl⟩
              · omega
            · have hb : dv (s.data.toList.take (i + 1)) < 18446744069414584321 := by have := HS.out; omega
              go_round
              case rel => exact ⟨i + 1, rfl, by omega, by rw [HS.out]; congr 1; omega, hb⟩
              case measure => simp [Lib.intOf]; omega
          · have i1 : ¬ (i : Int) < s.size := by omega
            obtain rfl : i = s.size := by omega
            rw [List.take_of_length_le (by rw [str_len]; exact Nat.le_refl _)] at hv ⊢
            rcases HM.out with ⟨h9, _, _⟩ | ⟨_, rfl, rfl⟩
            · omega
            · clear HM hv
              go_wp2
              go_ret2
              exact ⟨rfl, rfl⟩
theorem list_of_size (s : ByteArray) (h : s.size = 0) : s = ⟨#[]⟩ := by
  apply ByteArray.ext
  exact Array.eq_empty_of_size_eq_zero h
/-- The document's numeral: what the digits make. -/
theorem numeral (s : ByteArray) (hs : s.size ≤ 1048576) (w : World) :
    Calls Tryd.prog 27 #[.string s] w fun e w' => e = .returned (.tuple #[.int .u64 ((nume s.data.toList).1 : Nat), .int .i64 ((nume s.data.toList).2 : Nat)]) ∧ w = w' := by
  by_cases h0 : s.size = 0
  · obtain rfl := list_of_size s h0
    rw [nume_line (Or.inl rfl)]
    exact num_empty w
  have hl := str_len s
  by_cases hz : s[0] = 48 ∧ 1 < s.size
  · rw [nume_line (Or.inr (Or.inl ⟨by rw [← str_at s 0 (by omega)]; exact hz.1, by rw [hl]; exact hz.2⟩))]
    exact num_zero s hs hz.2 hz.1 w
  have hled : Led0 s := by
    refine ⟨by omega, ?_⟩
    by_cases h48 : s[0] = 48
    · exact Or.inr ⟨by simp [h48], by have h9 : ¬ 1 < s.size := fun h => hz ⟨h48, h⟩; omega⟩
    · refine Or.inl ?_
      simp
      intro e
      exact h48 (UInt8.toNat_inj.1 (by simpa using (show s[0].toNat = 48 by omega)))
  by_cases hd : ∀ i, i < s.size → Dig (s.data.toList.getD i 0)
  · have hall : ∀ d, d ∈ s.data.toList → Dig d := by
      intro d hd2
      obtain ⟨i, hi, rfl⟩ := List.getElem_of_mem hd2
      have := hd i (by omega)
      simpa only [List.getD, List.getElem?_eq_getElem hi, Option.getD_some] using this
    have hnn : ¬ NoNum s.data.toList := by
      rintro (e | ⟨e1, e2⟩ | e)
      · rw [e] at hl; simp at hl; omega
      · rw [← str_at s 0 (by omega)] at e1
        exact hz ⟨e1, by omega⟩
      · exact e hall
    by_cases h20 : 20 < s.size
    · rw [nume_large hnn (by omega)]
      exact num_long s hs hled hd h20 w
    by_cases h3 : 18446744069414584321 ≤ dv s.data.toList
    · rw [nume_word hnn (by omega) h3]
      exact num_word s (by omega) hled hd 0 3 (Or.inl ⟨h3, rfl, rfl⟩) w
    · rw [nume_ok hnn (by omega) h3]
      exact num_word s (by omega) hled hd _ 0 (Or.inr ⟨by omega, rfl, rfl⟩) w
  · have hex : ∃ k, k < s.size ∧ (∀ i, i < k → Dig (s.data.toList.getD i 0)) ∧ ¬ Dig (s.data.toList.getD k 0) := by
      obtain ⟨j, E⟩ := end_ex s.data.toList _ 0 rfl (Nat.zero_le _)
      have jl := E.jl
      rcases E.e with e | e
      · exact absurd (fun i hi => E.d i (Nat.zero_le _) (by omega)) hd
      · by_cases hj : j = s.size
        · exact absurd (fun i hi => E.d i (Nat.zero_le _) (by omega)) hd
        · exact ⟨j, by omega, fun i hi => E.d i (Nat.zero_le _) hi, e⟩
    obtain ⟨k, hk, h1, h2⟩ := hex
    rw [nume_line (Or.inr (Or.inr fun hall => h2 (hall _ (by
      have : k < s.data.toList.length := by omega
      simp only [List.getD, List.getElem?_eq_getElem this, Option.getD_some]
      exact List.getElem_mem _))))]
    exact num_bad s k hs hled hk h1 h2 w

set_option maxHeartbeats 400000 in
theorem read_empty (w : World) :
    Calls Tryd.prog 18 #[.string ⟨#[]⟩] w fun e w' => e = .returned (.tuple #[.slice none 0 0, .int .i64 0, .int .i64 0]) ∧ w = w' := by
  go_enter Tryd.func18, Tryd.ntmps18
  go_wp2
  exact bodyPost_ret (v := .tuple #[.slice none 0 0, .int .i64 0, .int .i64 0]) (by simp [results, Tryd.results18, go_sem]) rfl ⟨rfl, rfl⟩
/-- What holds ahead of each round: i is at most the length, from k on there is no blank; or all is read. -/
def RRel (L : List UInt8) (k i : Nat) (acc : List Nat) : Prop :=
  (i ≤ L.length ∧ k ≤ i ∧ (∀ t, k ≤ t → t < i → L.getD t 0 ≠ 32) ∧ To L k acc) ∨ (i = L.length + 1 ∧ Rd L 0 [] acc 0 0)
theorem sg_blank {L : List UInt8} {k i : Nat} (hk : k ≤ i) (hi : i ≤ L.length) (hb : ∀ t, k ≤ t → t < i → L.getD t 0 ≠ 32) (h : i = L.length ∨ L.getD i 0 = 32) : sg L k = (L.drop k).take (i - k) := by
  refine sg_of L k _ _ (drop_cut L k i hk) (fun d hd => ?_) ?_
  · obtain ⟨t, h1, h2, rfl⟩ := mem_cut hi hd
    exact hb t h1 h2
  · rcases h with h | h
    · exact Or.inl (List.drop_eq_nil_of_le (by omega))
    · by_cases hl : i < L.length
      · refine Or.inr ⟨L.drop (i + 1), ?_⟩
        rw [List.drop_eq_getElem_cons hl]
        congr 1
        simpa [List.getD, hl] using h
      · exact Or.inl (List.drop_eq_nil_of_le (by omega))

set_option maxHeartbeats 1000000 in
set_option maxRecDepth 100000 in
theorem read (s : ByteArray) (hs : s.size ≤ 1048576) (h0 : 0 < s.size) (w : World) :
    Calls Tryd.prog 18 #[.string s] w (ReadOut s.data.toList w) := by
  have e0 := not_empty s h0
  have N0 := Lib.hid (Ow.nil_ w w.heap.size)
  have hl := Lib.hid (str_len s)
  go_enter Tryd.func18, Tryd.ntmps18
  go_wp2_with fail
  clear e0
  go_loopw [5, 6, 7] (fun v5 v6 v7 wr => ∃ (k i : Nat) (acc : List Nat), v6 = .int .i64 (k : Int) ∧ v7 = .int .i64 (i : Int) ∧ acc.length ≤ i ∧ RRel s.data.toList k i acc ∧ Ow wr w.heap.size v5 acc ∧ Below w.heap.size w wr) (fun _ _ v7 _ => s.size + 1 - (Lib.intOf v7).toNat)
  case atStart => exact ⟨0, 0, [], rfl, rfl, by simp, Or.inl ⟨Nat.zero_le _, Nat.le_refl _, fun t h1 h2 => by omega, fun _ _ _ h => h⟩, N0.out, Below.refl _ _⟩
  case round =>
    obtain ⟨k, i, acc, rfl, rfl, hacc, RR, O, hbl⟩ := hrel
    rcases RR with ⟨hi, hk, hb, T⟩ | ⟨hi, R1⟩
    · rw [hl.out] at hi
      have i1 : (i : Int) ≤ s.size := by omega
      by_cases hc : i < s.size ∧ s.data.toList.getD i 0 ≠ 32
      · obtain ⟨hlt, hne⟩ := hc
        have i2 : (i : Int) < s.size := by omega
        have NX := Lib.hid (show RRel s.data.toList k (i + 1) acc from Or.inl ⟨by rw [hl.out]; omega, by omega, fun t h1 h2 => by
          by_cases e : t = i
          · rw [e]; exact hne
          · exact hb t h1 (by omega), T⟩)
        rw [← str_at s i hlt] at hne
        have t2 : ((s[i].toNat : Int) != 32) = true := by
          simp
          intro e
          exact hne (UInt8.toNat_inj.1 (by simpa using (show s[i].toNat = 32 by omega)))
        clear hb T hne
        go_wp2_with fail
        go_roundw
        case rel => exact ⟨k, i + 1, acc, rfl, rfl, by omega, NX.out, O, hbl⟩
        case measure => simp [Lib.intOf]; omega
      · have hend : i = s.data.toList.length ∨ s.data.toList.getD i 0 = 32 := by
          rw [hl.out]
          by_cases e : i = s.size
          · exact Or.inl e
          · refine Or.inr (Classical.byContradiction fun hh => hc ⟨by omega, hh⟩)
        have esg := sg_blank hk (by rw [hl.out]; omega) hb hend
        have elen := cut_len s.data.toList k i hk (by rw [hl.out]; omega)
        rw [← esg] at elen
        have Nm_ := Lib.hid (fun W => numeral (s.extract k i) (by rw [ex_size s k i hk hi]; omega) W)
        rw [ex_list, ← esg] at Nm_
        obtain ⟨x, m, hxm⟩ : ∃ x m, nume (sg s.data.toList k) = (x, m) := ⟨_, _, rfl⟩
        rw [hxm] at Nm_
        simp only at Nm_
        have hk1 : (k : Int) ≤ i := by omega
        by_cases hm : m = 0
        · subst hm
          by_cases hj : i = s.size
          · have NX := Lib.hid (show RRel s.data.toList (i + 1) (i + 1) (acc ++ [x]) from Or.inr ⟨by rw [hl.out, hj], T _ _ _ (Rd.last hxm (by rw [elen, hl.out]; omega))⟩)
            have t1 : ¬ (i : Int) < s.size := by omega
            clear hb T hc hend esg elen hxm hj
            go_wp2_with fail
            refine (Nm_.out _).mono ?_
            rintro e w1 ⟨rfl, rfl⟩
            go_wp2_with (at_builtin; go_loud (refine append1 (wr.alloc (.cells #[.int .u64 x] 35)) ?hgd (.tmp 41) (.tmp 43) ?ho w.heap.size u5 acc ?hs (O.alloc _) wr.heap.size x ?hx (cut1 _ _ _) ?c1 ?c2 (fun v6 w2 O2 hg => ?_)); (case hgd => rfl); (case ho => rfl); (case hs => rfl); (case hx => rfl))
            case c1 => omega
            case c2 => have := hbl.size; simp; omega
            have b2 := (O.alloc _).grow (hbl.alloc hbl.size _) hg (by have := hbl.size; simp; omega)
            go_wp2_with fail
            go_roundw
            case rel => exact ⟨i + 1, i + 1, acc ++ [x], rfl, rfl, by simp; omega, NX.out, O2, b2⟩
            case measure => simp [Lib.intOf]; omega
          · have hlt : i < s.size := by omega
            have NX := Lib.hid (show RRel s.data.toList (i + 1) (i + 1) (acc ++ [x]) from Or.inl ⟨by rw [hl.out]; omega, Nat.le_refl _, fun t h1 h2 => by omega, fun l a e h => T l a e (Rd.next hxm (by rw [elen, hl.out]; omega) (by rw [elen, show k + (i - k) + 1 = i + 1 from by omega]; exact h))⟩)
            have t1 : (i : Int) < s.size := by omega
            have hbk : s[i] = 32 := by
              rw [str_at s i hlt]
              rcases hend with e | e
              · rw [hl.out] at e; omega
              · exact e
            have t2 : ((s[i].toNat : Int) != 32) = false := by simp [hbk]
            clear hb T hc hend esg elen hxm hbk
            go_wp2_with fail
            refine (Nm_.out _).mono ?_
            rintro e w1 ⟨rfl, rfl⟩
            go_wp2_with (at_builtin; go_loud (refine append1 (wr.alloc (.cells #[.int .u64 x] 35)) ?hgd (.tmp 41) (.tmp 43) ?ho w.heap.size u5 acc ?hs (O.alloc _) wr.heap.size x ?hx (cut1 _ _ _) ?c1 ?c2 (fun v6 w2 O2 hg => ?_)); (case hgd => rfl); (case ho => rfl); (case hs => rfl); (case hx => rfl))
            case c1 => omega
            case c2 => have := hbl.size; simp; omega
            have b2 := (O.alloc _).grow (hbl.alloc hbl.size _) hg (by have := hbl.size; simp; omega)
            go_wp2_with fail
            go_roundw
            case rel => exact ⟨i + 1, i + 1, acc ++ [x], rfl, rfl, by simp; omega, NX.out, O2, b2⟩
            case measure => simp [Lib.intOf]; omega
        · have hx0 := nume_pair _ hxm hm
          subst hx0
          have R1 := Lib.hid (T _ _ _ (Rd.bad (acc := acc) hxm hm))
          have t9 : ((m : Int) != 0) = true := by simp; omega
          by_cases hj : i = s.size
          · have t1 : ¬ (i : Int) < s.size := by omega
            clear hb T hc hend esg elen hxm hm hj
            go_wp2_with fail
            refine (Nm_.out _).mono ?_
            rintro e w1 ⟨rfl, rfl⟩
            go_wp2
            exact bodyPost_ret (v := .tuple #[.slice none 0 0, .int .i64 k, .int .i64 m]) (by simp [results, Tryd.results18, go_sem]) rfl ⟨_, [], k, m, rfl, R1.out, Ow.nil_ _ _, hbl⟩
          · have hlt : i < s.size := by omega
            have t1 : (i : Int) < s.size := by omega
            have hbk : s[i] = 32 := by
              rw [str_at s i hlt]
              rcases hend with e | e
              · rw [hl.out] at e; omega
              · exact e
            have t2 : ((s[i].toNat : Int) != 32) = false := by simp [hbk]
            clear hb T hc hend esg elen hxm hm hbk
            go_wp2_with fail
            refine (Nm_.out _).mono ?_
            rintro e w1 ⟨rfl, rfl⟩
            go_wp2
            exact bodyPost_ret (v := .tuple #[.slice none 0 0, .int .i64 k, .int .i64 m]) (by simp [results, Tryd.results18, go_sem]) rfl ⟨_, [], k, m, rfl, R1.out, Ow.nil_ _ _, hbl⟩
    · rw [hl.out] at hi
      have i1 : ¬ (i : Int) ≤ s.size := by omega
      have H1 := Lib.hid R1
      clear R1
      go_wp2
      exact bodyPost_ret (v := .tuple #[u5, .int .i64 0, .int .i64 0]) (by simp [results, Tryd.results18, go_sem]) rfl ⟨u5, acc, 0, 0, rfl, H1.out, O, hbl⟩
end Cr
end Go.Proofs.YtggocbblpgaaoaaDoor
