/- Contracts of Text, the program's (through the library's AppendUint, whose table is as its initialiser lays it) and the document's own. -/
import Derived.Test.YtggocbblpgaaoaaDoorCodU
import Derived.Test.YtggocbblpgaaoaaDoorShelf
set_option linter.unusedVariables false
namespace Go.Proofs.YtggocbblpgaaoaaDoor
open Go.RowKit
namespace Ww
theorem cut1b (w : World) (y : Int) (t : TypeId) : (w.alloc (.cells #[.int .u8 y] t)).cell? ⟨w.heap.size, 0, none⟩ = some (.int .u8 y) := by simp [go_sem]
/-- append of one byte. -/
theorem append1b (w : World) {ops : Array Oper} {rest : List Oper} {o : Oper} {a : Act} {Q : Exit → Act → World → Prop} (hgd : o.guard = none) (s x : Operand)
    (ho : o.op = .call { callee := .builtin .append, args := #[s, x], argTypes := #[23, 23] })
    (base : Nat) (v : Value) (xs : List UInt8) (hs : a.eval s = v) (hown : Ob w base v xs) (b : Nat) (y : UInt8) (hx : a.eval x = .slice (some ⟨b, 0, none⟩) 1 1) (hc : w.cell? ⟨b, 0, none⟩ = some (.int .u8 (y.toNat : Nat)))
    (hlen : xs.length + 1 ≤ 17592186044416) (hbase : base ≤ w.heap.size)
    (h : ∀ v' w', Ob w' base v' (xs ++ [y]) → w.grownBy w' v.ownBlock → wpList Tryd.prog ops Q rest (a.put o.dst v') w') : wpList Tryd.prog ops Q (o :: rest) a w := by
  obtain ⟨i, hi⟩ : ∃ i, Tryd.prog.info? 5 = some i := by
    cases e : Tryd.prog.info? 5 with
    | none => have := infoB; rw [e] at this; cases this
    | some i => exact ⟨i, rfl⟩
  have hU := infoB
  rw [hi] at hU
  simp only [Option.map_some, Option.some.injEq, Prod.mk.injEq] at hU
  refine wpList_append_own w hgd s x _ ho base _ i (.int .u8 0) 1 1 Tryd.underlying23 hi hU.1 hU.2.1 hU.2.2 rfl (by decide) v xs.length (Lib.byteCells xs) hs hown ⟨b, 0, none⟩ 1 1 [.int .u8 (y.toNat : Nat)] hx rfl ?_ ?_ ?_ ?_ hbase fun v' w' h1 h2 _ => h v' w' ?_ h2
  · intro j u hu
    rcases j with _ | j
    · simp at hu; subst hu; exact hc
    · simp at hu
  · intro u hu; simp at hu; subst hu; rfl
  · simp only [maxLen]; omega
  · omega
  · unfold Ob
    have e : Lib.byteCells (xs ++ [y]) = Lib.byteCells xs ++ [.int .u8 (y.toNat : Nat)] := by simp [Lib.byteCells]
    rw [e, List.length_append]
    exact h1
end Ww
namespace Cc
open Ww Cd Cr

/-- The table of the powers of ten is as its initialiser lays it. -/
def Tab (w : World) : Prop := Lib.TabIs Tryd.prog w "internal/strconv.uint64pow10" .u64 Lib.pow10Tab
theorem Tab.below {w w' : World} (h : Tab w) (hb : Below w.heap.size w w') : Tab w' := Lib.tabBelow_of_tabIs h w' hb
/-- What AppendUint answers. -/
def UintOut (B : Nat) (bs : List UInt8) (w : World) (e : Ending) (w' : World) : Prop := ∃ v, e = .returned v ∧ Ob w' B v bs ∧ Below B w w'
theorem append_in (B u : Nat) (bs : List UInt8) (sv : Value) (hu : u < 18446744073709551616) (hl : bs.length ≤ 1073741824) (w : World) (O : Ob w B sv bs) (hB : B ≤ w.heap.size) (T : Tab w) :
    Calls Tryd.prog 29 #[sv, .int .u64 u, .int .i64 10] w (UintOut B (bs ++ dec u) w) := by
  have fin : ∀ e w', (∃ v', e = Ending.returned v' ∧ w'.ownsRow B 5 1 v' (bs.length + (Lib.decDigits u).length) (Lib.byteCells bs ++ Lib.byteCells (Lib.decDigits u)) ∧ Below B w w' ∧ Lib.OthersKept 5 none w w') → UintOut B (bs ++ dec u) w e w' := by
    rintro e w' ⟨v', he, h1, h2, _⟩
    refine ⟨v', he, ?_, h2⟩
    unfold Ob
    rw [List.length_append, show Lib.byteCells (bs ++ dec u) = Lib.byteCells bs ++ Lib.byteCells (Lib.decDigits u) from by simp [Lib.byteCells]]
    exact h1
  by_cases h : u < 100
  · exact (Tryd.internal_strconv_AppendUint_10_small B bs.length u h sv (Lib.byteCells bs) w O hB (by omega)).mono fin
  · exact (Tryd.internal_strconv_AppendUint_10_big B bs.length u (by omega) hu sv (Lib.byteCells bs) w O hB (by omega) T).mono fin
set_option maxHeartbeats 400000 in
theorem append_uint (B u : Nat) (bs : List UInt8) (sv : Value) (hu : u < 18446744073709551616) (hl : bs.length ≤ 1073741824) (w : World) (O : Ob w B sv bs) (hB : B ≤ w.heap.size) (T : Tab w) :
    Calls Tryd.prog 24 #[sv, .int .u64 u, .int .i64 10] w (UintOut B (bs ++ dec u) w) := by
  have A := Lib.hid (append_in B u bs sv hu hl w O hB T)
  generalize bs ++ dec u = cs at *
  clear O T
  go_enter Tryd.func24, Tryd.ntmps24
  go_wp2_with fail
  refine A.out.mono ?_
  rintro e w' ⟨v, rfl, O1, b1⟩
  go_wp2
  exact bodyPost_ret (v := v) (by simp [results, Tryd.results24, go_sem]) rfl ⟨v, rfl, O1, b1⟩

set_option maxHeartbeats 1000000 in
set_option maxRecDepth 100000 in
theorem text (A : Option Addr) (cap : Nat) (xs : List Nat) (hn : xs.length ≤ 1048576) (w : World) (R : Ws w w.heap.size A xs) (T : Tab w) :
    Calls Tryd.prog 16 #[.slice A xs.length cap] w fun e w' => e = .returned (.string (sb (txt xs))) ∧ Below w.heap.size w w' := by
  have N0 := Lib.hid (Ob.nil_ w w.heap.size)
  have HT := Lib.hid T
  obtain ⟨tt, htt⟩ : ∃ tt, tt = sb (txt xs) := ⟨_, rfl⟩
  rw [← htt]
  have HTT := Lib.hid htt
  clear T htt
  go_enter Tryd.func16, Tryd.ntmps16
  go_wp2_with fail
  go_loopw [3, 8] (fun v3 v8 wr => ∃ i : Nat, v8 = .int .i64 (i : Int) ∧ i ≤ xs.length ∧ Ob wr w.heap.size v3 (txt (xs.take i)) ∧ Below w.heap.size w wr) (fun _ v8 _ => xs.length - (Lib.intOf v8).toNat)
  case atStart => exact ⟨0, rfl, by omega, N0.out, Below.refl _ _⟩
  case round =>
    obtain ⟨i, rfl, hi, O, hb⟩ := hrel
    clear N0
    have hall : ∀ y, y ∈ xs.take i → y < 18446744073709551616 := fun y hy => R.all y (List.mem_of_mem_take hy)
    have hlen := txt_len (xs.take i) hall
    have hl2 : (xs.take i).length ≤ 1048576 := by rw [List.length_take]; omega
    have HL := Lib.hid (show (txt (xs.take i)).length ≤ 22020096 by omega)
    clear hall hlen hl2
    by_cases hlt : i < xs.length
    · have i1 : (i : Int) < xs.length := by omega
      have hx := R.lt i hlt
      obtain ⟨b, off, rfl, hB, c0⟩ := (R.below hb).at_ i hlt
      have e1 : xs.take (i + 1) = xs.take i ++ [xs.getD i 0] := by rw [List.take_succ_eq_append_getElem hlt]; simp [List.getD, hlt]
      have E1 := Lib.hid e1
      clear e1
      generalize xs.getD i 0 = x at *
      by_cases h0 : i = 0
      · have i2 : ¬ (0 : Int) < i := by omega
        have E2 := Lib.hid (show txt (xs.take i) ++ dec x = txt (xs.take (i + 1)) by rw [E1.out, h0]; simp [txt, tl])
        clear h0
        have AU := Lib.hid (append_uint w.heap.size x _ u3 hx (by have := HL.out; omega) wr O hb.size (HT.out.below hb))
        rw [E2.out] at AU
        clear O
        go_wp2_with fail
        refine AU.out.mono ?_
        rintro e w1 ⟨v1, rfl, O1, b1⟩
        go_wp2_with fail
        go_roundw
        case rel => exact ⟨i + 1, rfl, by omega, O1, hb.trans b1⟩
        case measure => simp [Lib.intOf]; omega
      · have i2 : (0 : Int) < i := by omega
        have hne : xs.take i ≠ [] := by
          intro e
          have h := congrArg List.length e
          rw [List.length_take, List.length_nil] at h
          omega
        have E2 := Lib.hid (show txt (xs.take i) ++ [32] ++ dec x = txt (xs.take (i + 1)) by
          rw [E1.out, txt_snoc _ _ hne]
          simp)
        clear hne
        have hl3 : (txt (xs.take i)).length + 1 ≤ 17592186044416 := by have := HL.out; omega
        generalize txt (xs.take i) = tx at *
        go_wp2_with (at_builtin; go_loud (refine append1b (wr.alloc (.cells #[.int .u8 32] 5)) ?hgd (.tmp 15) (.tmp 16) ?ho w.heap.size u3 tx ?hs (O.alloc _) wr.heap.size 32 ?hx (cut1b _ _ _) ?c1 ?c2 (fun v3 w1 O1 hg => ?_)); (case hgd => rfl); (case ho => rfl); (case hs => rfl); (case hx => rfl))
        case c1 => exact hl3
        case c2 => have := hb.size; simp; omega
        have b1 := (O.alloc _).grow (hb.alloc hb.size _) hg (by have := hb.size; simp; omega)
        have AU := Lib.hid (append_uint w.heap.size x _ v3 hx (by have := HL.out; simp; omega) w1 O1 b1.size (HT.out.below b1))
        rw [E2.out] at AU
        clear O O1 hg
        go_wp2_with fail
        refine AU.out.mono ?_
        rintro e w2 ⟨v2, rfl, O2, b2⟩
        go_wp2_with fail
        go_roundw
        case rel => exact ⟨i + 1, rfl, by omega, O2, b1.trans b2⟩
        case measure => simp [Lib.intOf]; omega
    · have i1 : ¬ (i : Int) < xs.length := by omega
      obtain rfl : i = xs.length := by omega
      rw [List.take_of_length_le (Nat.le_refl _)] at O
      obtain ⟨A3, c3, rfl, R3, _⟩ := O.reads
      have cv := conv_bytes R3 c3
      have cv2 : (convert 23 9 (.slice A3 (txt xs).length c3)).run Tryd.prog wr = .ok (.string (sb (txt xs))) wr := cv
      rw [← HTT.out] at cv2
      clear cv
      go_wp2
      go_ret
      exact ⟨rfl, hb⟩
end Cc
namespace Cr
open Ww Cd Cc
theorem dec_step (u v : Nat) (D : List UInt8) (h : dec u = dec v ++ D) (hv : ¬ v < 10) : dec u = dec (v / 10) ++ (UInt8.ofNat (48 + v % 10) :: D) := by
  rw [h, dec_big hv]
  simp
set_option maxHeartbeats 1000000 in
set_option maxRecDepth 100000 in
theorem digits (u : Nat) (hu : u < 18446744073709551616) (w : World) :
    Calls Tryd.prog 28 #[.int .u64 u] w fun e w' => e = .returned (.string (sb (dec u))) ∧ Below w.heap.size w w' := by
  have hl := dec_len u hu
  go_enter Tryd.func28, Tryd.ntmps28
  go_wp2_with fail
  go_loopw [0, 3] (fun v0 v3 wr => ∃ (v : Nat) (D : List UInt8), v0 = .int .u64 (v : Nat) ∧ v ≤ u ∧ v3 = .string (sb D) ∧ dec u = dec v ++ D ∧ Below w.heap.size w wr) (fun v0 _ _ => (Lib.intOf v0).toNat)
  case atStart => exact ⟨u, [], rfl, Nat.le_refl _, rfl, by simp, Below.refl _ _⟩
  case round =>
    obtain ⟨v, D, rfl, hv, rfl, hD, hb⟩ := hrel
    have hDl : D.length ≤ 20 := by have := congrArg List.length hD; rw [List.length_append] at this; omega
    have cv := conv1 wr (48 + v % 10) (by omega)
    rw [show ((48 + v % 10 : Nat) : Int) = 48 + (v : Int) % 10 from by omega] at cv
    have hn1 : sb (UInt8.ofNat (48 + v % 10) :: D) = (⟨[UInt8.ofNat (48 + v % 10)].toArray⟩ : ByteArray) ++ sb D := by
      rw [show UInt8.ofNat (48 + v % 10) :: D = [UInt8.ofNat (48 + v % 10)] ++ D from rfl, ← sb_append]
      rfl
    have hs1 : (⟨[UInt8.ofNat (48 + v % 10)].toArray⟩ : ByteArray).size = 1 := rfl
    have hs2 : (sb D).size ≤ 20 := by rw [sb_size]; exact hDl
    by_cases h10 : v < 10
    · have hf : dec u = UInt8.ofNat (48 + v % 10) :: D := by rw [hD, dec_small h10, Nat.mod_eq_of_lt h10]; rfl
      rw [← hf] at hn1
      have HN := Lib.hid hn1
      have t1 : ((v : Int) / 10 == 0) = true := by simp; omega
      generalize (⟨[UInt8.ofNat (48 + v % 10)].toArray⟩ : ByteArray) = c at *
      generalize sb D = s at *
      have n1 : ¬ 9223372036854775807 < c.size + s.size := by omega
      have n2 : c.size + s.size ≤ 9223372036854775807 := by omega
      clear hn1 hf hD hs1
      have hb3 := hb.alloc hb.size (.cells #[.int .u8 (48 + (v : Int) % 10)] 5)
      go_wp2
      go_ret
      exact ⟨by rw [HN.out]; rfl, hb3⟩
    · have HD := Lib.hid (dec_step u v D hD h10)
      have HN := Lib.hid hn1
      have t1 : ((v : Int) / 10 == 0) = false := by simp; omega
      generalize (⟨[UInt8.ofNat (48 + v % 10)].toArray⟩ : ByteArray) = c at *
      generalize hsd : sb D = s at *
      have n1 : ¬ 9223372036854775807 < c.size + s.size := by omega
      have n2 : c.size + s.size ≤ 9223372036854775807 := by omega
      clear hn1 hD hs1 hsd
      have hb3 := hb.alloc hb.size (.cells #[.int .u8 (48 + (v : Int) % 10)] 5)
      go_wp2_with fail
      go_roundw
      case rel => exact ⟨v / 10, _, by simp, by omega, by rw [← HN.out], HD.out, hb3⟩
      case measure => simp [Lib.intOf]; omega
set_option maxHeartbeats 1000000 in
set_option maxRecDepth 100000 in
theorem text (A : Option Addr) (cap : Nat) (xs : List Nat) (hn : xs.length ≤ 1048576) (w : World) (R : Ws w w.heap.size A xs) :
    Calls Tryd.prog 19 #[.slice A xs.length cap] w fun e w' => e = .returned (.string (sb (txt xs))) ∧ Below w.heap.size w w' := by
  obtain ⟨tt, htt⟩ : ∃ tt, tt = sb (txt xs) := ⟨_, rfl⟩
  rw [← htt]
  have HTT := Lib.hid htt
  clear htt
  go_enter Tryd.func19, Tryd.ntmps19
  go_wp2_with fail
  go_loopw [3, 4] (fun v3 v4 wr => ∃ i : Nat, v4 = .int .i64 (i : Int) ∧ i ≤ xs.length ∧ v3 = .string (sb (txt (xs.take i))) ∧ Below w.heap.size w wr) (fun _ v4 _ => xs.length - (Lib.intOf v4).toNat)
  case atStart => exact ⟨0, rfl, by omega, rfl, Below.refl _ _⟩
  case round =>
    obtain ⟨i, rfl, hi, rfl, hb⟩ := hrel
    have hall : ∀ y, y ∈ xs.take i → y < 18446744073709551616 := fun y hy => R.all y (List.mem_of_mem_take hy)
    have hlen := txt_len (xs.take i) hall
    have hl2 : (xs.take i).length ≤ 1048576 := by rw [List.length_take]; omega
    have hsz : (sb (txt (xs.take i))).size ≤ 22020096 := by rw [sb_size]; omega
    clear hall hlen hl2
    by_cases hlt : i < xs.length
    · have i1 : (i : Int) < xs.length := by omega
      have hx := R.lt i hlt
      obtain ⟨b, off, rfl, hB, c0⟩ := (R.below hb).at_ i hlt
      have e1 : xs.take (i + 1) = xs.take i ++ [xs.getD i 0] := by rw [List.take_succ_eq_append_getElem hlt]; simp [List.getD, hlt]
      have E1 := Lib.hid e1
      clear e1
      generalize xs.getD i 0 = x at *
      have DG := Lib.hid (fun W => digits x hx W)
      have hdl : (sb (dec x)).size ≤ 20 := by rw [sb_size]; exact dec_len x hx
      by_cases h0 : i = 0
      · have i2 : ¬ (0 : Int) < i := by omega
        have E2 := Lib.hid (show sb (txt (xs.take (i + 1))) = sb (txt (xs.take i)) ++ sb (dec x) by rw [E1.out, h0, sb_append]; simp [txt, tl])
        clear h0
        generalize sb (dec x) = c at *
        generalize sb (txt (xs.take i)) = s at *
        have n1 : ¬ 9223372036854775807 < s.size + c.size := by omega
        have n2 : s.size + c.size ≤ 9223372036854775807 := by omega
        go_wp2_with fail
        refine (DG.out _).mono ?_
        rintro e w1 ⟨rfl, b1⟩
        go_wp2_with fail
        go_roundw
        case rel => exact ⟨i + 1, rfl, by omega, by rw [E2.out], hb.trans (b1.mono hb.size)⟩
        case measure => simp [Lib.intOf]; omega
      · have i2 : (0 : Int) < i := by omega
        have hne : xs.take i ≠ [] := by
          intro e
          have h := congrArg List.length e
          rw [List.length_take, List.length_nil] at h
          omega
        have E2 := Lib.hid (show sb (txt (xs.take (i + 1))) = (sb (txt (xs.take i)) ++ (⟨#[32]⟩ : ByteArray)) ++ sb (dec x) by
          rw [E1.out, txt_snoc _ _ hne, show (⟨#[32]⟩ : ByteArray) = sb [32] from rfl, sb_append, sb_append]
          simp)
        clear hne
        generalize sb (dec x) = c at *
        generalize sb (txt (xs.take i)) = s at *
        have hs1 : (⟨#[32]⟩ : ByteArray).size = 1 := rfl
        have hs2 : (s ++ (⟨#[32]⟩ : ByteArray)).size = s.size + 1 := by rw [ByteArray.size_append]; rfl
        have n1 : ¬ 9223372036854775807 < s.size + 1 := by omega
        have n2 : s.size + 1 ≤ 9223372036854775807 := by omega
        have n3 : ¬ 9223372036854775807 < s.size + 1 + c.size := by omega
        have n4 : s.size + 1 + c.size ≤ 9223372036854775807 := by omega
        go_wp2_with fail
        refine (DG.out _).mono ?_
        rintro e w1 ⟨rfl, b1⟩
        go_wp2_with fail
        go_roundw
        case rel => exact ⟨i + 1, rfl, by omega, by rw [E2.out], hb.trans (b1.mono hb.size)⟩
        case measure => simp [Lib.intOf]; omega
    · have i1 : ¬ (i : Int) < xs.length := by omega
      obtain rfl : i = xs.length := by omega
      rw [List.take_of_length_le (Nat.le_refl _), ← HTT.out]
      clear hsz
      go_wp2
      go_ret
      exact ⟨rfl, hb⟩
end Cr
end Go.Proofs.YtggocbblpgaaoaaDoor
