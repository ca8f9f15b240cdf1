/- Contracts of package arena: Give, Reset. -/
import Derived.Test.YthkpndlladmcnaaArenaD
import Derived.Lib.Walk
import Derived.LaidEqlPtr
set_option linter.unusedVariables false
namespace Go.Proofs.Ythkpndlladmcnaa
open Go.RowKit Go.ChangeMaps Go.Lib
namespace Ar
open Ww

/-- A pointer to one of the buffers, or none. -/
def pv (q : Nat → Nat) : Option Nat → Value
  | none => .pointer none
  | some i => .pointer (some ⟨q i, 0, none⟩)
/-- A slice of L pointers, in a block that isn't the arena's. -/
structure Lp (w : World) (M : Nat → Prop) (q : Nat → Nat) (A : Option Addr) (L : Nat) (is : Nat → Option Nat) : Prop where
  at_ : ∀ j, j < L → ∃ b off, A = some ⟨b, off, none⟩ ∧ ¬ M b ∧ w.cell? ⟨b, off + j, none⟩ = some (pv q (is j))
theorem Lp.fr {w w' : World} {M : Nat → Prop} {q : Nat → Nat} {A : Option Addr} {L : Nat} {is : Nat → Option Nat} (h : Lp w M q A L is) (f : Fr M w w') : Lp w' M q A L is :=
  ⟨fun j hj => by
    obtain ⟨b, off, e, hb, c⟩ := h.at_ j hj
    exact ⟨b, off, e, hb, (World.cell?_of_block (w := w) (f.block b (World.block_lt_of_cell? w _ c) hb)).trans c⟩⟩
/-- What is left of the buffers' words behind the first j of a list. -/
def giv (n : Nat → Nat) (is : Nat → Option Nat) : Nat → Nat → Nat
  | 0 => n
  | j + 1 => match is j with
    | none => giv n is j
    | some i => upd (giv n is j) i 0
theorem giv_none {n : Nat → Nat} {is : Nat → Option Nat} {j : Nat} (h : is j = none) : giv n is (j + 1) = giv n is j := by simp [giv, h]
theorem giv_some {n : Nat → Nat} {is : Nat → Option Nat} {j i : Nat} (h : is j = some i) : giv n is (j + 1) = upd (giv n is j) i 0 := by simp [giv, h]
theorem upd_self {n : Nat → Nat} {i : Nat} (h : n i = 0) : upd n i 0 = n := by
  funext j
  unfold upd
  split
  · rename_i e; subst e; exact h.symm
  · rfl

theorem info_buf : ∃ j, Try.prog.info? 48 = some j := by
  cases e : Try.prog.info? 48 with
  | some j => exact ⟨j, rfl⟩
  | none =>
    have h : (Try.prog.info? 48).isSome = true := by kernel_rfl
    rw [e] at h
    cases h
theorem eql_same (a : Addr) (W : World) : (binOp .eql 31 (.pointer (some a)) (.pointer (some a))).run Try.prog W = .ok (.bool true) W := by
  obtain ⟨j, hj⟩ := info_buf
  exact run_eql_ptr_same W a Try.underlying31 hj
theorem eql_nil (a : Addr) (W : World) : (binOp .eql 31 (.pointer none) (.pointer (some a))).run Try.prog W = .ok (.bool false) W := by
  have h : ∀ d : Nat, (Op.equalIn (d + 1) 31 (.pointer none) (.pointer (some a))).run Try.prog W = .ok false W := fun d => by
    simp [Op.equalIn, run_underlying Try.underlying31]
  simp only [binOp]
  simp [Op.equal, Op.maxDepth, h 9999]

section
variable {w : World} {p m cap peak k : Nat} {q n g : Nat → Nat}
set_option maxHeartbeats 1000000 in
set_option maxRecDepth 100000 in
theorem give (A : Option Addr) (L c : Nat) (is : Nat → Option Nat) (h : Ab w p m cap peak k q n g) (R : Lp w (Mine p m k q) q A L is) (hi : ∀ j, j < L → ∀ i, is j = some i → i < k) (hL : L ≤ 1000000) :
    Calls Try.prog 11 #[.pointer (some ⟨p, 0, none⟩), .slice A L c] w fun e w' => e = .returned (.tuple #[]) ∧ Ab w' p m cap peak k q (giv n is L) g ∧ Fr (Mine p m k q) w w' := by
  have H := Lib.hid h
  have R := Lib.hid R
  have HI := Lib.hid hi
  clear h hi
  go_enter Try.func11, Try.ntmps11
  go_wp2_with fail
  go_loopw [8] (fun v8 wr => ∃ j : Nat, v8 = .int .i64 (j : Int) ∧ j ≤ L ∧ Ab wr p m cap peak k q (giv n is j) g ∧ Fr (Mine p m k q) w wr) (fun v8 _ => L - (Lib.intOf v8).toNat)
  case atStart => exact ⟨0, rfl, Nat.zero_le _, H.out, Fr.refl _ _⟩
  case round =>
    obtain ⟨j, rfl, hj, X, F⟩ := hrel
    by_cases hlt : j < L
    · have i1 : (j : Int) < L := by omega
      obtain ⟨b, off, rfl, hb, cc⟩ := (R.out.fr F).at_ j hlt
      cases e : is j with
      | none =>
        rw [e] at cc
        replace cc : wr.cell? ⟨b, off + j, none⟩ = some (.pointer none) := cc
        have Q := Lib.hid (show ∀ u, Ab (wr.drewN u) p m cap peak k q (giv n is (j + 1)) g from fun u => by rw [giv_none e]; exact X.drewN u)
        have F := Lib.hid F
        clear X e hb
        go_upto_region 3 with fail
        go_quiet (fail)
        go_wp2_with fail
        go_roundw
        case rel => exact ⟨j + 1, rfl, by omega, Q.out _, F.out.drewN _⟩
        case measure => simp [Lib.intOf]; omega
      | some i =>
        rw [e] at cc
        replace cc : wr.cell? ⟨b, off + j, none⟩ = some (.pointer (some ⟨q i, 0, none⟩)) := cc
        have ik := HI.out j hlt i e
        have c4 := X.c4
        have b0 := X.b0 ik
        by_cases h0 : giv n is j i = 0
        · have EQ := eql_nil
          have LK := fun u => look_out (w := wr.drewN u) (X.drewN u).hm h0
          have Q := Lib.hid (show ∀ u, Ab (wr.drewN u) p m cap peak k q (giv n is (j + 1)) g from fun u => by rw [giv_some e, upd_self h0]; exact X.drewN u)
          have F := Lib.hid F
          clear X e hb h0 ik
          go_upto_region 3 with fail
          go_quiet (fail)
          go_wp2_with fail
          go_roundw
          case rel => exact ⟨j + 1, rfl, by omega, Q.out _, F.out.drewN _⟩
          case measure => simp [Lib.intOf]; omega
        · have EQ := eql_same
          have LK := fun u => look_in (w := wr.drewN u) (X.drewN u).hm ik h0
          have RL := Lib.hid (fun u => release i (X.drewN u) ik h0)
          have EG := Lib.hid (giv_some (n := n) e)
          have F := Lib.hid F
          clear X e hb h0 ik
          go_upto_region 3 with fail
          go_quiet (fail)
          go_wp2_with fail
          refine (RL.out _).mono ?_
          rintro e w1 ⟨rfl, X1, F1⟩
          have Q := Lib.hid (show Ab w1 p m cap peak k q (giv n is (j + 1)) g from by rw [EG.out]; exact X1)
          have F := Lib.hid ((F.out.drewN _).step F1)
          clear X1 F1 RL EG
          go_wp2_with fail
          go_roundw
          case rel => exact ⟨j + 1, rfl, by omega, Q.out, F.out⟩
          case measure => simp [Lib.intOf]; omega
    · have i1 : ¬ (j : Int) < L := by omega
      obtain rfl : j = L := by omega
      have X := Lib.hid X
      have F := Lib.hid F
      clear R HI H
      go_wp2
      go_end0
      exact ⟨rfl, X.out, F.out⟩
end

theorem set_same {w : World} {b : Nat} {o o' : Obj} (h : w.heap[b]? = some o) : (setBlock w b o').heap[b]? = some o' := by
  have hl := (Array.getElem?_eq_some_iff.1 h).1
  simp [setBlock, hl]
theorem set_other {w : World} {b c : Nat} {o' : Obj} (h : c ≠ b) : (setBlock w b o').heap[c]? = w.heap[c]? := by
  simp [setBlock, Ne.symm h]
theorem left_all {q n : Nat → Nat} {k : Nat} {seen : Array Nat} (hs : ∀ i, seen.contains i = true → n i = 0) : leftOf (ents q n k) seen = ents q n k := by
  unfold leftOf
  refine Array.filter_eq_self.2 fun x hx => ?_
  unfold ents at hx
  rw [List.mem_toArray, List.mem_map] at hx
  obtain ⟨i, hi, rfl⟩ := hx
  cases e : seen.contains (ent q i).born
  · rfl
  · exact absurd (hs i e) (mem_live.1 hi).2
theorem ents_size (q n : Nat → Nat) (k : Nat) : (ents q n k).size = (live n k).length := by simp [ents]
theorem ents_less (q n : Nat → Nat) (k i : Nat) (hi : i ∈ live n k) : (ents q (upd n i 0) k).size < (ents q n k).size := by
  rw [ents_size, ents_size, live_gone, ← (live_nodup n k).erase_eq_filter, List.length_erase_of_mem hi]
  have := List.length_pos_of_mem hi
  omega
theorem ents_born (q n : Nat → Nat) (k : Nat) : ((ents q n k).toList.map (·.born)).Nodup := by
  have e : (ents q n k).toList.map (·.born) = live n k := by
    simp only [ents, List.map_map]
    exact List.map_id' _
  rw [e]
  exact live_nodup n k
theorem ents_mem {q n : Nat → Nat} {k : Nat} {e : MapEntry} (h : e ∈ (ents q n k).toList) : ∃ i, i < k ∧ n i ≠ 0 ∧ e = ent q i := by
  simp only [ents, List.mem_map] at h
  obtain ⟨i, hi, rfl⟩ := h
  exact ⟨i, (mem_live.1 hi).1, (mem_live.1 hi).2, rfl⟩
/-- A reset under way: r is the iterator's block. -/
structure Rs (w wr : World) (p m cap peak k : Nat) (q g : Nat → Nat) (r : Nat) (n : Nat → Nat) (seen : Array Nat) : Prop where
  a : Ab wr p m cap peak k q n g
  it : wr.heap[r]? = some (.mapIter (some m) k seen k)
  hs : ∀ i, seen.contains i = true → n i = 0
  fr : Fr (Mine p m k q) w wr
  nr : ¬ Mine p m k q r
  lr : w.heap.size ≤ r
section
variable {w wr : World} {p m cap peak k r : Nat} {q n g : Nat → Nat} {seen : Array Nat}
theorem Rs.left (h : Rs w wr p m cap peak k q g r n seen) : wr.rangeLeft m r = (ents q n k).size := by
  unfold World.rangeLeft
  rw [h.a.hm, h.it]
  show (leftOf (ents q n k) seen).size = _
  rw [left_all h.hs]
theorem Rs.start (h : Ab w p m cap peak k q n g) : Rs w (w.alloc (.mapIter (some m) k #[] k)) p m cap peak k q g w.heap.size n #[] :=
  ⟨h.below ((Below.refl _ _).alloc (Nat.le_refl _) _), blk_new w _, fun i hi => by simp at hi, (Fr.refl _ _).alloc _, fun hb => absurd (h.lt hb) (Nat.lt_irrefl _), Nat.le_refl _⟩
/-- A step: nothing is left; or a buffer that is taken comes out. -/
theorem Rs.next (h : Rs w wr p m cap peak k q g r n seen) :
    ((∀ i, i < k → n i = 0) ∧ ∀ ty, (Instr.next (.pointer (some ⟨r, 0, none⟩)) false ty).run Try.prog wr = .ok (.tuple #[.bool false]) wr) ∨
    ∃ i w2, i < k ∧ n i ≠ 0 ∧ (∀ ty, (Instr.next (.pointer (some ⟨r, 0, none⟩)) false ty).run Try.prog wr = .ok (.tuple #[.bool true, .int .i64 (i : Nat), .pointer (some ⟨q i, 0, none⟩)]) w2) ∧
      (Instr.entry (.pointer (some ⟨r, 0, none⟩))).run Try.prog w2 = .ok (.tuple #[.int .i64 (i : Nat), .pointer (some ⟨q i, 0, none⟩)]) w2 ∧ Ab w2 p m cap peak k q n g ∧
      ∀ w3, Ab w3 p m cap peak k q (upd n i 0) g → Fr (Mine p m k q) w2 w3 → Rs w w3 p m cap peak k q g r (upd n i 0) (seen.push i) ∧ w3.rangeLeft m r < wr.rangeLeft m r := by
  have hold : ∀ x ∈ (ents q n k).toList, x.born < k := fun x hx => by
    obtain ⟨i, hi, _, rfl⟩ := ents_mem hx
    exact hi
  have hN := run_next_at (P := Try.prog) wr 0 r m k k seen (ents q n k) k h.it h.a.hm hold (Nat.le_refl _)
  rw [left_all h.hs] at hN
  rcases hN with ⟨h0, hrun⟩ | ⟨e, he, w1, hw, hrun⟩
  · refine Or.inl ⟨fun i hi => ?_, fun ty => hrun⟩
    rw [ents_size] at h0
    have e0 := List.length_eq_zero_iff.1 h0
    rcases Nat.eq_zero_or_pos (n i) with e | e
    · exact e
    · have := mem_live.2 ⟨hi, Nat.ne_of_gt e⟩
      rw [e0] at this
      cases this
  · obtain ⟨i, hi, h0, rfl⟩ := ents_mem he
    have it1 : w1.heap[r]? = some (.mapIter (some m) k seen k) := by rcases hw with rfl | rfl <;> exact h.it
    have f1 : Fr (Mine p m k q) w w1 := by
      rcases hw with rfl | rfl
      · exact h.fr
      · exact h.fr.drew
    have a1 : Ab w1 p m cap peak k q n g := by
      rcases hw with rfl | rfl
      · exact h.a
      · exact h.a.drew
    have it2 : (setBlock w1 r (.mapIter (some m) k (seen.push (ent q i).born) k)).heap[r]? = some (.mapIter (some m) k (seen.push (ent q i).born) k) := set_same it1
    have a2 : Ab (setBlock w1 r (.mapIter (some m) k (seen.push (ent q i).born) k)) p m cap peak k q n g := a1.keep fun b hb => set_other fun e => h.nr (e ▸ hb)
    have f2 : Fr (Mine p m k q) w (setBlock w1 r (.mapIter (some m) k (seen.push (ent q i).born) k)) :=
      f1.trans (T := fun b => b = r) ⟨rfl, rfl, rfl, by simp [setBlock], fun b _ hb => set_other hb⟩ (fun b e => Or.inr (by rw [e]; exact h.lr))
    refine Or.inr ⟨i, _, hi, h0, fun ty => hrun, run_entry_at _ r m k seen (ents q n k) k (ent q i) it2 a2.hm he (ents_born q n k), a2, fun w3 a3 f3 => ?_⟩
    have R3 : Rs w w3 p m cap peak k q g r (upd n i 0) (seen.push i) := by
      refine ⟨a3, f3.at_ it2 h.nr, fun j hj => ?_, f2.step f3, h.nr, h.lr⟩
      by_cases e : j = i
      · subst e; exact upd_same _ _ _
      · rw [upd_other _ _ _ e]
        refine h.hs j ?_
        simp only [Array.contains_push, Bool.or_eq_true, beq_iff_eq] at hj
        rcases hj with hj | hj
        · exact hj
        · exact absurd hj e
    refine ⟨R3, ?_⟩
    rw [R3.left, h.left]
    exact ents_less q n k i (mem_live.2 ⟨hi, h0⟩)
theorem Rs.end_ (h : Rs w wr p m cap peak k q g r n seen) (h0 : ∀ i, i < k → n i = 0) : Ab (wr.setCell ⟨p, 2, none⟩ (.int .i64 0)) p m cap 0 k q (fun _ => 0) g ∧ Fr (Mine p m k q) w (wr.setCell ⟨p, 2, none⟩ (.int .i64 0)) := by
  have A0 := h.a.congr (n' := fun _ => 0) h0
  refine ⟨⟨blk_put A0.hp 2 (.int .i64 0), ?_, fun i hi => ?_, ?_, Nat.zero_le _, A0.l24⟩, h.fr.put _ _ (Or.inl (Or.inl rfl))⟩
  · rw [Below.heap_setCell _ _ _ _ (fun e => A0.pm e.symm)]
    exact A0.hm
  · rw [Below.heap_setCell _ _ _ _ (A0.pq hi)]
    exact A0.hq i hi
  · rw [tot_zero]
    exact Nat.le_refl _
end
set_option maxHeartbeats 1000000 in
set_option maxRecDepth 100000 in
theorem reset {w : World} {p m cap peak k : Nat} {q n g : Nat → Nat} (h : Ab w p m cap peak k q n g) :
    Calls Try.prog 12 #[.pointer (some ⟨p, 0, none⟩)] w fun e w' => e = .returned (.tuple #[]) ∧ Ab w' p m cap 0 k q (fun _ => 0) g ∧ Fr (Mine p m k q) w w' := by
  have c4 := h.c4
  have RG := run_range_map (P := Try.prog) w 42 _ _ m (ents q n k) k Try.underlying42 h.hm
  have R0 := Lib.hid (Rs.start h)
  obtain ⟨r, hr⟩ : ∃ r, r = w.heap.size := ⟨_, rfl⟩
  obtain ⟨w0, hw0⟩ : ∃ w0, w0 = w.alloc (.mapIter (some m) k #[] k) := ⟨_, rfl⟩
  rw [← hw0, ← hr] at RG R0
  clear h hw0 hr
  go_enter Try.func12, Try.ntmps12
  go_wp2_with fail
  go_loopw [3] (fun _ wr => ∃ n' seen, Rs w wr p m cap peak k q g r n' seen) (fun _ wr => wr.rangeLeft m r)
  case atStart => exact ⟨n, #[], R0.out⟩
  case round =>
    obtain ⟨n', seen, X⟩ := hrel
    clear R0 RG c4
    rcases X.next with ⟨h0, NX⟩ | ⟨i, w2, hi, h0, NX, EN, A2, F3⟩
    · have E := Lib.hid (X.end_ h0)
      have c2 := X.a.c2
      have z2 := X.a.z 2
      clear X h0
      go_wp2
      go_end0
      exact ⟨rfl, E.out⟩
    · have RL := Lib.hid (release i A2 hi h0)
      have F3 := Lib.hid F3
      clear X A2 hi h0
      go_wp2_with fail
      refine RL.out.mono ?_
      rintro e w3 ⟨rfl, A3, G3⟩
      have F4 := Lib.hid (F3.out w3 A3 G3)
      clear RL A3 G3 F3 NX EN
      go_wp2_with fail
      go_roundw
      case rel => exact ⟨_, _, F4.out.1⟩
      case measure => exact F4.out.2
end Ar
end Go.Proofs.Ythkpndlladmcnaa
