/- Layer 15: contracts of Clone, get, put, save. -/
import Derived.Test.YtfjlhbamldgklaaDiskD
import Derived.Deep.RegionHeld3
set_option linter.unusedVariables false
namespace Go.Proofs.Ytfjlhbamldgklaa
open Go.RowKit Go.Lib Go.ChangeMaps
namespace Dk
open Ww

theorem byteCells_one (l : List UInt8) : ∀ v ∈ Lib.byteCells l, v.oneCell' = true := by
  intro v hv
  simp [Lib.byteCells] at hv
  obtain ⟨a, _, rfl⟩ := hv
  rfl
/-- append of bytes onto none. -/
theorem append_bytes (w : World) {ops : Array Oper} {rest : List Oper} {o : Oper} {a : Act} {Q : Exit → Act → World → Prop} (hgd : o.guard = none) (s x : Operand)
    (ho : o.op = .call { callee := .builtin .append, args := #[s, x], argTypes := #[47, 47] })
    (base : Nat) (v : Value) (hs : a.eval s = v) (hown : w.ownsRow base 5 1 v 0 []) (B : Nat) (A : Option Addr) (c : Nat) (bs : List UInt8) (hx : a.eval x = .slice A bs.length c) (R : Bs w B A bs) (h0 : 0 < bs.length)
    (hlen : bs.length ≤ 1099511627776) (hbase : base ≤ w.heap.size)
    (h : ∀ v' w', Ob w' base v' bs → w.grownBy w' v.ownBlock → wpList Try.prog ops Q rest (a.put o.dst v') w') : wpList Try.prog ops Q (o :: rest) a w := by
  obtain ⟨i, hi⟩ : ∃ i, Try.prog.info? 5 = some i := by
    cases e : Try.prog.info? 5 with
    | none => have := infoB; rw [e] at this; cases this
    | some i => exact ⟨i, rfl⟩
  have hU := infoB
  rw [hi] at hU
  simp only [Option.map_some, Option.some.injEq, Prod.mk.injEq] at hU
  obtain ⟨g, off, rfl, hg, _⟩ := R.at_ 0 h0
  refine wpList_append_own w hgd s x _ ho base _ i _ 1 1 Try.underlying47 hi hU.1 hU.2.1 hU.2.2 rfl (by decide) v 0 [] hs hown ⟨g, off, none⟩ bs.length c (Lib.byteCells bs) hx (by simp [Lib.byteCells]) ?_ (byteCells_one bs) ?_ ?_ hbase fun v' w' h1 h2 _ => h v' w' ?_ h2
  · intro j u hu
    have hj : j < bs.length := by
      have := (List.getElem?_eq_some_iff.1 hu).1
      simpa [Lib.byteCells] using this
    obtain ⟨g', off', e, _, cc⟩ := R.at_ j hj
    cases e
    rw [add_none, cc]
    simp [Lib.byteCells, hj] at hu
    rw [← hu]
    simp [List.getD, hj]
  · simp only [maxLen]; omega
  · omega
  · rw [Nat.zero_add, List.nil_append] at h1
    exact h1
theorem eql_none (a : Addr) (l c : Nat) (W : World) : (binOp .eql 47 (.slice (some a) l c) (.slice none 0 0)).run Try.prog W = .ok (.bool false) W := by kernel_rfl
theorem cloned {w w1 : World} {l : Nat} {bs : List UInt8} {v7 : Value} {o : Obj} (HE : l = bs.length) (HB : Below w.heap.size w (w.alloc o)) (O : Ob w1 w.heap.size v7 bs) (hg : (w.alloc o).grownBy w1 (Value.slice (some ⟨w.heap.size, 0, none⟩) 0 0).ownBlock) :
    ∃ A' c', Ending.returned v7 = .returned (.slice A' l c') ∧ Bs w1 w1.heap.size A' bs ∧ Below w.heap.size w w1 := by
  obtain ⟨A', c', e, R', _⟩ := O.reads
  exact ⟨A', c', by rw [e, HE], R', HB.grown hg (by simp) (fun k hk => by cases hk; exact Nat.le_refl _)⟩
set_option maxHeartbeats 1000000 in
set_option maxRecDepth 100000 in
theorem clone (A : Option Addr) (c : Nat) (bs : List UInt8) (w : World) (R : Bs w w.heap.size A bs) (h0 : 0 < bs.length) (hl : bs.length ≤ 1000000) :
    Calls Try.prog 40 #[.slice A bs.length c] w fun e w' => ∃ A' c', e = .returned (.slice A' bs.length c') ∧ Bs w' w'.heap.size A' bs ∧ Below w.heap.size w w' := by
  have E := Lib.hid (show (w.alloc (.cells #[] 5)).ownsRow w.heap.size 5 1 (.slice (some ⟨w.heap.size, 0, none⟩) 0 0) 0 [] from World.ownsRow_made w #[] 0 (Nat.le_refl _) (by simp [maxLen]) (by simp))
  have HB := Lib.hid ((Below.refl w.heap.size w).alloc (Nat.le_refl _) (.cells #[] 5))
  have R1 := Lib.hid (R.step HB.out)
  obtain ⟨g, off, rfl, _, _⟩ := R.at_ 0 h0
  have H0 := Lib.hid h0
  have HL := Lib.hid hl
  obtain ⟨l, hl2⟩ : ∃ l, l = bs.length := ⟨_, rfl⟩
  have HE := Lib.hid hl2
  rw [← hl2]
  have eq := eql_none
  clear R h0 hl hl2
  go_enter Try.func40, Try.ntmps40
  go_wp2_with (at_builtin; (refine append_bytes (w.alloc (.cells #[] 5)) ?hgd (.tmp 5) (.tmp 6) ?ho w.heap.size _ ?hs E.out _ (some ⟨g, off, none⟩) c bs ?hx R1.out H0.out ?c1 ?c2 (fun v7 w1 O hg => ?_)); (case hgd => rfl); (case ho => rfl); (case hs => rfl); (case hx => rw [← HE.out]; rfl); (case c1 => have := HL.out; omega); (case c2 => simp); (have F := Lib.hid (cloned HE.out HB.out O hg)); clear O hg)
  exact bodyPost_ret (v := v7) (by simp [results, Try.results40, go_sem]) rfl F.out

section
variable {w : World} {L : Ly} {z n k : Nat} {d : Dm}
/-- What get answers: the bytes t in a block of their own. -/
def Gt (z : Nat) (t : ByteArray) (w : World) (e : Ending) (w' : World) : Prop := ∃ bs, e = .returned (.slice (some ⟨w.heap.size, 0, none⟩) z z) ∧ Bs w' w'.heap.size (some ⟨w.heap.size, 0, none⟩) bs ∧ bs.length = z ∧ t = ⟨bs.toArray⟩ ∧ Below w.heap.size w w'
theorem got {w w2 : World} {z : Nat} {bs : List UInt8} (b1 : Below w.heap.size w (w.alloc (.cells (madeCells #[.int .u8 0] z) 5))) (K2 : Bk w2 w.heap.size z (fun i => if i < bs.length then (bs.getD i 0).toNat else 0)) (d2 : Below w.heap.size (w.alloc (.cells (madeCells #[.int .u8 0] z) 5)) w2)
    (s2 : w2.heap.size = (w.alloc (.cells (madeCells #[.int .u8 0] z) 5)).heap.size) : Gt z ⟨(lb bs z).toArray⟩ w (.returned (.slice (some ⟨w.heap.size, 0, none⟩) z z)) w2 :=
  ⟨lb bs z, rfl, K2.reads (lb_len bs z) (fun i hi => by
      rw [lb_at bs z i hi]
      by_cases h : i < bs.length
      · rw [if_pos h]
      · rw [if_neg h]
        simp [List.getD, List.getElem?_eq_none (Nat.le_of_not_lt h)]) (by rw [s2]; simp), lb_len bs z, rfl, b1.trans d2⟩
set_option maxHeartbeats 1000000 in
set_option maxRecDepth 100000 in
theorem get (h : Db w L z n d k) (i : Nat) (hi : i < n) : Calls Try.prog 35 #[.pointer (some ⟨L.p, 0, none⟩), .int .i64 (i : Nat)] w (Gt z (d.f i).now w) := by
  obtain ⟨φ, sf, c, h⟩ := h
  obtain ⟨c0, c1, c2, _⟩ := h.cells
  have hz := h.lz
  have hln := h.ln
  have lk := h.hm.look hi (by omega)
  have mk := make_bytes z (by omega)
  have K := Lib.hid (Bk.made w z 5)
  have b1 := Lib.hid ((Below.refl w.heap.size w).alloc (Nat.le_refl _) (.cells (madeCells #[.int .u8 0] z) 5))
  have i1 : (i : Int) < n := by omega
  have RS := fun (A : Option Addr) (bs : List UInt8) (R : Bs w w.heap.size A bs) => (show Bs (w.alloc (.cells (madeCells #[.int .u8 0] z) 5)) w.heap.size A bs from R.below b1.out)
  obtain ⟨A, q, bs, e, R, et⟩ : Hs w z ((c i).getD (sf i)) (d.f i).now := by
    cases ec : c i with
    | none => rw [(h.hn i hi ec).2]; exact h.hv i hi
    | some v => exact (h.hc i v hi ec).2
  have R1 := Lib.hid (RS A bs R)
  have sc := h.hs.cell hi
  rw [et]
  obtain ⟨l, hl⟩ : ∃ l, l = bs.length := ⟨_, rfl⟩
  have HE := Lib.hid hl
  rw [← hl] at e
  clear h et R RS hl hz hln
  obtain ⟨p, s, t, m⟩ := L
  cases ec : c i with
  | none =>
    rw [ec] at lk e
    simp at lk e
    rw [e] at sc
    clear e ec
    go_enter Try.func35, Try.ntmps35
    go_upto_region 6 with ((refine copy_bytes (w.alloc (.cells (madeCells #[.int .u8 0] z) 5)) ?hgd (.tmp 31) (.tmp 32) ?ho w.heap.size z z (fun _ => 0) w.heap.size A q bs ?hd ?hs K.out R1.out (fun w2 r K2 d2 s2 => ?_)); (case hgd => rfl); (case ho => rfl); (case hd => rfl); (case hs => rw [← HE.out]; rfl))
    have F := Lib.hid (got b1.out K2 d2 s2)
    clear K2 d2 s2 K b1 mk R1 HE
    go_wp2
    exact bodyPost_ret (v := .slice (some ⟨w.heap.size, 0, none⟩) z z) (by simp [results, Try.results35, go_sem]) rfl F.out
  | some v =>
    rw [ec] at lk e
    simp at lk e
    subst e
    clear ec sc
    go_enter Try.func35, Try.ntmps35
    go_upto_region 6 with ((refine copy_bytes (w.alloc (.cells (madeCells #[.int .u8 0] z) 5)) ?hgd (.tmp 31) (.tmp 32) ?ho w.heap.size z z (fun _ => 0) w.heap.size A q bs ?hd ?hs K.out R1.out (fun w2 r K2 d2 s2 => ?_)); (case hgd => rfl); (case ho => rfl); (case hd => rfl); (case hs => rw [← HE.out]; rfl))
    have F := Lib.hid (got b1.out K2 d2 s2)
    clear K2 d2 s2 K b1 mk R1 HE
    go_wp2
    exact bodyPost_ret (v := .slice (some ⟨w.heap.size, 0, none⟩) z z) (by simp [results, Try.results35, go_sem]) rfl F.out
set_option maxHeartbeats 1000000 in
/-- A sector of the cache is made safe. -/
theorem save {v : Value} {sf : Nat → Value} {c : Nat → Option Value} (c1 : w.cell? ⟨L.p, 1, none⟩ = some (.slice (some ⟨L.s, 0, none⟩) n n)) (c2 : w.cell? ⟨L.p, 2, none⟩ = some (.map (some L.m))) (hs : w.rowIs L.s 47 n sf) (hm : Mp w L.m n c k)
    (i : Nat) (hi : i < n) (hn : n ≤ 1048576) (hc : c i = some v) (hv : ∃ A l q, v = .slice A l q) : Calls Try.prog 32 #[.pointer (some ⟨L.p, 0, none⟩), .int .i64 (i : Nat)] w fun e w' => e = .returned (.tuple #[]) ∧ w' = (w.setCell ⟨L.s, i, none⟩ v).drew := by
  have lk := (hm.keep (w' := w.drew) rfl).look1 hi (by omega) hc
  have sc := hs.cell hi
  have sz := hs.frozen i
  have i1 : (i : Int) < n := by omega
  obtain ⟨A, l, q, rfl⟩ := hv
  clear hm hs hc
  obtain ⟨p, s, t, m⟩ := L
  go_enter Try.func32, Try.ntmps32
  go_region
  all_goals go_wp2
  all_goals go_end0
  all_goals exact ⟨rfl, rfl⟩
end
end Dk
end Go.Proofs.Ytfjlhbamldgklaa
