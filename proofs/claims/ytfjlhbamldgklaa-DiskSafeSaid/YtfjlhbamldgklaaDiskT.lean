/- Layer 15: contracts of abacistref15's New and of the law's laid; copy of bytes. -/
import Derived.Test.YtfjlhbamldgklaaDiskS
import Derived.Laws.CopyOwn
import Derived.Laws.IdiomCopy
set_option linter.unusedVariables false
namespace Go.Proofs.Ytfjlhbamldgklaa
open Go.RowKit Go.Lib
namespace Dk
open Ww

theorem below_setCells (b : Nat) : ∀ (vs : List Value) (o : Nat) (w : World), Below b w (w.setCells b o vs) ∧ (w.setCells b o vs).heap.size = w.heap.size
  | [], _, w => ⟨Below.refl _ _, rfl⟩
  | v :: r, o, w => by
    have h := below_setCells b r (o + 1) (w.setCell ⟨b, o, none⟩ v)
    exact ⟨((Below.refl b w).setCell (p := ⟨b, o, none⟩) (Nat.le_refl b) v).trans h.1, by rw [World.setCells, h.2]; simp [World.setCell]⟩
/-- copy(dst, src) of bytes over a block of one's own, as many as there are, or as there is room for. -/
theorem copy_bytes (w : World) {ops : Array Oper} {rest : List Oper} {o : Oper} {a : Act} {Q : Exit → Act → World → Prop} (hgd : o.guard = none) (d s : Operand)
    (ho : o.op = .call { callee := .builtin .copy, args := #[d, s], argTypes := #[47, 47] }) (b n ca : Nat) (f : Nat → Nat) (B : Nat) (A : Option Addr) (c2 : Nat) (bs : List UInt8)
    (hd : a.eval d = .slice (some ⟨b, 0, none⟩) n ca) (hs : a.eval s = .slice A bs.length c2) (K : Bk w b n f) (R : Bs w B A bs)
    (h : ∀ w' r, Bk w' b n (fun i => if i < bs.length then (bs.getD i 0).toNat else f i) → Below b w w' → w'.heap.size = w.heap.size → wpList Try.prog ops Q rest (a.put o.dst r) w') : wpList Try.prog ops Q (o :: rest) a w := by
  refine wpList_plain hgd fun KK hK => ?_
  have hU := infoB
  have hsz : (Try.prog.info? 5).map (·.size) = some 1 := by
    cases e : Try.prog.info? 5 with
    | none => rw [e] at hU; cases hU
    | some i =>
      rw [e] at hU
      simp only [Option.map_some, Option.some.injEq, Prod.mk.injEq] at hU ⊢
      exact hU.2.1
  have hrun : ∃ r w', (Builtin.copy_ #[47, 47] o.type #[.slice (some ⟨b, 0, none⟩) n ca, .slice A bs.length c2]).run Try.prog w = .ok r w' ∧ Bk w' b n (fun i => if i < bs.length then (bs.getD i 0).toNat else f i) ∧ Below b w w' ∧ w'.heap.size = w.heap.size := by
    by_cases h0 : Nat.min bs.length n = 0
    · have h2 : min bs.length n = 0 := h0
      refine ⟨_, w, run_copy_none w _ _ o.type 5 _ A n ca bs.length c2 Try.underlying47 hsz h0, K.like fun i hi => ?_, Below.refl _ _, rfl⟩
      have : bs.length = 0 := by
        rcases Nat.le_total bs.length n with h1 | h1
        · rwa [Nat.min_eq_left h1] at h2
        · rw [Nat.min_eq_right h1] at h2
          subst h2
          exact absurd hi (by omega)
      rw [if_neg (by omega)]
    · have hl1 : 0 < bs.length := Nat.pos_of_ne_zero fun e => h0 (by rw [e]; exact Nat.zero_min n)
      obtain ⟨m, hm⟩ : ∃ m, m = Nat.min bs.length n := ⟨_, rfl⟩
      have m1 : m ≤ bs.length := by rw [hm]; exact Nat.min_le_left _ _
      have m2 : m ≤ n := by rw [hm]; exact Nat.min_le_right _ _
      have m3 : ∀ i, i < n → (i < m ↔ i < bs.length) := fun i hi => ⟨fun h => by omega, fun h => by rw [hm]; exact Nat.lt_min.2 ⟨h, hi⟩⟩
      obtain ⟨b2, o2, rfl, _, _⟩ := R.at_ 0 hl1
      have hl : ((List.range m).map fun i => Value.int .u8 ((bs.getD i 0).toNat : Nat)).length = m := by simp
      have hc : ∀ j (h : j < ((List.range m).map fun i => Value.int .u8 ((bs.getD i 0).toNat : Nat)).length), ((List.range m).map fun i => Value.int .u8 ((bs.getD i 0).toNat : Nat))[j] = .int .u8 ((bs.getD j 0).toNat : Nat) := fun j h => by simp
      have hrun := run_copy_cells (P := Try.prog) w 47 47 o.type 5 b 0 n ca ⟨b2, o2, none⟩ bs.length c2 ((List.range m).map fun i => Value.int .u8 ((bs.getD i 0).toNat : Nat)) Try.underlying47 hsz (by rw [hl]; exact hm)
        (fun j v hv => by
          obtain ⟨hj, e⟩ := List.getElem?_eq_some_iff.1 hv
          obtain ⟨b', o', e2, _, c⟩ := R.at_ j (by rw [hl] at hj; omega)
          cases e2
          rw [add_none, ← e, hc j hj]
          exact c)
        (fun j hj => by rw [Nat.zero_add, K.c j (by rw [hl] at hj; omega)]; rfl)
        (fun j hj => by rw [Nat.zero_add]; exact K.z j (by rw [hl] at hj; omega))
        (fun v hv => by
          simp at hv
          obtain ⟨i, _, rfl⟩ := hv
          rfl)
      have hB := below_setCells b ((List.range m).map fun i => Value.int .u8 ((bs.getD i 0).toNat : Nat)) 0 w
      refine ⟨_, _, hrun, ⟨fun i hi => ?_, fun i hi => by rw [World.frozen?_setCells]; exact K.z i hi⟩, hB.1, hB.2⟩
      by_cases h : i < m
      · have := World.cell?_setCells_in b ((List.range m).map fun i => Value.int .u8 ((bs.getD i 0).toNat : Nat)) 0 w (fun j hj => by rw [Nat.zero_add, K.c j (by rw [hl] at hj; omega)]; rfl) i (by rw [hl]; exact h)
        rw [Nat.zero_add] at this
        rw [this, hc i (by rw [hl]; exact h), if_pos ((m3 i hi).1 h)]
      · rw [World.cell?_setCells_out b _ 0 w ⟨b, i, none⟩ (fun _ _ => by
          show i < 0 ∨ _ ≤ i
          rw [hl]
          omega), K.c i hi, if_neg (fun e => h ((m3 i hi).2 e))]
  obtain ⟨r, w', hr, k1, k2, k3⟩ := hrun
  unfold Oper.wp
  simp [execOp, ho, resolve, invoke, builtin, hd, hs, hr, Result.andThen]
  exact hK _ _ (h w' r k1 k2 k3)

/-- Bytes as long as a sector. -/
def lb (bs : List UInt8) (n : Nat) : List UInt8 := (List.range n).map fun i => bs.getD i 0
theorem lb_len (bs : List UInt8) (n : Nat) : (lb bs n).length = n := by simp [lb]
theorem lb_at (bs : List UInt8) (n i : Nat) (h : i < n) : (lb bs n).getD i 0 = bs.getD i 0 := by simp [lb, List.getD, h]
set_option maxHeartbeats 400000 in
set_option maxRecDepth 100000 in
theorem laid (B : Nat) (A : Option Addr) (c n : Nat) (bs : List UInt8) (w : World) (R : Bs w B A bs) (hn : n ≤ 281474976710656) :
    Calls Try.prog 22 #[.slice A bs.length c, .int .i64 (n : Nat)] w fun e w' => e = .returned (.slice (some ⟨w.heap.size, 0, none⟩) n n) ∧ Bs w' w'.heap.size (some ⟨w.heap.size, 0, none⟩) (lb bs n) ∧ Below w.heap.size w w' := by
  have mk := make_bytes n hn
  have K := Lib.hid (Bk.made w n 5)
  have b1 := Lib.hid ((Below.refl w.heap.size w).alloc (Nat.le_refl _) (.cells (madeCells #[.int .u8 0] n) 5))
  have R1 := Lib.hid (fun (B' : Nat) (h : B' ≤ w.heap.size) (R : Bs w B' A bs) => R.below (b1.out.mono h))
  have R2 := Lib.hid (show Bs (w.alloc (.cells (madeCells #[.int .u8 0] n) 5)) w.heap.size A bs from ⟨fun i hi => by
    obtain ⟨b, off, e, hb, cc⟩ := R.at_ i hi
    have hl := World.block_lt_of_cell? w _ cc
    exact ⟨b, off, e, hl, (b1.out.cell (p := ⟨b, off + i, none⟩) hl).trans cc⟩⟩)
  clear R hn R1
  go_enter Try.func22, Try.ntmps22
  go_upto_region 3 with ((refine copy_bytes (w.alloc (.cells (madeCells #[.int .u8 0] n) 5)) ?hgd (.tmp 8) (.tmp 9) ?ho w.heap.size n n (fun _ => 0) w.heap.size A c bs ?hd ?hs K.out R2.out (fun w2 r K2 d2 s2 => ?_)); (case hgd => rfl); (case ho => rfl); (case hd => rfl); (case hs => rfl))
  have F := Lib.hid (show Bs w2 w2.heap.size (some ⟨w.heap.size, 0, none⟩) (lb bs n) ∧ Below w.heap.size w w2 from
    ⟨K2.reads (lb_len bs n) (fun i hi => by
      rw [lb_at bs n i hi]
      by_cases h : i < bs.length
      · rw [if_pos h]
      · rw [if_neg h]
        simp [List.getD, List.getElem?_eq_none (Nat.le_of_not_lt h)]) (by rw [s2]; simp), b1.out.trans d2⟩)
  clear K2 d2 s2 K R2 b1 mk
  go_wp2
  go_ret
  exact ⟨by simp [go_sem], F.out⟩

/-- A text of n noughts. -/
def zb (n : Nat) : ByteArray := ⟨(List.replicate n (0 : UInt8)).toArray⟩
def sec0 (n : Nat) : Sec := ⟨zb n, zb n, false, false⟩
theorem build_sec (a b : ByteArray) (W : World) : (Instr.build 71 #[(0, .string a), (1, .string b)]).run Try.prog W = .ok (.agg #[.string a, .string b, .bool false, .bool false]) W := by kernel_rfl
set_option maxHeartbeats 1000000 in
set_option maxRecDepth 100000 in
theorem rnew (n z : Nat) (w : World) (hn : n ≤ 1099511627775) (hz : z ≤ 281474976710656) :
    Calls Try.prog 11 #[.int .i64 (n : Nat), .int .i64 (z : Nat)] w (SxN (fun _ => sec0 z) n w) := by
  have mk := make_bytes z hz
  have K := Lib.hid (Bk.made w z 5)
  have b1 := Lib.hid ((Below.refl w.heap.size w).alloc (Nat.le_refl _) (.cells (madeCells #[.int .u8 0] z) 5))
  obtain ⟨w1, hw1⟩ : ∃ w1, w1 = w.alloc (.cells (madeCells #[.int .u8 0] z) 5) := ⟨_, rfl⟩
  have s1 : w1.heap.size = w.heap.size + 1 := by rw [hw1]; simp
  have R := Lib.hid (show Bs w1 w1.heap.size (some ⟨w.heap.size, 0, none⟩) (List.replicate z (0 : UInt8)) from by
    rw [← hw1] at K
    exact K.out.reads (by simp) (fun i hi => by simp [List.getD, hi]) (by omega))
  have D := Lib.hid (show Below w.heap.size w w1 from by rw [← hw1] at b1; exact b1.out)
  have J := Lib.hid (And.intro (Sx.nil_ w1 w1.heap.size (fun _ => sec0 z)) (Below.refl w1.heap.size w1))
  have LZ := Lib.hid (show (List.replicate z (0 : UInt8)).length = z by simp)
  have HN := Lib.hid hn
  have bd := build_sec
  rw [← hw1] at K b1
  have mk1 := mk w
  rw [← hw1] at mk1
  have W1 := Lib.hid s1
  clear mk hw1 K b1 hn hz s1
  go_enter Try.func11, Try.ntmps11
  go_wp2_with fail
  go_loopw [6, 7] (fun v6 v7 wr => ∃ j : Nat, v7 = .int .i64 (j : Int) ∧ j ≤ n ∧ Sx wr w1.heap.size v6 (fun _ => sec0 z) j ∧ Below w1.heap.size w1 wr) (fun _ v7 _ => n - (Lib.intOf v7).toNat)
  case atStart => exact ⟨0, rfl, Nat.zero_le _, J.out⟩
  case round =>
    clear J
    obtain ⟨j, rfl, hj, O, D2⟩ := hrel
    by_cases hlt : j < n
    · have i1 : (j : Int) < n := by omega
      have cv := conv_bytes (R.out.below D2) z
      rw [LZ.out] at cv
      have cv2 : (convert 47 9 (.slice (some ⟨w.heap.size, 0, none⟩) z z)).run Try.prog wr = .ok (.string (zb z)) wr := cv
      have O1 := Lib.hid (show Sx (wr.alloc (.cells #[.string (zb z), .string (zb z), .bool false, .bool false] 71)) w1.heap.size u6 (fun _ => sec0 z) j from O.below ((Below.refl _ _).alloc (Nat.le_refl _) _))
      have D3 := Lib.hid (D2.alloc D2.size (.cells #[.string (zb z), .string (zb z), .bool false, .bool false] 71))
      have sz := Lib.hid D2.size
      have jn := HN.out
      have HJ := Lib.hid hlt
      clear O D2 cv
      go_upto_region 5 with (at_builtin; (refine append1 (wr.alloc (.cells #[.string (zb z), .string (zb z), .bool false, .bool false] 71)) ?hgd (.tmp 15) (.tmp 21) ?ho w1.heap.size u6 (fun _ => sec0 z) j ?hs O1.out wr.heap.size (sec0 z) ?hx 71 ?hc ?c1 ?c2 (fun v6 w5 P5 hg => ?_)); (case hgd => rfl); (case ho => rfl); (case hs => rfl); (case hx => rfl); (case hc => exact heap_alloc_new wr _); (case c1 => omega); (case c2 => have := sz.out; simp; omega))
      have P6 := Lib.hid (And.intro (P5.congr (g := fun _ => sec0 z) (fun i hi => by
        by_cases e : i = j
        · subst e; exact put_same _ _ _
        · exact put_other _ _ _ e)) (D3.out.grown hg (by have := sz.out; simp; omega) (fun k hk => (World.ownsRow.lt O1.out k hk).1)))
      clear P5 hg O1 D3 sz
      go_wp2_with fail
      go_roundw
      case rel => exact ⟨j + 1, rfl, by omega, P6.out⟩
      case measure => simp [Lib.intOf]; omega
    · have i1 : ¬ (j : Int) < n := by omega
      have ej : j = n := by omega
      subst ej
      have F := Lib.hid (show SxN (fun _ => sec0 z) j w (.returned u6) wr from ⟨_, rfl, O.less (by have := W1.out; omega), D.out.trans (D2.mono (by have := W1.out; omega))⟩)
      clear O D2
      go_wp2
      exact bodyPost_ret (v := u6) (by simp [results, Try.results11, go_sem]) rfl F.out
end Dk
end Go.Proofs.Ytfjlhbamldgklaa
