/- Layer 15: the contract of put. -/
import Derived.Test.YtfjlhbamldgklaaDiskE
set_option linter.unusedVariables false
namespace Go.Proofs.Ytfjlhbamldgklaa
open Go.RowKit Go.Lib Go.ChangeMaps
namespace Dk
open Ww
section
variable {w : World} {L : Ly} {z n k : Nat} {d : Dm}
theorem lb_self {bs : List UInt8} {z : Nat} (h : bs.length = z) : lb bs z = bs := by
  apply List.ext_getElem?
  intro i
  by_cases hi : i < z
  · have : i < bs.length := by omega
    simp [lb, hi, List.getD, this]
  · rw [List.getElem?_eq_none (by rw [lb_len]; omega), List.getElem?_eq_none (by omega)]
theorem bl_call {w W W1 : World} (h : Below w.heap.size w W) (h1 : Below W.heap.size W W1) : Below w.heap.size w W1 := h.trans (h1.mono h.size)
/-- What the cache is behind a store. -/
theorem stores {m n k i : Nat} {c : Nat → Option Value} (hi : i < n) (hn : n ≤ 1048576) (hk : k < 4611686018427387904) : ∃ up : Value → World → World, ∀ (V : Value) (W : World), Mp W m n c k →
    (Instr.mapUpdate 29 (.map (some m)) (.int .i64 (i : Int)) V).run Try.prog W = .ok () (up V W) ∧ Mp (up V W) m n (cput c i V) (k + 1) ∧ W.mapTurned (up V W) m := by
  classical
  refine ⟨fun V W => if h : Mp W m n c k then (h.store V hi (by omega) hk).choose else W, fun V W h => ?_⟩
  simp only [h, dif_pos]
  exact (h.store V hi (by omega) hk).choose_spec
set_option maxHeartbeats 2000000 in
set_option maxRecDepth 100000 in
/-- A sector is written. -/
theorem put_ (h : Db w L z n d k) (i : Nat) (hi : i < n) (hk : k < 4611686018427387904) (A : Option Addr) (q : Nat) (bs : List UInt8) (R : Bs w w.heap.size A bs) (hb : bs.length = z) :
    Calls Try.prog 36 #[.pointer (some ⟨L.p, 0, none⟩), .int .i64 (i : Nat), .slice A bs.length q] w (DO L z n { d with f := put d.f i (wrote (d.f i) ⟨bs.toArray⟩) } (k + 1) (.tuple #[]) w) := by
  obtain ⟨φ, sf, c, h⟩ := h
  have hz := h.lz
  have hln := h.ln
  obtain ⟨up, hup⟩ := stores (m := L.m) (c := c) hi hln.2 hk
  have i1 : (i : Int) < n := by omega
  have CL := Lib.hid (fun W (hW : Below w.heap.size w W) => clone A q bs W (R.step hW) (by omega) (by omega))
  have HH := Lib.hid h
  have c2 : w.cell? ⟨L.p, 2, none⟩ = some (.map (some L.m)) := h.cells.2.2.1
  have PX := Lib.hid (show ∀ W, Below w.heap.size w W → W.cell? ⟨L.p, 2, none⟩ = some (.map (some L.m)) from fun W hW => (h.below hW).cells.2.2.1)
  have PY := Lib.hid (show ∀ V W, Below w.heap.size w W → (up V W).cell? ⟨L.p, 2, none⟩ = some (.map (some L.m)) from fun V W hW => by
    have hD := h.below hW
    obtain ⟨_, h2, h3⟩ := hup V W hD.hm
    exact blk_cell (((Fr.refl (fun b => b = L.m) _).map h3 (Or.inl rfl)).at_ hD.hp (fun e => hD.pm e)) 2)
  have PE := Lib.hid (show ∀ V W, Below w.heap.size w W → (Instr.mapUpdate 29 (.map (some L.m)) (.int .i64 (i : Int)) V).run Try.prog W = .ok () (up V W) from fun V W hW => (hup V W ((h.below hW).hm)).1)
  -- what stands behind the store into the cache
  have TX := Lib.hid (show ∀ (A' : Option Addr) (q' : Nat) W, Below w.heap.size w W → Bs W W.heap.size A' bs → (up (.slice A' bs.length q') W).cell? ⟨L.p, 3, none⟩ = some (.slice (some ⟨L.t, 0, none⟩) n n) ∧ (∃ x, (up (.slice A' bs.length q') W).cell? ⟨L.t, i, none⟩ = some (.bool x)) ∧
      (up (.slice A' bs.length q') W).frozen? ⟨L.t, i, none⟩ = false ∧ DO L z n { d with f := put d.f i (wrote (d.f i) ⟨bs.toArray⟩) } (k + 1) (.tuple #[]) w (.returned (.tuple #[])) ((up (.slice A' bs.length q') W).setCell ⟨L.t, i, none⟩ (.bool true)) from fun A' q' W hW R' => by
    have hD := h.below hW
    obtain ⟨_, h2, h3⟩ := hup (.slice A' bs.length q') W hD.hm
    obtain ⟨W2, hW2⟩ : ∃ W2, W2 = up (.slice A' bs.length q') W := ⟨_, rfl⟩
    rw [← hW2] at h2 h3 ⊢
    have f1 : Fr (fun b => b = L.m) W W2 := (Fr.refl _ _).map h3 (Or.inl rfl)
    have nb := hD.nobytes
    have nb1 : NoBytes W (fun b => b = L.m) := nb.mono fun b e => Or.inr (Or.inr (Or.inr e))
    have hp2 : W2.heap[L.p]? = some (dobj L z n d φ) := f1.at_ hD.hp (fun e => hD.pm e)
    have ht2 : W2.rowIs L.t 4 n (fun i => .bool (d.f i).touched) := hD.ht.of_block (f1.block _ hD.ht.lt (fun e => hD.tm e))
    have hs2 : W2.rowIs L.s 47 n sf := hD.hs.of_block (f1.block _ hD.hs.lt (fun e => hD.sm e))
    have f2 : Fr (fun b => b = L.t) W2 (W2.setCell ⟨L.t, i, none⟩ (.bool true)) := (Fr.refl _ _).put _ _ (Or.inl rfl)
    have f3 : Fr (fun b => b = L.m ∨ b = L.t) W (W2.setCell ⟨L.t, i, none⟩ (.bool true)) := (f1.mono fun b e => Or.inl e).step (f2.mono fun b e => Or.inr e)
    have nb3 : NoBytes W (fun b => b = L.m ∨ b = L.t) := nb.mono fun b e => by
      rcases e with e | e
      · exact Or.inr (Or.inr (Or.inr e))
      · exact Or.inr (Or.inr (Or.inl e))
    have ht3 := ht2.set i (.bool true)
    refine ⟨blk_cell hp2 3, ⟨_, ht2.cell hi⟩, ht2.frozen i, rfl, ⟨φ, sf, cput c i (.slice A' bs.length q'), ⟨(f2.at_ hp2 (fun e => hD.pt e)), hs2.of_block (f2.block _ hs2.lt (fun e => hD.st e)), ht3.congr fun j hj => ?_, h2.keep (f2.block _ (by obtain ⟨es, cl, e⟩ := h2.block; exact (Array.getElem?_eq_some_iff.1 e).1) (fun e => hD.tm e.symm)),
      fun j hj => ?_, fun j hj hc => ?_, fun j v hj hc => ?_, h.hφ, h.bφ, h.ln, h.lz⟩⟩, ?_⟩
    · by_cases e : j = i
      · subst e; simp [put, wrote]
      · simp [put, e]
    · have := (hD.hv j hj).fr f3 nb3
      by_cases e : j = i
      · subst e; simpa [put, wrote] using this
      · simpa [put, e] using this
    · by_cases e : j = i
      · subst e; simp [cput] at hc
      · simp only [cput, e, if_false] at hc
        simpa [put, e] using hD.hn j hj hc
    · by_cases e : j = i
      · subst e
        simp only [cput, if_true, Option.some.injEq] at hc
        subst hc
        refine ⟨by simp [put, wrote], A', q', bs, rfl, bs_fr R' f3 nb3, ?_⟩
        simp [put, wrote, lb_self hb]
      · simp only [cput, e, if_false] at hc
        have := hD.hc j v hj hc
        refine ⟨by simpa [put, e] using this.1, ?_⟩
        have t := this.2.fr f3 nb3
        simpa [put, e] using t
    · exact (Fr.of_below hW).trans f3 fun b e => by
        rcases e with e | e
        · exact Or.inl (Or.inr (Or.inr (Or.inr e)))
        · exact Or.inl (Or.inr (Or.inr (Or.inl e))))
  obtain ⟨l, hl⟩ : ∃ l, l = bs.length := ⟨_, rfl⟩
  rw [← hl] at CL TX ⊢
  have M : Below w.heap.size w w := Below.refl _ _
  clear h hup R hb hl HH hln hz hi hk
  obtain ⟨p, s, t, m⟩ := L
  go_enter Try.func36, Try.ntmps36
  go_upto_region 0 with fail
  go_cut [] (fun wx => ∃ A' q' W, wx = up (.slice A' l q') W ∧ Below w.heap.size w W ∧ Bs W W.heap.size A' bs)
  case first =>
    go_region_held3 (fun w' => w'.cell? ⟨p, 2, none⟩ = some (.map (some m)))
      (first | (with_reducible exact PY.out _ _ (by repeat (first | with_reducible exact M | with_reducible exact Below.refl _ _ | with_reducible refine Below.drew ?_ | with_reducible refine bl_call ?_ h3))) | exact PX.out _ (by repeat (first | with_reducible exact M | with_reducible exact Below.refl _ _ | with_reducible refine Below.drew ?_ | with_reducible refine bl_call ?_ h3)))
      (first
        | (go_at_call 40; (with_reducible refine (CL.out _ (by repeat (first | with_reducible exact M | with_reducible exact Below.refl _ _ | with_reducible refine Below.drew ?_))).mono ?_); rintro e w3 ⟨A', q', rfl, K3, h3⟩; have u3 := PE.out (.slice A' l q') w3 (by repeat (first | with_reducible exact M | with_reducible exact Below.refl _ _ | with_reducible refine Below.drew ?_ | with_reducible refine bl_call ?_ h3))))
    all_goals (go_wp2_with fail; go_meet)
    all_goals exact ⟨_, _, _, rfl, (by repeat (first | with_reducible exact M | with_reducible exact Below.refl _ _ | with_reducible refine Below.drew ?_ | with_reducible refine bl_call ?_ h3)), K3⟩
  case rest =>
    obtain ⟨A', q', W, rfl, hW, R'⟩ := hcut
    obtain ⟨t3, ⟨x, t4⟩, t5, F⟩ := TX.out A' q' W hW R'
    replace F := Lib.hid F
    generalize up (.slice A' l q') W = W2 at *
    clear TX PX PY PE CL hW R' M
    go_wp2
    go_end0
    exact F.out
end
end Dk
end Go.Proofs.Ytfjlhbamldgklaa
