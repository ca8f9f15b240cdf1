/- Two rows that a call builds by append; the transform of a sum and of a turned row. -/
import Derived.Test.YtkgclgjlohofbaaDoorKernG
import Derived.Deep.RegionLaw
set_option linter.unusedVariables false
namespace Go.Proofs.YtkgclgjlohofbaaDoor
open Go.RowKit Go.Lib Go.Sort
namespace Kn
open Nm Ww Tn Pl Td

/-- Two rows of the call's own, in two blocks. -/
structure TwI (w wr : World) (v u : Value) (xs ys : List Nat) : Prop where
  e : Ow wr w.heap.size v xs
  o : Ow wr w.heap.size u ys
  a : Apart v u
  b : Below w.heap.size w wr
theorem TwI.nil_ {w w1 : World} (hb : Below w.heap.size w w1) : TwI w w1 (.slice none 0 0) (.slice none 0 0) [] [] := ⟨Ow.nil_ _ _, Ow.nil_ _ _, fun g h => by simp [Value.ownBlock] at h, hb⟩
theorem TwI.drew {w wr : World} {v u : Value} {xs ys : List Nat} (I : TwI w wr v u xs ys) : TwI w wr.drew v u xs ys := ⟨I.e.drewN 1, I.o.drewN 1, I.a, I.b.drew⟩
theorem TwI.fst {w wr w1 : World} {v u v1 : Value} {xs ys zs : List Nat} {ob : Obj} (I : TwI w wr v u xs ys) (O1 : Ow w1 w.heap.size v1 zs) (hg : (wr.alloc ob).grownBy w1 v.ownBlock) (hat : v1.ownBlock = v.ownBlock ∨ v1.ownBlock = some (wr.alloc ob).heap.size) : TwI w w1 v1 u zs ys :=
  ⟨O1, (I.o.alloc ob).other I.a hg, I.a.grown (I.o.alloc ob) hat, (I.e.alloc ob).grow (I.b.alloc I.b.size _) hg (by have := I.b.size; simp; omega)⟩
theorem TwI.snd {w wr w1 : World} {v u u1 : Value} {xs ys zs : List Nat} {ob : Obj} (I : TwI w wr v u xs ys) (O1 : Ow w1 w.heap.size u1 zs) (hg : (wr.alloc ob).grownBy w1 u.ownBlock) (hat : u1.ownBlock = u.ownBlock ∨ u1.ownBlock = some (wr.alloc ob).heap.size) : TwI w w1 v u1 xs zs :=
  ⟨(I.e.alloc ob).other I.a.symm hg, O1, (I.a.symm.grown (I.e.alloc ob) hat).symm, (I.o.alloc ob).grow (I.b.alloc I.b.size _) hg (by have := I.b.size; simp; omega)⟩
/-- append of one word as a step of a drawn region, with where the new row lies. -/
theorem append1_step (w : World) {ops : Array Oper} {o : Oper} {a : Act} {K : Act → World → Prop} {Q : Exit → Act → World → Prop} {E : Prop} (hgd : o.guard = none) (s x : Operand)
    (ho : o.op = .call { callee := .builtin .append, args := #[s, x], argTypes := #[22, 22] })
    (base : Nat) (v : Value) (xs : List Nat) (hs : a.eval s = v) (hown : Ow w base v xs) (b y : Nat) (hx : a.eval x = .slice (some ⟨b, 0, none⟩) 1 1) (hc : w.cell? ⟨b, 0, none⟩ = some (.int .u64 y))
    (hlen : xs.length + 1 ≤ 17592186044416) (hbase : base ≤ w.heap.size)
    (h : ∀ v' w', Ow w' base v' (xs ++ [y]) → w.grownBy w' v.ownBlock → (v'.ownBlock = v.ownBlock ∨ v'.ownBlock = some w.heap.size) → K (a.put o.dst v') w') :
    if Region.wanted o (yielded ops a.tmps) = true then Oper.wp Tryd.prog o a w K Q else E := by
  obtain ⟨i, hi⟩ : ∃ i, Tryd.prog.info? 27 = some i := by
    cases e : Tryd.prog.info? 27 with
    | none => have := infoU; rw [e] at this; cases this
    | some i => exact ⟨i, rfl⟩
  have hU := infoU
  rw [hi] at hU
  simp only [Option.map_some, Option.some.injEq, Prod.mk.injEq] at hU
  have hw : Region.wanted o (yielded ops a.tmps) = true := by simp [Region.wanted, hgd]
  rw [if_pos hw]
  obtain ⟨v', w', hr, h2, h3, _, h5⟩ := run_append_own_at (P := Tryd.prog) w base 22 o.type _ i (.int .u64 0) 1 8 Tryd.underlying22 hi hU.1 hU.2.1 hU.2.2 rfl (by decide) v xs.length (xs.map cw) hown ⟨b, 0, none⟩ 1 1 [.int .u64 y] rfl
    (fun j u hu => by
      rcases j with _ | j
      · simp at hu; subst hu; exact hc
      · simp at hu) (fun u hu => by simp at hu; subst hu; rfl) (by simp only [maxLen]; omega) (by omega) hbase
  unfold Oper.wp execOp
  simp only [ho, resolve, invoke, builtin, Sem.run_bind, Sem.run_pure, Result.andThen_ok, List.map_toArray, List.map_cons, List.map_nil, hs, hx, hr]
  refine h v' w' ?_ h3 h5
  unfold Ow
  rw [List.map_append, List.length_append]
  exact h2
/-- The transform of a sum. -/
theorem ft_lin (k d c j : Nat) (x y : Nat → Nat) : ft k d (fun i => (x i + y i * c % 18446744069414584321) % 18446744069414584321) j = (ft k d x j + ft k d y j * c % 18446744069414584321) % 18446744069414584321 := by
  rw [ft_mod (y := fun i => x i + y i * c) (fun i _ => by rw [Nat.mod_mod, Nat.add_mod_mod]), ft_sum, Nat.add_mod_mod]
/-- .. of a row turned by one place. -/
theorem ft_turned (k d n j : Nat) (hk : k ≤ 32) (hn : n = 2 ^ k) (x : Nat → Nat) : ft k d (fun i => x ((i + n - 1) % n)) j = ft k d x j * (rd k d ^ j % 18446744069414584321) % 18446744069414584321 := by
  unfold ft
  rw [← hn, tf_turned x n (rd k d) j (by rw [hn]; exact Nat.two_pow_pos k) (by rw [hn]; exact rd_one k d hk), Nat.mod_mul_mod, Nat.mod_mul_mod, Nat.mul_right_comm]
end Kn
end Go.Proofs.YtkgclgjlohofbaaDoor
