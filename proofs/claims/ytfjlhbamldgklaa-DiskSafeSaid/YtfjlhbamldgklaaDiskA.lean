/- Layer 15: a disk's cache: a map that holds slices by the sectors' numbers. -/
import Derived.Test.YtfjlhbamldgklaaDiskU
import Derived.Maps.RangeWalk
import Derived.Maps.OwnSet
import Derived.MapFrom
import Derived.Lib.SlKeysI
set_option linter.unusedVariables false
namespace Go.Proofs.Ytfjlhbamldgklaa
open Go.RowKit Go.Lib Go.ChangeMaps
namespace Dk
open Ww

/-- What the map holds reads as itself. -/
def Rv (v : Value) : Option (DataW Value × List MemPlace) := some (.held v, [])
theorem KI : Maps.Keyed Try.prog 3 := Maps.int_keyed Try.underlying3
def ky (i : Nat) : Lit := .int .i64 (i : Int)
theorem ky_inj {i j : Nat} (h : ky i = ky j) : i = j := by
  unfold ky at h
  injection h with _ h
  omega
theorem ky_of {i : Nat} (hi : i ≤ 9223372036854775807) : keyOf Try.prog 3 (.int .i64 (i : Int)) = some (ky i) :=
  Maps.keyOf_int_mk Try.underlying3 (by simp [Lit.wf, IntKind.min, IntKind.max, IntKind.signed, IntKind.bits]; omega)
/-- A map at block m: of the numbers below n it holds those at which c holds something; at most k. -/
def Mp (w : World) (m n : Nat) (c : Nat → Option Value) (k : Nat) : Prop :=
  ∃ D : DataW Value, w.ownsMap Try.prog 3 Rv m k D ∧ (∀ kl, Maps.has D kl = true ↔ ∃ i v, i < n ∧ c i = some v ∧ kl = ky i) ∧ ∀ i v, i < n → c i = some v → ∀ z, D.atKey (ky i) z = .held v
def cput (c : Nat → Option Value) (i : Nat) (v : Value) : Nat → Option Value := fun j => if j = i then some v else c j
section
variable {w w' : World} {m n k : Nat} {c : Nat → Option Value}
theorem Mp.made (w : World) (n : Nat) : Mp (w.alloc (.map #[] 0)) w.heap.size n (fun _ => none) 0 := by
  refine ⟨.map [], World.ownsMap_made w _ _ _, fun kl => ⟨fun h => by simp [Maps.has] at h, ?_⟩, fun i v _ h => by cases h⟩
  rintro ⟨i, v, _, h, _⟩
  cases h
theorem Mp.mono {k' : Nat} (h : Mp w m n c k) (hk : k ≤ k') : Mp w m n c k' := by
  obtain ⟨D, h1, h2, h3⟩ := h
  exact ⟨D, h1.mono hk, h2, h3⟩
theorem Mp.keep (h : Mp w m n c k) (hb : w'.heap[m]? = w.heap[m]?) : Mp w' m n c k := by
  obtain ⟨D, ⟨es, clock, h0, h1⟩, h2, h3⟩ := h
  exact ⟨D, ⟨es, clock, hb.trans h0, h1⟩, h2, h3⟩
theorem Mp.block (h : Mp w m n c k) : ∃ es clock, w.heap[m]? = some (.map es clock) := by
  obtain ⟨D, ⟨es, clock, h0, h1⟩, h2, h3⟩ := h
  exact ⟨es, clock, h0⟩
theorem zeroB (W : World) : (zeroValue 47).run Try.prog W = .ok (.slice none 0 0) W := by kernel_rfl
theorem not_has {D : DataW Value} (h2 : ∀ kl, Maps.has D kl = true ↔ ∃ i v, i < n ∧ c i = some v ∧ kl = ky i) {i : Nat} (hc : c i = none) : Maps.has D (ky i) = false := by
  cases e : Maps.has D (ky i) with
  | false => rfl
  | true =>
    obtain ⟨j, v, _, h, e2⟩ := (h2 _).1 e
    rw [← ky_inj e2, hc] at h
    cases h
/-- What stands at a number, and whether it does. -/
theorem Mp.look (h : Mp w m n c k) {i : Nat} (hi : i < n) (hn : n ≤ 9223372036854775807) :
    (Instr.lookup 29 (.map (some m)) (.int .i64 (i : Int)) true).run Try.prog w = .ok (.tuple #[(c i).getD (.slice none 0 0), .bool (c i).isSome]) w := by
  obtain ⟨D, h1, h2, h3⟩ := h
  obtain ⟨v, ps, hr, hv⟩ := h1.look_ok (t := 29) KI Try.underlying29 (zeroB w) (zd := .held (.slice none 0 0)) (zp := []) rfl (ky_of (i := i) (by omega))
  rw [hr]
  simp only [Rv, Option.some.injEq, Prod.mk.injEq] at hv
  cases e : c i with
  | none =>
    have hh := not_has h2 e
    rw [Maps.atKey_of_not_has hh] at hv
    obtain ⟨hv, _⟩ := hv
    cases hv
    rw [hh]
    rfl
  | some u =>
    have hh := (h2 (ky i)).2 ⟨i, u, hi, e, rfl⟩
    rw [h3 i u hi e] at hv
    obtain ⟨hv, _⟩ := hv
    cases hv
    rw [hh]
    rfl
theorem Mp.look1 (h : Mp w m n c k) {i : Nat} {u : Value} (hi : i < n) (hn : n ≤ 9223372036854775807) (hc : c i = some u) :
    (Instr.lookup 29 (.map (some m)) (.int .i64 (i : Int)) false).run Try.prog w = .ok u w := by
  obtain ⟨D, h1, h2, h3⟩ := h
  obtain ⟨v, ps, hr, hv⟩ := h1.lookup (t := 29) KI Try.underlying29 (zeroB w) (zd := .held (.slice none 0 0)) (zp := []) rfl (ky_of (i := i) (by omega))
  rw [hr]
  simp only [Rv, Option.some.injEq, Prod.mk.injEq] at hv
  rw [h3 i u hi hc] at hv
  obtain ⟨hv, _⟩ := hv
  cases hv
  rfl
/-- Something is laid in. -/
theorem Mp.store (h : Mp w m n c k) {i : Nat} (v : Value) (hi : i < n) (hn : n ≤ 9223372036854775807) (hk : k < 4611686018427387904) :
    ∃ w', (Instr.mapUpdate 29 (.map (some m)) (.int .i64 (i : Int)) v).run Try.prog w = .ok () w' ∧ Mp w' m n (cput c i v) (k + 1) ∧ w.mapTurned w' m := by
  obtain ⟨D, h1, h2, h3⟩ := h
  obtain ⟨w', hr, h4, h5⟩ := h1.store (t := 29) (val := v) (d := .held v) (ps := []) KI Try.underlying29 (by unfold maxLen; omega) (ky_of (i := i) (by omega)) rfl
  refine ⟨w', hr, ⟨_, h4, fun kl => ?_, fun j u hj hc z => ?_⟩, h5⟩
  · by_cases e : kl = ky i
    · subst e
      refine ⟨fun _ => ⟨i, v, hi, by simp [cput], rfl⟩, fun _ => Maps.has_put_same h1.isMap (by simp [ky, WideAt.IsKeyLit]) _⟩
    · rw [Maps.has_put_other e, h2]
      constructor
      · rintro ⟨j, u, hj, hc, rfl⟩
        exact ⟨j, u, hj, by unfold cput; rw [if_neg (fun e2 => e (by rw [e2])), hc], rfl⟩
      · rintro ⟨j, u, hj, hc, rfl⟩
        unfold cput at hc
        rw [if_neg (fun e2 => e (by rw [e2]))] at hc
        exact ⟨j, u, hj, hc, rfl⟩
  · by_cases e : j = i
    · subst e
      simp [cput] at hc
      rw [Maps.atKey_put_same h1.isMap (by simp [ky, WideAt.IsKeyLit]), hc]
    · rw [Maps.atKey_put_other (fun e2 => e (ky_inj e2))]
      unfold cput at hc
      rw [if_neg e] at hc
      exact h3 j u hj hc z
theorem run_clear {ty : TypeId} (h : Mp w m n c k) :
    ∃ w', (Builtin.clear_ #[29] ty #[.map (some m)]).run Try.prog w = .ok (.tuple #[]) w' ∧ Mp w' m n (fun _ => none) 0 ∧ w.mapTurned w' m := by
  obtain ⟨D, ⟨es, clock, h0, F, h1⟩, h2, h3⟩ := h
  refine ⟨setBlock w m (.map #[] clock), ?_, ⟨.map [], ⟨#[], clock, heap_setBlock_same h0 _, ⟨by simp, by simp [MapKept.Stamped] <;> exact F.stamped.1, by simp⟩, Nat.le_refl _, rfl⟩, fun kl => ⟨fun h => by simp [Maps.has] at h, ?_⟩, fun i v _ h => by cases h⟩, ⟨es, clock, #[], clock, h0, rfl⟩⟩
  · simp [Builtin.clear_, run_underlying Try.underlying29, MapKept.run_getObj_map h0, MapKept.run_setObj_map _ h0, Result.andThen, setBlock]
  · rintro ⟨i, v, _, h, _⟩
    cases h
end

/-- The numbers below n of which p is true. -/
def nl (p : Nat → Bool) : Nat → List Nat
  | 0 => []
  | n + 1 => nl p n ++ (if p n = true then [n] else [])
theorem nl_mem (p : Nat → Bool) : ∀ n i, i ∈ nl p n ↔ i < n ∧ p i = true
  | 0, i => by simp [nl]
  | n + 1, i => by
    simp only [nl, List.mem_append, nl_mem p n i]
    cases e : p n with
    | true =>
      simp
      constructor
      · rintro (⟨h1, h2⟩ | rfl)
        · exact ⟨by omega, h2⟩
        · exact ⟨by omega, e⟩
      · rintro ⟨h1, h2⟩
        by_cases e2 : i = n
        · exact Or.inr e2
        · exact Or.inl ⟨by omega, h2⟩
    | false =>
      simp
      intro h2
      constructor
      · intro h1; omega
      · intro h1
        by_cases e2 : i = n
        · subst e2; rw [e] at h2; cases h2
        · omega
theorem nl_rising (p : Nat → Bool) : ∀ n, (nl p n).Pairwise (· < ·)
  | 0 => List.Pairwise.nil
  | n + 1 => by
    simp only [nl]
    refine List.pairwise_append.2 ⟨nl_rising p n, ?_, fun a ha b hb => ?_⟩
    · split <;> simp
    · have := ((nl_mem p n a).1 ha).1
      split at hb
      · simp at hb; omega
      · cases hb
theorem nl_congr {p q : Nat → Bool} : ∀ n, (∀ i, i < n → p i = q i) → nl p n = nl q n
  | 0, _ => rfl
  | n + 1, h => by
    simp only [nl]
    rw [nl_congr n (fun i hi => h i (by omega)), h n (by omega)]
/-- How many there are. -/
def nc (p : Nat → Bool) (n : Nat) : Nat := (nl p n).length
theorem nc_zero (p : Nat → Bool) : nc p 0 = 0 := rfl
theorem nc_yes {p : Nat → Bool} {n : Nat} (h : p n = true) : nc p (n + 1) = nc p n + 1 := by simp [nc, nl, h]
theorem nc_no {p : Nat → Bool} {n : Nat} (h : p n = false) : nc p (n + 1) = nc p n := by simp [nc, nl, h]
theorem nc_mono (p : Nat → Bool) {i : Nat} : ∀ {n : Nat}, i ≤ n → nc p i ≤ nc p n
  | 0, h => by rw [show i = 0 by omega]; exact Nat.le_refl _
  | n + 1, h => by
    by_cases e : i = n + 1
    · rw [e]; exact Nat.le_refl _
    · have := nc_mono p (n := n) (i := i) (by omega)
      cases hp : p n with
      | true => rw [nc_yes hp]; omega
      | false => rw [nc_no hp]; exact this
theorem nc_le (p : Nat → Bool) : ∀ n, nc p n ≤ n
  | 0 => Nat.le_refl _
  | n + 1 => by
    have := nc_le p n
    cases hp : p n with
    | true => rw [nc_yes hp]; omega
    | false => rw [nc_no hp]; omega
theorem nc_inj {p : Nat → Bool} {i j : Nat} (hi : p i = true) (hj : p j = true) (h : nc p i = nc p j) : i = j := by
  rcases Nat.lt_trichotomy i j with e | e | e
  · have := nc_mono p (show i + 1 ≤ j from e)
    rw [nc_yes hi] at this
    omega
  · exact e
  · have := nc_mono p (show j + 1 ≤ i from e)
    rw [nc_yes hj] at this
    omega
/-- Where each of them stands. -/
theorem nl_at (p : Nat → Bool) {i : Nat} (hp : p i = true) : ∀ {n : Nat}, i < n → (nl p n)[nc p i]? = some i
  | 0, h => absurd h (by omega)
  | n + 1, h => by
    simp only [nl]
    by_cases e : i = n
    · subst e
      rw [if_pos hp]
      show (nl p i ++ [i])[(nl p i).length]? = some i
      rw [List.getElem?_append_right (Nat.le_refl _), Nat.sub_self]
      rfl
    · have hh := nl_at p hp (n := n) (i := i) (by omega)
      rw [List.getElem?_append_left (List.getElem?_eq_some_iff.1 hh).1, hh]
theorem nl_nc (p : Nat → Bool) {n q i : Nat} (h : (nl p n)[q]? = some i) : i < n ∧ p i = true ∧ nc p i = q := by
  obtain ⟨h1, h2⟩ := (nl_mem p n i).1 (List.mem_of_getElem? h)
  refine ⟨h1, h2, ?_⟩
  have h3 := nl_at p h2 h1
  obtain ⟨l1, e1⟩ := List.getElem?_eq_some_iff.1 h
  obtain ⟨l2, e2⟩ := List.getElem?_eq_some_iff.1 h3
  rcases Nat.lt_trichotomy (nc p i) q with e | e | e
  · have := (List.pairwise_iff_getElem.1 (nl_rising p n)) _ _ l2 l1 e
    omega
  · exact e
  · have := (List.pairwise_iff_getElem.1 (nl_rising p n)) _ _ l1 l2 e
    omega
theorem rising_ext : ∀ {l1 l2 : List Int}, l1.Pairwise (· < ·) → l2.Pairwise (· < ·) → (∀ x, x ∈ l1 ↔ x ∈ l2) → l1 = l2
  | [], [], _, _, _ => rfl
  | [], b :: r, _, _, h => absurd ((h b).2 (by simp)) (by simp)
  | a :: r, [], _, _, h => absurd ((h a).1 (by simp)) (by simp)
  | a :: r, b :: s, h1, h2, h => by
    obtain ⟨a1, a2⟩ := List.pairwise_cons.1 h1
    obtain ⟨b1, b2⟩ := List.pairwise_cons.1 h2
    have e : a = b := by
      rcases List.mem_cons.1 ((h a).1 (by simp)) with e | e
      · exact e
      · rcases List.mem_cons.1 ((h b).2 (by simp)) with e2 | e2
        · exact e2.symm
        · have := a1 b e2
          have := b1 a e
          omega
    subst e
    rw [rising_ext a2 b2 fun x => ?_]
    constructor
    · intro hx
      rcases List.mem_cons.1 ((h x).1 (by simp [hx])) with e | e
      · have := a1 x hx; omega
      · exact e
    · intro hx
      rcases List.mem_cons.1 ((h x).2 (by simp [hx])) with e | e
      · have := b1 x hx; omega
      · exact e
theorem has_mem {es : List (Lit × DataW Value)} {kl : Lit} (hk : WideAt.IsKeyLit kl) : Maps.has (.map es) kl = true ↔ ∃ p ∈ es, p.1 = kl := by
  rw [Maps.has_eq, List.any_eq_true]
  constructor
  · rintro ⟨p, hp, h⟩
    exact ⟨p, hp, WideAt.sameKey_eq h⟩
  · rintro ⟨p, hp, rfl⟩
    exact ⟨p, hp, WideAt.sameKey_self hk⟩
/-- The keys, sorted: the numbers at which something is, rising. -/
theorem keys_nl {w : World} {m n k : Nat} {c : Nat → Option Value} {D : DataW Value} (h1 : w.ownsMap Try.prog 3 Rv m k D) (h2 : ∀ kl, Maps.has D kl = true ↔ ∃ i v, i < n ∧ c i = some v ∧ kl = ky i)
    {ss : List Int} (hp : ss.Perm (intKeys D)) : ss.mergeSort (fun x y => decide (x ≤ y)) = (nl (fun i => (c i).isSome) n).map (fun i : Nat => (i : Int)) := by
  obtain ⟨es, rfl, hd, hk⟩ := h1.entries KI
  have key : ∀ p ∈ es, ∃ i v, i < n ∧ c i = some v ∧ p.1 = ky i := fun p hp => (h2 p.1).1 ((has_mem (hk p hp)).2 ⟨p, hp, rfl⟩)
  have hmem : ∀ x, x ∈ intKeys (DataW.map es) ↔ ∃ i : Nat, i ∈ nl (fun i => (c i).isSome) n ∧ (i : Int) = x := by
    intro x
    simp only [intKeys, List.mem_map]
    constructor
    · rintro ⟨p, hp, rfl⟩
      obtain ⟨i, v, hi, hc, e⟩ := key p hp
      exact ⟨i, (nl_mem _ n i).2 ⟨hi, by rw [hc]; rfl⟩, by rw [e]; rfl⟩
    · rintro ⟨i, hi, rfl⟩
      obtain ⟨hi, hs⟩ := (nl_mem _ n i).1 hi
      obtain ⟨v, hv⟩ := Option.isSome_iff_exists.1 hs
      obtain ⟨p, hp, e⟩ := (has_mem (by simp [ky, WideAt.IsKeyLit])).1 ((h2 (ky i)).2 ⟨i, v, hi, hv, rfl⟩)
      exact ⟨p, hp, by rw [e]; rfl⟩
  have hnd : (intKeys (DataW.map es)).Nodup := by
    unfold intKeys
    refine List.pairwise_map.2 (hd.imp_of_mem fun {p q} hp hq hne e => ?_)
    obtain ⟨i, _, _, _, e1⟩ := key p hp
    obtain ⟨j, _, _, _, e2⟩ := key q hq
    rw [e1, e2] at e hne
    exact hne (by
      have : (i : Int) = j := e
      rw [show i = j by omega])
  refine rising_ext ?_ (List.pairwise_map.2 ((nl_rising _ n).imp fun {a b} h => by omega)) fun x => ?_
  · have hs := List.pairwise_mergeSort (le := fun x y : Int => decide (x ≤ y)) (fun a b c h1 h2 => by simp at *; omega) (fun a b => by simp; omega) ss
    have hn : (ss.mergeSort (fun x y => decide (x ≤ y))).Nodup := (List.Perm.nodup_iff ((List.mergeSort_perm ss _).trans hp)).2 hnd
    refine (hs.and hn).imp fun {a b} h => ?_
    have := h.1
    have := h.2
    simp at *
    omega
  · rw [((List.mergeSort_perm ss _).trans hp).mem_iff, hmem, List.mem_map]
end Dk
end Go.Proofs.Ytfjlhbamldgklaa
