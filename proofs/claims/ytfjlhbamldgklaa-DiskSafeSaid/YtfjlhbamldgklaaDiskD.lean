/- Layer 15: contracts of isSize, New, Clone, get, put, save. -/
import Derived.Test.YtfjlhbamldgklaaDiskC
import Derived.Laws.CopyOwn
set_option linter.unusedVariables false
namespace Go.Proofs.Ytfjlhbamldgklaa
open Go.RowKit Go.Lib Go.ChangeMaps
namespace Dk
open Ww

/-- How many bytes a sector may have. -/
def szb (a : Nat) : Bool := a == 32 || a == 64 || a == 128 || a == 256 || a == 512 || a == 1024 || a == 2048 || a == 4096
theorem szb_all : (List.range 4097).all (fun a => !decide (32 ≤ a) || ((a &&& (a - 1)) == 0) == szb a) = true := by decide +kernel
theorem szb_and {a : Nat} (h1 : 32 ≤ a) (h2 : a ≤ 4096) : ((a &&& (a - 1)) = 0 ↔ szb a = true) := by
  have h := List.all_eq_true.1 szb_all a (List.mem_range.2 (by omega))
  simp [h1] at h
  constructor
  · intro e
    rw [← h]
    simp [e]
  · intro e
    rw [e] at h
    simpa using h
def szi (x : Int) : Bool := decide (0 ≤ x) && szb x.toNat
theorem isSize (x : Int) (w : World) : Calls Try.prog 25 #[.int .i64 x] w fun e w' => e = .returned (.bool (szi x)) ∧ w = w' := by
  by_cases h1 : 32 ≤ x
  · by_cases h2 : x ≤ 4096
    · obtain ⟨a, rfl⟩ := Int.eq_ofNat_of_zero_le (show 0 ≤ x by omega)
      have e1 : szi ((a : Nat) : Int) = szb a := by simp [szi]
      have f1 : IntKind.i64.wrap ((a : Int) - 1) = ((a - 1 : Nat) : Int) := by rw [IntKind.wrap_i64]; omega
      have f2 := Bt.and_i64 a (a - 1) (by omega) (by omega)
      have f3 := szb_and (a := a) (by omega) (by omega)
      rw [e1]
      obtain ⟨y, hy⟩ : ∃ y, y = a &&& (a - 1) := ⟨_, rfl⟩
      rw [← hy] at f2 f3
      obtain ⟨a1, ha1⟩ : ∃ a1, a1 = a - 1 := ⟨_, rfl⟩
      rw [← ha1] at f1 f2
      clear hy ha1 e1
      cases hb : szb a with
      | true =>
        have f4 : (y : Int) = 0 := by have := f3.2 hb; omega
        clear f3 hb
        go_enter Try.func25, Try.ntmps25
        go_wp2
        go_ret
        exact ⟨by simp [go_sem], rfl⟩
      | false =>
        have f4 : ¬ (y : Int) = 0 := fun e => by have := f3.1 (by omega); rw [hb] at this; cases this
        clear f3 hb
        go_enter Try.func25, Try.ntmps25
        go_wp2
        go_ret
        exact ⟨by simp [go_sem]; omega, rfl⟩
    · have e1 : szi x = false := by
        obtain ⟨a, rfl⟩ := Int.eq_ofNat_of_zero_le (show 0 ≤ x by omega)
        simp [szi, szb]
        omega
      rw [e1]
      clear e1
      go_enter Try.func25, Try.ntmps25
      go_wp2
      go_ret
      exact ⟨by simp [go_sem], rfl⟩
  · have e1 : szi x = false := by
      by_cases h0 : 0 ≤ x
      · obtain ⟨a, rfl⟩ := Int.eq_ofNat_of_zero_le h0
        simp [szi, szb]
        omega
      · simp [szi, h0]
    rw [e1]
    clear e1
    go_enter Try.func25, Try.ntmps25
    go_wp2
    go_ret
    exact ⟨by simp [go_sem], rfl⟩

theorem new_no (x y : Int) (h : x < 1 ∨ 1048576 < x ∨ szi y = false) (w : World) : Calls Try.prog 8 #[.int .i64 x, .int .i64 y] w fun e w' => e = .returned (.pointer none) ∧ w = w' := by
  have S := Lib.hid (isSize y)
  by_cases h1 : x < 1
  · clear h
    go_enter Try.func8, Try.ntmps8
    go_wp2_with (go_at_call 25; refine (S.out _).mono ?_; rintro e w1 ⟨rfl, rfl⟩)
    go_ret
    exact ⟨by simp [go_sem], rfl⟩
  by_cases h2 : 1048576 < x
  · clear h
    go_enter Try.func8, Try.ntmps8
    go_wp2_with (go_at_call 25; refine (S.out _).mono ?_; rintro e w1 ⟨rfl, rfl⟩)
    go_ret
    exact ⟨by simp [go_sem], rfl⟩
  have e1 : szi y = false := by
    rcases h with h | h | h
    · exact absurd h h1
    · exact absurd h h2
    · exact h
  rw [e1] at S
  clear h e1
  go_enter Try.func8, Try.ntmps8
  go_wp2_with (go_at_call 25; refine (S.out _).mono ?_; rintro e w1 ⟨rfl, rfl⟩)
  go_ret
  exact ⟨by simp [go_sem], rfl⟩

theorem blk_new (w : World) (o : Obj) : (w.alloc o).heap[w.heap.size]? = some o := heap_alloc_new w o
theorem infoR : (Try.prog.info? 47).map (fun i => (i.zero, i.size, i.bytes)) = some (some (.slice none 0 0), 1, 24) := by kernel_rfl
theorem make_rows (n : Nat) (hn : 24 * n ≤ 281474976710656) (h63 : n ≤ 9223372036854775807) (w : World) :
    (Instr.makeSlice 28 (.int .i64 (n : Int)) (.int .i64 (n : Int))).run Try.prog w = .ok (.slice (some ⟨w.heap.size, 0, none⟩) n n) (w.alloc (.cells (madeCells #[.slice none 0 0] n) 47)) :=
  run_make_row' (P := Try.prog) 28 47 _ 24 Try.underlying28 infoR rfl .i64 .i64 n hn h63 w
theorem infoBo : (Try.prog.info? 4).map (fun i => (i.zero, i.size, i.bytes)) = some (some (.bool false), 1, 1) := by kernel_rfl
theorem make_bools (n : Nat) (hn : 1 * n ≤ 281474976710656) (h63 : n ≤ 9223372036854775807) (w : World) :
    (Instr.makeSlice 30 (.int .i64 (n : Int)) (.int .i64 (n : Int))).run Try.prog w = .ok (.slice (some ⟨w.heap.size, 0, none⟩) n n) (w.alloc (.cells (madeCells #[.bool false] n) 4)) :=
  run_make_row' (P := Try.prog) 30 4 _ 1 Try.underlying30 infoBo rfl .i64 .i64 n hn h63 w
/-- A new disk. -/
def dm0 (z : Nat) : Dm := ⟨fun _ => sec0 z, false, 0, 0, 0, 0⟩
theorem new_db {w : World} {L : Ly} {z n : Nat} (ln : 1 ≤ n ∧ n ≤ 1048576) (lz : 32 ≤ z ∧ z ≤ 4096) (hp : w.heap[L.p]? = some (dobj L z n (dm0 z) 0)) (hs : w.heap[L.s]? = some (.cells (madeCells #[.slice none 0 0] n) 47))
    (ht : w.heap[L.t]? = some (.cells (madeCells #[.bool false] n) 4)) (hm : w.heap[L.m]? = some (.map #[] 0)) : Db w L z n (dm0 z) 0 := by
  exact ⟨0, fun _ => .slice none 0 0, fun _ => none, ⟨hp, ⟨_, hs, size_madeCells _ _, fun i hi => by simp [madeCells, hi, Nat.mod_one]⟩, ⟨_, ht, size_madeCells _ _, fun i hi => by simp [madeCells, hi, Nat.mod_one, dm0, sec0]⟩,
    ⟨.map [], ⟨#[], 0, hm, ⟨by simp, MapKept.stamped_empty 0, by simp⟩, Nat.le_refl _, rfl⟩, fun kl => ⟨fun h => by simp [Maps.has] at h, fun ⟨_, _, _, h, _⟩ => by cases h⟩, fun i v _ h => (by cases h)⟩,
    fun i hi => Hs.none_ w z, fun i hi _ => ⟨rfl, rfl⟩, fun i v hi hc => (by cases hc), rfl, by omega, ln, lz⟩⟩
theorem blk4 (w : World) (X Y Z U : Obj) : ((((w.alloc X).alloc Y).alloc Z).alloc U).heap[w.heap.size]? = some X ∧ ((((w.alloc X).alloc Y).alloc Z).alloc U).heap[w.heap.size + 1]? = some Y ∧ ((((w.alloc X).alloc Y).alloc Z).alloc U).heap[w.heap.size + 1 + 1]? = some Z ∧
    ((((w.alloc X).alloc Y).alloc Z).alloc U).heap[w.heap.size + 1 + 1 + 1]? = some U := by
  have e1 : (w.alloc X).heap.size = w.heap.size + 1 := by simp
  have e2 : ((w.alloc X).alloc Y).heap.size = w.heap.size + 1 + 1 := by simp
  have e3 : (((w.alloc X).alloc Y).alloc Z).heap.size = w.heap.size + 1 + 1 + 1 := by simp
  refine ⟨?_, ?_, ?_, ?_⟩
  · rw [Below.heap_alloc _ _ _ (by omega), Below.heap_alloc _ _ _ (by omega), Below.heap_alloc _ _ _ (by omega)]
    exact blk_new w X
  · rw [Below.heap_alloc _ _ _ (by omega), Below.heap_alloc _ _ _ (by omega), ← e1]
    exact blk_new _ Y
  · rw [Below.heap_alloc _ _ _ (by omega), ← e2]
    exact blk_new _ Z
  · rw [← e3]
    exact blk_new _ U
theorem bl4 (w : World) (X Y Z U : Obj) : Below w.heap.size w ((((w.alloc X).alloc Y).alloc Z).alloc U) :=
  ((((Below.refl w.heap.size w).alloc (Nat.le_refl _) X).alloc (by simp) Y).alloc (by simp; omega) Z).alloc (by simp; omega) U
theorem mine4 (w : World) {L : Ly} (h : w.heap.size ≤ L.p ∧ w.heap.size ≤ L.s ∧ w.heap.size ≤ L.t ∧ w.heap.size ≤ L.m := by refine ⟨?_, ?_, ?_, ?_⟩ <;> simp <;> omega) : ∀ b, Mine L b → w.heap.size ≤ b := by
  rintro b (rfl | rfl | rfl | rfl)
  · exact h.1
  · exact h.2.1
  · exact h.2.2.1
  · exact h.2.2.2
theorem new_ok (n z : Nat) (h0 : 1 ≤ n) (hn : n ≤ 1000) (hz : szb z = true) (w : World) : Calls Try.prog 8 #[.int .i64 (n : Nat), .int .i64 (z : Nat)] w fun e w' =>
    ∃ L, e = .returned (.pointer (some ⟨L.p, 0, none⟩)) ∧ Db w' L z n (dm0 z) 0 ∧ (∀ b, Mine L b → w.heap.size ≤ b) ∧ Below w.heap.size w w' := by
  have S := Lib.hid (isSize (z : Int))
  have e1 : szi (z : Int) = true := by simp [szi, hz]
  rw [e1] at S
  have lz : 32 ≤ z ∧ z ≤ 4096 := by
    simp [szb] at hz
    omega
  have hm : IntKind.i64.wrap ((n : Int) * (z : Int)) = ((n * z : Nat) : Int) := by
    have : n * z ≤ 1000 * 4096 := Nat.mul_le_mul hn lz.2
    rw [IntKind.wrap_i64, ← Int.natCast_mul]; omega
  have hm2 : ¬ (67108864 : Int) < ((n * z : Nat) : Int) := by
    have : n * z ≤ 1000 * 4096 := Nat.mul_le_mul hn lz.2
    omega
  obtain ⟨y, hy⟩ : ∃ y, y = n * z := ⟨_, rfl⟩
  rw [← hy] at hm hm2
  have h1 : ¬ (n : Int) < 1 := by omega
  have h2 : ¬ 1048576 < (n : Int) := by omega
  have mk1 := make_rows n (by omega) (by omega)
  have mk2 := make_bools n (by omega) (by omega)
  have hmm := @run_makeMap Try.prog
  have H := Lib.hid (And.intro h0 (And.intro hn lz))
  clear hz e1 lz hy h0 hn
  go_enter Try.func8, Try.ntmps8
  go_wp2_with (go_at_call 25; refine (S.out _).mono ?_; rintro e w1 ⟨rfl, rfl⟩)
  go_region
  all_goals go_wp2
  all_goals refine bodyPost_ret (v := .pointer (some ⟨w.heap.size + 1 + 1 + 1, 0, none⟩)) (by simp [results, Try.results8, go_sem]) rfl ?_
  all_goals first
    | exact ⟨⟨w.heap.size + 1 + 1 + 1, w.heap.size, w.heap.size + 1, w.heap.size + 1 + 1⟩, rfl, new_db ⟨H.out.1, by have := H.out.2.1; omega⟩ H.out.2.2 (blk4 w _ _ _ _).2.2.2 (blk4 w _ _ _ _).1 (blk4 w _ _ _ _).2.1 (blk4 w _ _ _ _).2.2.1, mine4 w, (bl4 w _ _ _ _).drew⟩
    | exact ⟨⟨w.heap.size + 1 + 1 + 1, w.heap.size, w.heap.size + 1 + 1, w.heap.size + 1⟩, rfl, new_db ⟨H.out.1, by have := H.out.2.1; omega⟩ H.out.2.2 (blk4 w _ _ _ _).2.2.2 (blk4 w _ _ _ _).1 (blk4 w _ _ _ _).2.2.1 (blk4 w _ _ _ _).2.1, mine4 w, (bl4 w _ _ _ _).drew⟩
    | exact ⟨⟨w.heap.size + 1 + 1 + 1, w.heap.size + 1, w.heap.size, w.heap.size + 1 + 1⟩, rfl, new_db ⟨H.out.1, by have := H.out.2.1; omega⟩ H.out.2.2 (blk4 w _ _ _ _).2.2.2 (blk4 w _ _ _ _).2.1 (blk4 w _ _ _ _).1 (blk4 w _ _ _ _).2.2.1, mine4 w, (bl4 w _ _ _ _).drew⟩
    | exact ⟨⟨w.heap.size + 1 + 1 + 1, w.heap.size + 1, w.heap.size + 1 + 1, w.heap.size⟩, rfl, new_db ⟨H.out.1, by have := H.out.2.1; omega⟩ H.out.2.2 (blk4 w _ _ _ _).2.2.2 (blk4 w _ _ _ _).2.1 (blk4 w _ _ _ _).2.2.1 (blk4 w _ _ _ _).1, mine4 w, (bl4 w _ _ _ _).drew⟩
    | exact ⟨⟨w.heap.size + 1 + 1 + 1, w.heap.size + 1 + 1, w.heap.size, w.heap.size + 1⟩, rfl, new_db ⟨H.out.1, by have := H.out.2.1; omega⟩ H.out.2.2 (blk4 w _ _ _ _).2.2.2 (blk4 w _ _ _ _).2.2.1 (blk4 w _ _ _ _).1 (blk4 w _ _ _ _).2.1, mine4 w, (bl4 w _ _ _ _).drew⟩
    | exact ⟨⟨w.heap.size + 1 + 1 + 1, w.heap.size + 1 + 1, w.heap.size + 1, w.heap.size⟩, rfl, new_db ⟨H.out.1, by have := H.out.2.1; omega⟩ H.out.2.2 (blk4 w _ _ _ _).2.2.2 (blk4 w _ _ _ _).2.2.1 (blk4 w _ _ _ _).2.1 (blk4 w _ _ _ _).1, mine4 w, (bl4 w _ _ _ _).drew⟩
end Dk
end Go.Proofs.Ytfjlhbamldgklaa
