/- Contracts of package kern4: Cross, Unit, Steps. -/
import Derived.Test.YtnnieiedkjekpaaDoorWing
import Derived.Test.YtnnieiedkjekpaaDoorQuartN
import Derived.Test.YtnnieiedkjekpaaDoorTwidA
import Derived.Test.YtnnieiedkjekpaaDoorCells
set_option linter.unusedVariables false
namespace Go.Proofs.YtnnieiedkjekpaaDoor
open Go.RowKit Go.Lib
namespace Kq
open Nm Ww Tn Kn

set_option maxHeartbeats 400000 in
theorem cross (a b c d u : Nat) (ha : a < 18446744073709551616) (hb : b < 18446744073709551616) (hc : c < 18446744073709551616) (hd : d < 18446744073709551616) (hu : u < 18446744073709551616) (w : World) :
    Calls Tryd.prog 89 #[.int .u64 (a : Nat), .int .u64 (b : Nat), .int .u64 (c : Nat), .int .u64 (d : Nat), .int .u64 (u : Nat)] w fun e w' => e = .returned (.agg #[.int .u64 (cA a b c d : Nat), .int .u64 (cB a b c d u : Nat), .int .u64 (cC a b c d : Nat), .int .u64 (cD a b c d u : Nat)]) ∧ Below w.heap.size w w' := by
  have M : ∀ x, x % 18446744069414584321 < 18446744073709551616 := m64
  have A1 := Lib.hid (fun W => Gd.add a c ha hc W)
  have A2 := Lib.hid (fun W => Gd.add b d hb hd W)
  have S1 := Lib.hid (fun W => Gd.sub a c ha hc W)
  have S2 := Lib.hid (fun W => Gd.sub b d hb hd W)
  have BF := Lib.hid (fun W => butterfly _ _ u (M (a + (18446744069414584321 - c % 18446744069414584321))) (M (b + (18446744069414584321 - d % 18446744069414584321))) hu W)
  have A3 := Lib.hid (fun W => Gd.add _ _ (M (a + c)) (M (b + d)) W)
  have S3 := Lib.hid (fun W => Gd.sub _ _ (M (a + c)) (M (b + d)) W)
  unfold cA cB cC cD
  clear ha hb hc hd hu M
  have CF := Lib.hid (fun v0 v1 v2 v3 => Ce.fresh w v0 v1 v2 v3 99)
  have CB := Lib.hid (fun o => (Below.refl w.heap.size w).alloc (Nat.le_refl _) o)
  generalize ((a + c) % 18446744069414584321 + (b + d) % 18446744069414584321) % 18446744069414584321 = rA at *
  generalize ((a + c) % 18446744069414584321 + (18446744069414584321 - (b + d) % 18446744069414584321 % 18446744069414584321)) % 18446744069414584321 = rC at *
  generalize (a + c) % 18446744069414584321 = e1 at *
  generalize (b + d) % 18446744069414584321 = e2 at *
  generalize (a + (18446744069414584321 - c % 18446744069414584321)) % 18446744069414584321 = s1 at *
  generalize (b + (18446744069414584321 - d % 18446744069414584321)) % 18446744069414584321 = s2 at *
  generalize bs s1 s2 u = rB at *
  generalize bd s1 s2 u = rD at *
  go_enter Tryd.func89, Tryd.ntmps89
  go_wp2_with fail
  refine (A1.out _).mono ?_
  rintro e w1 ⟨rfl, rfl⟩
  go_wp2_with fail
  refine (A2.out _).mono ?_
  rintro e w1 ⟨rfl, rfl⟩
  go_wp2_with fail
  refine (S1.out _).mono ?_
  rintro e w1 ⟨rfl, rfl⟩
  go_wp2_with fail
  refine (S2.out _).mono ?_
  rintro e w1 ⟨rfl, rfl⟩
  go_wp2_with fail
  refine (BF.out _).mono ?_
  rintro e w1 ⟨rfl, h1⟩
  have C1 := (CF.out _ _ _ _).below h1
  have B1 := (CB.out _).trans (h1.mono (CB.out _).size)
  have c0 := C1.c0
  have c1 := C1.c1
  have c2 := C1.c2
  have c3 := C1.c3
  have f0 := C1.f0
  have f1 := C1.f1
  have f2 := C1.f2
  have f3 := C1.f3
  clear h1
  go_wp2_with fail
  refine (A3.out _).mono ?_
  rintro e w2 ⟨rfl, rfl⟩
  go_wp2_with fail
  refine (S3.out _).mono ?_
  rintro e w2 ⟨rfl, rfl⟩
  have C5 := (((C1.put0 (.int .u64 (rA : Nat))).put1 (.int .u64 (rB : Nat))).put2 (.int .u64 (rC : Nat))).put3 (.int .u64 (rD : Nat))
  have B5 := Lib.hid ((((B1.setCell (p := ⟨w.heap.size, 0, none⟩) (Nat.le_refl _) (.int .u64 (rA : Nat))).setCell (p := ⟨w.heap.size, 1, none⟩) (Nat.le_refl _) (.int .u64 (rB : Nat))).setCell (p := ⟨w.heap.size, 2, none⟩) (Nat.le_refl _) (.int .u64 (rC : Nat))).setCell (p := ⟨w.heap.size, 3, none⟩) (Nat.le_refl _) (.int .u64 (rD : Nat)))
  have k0 := C5.c0
  have k1 := C5.c1
  have k2 := C5.c2
  have k3 := C5.c3
  clear C1 B1 C5
  go_wp2
  exact bodyPost_ret (v := .agg #[.int .u64 (rA : Nat), .int .u64 (rB : Nat), .int .u64 (rC : Nat), .int .u64 (rD : Nat)]) (by simp [results, Tryd.results89, go_sem, k0, k1, k2, k3]) rfl ⟨rfl, B5.out⟩

set_option maxHeartbeats 400000 in
theorem unit_in (d : Nat) (hd : d ≤ 1) (w : World) :
    Calls Tryd.prog 73 #[.int .i64 (d : Int)] w fun e w' => e = .returned (.tuple #[.int .u64 (rd 2 d : Nat), .int .i64 0]) ∧ Below w.heap.size w w' := by
  have C := Lib.hid (Td.root_in 2 d (by decide) hd w)
  clear hd
  generalize rd 2 d = u at *
  go_enter Tryd.func73, Tryd.ntmps73
  go_wp2_with fail
  refine C.out.mono ?_
  rintro e w1 ⟨rfl, h1⟩
  go_wp2
  go_ret2
  exact ⟨rfl, h1⟩
set_option maxHeartbeats 400000 in
theorem unit_kind (d : Int) (h0 : d ≠ 0) (h1 : d ≠ 1) (w : World) :
    Calls Tryd.prog 73 #[.int .i64 d] w fun e w' => e = .returned (.tuple #[.int .u64 0, .int .i64 18]) ∧ w = w' := by
  have C := Lib.hid (Td.root_kind 2 d (by decide) h0 h1 w)
  clear h0 h1
  go_enter Tryd.func73, Tryd.ntmps73
  go_wp2_with fail
  refine C.out.mono ?_
  rintro e w1 ⟨rfl, rfl⟩
  go_wp2
  go_ret2
  exact ⟨rfl, rfl⟩
set_option maxHeartbeats 400000 in
theorem steps_bad (k : Int) (h : k < 0 ∨ 20 < k) (w : World) :
    Calls Tryd.prog 71 #[.int .i64 k] w fun e w' => e = .returned (.tuple #[.int .i64 0, .int .i64 0, .int .i64 1]) ∧ w = w' := by
  have H := Lib.hid h
  clear h
  by_cases h0 : k < 0
  · go_enter Tryd.func71, Tryd.ntmps71
    go_wp2
    exact bodyPost_ret (v := .tuple #[.int .i64 0, .int .i64 0, .int .i64 1]) (by simp [results, Tryd.results71, go_sem]) rfl ⟨rfl, rfl⟩
  · have h1 : 20 < k := by have := H.out; omega
    go_enter Tryd.func71, Tryd.ntmps71
    go_wp2
    exact bodyPost_ret (v := .tuple #[.int .i64 0, .int .i64 0, .int .i64 1]) (by simp [results, Tryd.results71, go_sem]) rfl ⟨rfl, rfl⟩
set_option maxHeartbeats 400000 in
theorem steps (k q h : Nat) (hk : k ≤ 20) (hq : q = k / 2) (hh : h = k % 2) (w : World) :
    Calls Tryd.prog 71 #[.int .i64 (k : Int)] w fun e w' => e = .returned (.tuple #[.int .i64 (q : Int), .int .i64 (h : Int), .int .i64 0]) ∧ w = w' := by
  have k0 : ¬ (k : Int) < 0 := by omega
  have k1 : ¬ 20 < (k : Int) := by omega
  have d1 : (k : Int).tdiv 2 = (q : Int) := by rw [Int.tdiv_eq_ediv_of_nonneg (by omega)]; omega
  have d2 : (k : Int) / 2 = (q : Int) := by omega
  have d3 : IntKind.i64.wrap (q : Int) = (q : Int) := IntWalk.i64_in _ (by omega)
  have m1 : (k : Int).tmod 2 = (h : Int) := by rw [Int.tmod_eq_emod_of_nonneg (by omega)]; omega
  have m2 : (k : Int) % 2 = (h : Int) := by omega
  have m3 : IntKind.i64.wrap (h : Int) = (h : Int) := IntWalk.i64_in _ (by omega)
  clear hk hq hh
  go_enter Tryd.func71, Tryd.ntmps71
  go_wp2
  exact bodyPost_ret (v := .tuple #[.int .i64 (q : Int), .int .i64 (h : Int), .int .i64 0]) (by simp [results, Tryd.results71, go_sem]) rfl ⟨rfl, rfl⟩
end Kq
end Go.Proofs.YtnnieiedkjekpaaDoor
