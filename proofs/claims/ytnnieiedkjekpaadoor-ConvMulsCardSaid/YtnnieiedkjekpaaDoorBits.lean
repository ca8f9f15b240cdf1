/- Contracts of math/bits' functions (Mul64, Add64, Sub64, Len64, LeadingZeros64), of every uint64: what they answer, and that the world stays. -/
import Derived.Test.YtnnieiedkjekpaaDoorChecked
import Derived.WalkKit
import Derived.Lib.Mul64
import Derived.Laws.Bits64b
import Derived.Lib.BitFns
import Derived.Lib.Hide
set_option linter.unusedVariables false
namespace Go.Proofs.YtnnieiedkjekpaaDoor
open Go.RowKit Go.Lib

namespace Bt
theorem maskN (a : Nat) (ha : a < 18446744073709551616) : bits .and .u64 (a : Int) 4294967295 = ((a % 4294967296 : Nat) : Int) :=
  (bits_and_u64_nat a 4294967295 ha (by omega)).trans (congrArg Int.ofNat (Nat.and_two_pow_sub_one_eq_mod a 32))
theorem mulN (a b : Nat) : (a : Int) * (b : Int) = ((a * b : Nat) : Int) := (Int.natCast_mul a b).symm
theorem addN (a b : Nat) : (a : Int) + (b : Int) = ((a + b : Nat) : Int) := (Int.natCast_add a b).symm
theorem wrapM (a : Nat) : IntKind.u64.wrap (a : Int) = ((a % 18446744073709551616 : Nat) : Int) := by rw [IntKind.wrap_u64]; omega
theorem wrapN (a : Nat) (ha : a < 18446744073709551616) : IntKind.u64.wrap (a : Int) = (a : Int) := by rw [wrapM, Nat.mod_eq_of_lt ha]

/-- The steps of the school's way to multiply two words by their halves, each under a name: u, v the low halves, s, t the high ones. -/
structure School (x y u s v t uv sv ut st m0 m1 m2 m3 m4 m5 : Nat) : Prop where
  ru : bits .and .u64 (x : Int) 4294967295 = (u : Int)
  rs : (x : Int) / 4294967296 = (s : Int)
  rv : bits .and .u64 (y : Int) 4294967295 = (v : Int)
  rt : (y : Int) / 4294967296 = (t : Int)
  ruv : IntKind.u64.wrap ((u : Int) * v) = (uv : Int)
  rsv : IntKind.u64.wrap ((s : Int) * v) = (sv : Int)
  r0 : IntKind.u64.wrap ((sv : Int) + (uv : Int) / 4294967296) = (m0 : Int)
  r1 : bits .and .u64 (m0 : Int) 4294967295 = (m1 : Int)
  r2 : (m0 : Int) / 4294967296 = (m2 : Int)
  rut : IntKind.u64.wrap ((u : Int) * t) = (ut : Int)
  r3 : IntKind.u64.wrap ((m1 : Int) + ut) = (m3 : Int)
  rst : IntKind.u64.wrap ((s : Int) * t) = (st : Int)
  r4 : IntKind.u64.wrap ((st : Int) + m2) = (m4 : Int)
  r5 : IntKind.u64.wrap ((m4 : Int) + (m3 : Int) / 4294967296) = (m5 : Int)
  r6 : IntKind.u64.wrap ((x : Int) * y) = ((x * y % 18446744073709551616 : Nat) : Int)

theorem school (x y : Nat) (hx : x < 18446744073709551616) (hy : y < 18446744073709551616) :
    ∃ u s v t uv sv ut st m0 m1 m2 m3 m4 m5, School x y u s v t uv sv ut st m0 m1 m2 m3 m4 m5 ∧ m5 = x * y / 18446744073709551616 := by
  obtain ⟨b1, b2, b3, hhi⟩ := Lib.mul64_hi x y hx hy
  have c1 := Lib.half_mul_le (a := x / 4294967296) (b := y / 4294967296) (by omega) (by omega)
  have c2 := Lib.half_mul_le (a := x / 4294967296) (b := y % 4294967296) (by omega) (by omega)
  have c3 := Lib.half_mul_le (a := x % 4294967296) (b := y / 4294967296) (by omega) (by omega)
  have c5 : x * y / 18446744073709551616 < 18446744073709551616 := by
    rw [Nat.div_lt_iff_lt_mul (by decide)]
    exact Nat.mul_lt_mul'' hx hy
  rw [← hhi] at c5
  refine ⟨(x % 4294967296), (x / 4294967296), (y % 4294967296), (y / 4294967296), ((x % 4294967296) * (y % 4294967296)), ((x / 4294967296) * (y % 4294967296)), ((x % 4294967296) * (y / 4294967296)), ((x / 4294967296) * (y / 4294967296)), (((x / 4294967296) * (y % 4294967296)) + ((x % 4294967296) * (y % 4294967296)) / 4294967296), ((((x / 4294967296) * (y % 4294967296)) + ((x % 4294967296) * (y % 4294967296)) / 4294967296) % 4294967296), ((((x / 4294967296) * (y % 4294967296)) + ((x % 4294967296) * (y % 4294967296)) / 4294967296) / 4294967296), (((((x / 4294967296) * (y % 4294967296)) + ((x % 4294967296) * (y % 4294967296)) / 4294967296) % 4294967296) + ((x % 4294967296) * (y / 4294967296))), (((x / 4294967296) * (y / 4294967296)) + ((((x / 4294967296) * (y % 4294967296)) + ((x % 4294967296) * (y % 4294967296)) / 4294967296) / 4294967296)), ((((x / 4294967296) * (y / 4294967296)) + ((((x / 4294967296) * (y % 4294967296)) + ((x % 4294967296) * (y % 4294967296)) / 4294967296) / 4294967296)) + (((((x / 4294967296) * (y % 4294967296)) + ((x % 4294967296) * (y % 4294967296)) / 4294967296) % 4294967296) + ((x % 4294967296) * (y / 4294967296))) / 4294967296), ⟨maskN x hx, rfl, maskN y hy, rfl, ?_, ?_, ?_, ?_, rfl, ?_, ?_, ?_, ?_, ?_, ?_⟩, hhi⟩
  · rw [mulN]; exact wrapN _ b1
  · rw [mulN]; exact wrapN _ (by omega)
  · exact wrapN _ b2
  · exact maskN _ b2
  · rw [mulN]; exact wrapN _ (by omega)
  · exact wrapN _ b3
  · rw [mulN]; exact wrapN _ (by omega)
  · exact wrapN _ (by omega)
  · exact wrapN _ c5
  · rw [mulN]; exact wrapM _

set_option maxHeartbeats 1000000 in
theorem mul64 (x y : Nat) (hx : x < 18446744073709551616) (hy : y < 18446744073709551616) (w : World) :
    Calls Tryd.prog 70 #[.int .u64 x, .int .u64 y] w fun e w' => e = .returned (.tuple #[.int .u64 ((x * y / 18446744073709551616 : Nat) : Int), .int .u64 ((x * y % 18446744073709551616 : Nat) : Int)]) ∧ w = w' := by
  obtain ⟨u, s, v, t, uv, sv, ut, st, m0, m1, m2, m3, m4, m5, S, e5⟩ := school x y hx hy
  rw [← e5]
  obtain ⟨k1, k2, k3, k4, k5, k6, k7, k8, k9, k10, k11, k12, k13, k14, k15⟩ := S
  generalize x * y % 18446744073709551616 = l at k15 ⊢
  clear e5 hx hy
  go_enter Tryd.func70, Tryd.ntmps70
  go_wp2
  go_ret2
  exact ⟨rfl, rfl⟩

theorem run_sub64 {P : Program} (x y b : Nat) (hb : b ≤ 1) (w : World) :
    Sem.run P (do
      let (x, y, b) ← Extern.MathBitsCarry.three "Sub64" #[.int .u64 x, .int .u64 y, .int .u64 b]
      pure (Extern.MathBitsCarry.pair ((x + Extern.MathBitsCarry.m64 - y - b) % Extern.MathBitsCarry.m64) (if x < y + b then 1 else 0))) w =
      .ok (.tuple #[.int .u64 (((x + 18446744073709551616 - y - b) % 18446744073709551616 : Nat) : Int), .int .u64 ((if x < y + b then 1 else 0 : Nat) : Int)]) w := by
  have : b = 0 ∨ b = 1 := by omega
  rcases this with rfl | rfl <;> rfl

theorem add64 (x y c : Nat) (hc : c ≤ 1) (w : World) :
    (callFunc 69 #[.int .u64 x, .int .u64 y, .int .u64 c]).run Tryd.prog w =
      .ok (.value (.tuple #[.int .u64 (((x + y + c) % 18446744073709551616 : Nat) : Int), .int .u64 (((x + y + c) / 18446744073709551616 : Nat) : Int)])) w := by
  rw [run_callFunc_extern Tryd.func69 (by kernel_rfl) (by kernel_rfl) (by kernel_rfl) (e := add64Entry) (by kernel_rfl), run_add64 x y c (by omega) (by omega) (by omega) (by omega)]
  simp only [Result.andThen]
  congr 5 <;> omega

theorem add64z (x y : Nat) (w : World) :
    (callFunc 69 #[.int .u64 x, .int .u64 y, .int .u64 0]).run Tryd.prog w =
      .ok (.value (.tuple #[.int .u64 (((x + y + 0) % 18446744073709551616 : Nat) : Int), .int .u64 (((x + y + 0) / 18446744073709551616 : Nat) : Int)])) w := add64 x y 0 (by omega) w

theorem sub64 (x y b : Nat) (hb : b ≤ 1) (w : World) :
    (callFunc 68 #[.int .u64 x, .int .u64 y, .int .u64 b]).run Tryd.prog w =
      .ok (.value (.tuple #[.int .u64 (((x + 18446744073709551616 - y - b) % 18446744073709551616 : Nat) : Int), .int .u64 ((if x < y + b then 1 else 0 : Nat) : Int)])) w := by
  rw [run_callFunc_extern Tryd.func68 (by kernel_rfl) (by kernel_rfl) (by kernel_rfl) (e := fun args => do
      let (x, y, b) ← Extern.MathBitsCarry.three "Sub64" args
      pure (Extern.MathBitsCarry.pair ((x + Extern.MathBitsCarry.m64 - y - b) % Extern.MathBitsCarry.m64) (if x < y + b then 1 else 0))) (by kernel_rfl), run_sub64 x y b hb]
  rfl
theorem sub64z (x y : Nat) (w : World) :
    (callFunc 68 #[.int .u64 x, .int .u64 y, .int .u64 0]).run Tryd.prog w =
      .ok (.value (.tuple #[.int .u64 (((x + 18446744073709551616 - y - 0) % 18446744073709551616 : Nat) : Int), .int .u64 ((if x < y + 0 then 1 else 0 : Nat) : Int)])) w := sub64 x y 0 (by omega) w
end Bt
end Go.Proofs.YtnnieiedkjekpaaDoor
