/- An argument of type api.Tile, opened: four ints. -/
import Derived.Test.YtobpjlgiefnmjaaDoorFrame
import Derived.Deep.Strs
import Derived.Lib.SmallJoins
set_option linter.unusedVariables false
namespace Go.Proofs.YtobpjlgiefnmjaaDoor
open Go.ChangeShapes Go.WideShapes Go.ChangeAt Go.RowKit
namespace Td

theorem cellsT : Tryd.prog.cellsOf 45 = 4 := by kernel_rfl
theorem cellsS : Tryd.prog.cellsOf 23 = 2 := by kernel_rfl
theorem cellsI : Tryd.prog.cellsOf 3 = 1 := by kernel_rfl
theorem open_tile {H : Type} {enc : TypeId × Value → H} {W : World} {base : Nat} {v : Value} {d : DataW H} {p : List MemPlace} (hv : Value.okWide Tryd.prog W .any base 45 v) (h : DataW.Trod enc Tryd.prog W 0 (fun _ => true) true 45 v d p) :
    ∃ a b r c : Int, v = .agg #[.int .i64 a, .int .i64 b, .int .i64 r, .int .i64 c] ∧ p = [] ∧ (-9223372036854775808 ≤ r ∧ r ≤ 9223372036854775807) ∧ (-9223372036854775808 ≤ c ∧ c ≤ 9223372036854775807) := by
  obtain ⟨cs, rfl, hsz⟩ := okWide_struct Tryd.underlying45 hv
  obtain ⟨c0, c1, c2, c3, rfl⟩ := Joins.array4 (hsz.trans cellsT)
  obtain ⟨fuel, hf⟩ := h
  obtain ⟨y0, y1, y2, n, hx, _, h0, h1, h2⟩ := Deep.trod_struct3 Tryd.underlying45 hf
  simp [Value.cells, cellsS] at h0
  simp [Value.cells, cellsI] at h1 h2
  obtain ⟨z0, z1, m, hz, _, g0, g1⟩ := trod_struct2 Tryd.underlying23 h0
  simp [cellsI] at g0 g1
  obtain ⟨a, ea, rfl, _⟩ := DataW.trod_int Tryd.underlying3 g0
  obtain ⟨b, eb, rfl, _⟩ := DataW.trod_int Tryd.underlying3 g1
  obtain ⟨r, er, rfl, wr⟩ := DataW.trod_int Tryd.underlying3 h1
  obtain ⟨c, ec, rfl, wc⟩ := DataW.trod_int Tryd.underlying3 h2
  simp at ea eb er ec
  subst ea eb er ec
  subst hz
  simp only [Prod.mk.injEq] at hx
  refine ⟨a, b, r, c, rfl, by rw [hx.2]; rfl, ?_, ?_⟩
  · simpa [Lit.wf, IntKind.min, IntKind.max, IntKind.signed, IntKind.bits] using wr
  · simpa [Lit.wf, IntKind.min, IntKind.max, IntKind.signed, IntKind.bits] using wc
end Td
end Go.Proofs.YtobpjlgiefnmjaaDoor
