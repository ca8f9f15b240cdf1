/- Arguments of type api.View and api.Shape, opened: three ints, two ints. -/
import Derived.Test.YtfjoacopnkceoaaDoorFrame
import Derived.Deep.Strs
import Derived.Lib.SmallJoins
set_option linter.unusedVariables false
namespace Go.Proofs.YtfjoacopnkceoaaDoor
open Go.ChangeShapes Go.WideShapes Go.ChangeAt Go.RowKit
namespace Vw

theorem cellsV : Tryd.prog.cellsOf 24 = 3 := by kernel_rfl
theorem cellsS : Tryd.prog.cellsOf 40 = 2 := by kernel_rfl
theorem cellsI : Tryd.prog.cellsOf 3 = 1 := by kernel_rfl
theorem array2 {xs : Array Value} (h : xs.size = 2) : ∃ a b, xs = #[a, b] := by
  obtain ⟨l⟩ := xs
  rcases l with _ | ⟨a, _ | ⟨b, _ | ⟨c, l⟩⟩⟩
  · simp at h
  · simp at h
  · exact ⟨a, b, rfl⟩
  · simp at h
theorem array3 {xs : Array Value} (h : xs.size = 3) : ∃ a b c, xs = #[a, b, c] := by
  obtain ⟨l⟩ := xs
  rcases l with _ | ⟨a, _ | ⟨b, _ | ⟨c, _ | ⟨d, l⟩⟩⟩⟩
  · simp at h
  · simp at h
  · simp at h
  · exact ⟨a, b, c, rfl⟩
  · simp at h
set_option maxRecDepth 100000 in
theorem open_view {H : Type} {enc : TypeId × Value → H} {W : World} {base : Nat} {v : Value} {d : DataW H} {p : List MemPlace} (hv : Value.okWide Tryd.prog W .any base 24 v) (h : DataW.Trod enc Tryd.prog W 0 (fun _ => true) true 24 v d p) :
    ∃ a b c : Int, v = .agg #[.int .i64 a, .int .i64 b, .int .i64 c] ∧ p = [] ∧ (-9223372036854775808 ≤ a ∧ a ≤ 9223372036854775807) ∧ (-9223372036854775808 ≤ b ∧ b ≤ 9223372036854775807) := by
  obtain ⟨cs, rfl, hsz⟩ := okWide_struct Tryd.underlying24 hv
  have hs3 : cs.size = 3 := by rw [hsz]; exact cellsV
  obtain ⟨c0, c1, c2, rfl⟩ := array3 hs3
  obtain ⟨fuel, hf⟩ := h
  obtain ⟨y0, y1, y2, n, hx, _, h0, h1, h2⟩ := Deep.trod_struct3 Tryd.underlying24 hf
  simp [Value.cells, cellsI] at h0 h1 h2
  obtain ⟨a, ea, rfl, wa⟩ := DataW.trod_int Tryd.underlying3 h0
  obtain ⟨b, eb, rfl, wb⟩ := DataW.trod_int Tryd.underlying3 h1
  obtain ⟨c, ec, rfl, _⟩ := DataW.trod_int Tryd.underlying3 h2
  simp at ea eb ec
  subst ea eb ec
  simp only [Prod.mk.injEq] at hx
  refine ⟨a, b, c, rfl, by rw [hx.2]; rfl, ?_, ?_⟩
  · simpa [Lit.wf, IntKind.min, IntKind.max, IntKind.signed, IntKind.bits] using wa
  · simpa [Lit.wf, IntKind.min, IntKind.max, IntKind.signed, IntKind.bits] using wb
set_option maxRecDepth 100000 in
theorem open_shape {H : Type} {enc : TypeId × Value → H} {W : World} {base : Nat} {v : Value} {d : DataW H} {p : List MemPlace} (hv : Value.okWide Tryd.prog W .any base 40 v) (h : DataW.Trod enc Tryd.prog W 0 (fun _ => true) true 40 v d p) :
    ∃ a b : Int, v = .agg #[.int .i64 a, .int .i64 b] ∧ p = [] := by
  obtain ⟨cs, rfl, hsz⟩ := okWide_struct Tryd.underlying40 hv
  have hs2 : cs.size = 2 := by rw [hsz]; exact cellsS
  obtain ⟨c0, c1, rfl⟩ := array2 hs2
  obtain ⟨fuel, hf⟩ := h
  obtain ⟨z0, z1, m, hz, _, g0, g1⟩ := trod_struct2 Tryd.underlying40 hf
  simp [Value.cells, cellsI] at g0 g1
  obtain ⟨a, ea, rfl, _⟩ := DataW.trod_int Tryd.underlying3 g0
  obtain ⟨b, eb, rfl, _⟩ := DataW.trod_int Tryd.underlying3 g1
  simp at ea eb
  subst ea eb
  simp only [Prod.mk.injEq] at hz
  exact ⟨a, b, rfl, by rw [hz.2]; rfl⟩
end Vw
end Go.Proofs.YtfjoacopnkceoaaDoor
