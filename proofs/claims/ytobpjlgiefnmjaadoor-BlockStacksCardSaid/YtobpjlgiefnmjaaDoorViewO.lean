/- Arguments of type api.View and api.Shape, opened: three ints, two ints. -/
import Derived.Test.YtobpjlgiefnmjaaDoorFrame
import Derived.Deep.Strs
import Derived.Lib.SmallJoins
set_option linter.unusedVariables false
namespace Go.Proofs.YtobpjlgiefnmjaaDoor
open Go.ChangeShapes Go.WideShapes Go.ChangeAt Go.RowKit
namespace Vw

theorem cellsS : Tryd.prog.cellsOf 23 = 2 := by kernel_rfl
theorem cellsI : Tryd.prog.cellsOf 3 = 1 := by kernel_rfl
theorem array2 {xs : Array Value} (h : xs.size = 2) : ∃ a b, xs = #[a, b] := by
  obtain ⟨l⟩ := xs
  rcases l with _ | ⟨a, _ | ⟨b, _ | ⟨c, l⟩⟩⟩
  · simp at h
  · simp at h
  · exact ⟨a, b, rfl⟩
  · simp at h
theorem array3 {xs : Array Value} (h : xs.size = 3) : ∃ a b c, xs = #[a, b, c] := by
  obtain ⟨l⟩ := xs
  rcases l with _ | ⟨a, _ | ⟨b, _ | ⟨c, _ | ⟨d, l⟩⟩⟩⟩
  · simp at h
  · simp at h
  · simp at h
  · exact ⟨a, b, c, rfl⟩
  · simp at h
set_option maxRecDepth 100000 in
theorem open_shape {H : Type} {enc : TypeId × Value → H} {W : World} {base : Nat} {v : Value} {d : DataW H} {p : List MemPlace} (hv : Value.okWide Tryd.prog W .any base 23 v) (h : DataW.Trod enc Tryd.prog W 0 (fun _ => true) true 23 v d p) :
    ∃ a b : Int, v = .agg #[.int .i64 a, .int .i64 b] ∧ p = [] := by
  obtain ⟨cs, rfl, hsz⟩ := okWide_struct Tryd.underlying23 hv
  have hs2 : cs.size = 2 := by rw [hsz]; exact cellsS
  obtain ⟨c0, c1, rfl⟩ := array2 hs2
  obtain ⟨fuel, hf⟩ := h
  obtain ⟨z0, z1, m, hz, _, g0, g1⟩ := trod_struct2 Tryd.underlying23 hf
  simp [Value.cells, cellsI] at g0 g1
  obtain ⟨a, ea, rfl, _⟩ := DataW.trod_int Tryd.underlying3 g0
  obtain ⟨b, eb, rfl, _⟩ := DataW.trod_int Tryd.underlying3 g1
  simp at ea eb
  subst ea eb
  simp only [Prod.mk.injEq] at hz
  exact ⟨a, b, rfl, by rw [hz.2]; rfl⟩
end Vw
end Go.Proofs.YtobpjlgiefnmjaaDoor
