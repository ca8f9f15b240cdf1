/-
  DERIVED. GIVEN WITH THE SEED: THE CARDS: each row of YtfjoacopnkceoaaDoorRows.lean that lists a variable, with what it lists TIED to the program's text (the seventh form; the later family's looks); each row that meets fmt, with fmt's text TOLD by the authors' own Lean function (tested against real Go, not proved from fmt's source: count such statements apart). THE CARD IS WHAT COUNTS. Prove the row's statement (the work); the ties are given (YtfjoacopnkceoaaDoorTie.lean); close each card by the builder's one call (the guide's Derived/Test/ToyasCard.lean, 'card_holds'). Laid BY PROGRAM, IN A SANDBOX (cutbox-door.mjs). By AI agents, Wed Nov 11 2026. No macro, syntax, notation, axiom, sorry.
-/
import Derived.Test.YtfjoacopnkceoaaDoorRows
import GoSem.ClaimSeven
namespace Go.Proofs.YtfjoacopnkceoaaDoor
namespace Rows

/-- THE TIED CARD OF 'abacistlaw11.RowsViews'. -/
def rowsViewsCard : Claim7 := { stood := { row := rowsViewsRow, standIns := [], harness := (true, "773421c4d56adc2501db8c024a78eb20963dd453288ca3cc32c378941aa77a2f"), looks := false }, kinds := [], alts := [], laidByText := true, laidKinds := [.data, .data], laidTests := true, laidLooks := .later }
def RowsViewsCardSaid : Prop := Claim7.holds Tryd.pinned (.plain (OpenSpec.ofChange rowsViewsSpec)) rowsViewsCard

/-- THE TIED CARD OF 'abacistlaw11.RowsRun'. -/
def rowsRunCard : Claim7 := { stood := { row := rowsRunRow, standIns := [], harness := (true, "773421c4d56adc2501db8c024a78eb20963dd453288ca3cc32c378941aa77a2f"), looks := false }, kinds := [], alts := [], laidByText := true, laidKinds := [.data, .data], laidTests := true, laidLooks := .later }
def RowsRunCardSaid : Prop := Claim7.holds Tryd.pinned (.plain (OpenSpec.ofChange rowsRunSpec)) rowsRunCard

/-- THE TIED CARD OF 'abacistlaw11.RowsAll'. -/
def rowsAllCard : Claim7 := { stood := { row := rowsAllRow, standIns := [], harness := (true, "773421c4d56adc2501db8c024a78eb20963dd453288ca3cc32c378941aa77a2f"), looks := false }, kinds := [], alts := [], laidByText := true, laidKinds := [.data, .data], laidTests := true, laidLooks := .later }
def RowsAllCardSaid : Prop := Claim7.holds Tryd.pinned (.plain (OpenSpec.ofChange rowsAllSpec)) rowsAllCard

/-- THE TIED CARD OF 'abacistlaw11.RowsSix'. -/
def rowsSixCard : Claim7 := { stood := { row := rowsSixRow, standIns := [], harness := (true, "773421c4d56adc2501db8c024a78eb20963dd453288ca3cc32c378941aa77a2f"), looks := false }, kinds := [], alts := [], laidByText := true, laidKinds := [.data, .data], laidTests := true, laidLooks := .later }
def RowsSixCardSaid : Prop := Claim7.holds Tryd.pinned (.plain (OpenSpec.ofChange rowsSixSpec)) rowsSixCard

/-- THE TIED CARD OF 'abacistlaw11.RowsParts'. -/
def rowsPartsCard : Claim7 := { stood := { row := rowsPartsRow, standIns := [], harness := (true, "773421c4d56adc2501db8c024a78eb20963dd453288ca3cc32c378941aa77a2f"), looks := false }, kinds := [], alts := [], laidByText := true, laidKinds := [.data, .data], laidTests := true, laidLooks := .later }
def RowsPartsCardSaid : Prop := Claim7.holds Tryd.pinned (.plain (OpenSpec.ofChange rowsPartsSpec)) rowsPartsCard

/-- THE SECOND FORM's CARD OF 'abacistlaw11.RowsViews'. -/
def rowsViewsUptoCard : Claim7 := { stood := { row := rowsViewsUptoRow, standIns := [], harness := (true, "773421c4d56adc2501db8c024a78eb20963dd453288ca3cc32c378941aa77a2f"), looks := false }, kinds := [], alts := [], laidByText := true, laidKinds := [.data, .data], laidTests := true, laidLooks := .later }
def RowsViewsUptoCardSaid : Prop := Claim7.holds Tryd.pinned (.plain (OpenSpec.upto rowsViewsSpec)) rowsViewsUptoCard

/-- THE SECOND FORM's CARD OF 'abacistlaw11.RowsRun'. -/
def rowsRunUptoCard : Claim7 := { stood := { row := rowsRunUptoRow, standIns := [], harness := (true, "773421c4d56adc2501db8c024a78eb20963dd453288ca3cc32c378941aa77a2f"), looks := false }, kinds := [], alts := [], laidByText := true, laidKinds := [.data, .data], laidTests := true, laidLooks := .later }
def RowsRunUptoCardSaid : Prop := Claim7.holds Tryd.pinned (.plain (OpenSpec.upto rowsRunSpec)) rowsRunUptoCard

/-- THE SECOND FORM's CARD OF 'abacistlaw11.RowsAll'. -/
def rowsAllUptoCard : Claim7 := { stood := { row := rowsAllUptoRow, standIns := [], harness := (true, "773421c4d56adc2501db8c024a78eb20963dd453288ca3cc32c378941aa77a2f"), looks := false }, kinds := [], alts := [], laidByText := true, laidKinds := [.data, .data], laidTests := true, laidLooks := .later }
def RowsAllUptoCardSaid : Prop := Claim7.holds Tryd.pinned (.plain (OpenSpec.upto rowsAllSpec)) rowsAllUptoCard

/-- THE SECOND FORM's CARD OF 'abacistlaw11.RowsSix'. -/
def rowsSixUptoCard : Claim7 := { stood := { row := rowsSixUptoRow, standIns := [], harness := (true, "773421c4d56adc2501db8c024a78eb20963dd453288ca3cc32c378941aa77a2f"), looks := false }, kinds := [], alts := [], laidByText := true, laidKinds := [.data, .data], laidTests := true, laidLooks := .later }
def RowsSixUptoCardSaid : Prop := Claim7.holds Tryd.pinned (.plain (OpenSpec.upto rowsSixSpec)) rowsSixUptoCard

/-- THE SECOND FORM's CARD OF 'abacistlaw11.RowsParts'. -/
def rowsPartsUptoCard : Claim7 := { stood := { row := rowsPartsUptoRow, standIns := [], harness := (true, "773421c4d56adc2501db8c024a78eb20963dd453288ca3cc32c378941aa77a2f"), looks := false }, kinds := [], alts := [], laidByText := true, laidKinds := [.data, .data], laidTests := true, laidLooks := .later }
def RowsPartsUptoCardSaid : Prop := Claim7.holds Tryd.pinned (.plain (OpenSpec.upto rowsPartsSpec)) rowsPartsUptoCard
end Rows
end Go.Proofs.YtfjoacopnkceoaaDoor
