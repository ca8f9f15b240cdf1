/-
  DERIVED. GIVEN WITH THE SEED: THE CARDS: each row of YtfmjmopmlimnnaaDoorRows.lean that lists a variable, with what it lists TIED to the program's text (the seventh form; the later family's looks); each row that meets fmt, with fmt's text TOLD by the authors' own Lean function (tested against real Go, not proved from fmt's source: count such statements apart). THE CARD IS WHAT COUNTS. Prove the row's statement (the work); the ties are given (YtfmjmopmlimnnaaDoorTie.lean); close each card by the builder's one call (the guide's Derived/Test/ToyasCard.lean, 'card_holds'). Laid BY PROGRAM, IN A SANDBOX (cutbox-door.mjs). By AI agents, Wed Nov 11 2026. No macro, syntax, notation, axiom, sorry.
-/
import Derived.Test.YtfmjmopmlimnnaaDoorRows
import GoSem.ClaimSeven
namespace Go.Proofs.YtfmjmopmlimnnaaDoor
namespace Rows

/-- THE TIED CARD OF 'abacistlaw06.ShapePlaces'. -/
def shapePlacesCard : Claim7 := { stood := { row := shapePlacesRow, standIns := [], harness := (true, "a18a4f73bdaaf5a7523aee727f94e578fd95f30399072863f491a2345e2f6f26"), looks := false }, kinds := [], alts := [], laidByText := true, laidKinds := [.data, .data], laidTests := true, laidLooks := .later }
def ShapePlacesCardSaid : Prop := Claim7.holds Tryd.pinned (.plain (OpenSpec.ofChange shapePlacesSpec)) shapePlacesCard

/-- THE TIED CARD OF 'abacistlaw06.ShapeSplits'. -/
def shapeSplitsCard : Claim7 := { stood := { row := shapeSplitsRow, standIns := [], harness := (true, "a18a4f73bdaaf5a7523aee727f94e578fd95f30399072863f491a2345e2f6f26"), looks := false }, kinds := [], alts := [], laidByText := true, laidKinds := [.data, .data], laidTests := true, laidLooks := .later }
def ShapeSplitsCardSaid : Prop := Claim7.holds Tryd.pinned (.plain (OpenSpec.ofChange shapeSplitsSpec)) shapeSplitsCard

/-- THE TIED CARD OF 'abacistlaw06.ShapeTiles'. -/
def shapeTilesCard : Claim7 := { stood := { row := shapeTilesRow, standIns := [], harness := (true, "a18a4f73bdaaf5a7523aee727f94e578fd95f30399072863f491a2345e2f6f26"), looks := false }, kinds := [], alts := [], laidByText := true, laidKinds := [.data, .data], laidTests := true, laidLooks := .later }
def ShapeTilesCardSaid : Prop := Claim7.holds Tryd.pinned (.plain (OpenSpec.ofChange shapeTilesSpec)) shapeTilesCard

/-- THE SECOND FORM's CARD OF 'abacistlaw06.ShapePlaces'. -/
def shapePlacesUptoCard : Claim7 := { stood := { row := shapePlacesUptoRow, standIns := [], harness := (true, "a18a4f73bdaaf5a7523aee727f94e578fd95f30399072863f491a2345e2f6f26"), looks := false }, kinds := [], alts := [], laidByText := true, laidKinds := [.data, .data], laidTests := true, laidLooks := .later }
def ShapePlacesUptoCardSaid : Prop := Claim7.holds Tryd.pinned (.plain (OpenSpec.upto shapePlacesSpec)) shapePlacesUptoCard

/-- THE SECOND FORM's CARD OF 'abacistlaw06.ShapeSplits'. -/
def shapeSplitsUptoCard : Claim7 := { stood := { row := shapeSplitsUptoRow, standIns := [], harness := (true, "a18a4f73bdaaf5a7523aee727f94e578fd95f30399072863f491a2345e2f6f26"), looks := false }, kinds := [], alts := [], laidByText := true, laidKinds := [.data, .data], laidTests := true, laidLooks := .later }
def ShapeSplitsUptoCardSaid : Prop := Claim7.holds Tryd.pinned (.plain (OpenSpec.upto shapeSplitsSpec)) shapeSplitsUptoCard

/-- THE SECOND FORM's CARD OF 'abacistlaw06.ShapeTiles'. -/
def shapeTilesUptoCard : Claim7 := { stood := { row := shapeTilesUptoRow, standIns := [], harness := (true, "a18a4f73bdaaf5a7523aee727f94e578fd95f30399072863f491a2345e2f6f26"), looks := false }, kinds := [], alts := [], laidByText := true, laidKinds := [.data, .data], laidTests := true, laidLooks := .later }
def ShapeTilesUptoCardSaid : Prop := Claim7.holds Tryd.pinned (.plain (OpenSpec.upto shapeTilesSpec)) shapeTilesUptoCard
end Rows
end Go.Proofs.YtfmjmopmlimnnaaDoor
