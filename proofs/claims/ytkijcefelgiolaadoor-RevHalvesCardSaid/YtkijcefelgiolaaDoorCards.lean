/-
  DERIVED. GIVEN WITH THE SEED: THE CARDS: each row of YtkijcefelgiolaaDoorRows.lean that lists a variable, with what it lists TIED to the program's text (the seventh form; the later family's looks); each row that meets fmt, with fmt's text TOLD by the authors' own Lean function (tested against real Go, not proved from fmt's source: count such statements apart). THE CARD IS WHAT COUNTS. Prove the row's statement (the work); the ties are given (YtkijcefelgiolaaDoorTie.lean); close each card by the builder's one call (the guide's Derived/Test/ToyasCard.lean, 'card_holds'). Laid BY PROGRAM, IN A SANDBOX (cutbox-door.mjs). By AI agents, Wed Nov 11 2026. No macro, syntax, notation, axiom, sorry.
-/
import Derived.Test.YtkijcefelgiolaaDoorRows
import GoSem.ClaimSeven
namespace Go.Proofs.YtkijcefelgiolaaDoor
namespace Rows

/-- THE TIED CARD OF 'abacistlaw05.RevRows'. -/
def revRowsCard : Claim7 := { stood := { row := revRowsRow, standIns := [], harness := (true, "d778ef4d50cb97566007208ca9de4f8b38eef6f653f00ff6a00e7cc908548436"), looks := false }, kinds := [], alts := [], laidByText := true, laidKinds := [.data, .data], laidTests := true, laidLooks := .later }
def RevRowsCardSaid : Prop := Claim7.holds Tryd.pinned (.plain (OpenSpec.ofChange revRowsSpec)) revRowsCard

/-- THE TIED CARD OF 'abacistlaw05.RevHalves'. -/
def revHalvesCard : Claim7 := { stood := { row := revHalvesRow, standIns := [], harness := (true, "d778ef4d50cb97566007208ca9de4f8b38eef6f653f00ff6a00e7cc908548436"), looks := false }, kinds := [], alts := [], laidByText := true, laidKinds := [.data, .data], laidTests := true, laidLooks := .later }
def RevHalvesCardSaid : Prop := Claim7.holds Tryd.pinned (.plain (OpenSpec.ofChange revHalvesSpec)) revHalvesCard

/-- THE SECOND FORM's CARD OF 'abacistlaw05.RevRows'. -/
def revRowsUptoCard : Claim7 := { stood := { row := revRowsUptoRow, standIns := [], harness := (true, "d778ef4d50cb97566007208ca9de4f8b38eef6f653f00ff6a00e7cc908548436"), looks := false }, kinds := [], alts := [], laidByText := true, laidKinds := [.data, .data], laidTests := true, laidLooks := .later }
def RevRowsUptoCardSaid : Prop := Claim7.holds Tryd.pinned (.plain (OpenSpec.upto revRowsSpec)) revRowsUptoCard

/-- THE SECOND FORM's CARD OF 'abacistlaw05.RevHalves'. -/
def revHalvesUptoCard : Claim7 := { stood := { row := revHalvesUptoRow, standIns := [], harness := (true, "d778ef4d50cb97566007208ca9de4f8b38eef6f653f00ff6a00e7cc908548436"), looks := false }, kinds := [], alts := [], laidByText := true, laidKinds := [.data, .data], laidTests := true, laidLooks := .later }
def RevHalvesUptoCardSaid : Prop := Claim7.holds Tryd.pinned (.plain (OpenSpec.upto revHalvesSpec)) revHalvesUptoCard
end Rows
end Go.Proofs.YtkijcefelgiolaaDoor
