/-
  DERIVED. GIVEN WITH THE SEED: THE CARDS: each row of YtggocbblpgaaoaaDoorRows.lean that lists a variable, with what it lists TIED to the program's text (the seventh form; the later family's looks); each row that meets fmt, with fmt's text TOLD by the authors' own Lean function (tested against real Go, not proved from fmt's source: count such statements apart). THE CARD IS WHAT COUNTS. Prove the row's statement (the work); the ties are given (YtggocbblpgaaoaaDoorTie.lean); close each card by the builder's one call (the guide's Derived/Test/ToyasCard.lean, 'card_holds'). Laid BY PROGRAM, IN A SANDBOX (cutbox-door.mjs). By AI agents, Wed Nov 11 2026. No macro, syntax, notation, axiom, sorry.
-/
import Derived.Test.YtggocbblpgaaoaaDoorRows
import GoSem.ClaimSeven
namespace Go.Proofs.YtggocbblpgaaoaaDoor
namespace Rows

/-- THE TIED CARD OF 'abacistlaw04.CodecForms'. -/
def codecFormsCard : Claim7 := { stood := { row := codecFormsRow, standIns := [], harness := (true, "7f103d8aff91f16e05554025767994734eaa4d327eb7b40c6f204380df594668"), looks := false }, kinds := [], alts := [], laidByText := true, laidKinds := [.data, .data, .data], laidTests := true, laidLooks := .later }
def CodecFormsCardSaid : Prop := Claim7.holds Tryd.pinned (.plain (OpenSpec.ofChange codecFormsSpec)) codecFormsCard

/-- THE TIED CARD OF 'abacistlaw04.CodecPlaces'. -/
def codecPlacesCard : Claim7 := { stood := { row := codecPlacesRow, standIns := [], harness := (true, "7f103d8aff91f16e05554025767994734eaa4d327eb7b40c6f204380df594668"), looks := false }, kinds := [], alts := [], laidByText := true, laidKinds := [.data, .data, .data], laidTests := true, laidLooks := .later }
def CodecPlacesCardSaid : Prop := Claim7.holds Tryd.pinned (.plain (OpenSpec.ofChange codecPlacesSpec)) codecPlacesCard

/-- THE TIED CARD OF 'abacistlaw04.CodecTexts'. -/
def codecTextsCard : Claim7 := { stood := { row := codecTextsRow, standIns := [], harness := (true, "7f103d8aff91f16e05554025767994734eaa4d327eb7b40c6f204380df594668"), looks := false }, kinds := [], alts := [], laidByText := true, laidKinds := [.data, .data, .data], laidTests := true, laidLooks := .later }
def CodecTextsCardSaid : Prop := Claim7.holds Tryd.pinned (.plain (OpenSpec.ofChange codecTextsSpec)) codecTextsCard

/-- THE SECOND FORM's CARD OF 'abacistlaw04.CodecForms'. -/
def codecFormsUptoCard : Claim7 := { stood := { row := codecFormsUptoRow, standIns := [], harness := (true, "7f103d8aff91f16e05554025767994734eaa4d327eb7b40c6f204380df594668"), looks := false }, kinds := [], alts := [], laidByText := true, laidKinds := [.data, .data, .data], laidTests := true, laidLooks := .later }
def CodecFormsUptoCardSaid : Prop := Claim7.holds Tryd.pinned (.plain (OpenSpec.upto codecFormsSpec)) codecFormsUptoCard

/-- THE SECOND FORM's CARD OF 'abacistlaw04.CodecPlaces'. -/
def codecPlacesUptoCard : Claim7 := { stood := { row := codecPlacesUptoRow, standIns := [], harness := (true, "7f103d8aff91f16e05554025767994734eaa4d327eb7b40c6f204380df594668"), looks := false }, kinds := [], alts := [], laidByText := true, laidKinds := [.data, .data, .data], laidTests := true, laidLooks := .later }
def CodecPlacesUptoCardSaid : Prop := Claim7.holds Tryd.pinned (.plain (OpenSpec.upto codecPlacesSpec)) codecPlacesUptoCard

/-- THE SECOND FORM's CARD OF 'abacistlaw04.CodecTexts'. -/
def codecTextsUptoCard : Claim7 := { stood := { row := codecTextsUptoRow, standIns := [], harness := (true, "7f103d8aff91f16e05554025767994734eaa4d327eb7b40c6f204380df594668"), looks := false }, kinds := [], alts := [], laidByText := true, laidKinds := [.data, .data, .data], laidTests := true, laidLooks := .later }
def CodecTextsUptoCardSaid : Prop := Claim7.holds Tryd.pinned (.plain (OpenSpec.upto codecTextsSpec)) codecTextsUptoCard
end Rows
end Go.Proofs.YtggocbblpgaaoaaDoor
