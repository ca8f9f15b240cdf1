/-
  DERIVED. GIVEN WITH THE SEED: THE CARDS: each row of YtnnieiedkjekpaaDoorRows.lean that lists a variable, with what it lists TIED to the program's text (the seventh form; the later family's looks); each row that meets fmt, with fmt's text TOLD by the authors' own Lean function (tested against real Go, not proved from fmt's source: count such statements apart). THE CARD IS WHAT COUNTS. Prove the row's statement (the work); the ties are given (YtnnieiedkjekpaaDoorTie.lean); close each card by the builder's one call (the guide's Derived/Test/ToyasCard.lean, 'card_holds'). Laid BY PROGRAM, IN A SANDBOX (cutbox-door.mjs). By AI agents, Wed Nov 11 2026. No macro, syntax, notation, axiom, sorry.
-/
import Derived.Test.YtnnieiedkjekpaaDoorRows
import GoSem.ClaimSeven
namespace Go.Proofs.YtnnieiedkjekpaaDoor
namespace Rows

/-- THE TIED CARD OF 'abacistlaw13.ConvTells'. -/
def convTellsCard : Claim7 := { stood := { row := convTellsRow, standIns := [], harness := (true, "76a21c8733e8ca447450f9a9c74505a45dfa5ed33c6a1174d986e6424f483529"), looks := false }, kinds := [], alts := [], laidByText := true, laidKinds := [.data, .data], laidTests := true, laidLooks := .later }
def ConvTellsCardSaid : Prop := Claim7.holds Tryd.pinned (.plain (OpenSpec.ofChange convTellsSpec)) convTellsCard

/-- THE TIED CARD OF 'abacistlaw13.ConvMuls'. -/
def convMulsCard : Claim7 := { stood := { row := convMulsRow, standIns := [], harness := (true, "76a21c8733e8ca447450f9a9c74505a45dfa5ed33c6a1174d986e6424f483529"), looks := false }, kinds := [], alts := [], laidByText := true, laidKinds := [.data, .data], laidTests := true, laidLooks := .later }
def ConvMulsCardSaid : Prop := Claim7.holds Tryd.pinned (.plain (OpenSpec.ofChange convMulsSpec)) convMulsCard

/-- THE TIED CARD OF 'abacistlaw13.ConvLaws'. -/
def convLawsCard : Claim7 := { stood := { row := convLawsRow, standIns := [], harness := (true, "76a21c8733e8ca447450f9a9c74505a45dfa5ed33c6a1174d986e6424f483529"), looks := false }, kinds := [], alts := [], laidByText := true, laidKinds := [.data, .data], laidTests := true, laidLooks := .later }
def ConvLawsCardSaid : Prop := Claim7.holds Tryd.pinned (.plain (OpenSpec.ofChange convLawsSpec)) convLawsCard

/-- THE SECOND FORM's CARD OF 'abacistlaw13.ConvTells'. -/
def convTellsUptoCard : Claim7 := { stood := { row := convTellsUptoRow, standIns := [], harness := (true, "76a21c8733e8ca447450f9a9c74505a45dfa5ed33c6a1174d986e6424f483529"), looks := false }, kinds := [], alts := [], laidByText := true, laidKinds := [.data, .data], laidTests := true, laidLooks := .later }
def ConvTellsUptoCardSaid : Prop := Claim7.holds Tryd.pinned (.plain (OpenSpec.upto convTellsSpec)) convTellsUptoCard

/-- THE SECOND FORM's CARD OF 'abacistlaw13.ConvMuls'. -/
def convMulsUptoCard : Claim7 := { stood := { row := convMulsUptoRow, standIns := [], harness := (true, "76a21c8733e8ca447450f9a9c74505a45dfa5ed33c6a1174d986e6424f483529"), looks := false }, kinds := [], alts := [], laidByText := true, laidKinds := [.data, .data], laidTests := true, laidLooks := .later }
def ConvMulsUptoCardSaid : Prop := Claim7.holds Tryd.pinned (.plain (OpenSpec.upto convMulsSpec)) convMulsUptoCard

/-- THE SECOND FORM's CARD OF 'abacistlaw13.ConvLaws'. -/
def convLawsUptoCard : Claim7 := { stood := { row := convLawsUptoRow, standIns := [], harness := (true, "76a21c8733e8ca447450f9a9c74505a45dfa5ed33c6a1174d986e6424f483529"), looks := false }, kinds := [], alts := [], laidByText := true, laidKinds := [.data, .data], laidTests := true, laidLooks := .later }
def ConvLawsUptoCardSaid : Prop := Claim7.holds Tryd.pinned (.plain (OpenSpec.upto convLawsSpec)) convLawsUptoCard
end Rows
end Go.Proofs.YtnnieiedkjekpaaDoor
