/-
  DERIVED. GIVEN WITH THE SEED: THE CARDS: each row of YtfkhnfaammfbeaaDoorRows.lean that lists a variable, with what it lists TIED to the program's text (the seventh form; the later family's looks); each row that meets fmt, with fmt's text TOLD by the authors' own Lean function (tested against real Go, not proved from fmt's source: count such statements apart). THE CARD IS WHAT COUNTS. Prove the row's statement (the work); the ties are given (YtfkhnfaammfbeaaDoorTie.lean); close each card by the builder's one call (the guide's Derived/Test/ToyasCard.lean, 'card_holds'). Laid BY PROGRAM, IN A SANDBOX (cutbox-door.mjs). By AI agents, Wed Nov 11 2026. No macro, syntax, notation, axiom, sorry.
-/
import Derived.Test.YtfkhnfaammfbeaaDoorRows
import GoSem.ClaimSeven
namespace Go.Proofs.YtfkhnfaammfbeaaDoor
namespace Rows

/-- THE TIED CARD OF 'abacistlaw10.QuartersRun'. -/
def quartersRunCard : Claim7 := { stood := { row := quartersRunRow, standIns := [], harness := (true, "cf7c85e9629713dc6ce8f8f4082d2a658f76e107ef80f9f8b6d8f094935fe332"), looks := false }, kinds := [], alts := [], laidByText := true, laidKinds := [.data, .data], laidTests := true, laidLooks := .later }
def QuartersRunCardSaid : Prop := Claim7.holds Tryd.pinned (.plain (OpenSpec.ofChange quartersRunSpec)) quartersRunCard

/-- THE TIED CARD OF 'abacistlaw10.QuartersAlike'. -/
def quartersAlikeCard : Claim7 := { stood := { row := quartersAlikeRow, standIns := [], harness := (true, "cf7c85e9629713dc6ce8f8f4082d2a658f76e107ef80f9f8b6d8f094935fe332"), looks := false }, kinds := [], alts := [], laidByText := true, laidKinds := [.data, .data], laidTests := true, laidLooks := .later }
def QuartersAlikeCardSaid : Prop := Claim7.holds Tryd.pinned (.plain (OpenSpec.ofChange quartersAlikeSpec)) quartersAlikeCard

/-- THE SECOND FORM's CARD OF 'abacistlaw10.QuartersRun'. -/
def quartersRunUptoCard : Claim7 := { stood := { row := quartersRunUptoRow, standIns := [], harness := (true, "cf7c85e9629713dc6ce8f8f4082d2a658f76e107ef80f9f8b6d8f094935fe332"), looks := false }, kinds := [], alts := [], laidByText := true, laidKinds := [.data, .data], laidTests := true, laidLooks := .later }
def QuartersRunUptoCardSaid : Prop := Claim7.holds Tryd.pinned (.plain (OpenSpec.upto quartersRunSpec)) quartersRunUptoCard

/-- THE SECOND FORM's CARD OF 'abacistlaw10.QuartersAlike'. -/
def quartersAlikeUptoCard : Claim7 := { stood := { row := quartersAlikeUptoRow, standIns := [], harness := (true, "cf7c85e9629713dc6ce8f8f4082d2a658f76e107ef80f9f8b6d8f094935fe332"), looks := false }, kinds := [], alts := [], laidByText := true, laidKinds := [.data, .data], laidTests := true, laidLooks := .later }
def QuartersAlikeUptoCardSaid : Prop := Claim7.holds Tryd.pinned (.plain (OpenSpec.upto quartersAlikeSpec)) quartersAlikeUptoCard
end Rows
end Go.Proofs.YtfkhnfaammfbeaaDoor
