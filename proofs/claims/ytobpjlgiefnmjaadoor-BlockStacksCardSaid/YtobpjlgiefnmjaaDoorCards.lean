/-
  DERIVED. GIVEN WITH THE SEED: THE CARDS: each row of YtobpjlgiefnmjaaDoorRows.lean that lists a variable, with what it lists TIED to the program's text (the seventh form; the later family's looks); each row that meets fmt, with fmt's text TOLD by the authors' own Lean function (tested against real Go, not proved from fmt's source: count such statements apart). THE CARD IS WHAT COUNTS. Prove the row's statement (the work); the ties are given (YtobpjlgiefnmjaaDoorTie.lean); close each card by the builder's one call (the guide's Derived/Test/ToyasCard.lean, 'card_holds'). Laid BY PROGRAM, IN A SANDBOX (cutbox-door.mjs). By AI agents, Wed Nov 11 2026. No macro, syntax, notation, axiom, sorry.
-/
import Derived.Test.YtobpjlgiefnmjaaDoorRows
import GoSem.ClaimSeven
namespace Go.Proofs.YtobpjlgiefnmjaaDoor
namespace Rows

/-- THE TIED CARD OF 'abacistlaw12.BlockTurns'. -/
def blockTurnsCard : Claim7 := { stood := { row := blockTurnsRow, standIns := [], harness := (true, "e8d6dfe1d6f1e90dd374c99e3cee3a3d6da8ba4af993dc51e0686d4312efd886"), looks := false }, kinds := [], alts := [], laidByText := true, laidKinds := [.data, .data], laidTests := true, laidLooks := .later }
def BlockTurnsCardSaid : Prop := Claim7.holds Tryd.pinned (.plain (OpenSpec.ofChange blockTurnsSpec)) blockTurnsCard

/-- THE TIED CARD OF 'abacistlaw12.BlockWords'. -/
def blockWordsCard : Claim7 := { stood := { row := blockWordsRow, standIns := [], harness := (true, "e8d6dfe1d6f1e90dd374c99e3cee3a3d6da8ba4af993dc51e0686d4312efd886"), looks := false }, kinds := [], alts := [], laidByText := true, laidKinds := [.data, .data], laidTests := true, laidLooks := .later }
def BlockWordsCardSaid : Prop := Claim7.holds Tryd.pinned (.plain (OpenSpec.ofChange blockWordsSpec)) blockWordsCard

/-- THE TIED CARD OF 'abacistlaw12.BlockParts'. -/
def blockPartsCard : Claim7 := { stood := { row := blockPartsRow, standIns := [], harness := (true, "e8d6dfe1d6f1e90dd374c99e3cee3a3d6da8ba4af993dc51e0686d4312efd886"), looks := false }, kinds := [], alts := [], laidByText := true, laidKinds := [.data, .data], laidTests := true, laidLooks := .later }
def BlockPartsCardSaid : Prop := Claim7.holds Tryd.pinned (.plain (OpenSpec.ofChange blockPartsSpec)) blockPartsCard

/-- THE TIED CARD OF 'abacistlaw12.BlockSwaps'. -/
def blockSwapsCard : Claim7 := { stood := { row := blockSwapsRow, standIns := [], harness := (true, "e8d6dfe1d6f1e90dd374c99e3cee3a3d6da8ba4af993dc51e0686d4312efd886"), looks := false }, kinds := [], alts := [], laidByText := true, laidKinds := [.data, .data], laidTests := true, laidLooks := .later }
def BlockSwapsCardSaid : Prop := Claim7.holds Tryd.pinned (.plain (OpenSpec.ofChange blockSwapsSpec)) blockSwapsCard

/-- THE TIED CARD OF 'abacistlaw12.BlockStacks'. -/
def blockStacksCard : Claim7 := { stood := { row := blockStacksRow, standIns := [], harness := (true, "e8d6dfe1d6f1e90dd374c99e3cee3a3d6da8ba4af993dc51e0686d4312efd886"), looks := false }, kinds := [], alts := [], laidByText := true, laidKinds := [.data, .data], laidTests := true, laidLooks := .later }
def BlockStacksCardSaid : Prop := Claim7.holds Tryd.pinned (.plain (OpenSpec.ofChange blockStacksSpec)) blockStacksCard

/-- THE SECOND FORM's CARD OF 'abacistlaw12.BlockTurns'. -/
def blockTurnsUptoCard : Claim7 := { stood := { row := blockTurnsUptoRow, standIns := [], harness := (true, "e8d6dfe1d6f1e90dd374c99e3cee3a3d6da8ba4af993dc51e0686d4312efd886"), looks := false }, kinds := [], alts := [], laidByText := true, laidKinds := [.data, .data], laidTests := true, laidLooks := .later }
def BlockTurnsUptoCardSaid : Prop := Claim7.holds Tryd.pinned (.plain (OpenSpec.upto blockTurnsSpec)) blockTurnsUptoCard

/-- THE SECOND FORM's CARD OF 'abacistlaw12.BlockWords'. -/
def blockWordsUptoCard : Claim7 := { stood := { row := blockWordsUptoRow, standIns := [], harness := (true, "e8d6dfe1d6f1e90dd374c99e3cee3a3d6da8ba4af993dc51e0686d4312efd886"), looks := false }, kinds := [], alts := [], laidByText := true, laidKinds := [.data, .data], laidTests := true, laidLooks := .later }
def BlockWordsUptoCardSaid : Prop := Claim7.holds Tryd.pinned (.plain (OpenSpec.upto blockWordsSpec)) blockWordsUptoCard

/-- THE SECOND FORM's CARD OF 'abacistlaw12.BlockParts'. -/
def blockPartsUptoCard : Claim7 := { stood := { row := blockPartsUptoRow, standIns := [], harness := (true, "e8d6dfe1d6f1e90dd374c99e3cee3a3d6da8ba4af993dc51e0686d4312efd886"), looks := false }, kinds := [], alts := [], laidByText := true, laidKinds := [.data, .data], laidTests := true, laidLooks := .later }
def BlockPartsUptoCardSaid : Prop := Claim7.holds Tryd.pinned (.plain (OpenSpec.upto blockPartsSpec)) blockPartsUptoCard

/-- THE SECOND FORM's CARD OF 'abacistlaw12.BlockSwaps'. -/
def blockSwapsUptoCard : Claim7 := { stood := { row := blockSwapsUptoRow, standIns := [], harness := (true, "e8d6dfe1d6f1e90dd374c99e3cee3a3d6da8ba4af993dc51e0686d4312efd886"), looks := false }, kinds := [], alts := [], laidByText := true, laidKinds := [.data, .data], laidTests := true, laidLooks := .later }
def BlockSwapsUptoCardSaid : Prop := Claim7.holds Tryd.pinned (.plain (OpenSpec.upto blockSwapsSpec)) blockSwapsUptoCard

/-- THE SECOND FORM's CARD OF 'abacistlaw12.BlockStacks'. -/
def blockStacksUptoCard : Claim7 := { stood := { row := blockStacksUptoRow, standIns := [], harness := (true, "e8d6dfe1d6f1e90dd374c99e3cee3a3d6da8ba4af993dc51e0686d4312efd886"), looks := false }, kinds := [], alts := [], laidByText := true, laidKinds := [.data, .data], laidTests := true, laidLooks := .later }
def BlockStacksUptoCardSaid : Prop := Claim7.holds Tryd.pinned (.plain (OpenSpec.upto blockStacksSpec)) blockStacksUptoCard
end Rows
end Go.Proofs.YtobpjlgiefnmjaaDoor
