/-
  NARROWER THAN 'FOR EVERY INPUT', by the rows' own cells (each row's printed sentence says how): HalvesRun: laid · HalvesBack: laid · HalvesLinear: laid · HalvesMuls: laid · HalvesWings: laid.
  DERIVED. THE GIVEN ROWS OF THIS SEAT. 5 by the template 'for every input the law returns true; each argument reads behind the call as it read before'; 0 by the template 'total and deterministic' (their statements: YtkgclgjlohofbaaDoorTotals.lean).
  GIVEN WITH THE SEED: the statements are not yours to turn. If you find one false, say at which input.
  Laid BY PROGRAM, IN A SANDBOX (cutbox-rows.mjs): the forced cells as the released guide's own fill.sh prints them over the translation fe0407417c0f9be7… (all of the seat's roots in one cut). By AI agents, Wed Nov 11 2026. No macro, syntax, notation, axiom, sorry.
-/
import Derived.Test.YtkgclgjlohofbaaDoorChecked
import GoSem.Claim
import GoSem.ClaimJoined
import GoSem.ClaimMapViews
import Derived.JoinedTies
import Derived.KernelRfl
namespace Go.Proofs.YtkgclgjlohofbaaDoor
/- THE CELL 'sum', in the pinned program and in every row, IS THE sha256 OF THE DUMP (.gsa) THAT YtkgclgjlohofbaaDoorProg.lean LOADS. Nothing in Lean hashes anything: it is a label: what it is worth is what the hold of that sum in a sandbox is worth. -/
noncomputable def Tryd.pinned : Pinned := { name := "ytkgclgjlohofbaadoor", sum := "fe0407417c0f9be72b488285aba54574cf1111f7b8c2df3d9d34e6a0a9315da0", checked := Tryd.checked }
namespace Rows
def none {H : Type} : Left H := { results := [], args := [] }

/- WHAT THE LISTED PACKAGE-LEVEL VARIABLES READ AS WHEN THE CALL BEGINS. Each datum BY PROGRAM (the guide's laid-datum.mjs) off the statement by which the dump's own 'gosem.cut.vars' lays the variable. In a bare row this is a premise. The card (YtkgclgjlohofbaaDoorCards.lean) ties it to the program's text. -/
def laid_math_bits_deBruijn32tab {H : Type} : DataW H := .agg [.lit (.int .u8 0), .lit (.int .u8 1), .lit (.int .u8 28), .lit (.int .u8 2), .lit (.int .u8 29), .lit (.int .u8 14), .lit (.int .u8 24), .lit (.int .u8 3), .lit (.int .u8 30), .lit (.int .u8 22), .lit (.int .u8 20), .lit (.int .u8 15), .lit (.int .u8 25), .lit (.int .u8 17), .lit (.int .u8 4), .lit (.int .u8 8), .lit (.int .u8 31), .lit (.int .u8 27), .lit (.int .u8 13), .lit (.int .u8 23), .lit (.int .u8 21), .lit (.int .u8 19), .lit (.int .u8 16), .lit (.int .u8 7), .lit (.int .u8 26), .lit (.int .u8 12), .lit (.int .u8 18), .lit (.int .u8 6), .lit (.int .u8 11), .lit (.int .u8 5), .lit (.int .u8 10), .lit (.int .u8 9)]
def laid_math_bits_deBruijn64tab {H : Type} : DataW H := .agg [.lit (.int .u8 0), .lit (.int .u8 1), .lit (.int .u8 56), .lit (.int .u8 2), .lit (.int .u8 57), .lit (.int .u8 49), .lit (.int .u8 28), .lit (.int .u8 3), .lit (.int .u8 61), .lit (.int .u8 58), .lit (.int .u8 42), .lit (.int .u8 50), .lit (.int .u8 38), .lit (.int .u8 29), .lit (.int .u8 17), .lit (.int .u8 4), .lit (.int .u8 62), .lit (.int .u8 47), .lit (.int .u8 59), .lit (.int .u8 36), .lit (.int .u8 45), .lit (.int .u8 43), .lit (.int .u8 51), .lit (.int .u8 22), .lit (.int .u8 53), .lit (.int .u8 39), .lit (.int .u8 33), .lit (.int .u8 30), .lit (.int .u8 24), .lit (.int .u8 18), .lit (.int .u8 12), .lit (.int .u8 5), .lit (.int .u8 63), .lit (.int .u8 55), .lit (.int .u8 48), .lit (.int .u8 27), .lit (.int .u8 60), .lit (.int .u8 41), .lit (.int .u8 37), .lit (.int .u8 16), .lit (.int .u8 46), .lit (.int .u8 35), .lit (.int .u8 44), .lit (.int .u8 21), .lit (.int .u8 52), .lit (.int .u8 32), .lit (.int .u8 23), .lit (.int .u8 11), .lit (.int .u8 54), .lit (.int .u8 26), .lit (.int .u8 40), .lit (.int .u8 15), .lit (.int .u8 34), .lit (.int .u8 20), .lit (.int .u8 31), .lit (.int .u8 10), .lit (.int .u8 25), .lit (.int .u8 14), .lit (.int .u8 19), .lit (.int .u8 9), .lit (.int .u8 13), .lit (.int .u8 8), .lit (.int .u8 7), .lit (.int .u8 6)]

/-- 'abacistlaw09.HalvesRun': WHATEVER THE INPUT: true; the input reads as it did. -/
def halvesRunSpec : ChangeSpec := { name := "halvesRun", fn := fun _ => fun
  | [d1, d2, d3, d4] => { results := [.lit (.bool true)], args := [d1, d2, d3, d4] }
  | _ => none }
def halvesRunRow : OpenClaim := { program := "ytkgclgjlohofbaadoor", sum := "fe0407417c0f9be72b488285aba54574cf1111f7b8c2df3d9d34e6a0a9315da0", func := "abacist/abacistlaw09.HalvesRun", spec := "halvesRun", inPlace := ["math/bits.Sub64", "math/bits.Add64"], unfollowed := true, recurses := true, named := ["math/bits.deBruijn32tab", "math/bits.deBruijn64tab"], apart := false, laid := [("math/bits.deBruijn32tab", laid_math_bits_deBruijn32tab), ("math/bits.deBruijn64tab", laid_math_bits_deBruijn64tab)] }
def HalvesRunSaid : Prop := halvesRunRow.holds Tryd.pinned (OpenSpec.ofChange halvesRunSpec)

/-- ITS FALSE NEIGHBOUR: 'it returns false'. Refute it at one input. -/
def halvesRunWrong : ChangeSpec := { name := "halvesRun", fn := fun _ => fun
  | [d1, d2, d3, d4] => { results := [.lit (.bool false)], args := [d1, d2, d3, d4] }
  | _ => none }
def HalvesRunWrongFalsely : Prop := halvesRunRow.holds Tryd.pinned (OpenSpec.ofChange halvesRunWrong)

/-- 'abacistlaw09.HalvesBack': WHATEVER THE INPUT: true; the input reads as it did. -/
def halvesBackSpec : ChangeSpec := { name := "halvesBack", fn := fun _ => fun
  | [d1, d2] => { results := [.lit (.bool true)], args := [d1, d2] }
  | _ => none }
def halvesBackRow : OpenClaim := { program := "ytkgclgjlohofbaadoor", sum := "fe0407417c0f9be72b488285aba54574cf1111f7b8c2df3d9d34e6a0a9315da0", func := "abacist/abacistlaw09.HalvesBack", spec := "halvesBack", inPlace := ["math/bits.Sub64", "math/bits.Add64"], unfollowed := true, recurses := true, named := ["math/bits.deBruijn32tab", "math/bits.deBruijn64tab"], apart := false, laid := [("math/bits.deBruijn32tab", laid_math_bits_deBruijn32tab), ("math/bits.deBruijn64tab", laid_math_bits_deBruijn64tab)] }
def HalvesBackSaid : Prop := halvesBackRow.holds Tryd.pinned (OpenSpec.ofChange halvesBackSpec)

/-- ITS FALSE NEIGHBOUR: 'it returns false'. Refute it at one input. -/
def halvesBackWrong : ChangeSpec := { name := "halvesBack", fn := fun _ => fun
  | [d1, d2] => { results := [.lit (.bool false)], args := [d1, d2] }
  | _ => none }
def HalvesBackWrongFalsely : Prop := halvesBackRow.holds Tryd.pinned (OpenSpec.ofChange halvesBackWrong)

/-- 'abacistlaw09.HalvesLinear': WHATEVER THE INPUT: true; the input reads as it did. -/
def halvesLinearSpec : ChangeSpec := { name := "halvesLinear", fn := fun _ => fun
  | [d1, d2, d3, d4] => { results := [.lit (.bool true)], args := [d1, d2, d3, d4] }
  | _ => none }
def halvesLinearRow : OpenClaim := { program := "ytkgclgjlohofbaadoor", sum := "fe0407417c0f9be72b488285aba54574cf1111f7b8c2df3d9d34e6a0a9315da0", func := "abacist/abacistlaw09.HalvesLinear", spec := "halvesLinear", inPlace := ["math/bits.Sub64", "math/bits.Add64"], unfollowed := true, recurses := true, named := ["math/bits.deBruijn32tab", "math/bits.deBruijn64tab"], apart := false, laid := [("math/bits.deBruijn32tab", laid_math_bits_deBruijn32tab), ("math/bits.deBruijn64tab", laid_math_bits_deBruijn64tab)] }
def HalvesLinearSaid : Prop := halvesLinearRow.holds Tryd.pinned (OpenSpec.ofChange halvesLinearSpec)

/-- ITS FALSE NEIGHBOUR: 'it returns false'. Refute it at one input. -/
def halvesLinearWrong : ChangeSpec := { name := "halvesLinear", fn := fun _ => fun
  | [d1, d2, d3, d4] => { results := [.lit (.bool false)], args := [d1, d2, d3, d4] }
  | _ => none }
def HalvesLinearWrongFalsely : Prop := halvesLinearRow.holds Tryd.pinned (OpenSpec.ofChange halvesLinearWrong)

/-- 'abacistlaw09.HalvesMuls': WHATEVER THE INPUT: true; the input reads as it did. -/
def halvesMulsSpec : ChangeSpec := { name := "halvesMuls", fn := fun _ => fun
  | [d1, d2] => { results := [.lit (.bool true)], args := [d1, d2] }
  | _ => none }
def halvesMulsRow : OpenClaim := { program := "ytkgclgjlohofbaadoor", sum := "fe0407417c0f9be72b488285aba54574cf1111f7b8c2df3d9d34e6a0a9315da0", func := "abacist/abacistlaw09.HalvesMuls", spec := "halvesMuls", inPlace := ["math/bits.Sub64", "math/bits.Add64"], unfollowed := true, recurses := true, named := ["math/bits.deBruijn32tab", "math/bits.deBruijn64tab"], apart := false, laid := [("math/bits.deBruijn32tab", laid_math_bits_deBruijn32tab), ("math/bits.deBruijn64tab", laid_math_bits_deBruijn64tab)] }
def HalvesMulsSaid : Prop := halvesMulsRow.holds Tryd.pinned (OpenSpec.ofChange halvesMulsSpec)

/-- ITS FALSE NEIGHBOUR: 'it returns false'. Refute it at one input. -/
def halvesMulsWrong : ChangeSpec := { name := "halvesMuls", fn := fun _ => fun
  | [d1, d2] => { results := [.lit (.bool false)], args := [d1, d2] }
  | _ => none }
def HalvesMulsWrongFalsely : Prop := halvesMulsRow.holds Tryd.pinned (OpenSpec.ofChange halvesMulsWrong)

/-- 'abacistlaw09.HalvesWings': WHATEVER THE INPUT: true; the input reads as it did. -/
def halvesWingsSpec : ChangeSpec := { name := "halvesWings", fn := fun _ => fun
  | [d1, d2, d3] => { results := [.lit (.bool true)], args := [d1, d2, d3] }
  | _ => none }
def halvesWingsRow : OpenClaim := { program := "ytkgclgjlohofbaadoor", sum := "fe0407417c0f9be72b488285aba54574cf1111f7b8c2df3d9d34e6a0a9315da0", func := "abacist/abacistlaw09.HalvesWings", spec := "halvesWings", inPlace := ["math/bits.Sub64", "math/bits.Add64"], unfollowed := true, recurses := true, named := ["math/bits.deBruijn32tab", "math/bits.deBruijn64tab"], apart := false, laid := [("math/bits.deBruijn32tab", laid_math_bits_deBruijn32tab), ("math/bits.deBruijn64tab", laid_math_bits_deBruijn64tab)] }
def HalvesWingsSaid : Prop := halvesWingsRow.holds Tryd.pinned (OpenSpec.ofChange halvesWingsSpec)

/-- ITS FALSE NEIGHBOUR: 'it returns false'. Refute it at one input. -/
def halvesWingsWrong : ChangeSpec := { name := "halvesWings", fn := fun _ => fun
  | [d1, d2, d3] => { results := [.lit (.bool false)], args := [d1, d2, d3] }
  | _ => none }
def HalvesWingsWrongFalsely : Prop := halvesWingsRow.holds Tryd.pinned (OpenSpec.ofChange halvesWingsWrong)

/- THE SECOND FORM. 'bulk': how many values and letters a reading holds, each counted each time it is reached (what is shared counts as often as it is met; a slice's spare places count too). A statement '..UptoSaid' is the law's where the arguments, and the package variables that the reading takes, are together of bulk at most 1048576: NARROWER than '..Said'. Prove '..Said' where nothing that the law and all that it calls make is longer than what came in: it says more and counts as full. Else prove '..UptoSaid'. A law counts once. -/
mutual
def uptoBulk {H : Type} : DataW H → Nat
  | .lit (.string bytes) => bytes.length + 1
  | .lit _ => 1
  | .nil => 1
  | .ptr d => uptoBulk d + 1
  | .slice elems spare => uptoBulkAll elems + uptoBulkAll spare + 1
  | .agg parts => uptoBulkAll parts + 1
  | .iface _ d => uptoBulk d + 1
  | .map entries => uptoBulkEntries entries + 1
  | .held _ => 1
def uptoBulkAll {H : Type} : List (DataW H) → Nat
  | [] => 0
  | d :: r => uptoBulk d + uptoBulkAll r
def uptoBulkEntries {H : Type} : List (Lit × DataW H) → Nat
  | [] => 0
  | x :: r => uptoBulkEntry x + uptoBulkEntries r
def uptoBulkEntry {H : Type} : Lit × DataW H → Nat
  | (.string bytes, d) => bytes.length + uptoBulk d + 1
  | (_, d) => uptoBulk d + 1
 end
def uptoSmall : (H : Type) → List (DataW H) → Bool := fun _ ds => decide (uptoBulkAll ds ≤ 1048576)
def OpenSpec.upto (s : _root_.Go.ChangeSpec) : _root_.Go.OpenSpec := { _root_.Go.OpenSpec.ofChange s with cond := some uptoSmall }

/-- 'abacistlaw09.HalvesRun', WHERE WHAT IT READS IS OF BULK AT MOST 1048576: true; the input reads as it did. -/
def halvesRunUptoRow : OpenClaim := { program := "ytkgclgjlohofbaadoor", sum := "fe0407417c0f9be72b488285aba54574cf1111f7b8c2df3d9d34e6a0a9315da0", func := "abacist/abacistlaw09.HalvesRun", spec := "halvesRun", inPlace := ["math/bits.Sub64", "math/bits.Add64"], unfollowed := true, recurses := true, named := ["math/bits.deBruijn32tab", "math/bits.deBruijn64tab"], apart := false, laid := [("math/bits.deBruijn32tab", laid_math_bits_deBruijn32tab), ("math/bits.deBruijn64tab", laid_math_bits_deBruijn64tab)], narrowed := true }
def HalvesRunUptoSaid : Prop := halvesRunUptoRow.holds Tryd.pinned (OpenSpec.upto halvesRunSpec)

/-- 'abacistlaw09.HalvesBack', WHERE WHAT IT READS IS OF BULK AT MOST 1048576: true; the input reads as it did. -/
def halvesBackUptoRow : OpenClaim := { program := "ytkgclgjlohofbaadoor", sum := "fe0407417c0f9be72b488285aba54574cf1111f7b8c2df3d9d34e6a0a9315da0", func := "abacist/abacistlaw09.HalvesBack", spec := "halvesBack", inPlace := ["math/bits.Sub64", "math/bits.Add64"], unfollowed := true, recurses := true, named := ["math/bits.deBruijn32tab", "math/bits.deBruijn64tab"], apart := false, laid := [("math/bits.deBruijn32tab", laid_math_bits_deBruijn32tab), ("math/bits.deBruijn64tab", laid_math_bits_deBruijn64tab)], narrowed := true }
def HalvesBackUptoSaid : Prop := halvesBackUptoRow.holds Tryd.pinned (OpenSpec.upto halvesBackSpec)

/-- 'abacistlaw09.HalvesLinear', WHERE WHAT IT READS IS OF BULK AT MOST 1048576: true; the input reads as it did. -/
def halvesLinearUptoRow : OpenClaim := { program := "ytkgclgjlohofbaadoor", sum := "fe0407417c0f9be72b488285aba54574cf1111f7b8c2df3d9d34e6a0a9315da0", func := "abacist/abacistlaw09.HalvesLinear", spec := "halvesLinear", inPlace := ["math/bits.Sub64", "math/bits.Add64"], unfollowed := true, recurses := true, named := ["math/bits.deBruijn32tab", "math/bits.deBruijn64tab"], apart := false, laid := [("math/bits.deBruijn32tab", laid_math_bits_deBruijn32tab), ("math/bits.deBruijn64tab", laid_math_bits_deBruijn64tab)], narrowed := true }
def HalvesLinearUptoSaid : Prop := halvesLinearUptoRow.holds Tryd.pinned (OpenSpec.upto halvesLinearSpec)

/-- 'abacistlaw09.HalvesMuls', WHERE WHAT IT READS IS OF BULK AT MOST 1048576: true; the input reads as it did. -/
def halvesMulsUptoRow : OpenClaim := { program := "ytkgclgjlohofbaadoor", sum := "fe0407417c0f9be72b488285aba54574cf1111f7b8c2df3d9d34e6a0a9315da0", func := "abacist/abacistlaw09.HalvesMuls", spec := "halvesMuls", inPlace := ["math/bits.Sub64", "math/bits.Add64"], unfollowed := true, recurses := true, named := ["math/bits.deBruijn32tab", "math/bits.deBruijn64tab"], apart := false, laid := [("math/bits.deBruijn32tab", laid_math_bits_deBruijn32tab), ("math/bits.deBruijn64tab", laid_math_bits_deBruijn64tab)], narrowed := true }
def HalvesMulsUptoSaid : Prop := halvesMulsUptoRow.holds Tryd.pinned (OpenSpec.upto halvesMulsSpec)

/-- 'abacistlaw09.HalvesWings', WHERE WHAT IT READS IS OF BULK AT MOST 1048576: true; the input reads as it did. -/
def halvesWingsUptoRow : OpenClaim := { program := "ytkgclgjlohofbaadoor", sum := "fe0407417c0f9be72b488285aba54574cf1111f7b8c2df3d9d34e6a0a9315da0", func := "abacist/abacistlaw09.HalvesWings", spec := "halvesWings", inPlace := ["math/bits.Sub64", "math/bits.Add64"], unfollowed := true, recurses := true, named := ["math/bits.deBruijn32tab", "math/bits.deBruijn64tab"], apart := false, laid := [("math/bits.deBruijn32tab", laid_math_bits_deBruijn32tab), ("math/bits.deBruijn64tab", laid_math_bits_deBruijn64tab)], narrowed := true }
def HalvesWingsUptoSaid : Prop := halvesWingsUptoRow.holds Tryd.pinned (OpenSpec.upto halvesWingsSpec)

end Rows
end Go.Proofs.YtkgclgjlohofbaaDoor
