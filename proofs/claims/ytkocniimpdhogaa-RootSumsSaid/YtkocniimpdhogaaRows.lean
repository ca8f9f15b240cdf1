/-
  No cell of these rows narrows 'for every input' (looked for: loops, veiled, ifaces, maps, wideKeys, modest, calm, conditions, laid).
  DERIVED. THE GIVEN ROWS OF THIS SEAT. 3 by the template 'for every input the law returns true; each argument reads behind the call as it read before'; 0 by the template 'total and deterministic' (their statements: YtkocniimpdhogaaTotals.lean).
  GIVEN WITH THE SEED: the statements are not yours to turn. If you find one false, say at which input.
  Laid BY PROGRAM, IN A SANDBOX (cutbox-rows.mjs): the forced cells as the released guide's own fill.sh prints them over the translation a2fa1be5fd294cff… (all of the seat's roots in one cut). By AI agents, Wed Nov 11 2026. No macro, syntax, notation, axiom, sorry.
-/
import Derived.Test.YtkocniimpdhogaaChecked
import GoSem.Claim
import GoSem.ClaimJoined
import GoSem.ClaimMapViews
import Derived.JoinedTies
import Derived.KernelRfl
namespace Go.Proofs.Ytkocniimpdhogaa
/- THE CELL 'sum', in the pinned program and in every row, IS THE sha256 OF THE DUMP (.gsa) THAT YtkocniimpdhogaaProg.lean LOADS. Nothing in Lean hashes anything: it is a label: what it is worth is what the hold of that sum in a sandbox is worth. -/
noncomputable def Try.pinned : Pinned := { name := "ytkocniimpdhogaa", sum := "a2fa1be5fd294cff4f269f5143b21d04ec2d5b76a54141153f7ab3531f93d3ad", checked := Try.checked }
namespace Rows
def none {H : Type} : Left H := { results := [], args := [] }

/-- 'abacistlaw03.RootPowers': WHATEVER THE INPUT: true; the input reads as it did. -/
def rootPowersSpec : ChangeSpec := { name := "rootPowers", fn := fun _ => fun
  | [d1, d2] => { results := [.lit (.bool true)], args := [d1, d2] }
  | _ => none }
def rootPowersRow : OpenClaim := { program := "ytkocniimpdhogaa", sum := "a2fa1be5fd294cff4f269f5143b21d04ec2d5b76a54141153f7ab3531f93d3ad", func := "abacist/abacistlaw03.RootPowers", spec := "rootPowers", inPlace := ["math/bits.Sub64", "math/bits.Add64"], apart := false }
def RootPowersSaid : Prop := rootPowersRow.holds Try.pinned (OpenSpec.ofChange rootPowersSpec)

/-- ITS FALSE NEIGHBOUR: 'it returns false'. Refute it at one input. -/
def rootPowersWrong : ChangeSpec := { name := "rootPowers", fn := fun _ => fun
  | [d1, d2] => { results := [.lit (.bool false)], args := [d1, d2] }
  | _ => none }
def RootPowersWrongFalsely : Prop := rootPowersRow.holds Try.pinned (OpenSpec.ofChange rootPowersWrong)

/-- 'abacistlaw03.RootOrders': WHATEVER THE INPUT: true; the input reads as it did. -/
def rootOrdersSpec : ChangeSpec := { name := "rootOrders", fn := fun _ => fun
  | [d1, d2, d3] => { results := [.lit (.bool true)], args := [d1, d2, d3] }
  | _ => none }
def rootOrdersRow : OpenClaim := { program := "ytkocniimpdhogaa", sum := "a2fa1be5fd294cff4f269f5143b21d04ec2d5b76a54141153f7ab3531f93d3ad", func := "abacist/abacistlaw03.RootOrders", spec := "rootOrders", inPlace := ["math/bits.Sub64", "math/bits.Add64"], apart := false }
def RootOrdersSaid : Prop := rootOrdersRow.holds Try.pinned (OpenSpec.ofChange rootOrdersSpec)

/-- ITS FALSE NEIGHBOUR: 'it returns false'. Refute it at one input. -/
def rootOrdersWrong : ChangeSpec := { name := "rootOrders", fn := fun _ => fun
  | [d1, d2, d3] => { results := [.lit (.bool false)], args := [d1, d2, d3] }
  | _ => none }
def RootOrdersWrongFalsely : Prop := rootOrdersRow.holds Try.pinned (OpenSpec.ofChange rootOrdersWrong)

/-- 'abacistlaw03.RootSums': WHATEVER THE INPUT: true; the input reads as it did. -/
def rootSumsSpec : ChangeSpec := { name := "rootSums", fn := fun _ => fun
  | [d] => { results := [.lit (.bool true)], args := [d] }
  | _ => none }
def rootSumsRow : OpenClaim := { program := "ytkocniimpdhogaa", sum := "a2fa1be5fd294cff4f269f5143b21d04ec2d5b76a54141153f7ab3531f93d3ad", func := "abacist/abacistlaw03.RootSums", spec := "rootSums", inPlace := ["math/bits.Sub64", "math/bits.Add64"], apart := false }
def RootSumsSaid : Prop := rootSumsRow.holds Try.pinned (OpenSpec.ofChange rootSumsSpec)

/-- ITS FALSE NEIGHBOUR: 'it returns false'. Refute it at one input. -/
def rootSumsWrong : ChangeSpec := { name := "rootSums", fn := fun _ => fun
  | [d] => { results := [.lit (.bool false)], args := [d] }
  | _ => none }
def RootSumsWrongFalsely : Prop := rootSumsRow.holds Try.pinned (OpenSpec.ofChange rootSumsWrong)

/- THE SECOND FORM. 'bulk': how many values and letters a reading holds, each counted each time it is reached (what is shared counts as often as it is met; a slice's spare places count too). A statement '..UptoSaid' is the law's where the arguments, and the package variables that the reading takes, are together of bulk at most 1048576: NARROWER than '..Said'. Prove '..Said' where nothing that the law and all that it calls make is longer than what came in: it says more and counts as full. Else prove '..UptoSaid'. A law counts once. -/
mutual
def uptoBulk {H : Type} : DataW H → Nat
  | .lit (.string bytes) => bytes.length + 1
  | .lit _ => 1
  | .nil => 1
  | .ptr d => uptoBulk d + 1
  | .slice elems spare => uptoBulkAll elems + uptoBulkAll spare + 1
  | .agg parts => uptoBulkAll parts + 1
  | .iface _ d => uptoBulk d + 1
  | .map entries => uptoBulkEntries entries + 1
  | .held _ => 1
def uptoBulkAll {H : Type} : List (DataW H) → Nat
  | [] => 0
  | d :: r => uptoBulk d + uptoBulkAll r
def uptoBulkEntries {H : Type} : List (Lit × DataW H) → Nat
  | [] => 0
  | x :: r => uptoBulkEntry x + uptoBulkEntries r
def uptoBulkEntry {H : Type} : Lit × DataW H → Nat
  | (.string bytes, d) => bytes.length + uptoBulk d + 1
  | (_, d) => uptoBulk d + 1
 end
def uptoSmall : (H : Type) → List (DataW H) → Bool := fun _ ds => decide (uptoBulkAll ds ≤ 1048576)
def OpenSpec.upto (s : _root_.Go.ChangeSpec) : _root_.Go.OpenSpec := { _root_.Go.OpenSpec.ofChange s with cond := some uptoSmall }

/-- 'abacistlaw03.RootPowers', WHERE WHAT IT READS IS OF BULK AT MOST 1048576: true; the input reads as it did. -/
def rootPowersUptoRow : OpenClaim := { program := "ytkocniimpdhogaa", sum := "a2fa1be5fd294cff4f269f5143b21d04ec2d5b76a54141153f7ab3531f93d3ad", func := "abacist/abacistlaw03.RootPowers", spec := "rootPowers", inPlace := ["math/bits.Sub64", "math/bits.Add64"], apart := false, narrowed := true }
def RootPowersUptoSaid : Prop := rootPowersUptoRow.holds Try.pinned (OpenSpec.upto rootPowersSpec)

/-- 'abacistlaw03.RootOrders', WHERE WHAT IT READS IS OF BULK AT MOST 1048576: true; the input reads as it did. -/
def rootOrdersUptoRow : OpenClaim := { program := "ytkocniimpdhogaa", sum := "a2fa1be5fd294cff4f269f5143b21d04ec2d5b76a54141153f7ab3531f93d3ad", func := "abacist/abacistlaw03.RootOrders", spec := "rootOrders", inPlace := ["math/bits.Sub64", "math/bits.Add64"], apart := false, narrowed := true }
def RootOrdersUptoSaid : Prop := rootOrdersUptoRow.holds Try.pinned (OpenSpec.upto rootOrdersSpec)

/-- 'abacistlaw03.RootSums', WHERE WHAT IT READS IS OF BULK AT MOST 1048576: true; the input reads as it did. -/
def rootSumsUptoRow : OpenClaim := { program := "ytkocniimpdhogaa", sum := "a2fa1be5fd294cff4f269f5143b21d04ec2d5b76a54141153f7ab3531f93d3ad", func := "abacist/abacistlaw03.RootSums", spec := "rootSums", inPlace := ["math/bits.Sub64", "math/bits.Add64"], apart := false, narrowed := true }
def RootSumsUptoSaid : Prop := rootSumsUptoRow.holds Try.pinned (OpenSpec.upto rootSumsSpec)

end Rows
end Go.Proofs.Ytkocniimpdhogaa
