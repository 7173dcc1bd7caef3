/-
  No cell of these rows narrows 'for every input' (looked for: loops, veiled, ifaces, maps, wideKeys, modest, calm, conditions, laid).
  DERIVED. THE GIVEN ROWS OF THIS SEAT. 4 by the template 'for every input the law returns true; each argument reads behind the call as it read before'; 0 by the template 'total and deterministic' (their statements: YtkeoebldadpoiaaTotals.lean).
  GIVEN WITH THE SEED: the statements are not yours to turn. If you find one false, say at which input.
  Laid BY PROGRAM, IN A SANDBOX (cutbox-rows.mjs): the forced cells as the released guide's own fill.sh prints them over the translation 02eab291aec97ead… (all of the seat's roots in one cut). By AI agents, Wed Nov 11 2026. No macro, syntax, notation, axiom, sorry.
-/
import Derived.Test.YtkeoebldadpoiaaChecked
import GoSem.Claim
import GoSem.ClaimJoined
import GoSem.ClaimMapViews
import Derived.JoinedTies
import Derived.KernelRfl
namespace Go.Proofs.Ytkeoebldadpoiaa
/- THE CELL 'sum', in the pinned program and in every row, IS THE sha256 OF THE DUMP (.gsa) THAT YtkeoebldadpoiaaProg.lean LOADS. Nothing in Lean hashes anything: it is a label: what it is worth is what the hold of that sum in a sandbox is worth. -/
noncomputable def Try.pinned : Pinned := { name := "ytkeoebldadpoiaa", sum := "02eab291aec97ead12adfeee4e06a5c34b70a9ba89da5d5519836f17bb788939", checked := Try.checked }
namespace Rows
def none {H : Type} : Left H := { results := [], args := [] }

/-- 'fingerpostlaw22.FibDiffs': WHATEVER THE INPUT: true; the input reads as it did. -/
def fibDiffsSpec : ChangeSpec := { name := "fibDiffs", fn := fun _ => fun
  | [d1, d2, d3] => { results := [.lit (.bool true)], args := [d1, d2, d3] }
  | _ => none }
def fibDiffsRow : OpenClaim := { program := "ytkeoebldadpoiaa", sum := "02eab291aec97ead12adfeee4e06a5c34b70a9ba89da5d5519836f17bb788939", func := "fingerpost/fingerpostlaw22.FibDiffs", spec := "fibDiffs", unfollowed := true, recurses := true, apart := false }
def FibDiffsSaid : Prop := fibDiffsRow.holds Try.pinned (OpenSpec.ofChange fibDiffsSpec)

/-- ITS FALSE NEIGHBOUR: 'it returns false'. Refute it at one input. -/
def fibDiffsWrong : ChangeSpec := { name := "fibDiffs", fn := fun _ => fun
  | [d1, d2, d3] => { results := [.lit (.bool false)], args := [d1, d2, d3] }
  | _ => none }
def FibDiffsWrongFalsely : Prop := fibDiffsRow.holds Try.pinned (OpenSpec.ofChange fibDiffsWrong)

/-- 'fingerpostlaw22.FibWalks': WHATEVER THE INPUT: true; the input reads as it did. -/
def fibWalksSpec : ChangeSpec := { name := "fibWalks", fn := fun _ => fun
  | [d1, d2, d3] => { results := [.lit (.bool true)], args := [d1, d2, d3] }
  | _ => none }
def fibWalksRow : OpenClaim := { program := "ytkeoebldadpoiaa", sum := "02eab291aec97ead12adfeee4e06a5c34b70a9ba89da5d5519836f17bb788939", func := "fingerpost/fingerpostlaw22.FibWalks", spec := "fibWalks", unfollowed := true, recurses := true, apart := false }
def FibWalksSaid : Prop := fibWalksRow.holds Try.pinned (OpenSpec.ofChange fibWalksSpec)

/-- ITS FALSE NEIGHBOUR: 'it returns false'. Refute it at one input. -/
def fibWalksWrong : ChangeSpec := { name := "fibWalks", fn := fun _ => fun
  | [d1, d2, d3] => { results := [.lit (.bool false)], args := [d1, d2, d3] }
  | _ => none }
def FibWalksWrongFalsely : Prop := fibWalksRow.holds Try.pinned (OpenSpec.ofChange fibWalksWrong)

/-- 'fingerpostlaw22.FibNearer': WHATEVER THE INPUT: true; the input reads as it did. -/
def fibNearerSpec : ChangeSpec := { name := "fibNearer", fn := fun _ => fun
  | [d1, d2, d3] => { results := [.lit (.bool true)], args := [d1, d2, d3] }
  | _ => none }
def fibNearerRow : OpenClaim := { program := "ytkeoebldadpoiaa", sum := "02eab291aec97ead12adfeee4e06a5c34b70a9ba89da5d5519836f17bb788939", func := "fingerpost/fingerpostlaw22.FibNearer", spec := "fibNearer", unfollowed := true, recurses := true, apart := false }
def FibNearerSaid : Prop := fibNearerRow.holds Try.pinned (OpenSpec.ofChange fibNearerSpec)

/-- ITS FALSE NEIGHBOUR: 'it returns false'. Refute it at one input. -/
def fibNearerWrong : ChangeSpec := { name := "fibNearer", fn := fun _ => fun
  | [d1, d2, d3] => { results := [.lit (.bool false)], args := [d1, d2, d3] }
  | _ => none }
def FibNearerWrongFalsely : Prop := fibNearerRow.holds Try.pinned (OpenSpec.ofChange fibNearerWrong)

/-- 'fingerpostlaw22.FibFar': WHATEVER THE INPUT: true; the input reads as it did. -/
def fibFarSpec : ChangeSpec := { name := "fibFar", fn := fun _ => fun
  | [d1, d2] => { results := [.lit (.bool true)], args := [d1, d2] }
  | _ => none }
def fibFarRow : OpenClaim := { program := "ytkeoebldadpoiaa", sum := "02eab291aec97ead12adfeee4e06a5c34b70a9ba89da5d5519836f17bb788939", func := "fingerpost/fingerpostlaw22.FibFar", spec := "fibFar", unfollowed := true, recurses := true, apart := false }
def FibFarSaid : Prop := fibFarRow.holds Try.pinned (OpenSpec.ofChange fibFarSpec)

/-- ITS FALSE NEIGHBOUR: 'it returns false'. Refute it at one input. -/
def fibFarWrong : ChangeSpec := { name := "fibFar", fn := fun _ => fun
  | [d1, d2] => { results := [.lit (.bool false)], args := [d1, d2] }
  | _ => none }
def FibFarWrongFalsely : Prop := fibFarRow.holds Try.pinned (OpenSpec.ofChange fibFarWrong)

/- THE SECOND FORM. 'bulk': how many values and letters a reading holds, each counted each time it is reached (what is shared counts as often as it is met; a slice's spare places count too). A statement '..UptoSaid' is the law's where the arguments, and the package variables that the reading takes, are together of bulk at most 1048576: NARROWER than '..Said'. Prove '..Said' where nothing that the law and all that it calls make is longer than what came in: it says more and counts as full. Else prove '..UptoSaid'. A law counts once. -/
mutual
def uptoBulk {H : Type} : DataW H → Nat
  | .lit (.string bytes) => bytes.length + 1
  | .lit _ => 1
  | .nil => 1
  | .ptr d => uptoBulk d + 1
  | .slice elems spare => uptoBulkAll elems + uptoBulkAll spare + 1
  | .agg parts => uptoBulkAll parts + 1
  | .iface _ d => uptoBulk d + 1
  | .map entries => uptoBulkEntries entries + 1
  | .held _ => 1
def uptoBulkAll {H : Type} : List (DataW H) → Nat
  | [] => 0
  | d :: r => uptoBulk d + uptoBulkAll r
def uptoBulkEntries {H : Type} : List (Lit × DataW H) → Nat
  | [] => 0
  | x :: r => uptoBulkEntry x + uptoBulkEntries r
def uptoBulkEntry {H : Type} : Lit × DataW H → Nat
  | (.string bytes, d) => bytes.length + uptoBulk d + 1
  | (_, d) => uptoBulk d + 1
 end
def uptoSmall : (H : Type) → List (DataW H) → Bool := fun _ ds => decide (uptoBulkAll ds ≤ 1048576)
def OpenSpec.upto (s : _root_.Go.ChangeSpec) : _root_.Go.OpenSpec := { _root_.Go.OpenSpec.ofChange s with cond := some uptoSmall }

/-- 'fingerpostlaw22.FibDiffs', WHERE WHAT IT READS IS OF BULK AT MOST 1048576: true; the input reads as it did. -/
def fibDiffsUptoRow : OpenClaim := { program := "ytkeoebldadpoiaa", sum := "02eab291aec97ead12adfeee4e06a5c34b70a9ba89da5d5519836f17bb788939", func := "fingerpost/fingerpostlaw22.FibDiffs", spec := "fibDiffs", unfollowed := true, recurses := true, apart := false, narrowed := true }
def FibDiffsUptoSaid : Prop := fibDiffsUptoRow.holds Try.pinned (OpenSpec.upto fibDiffsSpec)

/-- 'fingerpostlaw22.FibWalks', WHERE WHAT IT READS IS OF BULK AT MOST 1048576: true; the input reads as it did. -/
def fibWalksUptoRow : OpenClaim := { program := "ytkeoebldadpoiaa", sum := "02eab291aec97ead12adfeee4e06a5c34b70a9ba89da5d5519836f17bb788939", func := "fingerpost/fingerpostlaw22.FibWalks", spec := "fibWalks", unfollowed := true, recurses := true, apart := false, narrowed := true }
def FibWalksUptoSaid : Prop := fibWalksUptoRow.holds Try.pinned (OpenSpec.upto fibWalksSpec)

/-- 'fingerpostlaw22.FibNearer', WHERE WHAT IT READS IS OF BULK AT MOST 1048576: true; the input reads as it did. -/
def fibNearerUptoRow : OpenClaim := { program := "ytkeoebldadpoiaa", sum := "02eab291aec97ead12adfeee4e06a5c34b70a9ba89da5d5519836f17bb788939", func := "fingerpost/fingerpostlaw22.FibNearer", spec := "fibNearer", unfollowed := true, recurses := true, apart := false, narrowed := true }
def FibNearerUptoSaid : Prop := fibNearerUptoRow.holds Try.pinned (OpenSpec.upto fibNearerSpec)

/-- 'fingerpostlaw22.FibFar', WHERE WHAT IT READS IS OF BULK AT MOST 1048576: true; the input reads as it did. -/
def fibFarUptoRow : OpenClaim := { program := "ytkeoebldadpoiaa", sum := "02eab291aec97ead12adfeee4e06a5c34b70a9ba89da5d5519836f17bb788939", func := "fingerpost/fingerpostlaw22.FibFar", spec := "fibFar", unfollowed := true, recurses := true, apart := false, narrowed := true }
def FibFarUptoSaid : Prop := fibFarUptoRow.holds Try.pinned (OpenSpec.upto fibFarSpec)

end Rows
end Go.Proofs.Ytkeoebldadpoiaa
