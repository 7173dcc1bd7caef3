/-
  No cell of these rows narrows 'for every input' (looked for: loops, veiled, ifaces, maps, wideKeys, modest, calm, conditions, laid).
  DERIVED. THE GIVEN ROWS OF THIS SEAT. 5 by the template 'for every input the law returns true; each argument reads behind the call as it read before'; 0 by the template 'total and deterministic' (their statements: YtfpmmbbbndobiaaTotals.lean).
  GIVEN WITH THE SEED: the statements are not yours to turn. If you find one false, say at which input.
  Laid BY PROGRAM, IN A SANDBOX (cutbox-rows.mjs): the forced cells as the released guide's own fill.sh prints them over the translation 9259a82a30f1f188… (all of the seat's roots in one cut). By AI agents, Wed Nov 11 2026. No macro, syntax, notation, axiom, sorry.
-/
import Derived.Test.YtfpmmbbbndobiaaChecked
import GoSem.Claim
import GoSem.ClaimJoined
import GoSem.ClaimMapViews
import Derived.JoinedTies
import Derived.KernelRfl
namespace Go.Proofs.Ytfpmmbbbndobiaa
/- THE CELL 'sum', in the pinned program and in every row, IS THE sha256 OF THE DUMP (.gsa) THAT YtfpmmbbbndobiaaProg.lean LOADS. Nothing in Lean hashes anything: it is a label: what it is worth is what the hold of that sum in a sandbox is worth. -/
noncomputable def Try.pinned : Pinned := { name := "ytfpmmbbbndobiaa", sum := "9259a82a30f1f188a4b8c4dd9192a3a9a239e0f2f0d6ad306498fe2e3b1fdda4", checked := Try.checked }
namespace Rows
def none {H : Type} : Left H := { results := [], args := [] }

/-- 'fingerpostlaw19.RibPlays': WHATEVER THE INPUT: true; the input reads as it did. -/
def ribPlaysSpec : ChangeSpec := { name := "ribPlays", fn := fun _ => fun
  | [d1, d2, d3] => { results := [.lit (.bool true)], args := [d1, d2, d3] }
  | _ => none }
def ribPlaysRow : OpenClaim := { program := "ytfpmmbbbndobiaa", sum := "9259a82a30f1f188a4b8c4dd9192a3a9a239e0f2f0d6ad306498fe2e3b1fdda4", func := "fingerpost/fingerpostlaw19.RibPlays", spec := "ribPlays", unfollowed := true, recurses := true, apart := false }
def RibPlaysSaid : Prop := ribPlaysRow.holds Try.pinned (OpenSpec.ofChange ribPlaysSpec)

/-- ITS FALSE NEIGHBOUR: 'it returns false'. Refute it at one input. -/
def ribPlaysWrong : ChangeSpec := { name := "ribPlays", fn := fun _ => fun
  | [d1, d2, d3] => { results := [.lit (.bool false)], args := [d1, d2, d3] }
  | _ => none }
def RibPlaysWrongFalsely : Prop := ribPlaysRow.holds Try.pinned (OpenSpec.ofChange ribPlaysWrong)

/-- 'fingerpostlaw19.RibFloors': WHATEVER THE INPUT: true; the input reads as it did. -/
def ribFloorsSpec : ChangeSpec := { name := "ribFloors", fn := fun _ => fun
  | [d1, d2] => { results := [.lit (.bool true)], args := [d1, d2] }
  | _ => none }
def ribFloorsRow : OpenClaim := { program := "ytfpmmbbbndobiaa", sum := "9259a82a30f1f188a4b8c4dd9192a3a9a239e0f2f0d6ad306498fe2e3b1fdda4", func := "fingerpost/fingerpostlaw19.RibFloors", spec := "ribFloors", unfollowed := true, recurses := true, apart := false }
def RibFloorsSaid : Prop := ribFloorsRow.holds Try.pinned (OpenSpec.ofChange ribFloorsSpec)

/-- ITS FALSE NEIGHBOUR: 'it returns false'. Refute it at one input. -/
def ribFloorsWrong : ChangeSpec := { name := "ribFloors", fn := fun _ => fun
  | [d1, d2] => { results := [.lit (.bool false)], args := [d1, d2] }
  | _ => none }
def RibFloorsWrongFalsely : Prop := ribFloorsRow.holds Try.pinned (OpenSpec.ofChange ribFloorsWrong)

/-- 'fingerpostlaw19.RibApart': WHATEVER THE INPUT: true; the input reads as it did. -/
def ribApartSpec : ChangeSpec := { name := "ribApart", fn := fun _ => fun
  | [d1, d2, d3, d4] => { results := [.lit (.bool true)], args := [d1, d2, d3, d4] }
  | _ => none }
def ribApartRow : OpenClaim := { program := "ytfpmmbbbndobiaa", sum := "9259a82a30f1f188a4b8c4dd9192a3a9a239e0f2f0d6ad306498fe2e3b1fdda4", func := "fingerpost/fingerpostlaw19.RibApart", spec := "ribApart", unfollowed := true, recurses := true, apart := false }
def RibApartSaid : Prop := ribApartRow.holds Try.pinned (OpenSpec.ofChange ribApartSpec)

/-- ITS FALSE NEIGHBOUR: 'it returns false'. Refute it at one input. -/
def ribApartWrong : ChangeSpec := { name := "ribApart", fn := fun _ => fun
  | [d1, d2, d3, d4] => { results := [.lit (.bool false)], args := [d1, d2, d3, d4] }
  | _ => none }
def RibApartWrongFalsely : Prop := ribApartRow.holds Try.pinned (OpenSpec.ofChange ribApartWrong)

/-- 'fingerpostlaw19.RibHolds': WHATEVER THE INPUT: true; the input reads as it did. -/
def ribHoldsSpec : ChangeSpec := { name := "ribHolds", fn := fun _ => fun
  | [d1, d2, d3, d4, d5, d6] => { results := [.lit (.bool true)], args := [d1, d2, d3, d4, d5, d6] }
  | _ => none }
def ribHoldsRow : OpenClaim := { program := "ytfpmmbbbndobiaa", sum := "9259a82a30f1f188a4b8c4dd9192a3a9a239e0f2f0d6ad306498fe2e3b1fdda4", func := "fingerpost/fingerpostlaw19.RibHolds", spec := "ribHolds", unfollowed := true, recurses := true, apart := false }
def RibHoldsSaid : Prop := ribHoldsRow.holds Try.pinned (OpenSpec.ofChange ribHoldsSpec)

/-- ITS FALSE NEIGHBOUR: 'it returns false'. Refute it at one input. -/
def ribHoldsWrong : ChangeSpec := { name := "ribHolds", fn := fun _ => fun
  | [d1, d2, d3, d4, d5, d6] => { results := [.lit (.bool false)], args := [d1, d2, d3, d4, d5, d6] }
  | _ => none }
def RibHoldsWrongFalsely : Prop := ribHoldsRow.holds Try.pinned (OpenSpec.ofChange ribHoldsWrong)

/-- 'fingerpostlaw19.RibNil': WHATEVER THE INPUT: true; the input reads as it did. -/
def ribNilSpec : ChangeSpec := { name := "ribNil", fn := fun _ => fun
  | [d1, d2] => { results := [.lit (.bool true)], args := [d1, d2] }
  | _ => none }
def ribNilRow : OpenClaim := { program := "ytfpmmbbbndobiaa", sum := "9259a82a30f1f188a4b8c4dd9192a3a9a239e0f2f0d6ad306498fe2e3b1fdda4", func := "fingerpost/fingerpostlaw19.RibNil", spec := "ribNil", unfollowed := true, recurses := true, apart := false }
def RibNilSaid : Prop := ribNilRow.holds Try.pinned (OpenSpec.ofChange ribNilSpec)

/-- ITS FALSE NEIGHBOUR: 'it returns false'. Refute it at one input. -/
def ribNilWrong : ChangeSpec := { name := "ribNil", fn := fun _ => fun
  | [d1, d2] => { results := [.lit (.bool false)], args := [d1, d2] }
  | _ => none }
def RibNilWrongFalsely : Prop := ribNilRow.holds Try.pinned (OpenSpec.ofChange ribNilWrong)

/- THE SECOND FORM. 'bulk': how many values and letters a reading holds, each counted each time it is reached (what is shared counts as often as it is met; a slice's spare places count too). A statement '..UptoSaid' is the law's where the arguments, and the package variables that the reading takes, are together of bulk at most 1048576: NARROWER than '..Said'. Prove '..Said' where nothing that the law and all that it calls make is longer than what came in: it says more and counts as full. Else prove '..UptoSaid'. A law counts once. -/
mutual
def uptoBulk {H : Type} : DataW H → Nat
  | .lit (.string bytes) => bytes.length + 1
  | .lit _ => 1
  | .nil => 1
  | .ptr d => uptoBulk d + 1
  | .slice elems spare => uptoBulkAll elems + uptoBulkAll spare + 1
  | .agg parts => uptoBulkAll parts + 1
  | .iface _ d => uptoBulk d + 1
  | .map entries => uptoBulkEntries entries + 1
  | .held _ => 1
def uptoBulkAll {H : Type} : List (DataW H) → Nat
  | [] => 0
  | d :: r => uptoBulk d + uptoBulkAll r
def uptoBulkEntries {H : Type} : List (Lit × DataW H) → Nat
  | [] => 0
  | x :: r => uptoBulkEntry x + uptoBulkEntries r
def uptoBulkEntry {H : Type} : Lit × DataW H → Nat
  | (.string bytes, d) => bytes.length + uptoBulk d + 1
  | (_, d) => uptoBulk d + 1
 end
def uptoSmall : (H : Type) → List (DataW H) → Bool := fun _ ds => decide (uptoBulkAll ds ≤ 1048576)
def OpenSpec.upto (s : _root_.Go.ChangeSpec) : _root_.Go.OpenSpec := { _root_.Go.OpenSpec.ofChange s with cond := some uptoSmall }

/-- 'fingerpostlaw19.RibPlays', WHERE WHAT IT READS IS OF BULK AT MOST 1048576: true; the input reads as it did. -/
def ribPlaysUptoRow : OpenClaim := { program := "ytfpmmbbbndobiaa", sum := "9259a82a30f1f188a4b8c4dd9192a3a9a239e0f2f0d6ad306498fe2e3b1fdda4", func := "fingerpost/fingerpostlaw19.RibPlays", spec := "ribPlays", unfollowed := true, recurses := true, apart := false, narrowed := true }
def RibPlaysUptoSaid : Prop := ribPlaysUptoRow.holds Try.pinned (OpenSpec.upto ribPlaysSpec)

/-- 'fingerpostlaw19.RibFloors', WHERE WHAT IT READS IS OF BULK AT MOST 1048576: true; the input reads as it did. -/
def ribFloorsUptoRow : OpenClaim := { program := "ytfpmmbbbndobiaa", sum := "9259a82a30f1f188a4b8c4dd9192a3a9a239e0f2f0d6ad306498fe2e3b1fdda4", func := "fingerpost/fingerpostlaw19.RibFloors", spec := "ribFloors", unfollowed := true, recurses := true, apart := false, narrowed := true }
def RibFloorsUptoSaid : Prop := ribFloorsUptoRow.holds Try.pinned (OpenSpec.upto ribFloorsSpec)

/-- 'fingerpostlaw19.RibApart', WHERE WHAT IT READS IS OF BULK AT MOST 1048576: true; the input reads as it did. -/
def ribApartUptoRow : OpenClaim := { program := "ytfpmmbbbndobiaa", sum := "9259a82a30f1f188a4b8c4dd9192a3a9a239e0f2f0d6ad306498fe2e3b1fdda4", func := "fingerpost/fingerpostlaw19.RibApart", spec := "ribApart", unfollowed := true, recurses := true, apart := false, narrowed := true }
def RibApartUptoSaid : Prop := ribApartUptoRow.holds Try.pinned (OpenSpec.upto ribApartSpec)

/-- 'fingerpostlaw19.RibHolds', WHERE WHAT IT READS IS OF BULK AT MOST 1048576: true; the input reads as it did. -/
def ribHoldsUptoRow : OpenClaim := { program := "ytfpmmbbbndobiaa", sum := "9259a82a30f1f188a4b8c4dd9192a3a9a239e0f2f0d6ad306498fe2e3b1fdda4", func := "fingerpost/fingerpostlaw19.RibHolds", spec := "ribHolds", unfollowed := true, recurses := true, apart := false, narrowed := true }
def RibHoldsUptoSaid : Prop := ribHoldsUptoRow.holds Try.pinned (OpenSpec.upto ribHoldsSpec)

/-- 'fingerpostlaw19.RibNil', WHERE WHAT IT READS IS OF BULK AT MOST 1048576: true; the input reads as it did. -/
def ribNilUptoRow : OpenClaim := { program := "ytfpmmbbbndobiaa", sum := "9259a82a30f1f188a4b8c4dd9192a3a9a239e0f2f0d6ad306498fe2e3b1fdda4", func := "fingerpost/fingerpostlaw19.RibNil", spec := "ribNil", unfollowed := true, recurses := true, apart := false, narrowed := true }
def RibNilUptoSaid : Prop := ribNilUptoRow.holds Try.pinned (OpenSpec.upto ribNilSpec)

end Rows
end Go.Proofs.Ytfpmmbbbndobiaa
