/-
  No cell of these rows narrows 'for every input' (looked for: loops, veiled, ifaces, maps, wideKeys, modest, calm, conditions, laid).
  DERIVED. THE GIVEN ROWS OF THIS SEAT. 11 by the template 'for every input the law returns true; each argument reads behind the call as it read before'; 0 by the template 'total and deterministic' (their statements: YtoembbdjpelogaaTotals.lean).
  GIVEN WITH THE SEED: the statements are not yours to turn. If you find one false, say at which input.
  Laid BY PROGRAM, IN A SANDBOX (cutbox-rows.mjs): the forced cells as the released guide's own fill.sh prints them over the translation e24641247925b11f… (all of the seat's roots in one cut). By AI agents, Wed Nov 11 2026. No macro, syntax, notation, axiom, sorry.
-/
import Derived.Test.YtoembbdjpelogaaChecked
import GoSem.Claim
import GoSem.ClaimJoined
import GoSem.ClaimMapViews
import Derived.JoinedTies
import Derived.KernelRfl
namespace Go.Proofs.Ytoembbdjpelogaa
/- THE CELL 'sum', in the pinned program and in every row, IS THE sha256 OF THE DUMP (.gsa) THAT YtoembbdjpelogaaProg.lean LOADS. Nothing in Lean hashes anything: it is a label: what it is worth is what the hold of that sum in a sandbox is worth. -/
noncomputable def Try.pinned : Pinned := { name := "ytoembbdjpelogaa", sum := "e24641247925b11f850db67cb0f650efd001c8eed1b2b377f38b2d1e6b846d89", checked := Try.checked }
namespace Rows
def none {H : Type} : Left H := { results := [], args := [] }

/-- 'fingerpostlaw01.RankOrders': WHATEVER THE INPUT: true; the input reads as it did. -/
def rankOrdersSpec : ChangeSpec := { name := "rankOrders", fn := fun _ => fun
  | [d1, d2] => { results := [.lit (.bool true)], args := [d1, d2] }
  | _ => none }
def rankOrdersRow : OpenClaim := { program := "ytoembbdjpelogaa", sum := "e24641247925b11f850db67cb0f650efd001c8eed1b2b377f38b2d1e6b846d89", func := "fingerpost/fingerpostlaw01.RankOrders", spec := "rankOrders", plainKeys := false, apart := false }
def RankOrdersSaid : Prop := rankOrdersRow.holds Try.pinned (OpenSpec.ofChange rankOrdersSpec)

/-- ITS FALSE NEIGHBOUR: 'it returns false'. Refute it at one input. -/
def rankOrdersWrong : ChangeSpec := { name := "rankOrders", fn := fun _ => fun
  | [d1, d2] => { results := [.lit (.bool false)], args := [d1, d2] }
  | _ => none }
def RankOrdersWrongFalsely : Prop := rankOrdersRow.holds Try.pinned (OpenSpec.ofChange rankOrdersWrong)

/-- 'fingerpostlaw01.RankLine': WHATEVER THE INPUT: true; the input reads as it did. -/
def rankLineSpec : ChangeSpec := { name := "rankLine", fn := fun _ => fun
  | [d1, d2, d3] => { results := [.lit (.bool true)], args := [d1, d2, d3] }
  | _ => none }
def rankLineRow : OpenClaim := { program := "ytoembbdjpelogaa", sum := "e24641247925b11f850db67cb0f650efd001c8eed1b2b377f38b2d1e6b846d89", func := "fingerpost/fingerpostlaw01.RankLine", spec := "rankLine", plainKeys := false, apart := false }
def RankLineSaid : Prop := rankLineRow.holds Try.pinned (OpenSpec.ofChange rankLineSpec)

/-- ITS FALSE NEIGHBOUR: 'it returns false'. Refute it at one input. -/
def rankLineWrong : ChangeSpec := { name := "rankLine", fn := fun _ => fun
  | [d1, d2, d3] => { results := [.lit (.bool false)], args := [d1, d2, d3] }
  | _ => none }
def RankLineWrongFalsely : Prop := rankLineRow.holds Try.pinned (OpenSpec.ofChange rankLineWrong)

/-- 'fingerpostlaw01.RankHops': WHATEVER THE INPUT: true; the input reads as it did. -/
def rankHopsSpec : ChangeSpec := { name := "rankHops", fn := fun _ => fun
  | [d1, d2] => { results := [.lit (.bool true)], args := [d1, d2] }
  | _ => none }
def rankHopsRow : OpenClaim := { program := "ytoembbdjpelogaa", sum := "e24641247925b11f850db67cb0f650efd001c8eed1b2b377f38b2d1e6b846d89", func := "fingerpost/fingerpostlaw01.RankHops", spec := "rankHops", plainKeys := false, apart := false }
def RankHopsSaid : Prop := rankHopsRow.holds Try.pinned (OpenSpec.ofChange rankHopsSpec)

/-- ITS FALSE NEIGHBOUR: 'it returns false'. Refute it at one input. -/
def rankHopsWrong : ChangeSpec := { name := "rankHops", fn := fun _ => fun
  | [d1, d2] => { results := [.lit (.bool false)], args := [d1, d2] }
  | _ => none }
def RankHopsWrongFalsely : Prop := rankHopsRow.holds Try.pinned (OpenSpec.ofChange rankHopsWrong)

/-- 'fingerpostlaw01.RankSteps': WHATEVER THE INPUT: true; the input reads as it did. -/
def rankStepsSpec : ChangeSpec := { name := "rankSteps", fn := fun _ => fun
  | [d1, d2] => { results := [.lit (.bool true)], args := [d1, d2] }
  | _ => none }
def rankStepsRow : OpenClaim := { program := "ytoembbdjpelogaa", sum := "e24641247925b11f850db67cb0f650efd001c8eed1b2b377f38b2d1e6b846d89", func := "fingerpost/fingerpostlaw01.RankSteps", spec := "rankSteps", plainKeys := false, apart := false }
def RankStepsSaid : Prop := rankStepsRow.holds Try.pinned (OpenSpec.ofChange rankStepsSpec)

/-- ITS FALSE NEIGHBOUR: 'it returns false'. Refute it at one input. -/
def rankStepsWrong : ChangeSpec := { name := "rankSteps", fn := fun _ => fun
  | [d1, d2] => { results := [.lit (.bool false)], args := [d1, d2] }
  | _ => none }
def RankStepsWrongFalsely : Prop := rankStepsRow.holds Try.pinned (OpenSpec.ofChange rankStepsWrong)

/-- 'fingerpostlaw01.RankBests': WHATEVER THE INPUT: true; the input reads as it did. -/
def rankBestsSpec : ChangeSpec := { name := "rankBests", fn := fun _ => fun
  | [d] => { results := [.lit (.bool true)], args := [d] }
  | _ => none }
def rankBestsRow : OpenClaim := { program := "ytoembbdjpelogaa", sum := "e24641247925b11f850db67cb0f650efd001c8eed1b2b377f38b2d1e6b846d89", func := "fingerpost/fingerpostlaw01.RankBests", spec := "rankBests", plainKeys := false, apart := false }
def RankBestsSaid : Prop := rankBestsRow.holds Try.pinned (OpenSpec.ofChange rankBestsSpec)

/-- ITS FALSE NEIGHBOUR: 'it returns false'. Refute it at one input. -/
def rankBestsWrong : ChangeSpec := { name := "rankBests", fn := fun _ => fun
  | [d] => { results := [.lit (.bool false)], args := [d] }
  | _ => none }
def RankBestsWrongFalsely : Prop := rankBestsRow.holds Try.pinned (OpenSpec.ofChange rankBestsWrong)

/-- 'fingerpostlaw01.RankFloors': WHATEVER THE INPUT: true; the input reads as it did. -/
def rankFloorsSpec : ChangeSpec := { name := "rankFloors", fn := fun _ => fun
  | [d1, d2] => { results := [.lit (.bool true)], args := [d1, d2] }
  | _ => none }
def rankFloorsRow : OpenClaim := { program := "ytoembbdjpelogaa", sum := "e24641247925b11f850db67cb0f650efd001c8eed1b2b377f38b2d1e6b846d89", func := "fingerpost/fingerpostlaw01.RankFloors", spec := "rankFloors", plainKeys := false, apart := false }
def RankFloorsSaid : Prop := rankFloorsRow.holds Try.pinned (OpenSpec.ofChange rankFloorsSpec)

/-- ITS FALSE NEIGHBOUR: 'it returns false'. Refute it at one input. -/
def rankFloorsWrong : ChangeSpec := { name := "rankFloors", fn := fun _ => fun
  | [d1, d2] => { results := [.lit (.bool false)], args := [d1, d2] }
  | _ => none }
def RankFloorsWrongFalsely : Prop := rankFloorsRow.holds Try.pinned (OpenSpec.ofChange rankFloorsWrong)

/-- 'fingerpostlaw01.RankRises': WHATEVER THE INPUT: true; the input reads as it did. -/
def rankRisesSpec : ChangeSpec := { name := "rankRises", fn := fun _ => fun
  | [d] => { results := [.lit (.bool true)], args := [d] }
  | _ => none }
def rankRisesRow : OpenClaim := { program := "ytoembbdjpelogaa", sum := "e24641247925b11f850db67cb0f650efd001c8eed1b2b377f38b2d1e6b846d89", func := "fingerpost/fingerpostlaw01.RankRises", spec := "rankRises", plainKeys := false, apart := false }
def RankRisesSaid : Prop := rankRisesRow.holds Try.pinned (OpenSpec.ofChange rankRisesSpec)

/-- ITS FALSE NEIGHBOUR: 'it returns false'. Refute it at one input. -/
def rankRisesWrong : ChangeSpec := { name := "rankRises", fn := fun _ => fun
  | [d] => { results := [.lit (.bool false)], args := [d] }
  | _ => none }
def RankRisesWrongFalsely : Prop := rankRisesRow.holds Try.pinned (OpenSpec.ofChange rankRisesWrong)

/-- 'fingerpostlaw02.WindowPlays': WHATEVER THE INPUT: true; the input reads as it did. -/
def windowPlaysSpec : ChangeSpec := { name := "windowPlays", fn := fun _ => fun
  | [d1, d2, d3] => { results := [.lit (.bool true)], args := [d1, d2, d3] }
  | _ => none }
def windowPlaysRow : OpenClaim := { program := "ytoembbdjpelogaa", sum := "e24641247925b11f850db67cb0f650efd001c8eed1b2b377f38b2d1e6b846d89", func := "fingerpost/fingerpostlaw02.WindowPlays", spec := "windowPlays", plainKeys := false, apart := false }
def WindowPlaysSaid : Prop := windowPlaysRow.holds Try.pinned (OpenSpec.ofChange windowPlaysSpec)

/-- ITS FALSE NEIGHBOUR: 'it returns false'. Refute it at one input. -/
def windowPlaysWrong : ChangeSpec := { name := "windowPlays", fn := fun _ => fun
  | [d1, d2, d3] => { results := [.lit (.bool false)], args := [d1, d2, d3] }
  | _ => none }
def WindowPlaysWrongFalsely : Prop := windowPlaysRow.holds Try.pinned (OpenSpec.ofChange windowPlaysWrong)

/-- 'fingerpostlaw02.WindowOnce': WHATEVER THE INPUT: true; the input reads as it did. -/
def windowOnceSpec : ChangeSpec := { name := "windowOnce", fn := fun _ => fun
  | [d1, d2] => { results := [.lit (.bool true)], args := [d1, d2] }
  | _ => none }
def windowOnceRow : OpenClaim := { program := "ytoembbdjpelogaa", sum := "e24641247925b11f850db67cb0f650efd001c8eed1b2b377f38b2d1e6b846d89", func := "fingerpost/fingerpostlaw02.WindowOnce", spec := "windowOnce", plainKeys := false, apart := false }
def WindowOnceSaid : Prop := windowOnceRow.holds Try.pinned (OpenSpec.ofChange windowOnceSpec)

/-- ITS FALSE NEIGHBOUR: 'it returns false'. Refute it at one input. -/
def windowOnceWrong : ChangeSpec := { name := "windowOnce", fn := fun _ => fun
  | [d1, d2] => { results := [.lit (.bool false)], args := [d1, d2] }
  | _ => none }
def WindowOnceWrongFalsely : Prop := windowOnceRow.holds Try.pinned (OpenSpec.ofChange windowOnceWrong)

/-- 'fingerpostlaw02.WindowOrders': WHATEVER THE INPUT: true; the input reads as it did. -/
def windowOrdersSpec : ChangeSpec := { name := "windowOrders", fn := fun _ => fun
  | [d1, d2, d3, d4] => { results := [.lit (.bool true)], args := [d1, d2, d3, d4] }
  | _ => none }
def windowOrdersRow : OpenClaim := { program := "ytoembbdjpelogaa", sum := "e24641247925b11f850db67cb0f650efd001c8eed1b2b377f38b2d1e6b846d89", func := "fingerpost/fingerpostlaw02.WindowOrders", spec := "windowOrders", plainKeys := false, apart := false }
def WindowOrdersSaid : Prop := windowOrdersRow.holds Try.pinned (OpenSpec.ofChange windowOrdersSpec)

/-- ITS FALSE NEIGHBOUR: 'it returns false'. Refute it at one input. -/
def windowOrdersWrong : ChangeSpec := { name := "windowOrders", fn := fun _ => fun
  | [d1, d2, d3, d4] => { results := [.lit (.bool false)], args := [d1, d2, d3, d4] }
  | _ => none }
def WindowOrdersWrongFalsely : Prop := windowOrdersRow.holds Try.pinned (OpenSpec.ofChange windowOrdersWrong)

/-- 'fingerpostlaw02.WindowEnds': WHATEVER THE INPUT: true; the input reads as it did. -/
def windowEndsSpec : ChangeSpec := { name := "windowEnds", fn := fun _ => fun
  | [d1, d2] => { results := [.lit (.bool true)], args := [d1, d2] }
  | _ => none }
def windowEndsRow : OpenClaim := { program := "ytoembbdjpelogaa", sum := "e24641247925b11f850db67cb0f650efd001c8eed1b2b377f38b2d1e6b846d89", func := "fingerpost/fingerpostlaw02.WindowEnds", spec := "windowEnds", plainKeys := false, apart := false }
def WindowEndsSaid : Prop := windowEndsRow.holds Try.pinned (OpenSpec.ofChange windowEndsSpec)

/-- ITS FALSE NEIGHBOUR: 'it returns false'. Refute it at one input. -/
def windowEndsWrong : ChangeSpec := { name := "windowEnds", fn := fun _ => fun
  | [d1, d2] => { results := [.lit (.bool false)], args := [d1, d2] }
  | _ => none }
def WindowEndsWrongFalsely : Prop := windowEndsRow.holds Try.pinned (OpenSpec.ofChange windowEndsWrong)

/- THE SECOND FORM. 'bulk': how many values and letters a reading holds, each counted each time it is reached (what is shared counts as often as it is met; a slice's spare places count too). A statement '..UptoSaid' is the law's where the arguments, and the package variables that the reading takes, are together of bulk at most 1048576: NARROWER than '..Said'. Prove '..Said' where nothing that the law and all that it calls make is longer than what came in: it says more and counts as full. Else prove '..UptoSaid'. A law counts once. -/
mutual
def uptoBulk {H : Type} : DataW H → Nat
  | .lit (.string bytes) => bytes.length + 1
  | .lit _ => 1
  | .nil => 1
  | .ptr d => uptoBulk d + 1
  | .slice elems spare => uptoBulkAll elems + uptoBulkAll spare + 1
  | .agg parts => uptoBulkAll parts + 1
  | .iface _ d => uptoBulk d + 1
  | .map entries => uptoBulkEntries entries + 1
  | .held _ => 1
def uptoBulkAll {H : Type} : List (DataW H) → Nat
  | [] => 0
  | d :: r => uptoBulk d + uptoBulkAll r
def uptoBulkEntries {H : Type} : List (Lit × DataW H) → Nat
  | [] => 0
  | x :: r => uptoBulkEntry x + uptoBulkEntries r
def uptoBulkEntry {H : Type} : Lit × DataW H → Nat
  | (.string bytes, d) => bytes.length + uptoBulk d + 1
  | (_, d) => uptoBulk d + 1
 end
def uptoSmall : (H : Type) → List (DataW H) → Bool := fun _ ds => decide (uptoBulkAll ds ≤ 1048576)
def OpenSpec.upto (s : _root_.Go.ChangeSpec) : _root_.Go.OpenSpec := { _root_.Go.OpenSpec.ofChange s with cond := some uptoSmall }

/-- 'fingerpostlaw01.RankOrders', WHERE WHAT IT READS IS OF BULK AT MOST 1048576: true; the input reads as it did. -/
def rankOrdersUptoRow : OpenClaim := { program := "ytoembbdjpelogaa", sum := "e24641247925b11f850db67cb0f650efd001c8eed1b2b377f38b2d1e6b846d89", func := "fingerpost/fingerpostlaw01.RankOrders", spec := "rankOrders", plainKeys := false, apart := false, narrowed := true }
def RankOrdersUptoSaid : Prop := rankOrdersUptoRow.holds Try.pinned (OpenSpec.upto rankOrdersSpec)

/-- 'fingerpostlaw01.RankLine', WHERE WHAT IT READS IS OF BULK AT MOST 1048576: true; the input reads as it did. -/
def rankLineUptoRow : OpenClaim := { program := "ytoembbdjpelogaa", sum := "e24641247925b11f850db67cb0f650efd001c8eed1b2b377f38b2d1e6b846d89", func := "fingerpost/fingerpostlaw01.RankLine", spec := "rankLine", plainKeys := false, apart := false, narrowed := true }
def RankLineUptoSaid : Prop := rankLineUptoRow.holds Try.pinned (OpenSpec.upto rankLineSpec)

/-- 'fingerpostlaw01.RankHops', WHERE WHAT IT READS IS OF BULK AT MOST 1048576: true; the input reads as it did. -/
def rankHopsUptoRow : OpenClaim := { program := "ytoembbdjpelogaa", sum := "e24641247925b11f850db67cb0f650efd001c8eed1b2b377f38b2d1e6b846d89", func := "fingerpost/fingerpostlaw01.RankHops", spec := "rankHops", plainKeys := false, apart := false, narrowed := true }
def RankHopsUptoSaid : Prop := rankHopsUptoRow.holds Try.pinned (OpenSpec.upto rankHopsSpec)

/-- 'fingerpostlaw01.RankSteps', WHERE WHAT IT READS IS OF BULK AT MOST 1048576: true; the input reads as it did. -/
def rankStepsUptoRow : OpenClaim := { program := "ytoembbdjpelogaa", sum := "e24641247925b11f850db67cb0f650efd001c8eed1b2b377f38b2d1e6b846d89", func := "fingerpost/fingerpostlaw01.RankSteps", spec := "rankSteps", plainKeys := false, apart := false, narrowed := true }
def RankStepsUptoSaid : Prop := rankStepsUptoRow.holds Try.pinned (OpenSpec.upto rankStepsSpec)

/-- 'fingerpostlaw01.RankBests', WHERE WHAT IT READS IS OF BULK AT MOST 1048576: true; the input reads as it did. -/
def rankBestsUptoRow : OpenClaim := { program := "ytoembbdjpelogaa", sum := "e24641247925b11f850db67cb0f650efd001c8eed1b2b377f38b2d1e6b846d89", func := "fingerpost/fingerpostlaw01.RankBests", spec := "rankBests", plainKeys := false, apart := false, narrowed := true }
def RankBestsUptoSaid : Prop := rankBestsUptoRow.holds Try.pinned (OpenSpec.upto rankBestsSpec)

/-- 'fingerpostlaw01.RankFloors', WHERE WHAT IT READS IS OF BULK AT MOST 1048576: true; the input reads as it did. -/
def rankFloorsUptoRow : OpenClaim := { program := "ytoembbdjpelogaa", sum := "e24641247925b11f850db67cb0f650efd001c8eed1b2b377f38b2d1e6b846d89", func := "fingerpost/fingerpostlaw01.RankFloors", spec := "rankFloors", plainKeys := false, apart := false, narrowed := true }
def RankFloorsUptoSaid : Prop := rankFloorsUptoRow.holds Try.pinned (OpenSpec.upto rankFloorsSpec)

/-- 'fingerpostlaw01.RankRises', WHERE WHAT IT READS IS OF BULK AT MOST 1048576: true; the input reads as it did. -/
def rankRisesUptoRow : OpenClaim := { program := "ytoembbdjpelogaa", sum := "e24641247925b11f850db67cb0f650efd001c8eed1b2b377f38b2d1e6b846d89", func := "fingerpost/fingerpostlaw01.RankRises", spec := "rankRises", plainKeys := false, apart := false, narrowed := true }
def RankRisesUptoSaid : Prop := rankRisesUptoRow.holds Try.pinned (OpenSpec.upto rankRisesSpec)

/-- 'fingerpostlaw02.WindowPlays', WHERE WHAT IT READS IS OF BULK AT MOST 1048576: true; the input reads as it did. -/
def windowPlaysUptoRow : OpenClaim := { program := "ytoembbdjpelogaa", sum := "e24641247925b11f850db67cb0f650efd001c8eed1b2b377f38b2d1e6b846d89", func := "fingerpost/fingerpostlaw02.WindowPlays", spec := "windowPlays", plainKeys := false, apart := false, narrowed := true }
def WindowPlaysUptoSaid : Prop := windowPlaysUptoRow.holds Try.pinned (OpenSpec.upto windowPlaysSpec)

/-- 'fingerpostlaw02.WindowOnce', WHERE WHAT IT READS IS OF BULK AT MOST 1048576: true; the input reads as it did. -/
def windowOnceUptoRow : OpenClaim := { program := "ytoembbdjpelogaa", sum := "e24641247925b11f850db67cb0f650efd001c8eed1b2b377f38b2d1e6b846d89", func := "fingerpost/fingerpostlaw02.WindowOnce", spec := "windowOnce", plainKeys := false, apart := false, narrowed := true }
def WindowOnceUptoSaid : Prop := windowOnceUptoRow.holds Try.pinned (OpenSpec.upto windowOnceSpec)

/-- 'fingerpostlaw02.WindowOrders', WHERE WHAT IT READS IS OF BULK AT MOST 1048576: true; the input reads as it did. -/
def windowOrdersUptoRow : OpenClaim := { program := "ytoembbdjpelogaa", sum := "e24641247925b11f850db67cb0f650efd001c8eed1b2b377f38b2d1e6b846d89", func := "fingerpost/fingerpostlaw02.WindowOrders", spec := "windowOrders", plainKeys := false, apart := false, narrowed := true }
def WindowOrdersUptoSaid : Prop := windowOrdersUptoRow.holds Try.pinned (OpenSpec.upto windowOrdersSpec)

/-- 'fingerpostlaw02.WindowEnds', WHERE WHAT IT READS IS OF BULK AT MOST 1048576: true; the input reads as it did. -/
def windowEndsUptoRow : OpenClaim := { program := "ytoembbdjpelogaa", sum := "e24641247925b11f850db67cb0f650efd001c8eed1b2b377f38b2d1e6b846d89", func := "fingerpost/fingerpostlaw02.WindowEnds", spec := "windowEnds", plainKeys := false, apart := false, narrowed := true }
def WindowEndsUptoSaid : Prop := windowEndsUptoRow.holds Try.pinned (OpenSpec.upto windowEndsSpec)

end Rows
end Go.Proofs.Ytoembbdjpelogaa
