/-
  DERIVED. GIVEN WITH THE SEED: THE CARDS: each row of YtkdejiggblngkaaDoorRows.lean that lists a variable, with what it lists TIED to the program's text (the seventh form; the later family's looks); each row that meets fmt, with fmt's text TOLD by the authors' own Lean function (tested against real Go, not proved from fmt's source: count such statements apart). THE CARD IS WHAT COUNTS. Prove the row's statement (the work); the ties are given (YtkdejiggblngkaaDoorTie.lean); close each card by the builder's one call (the guide's Derived/Test/ToyasCard.lean, 'card_holds'). Laid BY PROGRAM, IN A SANDBOX (cutbox-door.mjs). By AI agents, Wed Nov 11 2026. No macro, syntax, notation, axiom, sorry.
-/
import Derived.Test.YtkdejiggblngkaaDoorRows
import GoSem.ClaimSeven
namespace Go.Proofs.YtkdejiggblngkaaDoor
namespace Rows

/-- THE TIED CARD OF 'fingerpostlaw04.ShaSums'. -/
def shaSumsCard : Claim7 := { stood := { row := shaSumsRow, standIns := [], harness := (true, "cfa67c130b5f12bf79fa205789a46af4cb6f520033d0b3c38b78084dc5856947"), looks := false }, kinds := [], alts := [], laidByText := true, laidKinds := [.data], laidTests := true, laidLooks := .later }
def ShaSumsCardSaid : Prop := Claim7.holds Tryd.pinned (.plain (OpenSpec.ofChange shaSumsSpec)) shaSumsCard

/-- THE TIED CARD OF 'fingerpostlaw04.ShaEdges'. -/
def shaEdgesCard : Claim7 := { stood := { row := shaEdgesRow, standIns := [], harness := (true, "cfa67c130b5f12bf79fa205789a46af4cb6f520033d0b3c38b78084dc5856947"), looks := false }, kinds := [], alts := [], laidByText := true, laidKinds := [.data], laidTests := true, laidLooks := .later }
def ShaEdgesCardSaid : Prop := Claim7.holds Tryd.pinned (.plain (OpenSpec.ofChange shaEdgesSpec)) shaEdgesCard

/-- THE TIED CARD OF 'fingerpostlaw04.ShaParts'. -/
def shaPartsCard : Claim7 := { stood := { row := shaPartsRow, standIns := [], harness := (true, "cfa67c130b5f12bf79fa205789a46af4cb6f520033d0b3c38b78084dc5856947"), looks := false }, kinds := [], alts := [], laidByText := true, laidKinds := [.data], laidTests := true, laidLooks := .later }
def ShaPartsCardSaid : Prop := Claim7.holds Tryd.pinned (.plain (OpenSpec.ofChange shaPartsSpec)) shaPartsCard

/-- THE TIED CARD OF 'fingerpostlaw04.ShaBlocks'. -/
def shaBlocksCard : Claim7 := { stood := { row := shaBlocksRow, standIns := [], harness := (true, "cfa67c130b5f12bf79fa205789a46af4cb6f520033d0b3c38b78084dc5856947"), looks := false }, kinds := [], alts := [], laidByText := true, laidKinds := [.data], laidTests := true, laidLooks := .later }
def ShaBlocksCardSaid : Prop := Claim7.holds Tryd.pinned (.plain (OpenSpec.ofChange shaBlocksSpec)) shaBlocksCard

/-- THE TIED CARD OF 'fingerpostlaw04.ShaHexes'. -/
def shaHexesCard : Claim7 := { stood := { row := shaHexesRow, standIns := [], harness := (true, "cfa67c130b5f12bf79fa205789a46af4cb6f520033d0b3c38b78084dc5856947"), looks := false }, kinds := [], alts := [], laidByText := true, laidKinds := [.data], laidTests := true, laidLooks := .later }
def ShaHexesCardSaid : Prop := Claim7.holds Tryd.pinned (.plain (OpenSpec.ofChange shaHexesSpec)) shaHexesCard

/-- THE TIED CARD OF 'fingerpostlaw05.MacTags'. -/
def macTagsCard : Claim7 := { stood := { row := macTagsRow, standIns := [], harness := (true, "cfa67c130b5f12bf79fa205789a46af4cb6f520033d0b3c38b78084dc5856947"), looks := false }, kinds := [], alts := [], laidByText := true, laidKinds := [.data], laidTests := true, laidLooks := .later }
def MacTagsCardSaid : Prop := Claim7.holds Tryd.pinned (.plain (OpenSpec.ofChange macTagsSpec)) macTagsCard

/-- THE TIED CARD OF 'fingerpostlaw05.MacCosts'. -/
def macCostsCard : Claim7 := { stood := { row := macCostsRow, standIns := [], harness := (true, "cfa67c130b5f12bf79fa205789a46af4cb6f520033d0b3c38b78084dc5856947"), looks := false }, kinds := [], alts := [], laidByText := true, laidKinds := [.data], laidTests := true, laidLooks := .later }
def MacCostsCardSaid : Prop := Claim7.holds Tryd.pinned (.plain (OpenSpec.ofChange macCostsSpec)) macCostsCard

/-- THE TIED CARD OF 'fingerpostlaw05.MacShorts'. -/
def macShortsCard : Claim7 := { stood := { row := macShortsRow, standIns := [], harness := (true, "cfa67c130b5f12bf79fa205789a46af4cb6f520033d0b3c38b78084dc5856947"), looks := false }, kinds := [], alts := [], laidByText := true, laidKinds := [.data], laidTests := true, laidLooks := .later }
def MacShortsCardSaid : Prop := Claim7.holds Tryd.pinned (.plain (OpenSpec.ofChange macShortsSpec)) macShortsCard

/-- THE TIED CARD OF 'fingerpostlaw05.MacGives'. -/
def macGivesCard : Claim7 := { stood := { row := macGivesRow, standIns := [], harness := (true, "cfa67c130b5f12bf79fa205789a46af4cb6f520033d0b3c38b78084dc5856947"), looks := false }, kinds := [], alts := [], laidByText := true, laidKinds := [.data], laidTests := true, laidLooks := .later }
def MacGivesCardSaid : Prop := Claim7.holds Tryd.pinned (.plain (OpenSpec.ofChange macGivesSpec)) macGivesCard

/-- THE TIED CARD OF 'fingerpostlaw05.MacHolds'. -/
def macHoldsCard : Claim7 := { stood := { row := macHoldsRow, standIns := [], harness := (true, "cfa67c130b5f12bf79fa205789a46af4cb6f520033d0b3c38b78084dc5856947"), looks := false }, kinds := [], alts := [], laidByText := true, laidKinds := [.data], laidTests := true, laidLooks := .later }
def MacHoldsCardSaid : Prop := Claim7.holds Tryd.pinned (.plain (OpenSpec.ofChange macHoldsSpec)) macHoldsCard

/-- THE SECOND FORM's CARD OF 'fingerpostlaw04.ShaSums'. -/
def shaSumsUptoCard : Claim7 := { stood := { row := shaSumsUptoRow, standIns := [], harness := (true, "cfa67c130b5f12bf79fa205789a46af4cb6f520033d0b3c38b78084dc5856947"), looks := false }, kinds := [], alts := [], laidByText := true, laidKinds := [.data], laidTests := true, laidLooks := .later }
def ShaSumsUptoCardSaid : Prop := Claim7.holds Tryd.pinned (.plain (OpenSpec.upto shaSumsSpec)) shaSumsUptoCard

/-- THE SECOND FORM's CARD OF 'fingerpostlaw04.ShaEdges'. -/
def shaEdgesUptoCard : Claim7 := { stood := { row := shaEdgesUptoRow, standIns := [], harness := (true, "cfa67c130b5f12bf79fa205789a46af4cb6f520033d0b3c38b78084dc5856947"), looks := false }, kinds := [], alts := [], laidByText := true, laidKinds := [.data], laidTests := true, laidLooks := .later }
def ShaEdgesUptoCardSaid : Prop := Claim7.holds Tryd.pinned (.plain (OpenSpec.upto shaEdgesSpec)) shaEdgesUptoCard

/-- THE SECOND FORM's CARD OF 'fingerpostlaw04.ShaParts'. -/
def shaPartsUptoCard : Claim7 := { stood := { row := shaPartsUptoRow, standIns := [], harness := (true, "cfa67c130b5f12bf79fa205789a46af4cb6f520033d0b3c38b78084dc5856947"), looks := false }, kinds := [], alts := [], laidByText := true, laidKinds := [.data], laidTests := true, laidLooks := .later }
def ShaPartsUptoCardSaid : Prop := Claim7.holds Tryd.pinned (.plain (OpenSpec.upto shaPartsSpec)) shaPartsUptoCard

/-- THE SECOND FORM's CARD OF 'fingerpostlaw04.ShaBlocks'. -/
def shaBlocksUptoCard : Claim7 := { stood := { row := shaBlocksUptoRow, standIns := [], harness := (true, "cfa67c130b5f12bf79fa205789a46af4cb6f520033d0b3c38b78084dc5856947"), looks := false }, kinds := [], alts := [], laidByText := true, laidKinds := [.data], laidTests := true, laidLooks := .later }
def ShaBlocksUptoCardSaid : Prop := Claim7.holds Tryd.pinned (.plain (OpenSpec.upto shaBlocksSpec)) shaBlocksUptoCard

/-- THE SECOND FORM's CARD OF 'fingerpostlaw04.ShaHexes'. -/
def shaHexesUptoCard : Claim7 := { stood := { row := shaHexesUptoRow, standIns := [], harness := (true, "cfa67c130b5f12bf79fa205789a46af4cb6f520033d0b3c38b78084dc5856947"), looks := false }, kinds := [], alts := [], laidByText := true, laidKinds := [.data], laidTests := true, laidLooks := .later }
def ShaHexesUptoCardSaid : Prop := Claim7.holds Tryd.pinned (.plain (OpenSpec.upto shaHexesSpec)) shaHexesUptoCard

/-- THE SECOND FORM's CARD OF 'fingerpostlaw05.MacTags'. -/
def macTagsUptoCard : Claim7 := { stood := { row := macTagsUptoRow, standIns := [], harness := (true, "cfa67c130b5f12bf79fa205789a46af4cb6f520033d0b3c38b78084dc5856947"), looks := false }, kinds := [], alts := [], laidByText := true, laidKinds := [.data], laidTests := true, laidLooks := .later }
def MacTagsUptoCardSaid : Prop := Claim7.holds Tryd.pinned (.plain (OpenSpec.upto macTagsSpec)) macTagsUptoCard

/-- THE SECOND FORM's CARD OF 'fingerpostlaw05.MacCosts'. -/
def macCostsUptoCard : Claim7 := { stood := { row := macCostsUptoRow, standIns := [], harness := (true, "cfa67c130b5f12bf79fa205789a46af4cb6f520033d0b3c38b78084dc5856947"), looks := false }, kinds := [], alts := [], laidByText := true, laidKinds := [.data], laidTests := true, laidLooks := .later }
def MacCostsUptoCardSaid : Prop := Claim7.holds Tryd.pinned (.plain (OpenSpec.upto macCostsSpec)) macCostsUptoCard

/-- THE SECOND FORM's CARD OF 'fingerpostlaw05.MacShorts'. -/
def macShortsUptoCard : Claim7 := { stood := { row := macShortsUptoRow, standIns := [], harness := (true, "cfa67c130b5f12bf79fa205789a46af4cb6f520033d0b3c38b78084dc5856947"), looks := false }, kinds := [], alts := [], laidByText := true, laidKinds := [.data], laidTests := true, laidLooks := .later }
def MacShortsUptoCardSaid : Prop := Claim7.holds Tryd.pinned (.plain (OpenSpec.upto macShortsSpec)) macShortsUptoCard

/-- THE SECOND FORM's CARD OF 'fingerpostlaw05.MacGives'. -/
def macGivesUptoCard : Claim7 := { stood := { row := macGivesUptoRow, standIns := [], harness := (true, "cfa67c130b5f12bf79fa205789a46af4cb6f520033d0b3c38b78084dc5856947"), looks := false }, kinds := [], alts := [], laidByText := true, laidKinds := [.data], laidTests := true, laidLooks := .later }
def MacGivesUptoCardSaid : Prop := Claim7.holds Tryd.pinned (.plain (OpenSpec.upto macGivesSpec)) macGivesUptoCard

/-- THE SECOND FORM's CARD OF 'fingerpostlaw05.MacHolds'. -/
def macHoldsUptoCard : Claim7 := { stood := { row := macHoldsUptoRow, standIns := [], harness := (true, "cfa67c130b5f12bf79fa205789a46af4cb6f520033d0b3c38b78084dc5856947"), looks := false }, kinds := [], alts := [], laidByText := true, laidKinds := [.data], laidTests := true, laidLooks := .later }
def MacHoldsUptoCardSaid : Prop := Claim7.holds Tryd.pinned (.plain (OpenSpec.upto macHoldsSpec)) macHoldsUptoCard
end Rows
end Go.Proofs.YtkdejiggblngkaaDoor
