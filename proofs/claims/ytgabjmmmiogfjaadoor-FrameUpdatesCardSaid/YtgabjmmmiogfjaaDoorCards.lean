/-
  DERIVED. GIVEN WITH THE SEED: THE CARDS: each row of YtgabjmmmiogfjaaDoorRows.lean that lists a variable, with what it lists TIED to the program's text (the seventh form; the later family's looks); each row that meets fmt, with fmt's text TOLD by the authors' own Lean function (tested against real Go, not proved from fmt's source: count such statements apart). THE CARD IS WHAT COUNTS. Prove the row's statement (the work); the ties are given (YtgabjmmmiogfjaaDoorTie.lean); close each card by the builder's one call (the guide's Derived/Test/ToyasCard.lean, 'card_holds'). Laid BY PROGRAM, IN A SANDBOX (cutbox-door.mjs). By AI agents, Wed Nov 11 2026. No macro, syntax, notation, axiom, sorry.
-/
import Derived.Test.YtgabjmmmiogfjaaDoorRows
import GoSem.ClaimSeven
namespace Go.Proofs.YtgabjmmmiogfjaaDoor
namespace Rows

/-- THE TIED CARD OF 'fingerpostlaw12.FrameSeals'. -/
def frameSealsCard : Claim7 := { stood := { row := frameSealsRow, standIns := [], harness := (true, "b97235b4557f00dd4fc25f5b94c71d73068989117521faf0f96ce111f74bb4e4"), looks := false }, kinds := [], alts := [], laidByText := true, laidKinds := [.data], laidTests := true, laidLooks := .later }
def FrameSealsCardSaid : Prop := Claim7.holds Tryd.pinned (.plain (OpenSpec.ofChange frameSealsSpec)) frameSealsCard

/-- THE TIED CARD OF 'fingerpostlaw12.FrameOpens'. -/
def frameOpensCard : Claim7 := { stood := { row := frameOpensRow, standIns := [], harness := (true, "b97235b4557f00dd4fc25f5b94c71d73068989117521faf0f96ce111f74bb4e4"), looks := false }, kinds := [], alts := [], laidByText := true, laidKinds := [.data], laidTests := true, laidLooks := .later }
def FrameOpensCardSaid : Prop := Claim7.holds Tryd.pinned (.plain (OpenSpec.ofChange frameOpensSpec)) frameOpensCard

/-- THE TIED CARD OF 'fingerpostlaw12.FrameBack'. -/
def frameBackCard : Claim7 := { stood := { row := frameBackRow, standIns := [], harness := (true, "b97235b4557f00dd4fc25f5b94c71d73068989117521faf0f96ce111f74bb4e4"), looks := false }, kinds := [], alts := [], laidByText := true, laidKinds := [.data], laidTests := true, laidLooks := .later }
def FrameBackCardSaid : Prop := Claim7.holds Tryd.pinned (.plain (OpenSpec.ofChange frameBackSpec)) frameBackCard

/-- THE TIED CARD OF 'fingerpostlaw12.FrameUpdates'. -/
def frameUpdatesCard : Claim7 := { stood := { row := frameUpdatesRow, standIns := [], harness := (true, "b97235b4557f00dd4fc25f5b94c71d73068989117521faf0f96ce111f74bb4e4"), looks := false }, kinds := [], alts := [], laidByText := true, laidKinds := [.data], laidTests := true, laidLooks := .later }
def FrameUpdatesCardSaid : Prop := Claim7.holds Tryd.pinned (.plain (OpenSpec.ofChange frameUpdatesSpec)) frameUpdatesCard

/-- THE TIED CARD OF 'fingerpostlaw12.FrameHellos'. -/
def frameHellosCard : Claim7 := { stood := { row := frameHellosRow, standIns := [], harness := (true, "b97235b4557f00dd4fc25f5b94c71d73068989117521faf0f96ce111f74bb4e4"), looks := false }, kinds := [], alts := [], laidByText := true, laidKinds := [.data], laidTests := true, laidLooks := .later }
def FrameHellosCardSaid : Prop := Claim7.holds Tryd.pinned (.plain (OpenSpec.ofChange frameHellosSpec)) frameHellosCard

/-- THE SECOND FORM's CARD OF 'fingerpostlaw12.FrameSeals'. -/
def frameSealsUptoCard : Claim7 := { stood := { row := frameSealsUptoRow, standIns := [], harness := (true, "b97235b4557f00dd4fc25f5b94c71d73068989117521faf0f96ce111f74bb4e4"), looks := false }, kinds := [], alts := [], laidByText := true, laidKinds := [.data], laidTests := true, laidLooks := .later }
def FrameSealsUptoCardSaid : Prop := Claim7.holds Tryd.pinned (.plain (OpenSpec.upto frameSealsSpec)) frameSealsUptoCard

/-- THE SECOND FORM's CARD OF 'fingerpostlaw12.FrameOpens'. -/
def frameOpensUptoCard : Claim7 := { stood := { row := frameOpensUptoRow, standIns := [], harness := (true, "b97235b4557f00dd4fc25f5b94c71d73068989117521faf0f96ce111f74bb4e4"), looks := false }, kinds := [], alts := [], laidByText := true, laidKinds := [.data], laidTests := true, laidLooks := .later }
def FrameOpensUptoCardSaid : Prop := Claim7.holds Tryd.pinned (.plain (OpenSpec.upto frameOpensSpec)) frameOpensUptoCard

/-- THE SECOND FORM's CARD OF 'fingerpostlaw12.FrameBack'. -/
def frameBackUptoCard : Claim7 := { stood := { row := frameBackUptoRow, standIns := [], harness := (true, "b97235b4557f00dd4fc25f5b94c71d73068989117521faf0f96ce111f74bb4e4"), looks := false }, kinds := [], alts := [], laidByText := true, laidKinds := [.data], laidTests := true, laidLooks := .later }
def FrameBackUptoCardSaid : Prop := Claim7.holds Tryd.pinned (.plain (OpenSpec.upto frameBackSpec)) frameBackUptoCard

/-- THE SECOND FORM's CARD OF 'fingerpostlaw12.FrameUpdates'. -/
def frameUpdatesUptoCard : Claim7 := { stood := { row := frameUpdatesUptoRow, standIns := [], harness := (true, "b97235b4557f00dd4fc25f5b94c71d73068989117521faf0f96ce111f74bb4e4"), looks := false }, kinds := [], alts := [], laidByText := true, laidKinds := [.data], laidTests := true, laidLooks := .later }
def FrameUpdatesUptoCardSaid : Prop := Claim7.holds Tryd.pinned (.plain (OpenSpec.upto frameUpdatesSpec)) frameUpdatesUptoCard

/-- THE SECOND FORM's CARD OF 'fingerpostlaw12.FrameHellos'. -/
def frameHellosUptoCard : Claim7 := { stood := { row := frameHellosUptoRow, standIns := [], harness := (true, "b97235b4557f00dd4fc25f5b94c71d73068989117521faf0f96ce111f74bb4e4"), looks := false }, kinds := [], alts := [], laidByText := true, laidKinds := [.data], laidTests := true, laidLooks := .later }
def FrameHellosUptoCardSaid : Prop := Claim7.holds Tryd.pinned (.plain (OpenSpec.upto frameHellosSpec)) frameHellosUptoCard
end Rows
end Go.Proofs.YtgabjmmmiogfjaaDoor
