/-
  DERIVED. GIVEN WITH THE SEED: THE CARDS: each row of YtpljjmdkagbjpaaDoorRows.lean that lists a variable, with what it lists TIED to the program's text (the seventh form; the later family's looks); each row that meets fmt, with fmt's text TOLD by the authors' own Lean function (tested against real Go, not proved from fmt's source: count such statements apart). THE CARD IS WHAT COUNTS. Prove the row's statement (the work); the ties are given (YtpljjmdkagbjpaaDoorTie.lean); close each card by the builder's one call (the guide's Derived/Test/ToyasCard.lean, 'card_holds'). Laid BY PROGRAM, IN A SANDBOX (cutbox-door.mjs). By AI agents, Wed Nov 11 2026. No macro, syntax, notation, axiom, sorry.
-/
import Derived.Test.YtpljjmdkagbjpaaDoorRows
import GoSem.ClaimSeven
namespace Go.Proofs.YtpljjmdkagbjpaaDoor
namespace Rows

/-- THE TIED CARD OF 'fingerpostlaw10.OtsLinks'. -/
def otsLinksCard : Claim7 := { stood := { row := otsLinksRow, standIns := [], harness := (true, "d24dcc82f1ce59f1ccb8b5813797cd3f8795592f4e27e2e86b224b49ed6cf30b"), looks := false }, kinds := [], alts := [], laidByText := true, laidKinds := [.data], laidTests := true, laidLooks := .later }
def OtsLinksCardSaid : Prop := Claim7.holds Tryd.pinned (.plain (OpenSpec.ofChange otsLinksSpec)) otsLinksCard

/-- THE TIED CARD OF 'fingerpostlaw10.OtsSigns'. -/
def otsSignsCard : Claim7 := { stood := { row := otsSignsRow, standIns := [], harness := (true, "d24dcc82f1ce59f1ccb8b5813797cd3f8795592f4e27e2e86b224b49ed6cf30b"), looks := false }, kinds := [], alts := [], laidByText := true, laidKinds := [.data], laidTests := true, laidLooks := .later }
def OtsSignsCardSaid : Prop := Claim7.holds Tryd.pinned (.plain (OpenSpec.ofChange otsSignsSpec)) otsSignsCard

/-- THE TIED CARD OF 'fingerpostlaw10.OtsRecovers'. -/
def otsRecoversCard : Claim7 := { stood := { row := otsRecoversRow, standIns := [], harness := (true, "d24dcc82f1ce59f1ccb8b5813797cd3f8795592f4e27e2e86b224b49ed6cf30b"), looks := false }, kinds := [], alts := [], laidByText := true, laidKinds := [.data], laidTests := true, laidLooks := .later }
def OtsRecoversCardSaid : Prop := Claim7.holds Tryd.pinned (.plain (OpenSpec.ofChange otsRecoversSpec)) otsRecoversCard

/-- THE TIED CARD OF 'fingerpostlaw10.OtsSound'. -/
def otsSoundCard : Claim7 := { stood := { row := otsSoundRow, standIns := [], harness := (true, "d24dcc82f1ce59f1ccb8b5813797cd3f8795592f4e27e2e86b224b49ed6cf30b"), looks := false }, kinds := [], alts := [], laidByText := true, laidKinds := [.data], laidTests := true, laidLooks := .later }
def OtsSoundCardSaid : Prop := Claim7.holds Tryd.pinned (.plain (OpenSpec.ofChange otsSoundSpec)) otsSoundCard

/-- THE TIED CARD OF 'fingerpostlaw11.RenewBytes'. -/
def renewBytesCard : Claim7 := { stood := { row := renewBytesRow, standIns := [], harness := (true, "d24dcc82f1ce59f1ccb8b5813797cd3f8795592f4e27e2e86b224b49ed6cf30b"), looks := false }, kinds := [], alts := [], laidByText := true, laidKinds := [.data], laidTests := true, laidLooks := .later }
def RenewBytesCardSaid : Prop := Claim7.holds Tryd.pinned (.plain (OpenSpec.ofChange renewBytesSpec)) renewBytesCard

/-- THE SECOND FORM's CARD OF 'fingerpostlaw10.OtsLinks'. -/
def otsLinksUptoCard : Claim7 := { stood := { row := otsLinksUptoRow, standIns := [], harness := (true, "d24dcc82f1ce59f1ccb8b5813797cd3f8795592f4e27e2e86b224b49ed6cf30b"), looks := false }, kinds := [], alts := [], laidByText := true, laidKinds := [.data], laidTests := true, laidLooks := .later }
def OtsLinksUptoCardSaid : Prop := Claim7.holds Tryd.pinned (.plain (OpenSpec.upto otsLinksSpec)) otsLinksUptoCard

/-- THE SECOND FORM's CARD OF 'fingerpostlaw10.OtsSigns'. -/
def otsSignsUptoCard : Claim7 := { stood := { row := otsSignsUptoRow, standIns := [], harness := (true, "d24dcc82f1ce59f1ccb8b5813797cd3f8795592f4e27e2e86b224b49ed6cf30b"), looks := false }, kinds := [], alts := [], laidByText := true, laidKinds := [.data], laidTests := true, laidLooks := .later }
def OtsSignsUptoCardSaid : Prop := Claim7.holds Tryd.pinned (.plain (OpenSpec.upto otsSignsSpec)) otsSignsUptoCard

/-- THE SECOND FORM's CARD OF 'fingerpostlaw10.OtsRecovers'. -/
def otsRecoversUptoCard : Claim7 := { stood := { row := otsRecoversUptoRow, standIns := [], harness := (true, "d24dcc82f1ce59f1ccb8b5813797cd3f8795592f4e27e2e86b224b49ed6cf30b"), looks := false }, kinds := [], alts := [], laidByText := true, laidKinds := [.data], laidTests := true, laidLooks := .later }
def OtsRecoversUptoCardSaid : Prop := Claim7.holds Tryd.pinned (.plain (OpenSpec.upto otsRecoversSpec)) otsRecoversUptoCard

/-- THE SECOND FORM's CARD OF 'fingerpostlaw10.OtsSound'. -/
def otsSoundUptoCard : Claim7 := { stood := { row := otsSoundUptoRow, standIns := [], harness := (true, "d24dcc82f1ce59f1ccb8b5813797cd3f8795592f4e27e2e86b224b49ed6cf30b"), looks := false }, kinds := [], alts := [], laidByText := true, laidKinds := [.data], laidTests := true, laidLooks := .later }
def OtsSoundUptoCardSaid : Prop := Claim7.holds Tryd.pinned (.plain (OpenSpec.upto otsSoundSpec)) otsSoundUptoCard

/-- THE SECOND FORM's CARD OF 'fingerpostlaw11.RenewBytes'. -/
def renewBytesUptoCard : Claim7 := { stood := { row := renewBytesUptoRow, standIns := [], harness := (true, "d24dcc82f1ce59f1ccb8b5813797cd3f8795592f4e27e2e86b224b49ed6cf30b"), looks := false }, kinds := [], alts := [], laidByText := true, laidKinds := [.data], laidTests := true, laidLooks := .later }
def RenewBytesUptoCardSaid : Prop := Claim7.holds Tryd.pinned (.plain (OpenSpec.upto renewBytesSpec)) renewBytesUptoCard
end Rows
end Go.Proofs.YtpljjmdkagbjpaaDoor
