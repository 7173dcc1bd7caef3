/-
  DERIVED. GIVEN WITH THE SEED: THE CARDS: each row of YtahmioiefmheeaaDoorRows.lean that lists a variable, with what it lists TIED to the program's text (the seventh form; the later family's looks); each row that meets fmt, with fmt's text TOLD by the authors' own Lean function (tested against real Go, not proved from fmt's source: count such statements apart). THE CARD IS WHAT COUNTS. Prove the row's statement (the work); the ties are given (YtahmioiefmheeaaDoorTie.lean); close each card by the builder's one call (the guide's Derived/Test/ToyasCard.lean, 'card_holds'). Laid BY PROGRAM, IN A SANDBOX (cutbox-door.mjs). By AI agents, Wed Nov 11 2026. No macro, syntax, notation, axiom, sorry.
-/
import Derived.Test.YtahmioiefmheeaaDoorRows
import GoSem.ClaimSeven
namespace Go.Proofs.YtahmioiefmheeaaDoor
namespace Rows

/-- THE TIED CARD OF 'fingerpostlaw04.ShaHexes'. -/
def shaHexesCard : Claim7 := { stood := { row := shaHexesRow, standIns := [], harness := (true, "059056456355ec25f4b98c073b4fa8ce416df7cafe5347f2113f791fd932fac9"), looks := false }, kinds := [], alts := [], laidByText := true, laidKinds := [.data], laidTests := true, laidLooks := .later }
def ShaHexesCardSaid : Prop := Claim7.holds Tryd.pinned (.plain (OpenSpec.ofChange shaHexesSpec)) shaHexesCard

/-- THE TIED CARD OF 'fingerpostlaw05.MacShorts'. -/
def macShortsCard : Claim7 := { stood := { row := macShortsRow, standIns := [], harness := (true, "059056456355ec25f4b98c073b4fa8ce416df7cafe5347f2113f791fd932fac9"), looks := false }, kinds := [], alts := [], laidByText := true, laidKinds := [.data], laidTests := true, laidLooks := .later }
def MacShortsCardSaid : Prop := Claim7.holds Tryd.pinned (.plain (OpenSpec.ofChange macShortsSpec)) macShortsCard

/-- THE TIED CARD OF 'fingerpostlaw05.MacGives'. -/
def macGivesCard : Claim7 := { stood := { row := macGivesRow, standIns := [], harness := (true, "059056456355ec25f4b98c073b4fa8ce416df7cafe5347f2113f791fd932fac9"), looks := false }, kinds := [], alts := [], laidByText := true, laidKinds := [.data], laidTests := true, laidLooks := .later }
def MacGivesCardSaid : Prop := Claim7.holds Tryd.pinned (.plain (OpenSpec.ofChange macGivesSpec)) macGivesCard

/-- THE TIED CARD OF 'fingerpostlaw05.MacHolds'. -/
def macHoldsCard : Claim7 := { stood := { row := macHoldsRow, standIns := [], harness := (true, "059056456355ec25f4b98c073b4fa8ce416df7cafe5347f2113f791fd932fac9"), looks := false }, kinds := [], alts := [], laidByText := true, laidKinds := [.data], laidTests := true, laidLooks := .later }
def MacHoldsCardSaid : Prop := Claim7.holds Tryd.pinned (.plain (OpenSpec.ofChange macHoldsSpec)) macHoldsCard

/-- THE TIED CARD OF 'fingerpostlaw06.LadderUps'. -/
def ladderUpsCard : Claim7 := { stood := { row := ladderUpsRow, standIns := [], harness := (true, "059056456355ec25f4b98c073b4fa8ce416df7cafe5347f2113f791fd932fac9"), looks := false }, kinds := [], alts := [], laidByText := true, laidKinds := [.data], laidTests := true, laidLooks := .later }
def LadderUpsCardSaid : Prop := Claim7.holds Tryd.pinned (.plain (OpenSpec.ofChange ladderUpsSpec)) ladderUpsCard

/-- THE TIED CARD OF 'fingerpostlaw06.LadderClimbs'. -/
def ladderClimbsCard : Claim7 := { stood := { row := ladderClimbsRow, standIns := [], harness := (true, "059056456355ec25f4b98c073b4fa8ce416df7cafe5347f2113f791fd932fac9"), looks := false }, kinds := [], alts := [], laidByText := true, laidKinds := [.data], laidTests := true, laidLooks := .later }
def LadderClimbsCardSaid : Prop := Claim7.holds Tryd.pinned (.plain (OpenSpec.ofChange ladderClimbsSpec)) ladderClimbsCard

/-- THE TIED CARD OF 'fingerpostlaw06.LadderShows'. -/
def ladderShowsCard : Claim7 := { stood := { row := ladderShowsRow, standIns := [], harness := (true, "059056456355ec25f4b98c073b4fa8ce416df7cafe5347f2113f791fd932fac9"), looks := false }, kinds := [], alts := [], laidByText := true, laidKinds := [.data], laidTests := true, laidLooks := .later }
def LadderShowsCardSaid : Prop := Claim7.holds Tryd.pinned (.plain (OpenSpec.ofChange ladderShowsSpec)) ladderShowsCard

/-- THE TIED CARD OF 'fingerpostlaw06.LadderMeets'. -/
def ladderMeetsCard : Claim7 := { stood := { row := ladderMeetsRow, standIns := [], harness := (true, "059056456355ec25f4b98c073b4fa8ce416df7cafe5347f2113f791fd932fac9"), looks := false }, kinds := [], alts := [], laidByText := true, laidKinds := [.data], laidTests := true, laidLooks := .later }
def LadderMeetsCardSaid : Prop := Claim7.holds Tryd.pinned (.plain (OpenSpec.ofChange ladderMeetsSpec)) ladderMeetsCard

/-- THE TIED CARD OF 'fingerpostlaw06.LadderSound'. -/
def ladderSoundCard : Claim7 := { stood := { row := ladderSoundRow, standIns := [], harness := (true, "059056456355ec25f4b98c073b4fa8ce416df7cafe5347f2113f791fd932fac9"), looks := false }, kinds := [], alts := [], laidByText := true, laidKinds := [.data], laidTests := true, laidLooks := .later }
def LadderSoundCardSaid : Prop := Claim7.holds Tryd.pinned (.plain (OpenSpec.ofChange ladderSoundSpec)) ladderSoundCard

/-- THE TIED CARD OF 'fingerpostlaw06.LadderCosts'. -/
def ladderCostsCard : Claim7 := { stood := { row := ladderCostsRow, standIns := [], harness := (true, "059056456355ec25f4b98c073b4fa8ce416df7cafe5347f2113f791fd932fac9"), looks := false }, kinds := [], alts := [], laidByText := true, laidKinds := [.data], laidTests := true, laidLooks := .later }
def LadderCostsCardSaid : Prop := Claim7.holds Tryd.pinned (.plain (OpenSpec.ofChange ladderCostsSpec)) ladderCostsCard

/-- THE TIED CARD OF 'fingerpostlaw07.GroveNews'. -/
def groveNewsCard : Claim7 := { stood := { row := groveNewsRow, standIns := [], harness := (true, "059056456355ec25f4b98c073b4fa8ce416df7cafe5347f2113f791fd932fac9"), looks := false }, kinds := [], alts := [], laidByText := true, laidKinds := [.data], laidTests := true, laidLooks := .later }
def GroveNewsCardSaid : Prop := Claim7.holds Tryd.pinned (.plain (OpenSpec.ofChange groveNewsSpec)) groveNewsCard

/-- THE TIED CARD OF 'fingerpostlaw07.GroveFolds'. -/
def groveFoldsCard : Claim7 := { stood := { row := groveFoldsRow, standIns := [], harness := (true, "059056456355ec25f4b98c073b4fa8ce416df7cafe5347f2113f791fd932fac9"), looks := false }, kinds := [], alts := [], laidByText := true, laidKinds := [.data], laidTests := true, laidLooks := .later }
def GroveFoldsCardSaid : Prop := Claim7.holds Tryd.pinned (.plain (OpenSpec.ofChange groveFoldsSpec)) groveFoldsCard

/-- THE TIED CARD OF 'fingerpostlaw07.GroveLeads'. -/
def groveLeadsCard : Claim7 := { stood := { row := groveLeadsRow, standIns := [], harness := (true, "059056456355ec25f4b98c073b4fa8ce416df7cafe5347f2113f791fd932fac9"), looks := false }, kinds := [], alts := [], laidByText := true, laidKinds := [.data], laidTests := true, laidLooks := .later }
def GroveLeadsCardSaid : Prop := Claim7.holds Tryd.pinned (.plain (OpenSpec.ofChange groveLeadsSpec)) groveLeadsCard

/-- THE TIED CARD OF 'fingerpostlaw07.GroveSound'. -/
def groveSoundCard : Claim7 := { stood := { row := groveSoundRow, standIns := [], harness := (true, "059056456355ec25f4b98c073b4fa8ce416df7cafe5347f2113f791fd932fac9"), looks := false }, kinds := [], alts := [], laidByText := true, laidKinds := [.data], laidTests := true, laidLooks := .later }
def GroveSoundCardSaid : Prop := Claim7.holds Tryd.pinned (.plain (OpenSpec.ofChange groveSoundSpec)) groveSoundCard

/-- THE TIED CARD OF 'fingerpostlaw07.GroveNil'. -/
def groveNilCard : Claim7 := { stood := { row := groveNilRow, standIns := [], harness := (true, "059056456355ec25f4b98c073b4fa8ce416df7cafe5347f2113f791fd932fac9"), looks := false }, kinds := [], alts := [], laidByText := true, laidKinds := [.data], laidTests := true, laidLooks := .later }
def GroveNilCardSaid : Prop := Claim7.holds Tryd.pinned (.plain (OpenSpec.ofChange groveNilSpec)) groveNilCard

/-- THE SECOND FORM's CARD OF 'fingerpostlaw04.ShaHexes'. -/
def shaHexesUptoCard : Claim7 := { stood := { row := shaHexesUptoRow, standIns := [], harness := (true, "059056456355ec25f4b98c073b4fa8ce416df7cafe5347f2113f791fd932fac9"), looks := false }, kinds := [], alts := [], laidByText := true, laidKinds := [.data], laidTests := true, laidLooks := .later }
def ShaHexesUptoCardSaid : Prop := Claim7.holds Tryd.pinned (.plain (OpenSpec.upto shaHexesSpec)) shaHexesUptoCard

/-- THE SECOND FORM's CARD OF 'fingerpostlaw05.MacShorts'. -/
def macShortsUptoCard : Claim7 := { stood := { row := macShortsUptoRow, standIns := [], harness := (true, "059056456355ec25f4b98c073b4fa8ce416df7cafe5347f2113f791fd932fac9"), looks := false }, kinds := [], alts := [], laidByText := true, laidKinds := [.data], laidTests := true, laidLooks := .later }
def MacShortsUptoCardSaid : Prop := Claim7.holds Tryd.pinned (.plain (OpenSpec.upto macShortsSpec)) macShortsUptoCard

/-- THE SECOND FORM's CARD OF 'fingerpostlaw05.MacGives'. -/
def macGivesUptoCard : Claim7 := { stood := { row := macGivesUptoRow, standIns := [], harness := (true, "059056456355ec25f4b98c073b4fa8ce416df7cafe5347f2113f791fd932fac9"), looks := false }, kinds := [], alts := [], laidByText := true, laidKinds := [.data], laidTests := true, laidLooks := .later }
def MacGivesUptoCardSaid : Prop := Claim7.holds Tryd.pinned (.plain (OpenSpec.upto macGivesSpec)) macGivesUptoCard

/-- THE SECOND FORM's CARD OF 'fingerpostlaw05.MacHolds'. -/
def macHoldsUptoCard : Claim7 := { stood := { row := macHoldsUptoRow, standIns := [], harness := (true, "059056456355ec25f4b98c073b4fa8ce416df7cafe5347f2113f791fd932fac9"), looks := false }, kinds := [], alts := [], laidByText := true, laidKinds := [.data], laidTests := true, laidLooks := .later }
def MacHoldsUptoCardSaid : Prop := Claim7.holds Tryd.pinned (.plain (OpenSpec.upto macHoldsSpec)) macHoldsUptoCard

/-- THE SECOND FORM's CARD OF 'fingerpostlaw06.LadderUps'. -/
def ladderUpsUptoCard : Claim7 := { stood := { row := ladderUpsUptoRow, standIns := [], harness := (true, "059056456355ec25f4b98c073b4fa8ce416df7cafe5347f2113f791fd932fac9"), looks := false }, kinds := [], alts := [], laidByText := true, laidKinds := [.data], laidTests := true, laidLooks := .later }
def LadderUpsUptoCardSaid : Prop := Claim7.holds Tryd.pinned (.plain (OpenSpec.upto ladderUpsSpec)) ladderUpsUptoCard

/-- THE SECOND FORM's CARD OF 'fingerpostlaw06.LadderClimbs'. -/
def ladderClimbsUptoCard : Claim7 := { stood := { row := ladderClimbsUptoRow, standIns := [], harness := (true, "059056456355ec25f4b98c073b4fa8ce416df7cafe5347f2113f791fd932fac9"), looks := false }, kinds := [], alts := [], laidByText := true, laidKinds := [.data], laidTests := true, laidLooks := .later }
def LadderClimbsUptoCardSaid : Prop := Claim7.holds Tryd.pinned (.plain (OpenSpec.upto ladderClimbsSpec)) ladderClimbsUptoCard

/-- THE SECOND FORM's CARD OF 'fingerpostlaw06.LadderShows'. -/
def ladderShowsUptoCard : Claim7 := { stood := { row := ladderShowsUptoRow, standIns := [], harness := (true, "059056456355ec25f4b98c073b4fa8ce416df7cafe5347f2113f791fd932fac9"), looks := false }, kinds := [], alts := [], laidByText := true, laidKinds := [.data], laidTests := true, laidLooks := .later }
def LadderShowsUptoCardSaid : Prop := Claim7.holds Tryd.pinned (.plain (OpenSpec.upto ladderShowsSpec)) ladderShowsUptoCard

/-- THE SECOND FORM's CARD OF 'fingerpostlaw06.LadderMeets'. -/
def ladderMeetsUptoCard : Claim7 := { stood := { row := ladderMeetsUptoRow, standIns := [], harness := (true, "059056456355ec25f4b98c073b4fa8ce416df7cafe5347f2113f791fd932fac9"), looks := false }, kinds := [], alts := [], laidByText := true, laidKinds := [.data], laidTests := true, laidLooks := .later }
def LadderMeetsUptoCardSaid : Prop := Claim7.holds Tryd.pinned (.plain (OpenSpec.upto ladderMeetsSpec)) ladderMeetsUptoCard

/-- THE SECOND FORM's CARD OF 'fingerpostlaw06.LadderSound'. -/
def ladderSoundUptoCard : Claim7 := { stood := { row := ladderSoundUptoRow, standIns := [], harness := (true, "059056456355ec25f4b98c073b4fa8ce416df7cafe5347f2113f791fd932fac9"), looks := false }, kinds := [], alts := [], laidByText := true, laidKinds := [.data], laidTests := true, laidLooks := .later }
def LadderSoundUptoCardSaid : Prop := Claim7.holds Tryd.pinned (.plain (OpenSpec.upto ladderSoundSpec)) ladderSoundUptoCard

/-- THE SECOND FORM's CARD OF 'fingerpostlaw06.LadderCosts'. -/
def ladderCostsUptoCard : Claim7 := { stood := { row := ladderCostsUptoRow, standIns := [], harness := (true, "059056456355ec25f4b98c073b4fa8ce416df7cafe5347f2113f791fd932fac9"), looks := false }, kinds := [], alts := [], laidByText := true, laidKinds := [.data], laidTests := true, laidLooks := .later }
def LadderCostsUptoCardSaid : Prop := Claim7.holds Tryd.pinned (.plain (OpenSpec.upto ladderCostsSpec)) ladderCostsUptoCard

/-- THE SECOND FORM's CARD OF 'fingerpostlaw07.GroveNews'. -/
def groveNewsUptoCard : Claim7 := { stood := { row := groveNewsUptoRow, standIns := [], harness := (true, "059056456355ec25f4b98c073b4fa8ce416df7cafe5347f2113f791fd932fac9"), looks := false }, kinds := [], alts := [], laidByText := true, laidKinds := [.data], laidTests := true, laidLooks := .later }
def GroveNewsUptoCardSaid : Prop := Claim7.holds Tryd.pinned (.plain (OpenSpec.upto groveNewsSpec)) groveNewsUptoCard

/-- THE SECOND FORM's CARD OF 'fingerpostlaw07.GroveFolds'. -/
def groveFoldsUptoCard : Claim7 := { stood := { row := groveFoldsUptoRow, standIns := [], harness := (true, "059056456355ec25f4b98c073b4fa8ce416df7cafe5347f2113f791fd932fac9"), looks := false }, kinds := [], alts := [], laidByText := true, laidKinds := [.data], laidTests := true, laidLooks := .later }
def GroveFoldsUptoCardSaid : Prop := Claim7.holds Tryd.pinned (.plain (OpenSpec.upto groveFoldsSpec)) groveFoldsUptoCard

/-- THE SECOND FORM's CARD OF 'fingerpostlaw07.GroveLeads'. -/
def groveLeadsUptoCard : Claim7 := { stood := { row := groveLeadsUptoRow, standIns := [], harness := (true, "059056456355ec25f4b98c073b4fa8ce416df7cafe5347f2113f791fd932fac9"), looks := false }, kinds := [], alts := [], laidByText := true, laidKinds := [.data], laidTests := true, laidLooks := .later }
def GroveLeadsUptoCardSaid : Prop := Claim7.holds Tryd.pinned (.plain (OpenSpec.upto groveLeadsSpec)) groveLeadsUptoCard

/-- THE SECOND FORM's CARD OF 'fingerpostlaw07.GroveSound'. -/
def groveSoundUptoCard : Claim7 := { stood := { row := groveSoundUptoRow, standIns := [], harness := (true, "059056456355ec25f4b98c073b4fa8ce416df7cafe5347f2113f791fd932fac9"), looks := false }, kinds := [], alts := [], laidByText := true, laidKinds := [.data], laidTests := true, laidLooks := .later }
def GroveSoundUptoCardSaid : Prop := Claim7.holds Tryd.pinned (.plain (OpenSpec.upto groveSoundSpec)) groveSoundUptoCard

/-- THE SECOND FORM's CARD OF 'fingerpostlaw07.GroveNil'. -/
def groveNilUptoCard : Claim7 := { stood := { row := groveNilUptoRow, standIns := [], harness := (true, "059056456355ec25f4b98c073b4fa8ce416df7cafe5347f2113f791fd932fac9"), looks := false }, kinds := [], alts := [], laidByText := true, laidKinds := [.data], laidTests := true, laidLooks := .later }
def GroveNilUptoCardSaid : Prop := Claim7.holds Tryd.pinned (.plain (OpenSpec.upto groveNilSpec)) groveNilUptoCard
end Rows
end Go.Proofs.YtahmioiefmheeaaDoor
