/-
  DERIVED. GIVEN WITH THE SEED: THE CARDS: each row of YtibbinenhmiclaaDoorRows.lean that lists a variable, with what it lists TIED to the program's text (the seventh form; the later family's looks); each row that meets fmt, with fmt's text TOLD by the authors' own Lean function (tested against real Go, not proved from fmt's source: count such statements apart). THE CARD IS WHAT COUNTS. Prove the row's statement (the work); the ties are given (YtibbinenhmiclaaDoorTie.lean); close each card by the builder's one call (the guide's Derived/Test/ToyasCard.lean, 'card_holds'). Laid BY PROGRAM, IN A SANDBOX (cutbox-door.mjs). By AI agents, Wed Nov 11 2026. No macro, syntax, notation, axiom, sorry.
-/
import Derived.Test.YtibbinenhmiclaaDoorRows
import GoSem.ClaimSeven
namespace Go.Proofs.YtibbinenhmiclaaDoor
namespace Rows

/-- THE TIED CARD OF 'fingerpostlaw08.SpringNews'. -/
def springNewsCard : Claim7 := { stood := { row := springNewsRow, standIns := [], harness := (true, "e34458792315157428c2cf6a17749331b5de74bda453eae70435795192143adf"), looks := false }, kinds := [], alts := [], laidByText := true, laidKinds := [.data], laidTests := true, laidLooks := .later }
def SpringNewsCardSaid : Prop := Claim7.holds Tryd.pinned (.plain (OpenSpec.ofChange springNewsSpec)) springNewsCard

/-- THE TIED CARD OF 'fingerpostlaw08.SpringOnce'. -/
def springOnceCard : Claim7 := { stood := { row := springOnceRow, standIns := [], harness := (true, "e34458792315157428c2cf6a17749331b5de74bda453eae70435795192143adf"), looks := false }, kinds := [], alts := [], laidByText := true, laidKinds := [.data], laidTests := true, laidLooks := .later }
def SpringOnceCardSaid : Prop := Claim7.holds Tryd.pinned (.plain (OpenSpec.ofChange springOnceSpec)) springOnceCard

/-- THE TIED CARD OF 'fingerpostlaw08.SpringNil'. -/
def springNilCard : Claim7 := { stood := { row := springNilRow, standIns := [], harness := (true, "e34458792315157428c2cf6a17749331b5de74bda453eae70435795192143adf"), looks := false }, kinds := [], alts := [], laidByText := true, laidKinds := [.data], laidTests := true, laidLooks := .later }
def SpringNilCardSaid : Prop := Claim7.holds Tryd.pinned (.plain (OpenSpec.ofChange springNilSpec)) springNilCard

/-- THE TIED CARD OF 'fingerpostlaw09.ProofCosts'. -/
def proofCostsCard : Claim7 := { stood := { row := proofCostsRow, standIns := [], harness := (true, "e34458792315157428c2cf6a17749331b5de74bda453eae70435795192143adf"), looks := false }, kinds := [], alts := [], laidByText := true, laidKinds := [.data], laidTests := true, laidLooks := .later }
def ProofCostsCardSaid : Prop := Claim7.holds Tryd.pinned (.plain (OpenSpec.ofChange proofCostsSpec)) proofCostsCard

/-- THE SECOND FORM's CARD OF 'fingerpostlaw08.SpringNews'. -/
def springNewsUptoCard : Claim7 := { stood := { row := springNewsUptoRow, standIns := [], harness := (true, "e34458792315157428c2cf6a17749331b5de74bda453eae70435795192143adf"), looks := false }, kinds := [], alts := [], laidByText := true, laidKinds := [.data], laidTests := true, laidLooks := .later }
def SpringNewsUptoCardSaid : Prop := Claim7.holds Tryd.pinned (.plain (OpenSpec.upto springNewsSpec)) springNewsUptoCard

/-- THE SECOND FORM's CARD OF 'fingerpostlaw08.SpringOnce'. -/
def springOnceUptoCard : Claim7 := { stood := { row := springOnceUptoRow, standIns := [], harness := (true, "e34458792315157428c2cf6a17749331b5de74bda453eae70435795192143adf"), looks := false }, kinds := [], alts := [], laidByText := true, laidKinds := [.data], laidTests := true, laidLooks := .later }
def SpringOnceUptoCardSaid : Prop := Claim7.holds Tryd.pinned (.plain (OpenSpec.upto springOnceSpec)) springOnceUptoCard

/-- THE SECOND FORM's CARD OF 'fingerpostlaw08.SpringNil'. -/
def springNilUptoCard : Claim7 := { stood := { row := springNilUptoRow, standIns := [], harness := (true, "e34458792315157428c2cf6a17749331b5de74bda453eae70435795192143adf"), looks := false }, kinds := [], alts := [], laidByText := true, laidKinds := [.data], laidTests := true, laidLooks := .later }
def SpringNilUptoCardSaid : Prop := Claim7.holds Tryd.pinned (.plain (OpenSpec.upto springNilSpec)) springNilUptoCard

/-- THE SECOND FORM's CARD OF 'fingerpostlaw09.ProofCosts'. -/
def proofCostsUptoCard : Claim7 := { stood := { row := proofCostsUptoRow, standIns := [], harness := (true, "e34458792315157428c2cf6a17749331b5de74bda453eae70435795192143adf"), looks := false }, kinds := [], alts := [], laidByText := true, laidKinds := [.data], laidTests := true, laidLooks := .later }
def ProofCostsUptoCardSaid : Prop := Claim7.holds Tryd.pinned (.plain (OpenSpec.upto proofCostsSpec)) proofCostsUptoCard
end Rows
end Go.Proofs.YtibbinenhmiclaaDoor
