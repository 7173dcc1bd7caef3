/-
  NARROWER THAN 'FOR EVERY INPUT', by the rows' own cells (each row's printed sentence says how): ShaHexes: laid · MacShorts: laid · MacGives: laid · MacHolds: laid · LadderUps: laid · LadderClimbs: laid · LadderShows: laid · LadderMeets: laid · LadderSound: laid · LadderCosts: laid · GroveNews: laid · GroveFolds: laid · GroveLeads: laid · GroveSound: laid · GroveNil: laid.
  DERIVED. THE GIVEN ROWS OF THIS SEAT. 15 by the template 'for every input the law returns true; each argument reads behind the call as it read before'; 0 by the template 'total and deterministic' (their statements: YtahmioiefmheeaaDoorTotals.lean).
  GIVEN WITH THE SEED: the statements are not yours to turn. If you find one false, say at which input.
  Laid BY PROGRAM, IN A SANDBOX (cutbox-rows.mjs): the forced cells as the released guide's own fill.sh prints them over the translation a86a7e4aa43734ef… (all of the seat's roots in one cut). By AI agents, Wed Nov 11 2026. No macro, syntax, notation, axiom, sorry.
-/
import Derived.Test.YtahmioiefmheeaaDoorChecked
import GoSem.Claim
import GoSem.ClaimJoined
import GoSem.ClaimMapViews
import Derived.JoinedTies
import Derived.KernelRfl
namespace Go.Proofs.YtahmioiefmheeaaDoor
/- THE CELL 'sum', in the pinned program and in every row, IS THE sha256 OF THE DUMP (.gsa) THAT YtahmioiefmheeaaDoorProg.lean LOADS. Nothing in Lean hashes anything: it is a label: what it is worth is what the hold of that sum in a sandbox is worth. -/
noncomputable def Tryd.pinned : Pinned := { name := "ytahmioiefmheeaadoor", sum := "a86a7e4aa43734ef30c2ff062a91a700103103a4a2b3d7296bb5331df70e1266", checked := Tryd.checked }
namespace Rows
def none {H : Type} : Left H := { results := [], args := [] }

/- WHAT THE LISTED PACKAGE-LEVEL VARIABLES READ AS WHEN THE CALL BEGINS. Each datum BY PROGRAM (the guide's laid-datum.mjs) off the statement by which the dump's own 'gosem.cut.vars' lays the variable. In a bare row this is a premise. The card (YtahmioiefmheeaaDoorCards.lean) ties it to the program's text. -/
def laid_fingerpost_sha_constants {H : Type} : DataW H := .agg [.lit (.int .u32 1116352408), .lit (.int .u32 1899447441), .lit (.int .u32 3049323471), .lit (.int .u32 3921009573), .lit (.int .u32 961987163), .lit (.int .u32 1508970993), .lit (.int .u32 2453635748), .lit (.int .u32 2870763221), .lit (.int .u32 3624381080), .lit (.int .u32 310598401), .lit (.int .u32 607225278), .lit (.int .u32 1426881987), .lit (.int .u32 1925078388), .lit (.int .u32 2162078206), .lit (.int .u32 2614888103), .lit (.int .u32 3248222580), .lit (.int .u32 3835390401), .lit (.int .u32 4022224774), .lit (.int .u32 264347078), .lit (.int .u32 604807628), .lit (.int .u32 770255983), .lit (.int .u32 1249150122), .lit (.int .u32 1555081692), .lit (.int .u32 1996064986), .lit (.int .u32 2554220882), .lit (.int .u32 2821834349), .lit (.int .u32 2952996808), .lit (.int .u32 3210313671), .lit (.int .u32 3336571891), .lit (.int .u32 3584528711), .lit (.int .u32 113926993), .lit (.int .u32 338241895), .lit (.int .u32 666307205), .lit (.int .u32 773529912), .lit (.int .u32 1294757372), .lit (.int .u32 1396182291), .lit (.int .u32 1695183700), .lit (.int .u32 1986661051), .lit (.int .u32 2177026350), .lit (.int .u32 2456956037), .lit (.int .u32 2730485921), .lit (.int .u32 2820302411), .lit (.int .u32 3259730800), .lit (.int .u32 3345764771), .lit (.int .u32 3516065817), .lit (.int .u32 3600352804), .lit (.int .u32 4094571909), .lit (.int .u32 275423344), .lit (.int .u32 430227734), .lit (.int .u32 506948616), .lit (.int .u32 659060556), .lit (.int .u32 883997877), .lit (.int .u32 958139571), .lit (.int .u32 1322822218), .lit (.int .u32 1537002063), .lit (.int .u32 1747873779), .lit (.int .u32 1955562222), .lit (.int .u32 2024104815), .lit (.int .u32 2227730452), .lit (.int .u32 2361852424), .lit (.int .u32 2428436474), .lit (.int .u32 2756734187), .lit (.int .u32 3204031479), .lit (.int .u32 3329325298)]

/-- 'fingerpostlaw04.ShaHexes': WHATEVER THE INPUT: true; the input reads as it did. -/
def shaHexesSpec : ChangeSpec := { name := "shaHexes", fn := fun _ => fun
  | [d1, d2] => { results := [.lit (.bool true)], args := [d1, d2] }
  | _ => none }
def shaHexesRow : OpenClaim := { program := "ytahmioiefmheeaadoor", sum := "a86a7e4aa43734ef30c2ff062a91a700103103a4a2b3d7296bb5331df70e1266", func := "fingerpost/fingerpostlaw04.ShaHexes", spec := "shaHexes", inPlace := ["internal/bytealg.IndexByteString", "internal/abi.NoEscape", "internal/bytealg.MakeNoZero"], named := ["fingerpost/sha.constants"], apart := false, laid := [("fingerpost/sha.constants", laid_fingerpost_sha_constants)] }
def ShaHexesSaid : Prop := shaHexesRow.holds Tryd.pinned (OpenSpec.ofChange shaHexesSpec)

/-- ITS FALSE NEIGHBOUR: 'it returns false'. Refute it at one input. -/
def shaHexesWrong : ChangeSpec := { name := "shaHexes", fn := fun _ => fun
  | [d1, d2] => { results := [.lit (.bool false)], args := [d1, d2] }
  | _ => none }
def ShaHexesWrongFalsely : Prop := shaHexesRow.holds Tryd.pinned (OpenSpec.ofChange shaHexesWrong)

/-- 'fingerpostlaw05.MacShorts': WHATEVER THE INPUT: true; the input reads as it did. -/
def macShortsSpec : ChangeSpec := { name := "macShorts", fn := fun _ => fun
  | [d1, d2] => { results := [.lit (.bool true)], args := [d1, d2] }
  | _ => none }
def macShortsRow : OpenClaim := { program := "ytahmioiefmheeaadoor", sum := "a86a7e4aa43734ef30c2ff062a91a700103103a4a2b3d7296bb5331df70e1266", func := "fingerpost/fingerpostlaw05.MacShorts", spec := "macShorts", inPlace := ["internal/abi.NoEscape", "internal/bytealg.MakeNoZero"], named := ["fingerpost/sha.constants"], apart := false, laid := [("fingerpost/sha.constants", laid_fingerpost_sha_constants)] }
def MacShortsSaid : Prop := macShortsRow.holds Tryd.pinned (OpenSpec.ofChange macShortsSpec)

/-- ITS FALSE NEIGHBOUR: 'it returns false'. Refute it at one input. -/
def macShortsWrong : ChangeSpec := { name := "macShorts", fn := fun _ => fun
  | [d1, d2] => { results := [.lit (.bool false)], args := [d1, d2] }
  | _ => none }
def MacShortsWrongFalsely : Prop := macShortsRow.holds Tryd.pinned (OpenSpec.ofChange macShortsWrong)

/-- 'fingerpostlaw05.MacGives': WHATEVER THE INPUT: true; the input reads as it did. -/
def macGivesSpec : ChangeSpec := { name := "macGives", fn := fun _ => fun
  | [d1, d2, d3] => { results := [.lit (.bool true)], args := [d1, d2, d3] }
  | _ => none }
def macGivesRow : OpenClaim := { program := "ytahmioiefmheeaadoor", sum := "a86a7e4aa43734ef30c2ff062a91a700103103a4a2b3d7296bb5331df70e1266", func := "fingerpost/fingerpostlaw05.MacGives", spec := "macGives", inPlace := ["internal/abi.NoEscape", "internal/bytealg.MakeNoZero"], named := ["fingerpost/sha.constants"], apart := false, laid := [("fingerpost/sha.constants", laid_fingerpost_sha_constants)] }
def MacGivesSaid : Prop := macGivesRow.holds Tryd.pinned (OpenSpec.ofChange macGivesSpec)

/-- ITS FALSE NEIGHBOUR: 'it returns false'. Refute it at one input. -/
def macGivesWrong : ChangeSpec := { name := "macGives", fn := fun _ => fun
  | [d1, d2, d3] => { results := [.lit (.bool false)], args := [d1, d2, d3] }
  | _ => none }
def MacGivesWrongFalsely : Prop := macGivesRow.holds Tryd.pinned (OpenSpec.ofChange macGivesWrong)

/-- 'fingerpostlaw05.MacHolds': WHATEVER THE INPUT: true; the input reads as it did. -/
def macHoldsSpec : ChangeSpec := { name := "macHolds", fn := fun _ => fun
  | [d1, d2, d3, d4, d5] => { results := [.lit (.bool true)], args := [d1, d2, d3, d4, d5] }
  | _ => none }
def macHoldsRow : OpenClaim := { program := "ytahmioiefmheeaadoor", sum := "a86a7e4aa43734ef30c2ff062a91a700103103a4a2b3d7296bb5331df70e1266", func := "fingerpost/fingerpostlaw05.MacHolds", spec := "macHolds", inPlace := ["internal/abi.NoEscape", "internal/bytealg.MakeNoZero"], named := ["fingerpost/sha.constants"], apart := false, laid := [("fingerpost/sha.constants", laid_fingerpost_sha_constants)] }
def MacHoldsSaid : Prop := macHoldsRow.holds Tryd.pinned (OpenSpec.ofChange macHoldsSpec)

/-- ITS FALSE NEIGHBOUR: 'it returns false'. Refute it at one input. -/
def macHoldsWrong : ChangeSpec := { name := "macHolds", fn := fun _ => fun
  | [d1, d2, d3, d4, d5] => { results := [.lit (.bool false)], args := [d1, d2, d3, d4, d5] }
  | _ => none }
def MacHoldsWrongFalsely : Prop := macHoldsRow.holds Tryd.pinned (OpenSpec.ofChange macHoldsWrong)

/-- 'fingerpostlaw06.LadderUps': WHATEVER THE INPUT: true; the input reads as it did. -/
def ladderUpsSpec : ChangeSpec := { name := "ladderUps", fn := fun _ => fun
  | [d1, d2, d3, d4, d5, d6] => { results := [.lit (.bool true)], args := [d1, d2, d3, d4, d5, d6] }
  | _ => none }
def ladderUpsRow : OpenClaim := { program := "ytahmioiefmheeaadoor", sum := "a86a7e4aa43734ef30c2ff062a91a700103103a4a2b3d7296bb5331df70e1266", func := "fingerpost/fingerpostlaw06.LadderUps", spec := "ladderUps", recurses := true, named := ["fingerpost/sha.constants"], apart := false, laid := [("fingerpost/sha.constants", laid_fingerpost_sha_constants)] }
def LadderUpsSaid : Prop := ladderUpsRow.holds Tryd.pinned (OpenSpec.ofChange ladderUpsSpec)

/-- ITS FALSE NEIGHBOUR: 'it returns false'. Refute it at one input. -/
def ladderUpsWrong : ChangeSpec := { name := "ladderUps", fn := fun _ => fun
  | [d1, d2, d3, d4, d5, d6] => { results := [.lit (.bool false)], args := [d1, d2, d3, d4, d5, d6] }
  | _ => none }
def LadderUpsWrongFalsely : Prop := ladderUpsRow.holds Tryd.pinned (OpenSpec.ofChange ladderUpsWrong)

/-- 'fingerpostlaw06.LadderClimbs': WHATEVER THE INPUT: true; the input reads as it did. -/
def ladderClimbsSpec : ChangeSpec := { name := "ladderClimbs", fn := fun _ => fun
  | [d1, d2, d3, d4, d5, d6] => { results := [.lit (.bool true)], args := [d1, d2, d3, d4, d5, d6] }
  | _ => none }
def ladderClimbsRow : OpenClaim := { program := "ytahmioiefmheeaadoor", sum := "a86a7e4aa43734ef30c2ff062a91a700103103a4a2b3d7296bb5331df70e1266", func := "fingerpost/fingerpostlaw06.LadderClimbs", spec := "ladderClimbs", recurses := true, named := ["fingerpost/sha.constants"], apart := false, laid := [("fingerpost/sha.constants", laid_fingerpost_sha_constants)] }
def LadderClimbsSaid : Prop := ladderClimbsRow.holds Tryd.pinned (OpenSpec.ofChange ladderClimbsSpec)

/-- ITS FALSE NEIGHBOUR: 'it returns false'. Refute it at one input. -/
def ladderClimbsWrong : ChangeSpec := { name := "ladderClimbs", fn := fun _ => fun
  | [d1, d2, d3, d4, d5, d6] => { results := [.lit (.bool false)], args := [d1, d2, d3, d4, d5, d6] }
  | _ => none }
def LadderClimbsWrongFalsely : Prop := ladderClimbsRow.holds Tryd.pinned (OpenSpec.ofChange ladderClimbsWrong)

/-- 'fingerpostlaw06.LadderShows': WHATEVER THE INPUT: true; the input reads as it did. -/
def ladderShowsSpec : ChangeSpec := { name := "ladderShows", fn := fun _ => fun
  | [d1, d2, d3, d4, d5, d6, d7] => { results := [.lit (.bool true)], args := [d1, d2, d3, d4, d5, d6, d7] }
  | _ => none }
def ladderShowsRow : OpenClaim := { program := "ytahmioiefmheeaadoor", sum := "a86a7e4aa43734ef30c2ff062a91a700103103a4a2b3d7296bb5331df70e1266", func := "fingerpost/fingerpostlaw06.LadderShows", spec := "ladderShows", recurses := true, named := ["fingerpost/sha.constants"], apart := false, laid := [("fingerpost/sha.constants", laid_fingerpost_sha_constants)] }
def LadderShowsSaid : Prop := ladderShowsRow.holds Tryd.pinned (OpenSpec.ofChange ladderShowsSpec)

/-- ITS FALSE NEIGHBOUR: 'it returns false'. Refute it at one input. -/
def ladderShowsWrong : ChangeSpec := { name := "ladderShows", fn := fun _ => fun
  | [d1, d2, d3, d4, d5, d6, d7] => { results := [.lit (.bool false)], args := [d1, d2, d3, d4, d5, d6, d7] }
  | _ => none }
def LadderShowsWrongFalsely : Prop := ladderShowsRow.holds Tryd.pinned (OpenSpec.ofChange ladderShowsWrong)

/-- 'fingerpostlaw06.LadderMeets': WHATEVER THE INPUT: true; the input reads as it did. -/
def ladderMeetsSpec : ChangeSpec := { name := "ladderMeets", fn := fun _ => fun
  | [d1, d2, d3, d4, d5] => { results := [.lit (.bool true)], args := [d1, d2, d3, d4, d5] }
  | _ => none }
def ladderMeetsRow : OpenClaim := { program := "ytahmioiefmheeaadoor", sum := "a86a7e4aa43734ef30c2ff062a91a700103103a4a2b3d7296bb5331df70e1266", func := "fingerpost/fingerpostlaw06.LadderMeets", spec := "ladderMeets", named := ["fingerpost/sha.constants"], apart := false, laid := [("fingerpost/sha.constants", laid_fingerpost_sha_constants)] }
def LadderMeetsSaid : Prop := ladderMeetsRow.holds Tryd.pinned (OpenSpec.ofChange ladderMeetsSpec)

/-- ITS FALSE NEIGHBOUR: 'it returns false'. Refute it at one input. -/
def ladderMeetsWrong : ChangeSpec := { name := "ladderMeets", fn := fun _ => fun
  | [d1, d2, d3, d4, d5] => { results := [.lit (.bool false)], args := [d1, d2, d3, d4, d5] }
  | _ => none }
def LadderMeetsWrongFalsely : Prop := ladderMeetsRow.holds Tryd.pinned (OpenSpec.ofChange ladderMeetsWrong)

/-- 'fingerpostlaw06.LadderSound': WHATEVER THE INPUT: true; the input reads as it did. -/
def ladderSoundSpec : ChangeSpec := { name := "ladderSound", fn := fun _ => fun
  | [d1, d2, d3, d4, d5, d6, d7, d8] => { results := [.lit (.bool true)], args := [d1, d2, d3, d4, d5, d6, d7, d8] }
  | _ => none }
def ladderSoundRow : OpenClaim := { program := "ytahmioiefmheeaadoor", sum := "a86a7e4aa43734ef30c2ff062a91a700103103a4a2b3d7296bb5331df70e1266", func := "fingerpost/fingerpostlaw06.LadderSound", spec := "ladderSound", recurses := true, named := ["fingerpost/sha.constants"], apart := false, laid := [("fingerpost/sha.constants", laid_fingerpost_sha_constants)] }
def LadderSoundSaid : Prop := ladderSoundRow.holds Tryd.pinned (OpenSpec.ofChange ladderSoundSpec)

/-- ITS FALSE NEIGHBOUR: 'it returns false'. Refute it at one input. -/
def ladderSoundWrong : ChangeSpec := { name := "ladderSound", fn := fun _ => fun
  | [d1, d2, d3, d4, d5, d6, d7, d8] => { results := [.lit (.bool false)], args := [d1, d2, d3, d4, d5, d6, d7, d8] }
  | _ => none }
def LadderSoundWrongFalsely : Prop := ladderSoundRow.holds Tryd.pinned (OpenSpec.ofChange ladderSoundWrong)

/-- 'fingerpostlaw06.LadderCosts': WHATEVER THE INPUT: true; the input reads as it did. -/
def ladderCostsSpec : ChangeSpec := { name := "ladderCosts", fn := fun _ => fun
  | [d1, d2, d3] => { results := [.lit (.bool true)], args := [d1, d2, d3] }
  | _ => none }
def ladderCostsRow : OpenClaim := { program := "ytahmioiefmheeaadoor", sum := "a86a7e4aa43734ef30c2ff062a91a700103103a4a2b3d7296bb5331df70e1266", func := "fingerpost/fingerpostlaw06.LadderCosts", spec := "ladderCosts", recurses := true, named := ["fingerpost/sha.constants"], apart := false, laid := [("fingerpost/sha.constants", laid_fingerpost_sha_constants)] }
def LadderCostsSaid : Prop := ladderCostsRow.holds Tryd.pinned (OpenSpec.ofChange ladderCostsSpec)

/-- ITS FALSE NEIGHBOUR: 'it returns false'. Refute it at one input. -/
def ladderCostsWrong : ChangeSpec := { name := "ladderCosts", fn := fun _ => fun
  | [d1, d2, d3] => { results := [.lit (.bool false)], args := [d1, d2, d3] }
  | _ => none }
def LadderCostsWrongFalsely : Prop := ladderCostsRow.holds Tryd.pinned (OpenSpec.ofChange ladderCostsWrong)

/-- 'fingerpostlaw07.GroveNews': WHATEVER THE INPUT: true; the input reads as it did. -/
def groveNewsSpec : ChangeSpec := { name := "groveNews", fn := fun _ => fun
  | [d1, d2, d3, d4] => { results := [.lit (.bool true)], args := [d1, d2, d3, d4] }
  | _ => none }
def groveNewsRow : OpenClaim := { program := "ytahmioiefmheeaadoor", sum := "a86a7e4aa43734ef30c2ff062a91a700103103a4a2b3d7296bb5331df70e1266", func := "fingerpost/fingerpostlaw07.GroveNews", spec := "groveNews", recurses := true, named := ["fingerpost/sha.constants"], apart := false, laid := [("fingerpost/sha.constants", laid_fingerpost_sha_constants)] }
def GroveNewsSaid : Prop := groveNewsRow.holds Tryd.pinned (OpenSpec.ofChange groveNewsSpec)

/-- ITS FALSE NEIGHBOUR: 'it returns false'. Refute it at one input. -/
def groveNewsWrong : ChangeSpec := { name := "groveNews", fn := fun _ => fun
  | [d1, d2, d3, d4] => { results := [.lit (.bool false)], args := [d1, d2, d3, d4] }
  | _ => none }
def GroveNewsWrongFalsely : Prop := groveNewsRow.holds Tryd.pinned (OpenSpec.ofChange groveNewsWrong)

/-- 'fingerpostlaw07.GroveFolds': WHATEVER THE INPUT: true; the input reads as it did. -/
def groveFoldsSpec : ChangeSpec := { name := "groveFolds", fn := fun _ => fun
  | [d1, d2, d3, d4, d5, d6, d7, d8] => { results := [.lit (.bool true)], args := [d1, d2, d3, d4, d5, d6, d7, d8] }
  | _ => none }
def groveFoldsRow : OpenClaim := { program := "ytahmioiefmheeaadoor", sum := "a86a7e4aa43734ef30c2ff062a91a700103103a4a2b3d7296bb5331df70e1266", func := "fingerpost/fingerpostlaw07.GroveFolds", spec := "groveFolds", named := ["fingerpost/sha.constants"], apart := false, laid := [("fingerpost/sha.constants", laid_fingerpost_sha_constants)] }
def GroveFoldsSaid : Prop := groveFoldsRow.holds Tryd.pinned (OpenSpec.ofChange groveFoldsSpec)

/-- ITS FALSE NEIGHBOUR: 'it returns false'. Refute it at one input. -/
def groveFoldsWrong : ChangeSpec := { name := "groveFolds", fn := fun _ => fun
  | [d1, d2, d3, d4, d5, d6, d7, d8] => { results := [.lit (.bool false)], args := [d1, d2, d3, d4, d5, d6, d7, d8] }
  | _ => none }
def GroveFoldsWrongFalsely : Prop := groveFoldsRow.holds Tryd.pinned (OpenSpec.ofChange groveFoldsWrong)

/-- 'fingerpostlaw07.GroveLeads': WHATEVER THE INPUT: true; the input reads as it did. -/
def groveLeadsSpec : ChangeSpec := { name := "groveLeads", fn := fun _ => fun
  | [d1, d2, d3] => { results := [.lit (.bool true)], args := [d1, d2, d3] }
  | _ => none }
def groveLeadsRow : OpenClaim := { program := "ytahmioiefmheeaadoor", sum := "a86a7e4aa43734ef30c2ff062a91a700103103a4a2b3d7296bb5331df70e1266", func := "fingerpost/fingerpostlaw07.GroveLeads", spec := "groveLeads", named := ["fingerpost/sha.constants"], apart := false, laid := [("fingerpost/sha.constants", laid_fingerpost_sha_constants)] }
def GroveLeadsSaid : Prop := groveLeadsRow.holds Tryd.pinned (OpenSpec.ofChange groveLeadsSpec)

/-- ITS FALSE NEIGHBOUR: 'it returns false'. Refute it at one input. -/
def groveLeadsWrong : ChangeSpec := { name := "groveLeads", fn := fun _ => fun
  | [d1, d2, d3] => { results := [.lit (.bool false)], args := [d1, d2, d3] }
  | _ => none }
def GroveLeadsWrongFalsely : Prop := groveLeadsRow.holds Tryd.pinned (OpenSpec.ofChange groveLeadsWrong)

/-- 'fingerpostlaw07.GroveSound': WHATEVER THE INPUT: true; the input reads as it did. -/
def groveSoundSpec : ChangeSpec := { name := "groveSound", fn := fun _ => fun
  | [d1, d2, d3, d4, d5, d6, d7] => { results := [.lit (.bool true)], args := [d1, d2, d3, d4, d5, d6, d7] }
  | _ => none }
def groveSoundRow : OpenClaim := { program := "ytahmioiefmheeaadoor", sum := "a86a7e4aa43734ef30c2ff062a91a700103103a4a2b3d7296bb5331df70e1266", func := "fingerpost/fingerpostlaw07.GroveSound", spec := "groveSound", recurses := true, named := ["fingerpost/sha.constants"], apart := false, laid := [("fingerpost/sha.constants", laid_fingerpost_sha_constants)] }
def GroveSoundSaid : Prop := groveSoundRow.holds Tryd.pinned (OpenSpec.ofChange groveSoundSpec)

/-- ITS FALSE NEIGHBOUR: 'it returns false'. Refute it at one input. -/
def groveSoundWrong : ChangeSpec := { name := "groveSound", fn := fun _ => fun
  | [d1, d2, d3, d4, d5, d6, d7] => { results := [.lit (.bool false)], args := [d1, d2, d3, d4, d5, d6, d7] }
  | _ => none }
def GroveSoundWrongFalsely : Prop := groveSoundRow.holds Tryd.pinned (OpenSpec.ofChange groveSoundWrong)

/-- 'fingerpostlaw07.GroveNil': WHATEVER THE INPUT: true; the input reads as it did. -/
def groveNilSpec : ChangeSpec := { name := "groveNil", fn := fun _ => fun
  | [d] => { results := [.lit (.bool true)], args := [d] }
  | _ => none }
def groveNilRow : OpenClaim := { program := "ytahmioiefmheeaadoor", sum := "a86a7e4aa43734ef30c2ff062a91a700103103a4a2b3d7296bb5331df70e1266", func := "fingerpost/fingerpostlaw07.GroveNil", spec := "groveNil", named := ["fingerpost/sha.constants"], apart := false, laid := [("fingerpost/sha.constants", laid_fingerpost_sha_constants)] }
def GroveNilSaid : Prop := groveNilRow.holds Tryd.pinned (OpenSpec.ofChange groveNilSpec)

/-- ITS FALSE NEIGHBOUR: 'it returns false'. Refute it at one input. -/
def groveNilWrong : ChangeSpec := { name := "groveNil", fn := fun _ => fun
  | [d] => { results := [.lit (.bool false)], args := [d] }
  | _ => none }
def GroveNilWrongFalsely : Prop := groveNilRow.holds Tryd.pinned (OpenSpec.ofChange groveNilWrong)

/- THE SECOND FORM. 'bulk': how many values and letters a reading holds, each counted each time it is reached (what is shared counts as often as it is met; a slice's spare places count too). A statement '..UptoSaid' is the law's where the arguments, and the package variables that the reading takes, are together of bulk at most 1048576: NARROWER than '..Said'. Prove '..Said' where nothing that the law and all that it calls make is longer than what came in: it says more and counts as full. Else prove '..UptoSaid'. A law counts once. -/
mutual
def uptoBulk {H : Type} : DataW H → Nat
  | .lit (.string bytes) => bytes.length + 1
  | .lit _ => 1
  | .nil => 1
  | .ptr d => uptoBulk d + 1
  | .slice elems spare => uptoBulkAll elems + uptoBulkAll spare + 1
  | .agg parts => uptoBulkAll parts + 1
  | .iface _ d => uptoBulk d + 1
  | .map entries => uptoBulkEntries entries + 1
  | .held _ => 1
def uptoBulkAll {H : Type} : List (DataW H) → Nat
  | [] => 0
  | d :: r => uptoBulk d + uptoBulkAll r
def uptoBulkEntries {H : Type} : List (Lit × DataW H) → Nat
  | [] => 0
  | x :: r => uptoBulkEntry x + uptoBulkEntries r
def uptoBulkEntry {H : Type} : Lit × DataW H → Nat
  | (.string bytes, d) => bytes.length + uptoBulk d + 1
  | (_, d) => uptoBulk d + 1
 end
def uptoSmall : (H : Type) → List (DataW H) → Bool := fun _ ds => decide (uptoBulkAll ds ≤ 1048576)
def OpenSpec.upto (s : _root_.Go.ChangeSpec) : _root_.Go.OpenSpec := { _root_.Go.OpenSpec.ofChange s with cond := some uptoSmall }

/-- 'fingerpostlaw04.ShaHexes', WHERE WHAT IT READS IS OF BULK AT MOST 1048576: true; the input reads as it did. -/
def shaHexesUptoRow : OpenClaim := { program := "ytahmioiefmheeaadoor", sum := "a86a7e4aa43734ef30c2ff062a91a700103103a4a2b3d7296bb5331df70e1266", func := "fingerpost/fingerpostlaw04.ShaHexes", spec := "shaHexes", inPlace := ["internal/bytealg.IndexByteString", "internal/abi.NoEscape", "internal/bytealg.MakeNoZero"], named := ["fingerpost/sha.constants"], apart := false, laid := [("fingerpost/sha.constants", laid_fingerpost_sha_constants)], narrowed := true }
def ShaHexesUptoSaid : Prop := shaHexesUptoRow.holds Tryd.pinned (OpenSpec.upto shaHexesSpec)

/-- 'fingerpostlaw05.MacShorts', WHERE WHAT IT READS IS OF BULK AT MOST 1048576: true; the input reads as it did. -/
def macShortsUptoRow : OpenClaim := { program := "ytahmioiefmheeaadoor", sum := "a86a7e4aa43734ef30c2ff062a91a700103103a4a2b3d7296bb5331df70e1266", func := "fingerpost/fingerpostlaw05.MacShorts", spec := "macShorts", inPlace := ["internal/abi.NoEscape", "internal/bytealg.MakeNoZero"], named := ["fingerpost/sha.constants"], apart := false, laid := [("fingerpost/sha.constants", laid_fingerpost_sha_constants)], narrowed := true }
def MacShortsUptoSaid : Prop := macShortsUptoRow.holds Tryd.pinned (OpenSpec.upto macShortsSpec)

/-- 'fingerpostlaw05.MacGives', WHERE WHAT IT READS IS OF BULK AT MOST 1048576: true; the input reads as it did. -/
def macGivesUptoRow : OpenClaim := { program := "ytahmioiefmheeaadoor", sum := "a86a7e4aa43734ef30c2ff062a91a700103103a4a2b3d7296bb5331df70e1266", func := "fingerpost/fingerpostlaw05.MacGives", spec := "macGives", inPlace := ["internal/abi.NoEscape", "internal/bytealg.MakeNoZero"], named := ["fingerpost/sha.constants"], apart := false, laid := [("fingerpost/sha.constants", laid_fingerpost_sha_constants)], narrowed := true }
def MacGivesUptoSaid : Prop := macGivesUptoRow.holds Tryd.pinned (OpenSpec.upto macGivesSpec)

/-- 'fingerpostlaw05.MacHolds', WHERE WHAT IT READS IS OF BULK AT MOST 1048576: true; the input reads as it did. -/
def macHoldsUptoRow : OpenClaim := { program := "ytahmioiefmheeaadoor", sum := "a86a7e4aa43734ef30c2ff062a91a700103103a4a2b3d7296bb5331df70e1266", func := "fingerpost/fingerpostlaw05.MacHolds", spec := "macHolds", inPlace := ["internal/abi.NoEscape", "internal/bytealg.MakeNoZero"], named := ["fingerpost/sha.constants"], apart := false, laid := [("fingerpost/sha.constants", laid_fingerpost_sha_constants)], narrowed := true }
def MacHoldsUptoSaid : Prop := macHoldsUptoRow.holds Tryd.pinned (OpenSpec.upto macHoldsSpec)

/-- 'fingerpostlaw06.LadderUps', WHERE WHAT IT READS IS OF BULK AT MOST 1048576: true; the input reads as it did. -/
def ladderUpsUptoRow : OpenClaim := { program := "ytahmioiefmheeaadoor", sum := "a86a7e4aa43734ef30c2ff062a91a700103103a4a2b3d7296bb5331df70e1266", func := "fingerpost/fingerpostlaw06.LadderUps", spec := "ladderUps", recurses := true, named := ["fingerpost/sha.constants"], apart := false, laid := [("fingerpost/sha.constants", laid_fingerpost_sha_constants)], narrowed := true }
def LadderUpsUptoSaid : Prop := ladderUpsUptoRow.holds Tryd.pinned (OpenSpec.upto ladderUpsSpec)

/-- 'fingerpostlaw06.LadderClimbs', WHERE WHAT IT READS IS OF BULK AT MOST 1048576: true; the input reads as it did. -/
def ladderClimbsUptoRow : OpenClaim := { program := "ytahmioiefmheeaadoor", sum := "a86a7e4aa43734ef30c2ff062a91a700103103a4a2b3d7296bb5331df70e1266", func := "fingerpost/fingerpostlaw06.LadderClimbs", spec := "ladderClimbs", recurses := true, named := ["fingerpost/sha.constants"], apart := false, laid := [("fingerpost/sha.constants", laid_fingerpost_sha_constants)], narrowed := true }
def LadderClimbsUptoSaid : Prop := ladderClimbsUptoRow.holds Tryd.pinned (OpenSpec.upto ladderClimbsSpec)

/-- 'fingerpostlaw06.LadderShows', WHERE WHAT IT READS IS OF BULK AT MOST 1048576: true; the input reads as it did. -/
def ladderShowsUptoRow : OpenClaim := { program := "ytahmioiefmheeaadoor", sum := "a86a7e4aa43734ef30c2ff062a91a700103103a4a2b3d7296bb5331df70e1266", func := "fingerpost/fingerpostlaw06.LadderShows", spec := "ladderShows", recurses := true, named := ["fingerpost/sha.constants"], apart := false, laid := [("fingerpost/sha.constants", laid_fingerpost_sha_constants)], narrowed := true }
def LadderShowsUptoSaid : Prop := ladderShowsUptoRow.holds Tryd.pinned (OpenSpec.upto ladderShowsSpec)

/-- 'fingerpostlaw06.LadderMeets', WHERE WHAT IT READS IS OF BULK AT MOST 1048576: true; the input reads as it did. -/
def ladderMeetsUptoRow : OpenClaim := { program := "ytahmioiefmheeaadoor", sum := "a86a7e4aa43734ef30c2ff062a91a700103103a4a2b3d7296bb5331df70e1266", func := "fingerpost/fingerpostlaw06.LadderMeets", spec := "ladderMeets", named := ["fingerpost/sha.constants"], apart := false, laid := [("fingerpost/sha.constants", laid_fingerpost_sha_constants)], narrowed := true }
def LadderMeetsUptoSaid : Prop := ladderMeetsUptoRow.holds Tryd.pinned (OpenSpec.upto ladderMeetsSpec)

/-- 'fingerpostlaw06.LadderSound', WHERE WHAT IT READS IS OF BULK AT MOST 1048576: true; the input reads as it did. -/
def ladderSoundUptoRow : OpenClaim := { program := "ytahmioiefmheeaadoor", sum := "a86a7e4aa43734ef30c2ff062a91a700103103a4a2b3d7296bb5331df70e1266", func := "fingerpost/fingerpostlaw06.LadderSound", spec := "ladderSound", recurses := true, named := ["fingerpost/sha.constants"], apart := false, laid := [("fingerpost/sha.constants", laid_fingerpost_sha_constants)], narrowed := true }
def LadderSoundUptoSaid : Prop := ladderSoundUptoRow.holds Tryd.pinned (OpenSpec.upto ladderSoundSpec)

/-- 'fingerpostlaw06.LadderCosts', WHERE WHAT IT READS IS OF BULK AT MOST 1048576: true; the input reads as it did. -/
def ladderCostsUptoRow : OpenClaim := { program := "ytahmioiefmheeaadoor", sum := "a86a7e4aa43734ef30c2ff062a91a700103103a4a2b3d7296bb5331df70e1266", func := "fingerpost/fingerpostlaw06.LadderCosts", spec := "ladderCosts", recurses := true, named := ["fingerpost/sha.constants"], apart := false, laid := [("fingerpost/sha.constants", laid_fingerpost_sha_constants)], narrowed := true }
def LadderCostsUptoSaid : Prop := ladderCostsUptoRow.holds Tryd.pinned (OpenSpec.upto ladderCostsSpec)

/-- 'fingerpostlaw07.GroveNews', WHERE WHAT IT READS IS OF BULK AT MOST 1048576: true; the input reads as it did. -/
def groveNewsUptoRow : OpenClaim := { program := "ytahmioiefmheeaadoor", sum := "a86a7e4aa43734ef30c2ff062a91a700103103a4a2b3d7296bb5331df70e1266", func := "fingerpost/fingerpostlaw07.GroveNews", spec := "groveNews", recurses := true, named := ["fingerpost/sha.constants"], apart := false, laid := [("fingerpost/sha.constants", laid_fingerpost_sha_constants)], narrowed := true }
def GroveNewsUptoSaid : Prop := groveNewsUptoRow.holds Tryd.pinned (OpenSpec.upto groveNewsSpec)

/-- 'fingerpostlaw07.GroveFolds', WHERE WHAT IT READS IS OF BULK AT MOST 1048576: true; the input reads as it did. -/
def groveFoldsUptoRow : OpenClaim := { program := "ytahmioiefmheeaadoor", sum := "a86a7e4aa43734ef30c2ff062a91a700103103a4a2b3d7296bb5331df70e1266", func := "fingerpost/fingerpostlaw07.GroveFolds", spec := "groveFolds", named := ["fingerpost/sha.constants"], apart := false, laid := [("fingerpost/sha.constants", laid_fingerpost_sha_constants)], narrowed := true }
def GroveFoldsUptoSaid : Prop := groveFoldsUptoRow.holds Tryd.pinned (OpenSpec.upto groveFoldsSpec)

/-- 'fingerpostlaw07.GroveLeads', WHERE WHAT IT READS IS OF BULK AT MOST 1048576: true; the input reads as it did. -/
def groveLeadsUptoRow : OpenClaim := { program := "ytahmioiefmheeaadoor", sum := "a86a7e4aa43734ef30c2ff062a91a700103103a4a2b3d7296bb5331df70e1266", func := "fingerpost/fingerpostlaw07.GroveLeads", spec := "groveLeads", named := ["fingerpost/sha.constants"], apart := false, laid := [("fingerpost/sha.constants", laid_fingerpost_sha_constants)], narrowed := true }
def GroveLeadsUptoSaid : Prop := groveLeadsUptoRow.holds Tryd.pinned (OpenSpec.upto groveLeadsSpec)

/-- 'fingerpostlaw07.GroveSound', WHERE WHAT IT READS IS OF BULK AT MOST 1048576: true; the input reads as it did. -/
def groveSoundUptoRow : OpenClaim := { program := "ytahmioiefmheeaadoor", sum := "a86a7e4aa43734ef30c2ff062a91a700103103a4a2b3d7296bb5331df70e1266", func := "fingerpost/fingerpostlaw07.GroveSound", spec := "groveSound", recurses := true, named := ["fingerpost/sha.constants"], apart := false, laid := [("fingerpost/sha.constants", laid_fingerpost_sha_constants)], narrowed := true }
def GroveSoundUptoSaid : Prop := groveSoundUptoRow.holds Tryd.pinned (OpenSpec.upto groveSoundSpec)

/-- 'fingerpostlaw07.GroveNil', WHERE WHAT IT READS IS OF BULK AT MOST 1048576: true; the input reads as it did. -/
def groveNilUptoRow : OpenClaim := { program := "ytahmioiefmheeaadoor", sum := "a86a7e4aa43734ef30c2ff062a91a700103103a4a2b3d7296bb5331df70e1266", func := "fingerpost/fingerpostlaw07.GroveNil", spec := "groveNil", named := ["fingerpost/sha.constants"], apart := false, laid := [("fingerpost/sha.constants", laid_fingerpost_sha_constants)], narrowed := true }
def GroveNilUptoSaid : Prop := groveNilUptoRow.holds Tryd.pinned (OpenSpec.upto groveNilSpec)

end Rows
end Go.Proofs.YtahmioiefmheeaaDoor
