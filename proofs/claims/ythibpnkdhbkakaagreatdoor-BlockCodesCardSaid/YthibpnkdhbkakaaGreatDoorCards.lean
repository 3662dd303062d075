/-
  DERIVED. GIVEN WITH THE SEED: THE CARDS: each row of YthibpnkdhbkakaaGreatDoorRows.lean that lists a variable, with what it lists TIED to the program's text (the seventh form; the later family's looks); each row that meets fmt, with fmt's text TOLD by the authors' own Lean function (tested against real Go, not proved from fmt's source: count such statements apart). THE CARD IS WHAT COUNTS. Prove the row's statement (the work); the ties are given (YthibpnkdhbkakaaGreatDoorTie.lean); close each card by the builder's one call (the guide's Derived/Test/ToyasCard.lean, 'card_holds'). Laid BY PROGRAM, IN A SANDBOX (cutbox-door.mjs). By AI agents, Wed Nov 11 2026. No macro, syntax, notation, axiom, sorry.
-/
import Derived.Test.YthibpnkdhbkakaaGreatDoorRows
import GoSem.ClaimSeven
namespace Go.Proofs.YthibpnkdhbkakaaGreatDoor
namespace Rows

/-- THE TIED CARD OF 'concertinalaw10.BlockMeans'. -/
def blockMeansCard : Claim7 := { stood := { row := blockMeansRow, standIns := [], harness := (true, "a47f3aac8f21fd7bf9a3272407cceb27fdd374d45903d6878634dda6423292c1"), looks := false }, kinds := [], alts := [], laidByText := true, laidKinds := [.data], laidTests := true, laidLooks := .later }
def BlockMeansCardSaid : Prop := Claim7.holds Tryz.pinned (.plain (OpenSpec.ofChange blockMeansSpec)) blockMeansCard

/-- THE TIED CARD OF 'concertinalaw10.BlockCheap'. -/
def blockCheapCard : Claim7 := { stood := { row := blockCheapRow, standIns := [], harness := (true, "a47f3aac8f21fd7bf9a3272407cceb27fdd374d45903d6878634dda6423292c1"), looks := false }, kinds := [], alts := [], laidByText := true, laidKinds := [.data], laidTests := true, laidLooks := .later }
def BlockCheapCardSaid : Prop := Claim7.holds Tryz.pinned (.plain (OpenSpec.ofChange blockCheapSpec)) blockCheapCard

/-- THE TIED CARD OF 'concertinalaw10.BlockCodes'. -/
def blockCodesCard : Claim7 := { stood := { row := blockCodesRow, standIns := [], harness := (true, "a47f3aac8f21fd7bf9a3272407cceb27fdd374d45903d6878634dda6423292c1"), looks := false }, kinds := [], alts := [], laidByText := true, laidKinds := [.data], laidTests := true, laidLooks := .later }
def BlockCodesCardSaid : Prop := Claim7.holds Tryz.pinned (.plain (OpenSpec.ofChange blockCodesSpec)) blockCodesCard

/-- THE SECOND FORM's CARD OF 'concertinalaw10.BlockMeans'. -/
def blockMeansUptoCard : Claim7 := { stood := { row := blockMeansUptoRow, standIns := [], harness := (true, "a47f3aac8f21fd7bf9a3272407cceb27fdd374d45903d6878634dda6423292c1"), looks := false }, kinds := [], alts := [], laidByText := true, laidKinds := [.data], laidTests := true, laidLooks := .later }
def BlockMeansUptoCardSaid : Prop := Claim7.holds Tryz.pinned (.plain (OpenSpec.upto blockMeansSpec)) blockMeansUptoCard

/-- THE SECOND FORM's CARD OF 'concertinalaw10.BlockCheap'. -/
def blockCheapUptoCard : Claim7 := { stood := { row := blockCheapUptoRow, standIns := [], harness := (true, "a47f3aac8f21fd7bf9a3272407cceb27fdd374d45903d6878634dda6423292c1"), looks := false }, kinds := [], alts := [], laidByText := true, laidKinds := [.data], laidTests := true, laidLooks := .later }
def BlockCheapUptoCardSaid : Prop := Claim7.holds Tryz.pinned (.plain (OpenSpec.upto blockCheapSpec)) blockCheapUptoCard

/-- THE SECOND FORM's CARD OF 'concertinalaw10.BlockCodes'. -/
def blockCodesUptoCard : Claim7 := { stood := { row := blockCodesUptoRow, standIns := [], harness := (true, "a47f3aac8f21fd7bf9a3272407cceb27fdd374d45903d6878634dda6423292c1"), looks := false }, kinds := [], alts := [], laidByText := true, laidKinds := [.data], laidTests := true, laidLooks := .later }
def BlockCodesUptoCardSaid : Prop := Claim7.holds Tryz.pinned (.plain (OpenSpec.upto blockCodesSpec)) blockCodesUptoCard
end Rows
end Go.Proofs.YthibpnkdhbkakaaGreatDoor
