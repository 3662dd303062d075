/-
  DERIVED. GIVEN WITH THE SEED: THE CARDS: each row of YthibpnkdhbkakaaDoorRows.lean that lists a variable, with what it lists TIED to the program's text (the seventh form; the later family's looks); each row that meets fmt, with fmt's text TOLD by the authors' own Lean function (tested against real Go, not proved from fmt's source: count such statements apart). THE CARD IS WHAT COUNTS. Prove the row's statement (the work); the ties are given (YthibpnkdhbkakaaDoorTie.lean); close each card by the builder's one call (the guide's Derived/Test/ToyasCard.lean, 'card_holds'). Laid BY PROGRAM, IN A SANDBOX (cutbox-door.mjs). By AI agents, Wed Nov 11 2026. No macro, syntax, notation, axiom, sorry.
-/
import Derived.Test.YthibpnkdhbkakaaDoorRows
import GoSem.ClaimSeven
namespace Go.Proofs.YthibpnkdhbkakaaDoor
namespace Rows

/-- THE TIED CARD OF 'concertinalaw10.BlockWrong'. -/
def blockWrongCard : Claim7 := { stood := { row := blockWrongRow, standIns := [], harness := (true, "dd246e17751d556fe739012e49e2ed7518f5cc2442c2676921fc8ca58ee57782"), looks := false }, kinds := [], alts := [], laidByText := true, laidKinds := [.data], laidTests := true, laidLooks := .later }
def BlockWrongCardSaid : Prop := Claim7.holds Tryd.pinned (.plain (OpenSpec.ofChange blockWrongSpec)) blockWrongCard

/-- THE SECOND FORM's CARD OF 'concertinalaw10.BlockWrong'. -/
def blockWrongUptoCard : Claim7 := { stood := { row := blockWrongUptoRow, standIns := [], harness := (true, "dd246e17751d556fe739012e49e2ed7518f5cc2442c2676921fc8ca58ee57782"), looks := false }, kinds := [], alts := [], laidByText := true, laidKinds := [.data], laidTests := true, laidLooks := .later }
def BlockWrongUptoCardSaid : Prop := Claim7.holds Tryd.pinned (.plain (OpenSpec.upto blockWrongSpec)) blockWrongUptoCard
end Rows
end Go.Proofs.YthibpnkdhbkakaaDoor
