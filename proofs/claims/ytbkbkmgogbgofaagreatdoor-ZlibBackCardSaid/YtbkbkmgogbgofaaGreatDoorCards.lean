/-
  DERIVED. GIVEN WITH THE SEED: THE CARDS: each row of YtbkbkmgogbgofaaGreatDoorRows.lean that lists a variable, with what it lists TIED to the program's text (the seventh form; the later family's looks); each row that meets fmt, with fmt's text TOLD by the authors' own Lean function (tested against real Go, not proved from fmt's source: count such statements apart). THE CARD IS WHAT COUNTS. Prove the row's statement (the work); the ties are given (YtbkbkmgogbgofaaGreatDoorTie.lean); close each card by the builder's one call (the guide's Derived/Test/ToyasCard.lean, 'card_holds'). Laid BY PROGRAM, IN A SANDBOX (cutbox-door.mjs). By AI agents, Wed Nov 11 2026. No macro, syntax, notation, axiom, sorry.
-/
import Derived.Test.YtbkbkmgogbgofaaGreatDoorRows
import GoSem.ClaimSeven
namespace Go.Proofs.YtbkbkmgogbgofaaGreatDoor
namespace Rows

/-- THE TIED CARD OF 'concertinalaw14.ZlibBack'. -/
def zlibBackCard : Claim7 := { stood := { row := zlibBackRow, standIns := [], harness := (true, "e9f4e2257042c17c94a182cda290b0e88c002e947109d9cabd64a2dccefd3ffd"), looks := false }, kinds := [], alts := [], laidByText := true, laidKinds := [.data, .data, .data, .data], laidTests := true, laidLooks := .later }
def ZlibBackCardSaid : Prop := Claim7.holds Tryz.pinned (.plain (OpenSpec.ofChange zlibBackSpec)) zlibBackCard

/-- THE TIED CARD OF 'concertinalaw14.ZlibTurned'. -/
def zlibTurnedCard : Claim7 := { stood := { row := zlibTurnedRow, standIns := [], harness := (true, "e9f4e2257042c17c94a182cda290b0e88c002e947109d9cabd64a2dccefd3ffd"), looks := false }, kinds := [], alts := [], laidByText := true, laidKinds := [.data, .data, .data, .data], laidTests := true, laidLooks := .later }
def ZlibTurnedCardSaid : Prop := Claim7.holds Tryz.pinned (.plain (OpenSpec.ofChange zlibTurnedSpec)) zlibTurnedCard

/-- THE SECOND FORM's CARD OF 'concertinalaw14.ZlibBack'. -/
def zlibBackUptoCard : Claim7 := { stood := { row := zlibBackUptoRow, standIns := [], harness := (true, "e9f4e2257042c17c94a182cda290b0e88c002e947109d9cabd64a2dccefd3ffd"), looks := false }, kinds := [], alts := [], laidByText := true, laidKinds := [.data, .data, .data, .data], laidTests := true, laidLooks := .later }
def ZlibBackUptoCardSaid : Prop := Claim7.holds Tryz.pinned (.plain (OpenSpec.upto zlibBackSpec)) zlibBackUptoCard

/-- THE SECOND FORM's CARD OF 'concertinalaw14.ZlibTurned'. -/
def zlibTurnedUptoCard : Claim7 := { stood := { row := zlibTurnedUptoRow, standIns := [], harness := (true, "e9f4e2257042c17c94a182cda290b0e88c002e947109d9cabd64a2dccefd3ffd"), looks := false }, kinds := [], alts := [], laidByText := true, laidKinds := [.data, .data, .data, .data], laidTests := true, laidLooks := .later }
def ZlibTurnedUptoCardSaid : Prop := Claim7.holds Tryz.pinned (.plain (OpenSpec.upto zlibTurnedSpec)) zlibTurnedUptoCard
end Rows
end Go.Proofs.YtbkbkmgogbgofaaGreatDoor
