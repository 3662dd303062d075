/-
  DERIVED. GIVEN WITH THE SEED: THE CARDS: each row of YtkdmdbojcdonpaaGreatDoorRows.lean that lists a variable, with what it lists TIED to the program's text (the seventh form; the later family's looks); each row that meets fmt, with fmt's text TOLD by the authors' own Lean function (tested against real Go, not proved from fmt's source: count such statements apart). THE CARD IS WHAT COUNTS. Prove the row's statement (the work); the ties are given (YtkdmdbojcdonpaaGreatDoorTie.lean); close each card by the builder's one call (the guide's Derived/Test/ToyasCard.lean, 'card_holds'). Laid BY PROGRAM, IN A SANDBOX (cutbox-door.mjs). By AI agents, Wed Nov 11 2026. No macro, syntax, notation, axiom, sorry.
-/
import Derived.Test.YtkdmdbojcdonpaaGreatDoorRows
import GoSem.ClaimSeven
namespace Go.Proofs.YtkdmdbojcdonpaaGreatDoor
namespace Rows

/-- THE TIED CARD OF 'concertinalaw13.GzipBack'. -/
def gzipBackCard : Claim7 := { stood := { row := gzipBackRow, standIns := [], harness := (true, "2c526fe4cfaedc1681380183e54abc7fb07e44a1956eb4d1c519f0b0113eaf7b"), looks := false }, kinds := [], alts := [], laidByText := true, laidKinds := [.data, .data, .data, .data], laidTests := true, laidLooks := .later }
def GzipBackCardSaid : Prop := Claim7.holds Tryz.pinned (.plain (OpenSpec.ofChange gzipBackSpec)) gzipBackCard

/-- THE TIED CARD OF 'concertinalaw13.GzipTurned'. -/
def gzipTurnedCard : Claim7 := { stood := { row := gzipTurnedRow, standIns := [], harness := (true, "2c526fe4cfaedc1681380183e54abc7fb07e44a1956eb4d1c519f0b0113eaf7b"), looks := false }, kinds := [], alts := [], laidByText := true, laidKinds := [.data, .data, .data, .data], laidTests := true, laidLooks := .later }
def GzipTurnedCardSaid : Prop := Claim7.holds Tryz.pinned (.plain (OpenSpec.ofChange gzipTurnedSpec)) gzipTurnedCard

/-- THE TIED CARD OF 'concertinalaw13.GzipNone'. -/
def gzipNoneCard : Claim7 := { stood := { row := gzipNoneRow, standIns := [], harness := (true, "2c526fe4cfaedc1681380183e54abc7fb07e44a1956eb4d1c519f0b0113eaf7b"), looks := false }, kinds := [], alts := [], laidByText := true, laidKinds := [.data, .data, .data], laidTests := true, laidLooks := .later }
def GzipNoneCardSaid : Prop := Claim7.holds Tryz.pinned (.plain (OpenSpec.ofChange gzipNoneSpec)) gzipNoneCard

/-- THE TIED CARD OF 'concertinalaw13.GzipJoins'. -/
def gzipJoinsCard : Claim7 := { stood := { row := gzipJoinsRow, standIns := [], harness := (true, "2c526fe4cfaedc1681380183e54abc7fb07e44a1956eb4d1c519f0b0113eaf7b"), looks := false }, kinds := [], alts := [], laidByText := true, laidKinds := [.data, .data, .data, .data], laidTests := true, laidLooks := .later }
def GzipJoinsCardSaid : Prop := Claim7.holds Tryz.pinned (.plain (OpenSpec.ofChange gzipJoinsSpec)) gzipJoinsCard

/-- THE SECOND FORM's CARD OF 'concertinalaw13.GzipBack'. -/
def gzipBackUptoCard : Claim7 := { stood := { row := gzipBackUptoRow, standIns := [], harness := (true, "2c526fe4cfaedc1681380183e54abc7fb07e44a1956eb4d1c519f0b0113eaf7b"), looks := false }, kinds := [], alts := [], laidByText := true, laidKinds := [.data, .data, .data, .data], laidTests := true, laidLooks := .later }
def GzipBackUptoCardSaid : Prop := Claim7.holds Tryz.pinned (.plain (OpenSpec.upto gzipBackSpec)) gzipBackUptoCard

/-- THE SECOND FORM's CARD OF 'concertinalaw13.GzipTurned'. -/
def gzipTurnedUptoCard : Claim7 := { stood := { row := gzipTurnedUptoRow, standIns := [], harness := (true, "2c526fe4cfaedc1681380183e54abc7fb07e44a1956eb4d1c519f0b0113eaf7b"), looks := false }, kinds := [], alts := [], laidByText := true, laidKinds := [.data, .data, .data, .data], laidTests := true, laidLooks := .later }
def GzipTurnedUptoCardSaid : Prop := Claim7.holds Tryz.pinned (.plain (OpenSpec.upto gzipTurnedSpec)) gzipTurnedUptoCard

/-- THE SECOND FORM's CARD OF 'concertinalaw13.GzipNone'. -/
def gzipNoneUptoCard : Claim7 := { stood := { row := gzipNoneUptoRow, standIns := [], harness := (true, "2c526fe4cfaedc1681380183e54abc7fb07e44a1956eb4d1c519f0b0113eaf7b"), looks := false }, kinds := [], alts := [], laidByText := true, laidKinds := [.data, .data, .data], laidTests := true, laidLooks := .later }
def GzipNoneUptoCardSaid : Prop := Claim7.holds Tryz.pinned (.plain (OpenSpec.upto gzipNoneSpec)) gzipNoneUptoCard

/-- THE SECOND FORM's CARD OF 'concertinalaw13.GzipJoins'. -/
def gzipJoinsUptoCard : Claim7 := { stood := { row := gzipJoinsUptoRow, standIns := [], harness := (true, "2c526fe4cfaedc1681380183e54abc7fb07e44a1956eb4d1c519f0b0113eaf7b"), looks := false }, kinds := [], alts := [], laidByText := true, laidKinds := [.data, .data, .data, .data], laidTests := true, laidLooks := .later }
def GzipJoinsUptoCardSaid : Prop := Claim7.holds Tryz.pinned (.plain (OpenSpec.upto gzipJoinsSpec)) gzipJoinsUptoCard
end Rows
end Go.Proofs.YtkdmdbojcdonpaaGreatDoor
