/-
  DERIVED. GIVEN WITH THE SEED: THE CARDS: each row of YtdmnfjicjjlnnaaGreatDoorRows.lean that lists a variable, with what it lists TIED to the program's text (the seventh form; the later family's looks); each row that meets fmt, with fmt's text TOLD by the authors' own Lean function (tested against real Go, not proved from fmt's source: count such statements apart). THE CARD IS WHAT COUNTS. Prove the row's statement (the work); the ties are given (YtdmnfjicjjlnnaaGreatDoorTie.lean); close each card by the builder's one call (the guide's Derived/Test/ToyasCard.lean, 'card_holds'). Laid BY PROGRAM, IN A SANDBOX (cutbox-door.mjs). By AI agents, Wed Nov 11 2026. No macro, syntax, notation, axiom, sorry.
-/
import Derived.Test.YtdmnfjicjjlnnaaGreatDoorRows
import GoSem.ClaimSeven
namespace Go.Proofs.YtdmnfjicjjlnnaaGreatDoor
namespace Rows

/-- THE TIED CARD OF 'concertinalaw11.DeflateMeans'. -/
def deflateMeansCard : Claim7 := { stood := { row := deflateMeansRow, standIns := [], harness := (true, "ee9163afd1469d05c6bac956b3e104e2758c740a52f4ba46371b88705adb563b"), looks := false }, kinds := [], alts := [], laidByText := true, laidKinds := [.data, .data], laidTests := true, laidLooks := .later }
def DeflateMeansCardSaid : Prop := Claim7.holds Tryz.pinned (.plain (OpenSpec.ofChange deflateMeansSpec)) deflateMeansCard

/-- THE TIED CARD OF 'concertinalaw11.DeflateFlush'. -/
def deflateFlushCard : Claim7 := { stood := { row := deflateFlushRow, standIns := [], harness := (true, "ee9163afd1469d05c6bac956b3e104e2758c740a52f4ba46371b88705adb563b"), looks := false }, kinds := [], alts := [], laidByText := true, laidKinds := [.data, .data], laidTests := true, laidLooks := .later }
def DeflateFlushCardSaid : Prop := Claim7.holds Tryz.pinned (.plain (OpenSpec.ofChange deflateFlushSpec)) deflateFlushCard

/-- THE TIED CARD OF 'concertinalaw11.DeflateOver'. -/
def deflateOverCard : Claim7 := { stood := { row := deflateOverRow, standIns := [], harness := (true, "ee9163afd1469d05c6bac956b3e104e2758c740a52f4ba46371b88705adb563b"), looks := false }, kinds := [], alts := [], laidByText := true, laidKinds := [.data, .data], laidTests := true, laidLooks := .later }
def DeflateOverCardSaid : Prop := Claim7.holds Tryz.pinned (.plain (OpenSpec.ofChange deflateOverSpec)) deflateOverCard

/-- THE SECOND FORM's CARD OF 'concertinalaw11.DeflateMeans'. -/
def deflateMeansUptoCard : Claim7 := { stood := { row := deflateMeansUptoRow, standIns := [], harness := (true, "ee9163afd1469d05c6bac956b3e104e2758c740a52f4ba46371b88705adb563b"), looks := false }, kinds := [], alts := [], laidByText := true, laidKinds := [.data, .data], laidTests := true, laidLooks := .later }
def DeflateMeansUptoCardSaid : Prop := Claim7.holds Tryz.pinned (.plain (OpenSpec.upto deflateMeansSpec)) deflateMeansUptoCard

/-- THE SECOND FORM's CARD OF 'concertinalaw11.DeflateFlush'. -/
def deflateFlushUptoCard : Claim7 := { stood := { row := deflateFlushUptoRow, standIns := [], harness := (true, "ee9163afd1469d05c6bac956b3e104e2758c740a52f4ba46371b88705adb563b"), looks := false }, kinds := [], alts := [], laidByText := true, laidKinds := [.data, .data], laidTests := true, laidLooks := .later }
def DeflateFlushUptoCardSaid : Prop := Claim7.holds Tryz.pinned (.plain (OpenSpec.upto deflateFlushSpec)) deflateFlushUptoCard

/-- THE SECOND FORM's CARD OF 'concertinalaw11.DeflateOver'. -/
def deflateOverUptoCard : Claim7 := { stood := { row := deflateOverUptoRow, standIns := [], harness := (true, "ee9163afd1469d05c6bac956b3e104e2758c740a52f4ba46371b88705adb563b"), looks := false }, kinds := [], alts := [], laidByText := true, laidKinds := [.data, .data], laidTests := true, laidLooks := .later }
def DeflateOverUptoCardSaid : Prop := Claim7.holds Tryz.pinned (.plain (OpenSpec.upto deflateOverSpec)) deflateOverUptoCard
end Rows
end Go.Proofs.YtdmnfjicjjlnnaaGreatDoor
