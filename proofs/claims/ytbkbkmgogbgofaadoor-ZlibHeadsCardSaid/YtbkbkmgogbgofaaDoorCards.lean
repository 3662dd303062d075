/-
  DERIVED. GIVEN WITH THE SEED: THE CARDS: each row of YtbkbkmgogbgofaaDoorRows.lean that lists a variable, with what it lists TIED to the program's text (the seventh form; the later family's looks); each row that meets fmt, with fmt's text TOLD by the authors' own Lean function (tested against real Go, not proved from fmt's source: count such statements apart). THE CARD IS WHAT COUNTS. Prove the row's statement (the work); the ties are given (YtbkbkmgogbgofaaDoorTie.lean); close each card by the builder's one call (the guide's Derived/Test/ToyasCard.lean, 'card_holds'). Laid BY PROGRAM, IN A SANDBOX (cutbox-door.mjs). By AI agents, Wed Nov 11 2026. No macro, syntax, notation, axiom, sorry.
-/
import Derived.Test.YtbkbkmgogbgofaaDoorRows
import GoSem.ClaimSeven
namespace Go.Proofs.YtbkbkmgogbgofaaDoor
namespace Rows

/-- THE TIED CARD OF 'concertinalaw14.ZlibHeads'. -/
def zlibHeadsCard : Claim7 := { stood := { row := zlibHeadsRow, standIns := [], harness := (true, "08baaf1f43d08e78f5c945eb3b1c299dad5463b65bf9934567a27756188cbc8c"), looks := false }, kinds := [], alts := [], laidByText := true, laidKinds := [.data, .data], laidTests := true, laidLooks := .later }
def ZlibHeadsCardSaid : Prop := Claim7.holds Tryd.pinned (.plain (OpenSpec.ofChange zlibHeadsSpec)) zlibHeadsCard

/-- THE SECOND FORM's CARD OF 'concertinalaw14.ZlibHeads'. -/
def zlibHeadsUptoCard : Claim7 := { stood := { row := zlibHeadsUptoRow, standIns := [], harness := (true, "08baaf1f43d08e78f5c945eb3b1c299dad5463b65bf9934567a27756188cbc8c"), looks := false }, kinds := [], alts := [], laidByText := true, laidKinds := [.data, .data], laidTests := true, laidLooks := .later }
def ZlibHeadsUptoCardSaid : Prop := Claim7.holds Tryd.pinned (.plain (OpenSpec.upto zlibHeadsSpec)) zlibHeadsUptoCard
end Rows
end Go.Proofs.YtbkbkmgogbgofaaDoor
