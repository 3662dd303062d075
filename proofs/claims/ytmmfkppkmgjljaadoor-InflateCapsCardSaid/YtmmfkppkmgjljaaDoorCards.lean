/-
  DERIVED. GIVEN WITH THE SEED: THE CARDS: each row of YtmmfkppkmgjljaaDoorRows.lean that lists a variable, with what it lists TIED to the program's text (the seventh form; the later family's looks); each row that meets fmt, with fmt's text TOLD by the authors' own Lean function (tested against real Go, not proved from fmt's source: count such statements apart). THE CARD IS WHAT COUNTS. Prove the row's statement (the work); the ties are given (YtmmfkppkmgjljaaDoorTie.lean); close each card by the builder's one call (the guide's Derived/Test/ToyasCard.lean, 'card_holds'). Laid BY PROGRAM, IN A SANDBOX (cutbox-door.mjs). By AI agents, Wed Nov 11 2026. No macro, syntax, notation, axiom, sorry.
-/
import Derived.Test.YtmmfkppkmgjljaaDoorRows
import GoSem.ClaimSeven
namespace Go.Proofs.YtmmfkppkmgjljaaDoor
namespace Rows

/-- THE TIED CARD OF 'concertinalaw12.InflateCut'. -/
def inflateCutCard : Claim7 := { stood := { row := inflateCutRow, standIns := [], harness := (true, "5190bd109d12d9f1d7ab09d615fca2ce27d2f0f5b9960fa421cff7edeb8e4a37"), looks := false }, kinds := [], alts := [], laidByText := true, laidKinds := [.data, .data], laidTests := true, laidLooks := .later }
def InflateCutCardSaid : Prop := Claim7.holds Tryd.pinned (.plain (OpenSpec.ofChange inflateCutSpec)) inflateCutCard

/-- THE TIED CARD OF 'concertinalaw12.InflateCaps'. -/
def inflateCapsCard : Claim7 := { stood := { row := inflateCapsRow, standIns := [], harness := (true, "5190bd109d12d9f1d7ab09d615fca2ce27d2f0f5b9960fa421cff7edeb8e4a37"), looks := false }, kinds := [], alts := [], laidByText := true, laidKinds := [.data, .data], laidTests := true, laidLooks := .later }
def InflateCapsCardSaid : Prop := Claim7.holds Tryd.pinned (.plain (OpenSpec.ofChange inflateCapsSpec)) inflateCapsCard

/-- THE TIED CARD OF 'concertinalaw12.InflateNone'. -/
def inflateNoneCard : Claim7 := { stood := { row := inflateNoneRow, standIns := [], harness := (true, "5190bd109d12d9f1d7ab09d615fca2ce27d2f0f5b9960fa421cff7edeb8e4a37"), looks := false }, kinds := [], alts := [], laidByText := true, laidKinds := [.data, .data], laidTests := true, laidLooks := .later }
def InflateNoneCardSaid : Prop := Claim7.holds Tryd.pinned (.plain (OpenSpec.ofChange inflateNoneSpec)) inflateNoneCard

/-- THE TIED CARD OF 'concertinalaw12.InflateJoins'. -/
def inflateJoinsCard : Claim7 := { stood := { row := inflateJoinsRow, standIns := [], harness := (true, "5190bd109d12d9f1d7ab09d615fca2ce27d2f0f5b9960fa421cff7edeb8e4a37"), looks := false }, kinds := [], alts := [], laidByText := true, laidKinds := [.data, .data], laidTests := true, laidLooks := .later }
def InflateJoinsCardSaid : Prop := Claim7.holds Tryd.pinned (.plain (OpenSpec.ofChange inflateJoinsSpec)) inflateJoinsCard

/-- THE SECOND FORM's CARD OF 'concertinalaw12.InflateCut'. -/
def inflateCutUptoCard : Claim7 := { stood := { row := inflateCutUptoRow, standIns := [], harness := (true, "5190bd109d12d9f1d7ab09d615fca2ce27d2f0f5b9960fa421cff7edeb8e4a37"), looks := false }, kinds := [], alts := [], laidByText := true, laidKinds := [.data, .data], laidTests := true, laidLooks := .later }
def InflateCutUptoCardSaid : Prop := Claim7.holds Tryd.pinned (.plain (OpenSpec.upto inflateCutSpec)) inflateCutUptoCard

/-- THE SECOND FORM's CARD OF 'concertinalaw12.InflateCaps'. -/
def inflateCapsUptoCard : Claim7 := { stood := { row := inflateCapsUptoRow, standIns := [], harness := (true, "5190bd109d12d9f1d7ab09d615fca2ce27d2f0f5b9960fa421cff7edeb8e4a37"), looks := false }, kinds := [], alts := [], laidByText := true, laidKinds := [.data, .data], laidTests := true, laidLooks := .later }
def InflateCapsUptoCardSaid : Prop := Claim7.holds Tryd.pinned (.plain (OpenSpec.upto inflateCapsSpec)) inflateCapsUptoCard

/-- THE SECOND FORM's CARD OF 'concertinalaw12.InflateNone'. -/
def inflateNoneUptoCard : Claim7 := { stood := { row := inflateNoneUptoRow, standIns := [], harness := (true, "5190bd109d12d9f1d7ab09d615fca2ce27d2f0f5b9960fa421cff7edeb8e4a37"), looks := false }, kinds := [], alts := [], laidByText := true, laidKinds := [.data, .data], laidTests := true, laidLooks := .later }
def InflateNoneUptoCardSaid : Prop := Claim7.holds Tryd.pinned (.plain (OpenSpec.upto inflateNoneSpec)) inflateNoneUptoCard

/-- THE SECOND FORM's CARD OF 'concertinalaw12.InflateJoins'. -/
def inflateJoinsUptoCard : Claim7 := { stood := { row := inflateJoinsUptoRow, standIns := [], harness := (true, "5190bd109d12d9f1d7ab09d615fca2ce27d2f0f5b9960fa421cff7edeb8e4a37"), looks := false }, kinds := [], alts := [], laidByText := true, laidKinds := [.data, .data], laidTests := true, laidLooks := .later }
def InflateJoinsUptoCardSaid : Prop := Claim7.holds Tryd.pinned (.plain (OpenSpec.upto inflateJoinsSpec)) inflateJoinsUptoCard
end Rows
end Go.Proofs.YtmmfkppkmgjljaaDoor
