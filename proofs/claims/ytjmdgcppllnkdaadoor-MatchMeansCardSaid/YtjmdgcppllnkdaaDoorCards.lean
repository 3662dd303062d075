/-
  DERIVED. GIVEN WITH THE SEED: THE CARDS: each row of YtjmdgcppllnkdaaDoorRows.lean that lists a variable, with what it lists TIED to the program's text (the seventh form; the later family's looks); each row that meets fmt, with fmt's text TOLD by the authors' own Lean function (tested against real Go, not proved from fmt's source: count such statements apart). THE CARD IS WHAT COUNTS. Prove the row's statement (the work); the ties are given (YtjmdgcppllnkdaaDoorTie.lean); close each card by the builder's one call (the guide's Derived/Test/ToyasCard.lean, 'card_holds'). Laid BY PROGRAM, IN A SANDBOX (cutbox-door.mjs). By AI agents, Wed Nov 11 2026. No macro, syntax, notation, axiom, sorry.
-/
import Derived.Test.YtjmdgcppllnkdaaDoorRows
import GoSem.ClaimSeven
namespace Go.Proofs.YtjmdgcppllnkdaaDoor
namespace Rows

/-- THE TIED CARD OF 'concertinalaw09.MatchMeans'. -/
def matchMeansCard : Claim7 := { stood := { row := matchMeansRow, standIns := [], harness := (true, "8f0b0ac2701b3cd74a1c26577b03a375f9cc8afb9d97b51d222735074c60cb8f"), looks := false }, kinds := [], alts := [], laidByText := true, laidKinds := [.data], laidTests := true, laidLooks := .later }
def MatchMeansCardSaid : Prop := Claim7.holds Tryd.pinned (.plain (OpenSpec.ofChange matchMeansSpec)) matchMeansCard

/-- THE TIED CARD OF 'concertinalaw09.MatchParts'. -/
def matchPartsCard : Claim7 := { stood := { row := matchPartsRow, standIns := [], harness := (true, "8f0b0ac2701b3cd74a1c26577b03a375f9cc8afb9d97b51d222735074c60cb8f"), looks := false }, kinds := [], alts := [], laidByText := true, laidKinds := [.data], laidTests := true, laidLooks := .later }
def MatchPartsCardSaid : Prop := Claim7.holds Tryd.pinned (.plain (OpenSpec.ofChange matchPartsSpec)) matchPartsCard

/-- THE TIED CARD OF 'concertinalaw09.MatchAlike'. -/
def matchAlikeCard : Claim7 := { stood := { row := matchAlikeRow, standIns := [], harness := (true, "8f0b0ac2701b3cd74a1c26577b03a375f9cc8afb9d97b51d222735074c60cb8f"), looks := false }, kinds := [], alts := [], laidByText := true, laidKinds := [.data], laidTests := true, laidLooks := .later }
def MatchAlikeCardSaid : Prop := Claim7.holds Tryd.pinned (.plain (OpenSpec.ofChange matchAlikeSpec)) matchAlikeCard

/-- THE TIED CARD OF 'concertinalaw09.MatchShort'. -/
def matchShortCard : Claim7 := { stood := { row := matchShortRow, standIns := [], harness := (true, "8f0b0ac2701b3cd74a1c26577b03a375f9cc8afb9d97b51d222735074c60cb8f"), looks := false }, kinds := [], alts := [], laidByText := true, laidKinds := [.data], laidTests := true, laidLooks := .later }
def MatchShortCardSaid : Prop := Claim7.holds Tryd.pinned (.plain (OpenSpec.ofChange matchShortSpec)) matchShortCard

/-- THE TIED CARD OF 'concertinalaw09.MatchFar'. -/
def matchFarCard : Claim7 := { stood := { row := matchFarRow, standIns := [], harness := (true, "8f0b0ac2701b3cd74a1c26577b03a375f9cc8afb9d97b51d222735074c60cb8f"), looks := false }, kinds := [], alts := [], laidByText := true, laidKinds := [.data], laidTests := true, laidLooks := .later }
def MatchFarCardSaid : Prop := Claim7.holds Tryd.pinned (.plain (OpenSpec.ofChange matchFarSpec)) matchFarCard

/-- THE SECOND FORM's CARD OF 'concertinalaw09.MatchMeans'. -/
def matchMeansUptoCard : Claim7 := { stood := { row := matchMeansUptoRow, standIns := [], harness := (true, "8f0b0ac2701b3cd74a1c26577b03a375f9cc8afb9d97b51d222735074c60cb8f"), looks := false }, kinds := [], alts := [], laidByText := true, laidKinds := [.data], laidTests := true, laidLooks := .later }
def MatchMeansUptoCardSaid : Prop := Claim7.holds Tryd.pinned (.plain (OpenSpec.upto matchMeansSpec)) matchMeansUptoCard

/-- THE SECOND FORM's CARD OF 'concertinalaw09.MatchParts'. -/
def matchPartsUptoCard : Claim7 := { stood := { row := matchPartsUptoRow, standIns := [], harness := (true, "8f0b0ac2701b3cd74a1c26577b03a375f9cc8afb9d97b51d222735074c60cb8f"), looks := false }, kinds := [], alts := [], laidByText := true, laidKinds := [.data], laidTests := true, laidLooks := .later }
def MatchPartsUptoCardSaid : Prop := Claim7.holds Tryd.pinned (.plain (OpenSpec.upto matchPartsSpec)) matchPartsUptoCard

/-- THE SECOND FORM's CARD OF 'concertinalaw09.MatchAlike'. -/
def matchAlikeUptoCard : Claim7 := { stood := { row := matchAlikeUptoRow, standIns := [], harness := (true, "8f0b0ac2701b3cd74a1c26577b03a375f9cc8afb9d97b51d222735074c60cb8f"), looks := false }, kinds := [], alts := [], laidByText := true, laidKinds := [.data], laidTests := true, laidLooks := .later }
def MatchAlikeUptoCardSaid : Prop := Claim7.holds Tryd.pinned (.plain (OpenSpec.upto matchAlikeSpec)) matchAlikeUptoCard

/-- THE SECOND FORM's CARD OF 'concertinalaw09.MatchShort'. -/
def matchShortUptoCard : Claim7 := { stood := { row := matchShortUptoRow, standIns := [], harness := (true, "8f0b0ac2701b3cd74a1c26577b03a375f9cc8afb9d97b51d222735074c60cb8f"), looks := false }, kinds := [], alts := [], laidByText := true, laidKinds := [.data], laidTests := true, laidLooks := .later }
def MatchShortUptoCardSaid : Prop := Claim7.holds Tryd.pinned (.plain (OpenSpec.upto matchShortSpec)) matchShortUptoCard

/-- THE SECOND FORM's CARD OF 'concertinalaw09.MatchFar'. -/
def matchFarUptoCard : Claim7 := { stood := { row := matchFarUptoRow, standIns := [], harness := (true, "8f0b0ac2701b3cd74a1c26577b03a375f9cc8afb9d97b51d222735074c60cb8f"), looks := false }, kinds := [], alts := [], laidByText := true, laidKinds := [.data], laidTests := true, laidLooks := .later }
def MatchFarUptoCardSaid : Prop := Claim7.holds Tryd.pinned (.plain (OpenSpec.upto matchFarSpec)) matchFarUptoCard
end Rows
end Go.Proofs.YtjmdgcppllnkdaaDoor
