/-
  NARROWER THAN 'FOR EVERY INPUT', by the rows' own cells (each row's printed sentence says how): DeflateMeans: laid · DeflateFlush: laid · DeflateOver: laid.
  DERIVED. THE GIVEN ROWS OF THIS SEAT. 3 by the template 'for every input the law returns true; each argument reads behind the call as it read before'; 0 by the template 'total and deterministic' (their statements: YtdmnfjicjjlnnaaGreatDoorTotals.lean).
  GIVEN WITH THE SEED: the statements are not yours to turn. If you find one false, say at which input.
  Laid BY PROGRAM, IN A SANDBOX (cutbox-rows.mjs): the forced cells as the released guide's own fill.sh prints them over the translation b33c91f44d23d20c… (all of the seat's roots in one cut). By AI agents, Wed Nov 11 2026. No macro, syntax, notation, axiom, sorry.
-/
import Derived.Test.YtdmnfjicjjlnnaaGreatDoorChecked
import GoSem.Claim
import GoSem.ClaimJoined
import GoSem.ClaimMapViews
import Derived.JoinedTies
import Derived.KernelRfl
namespace Go.Proofs.YtdmnfjicjjlnnaaGreatDoor
/- THE CELL 'sum', in the pinned program and in every row, IS THE sha256 OF THE DUMP (.gsa) THAT YtdmnfjicjjlnnaaGreatDoorProg.lean LOADS. Nothing in Lean hashes anything: it is a label: what it is worth is what the hold of that sum in a sandbox is worth. -/
noncomputable def Tryz.pinned : Pinned := { name := "ytdmnfjicjjlnnaagreatdoor", sum := "b33c91f44d23d20c77adf4594af0142d7bd3eefb9f1149532bcf503d7d0011fd", checked := Tryz.checked }
namespace Rows
def none {H : Type} : Left H := { results := [], args := [] }

/- WHAT THE LISTED PACKAGE-LEVEL VARIABLES READ AS WHEN THE CALL BEGINS. Each datum BY PROGRAM (the guide's laid-datum.mjs) off the statement by which the dump's own 'gosem.cut.vars' lays the variable. In a bare row this is a premise. The card (YtdmnfjicjjlnnaaGreatDoorCards.lean) ties it to the program's text. -/
def laid_concertina_match_levels {H : Type} : DataW H := .agg [.agg [.lit (.int .i64 0), .lit (.int .i64 0), .lit (.int .i64 0)], .agg [.lit (.int .i64 4), .lit (.int .i64 8), .lit (.int .i64 0)], .agg [.lit (.int .i64 8), .lit (.int .i64 16), .lit (.int .i64 0)], .agg [.lit (.int .i64 16), .lit (.int .i64 32), .lit (.int .i64 0)], .agg [.lit (.int .i64 16), .lit (.int .i64 32), .lit (.int .i64 4)], .agg [.lit (.int .i64 32), .lit (.int .i64 64), .lit (.int .i64 16)], .agg [.lit (.int .i64 64), .lit (.int .i64 128), .lit (.int .i64 16)], .agg [.lit (.int .i64 128), .lit (.int .i64 128), .lit (.int .i64 32)], .agg [.lit (.int .i64 512), .lit (.int .i64 258), .lit (.int .i64 128)], .agg [.lit (.int .i64 1024), .lit (.int .i64 258), .lit (.int .i64 258)]]
def laid_concertina_block_order {H : Type} : DataW H := .agg [.lit (.int .i64 16), .lit (.int .i64 17), .lit (.int .i64 18), .lit (.int .i64 0), .lit (.int .i64 8), .lit (.int .i64 7), .lit (.int .i64 9), .lit (.int .i64 6), .lit (.int .i64 10), .lit (.int .i64 5), .lit (.int .i64 11), .lit (.int .i64 4), .lit (.int .i64 12), .lit (.int .i64 3), .lit (.int .i64 13), .lit (.int .i64 2), .lit (.int .i64 14), .lit (.int .i64 1), .lit (.int .i64 15)]

/-- 'concertinalaw11.DeflateMeans': WHATEVER THE INPUT: true; the input reads as it did. -/
def deflateMeansSpec : ChangeSpec := { name := "deflateMeans", fn := fun _ => fun
  | [d1, d2] => { results := [.lit (.bool true)], args := [d1, d2] }
  | _ => none }
def deflateMeansRow : OpenClaim := { program := "ytdmnfjicjjlnnaagreatdoor", sum := "b33c91f44d23d20c77adf4594af0142d7bd3eefb9f1149532bcf503d7d0011fd", func := "concertina/concertinalaw11.DeflateMeans", spec := "deflateMeans", unfollowed := true, recurses := true, named := ["concertina/match.levels", "concertina/block.order"], plainKeys := false, apart := false, laid := [("concertina/match.levels", laid_concertina_match_levels), ("concertina/block.order", laid_concertina_block_order)] }
def DeflateMeansSaid : Prop := deflateMeansRow.holds Tryz.pinned (OpenSpec.ofChange deflateMeansSpec)

/-- ITS FALSE NEIGHBOUR: 'it returns false'. Refute it at one input. -/
def deflateMeansWrong : ChangeSpec := { name := "deflateMeans", fn := fun _ => fun
  | [d1, d2] => { results := [.lit (.bool false)], args := [d1, d2] }
  | _ => none }
def DeflateMeansWrongFalsely : Prop := deflateMeansRow.holds Tryz.pinned (OpenSpec.ofChange deflateMeansWrong)

/-- 'concertinalaw11.DeflateFlush': WHATEVER THE INPUT: true; the input reads as it did. -/
def deflateFlushSpec : ChangeSpec := { name := "deflateFlush", fn := fun _ => fun
  | [d1, d2] => { results := [.lit (.bool true)], args := [d1, d2] }
  | _ => none }
def deflateFlushRow : OpenClaim := { program := "ytdmnfjicjjlnnaagreatdoor", sum := "b33c91f44d23d20c77adf4594af0142d7bd3eefb9f1149532bcf503d7d0011fd", func := "concertina/concertinalaw11.DeflateFlush", spec := "deflateFlush", unfollowed := true, recurses := true, named := ["concertina/match.levels", "concertina/block.order"], plainKeys := false, apart := false, laid := [("concertina/match.levels", laid_concertina_match_levels), ("concertina/block.order", laid_concertina_block_order)] }
def DeflateFlushSaid : Prop := deflateFlushRow.holds Tryz.pinned (OpenSpec.ofChange deflateFlushSpec)

/-- ITS FALSE NEIGHBOUR: 'it returns false'. Refute it at one input. -/
def deflateFlushWrong : ChangeSpec := { name := "deflateFlush", fn := fun _ => fun
  | [d1, d2] => { results := [.lit (.bool false)], args := [d1, d2] }
  | _ => none }
def DeflateFlushWrongFalsely : Prop := deflateFlushRow.holds Tryz.pinned (OpenSpec.ofChange deflateFlushWrong)

/-- 'concertinalaw11.DeflateOver': WHATEVER THE INPUT: true; the input reads as it did. -/
def deflateOverSpec : ChangeSpec := { name := "deflateOver", fn := fun _ => fun
  | [d1, d2] => { results := [.lit (.bool true)], args := [d1, d2] }
  | _ => none }
def deflateOverRow : OpenClaim := { program := "ytdmnfjicjjlnnaagreatdoor", sum := "b33c91f44d23d20c77adf4594af0142d7bd3eefb9f1149532bcf503d7d0011fd", func := "concertina/concertinalaw11.DeflateOver", spec := "deflateOver", unfollowed := true, recurses := true, named := ["concertina/match.levels", "concertina/block.order"], plainKeys := false, apart := false, laid := [("concertina/match.levels", laid_concertina_match_levels), ("concertina/block.order", laid_concertina_block_order)] }
def DeflateOverSaid : Prop := deflateOverRow.holds Tryz.pinned (OpenSpec.ofChange deflateOverSpec)

/-- ITS FALSE NEIGHBOUR: 'it returns false'. Refute it at one input. -/
def deflateOverWrong : ChangeSpec := { name := "deflateOver", fn := fun _ => fun
  | [d1, d2] => { results := [.lit (.bool false)], args := [d1, d2] }
  | _ => none }
def DeflateOverWrongFalsely : Prop := deflateOverRow.holds Tryz.pinned (OpenSpec.ofChange deflateOverWrong)

/- THE SECOND FORM. 'bulk': how many values and letters a reading holds, each counted each time it is reached (what is shared counts as often as it is met; a slice's spare places count too). A statement '..UptoSaid' is the law's where the arguments, and the package variables that the reading takes, are together of bulk at most 1048576: NARROWER than '..Said'. Prove '..Said' where nothing that the law and all that it calls make is longer than what came in: it says more and counts as full. Else prove '..UptoSaid'. A law counts once. -/
mutual
def uptoBulk {H : Type} : DataW H → Nat
  | .lit (.string bytes) => bytes.length + 1
  | .lit _ => 1
  | .nil => 1
  | .ptr d => uptoBulk d + 1
  | .slice elems spare => uptoBulkAll elems + uptoBulkAll spare + 1
  | .agg parts => uptoBulkAll parts + 1
  | .iface _ d => uptoBulk d + 1
  | .map entries => uptoBulkEntries entries + 1
  | .held _ => 1
def uptoBulkAll {H : Type} : List (DataW H) → Nat
  | [] => 0
  | d :: r => uptoBulk d + uptoBulkAll r
def uptoBulkEntries {H : Type} : List (Lit × DataW H) → Nat
  | [] => 0
  | x :: r => uptoBulkEntry x + uptoBulkEntries r
def uptoBulkEntry {H : Type} : Lit × DataW H → Nat
  | (.string bytes, d) => bytes.length + uptoBulk d + 1
  | (_, d) => uptoBulk d + 1
 end
def uptoSmall : (H : Type) → List (DataW H) → Bool := fun _ ds => decide (uptoBulkAll ds ≤ 1048576)
def OpenSpec.upto (s : _root_.Go.ChangeSpec) : _root_.Go.OpenSpec := { _root_.Go.OpenSpec.ofChange s with cond := some uptoSmall }

/-- 'concertinalaw11.DeflateMeans', WHERE WHAT IT READS IS OF BULK AT MOST 1048576: true; the input reads as it did. -/
def deflateMeansUptoRow : OpenClaim := { program := "ytdmnfjicjjlnnaagreatdoor", sum := "b33c91f44d23d20c77adf4594af0142d7bd3eefb9f1149532bcf503d7d0011fd", func := "concertina/concertinalaw11.DeflateMeans", spec := "deflateMeans", unfollowed := true, recurses := true, named := ["concertina/match.levels", "concertina/block.order"], plainKeys := false, apart := false, laid := [("concertina/match.levels", laid_concertina_match_levels), ("concertina/block.order", laid_concertina_block_order)], narrowed := true }
def DeflateMeansUptoSaid : Prop := deflateMeansUptoRow.holds Tryz.pinned (OpenSpec.upto deflateMeansSpec)

/-- 'concertinalaw11.DeflateFlush', WHERE WHAT IT READS IS OF BULK AT MOST 1048576: true; the input reads as it did. -/
def deflateFlushUptoRow : OpenClaim := { program := "ytdmnfjicjjlnnaagreatdoor", sum := "b33c91f44d23d20c77adf4594af0142d7bd3eefb9f1149532bcf503d7d0011fd", func := "concertina/concertinalaw11.DeflateFlush", spec := "deflateFlush", unfollowed := true, recurses := true, named := ["concertina/match.levels", "concertina/block.order"], plainKeys := false, apart := false, laid := [("concertina/match.levels", laid_concertina_match_levels), ("concertina/block.order", laid_concertina_block_order)], narrowed := true }
def DeflateFlushUptoSaid : Prop := deflateFlushUptoRow.holds Tryz.pinned (OpenSpec.upto deflateFlushSpec)

/-- 'concertinalaw11.DeflateOver', WHERE WHAT IT READS IS OF BULK AT MOST 1048576: true; the input reads as it did. -/
def deflateOverUptoRow : OpenClaim := { program := "ytdmnfjicjjlnnaagreatdoor", sum := "b33c91f44d23d20c77adf4594af0142d7bd3eefb9f1149532bcf503d7d0011fd", func := "concertina/concertinalaw11.DeflateOver", spec := "deflateOver", unfollowed := true, recurses := true, named := ["concertina/match.levels", "concertina/block.order"], plainKeys := false, apart := false, laid := [("concertina/match.levels", laid_concertina_match_levels), ("concertina/block.order", laid_concertina_block_order)], narrowed := true }
def DeflateOverUptoSaid : Prop := deflateOverUptoRow.holds Tryz.pinned (OpenSpec.upto deflateOverSpec)

end Rows
end Go.Proofs.YtdmnfjicjjlnnaaGreatDoor
