/-
  The law GzipParses.
-/
import Derived.Test.YtkdmdbojcdonpaaGreatDoorLawGz0
import Derived.Test.YtkdmdbojcdonpaaGreatDoorHdrR2
import Derived.Test.YtkdmdbojcdonpaaGreatDoorHdrS
import Derived.Test.YtkdmdbojcdonpaaGreatDoorHdrInv
import Derived.Test.YtkdmdbojcdonpaaGreatDoorOpen
namespace Go.Proofs.YtkdmdbojcdonpaaGreatDoor
set_option maxRecDepth 5000
open Go.RowKit

def shGB : Shape Tryz.prog Int := shInt 5 .u8 Tryz.underlying5 (by kernel_rfl)
def shGBs : Shape Tryz.prog (List Int) := shSlice shGB 25 Tryz.underlying25 (by kernel_rfl) (by decide)
theorem gbs_of {w : World} {v : Value} {l : List Int} (h : shGBs.good w [v] l) : ∃ bs : List Nat, (∀ b ∈ bs, b < 256) ∧ Rd w 1 v bs.length (u8s bs) := by
  obtain ⟨v', hv, hs⟩ := h
  obtain rfl : v = v' := by simpa using hv
  obtain ⟨b, _, h1, h2⟩ := hs.bytes
  exact ⟨b, h1, h2⟩
theorem wpList_load_hdrG {P : Program} {w : World} {B : Nat} {ops : Array Oper} {rest : List Oper} {o : Oper} {ac : Act} {Q : Exit → Act → World → Prop} (hgd : Region.wanted o (yielded ops ac.tmps) = true) (t : TypeId) (x : Operand) (ho : o.op = .load t x) (d : TypeDesc) (n : Nat) (ht : P.underlying t = some d) (hd : isArr d = true) (hi : (P.info? t).map (·.size) = some n)
    (cs : List Value) (T : TypeId) (hx : ac.eval x = .pointer (some ⟨B, 0, none⟩)) (hl : cs.length = n) (hB : Blk w B cs T) (h : wpList P ops Q rest (ac.put o.dst (.agg cs.toArray)) w) : wpList P ops Q (o :: rest) ac w :=
  BigFrame.wpList_want hgd fun _ hK => wp_load_row t x ho B hx T cs.toArray (0, 0) d hB ht (by cases d <;> simp_all [isArr]) (by rw [hi]; simp [hl]) (hK _ _ h)
end Go.Proofs.YtkdmdbojcdonpaaGreatDoor
