/-
  A slice that a call reads: handed in, or made by the call beside other things. No program is named here.
-/
import Derived.Test.YtolapfhajbldiaaHeld
namespace Go.Proofs.Ytolapfhajbldiaa
open Go.RowKit

/-- the things Rs are held, and v is a slice that the call was handed, or one of its own beside them -/
def Src (w0 w : World) (Rs : List Thing) (e : TypeId) (v : Value) (n : Nat) (xs : List Value) : Prop :=
  (Held w0 w Rs ∧ Rd w0 1 v n xs) ∨ Held w0 w (ownT e 1 v n xs :: Rs)
section
variable {w0 w w' : World} {Rs : List Thing} {e : TypeId} {v : Value} {n : Nat} {xs : List Value}
theorem Src.rd (h : Src w0 w Rs e v n xs) : Rd w 1 v n xs := by
  rcases h with ⟨h1, h2⟩ | h
  · exact h1.old h2
  · exact h.own.rd
theorem Src.held (h : Src w0 w Rs e v n xs) : Held w0 w Rs := by
  rcases h with ⟨h1, _⟩ | h
  · exact h1
  · exact h.drop
theorem Src.same (h : Src w0 w Rs e v n xs) (hm : Mod w w' (fun _ => False)) : Src w0 w' Rs e v n xs := by
  rcases h with ⟨h1, h2⟩ | h
  · exact .inl ⟨h1.same hm, h2⟩
  · exact .inr (h.same hm)
theorem Src.alloc (h : Src w0 w Rs e v n xs) (o : Obj) : Src w0 (w.alloc o) Rs e v n xs := h.same ((Mod.refl w _).alloc o)
theorem Src.map {R R' : Thing} (h : Src w0 w [R] e v n xs) (f : ∀ Rs, Held w0 w (R :: Rs) → Held w0 w' (R' :: Rs)) : Src w0 w' [R'] e v n xs := by
  rcases h with ⟨h1, h2⟩ | h
  · exact .inl ⟨f [] h1, h2⟩
  · exact .inr (f _ h.swap).swap
end
end Go.Proofs.Ytolapfhajbldiaa
