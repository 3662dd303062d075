/-
  An append to an own slice, among what a call holds. No program is named here.
-/
import Derived.Test.YtkdmdbojcdonpaaGreatDoorSep
namespace Go.Proofs.YtkdmdbojcdonpaaGreatDoor
set_option maxRecDepth 5000
open Go.RowKit

theorem wpList_app_held {P : Program} {w0 w : World} {Rs : List Thing} {ops : Array Oper} {rest : List Oper} {o : Oper} {a : Act} {Q : Exit → Act → World → Prop} (hgd : o.guard = none) (s x : Operand) (t : TypeId)
    (ho : o.op = .call { callee := .builtin .append, args := #[s, x], argTypes := #[t, t] })
    (e : TypeId) (i : TypeInfo) (z : Value) (size bytes : Nat) (ht : P.underlying t = some (.slice e)) (hi : P.info? e = some i) (hz : i.zero = some z)
    (hsize : i.size = size) (hby : i.bytes = bytes) (hzs : z.cells.size = size) (hsz : 0 < size)
    (v : Value) (n : Nat) (xs : List Value) (hs : a.eval s = v) (hh : Held w0 w (ownT e size v n xs :: Rs))
    (y : Value) (m : Nat) (news : List Value) (hx : a.eval x = y) (hsrc : Rd w size y m news) (h1 : ∀ u ∈ news, u.oneCell' = true) (N : Nat) (hN : N = n + m)
    (h63 : N ≤ maxLen) (hbytes : N * bytes ≤ 140737488355328)
    (h : ∀ ao cap w', Held w0 w' (ownT e size (.slice ao N cap) N (xs ++ news) :: Rs) → wpList P ops Q rest (a.put o.dst (.slice ao N cap)) w') : wpList P ops Q (o :: rest) a w := by
  subst hN
  exact wpList_app _ hgd s x t ho e i z size bytes ht hi hz hsize hby hzs hsz v n xs hs hh.own y m news hx hsrc h1 h63 hbytes fun ao cap w' h2 h3 h4 => h ao cap w' (hh.app h2 h3 h4)
/-- the same, behind '&&' or '||' -/
theorem wpList_app_held' {P : Program} {w0 w : World} {Rs : List Thing} {ops : Array Oper} {rest : List Oper} {o : Oper} {a : Act} {Q : Exit → Act → World → Prop} (hgd : Region.wanted o (yielded ops a.tmps) = true) (s x : Operand) (t : TypeId)
    (ho : o.op = .call { callee := .builtin .append, args := #[s, x], argTypes := #[t, t] })
    (e : TypeId) (i : TypeInfo) (z : Value) (size bytes : Nat) (ht : P.underlying t = some (.slice e)) (hi : P.info? e = some i) (hz : i.zero = some z)
    (hsize : i.size = size) (hby : i.bytes = bytes) (hzs : z.cells.size = size) (hsz : 0 < size)
    (v : Value) (n : Nat) (xs : List Value) (hs : a.eval s = v) (hh : Held w0 w (ownT e size v n xs :: Rs))
    (y : Value) (m : Nat) (news : List Value) (hx : a.eval x = y) (hsrc : Rd w size y m news) (h1 : ∀ u ∈ news, u.oneCell' = true) (N : Nat) (hN : N = n + m)
    (h63 : N ≤ maxLen) (hbytes : N * bytes ≤ 140737488355328)
    (h : ∀ ao cap w', Held w0 w' (ownT e size (.slice ao N cap) N (xs ++ news) :: Rs) → wpList P ops Q rest (a.put o.dst (.slice ao N cap)) w') : wpList P ops Q (o :: rest) a w := by
  subst hN
  exact BigFrame.wpList_want hgd fun _ hK => wp_app w s x t ho e i z size bytes ht hi hz hsize hby hzs hsz v n xs hs hh.own y m news hx hsrc h1 h63 hbytes fun ao cap w' h2 h3 h4 => hK _ _ (h ao cap w' (hh.app h2 h3 h4))
end Go.Proofs.YtkdmdbojcdonpaaGreatDoor
