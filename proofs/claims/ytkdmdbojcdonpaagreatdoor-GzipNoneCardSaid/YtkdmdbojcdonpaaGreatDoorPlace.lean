/-
  A struct that lies somewhere in a whole object (Place): its cells, among those of the object; the object as a thing. No program is named here.
-/
import Derived.Test.YtkdmdbojcdonpaaGreatDoorSep
namespace Go.Proofs.YtkdmdbojcdonpaaGreatDoor
set_option maxRecDepth 5000
open Go.RowKit

/-- where a struct lies: the block, the first cell, what stands ahead of it and behind it in the object -/
structure Place where
  b : Nat
  o : Nat
  pre : List Value
  post : List Value
  T : TypeId
  len : pre.length = o
def Place.whole (b : Nat) (T : TypeId) : Place := ⟨b, 0, [], [], T, rfl⟩
theorem Blk.cell0 {w : World} {B : Nat} {cs : List Value} {T : TypeId} (h : Blk w B cs T) {v : Value} (hv : cs[0]? = some v) : w.cell? ⟨B, 0, none⟩ = some v := h.cell hv
theorem Blk.frozen0 {w : World} {B : Nat} {cs : List Value} {T : TypeId} (h : Blk w B cs T) : w.frozen? ⟨B, 0, none⟩ = false := h.frozen 0
def BlkP (w : World) (p : Place) (cs : List Value) : Prop := Blk w p.b (p.pre ++ (cs ++ p.post)) p.T
section
variable {w w' : World} {p : Place} {cs : List Value}
theorem BlkP.lt (h : BlkP w p cs) : p.b < w.heap.size := Blk.lt h
theorem BlkP.cell (h : BlkP w p cs) {i : Nat} {v : Value} (hv : cs[i]? = some v) : w.cell? ⟨p.b, p.o + i, none⟩ = some v := by
  refine Blk.cell h ?_
  have hi := (List.getElem?_eq_some_iff.1 hv).1
  rw [← p.len, List.getElem?_append_right (by omega), Nat.add_sub_cancel_left, List.getElem?_append_left hi]
  exact hv
theorem BlkP.cell0 (h : BlkP w p cs) {v : Value} (hv : cs[0]? = some v) : w.cell? ⟨p.b, p.o, none⟩ = some v := h.cell (i := 0) hv
theorem BlkP.frozen (h : BlkP w p cs) (i : Nat) : w.frozen? ⟨p.b, p.o + i, none⟩ = false := Blk.frozen h _
theorem BlkP.frozen0 (h : BlkP w p cs) : w.frozen? ⟨p.b, p.o, none⟩ = false := Blk.frozen h _
theorem place_set (p : Place) (cs : List Value) (i : Nat) (u : Value) (hi : i < cs.length) : (p.pre ++ (cs ++ p.post)).set (p.o + i) u = p.pre ++ (cs.set i u ++ p.post) := by
  rw [List.set_append_right _ _ (by have := p.len; omega), show p.o + i - p.pre.length = i by have := p.len; omega, List.set_append_left _ _ hi]
theorem BlkP.set (h : BlkP w p cs) (i : Nat) (u : Value) (hi : i < cs.length := by exact Nat.le_of_ble_eq_true rfl) : BlkP (w.setCell ⟨p.b, p.o + i, none⟩ u) p (cs.set i u) := by
  unfold BlkP
  rw [← place_set p cs i u hi]
  exact Blk.set h _ _
theorem BlkP.set0 (h : BlkP w p cs) (u : Value) (hi : 0 < cs.length := by exact Nat.le_of_ble_eq_true rfl) : BlkP (w.setCell ⟨p.b, p.o, none⟩ u) p (cs.set 0 u) := h.set 0 u hi
theorem BlkP.kept (h : BlkP w p cs) {S : Nat → Prop} (hm : Mod w w' S) (hs : ¬ S p.b) : BlkP w' p cs := Blk.kept h hm hs
theorem BlkP.alloc (h : BlkP w p cs) (o : Obj) : BlkP (w.alloc o) p cs := Blk.alloc h o
theorem BlkP.grown (h : BlkP w p cs) {row : Option Nat} (hg : w.grownBy w' row) (hr : row ≠ some p.b) : BlkP w' p cs := Blk.grown h hg hr
theorem BlkP.drew (h : BlkP w p cs) : BlkP w.drew p cs := h
theorem BlkP.new (w : World) (cs : List Value) (T : TypeId) : BlkP (w.alloc (.cells cs.toArray T)) (.whole w.heap.size T) cs := by
  have h := Blk.new w cs T
  show Blk _ _ ([] ++ (cs ++ [])) T
  rw [List.append_nil]
  exact h
end
def objP (p : Place) (cs : List Value) : Thing := objT p.b (p.pre ++ (cs ++ p.post)) p.T
theorem objP_whole (B : Nat) (cs : List Value) (T : TypeId) : objP (.whole B T) cs = objT B cs T := by
  show objT B ([] ++ (cs ++ [])) T = _
  rw [List.append_nil]; rfl
section
variable {w0 w : World} {p : Place} {cs : List Value} {Rs : List Thing}
theorem Held.objp (h : Held w0 w (objP p cs :: Rs)) : BlkP w p cs := Held.obj h
theorem Held.setObjP (h : Held w0 w (objP p cs :: Rs)) (i : Nat) (u : Value) (hi : i < cs.length := by exact Nat.le_of_ble_eq_true rfl) : Held w0 (w.setCell ⟨p.b, p.o + i, none⟩ u) (objP p (cs.set i u) :: Rs) := by
  unfold objP
  rw [← place_set p cs i u hi]
  exact Held.setObj h _ _
theorem Held.setObjP0 (h : Held w0 w (objP p cs :: Rs)) (u : Value) (hi : 0 < cs.length := by exact Nat.le_of_ble_eq_true rfl) : Held w0 (w.setCell ⟨p.b, p.o, none⟩ u) (objP p (cs.set 0 u) :: Rs) := h.setObjP 0 u hi
theorem Held.newObjP (h : Held w0 w Rs) (cs : List Value) (T : TypeId) : Held w0 (w.alloc (.cells cs.toArray T)) (objP (.whole w.heap.size T) cs :: Rs) := by
  rw [objP_whole]
  exact h.newObj cs T
theorem Held.apartP {e : TypeId} {size n : Nat} {v : Value} {xs : List Value} (h : Held w0 w (objP p cs :: ownT e size v n xs :: Rs)) : v.ownBlock ≠ some p.b := Held.apart h
end
end Go.Proofs.YtkdmdbojcdonpaaGreatDoor
