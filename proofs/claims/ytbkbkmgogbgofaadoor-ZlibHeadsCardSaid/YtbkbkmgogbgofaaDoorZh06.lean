/-
  The reference's Codes.
-/
import Derived.Test.YtbkbkmgogbgofaaDoorZh05
import Derived.Test.YtbkbkmgogbgofaaDoorProg
import Derived.Test.YtbkbkmgogbgofaaDoorZh01
import Derived.Test.YtbkbkmgogbgofaaDoorZh02
import Derived.Test.YtbkbkmgogbgofaaDoorZh04
import Derived.Test.YtbkbkmgogbgofaaDoorZh03
import Derived.StillTailTactics
import Derived.Deep.DeepMust
import Derived.Deep.RegionHeld3
namespace Go.Proofs.YtbkbkmgogbgofaaDoor
set_option maxRecDepth 5000
open Go.RowKit
end Go.Proofs.YtbkbkmgogbgofaaDoor
/-
  The contracts of the reference package's functions on bits: Of, Number, Bits, Bytes, Even, Same.
-/
namespace Go.Proofs.YtbkbkmgogbgofaaDoor
set_option maxRecDepth 5000
open Go.RowKit
/-! ### Bytes -/
/-! ### Even -/
/-! ### Same -/
end Go.Proofs.YtbkbkmgogbgofaaDoor
/-
  An append to an own slice, among what a call holds. No program is named here.
-/
namespace Go.Proofs.YtbkbkmgogbgofaaDoor
set_option maxRecDepth 5000
open Go.RowKit
theorem wpList_app_held {P : Program} {w0 w : World} {Rs : List Thing} {ops : Array Oper} {rest : List Oper} {o : Oper} {a : Act} {Q : Exit → Act → World → Prop} (hgd : o.guard = none) (s x : Operand) (t : TypeId)
    (ho : o.op = .call { callee := .builtin .append, args := #[s, x], argTypes := #[t, t] })
    (e : TypeId) (i : TypeInfo) (z : Value) (size bytes : Nat) (ht : P.underlying t = some (.slice e)) (hi : P.info? e = some i) (hz : i.zero = some z)
    (hsize : i.size = size) (hby : i.bytes = bytes) (hzs : z.cells.size = size) (hsz : 0 < size)
    (v : Value) (n : Nat) (xs : List Value) (hs : a.eval s = v) (hh : Held w0 w (ownT e size v n xs :: Rs))
    (y : Value) (m : Nat) (news : List Value) (hx : a.eval x = y) (hsrc : Rd w size y m news) (h1 : ∀ u ∈ news, u.oneCell' = true) (N : Nat) (hN : N = n + m)
    (h63 : N ≤ maxLen) (hbytes : N * bytes ≤ 140737488355328)
    (h : ∀ ao cap w', Held w0 w' (ownT e size (.slice ao N cap) N (xs ++ news) :: Rs) → wpList P ops Q rest (a.put o.dst (.slice ao N cap)) w') : wpList P ops Q (o :: rest) a w := by
  subst hN
  exact wpList_app _ hgd s x t ho e i z size bytes ht hi hz hsize hby hzs hsz v n xs hs hh.own y m news hx hsrc h1 h63 hbytes fun ao cap w' h2 h3 h4 => h ao cap w' (hh.app h2 h3 h4)
end Go.Proofs.YtbkbkmgogbgofaaDoor
/-
  The reference's Read and Bits.
-/
namespace Go.Proofs.YtbkbkmgogbgofaaDoor
set_option maxRecDepth 5000
open Go.RowKit
end Go.Proofs.YtbkbkmgogbgofaaDoor
/-
  Things side by side, as many as a list names, as one thing; one of them taken out and put back. No program is named here.
-/
namespace Go.Proofs.YtbkbkmgogbgofaaDoor
set_option maxRecDepth 5000
open Go.RowKit
def noT : Thing where
  res := fun _ F => ∀ k, ¬ F k
  loc := fun _ _ _ _ h _ _ => h
def allT : List Thing → Thing
  | [] => noT
  | R :: L => andT R (allT L)
section
variable {w0 w : World}
theorem Held.noT {Rs : List Thing} (h : Held w0 w Rs) : Held w0 w (noT :: Rs) := h.push _ (fun _ => False) (fun _ h => h) (Mod.refl w _) (fun _ h => h.elim)
theorem Held.all : ∀ {L Rs : List Thing}, Held w0 w (L ++ Rs) → Held w0 w (allT L :: Rs)
  | [], _, h => h.noT
  | R :: L, Rs, h => by
    have h1 : Held w0 w (L ++ R :: Rs) := h.perm List.perm_middle.symm
    exact (Held.all h1).swap.pair
theorem Held.unall : ∀ {L Rs : List Thing}, Held w0 w (allT L :: Rs) → Held w0 w (L ++ Rs)
  | [], _, h => h.drop
  | R :: L, Rs, h => by
    have h1 : Held w0 w (L ++ R :: Rs) := Held.unall (Held.unpair h).swap
    exact h1.perm List.perm_middle
theorem allT_perm {L L' Rs : List Thing} (h : Held w0 w (allT L :: Rs)) (hp : L.Perm L') : Held w0 w (allT L' :: Rs) :=
  Held.all (h.unall.perm (hp.append_right Rs))
theorem eraseIdx_perm {R : Thing} : ∀ (L : List Thing) (i : Nat), L[i]? = some R → (R :: L.eraseIdx i).Perm L
  | [], i, h => by simp at h
  | a :: L, 0, h => by
    simp only [List.getElem?_cons_zero, Option.some.injEq] at h
    subst h; exact List.Perm.refl _
  | a :: L, i + 1, h => by
    have ih := eraseIdx_perm L i (by simpa using h)
    exact (List.Perm.swap a R _).trans (List.Perm.cons a ih)
theorem Held.allOut {L Rs : List Thing} {i : Nat} {R : Thing} (h : Held w0 w (allT L :: Rs)) (hi : L[i]? = some R) : Held w0 w (R :: allT (L.eraseIdx i) :: Rs) := by
  exact Held.unpair (allT_perm (L' := R :: L.eraseIdx i) h (eraseIdx_perm L i hi).symm)
theorem Held.allBack {L Rs : List Thing} {i : Nat} {R : Thing} (h : Held w0 w (R :: allT (L.eraseIdx i) :: Rs)) (hi : i < L.length) : Held w0 w (allT (L.set i R) :: Rs) := by
  have h1 : Held w0 w (allT (R :: L.eraseIdx i) :: Rs) := h.pair
  have h2 := eraseIdx_perm (L.set i R) i (List.getElem?_set_self hi)
  rw [List.eraseIdx_set_eq] at h2
  exact allT_perm h1 h2
theorem HeldU.frame {w w' : World} {Rs : List Thing} (h : Held w0 w Rs) : ∀ {Ts : List Thing} {U V : Nat → Prop}, HeldU w w' U Ts → (∀ k, V k → U k) → (∀ k, V k → w.heap.size ≤ k) → HeldU w0 w' V (Ts ++ Rs)
  | [], _, _, hm, _, hw => by
    have hM : Mod w w' (fun _ => False) := hm
    exact (HeldU.more h (fun k hk => .inr (hw k hk))).step hM (fun _ h => h.elim) (fun _ h => h.elim)
  | _ :: _, _, _, ⟨F, h1, h2, h3⟩, hv, hw =>
    ⟨F, h1, fun k hk => ⟨Nat.le_trans h.mod.size (h2 k hk).1, (h2 k hk).2.1, fun hV => (h2 k hk).2.2 (hv k hV)⟩,
      HeldU.frame h h3 (fun k hk => hk.imp (hv k) id) (fun k hk => hk.elim (hw k) fun hf => (h2 k hf).1)⟩
theorem Held.frame {w w' : World} {Rs Ts : List Thing} (h : Held w0 w Rs) (h2 : Held w w' Ts) : Held w0 w' (Ts ++ Rs) := HeldU.frame h h2 (fun _ h => h) (fun _ h => h.elim)
theorem Held.litN {w : World} {Rs : List Thing} (h : Held w0 w Rs) (e : TypeId) (size : Nat) (cs : List Value) (n : Nat) (hm : n ≤ maxLen) (hs : cs.length = n * size) (N : Nat) (hN : w.heap.size = N) :
    Held w0 (w.alloc (.cells cs.toArray e)) (ownT e size (.slice (some ⟨N, 0, none⟩) n n) n cs :: Rs) := by
  subst hN
  exact h.lit e size cs n hm hs
end
end Go.Proofs.YtbkbkmgogbgofaaDoor
/-
  The reference's Expand.
-/
namespace Go.Proofs.YtbkbkmgogbgofaaDoor
set_option maxRecDepth 5000
open Go.RowKit
end Go.Proofs.YtbkbkmgogbgofaaDoor
/-
  The reference's stream in memory; its take, emit.
-/
namespace Go.Proofs.YtbkbkmgogbgofaaDoor
set_option maxRecDepth 5000
open Go.RowKit
section
variable {w0 w : World} {Rs : List Thing}
theorem take_some {bs : List Nat} {a n v : Nat} (h : takeM bs a n = some v) : a + n ≤ bs.length ∧ v = numOf ((bs.drop a).take n) := by
  unfold takeM at h
  split at h
  · rename_i hc
    simp only [Option.some.injEq] at h
    exact ⟨hc, h.symm⟩
  · cases h
end
end Go.Proofs.YtbkbkmgogbgofaaDoor
/-
  The reference's stream: symbol, fixed.
-/
namespace Go.Proofs.YtbkbkmgogbgofaaDoor
set_option maxRecDepth 5000
open Go.RowKit
section
variable {w0 w : World} {Rs : List Thing}
def fixAt (i : Nat) : Int := if 144 ≤ i ∧ i < 256 then 9 else if 256 ≤ i ∧ i < 280 then 7 else 8
def fixLit : List Int := (List.range 288).map fixAt
def fixDist : List Int := List.replicate 32 5
end
end Go.Proofs.YtbkbkmgogbgofaaDoor
/-
  The reference's stream: stored.
-/
namespace Go.Proofs.YtbkbkmgogbgofaaDoor
set_option maxRecDepth 5000
open Go.RowKit
section
variable {w0 w : World} {Rs : List Thing}
theorem num16_lt {all : List Nat} (hb : isBits all) (a n : Nat) : numOf ((all.drop a).take n) < 2 ^ n := by
  refine Nat.lt_of_lt_of_le (numOf_lt _ (isBits_take (isBits_drop hb a) n)) (Nat.pow_le_pow_right (by decide) (List.length_take_le _ _))
end
end Go.Proofs.YtbkbkmgogbgofaaDoor
/-
  The model of tokens, case by case. No program is named here.
-/
namespace Go.Proofs.YtbkbkmgogbgofaaDoor
set_option maxRecDepth 5000
section
variable {lit dist : List Int} {bs : List Nat} {M a k n e : Nat} {out : List Nat} {tk : List Tok}
variable {a1 c more k2 n2 e2 : Nat}
variable {a3 q L far : Nat}
end
end Go.Proofs.YtbkbkmgogbgofaaDoor
/-
  The reference's codes of lengths and distances.
-/
namespace Go.Proofs.YtbkbkmgogbgofaaDoor
set_option maxRecDepth 5000
open Go.RowKit
end Go.Proofs.YtbkbkmgogbgofaaDoor
/-
  The reference's stream: a block's tokens.
-/
namespace Go.Proofs.YtbkbkmgogbgofaaDoor
set_option maxRecDepth 5000
open Go.RowKit
section
variable {w0 w : World} {Rs : List Thing}
theorem sym_facts {l : List Int} {r : List Nat} {k n : Nat} (h : symF l r = (k, n, 0)) : k < l.length ∧ 1 ≤ n ∧ n ≤ r.length := by
  have hh := symF_hit (l := l) (r := r) (by rw [h])
  rw [h] at hh
  exact ⟨(List.getElem?_eq_some_iff.1 hh.1).1, hh.2.1, hh.2.2.1⟩
theorem lB_more : ∀ c, c < 29 → lB c + 2 ^ lX c ≤ 259 := by decide +kernel
theorem dB_more : ∀ c, c < 30 → dB c + 2 ^ dX c ≤ 32769 := by decide +kernel
end
end Go.Proofs.YtbkbkmgogbgofaaDoor
/-
  The model of a dynamic block's codes. No program is named here.
-/
namespace Go.Proofs.YtbkbkmgogbgofaaDoor
set_option maxRecDepth 5000
/-! ### The codes that a block has -/
def orderF : List Nat := [16, 17, 18, 0, 8, 7, 9, 6, 10, 5, 11, 4, 12, 3, 13, 2, 14, 1, 15]
def headF (bs : List Nat) (a : Nat) : Nat → List Int
  | 0 => List.replicate 19 0
  | i + 1 => (headF bs a i).set (orderF[i]?.getD 0) (numOf ((bs.drop (a + 3 * i)).take 3) : Int)
def anyF (bs : List Nat) (a : Nat) : Nat → Bool
  | 0 => false
  | i + 1 => anyF bs a i || decide (0 < numOf ((bs.drop (a + 3 * i)).take 3))
noncomputable def lenStep (head : List Int) (bs : List Nat) (N a : Nat) (l : List Int) : Bool × Nat × Nat × List Int :=
  if (symF head (bs.drop a)).2.2 ≠ 0 then (true, (symF head (bs.drop a)).2.2, a, l)
  else lenRun bs N (a + (symF head (bs.drop a)).2.1) (symF head (bs.drop a)).1 l
where
  lenRun (bs : List Nat) (N a1 k : Nat) (l : List Int) : Bool × Nat × Nat × List Int :=
    if k < 16 then (false, 0, a1, l ++ [(k : Int)])
    else if k = 16 ∧ l = [] then (true, 2, a1, l)
    else match takeM bs a1 (if k = 17 then 3 else if k = 18 then 7 else 2) with
      | none => (true, 5, a1, l)
      | some more =>
        if N < l.length + ((if k = 18 then 11 else 3) + more) then (true, 2, a1 + (if k = 17 then 3 else if k = 18 then 7 else 2), l)
        else (false, 0, a1 + (if k = 17 then 3 else if k = 18 then 7 else 2), l ++ List.replicate ((if k = 18 then 11 else 3) + more) (if k = 16 then l.getLast?.getD 0 else 0))
section
variable {head : List Int} {bs : List Nat} {N a k n e a1 more : Nat} {l : List Int}
theorem len_err (h : symF head (bs.drop a) = (k, n, e)) (he : e ≠ 0) : lenStep head bs N a l = (true, e, a, l) := by
  unfold lenStep; rw [h]; exact if_pos he
theorem len_run (h : symF head (bs.drop a) = (k, n, 0)) : lenStep head bs N a l = lenStep.lenRun bs N (a + n) k l := by
  unfold lenStep; rw [h]; exact if_neg (fun h => h rfl)
theorem run_one (h : k < 16) : lenStep.lenRun bs N a1 k l = (false, 0, a1, l ++ [(k : Int)]) := by
  unfold lenStep.lenRun; exact if_pos h
theorem run_none (h : k = 16) (hl : l = []) : lenStep.lenRun bs N a1 k l = (true, 2, a1, l) := by
  unfold lenStep.lenRun; rw [if_neg (by omega)]; exact if_pos ⟨h, hl⟩
variable {wd ba : Nat}
theorem run_end (h : ¬ k < 16) (hl : ¬ (k = 16 ∧ l = [])) (hw : wd = if k = 17 then 3 else if k = 18 then 7 else 2) (ht : takeM bs a1 wd = none) : lenStep.lenRun bs N a1 k l = (true, 5, a1, l) := by
  subst hw
  unfold lenStep.lenRun; rw [if_neg h, if_neg hl, ht]
theorem run_long (h : ¬ k < 16) (hl : ¬ (k = 16 ∧ l = [])) (hw : wd = if k = 17 then 3 else if k = 18 then 7 else 2) (hb : ba = if k = 18 then 11 else 3) (ht : takeM bs a1 wd = some more) (hN : N < l.length + (ba + more)) : lenStep.lenRun bs N a1 k l = (true, 2, a1 + wd, l) := by
  subst hw; subst hb
  unfold lenStep.lenRun; rw [if_neg h, if_neg hl, ht]; exact if_pos hN
theorem run_more (h : ¬ k < 16) (hl : ¬ (k = 16 ∧ l = [])) (hw : wd = if k = 17 then 3 else if k = 18 then 7 else 2) (hb : ba = if k = 18 then 11 else 3) (ht : takeM bs a1 wd = some more) (hN : ¬ N < l.length + (ba + more)) : lenStep.lenRun bs N a1 k l = (false, 0, a1 + wd, l ++ List.replicate (ba + more) (if k = 16 then l.getLast?.getD 0 else 0)) := by
  subst hw; subst hb
  unfold lenStep.lenRun; rw [if_neg h, if_neg hl, ht]; exact if_neg hN
end
theorem headF_length (bs : List Nat) (a : Nat) : ∀ i, (headF bs a i).length = 19
  | 0 => by simp [headF]
  | i + 1 => by rw [headF, List.length_set]; exact headF_length bs a i
end Go.Proofs.YtbkbkmgogbgofaaDoor
/-
  The reference's stream, block by block: a model, and how far a block can grow what came out. No walk is in here.
-/
namespace Go.Proofs.YtbkbkmgogbgofaaDoor
set_option maxRecDepth 5000
theorem lenStep_grow {head : List Int} {bs : List Nat} {N a a' : Nat} {l l' : List Int} {b : Bool} (h : lenStep head bs N a l = (b, 0, a', l')) (hn : ¬ N ≤ l.length) (ha : a ≤ bs.length) : a < a' ∧ a' ≤ bs.length ∧ l'.length ≤ N := by
  unfold lenStep at h
  split at h
  · rename_i h0
    simp only [Prod.mk.injEq] at h
    exact absurd h.2.1 h0
  · rename_i h0
    obtain ⟨k, n, e1, hs⟩ : ∃ k n e1, symF head (bs.drop a) = (k, n, e1) := ⟨_, _, _, rfl⟩
    rw [hs] at h h0
    simp only [Decidable.not_not] at h h0
    subst h0
    obtain ⟨_, h1, h2⟩ := sym_facts hs
    rw [List.length_drop] at h2
    unfold lenStep.lenRun at h
    generalize (if k = 17 then 3 else if k = 18 then 7 else 2) = wd at h
    generalize (if k = 18 then 11 else 3) = ba at h
    generalize (if k = 16 then l.getLast?.getD 0 else 0) = y at h
    split at h
    · simp only [Prod.mk.injEq] at h
      obtain ⟨_, _, rfl, rfl⟩ := h
      simp only [List.length_append, List.length_cons, List.length_nil]
      omega
    · split at h
      · simp only [Prod.mk.injEq] at h
        omega
      · split at h
        · simp only [Prod.mk.injEq] at h
          omega
        · rename_i more ht
          have h3 := (take_some ht).1
          split at h
          · simp only [Prod.mk.injEq] at h
            omega
          · rename_i h4
            simp only [Prod.mk.injEq] at h
            obtain ⟨_, _, rfl, rfl⟩ := h
            rw [List.length_append, List.length_replicate]
            exact ⟨by omega, h3, by omega⟩
theorem lenStep_on {head : List Int} {bs : List Nat} {N a : Nat} {l : List Int} {X : Nat × Nat × List Int} (h : lenStep head bs N a l = (false, X)) : X.1 = 0 := by
  unfold lenStep at h
  split at h
  · cases h
  · unfold lenStep.lenRun at h
    generalize (symF head (bs.drop a)).1 = k at h
    generalize (if k = 17 then 3 else if k = 18 then 7 else 2) = wd at h
    generalize (if k = 18 then 11 else 3) = ba at h
    generalize (if k = 16 then l.getLast?.getD 0 else 0) = y at h
    split at h
    · cases h; rfl
    · split at h
      · cases h
      · split at h
        · cases h
        · split at h
          · cases h
          · cases h; rfl
end Go.Proofs.YtbkbkmgogbgofaaDoor
/-
  A reader of streams as a machine: what is read next, a step, where it ends. More bits behind change no step; a smaller limit changes none before it; what holds in each phase. No walk is in here.
-/
namespace Go.Proofs.YtbkbkmgogbgofaaDoor
set_option maxRecDepth 5000
def takeL (l : List Nat) (n : Nat) : Option Nat := if n ≤ l.length then some (numOf (l.take n)) else none
theorem takeL_some {l : List Nat} {n v : Nat} (h : takeL l n = some v) : n ≤ l.length ∧ v = numOf (l.take n) := by
  unfold takeL at h
  split at h
  · exact ⟨by assumption, (Option.some.inj h).symm⟩
  · cases h
theorem takeL_none {l : List Nat} {n : Nat} (h : takeL l n = none) : l.length < n := by
  unfold takeL at h
  split at h
  · cases h
  · omega
theorem takeM_L {all : List Nat} {a : Nat} (ha : a ≤ all.length) (n : Nat) : takeM all a n = takeL (all.drop a) n := by
  unfold takeM takeL
  rw [List.length_drop]
  by_cases h : a + n ≤ all.length
  · rw [if_pos h, if_pos (by omega)]
  · rw [if_neg h, if_neg (by omega)]
inductive Ph where
  | hd
  | sz (b : Bool)
  | sto (b : Bool) (n : Nat)
  | cnt (b : Bool)
  | thd (b : Bool) (A B C : Nat)
  | len (b : Bool) (A B : Nat) (head ls : List Int)
  | tok (b : Bool) (lit dist : List Int)
  | cop (b : Bool) (lit dist : List Int) (n d : Nat)
inductive MStep where
  | go (p : Ph) (l out : List Nat)
  | done (l : List Nat)
  | err (e : Nat)
def endM (b : Bool) (l out : List Nat) : MStep := if b = true then .done l else .go .hd l out
def lastB (v : Nat) : Bool := decide (v % 2 = 1)
def hdM (l out : List Nat) : MStep :=
  match takeL l 3 with
  | none => .err 5
  | some v => if v / 2 = 0 then .go (.sz (lastB v)) (l.drop 3) out else if v / 2 = 1 then .go (.tok (lastB v) fixLit fixDist) (l.drop 3) out else if v / 2 = 2 then .go (.cnt (lastB v)) (l.drop 3) out else .err 2
def szR (b : Bool) (l out : List Nat) : MStep :=
  if l.length < 32 then .err 5 else if numOf (l.take 16) + numOf ((l.drop 16).take 16) ≠ 65535 then .err 2 else .go (.sto b (numOf (l.take 16))) (l.drop 32) out
def szM (b : Bool) (l out : List Nat) : MStep := szR b (l.drop (l.length % 8)) out
def stoM (M : Nat) (b : Bool) (n : Nat) (l out : List Nat) : MStep :=
  if n = 0 then endM b l out else if l.length < 8 then .err 5 else if M ≤ out.length then .err 6 else .go (.sto b (n - 1)) (l.drop 8) (out ++ [numOf (l.take 8)])
def cntM (b : Bool) (l out : List Nat) : MStep :=
  if l.length < 14 then .err 5
  else if 286 < numOf (l.take 5) + 257 ∨ 30 < numOf ((l.drop 5).take 5) + 1 then .err 2
  else .go (.thd b (numOf (l.take 5) + 257) (numOf ((l.drop 5).take 5) + 1) (numOf ((l.drop 10).take 4) + 4)) (l.drop 14) out
def thdM (b : Bool) (A B C : Nat) (l out : List Nat) : MStep :=
  if l.length < 3 * C then .err 5 else if checkOf (headF l 0 C) 7 ≠ 0 ∨ anyF l 0 C = false then .err 3 else .go (.len b A B (headF l 0 C) []) (l.drop (3 * C)) out
def lenR (b : Bool) (A B : Nat) (head : List Int) (l out : List Nat) (q : Bool × Nat × Nat × List Int) : MStep := if q.1 = true then .err q.2.1 else .go (.len b A B head q.2.2.2) (l.drop q.2.2.1) out
noncomputable def lenM (b : Bool) (A B : Nat) (head ls : List Int) (l out : List Nat) : MStep :=
  if A + B ≤ ls.length then (if checkOf (ls.take A) 15 ≠ 0 ∨ checkOf (ls.drop A) 15 ≠ 0 ∨ ls[256]?.getD 0 = 0 then .err 3 else .go (.tok b (ls.take A) (ls.drop A)) l out)
  else lenR b A B head l out (lenStep head l (A + B) 0 ls)
def farM (b : Bool) (lit dist : List Int) (n q : Nat) (l out : List Nat) : MStep :=
  if 29 < q then .err 3 else match takeL l (dX q) with
    | none => .err 5
    | some far => if out.length < dB q + far then .err 3 else .go (.cop b lit dist n (dB q + far)) (l.drop (dX q)) out
def matR (b : Bool) (lit dist : List Int) (n : Nat) (l out : List Nat) (s : Nat × Nat × Nat) : MStep := if s.2.2 ≠ 0 then .err s.2.2 else farM b lit dist n s.1 (l.drop s.2.1) out
noncomputable def matM (b : Bool) (lit dist : List Int) (c : Nat) (l out : List Nat) : MStep :=
  match takeL l (lX c) with
  | none => .err 5
  | some more => matR b lit dist (lB c + more) (l.drop (lX c)) out (symF dist (l.drop (lX c)))
noncomputable def tokR (M : Nat) (b : Bool) (lit dist : List Int) (l out : List Nat) (s : Nat × Nat × Nat) : MStep :=
  if s.2.2 ≠ 0 then .err s.2.2 else if s.1 = 256 then endM b (l.drop s.2.1) out
  else if s.1 < 256 then (if M ≤ out.length then .err 6 else .go (.tok b lit dist) (l.drop s.2.1) (out ++ [s.1]))
  else if 285 < s.1 then .err 3 else matM b lit dist (s.1 - 257) (l.drop s.2.1) out
def copM (M : Nat) (b : Bool) (lit dist : List Int) (n d : Nat) (l out : List Nat) : MStep :=
  if n = 0 then .go (.tok b lit dist) l out else if M ≤ out.length then .err 6 else .go (.cop b lit dist (n - 1) d) l (ext out d 1)
noncomputable def stepM (M : Nat) (l out : List Nat) : Ph → MStep
  | .hd => hdM l out
  | .sz b => szM b l out
  | .sto b n => stoM M b n l out
  | .cnt b => cntM b l out
  | .thd b A B C => thdM b A B C l out
  | .len b A B head ls => lenM b A B head ls l out
  | .tok b lit dist => tokR M b lit dist l out (symF lit l)
  | .cop b lit dist n d => copM M b lit dist n d l out
inductive Reach (M : Nat) : Ph → List Nat → List Nat → Ph → List Nat → List Nat → Prop
  | refl {p : Ph} {l o : List Nat} : Reach M p l o p l o
  | step {p p1 p2 : Ph} {l l1 l2 o o1 o2 : List Nat} (h : stepM M l o p = .go p1 l1 o1) (r : Reach M p1 l1 o1 p2 l2 o2) : Reach M p l o p2 l2 o2
theorem Reach.one {M : Nat} {p p1 : Ph} {l l1 o o1 : List Nat} (h : stepM M l o p = .go p1 l1 o1) : Reach M p l o p1 l1 o1 := .step h .refl
theorem Reach.trans {M : Nat} {p p1 p2 : Ph} {l l1 l2 o o1 o2 : List Nat} (h : Reach M p l o p1 l1 o1) (h2 : Reach M p1 l1 o1 p2 l2 o2) : Reach M p l o p2 l2 o2 := by
  induction h with
  | refl => exact h2
  | step h _ ih => exact .step h (ih h2)
inductive Ends (M : Nat) : Ph → List Nat → List Nat → Nat → List Nat → List Nat → Prop
  | done {p : Ph} {l l' o : List Nat} (h : stepM M l o p = .done l') : Ends M p l o 8 l' o
  | err {p : Ph} {l o : List Nat} {e : Nat} (h : stepM M l o p = .err e) : Ends M p l o e [] o
  | go {p p1 : Ph} {l l1 l' o o1 o' : List Nat} {e : Nat} (h : stepM M l o p = .go p1 l1 o1) (r : Ends M p1 l1 o1 e l' o') : Ends M p l o e l' o'
theorem Ends.det {M : Nat} {p : Ph} {l l1 l2 o o1 o2 : List Nat} {e1 e2 : Nat} (h : Ends M p l o e1 l1 o1) (h2 : Ends M p l o e2 l2 o2) : e1 = e2 ∧ l1 = l2 ∧ o1 = o2 := by
  induction h with
  | done h =>
    cases h2 with
    | done h2 => rw [h] at h2; cases h2; exact ⟨rfl, rfl, rfl⟩
    | err h2 => rw [h] at h2; cases h2
    | go h2 _ => rw [h] at h2; cases h2
  | err h =>
    cases h2 with
    | done h2 => rw [h] at h2; cases h2
    | err h2 => rw [h] at h2; cases h2; exact ⟨rfl, rfl, rfl⟩
    | go h2 _ => rw [h] at h2; cases h2
  | go h _ ih =>
    cases h2 with
    | done h2 => rw [h] at h2; cases h2
    | err h2 => rw [h] at h2; cases h2
    | go h2 r2 => rw [h] at h2; cases h2; exact ih r2
theorem Ends.behind {M : Nat} {p p1 : Ph} {l l1 l' o o1 o' : List Nat} {e : Nat} (h : Reach M p l o p1 l1 o1) (h2 : Ends M p l o e l' o') : Ends M p1 l1 o1 e l' o' := by
  induction h with
  | refl => exact h2
  | step h _ ih =>
    cases h2 with
    | done h2 => rw [h] at h2; cases h2
    | err h2 => rw [h] at h2; cases h2
    | go h2 r2 => rw [h] at h2; cases h2; exact ih r2
/-! ### What holds in each phase -/
def PhOk (l out : List Nat) : Ph → Prop
  | .hd => True
  | .sz _ => True
  | .sto _ n => l.length % 8 = 0 ∧ n ≤ 65535
  | .cnt _ => True
  | .thd _ A B C => 257 ≤ A ∧ A ≤ 286 ∧ 1 ≤ B ∧ B ≤ 30 ∧ 4 ≤ C ∧ C ≤ 19
  | .len _ A B head ls => 257 ≤ A ∧ A ≤ 286 ∧ 1 ≤ B ∧ B ≤ 30 ∧ checkOf head 7 = 0 ∧ head.length = 19 ∧ ls.length ≤ A + B ∧ ∀ y ∈ ls, 0 ≤ y ∧ y ≤ 15
  | .tok _ lit dist => checkOf lit 15 = 0 ∧ checkOf dist 15 = 0 ∧ lit.length ≤ 288 ∧ dist.length ≤ 32
  | .cop _ lit dist n d => (checkOf lit 15 = 0 ∧ checkOf dist 15 = 0 ∧ lit.length ≤ 288 ∧ dist.length ≤ 32) ∧ n ≤ 258 ∧ 1 ≤ d ∧ d ≤ 32768 ∧ d ≤ out.length
theorem fix_checkM : checkOf fixLit 15 = 0 ∧ checkOf fixDist 15 = 0 ∧ fixLit.length ≤ 288 ∧ fixDist.length ≤ 32 := by decide +kernel
theorem num_lt {l : List Nat} (hb : isBits l) (n : Nat) : numOf (l.take n) < 2 ^ n := by
  have h := num16_lt hb 0 n
  rwa [List.drop_zero] at h
theorem endM_go {b : Bool} {l out l' out' : List Nat} {p : Ph} (h : endM b l out = .go p l' out') : p = .hd ∧ l' = l ∧ out' = out := by
  unfold endM at h
  split at h
  · cases h
  · cases h; exact ⟨rfl, rfl, rfl⟩
theorem lenStep_in {head : List Int} {l : List Nat} {N a : Nat} {ls ls' : List Int} {b : Bool} {e a' : Nat} (h : lenStep head l N a ls = (b, e, a', ls')) (hl : ∀ y ∈ ls, 0 ≤ y ∧ y ≤ 15) : ∀ y ∈ ls', 0 ≤ y ∧ y ≤ 15 := by
  unfold lenStep at h
  split at h
  · cases h; exact hl
  · unfold lenStep.lenRun at h
    generalize (symF head (l.drop a)).1 = k at h
    generalize (if k = 17 then 3 else if k = 18 then 7 else 2) = wd at h
    generalize (if k = 18 then 11 else 3) = ba at h
    split at h
    · rename_i hk
      cases h
      intro y hy
      rcases List.mem_append.1 hy with hy | hy
      · exact hl y hy
      · simp only [List.mem_singleton] at hy; omega
    · split at h
      · cases h; exact hl
      · split at h
        · cases h; exact hl
        · split at h
          · cases h; exact hl
          · cases h
            intro y hy
            rcases List.mem_append.1 hy with hy | hy
            · exact hl y hy
            · rw [List.mem_replicate] at hy
              obtain ⟨_, rfl⟩ := hy
              split
              · cases hg : ls.getLast? with
                | none => exact ⟨by decide, by decide⟩
                | some z => exact hl z (List.mem_of_getLast? hg)
              · exact ⟨by decide, by decide⟩
structure StepOK (p : Ph) (l out : List Nat) (p' : Ph) (l' out' : List Nat) : Prop where
  ok : PhOk l' out' p'
  bits : ∃ n, l' = l.drop n
  out : ∃ t, out' = out ++ t ∧ t.length ≤ 1 ∧ ∀ x ∈ t, x < 256
def flag : Ph → Nat
  | .sto _ _ | .len _ _ _ _ _ | .cop _ _ _ _ _ => 1
  | _ => 0
def mu (p : Ph) (l : List Nat) : Nat := 2 * l.length + flag p
theorem ext_one (o : List Nat) (d : Nat) : ext o d 1 = o ++ [o[o.length - d]?.getD 0] := by
  show ext o d 0 ++ [(ext o d 0)[o.length + 0 - d]?.getD 0] = _
  rfl
theorem hd_ok {l out l' out' : List Nat} {p' : Ph} (h : hdM l out = .go p' l' out') : StepOK .hd l out p' l' out' ∧ mu p' l' < mu .hd l := by
  unfold hdM at h
  split at h
  · cases h
  · rename_i v ht
    have h3 := (takeL_some ht).1
    split at h
    · cases h
      exact ⟨⟨trivial, ⟨3, rfl⟩, ⟨[], by simp⟩⟩, by simp only [mu, flag, List.length_drop]; omega⟩
    · split at h
      · cases h
        exact ⟨⟨fix_checkM, ⟨3, rfl⟩, ⟨[], by simp⟩⟩, by simp only [mu, flag, List.length_drop]; omega⟩
      · split at h
        · cases h
          exact ⟨⟨trivial, ⟨3, rfl⟩, ⟨[], by simp⟩⟩, by simp only [mu, flag, List.length_drop]; omega⟩
        · cases h
theorem sz_ok {b : Bool} {l out l' out' : List Nat} {p' : Ph} (hb : isBits l) (h : szM b l out = .go p' l' out') : StepOK (.sz b) l out p' l' out' ∧ mu p' l' < mu (.sz b) l := by
  unfold szM szR at h
  split at h
  · cases h
  · rename_i h1
    split at h
    · cases h
    · cases h
      rw [List.length_drop] at h1
      have h2 := num_lt (isBits_drop hb (l.length % 8)) 16
      refine ⟨⟨⟨?_, by omega⟩, ⟨l.length % 8 + 32, by rw [List.drop_drop]⟩, ⟨[], by simp⟩⟩, ?_⟩
      · simp only [List.length_drop]; omega
      · simp only [mu, flag, List.length_drop]; omega
theorem sto_ok {M : Nat} {b : Bool} {n : Nat} {l out l' out' : List Nat} {p' : Ph} (hb : isBits l) (hp : PhOk l out (.sto b n)) (h : stoM M b n l out = .go p' l' out') :
    StepOK (.sto b n) l out p' l' out' ∧ (mu p' l' < mu (.sto b n) l) := by
  unfold stoM at h
  obtain ⟨hp1, hp2⟩ := hp
  split at h
  · obtain ⟨rfl, rfl, rfl⟩ := endM_go h
    exact ⟨⟨trivial, ⟨0, by simp⟩, ⟨[], by simp⟩⟩, by simp only [mu, flag]; omega⟩
  · split at h
    · cases h
    · split at h
      · cases h
      · cases h
        refine ⟨⟨⟨?_, by omega⟩, ⟨8, rfl⟩, ⟨_, rfl, by simp, fun x hx => ?_⟩⟩, ?_⟩
        · simp only [List.length_drop]; omega
        · simp only [List.mem_singleton] at hx; subst hx; exact num_lt hb 8
        · simp only [mu, flag, List.length_drop]; omega
theorem cnt_ok {b : Bool} {l out l' out' : List Nat} {p' : Ph} (hb : isBits l) (h : cntM b l out = .go p' l' out') : StepOK (.cnt b) l out p' l' out' ∧ mu p' l' < mu (.cnt b) l := by
  unfold cntM at h
  split at h
  · cases h
  · split at h
    · cases h
    · cases h
      have h1 := num16_lt hb 10 4
      exact ⟨⟨⟨by omega, by omega, by omega, by omega, by omega, by omega⟩, ⟨14, rfl⟩, ⟨[], by simp⟩⟩, by simp only [mu, flag, List.length_drop]; omega⟩
theorem thd_ok {b : Bool} {A B C : Nat} {l out l' out' : List Nat} {p' : Ph} (hp : PhOk l out (.thd b A B C)) (h : thdM b A B C l out = .go p' l' out') : StepOK (.thd b A B C) l out p' l' out' ∧ mu p' l' < mu (.thd b A B C) l := by
  obtain ⟨h1, h2, h3, h4, h5, h6⟩ := hp
  unfold thdM at h
  split at h
  · cases h
  · split at h
    · cases h
    · rename_i hc
      cases h
      exact ⟨⟨⟨h1, h2, h3, h4, Decidable.not_not.1 (not_or.1 hc).1, headF_length _ _ _, by simp, by simp⟩, ⟨3 * C, rfl⟩, ⟨[], by simp⟩⟩, by simp only [mu, flag, List.length_drop]; omega⟩
theorem len_ok {b : Bool} {A B : Nat} {head ls : List Int} {l out l' out' : List Nat} {p' : Ph} (hp : PhOk l out (.len b A B head ls)) (h : lenM b A B head ls l out = .go p' l' out') : StepOK (.len b A B head ls) l out p' l' out' ∧ mu p' l' < mu (.len b A B head ls) l := by
  obtain ⟨h1, h2, h3, h4, h5, h6, h7, h8⟩ := hp
  unfold lenM at h
  split at h
  · split at h
    · cases h
    · rename_i hf hc
      cases h
      obtain ⟨c1, c2⟩ := not_or.1 hc
      obtain ⟨c2, c3⟩ := not_or.1 c2
      exact ⟨⟨⟨Decidable.not_not.1 c1, Decidable.not_not.1 c2, by rw [List.length_take]; omega, by rw [List.length_drop]; omega⟩, ⟨0, by simp⟩, ⟨[], by simp⟩⟩, by simp only [mu, flag]; omega⟩
  · rename_i hn
    obtain ⟨b2, e2, a2, l2, hs⟩ : ∃ b2 e2 a2 l2, lenStep head l (A + B) 0 ls = (b2, e2, a2, l2) := ⟨_, _, _, _, rfl⟩
    rw [hs] at h
    unfold lenR at h
    split at h
    · cases h
    · rename_i hb2
      cases h
      simp only [Bool.not_eq_true] at hb2
      subst hb2
      have he := lenStep_on hs
      simp only at he
      subst he
      obtain ⟨g1, g2, g3⟩ := lenStep_grow hs hn (Nat.zero_le _)
      exact ⟨⟨⟨h1, h2, h3, h4, h5, h6, g3, lenStep_in hs h8⟩, ⟨a2, rfl⟩, ⟨[], by simp⟩⟩, by simp only [mu, flag, List.length_drop]; omega⟩
theorem tok_ok {M : Nat} {b : Bool} {lit dist : List Int} {l out l' out' : List Nat} {p' : Ph} (hb : isBits l) (hp : PhOk l out (.tok b lit dist)) (h : tokR M b lit dist l out (symF lit l) = .go p' l' out') :
    StepOK (.tok b lit dist) l out p' l' out' ∧ (mu p' l' < mu (.tok b lit dist) l) := by
  obtain ⟨k, n, e, hs⟩ : ∃ k n e, symF lit l = (k, n, e) := ⟨_, _, _, rfl⟩
  rw [hs] at h
  unfold tokR at h
  simp only at h
  split at h
  · cases h
  · rename_i he
    simp only [Decidable.not_not] at he
    subst he
    obtain ⟨_, s1, s2⟩ := sym_facts hs
    split at h
    · obtain ⟨rfl, rfl, rfl⟩ := endM_go h
      exact ⟨⟨trivial, ⟨n, rfl⟩, ⟨[], by simp⟩⟩, by simp only [mu, flag, List.length_drop]; omega⟩
    · split at h
      · rename_i hk
        split at h
        · cases h
        · cases h
          exact ⟨⟨hp, ⟨n, rfl⟩, ⟨[k], rfl, by simp, fun x hx => by simp only [List.mem_singleton] at hx; omega⟩⟩, by simp only [mu, flag, List.length_drop]; omega⟩
      · split at h
        · cases h
        · rename_i hk0 hk1 hk2
          unfold matM at h
          split at h
          · cases h
          · rename_i more ht
            obtain ⟨t1, t2⟩ := takeL_some ht
            have hmore : more < 2 ^ lX (k - 257) := by rw [t2]; exact num_lt (isBits_drop hb n) _
            have hlb := lB_more (k - 257) (by omega)
            obtain ⟨q, n2, e2, hs2⟩ : ∃ q n2 e2, symF dist ((l.drop n).drop (lX (k - 257))) = (q, n2, e2) := ⟨_, _, _, rfl⟩
            rw [hs2] at h
            unfold matR at h
            dsimp only at h
            split at h
            · cases h
            · unfold farM at h
              split at h
              · cases h
              · rename_i hq
                split at h
                · cases h
                · rename_i far ht2
                  obtain ⟨t3, t4⟩ := takeL_some ht2
                  split at h
                  · cases h
                  · rename_i hd
                    cases h
                    have hfar : far < 2 ^ dX q := by rw [t4]; exact num_lt (isBits_drop (isBits_drop (isBits_drop hb n) _) n2) _
                    have hdb := dB_more q (by omega)
                    have hd1 := (dB_le q (by omega)).1
                    refine ⟨⟨⟨hp, by omega, by omega, by omega, by omega⟩, ⟨n + (lX (k - 257) + (n2 + dX q)), by simp only [List.drop_drop, Nat.add_assoc]⟩, ⟨[], by simp⟩⟩, ?_⟩
                    simp only [mu, flag, List.length_drop]
                    omega
theorem cop_ok {M : Nat} {b : Bool} {lit dist : List Int} {n d : Nat} {l out l' out' : List Nat} {p' : Ph} (ho : ∀ x ∈ out, x < 256) (hp : PhOk l out (.cop b lit dist n d)) (h : copM M b lit dist n d l out = .go p' l' out') :
    StepOK (.cop b lit dist n d) l out p' l' out' ∧ (mu p' l' < mu (.cop b lit dist n d) l ∨ mu p' l' = mu (.cop b lit dist n d) l ∧ out'.length = out.length + 1) := by
  obtain ⟨h0, h1, h2, h3, h4⟩ := hp
  unfold copM at h
  split at h
  · cases h
    exact ⟨⟨h0, ⟨0, by simp⟩, ⟨[], by simp⟩⟩, .inl (by simp only [mu, flag]; omega)⟩
  · split at h
    · cases h
    · cases h
      have hx := ext_lt out d ho 1
      rw [ext_one] at hx
      refine ⟨⟨⟨h0, by omega, h2, h3, by rw [ext_length]; omega⟩, ⟨0, by simp⟩, ⟨_, ext_one _ _, by simp, fun x hx' => hx x (List.mem_append_right _ hx')⟩⟩, .inr ⟨rfl, by rw [ext_length]⟩⟩
theorem stepM_ok {M : Nat} {p p' : Ph} {l out l' out' : List Nat} (hb : isBits l) (ho : ∀ x ∈ out, x < 256) (hp : PhOk l out p) (h : stepM M l out p = .go p' l' out') :
    StepOK p l out p' l' out' ∧ (mu p' l' < mu p l ∨ mu p' l' = mu p l ∧ out'.length = out.length + 1) := by
  cases p with
  | hd => exact (hd_ok h).imp id .inl
  | sz b => exact (sz_ok hb h).imp id .inl
  | sto b n => exact (sto_ok hb hp h).imp id .inl
  | cnt b => exact (cnt_ok hb h).imp id .inl
  | thd b A B C => exact (thd_ok hp h).imp id .inl
  | len b A B head ls => exact (len_ok hp h).imp id .inl
  | tok b lit dist => exact (tok_ok hb hp h).imp id .inl
  | cop b lit dist n d => exact cop_ok ho hp h
structure MOk (p : Ph) (l out : List Nat) : Prop where
  bits : isBits l
  byt : ∀ x ∈ out, x < 256
  ph : PhOk l out p
theorem MOk.step {M : Nat} {p p' : Ph} {l out l' out' : List Nat} (h : MOk p l out) (hs : stepM M l out p = .go p' l' out') : MOk p' l' out' ∧ (∃ t, out' = out ++ t) ∧ l'.length ≤ l.length := by
  obtain ⟨⟨h1, ⟨n, h2⟩, ⟨t, h3, _, h4⟩⟩, _⟩ := stepM_ok h.bits h.byt h.ph hs
  refine ⟨⟨by rw [h2]; exact isBits_drop h.bits n, fun x hx => ?_, h1⟩, ⟨t, h3⟩, by rw [h2, List.length_drop]; omega⟩
  rw [h3] at hx
  rcases List.mem_append.1 hx with hx | hx
  · exact h.byt x hx
  · exact h4 x hx
theorem MOk.reach {M : Nat} {p p' : Ph} {l out l' out' : List Nat} (h : MOk p l out) (hr : Reach M p l out p' l' out') : MOk p' l' out' ∧ (∃ t, out' = out ++ t) ∧ l'.length ≤ l.length := by
  induction hr with
  | refl => exact ⟨h, ⟨[], by simp⟩, Nat.le_refl _⟩
  | step hs _ ih =>
    obtain ⟨h1, ⟨t, h2⟩, h3⟩ := h.step hs
    obtain ⟨h4, ⟨t2, h5⟩, h6⟩ := ih h1
    exact ⟨h4, ⟨t ++ t2, by rw [h5, h2, List.append_assoc]⟩, by omega⟩
theorem MOk.ends {M : Nat} {p : Ph} {l out l' out' : List Nat} {e : Nat} (h : MOk p l out) (hr : Ends M p l out e l' out') : (∀ x ∈ out', x < 256) ∧ ∃ t, out' = out ++ t := by
  induction hr with
  | done _ => exact ⟨h.byt, [], by simp⟩
  | err _ => exact ⟨h.byt, [], by simp⟩
  | go hs _ ih =>
    obtain ⟨h1, ⟨t, h2⟩, _⟩ := h.step hs
    obtain ⟨h3, t2, h4⟩ := ih h1
    exact ⟨h3, t ++ t2, by rw [h4, h2, List.append_assoc]⟩
end Go.Proofs.YtbkbkmgogbgofaaDoor
