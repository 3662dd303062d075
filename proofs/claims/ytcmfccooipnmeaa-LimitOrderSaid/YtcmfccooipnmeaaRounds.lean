/-
  A range over a function whose rounds come in a known order and never leave the loop: what holds when k rounds are over. No program is named here.
-/
import Derived.Test.YtcmfccooipnmeaaSlices
import Derived.RangeFuncNested
import Derived.RangeFuncCalls
import Derived.RangeFuncLeaves
import Derived.Shelf.Abstract
import Derived.OwnWalkIn
import Derived.TacticsInMore
import Derived.LoopNIn
import Derived.LoopIn
namespace Go.Proofs.Ytcmfccooipnmeaa
open Go.RowKit

/-- How a round's body is left: off its end; what is no cells and lay behind B lies as it lay. -/
def oneRound (B : Nat) (W : World) (R : World → Prop) : Exit → Act → World → Prop
  | .normal, _, W' => KeepsFrom B W W' ∧ R W'
  | _, _, _ => False
theorem range_rounds {F : Fence} {n : Nat} {P : Program} {g : Operand} {ps : Array Tmp} {assign body : Code} {Q : Exit → Act → World → Prop} {a : Act} {w : World}
    (hro : F.round = none) (h1 : 1 ≤ n) {gf : Nat} {lb : Array Value} (hg : a.eval g = .func (.func gf) #[] lb) (hFg : F.fn gf) (eg : ∀ args w, (callFunc gf args).run P w = .ok (.enter gf args) w)
    (N : Nat) (args : Nat → Array Value) (hps : ∀ k, (args k).size = ps.size) (I : Nat → World → Prop) (hI : ∀ k W W', I k W → Below w.heap.size W W' → I k W') (h0 : I 0 w)
    (hit : ∀ (l : Nat) (J : Nat → World → Prop) (W : World), (∀ k W, J k W → I k W) → (∀ k W, k < N → J k W → YieldAt F (n - 1 - 1) P l (args k) W fun e W' => e = .returned (.bool true) ∧ J (k + 1) W') → J 0 W →
      CallsIn F (n - 1) P gf (#[.func (.yield l) #[] #[]] ++ lb) W fun e W' => (∃ v, e = .returned v) ∧ J N W')
    (a₁ : Nat → Act)
    (hassign : ∀ (l k : Nat) (W : World) (K : Act → World → Prop), K (a₁ k) W →
      assign.wpIn (F.inRound l) (n - 1 - 1) P (Exit.then K (fun _ _ _ => False)) { tmps := (ps.zip (args k)).foldl (fun t (p, v) => t.setIfInBounds p v) a.tmps, defers := [] } W)
    (hbody : ∀ (l k : Nat) (W : World), k < N → I k W → w.heap.size ≤ W.heap.size → body.wpIn (F.inRound l) (n - 1 - 1) P (oneRound w.heap.size W (I (k + 1))) (a₁ k) W)
    (hdone : ∀ (D : Nat) (W : World), w.heap.size ≤ D → I N W → W.heap[D]? = some (.deferred (some [])) → Q .normal { a with defers := { target := .collected D, args := #[] } :: a.defers } W) :
    (Code.rangeFunc g ps assign body).wpIn F n P Q a w := by
  refine wpIn_rangeFunc fun fn hfn => ?_
  obtain ⟨book, hbook⟩ : ∃ book : LoopState → Loop, book = fun s => { state := s, pending := none, fn, tmps := a.tmps, params := ps, assign, body, defers := w.heap.size } := ⟨_, rfl⟩
  obtain ⟨b, hb⟩ : ∃ b, b = w.heap.size := ⟨_, rfl⟩
  have hsz : (w.alloc (.deferred (some []))).heap.size = b + 1 := by rw [hb]; simp
  obtain ⟨V, hV⟩ : ∃ V, V = (w.alloc (.deferred (some []))).alloc (.loop (book .ready)) := ⟨_, rfl⟩
  have hVd : V.heap[b]? = some (.deferred (some [])) := by
    rw [hV, Below.heap_alloc _ _ _ (by omega), hb]; exact World.alloc_heap_new w _
  have hVl : V.heap[b + 1]? = some (.loop (book .ready)) := by
    have := World.alloc_heap_new (w.alloc (.deferred (some []))) (.loop (book .ready))
    rw [hsz] at this; rw [hV]; exact this
  have hVI : I 0 V := hI 0 w V h0 (by
    rw [hV]
    exact ((Below.refl _ w).alloc (Nat.le_refl _) _).alloc (by simp) _)
  -- a step on the record is a step behind the loop's start
  have far : ∀ (W : World) (o : Obj), b + 1 < W.heap.size → Below w.heap.size W (W.putObj (b + 1) o) := fun W o h =>
    ⟨rfl, rfl, rfl, by simp, fun j hj => World.putObj_heap_other (by omega)⟩
  refine ⟨b + 1, [{ target := .collected b, args := #[] }], V, { target := .fn (.func gf) lb, args := #[.func (.yield (b + 1)) #[] #[]] }, V, gf, #[.func (.yield (b + 1)) #[] #[]] ++ lb, V, ?_, ?_, ?_, ?_, fun _ => h1, ?_⟩
  · rw [hro, hV, hbook, hb]; exact run_enterLoop_outer _ _ _ _ _
  · simp only [resolve, hg]
    simp [go_sem]
  · intro f' hf'
    simp [Target.leads] at hf'
    rw [← hf']; exact hFg
  · simp [invoke, go_sem, eg]
  · refine (hit (b + 1) (fun k W => I k W ∧ W.heap[b + 1]? = some (.loop (book .ready)) ∧ W.heap[b]? = some (.deferred (some []))) V (fun k W h => h.1) ?_ ⟨hVI, hVl, hVd⟩).mono ?_
    · rintro k W hk ⟨hi, hl, hd⟩
      have hlt : b + 1 < W.heap.size := (Array.getElem?_eq_some_iff.1 hl).1
      have hy := run_yield (P := P) (args := args k) hl (by rw [hbook]; exact hps k)
      rw [hbook] at hy
      have hbr := run_beginRound (P := P) hl (by rw [hbook])
      refine ⟨fn, _, assign, body, hy, roundIn_of_wpIn hfn (hassign _ k W _ ⟨_, hbr, ?_⟩)⟩
      refine wpIn_mono (hbody (b + 1) k _ hk (hI k W _ hi (far W _ hlt)) (by rw [World.putObj_size]; omega)) ?_
      rintro e a3 W3 hp
      cases e with
      | normal =>
        obtain ⟨hk3, hi3⟩ := hp
        have hl3 := hk3.same (b + 1) _ (by omega) (World.putObj_heap_same hlt) rfl
        have hd3 := hk3.same b _ (by omega) ((World.putObj_heap_other (by omega)).trans hd) rfl
        have hlt3 : b + 1 < W3.heap.size := (Array.getElem?_eq_some_iff.1 hl3).1
        have her := run_endRound (P := P) none hl3
        refine ⟨_, _, her, rfl, hI _ _ _ hi3 (far W3 _ hlt3), ?_, (World.putObj_heap_other (by omega)).trans hd3⟩
        rw [World.putObj_heap_same hlt3, hbook]; rfl
      | ret => exact hp.elim
      | exit id => exact hp.elim
      | goto t => exact hp.elim
      | panic ch => exact hp.elim
      | outgrown => exact hp.elim
    · rintro e W2 ⟨⟨v, rfl⟩, hi, hl, hd⟩
      have hlt : b + 1 < W2.heap.size := (Array.getElem?_eq_some_iff.1 hl).1
      have hel := run_endLoop (P := P) hl (by rw [hbook]; simp)
      refine ⟨none, _, by rw [hel, hbook], ?_⟩
      exact hdone b _ (by omega) (hI _ _ _ hi (far W2 _ hlt)) ((World.putObj_heap_other (by omega)).trans hd)
end Go.Proofs.Ytcmfccooipnmeaa
