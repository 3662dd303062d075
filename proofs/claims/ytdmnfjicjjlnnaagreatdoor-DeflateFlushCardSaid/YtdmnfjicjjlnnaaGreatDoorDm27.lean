/-
  The landed encoder: newFinder, New.
-/
import Derived.Test.YtdmnfjicjjlnnaaGreatDoorDm26
import Derived.Test.YtdmnfjicjjlnnaaGreatDoorDm18
import Derived.Test.YtdmnfjicjjlnnaaGreatDoorDm03
import Derived.Test.YtdmnfjicjjlnnaaGreatDoorProg
import Derived.Sort.LoopGhostIn
import Derived.Sort.QuietIn
namespace Go.Proofs.YtdmnfjicjjlnnaaGreatDoor
set_option maxRecDepth 5000
open Go.RowKit
section
variable {w0 w : World} {Rs : List Thing}
set_option maxHeartbeats 1600000 in
theorem dfinder_any (lev : Int) (hl : Levs w0) (h : Held w0 w Rs) :
    Calls Tryz.prog 22 #[.int .i64 lev] w fun e w' => ∃ (C : FinC) (X : Thing), e = .returned (.agg (C.V ++ [Value.slice none 0 0, Value.slice none 0 0, Value.int .i64 0]).toArray) ∧ Held w0 w' (X :: Rs) ∧
      ∀ (p : Place) (R : List Value) (w' : World) (Rs : List Thing), Held w0 w' (objP p (C.V ++ R) :: X :: Rs) → Held w0 w' (finT (finM.start lev) (subP p 0 [] R rfl) :: Rs) := by
  have hN := finNew lev hl (h.newObj [.int .i64 0, .int .i64 0, .int .i64 0, .slice none 0 0, .int .i64 0, .map none, .map none, .slice none 0 0, .int .i64 0, .slice none 0 0, .slice none 0 0, .int .i64 0] 61)
  have HN := hid hN
  clear hN h
  go_enter Tryz.func22, Tryz.ntmps22
  go_wp2_with fail
  with_reducible refine HN.out.mono ?_
  rintro e w1 ⟨B, rfl, h1⟩
  obtain ⟨tr, en, la, lv, gone, m1, m2, bv, at', X, h2, ⟨la1, ln, lc, rfl⟩, ⟨ba, bn, bc, rfl⟩, back⟩ := fin_open (p := .whole B 59) (R := []) h1
  have hb := h2.objp
  have ho := h2.third.obj
  have c0 : w1.cell? ⟨B, 0, none⟩ = some (.int .i64 (tr : Int)) := hb.cell (i := 0) rfl
  have c1 : w1.cell? ⟨B, 1, none⟩ = some (.int .i64 (en : Int)) := hb.cell (i := 1) rfl
  have c2 : w1.cell? ⟨B, 2, none⟩ = some (.int .i64 (la : Int)) := hb.cell (i := 2) rfl
  have c3 : w1.cell? ⟨B, 3, none⟩ = some (.slice la1 ln lc) := hb.cell (i := 3) rfl
  have c4 : w1.cell? ⟨B, 4, none⟩ = some (.int .i64 (gone : Int)) := hb.cell (i := 4) rfl
  have c5 : w1.cell? ⟨B, 5, none⟩ = some (.map (some m1)) := hb.cell (i := 5) rfl
  have c6 : w1.cell? ⟨B, 6, none⟩ = some (.map (some m2)) := hb.cell (i := 6) rfl
  have c7 : w1.cell? ⟨B, 7, none⟩ = some (.slice ba bn bc) := hb.cell (i := 7) rfl
  have c8 : w1.cell? ⟨B, 8, none⟩ = some (.int .i64 (at' : Int)) := hb.cell (i := 8) rfl
  have z0 := ho.cell (i := 0) rfl
  have f0 := ho.frozen 0
  have z1 := ho.cell (i := 1) rfl
  have f1 := ho.frozen 1
  have z2 := ho.cell (i := 2) rfl
  have f2 := ho.frozen 2
  have z3 := ho.cell (i := 3) rfl
  have f3 := ho.frozen 3
  have z4 := ho.cell (i := 4) rfl
  have f4 := ho.frozen 4
  have z5 := ho.cell (i := 5) rfl
  have f5 := ho.frozen 5
  have z6 := ho.cell (i := 6) rfl
  have f6 := ho.frozen 6
  have z7 := ho.cell (i := 7) rfl
  have f7 := ho.frozen 7
  have z8 := ho.cell (i := 8) rfl
  have f8 := ho.frozen 8
  have z9 := ho.cell (i := 9) rfl
  have f9 := ho.frozen 9
  have z10 := ho.cell (i := 10) rfl
  have f10 := ho.frozen 10
  have z11 := ho.cell (i := 11) rfl
  have f11 := ho.frozen 11
  have HB := hid back
  have H2 := hid (((((((((((((h2.third).setObj 0 (.int .i64 (tr : Int))).setObj 1 (.int .i64 (en : Int))).setObj 2 (.int .i64 (la : Int))).setObj 3 (.slice la1 ln lc)).setObj 4 (.int .i64 (gone : Int))).setObj 5 (.map (some m1))).setObj 6 (.map (some m2))).setObj 7 (.slice ba bn bc)).setObj 8 (.int .i64 (at' : Int))).setObj 9 (.slice none 0 0)).setObj 10 (.slice none 0 0)).setObj 11 (.int .i64 0))
  clear h1 h2 hb ho back HN
  go_wp2
  refine ret_obj rfl _ 12 Tryz.underlying61 rfl (by kernel_rfl) w.heap.size [.int .i64 (tr : Int), .int .i64 (en : Int), .int .i64 (la : Int), .slice la1 ln lc, .int .i64 (gone : Int), .map (some m1), .map (some m2), .slice ba bn bc, .int .i64 (at' : Int), .slice none 0 0, .slice none 0 0, .int .i64 0] 61 rfl rfl H2.out.obj rfl ?_
  exact ⟨⟨tr, en, la, .slice la1 ln lc, gone, m1, m2, .slice ba bn bc, at'⟩, X, rfl, H2.out.drop.drop, HB.out⟩
set_option maxHeartbeats 1600000 in
theorem dnew_any (lev : Int) (hl : Levs w0) (h : Held w0 w Rs) :
    Calls Tryz.prog 11 #[.int .i64 lev] w fun e w' => ∃ B : Nat, e = .returned (.pointer (some ⟨B, 0, none⟩)) ∧ Held w0 w' (encT (encStart finM lev) (.whole B 67) :: Rs) := by
  have HN := hid (dfinder_any lev hl h)
  obtain ⟨pk, hpk⟩ : ∃ pk, pk = decide (0 < lev) := ⟨_, rfl⟩
  have hdec : decide (0 < lev) = pk := hpk.symm
  have HP := hid hpk
  clear h hpk
  go_enter Tryz.func11, Tryz.ntmps11
  go_wp2_with fail
  with_reducible refine HN.out.mono ?_
  rintro e w1 ⟨⟨tr, en, la, l0, gone, m1, m2, b0, at'⟩, X, rfl, h1, back⟩
  have HB := hid back
  have H1 := hid h1
  clear h1 back HN
  simp only [FinC.V, finV, List.cons_append, List.nil_append]
  go_wp2
  go_ret
  refine ⟨_, rfl, ?_⟩
  have h2 := H1.out.newObjP [.int .i64 (tr : Int), .int .i64 (en : Int), .int .i64 (la : Int), l0, .int .i64 (gone : Int), .map (some m1), .map (some m2), b0, .int .i64 (at' : Int), .slice none 0 0, .slice none 0 0, .int .i64 0, .slice none 0 0, .int .u64 0, .int .i64 0, .bool pk, .bool false] 67
  have h3 := HB.out (.whole w1.heap.size 67) (restV (.slice none 0 0) (.slice none 0 0) 0 (.slice none 0 0) 0 0 pk) _ _ h2
  have h4 := ((h3.nil 5 1).nil 80 3).nil 5 1
  rw [HP.out] at h4 ⊢
  refine enc_mk (s := encStart finM lev) ⟨.slice none 0 0, .slice none 0 0, .slice none 0 0, 0, 0, []⟩ ⟨by decide, by decide, (fun b h => by cases h), rfl⟩ ?_
  exact h4.perm (List.perm_middle (l₁ := [_, _, _]))
end
end Go.Proofs.YtdmnfjicjjlnnaaGreatDoor
/-
  A range over a function whose rounds come in a known order and never leave the loop, where a round may turn memory that was made behind the loop's start: the loop's own two records are named, and nothing else. No program is named here.
-/
namespace Go.Proofs.YtdmnfjicjjlnnaaGreatDoor
set_option maxRecDepth 5000
open Go.RowKit
def isRec (b k : Nat) : Prop := k = b ∨ k = b + 1
def oneRound2 (b : Nat) (W : World) (R : World → Prop) : Exit → Act → World → Prop
  | .normal, _, W' => W'.heap[b]? = W.heap[b]? ∧ W'.heap[b + 1]? = W.heap[b + 1]? ∧ R W'
  | _, _, _ => False
theorem putObj_mod (W : World) (b : Nat) (o : Obj) (_ : b + 1 < W.heap.size) : Mod W (W.putObj (b + 1) o) (isRec b) :=
  ⟨rfl, rfl, rfl, by simp, fun j _ hn => World.putObj_heap_other (fun e => hn (.inr (by omega)))⟩
theorem range_rounds2 {F : Fence} {n : Nat} {P : Program} {g : Operand} {ps : Array Tmp} {assign body : Code} {Q : Exit → Act → World → Prop} {a : Act} {w : World}
    (hro : F.round = none) (h1 : 1 ≤ n) {gf : Nat} {lb : Array Value} (hg : a.eval g = .func (.func gf) #[] lb) (hFg : F.fn gf) (eg : ∀ args w, (callFunc gf args).run P w = .ok (.enter gf args) w)
    (N : Nat) (args : Nat → Array Value) (hps : ∀ k, (args k).size = ps.size) (I : Nat → World → Prop) (hI : ∀ k W W', I k W → Mod W W' (isRec w.heap.size) → W'.heap.size = W.heap.size → I k W')
    (h0 : ∀ V, Mod w V (fun _ => False) → V.heap.size = w.heap.size + 2 → I 0 V)
    (hit : ∀ (l : Nat) (J : Nat → World → Prop) (W : World), (∀ k W, J k W → I k W) → (∀ k W W', J k W → Mod W W' (fun _ => False) → W'.heap.size = W.heap.size → J k W') → (∀ k W, k < N → J k W → YieldAt F (n - 1 - 1) P l (args k) W fun e W' => e = .returned (.bool true) ∧ J (k + 1) W') → J 0 W →
      CallsIn F (n - 1) P gf (#[.func (.yield l) #[] #[]] ++ lb) W fun e W' => (∃ v, e = .returned v) ∧ J N W')
    (a₁ : Nat → Act)
    (hassign : ∀ (l k : Nat) (W : World) (K : Act → World → Prop), K (a₁ k) W →
      assign.wpIn (F.inRound l) (n - 1 - 1) P (Exit.then K (fun _ _ _ => False)) { tmps := (ps.zip (args k)).foldl (fun t (p, v) => t.setIfInBounds p v) a.tmps, defers := [] } W)
    (hbody : ∀ (l k : Nat) (W : World), k < N → I k W → body.wpIn (F.inRound l) (n - 1 - 1) P (oneRound2 w.heap.size W (I (k + 1))) (a₁ k) W)
    (hdone : ∀ (W : World), I N W → W.heap[w.heap.size]? = some (.deferred (some [])) → Q .normal { a with defers := { target := .collected w.heap.size, args := #[] } :: a.defers } W) :
    (Code.rangeFunc g ps assign body).wpIn F n P Q a w := by
  refine wpIn_rangeFunc fun fn hfn => ?_
  obtain ⟨book, hbook⟩ : ∃ book : LoopState → Loop, book = fun s => { state := s, pending := none, fn, tmps := a.tmps, params := ps, assign, body, defers := w.heap.size } := ⟨_, rfl⟩
  obtain ⟨b, hb⟩ : ∃ b, b = w.heap.size := ⟨_, rfl⟩
  have hsz : (w.alloc (.deferred (some []))).heap.size = b + 1 := by rw [hb]; simp
  obtain ⟨V, hV⟩ : ∃ V, V = (w.alloc (.deferred (some []))).alloc (.loop (book .ready)) := ⟨_, rfl⟩
  have hVd : V.heap[b]? = some (.deferred (some [])) := by
    rw [hV, Below.heap_alloc _ _ _ (by omega), hb]; exact World.alloc_heap_new w _
  have hVl : V.heap[b + 1]? = some (.loop (book .ready)) := by
    have := World.alloc_heap_new (w.alloc (.deferred (some []))) (.loop (book .ready))
    rw [hsz] at this; rw [hV]; exact this
  have hVI : I 0 V := h0 V (by rw [hV]; exact ((Mod.refl w _).alloc _).alloc _) (by rw [hV, World.size_alloc, hsz, hb])
  refine ⟨b + 1, [{ target := .collected b, args := #[] }], V, { target := .fn (.func gf) lb, args := #[.func (.yield (b + 1)) #[] #[]] }, V, gf, #[.func (.yield (b + 1)) #[] #[]] ++ lb, V, ?_, ?_, ?_, ?_, fun _ => h1, ?_⟩
  · rw [hro, hV, hbook, hb]; exact run_enterLoop_outer _ _ _ _ _
  · simp only [resolve, hg]
    simp [go_sem]
  · intro f' hf'
    simp [Target.leads] at hf'
    rw [← hf']; exact hFg
  · simp [invoke, go_sem, eg]
  · rw [← hb] at hI hbody hdone
    refine (hit (b + 1) (fun k W => I k W ∧ W.heap[b + 1]? = some (.loop (book .ready)) ∧ W.heap[b]? = some (.deferred (some []))) V (fun k W h => h.1) (fun k W W' h hm hz => ⟨hI k W _ h.1 (hm.mono fun _ _ h => h.elim) hz, (hm.block _ (Array.getElem?_eq_some_iff.1 h.2.1).1 (fun h => h)).trans h.2.1, (hm.block _ (Array.getElem?_eq_some_iff.1 h.2.2).1 (fun h => h)).trans h.2.2⟩) ?_ ⟨hVI, hVl, hVd⟩).mono ?_
    · rintro k W hk ⟨hi, hl, hd⟩
      have hlt : b + 1 < W.heap.size := (Array.getElem?_eq_some_iff.1 hl).1
      have hy := run_yield (P := P) (args := args k) hl (by rw [hbook]; exact hps k)
      rw [hbook] at hy
      have hbr := run_beginRound (P := P) hl (by rw [hbook])
      refine ⟨fn, _, assign, body, hy, roundIn_of_wpIn hfn (hassign _ k W _ ⟨_, hbr, ?_⟩)⟩
      refine wpIn_mono (hbody (b + 1) k _ hk (hI k W _ hi (putObj_mod W b _ hlt) (by rw [World.putObj_size]))) ?_
      rintro e a3 W3 hp
      cases e with
      | normal =>
        obtain ⟨hd3, hl3, hi3⟩ := hp
        rw [World.putObj_heap_same hlt] at hl3
        rw [World.putObj_heap_other (by omega), hd] at hd3
        have hlt3 : b + 1 < W3.heap.size := (Array.getElem?_eq_some_iff.1 hl3).1
        have her := run_endRound (P := P) none hl3
        refine ⟨_, _, her, rfl, hI _ _ _ hi3 (putObj_mod W3 b _ hlt3) (by rw [World.putObj_size]), ?_, (World.putObj_heap_other (by omega)).trans hd3⟩
        rw [World.putObj_heap_same hlt3, hbook]; rfl
      | ret => exact hp.elim
      | exit id => exact hp.elim
      | goto t => exact hp.elim
      | panic ch => exact hp.elim
      | outgrown => exact hp.elim
    · rintro e W2 ⟨⟨v, rfl⟩, hi, hl, hd⟩
      have hlt : b + 1 < W2.heap.size := (Array.getElem?_eq_some_iff.1 hl).1
      have hel := run_endLoop (P := P) hl (by rw [hbook]; simp)
      refine ⟨none, _, by rw [hel, hbook], ?_⟩
      exact hdone _ (hI _ _ _ hi (putObj_mod W2 b _ hlt) (by rw [World.putObj_size])) ((World.putObj_heap_other (by omega)).trans hd)
def recT (b : Nat) (o1 o2 : Option Obj) : Thing where
  res := fun w F => w.heap[b]? = o1 ∧ w.heap[b + 1]? = o2 ∧ b + 1 < w.heap.size ∧ ∀ k, F k ↔ isRec b k
  loc := fun w w' F S h hm hS => by
    obtain ⟨h1, h2, h3, h4⟩ := h
    refine ⟨(hm.block b (by omega) (hS b ((h4 b).2 (.inl rfl)))).trans h1, (hm.block (b + 1) h3 (hS _ ((h4 _).2 (.inr rfl)))).trans h2, Nat.lt_of_lt_of_le h3 hm.size, h4⟩
def recAny (b : Nat) : Thing := exT fun q : Option Obj × Option Obj => recT b q.1 q.2
section
variable {w0 w : World} {Rs : List Thing}
theorem Held.newRec {V : World} (h : Held w0 w Rs) (hm : Mod w V (fun _ => False)) (hs : V.heap.size = w.heap.size + 2) : Held w0 V (recAny w.heap.size :: Rs) :=
  h.push _ (isRec w.heap.size) ⟨(_, _), rfl, rfl, by omega, fun _ => Iff.rfl⟩ hm (fun k hk => by rcases hk with hk | hk <;> omega)
theorem Held.recStep {b : Nat} {w' : World} (h : Held w0 w (recAny b :: Rs)) (hm : Mod w w' (isRec b)) (hs : w'.heap.size = w.heap.size) : Held w0 w' (recAny b :: Rs) := by
  obtain ⟨F, ⟨q, h1⟩, h2, back⟩ := h.take
  obtain ⟨_, _, h3, h4⟩ := h1
  exact back w' (recAny b) F ⟨(_, _), rfl, rfl, by omega, h4⟩ (hm.mono fun k _ hk => (h4 k).2 hk) (fun k hk => .inl hk) (fun k hk => by rw [hs]; exact (h2 k hk).2)
theorem Held.recIs {b : Nat} (h : Held w0 w (recAny b :: Rs)) : Held w0 w (recT b w.heap[b]? w.heap[b + 1]? :: Rs) := by
  obtain ⟨F, ⟨q, h1, h2, h3, h4⟩, h5, h6⟩ := h
  exact ⟨F, ⟨rfl, rfl, h3, h4⟩, h5, h6⟩
theorem Held.recAre {b : Nat} {o1 o2 : Option Obj} (h : Held w0 w (recT b o1 o2 :: Rs)) : w.heap[b]? = o1 ∧ w.heap[b + 1]? = o2 := by
  obtain ⟨F, ⟨h1, h2, _⟩, _⟩ := h
  exact ⟨h1, h2⟩
theorem Held.recAs {b : Nat} {o1 o2 : Option Obj} (h : Held w0 w (recT b o1 o2 :: Rs)) : Held w0 w (recAny b :: Rs) := Held.mk (R := fun q : Option Obj × Option Obj => recT b q.1 q.2) (o1, o2) h
end
end Go.Proofs.YtdmnfjicjjlnnaaGreatDoor
/-
  slices.Chunk over bytes, as the program calls it.
-/
namespace Go.Proofs.YtdmnfjicjjlnnaaGreatDoor
set_option maxRecDepth 5000
open Go.RowKit
attribute [local go_sem] Oper.semAt_some
theorem chunk_any (v : Value) (w : World) (hv : ∃ a n c, v = .slice a n c) :
    Calls Tryz.prog 23 #[v, .int .i64 16384] w fun e w' => e = .returned (.func (.func 38) #[] #[.pointer (some ⟨w.heap.size, 0, none⟩), .pointer (some ⟨w.heap.size + 1, 0, none⟩)]) ∧ w' = (w.alloc (.cells #[v] 22)).alloc (.cells #[.int .i64 16384] 3) := by
  obtain ⟨a, n, c, rfl⟩ := hv
  go_enter Tryz.func23, Tryz.ntmps23
  go_wp2
  go_ret
  exact ⟨rfl, rfl⟩
theorem run_cutF {P : Program} {w : World} (t e : TypeId) (i : TypeInfo) (size : Nat) (ht : P.underlying t = some (.slice e)) (hi : P.info? e = some i) (hs : i.size = size) (a : Option Addr) (len cap l h : Nat) (h1 : l < h) (h2 : h ≤ cap) :
    (Instr.sliceAt t (.slice a len cap) (some (.int .i64 (l : Int))) (some (.int .i64 (h : Int))) (some (.int .i64 (h : Int)))).run P w = .ok (.slice (a.map fun (x : Addr) => x.add (l * size)) (h - l) (h - l)) w := by
  have hel : P.elem t = e := by simp [Program.elem, ht]
  have ht' : P.underlying t = some (.slice (P.elem t)) := by rw [hel]; exact ht
  have hsz : (sizeOf (P.elem t)).run P w = .ok size w := by rw [hel]; simp [sizeOf, typeInfo, hi, hs]
  rw [run_sliceAt_slice w t _ _ _ _ ht', run_slice_lhm w t a len cap ht' .i64 .i64 .i64 (l : Int) (h : Int) (h : Int) (by omega) (by omega) (Int.le_refl _) (by omega), hsz]
  simp only [Result.andThen, sliced, Int.toNat_natCast]
  rw [if_neg (by omega)]
theorem infoByteC : (Tryz.prog.info? 5).map (fun i => (i.zero, i.size, i.bytes)) = some (some (.int .u8 0), 1, 1) := by kernel_rfl
def partLen (L k : Nat) : Nat := min 16384 (L - 16384 * k)
def partV (ao : Option Addr) (L k : Nat) : Value := .slice (ao.map fun (x : Addr) => x.add (16384 * k * 1)) (partLen L k) (partLen L k)
def partsN (n : Nat) : Nat := (n + 16383) / 16384
set_option maxRecDepth 100000 in
set_option maxHeartbeats 2000000 in
theorem chunk_in (n : Nat) (hn : 1 ≤ n) (l C D L cap : Nat) (ao : Option Addr) (hL : L < 1000000000) (hLc : L ≤ cap)
    (J : Nat → World → Prop) (hJ : ∀ k W, J k W → W.cell? ⟨C, 0, none⟩ = some (.slice ao L cap) ∧ W.cell? ⟨D, 0, none⟩ = some (.int .i64 16384))
    (hJd : ∀ k W W', J k W → Mod W W' (fun _ => False) → W'.heap.size = W.heap.size → J k W')
    (hY : ∀ k W, k < partsN L → J k W → YieldAt Fence.wide (n - 1) Tryz.prog l #[partV ao L k] W fun e W' => e = .returned (.bool true) ∧ J (k + 1) W')
    (W : World) (h0 : J 0 W) :
    CallsIn Fence.wide n Tryz.prog 38 #[.func (.yield l) #[] #[], .pointer (some ⟨C, 0, none⟩), .pointer (some ⟨D, 0, none⟩)] W fun e W' => (∃ v, e = .returned v) ∧ J (partsN L) W' := by
  obtain ⟨i0, hi0, hz0, hz1, hz2⟩ := info_parts infoByteC
  have hL0 : (0 : Int) ≤ (L : Int) := Int.natCast_nonneg _
  refine callsIn_of_wp Tryz.func38 rfl trivial ?_ rfl
  simp only [Tryz.ntmps38, List.size_toArray, List.length_cons, List.length_nil, Nat.reduceAdd, Nat.reduceSub, Array.replicate_succ, Array.replicate_zero, List.push_toArray, List.append_toArray, List.nil_append, List.cons_append]
  gi_wp2
  gi_loopg [4, 5] (partsN L + 1) (fun g t4 t5 wr => ∃ (k : Nat), k ≤ partsN L ∧ partsN L - k < g ∧ t4 = .int .i64 ((16384 * k : Nat) : Int) ∧ Hid (J k wr))
  case atStart => exact ⟨0, by omega, by omega, rfl, h0⟩
  case round =>
    obtain ⟨k, hk, hg, rfl, HJ⟩ := hrel
    have c0 := (hJ k wr HJ.out).1
    have d0 := (hJ k wr HJ.out).2
    obtain ⟨i, hi⟩ : ∃ i, i = 16384 * k := ⟨_, rfl⟩
    have hib : i < 2000000000 := by unfold partsN at hk; omega
    have hii0 : (0 : Int) ≤ (i : Int) := Int.natCast_nonneg _
    have HI := hid hi
    by_cases hlt : k < partsN L
    · have hiL : i < L := by unfold partsN at hlt; omega
      have hiI : (i : Int) < (L : Int) := by omega
      obtain ⟨q, hq⟩ : ∃ q, q = L - i := ⟨_, rfl⟩
      obtain ⟨m, hm⟩ : ∃ m, m = partLen L k := ⟨_, rfl⟩
      have hm2 : m = min 16384 q := by rw [hm, hq, hi]; rfl
      have hif : (if (q : Int) < 16384 then (q : Int) else 16384) = (m : Int) := by split <;> omega
      obtain ⟨e, he⟩ : ∃ e, e = i + m := ⟨_, rfl⟩
      have heI : (i : Int) + (m : Int) = (e : Int) := by omega
      have hec : e ≤ cap := by omega
      have hie : i < e := by omega
      have hc1 : ∀ wg, (Instr.sliceAt 22 (.slice ao L cap) (some (.int .i64 (i : Int))) none none).run Tryz.prog wg = .ok (.slice (if cap = i then ao else ao.map fun (x : Addr) => x.add (i * 1)) (L - i) (cap - i)) wg := fun wg =>
        run_cut (P := Tryz.prog) 22 5 i0 1 Tryz.underlying22 hi0 hz1 ao L cap i L (some (.int .i64 (i : Int))) none ⟨_, rfl⟩ rfl (by omega) hLc
      rw [← hq] at hc1
      generalize (if cap = i then ao else ao.map fun (x : Addr) => x.add (i * 1)) = a1 at hc1
      generalize cap - i = cap1 at hc1
      have hc3 : ∀ wg, (Instr.sliceAt 22 (.slice ao L cap) (some (.int .i64 (i : Int))) (some (.int .i64 (e : Int))) (some (.int .i64 (e : Int)))).run Tryz.prog wg = .ok (.slice (ao.map fun (x : Addr) => x.add (i * 1)) m m) wg := fun wg => by
        have h1 := run_cutF (P := Tryz.prog) (w := wg) 22 5 i0 1 Tryz.underlying22 hi0 hz1 ao L cap i e hie hec
        rw [show e - i = m by omega] at h1
        exact h1
      have hpv : partV ao L k = .slice (ao.map fun (x : Addr) => x.add (i * 1)) m m := by unfold partV; rw [← hm, ← hi]
      generalize (ao.map fun (x : Addr) => x.add (i * 1)) = a3 at hc3 hpv
      have HPV := hid hpv
      have hmb : m ≤ 16384 := by omega
      have heb : e < 2000000000 := by omega
      have hnx : (i : Int) + 16384 = ((16384 * (k + 1) : Nat) : Int) := by omega
      have HNX := hid hnx
      have hqb : q < 1000000000 := by omega
      have hq0 : (0 : Int) ≤ (q : Int) := Int.natCast_nonneg _
      have hm0 : (0 : Int) ≤ (m : Int) := Int.natCast_nonneg _
      have he0 : (0 : Int) ≤ (e : Int) := Int.natCast_nonneg _
      rw [← hi]
      clear hi hq hm hm2 he hpv hie hec hnx
      have hjn := fun nn => hJd k wr (wr.drewN nn) HJ.out ((Mod.refl wr _).drewN nn) (by simp)
      gi_wp2
      gi_quiet (fail)
      have HJ1 := hid (hjn nq)
      generalize wr.drewN nq = w1 at HJ1 ⊢
      have c1 := (hJ k w1 HJ1.out).1
      obtain ⟨fn, tmps, assign, body, hy, hR⟩ := hY k w1 hlt HJ1.out
      rw [HPV.out] at hy
      clear c0 d0 hjn HJ
      gi_wp2
      refine hR.mono ?_
      rintro e3 W3 ⟨rfl, hJ3⟩
      have HJ3 := hid hJ3
      have d3 := (hJ _ W3 hJ3).2
      clear hJ3
      gi_wp2
      gi_roundg (gk - 1)
      case measure => omega
      case rel => exact ⟨k + 1, by omega, by omega, by rw [← HNX.out], HJ3⟩
    · obtain rfl : k = partsN L := by omega
      have hiL : L ≤ i := by unfold partsN at hi; omega
      have hiI : ¬ (i : Int) < (L : Int) := by omega
      rw [← hi]
      clear hi
      gi_wp2
      go_end0
      exact ⟨⟨_, rfl⟩, HJ⟩
end Go.Proofs.YtdmnfjicjjlnnaaGreatDoor
/-
  The landed encoder: Write, in parts.
-/
namespace Go.Proofs.YtdmnfjicjjlnnaaGreatDoor
set_option maxRecDepth 5000
open Go.RowKit
attribute [local go_sem] Oper.semAt_some
theorem partLen_is (b : List Nat) (k : Nat) : partLen b.length k = (partAt b k).length := by
  unfold partLen partAt
  rw [List.length_take, List.length_drop]
theorem part_rd {w : World} {vo : Option Addr} {vc n k : Nat} {b : List Nat} (h : Rd w 1 (.slice vo n vc) n (u8s b)) (hn : n = b.length) (hk : k < partsN n) : Rd w 1 (partV vo n k) (partLen n k) (u8s (partAt b k)) := by
  have hnc : n ≤ vc := by
    obtain ⟨_, cap, he, hn, _⟩ := h.form
    simp only [Value.slice.injEq, true_and] at he
    obtain ⟨_, rfl⟩ := he
    exact hn
  have hi : 16384 * k < n := by unfold partsN at hk; omega
  have hle : 16384 * k + partLen n k ≤ n := by unfold partLen; omega
  have h1 := h.cut (L := 16384 * k) (H := 16384 * k + partLen n k) (by omega) hle
  unfold sliced at h1
  rw [if_neg (by omega), Nat.add_sub_cancel_left] at h1
  have h2 := h1.shrink (c := partLen n k) (Nat.le_refl _) (by omega)
  have e : ((u8s b).drop (16384 * k * 1)).take (partLen n k * 1) = u8s (partAt b k) := by
    rw [Nat.mul_one, Nat.mul_one, hn, partLen_is]
    have h3 : ∀ X : List Nat, X.take (X.take 16384).length = X.take 16384 := fun X => by rw [List.length_take, ← List.take_take, List.take_length]
    unfold u8s partAt
    rw [← List.map_drop, ← List.map_take, h3]
  rw [e] at h2
  exact h2
theorem part_block (vo : Option Addr) (n k m c : Nat) : (partV vo n k).ownBlock = Value.ownBlock (.slice vo m c) := by
  unfold partV
  cases vo with
  | none => rfl
  | some x =>
    simp only [Option.map_some, Value.ownBlock, Addr.add]
    split <;> rfl
theorem part_reads {w0 : World} {S : Thing} {vo : Option Addr} {vc n k : Nat} {b : List Nat} (h : Reads w0 S 1 (.slice vo n vc) n (u8s b)) (hn : n = b.length) (hk : k < partsN n) : Reads w0 S 1 (partV vo n k) (partLen n k) (u8s (partAt b k)) := by
  intro w F hm hS
  obtain ⟨h1, h2⟩ := h w F hm hS
  have hi : 16384 * k < n := by unfold partsN at hk; omega
  refine ⟨part_rd h1 hn hk, fun _ j hj => h2 (by omega) j ?_⟩
  rw [part_block vo n k n vc] at hj
  exact hj
section
variable {w0 w : World} {Rs : List Thing} {S : Thing}
set_option maxRecDepth 100000 in
set_option maxHeartbeats 3200000 in
theorem dwrite_any {s : EncS FinS} {p : Place} {x T : List Nat} {e : Nat} (H : Held w0 w (encT s p :: S :: Rs)) (hO : Ordr w0) (HI : EncInv finM x s T e) (he : e ≤ 1000000) (v : Value) (n : Nat) (b : List Nat) (hv : Reads w0 S 1 v n (u8s b)) (hb : ∀ c ∈ b, c < 256) (hx : x.length + b.length ≤ most) :
    Calls Tryz.prog 12 #[.pointer (some ⟨p.b, p.o, none⟩), v] w fun e w' => e = .returned (.int .i64 0) ∧ Held w0 w' (encT (encWrite finM (blkF lensF) s b) p :: S :: Rs) := by
  have hrd := hv.rd H.swap
  have hnb : n = b.length := by have := hrd.1; rw [u8s_length] at this; omega
  obtain ⟨vo, vc, rfl, hnc, _⟩ := hrd.form
  obtain ⟨C, X, bs, rv, lv, d, sp, c, hf, h3, back⟩ := enc_open H
  have c16 := h3.objp.cell (i := 16) rfl
  have c16a : ∀ o, (w.alloc o).cell? ⟨p.b, p.o + 16, none⟩ = some (.bool false) := fun o => (h3.alloc o).objp.cell (i := 16) rfl
  clear h3 hf back
  refine (callsIn_wide (n := 3)).1 ?_
  refine callsIn_of_wp_marks Tryz.func12 rfl trivial ?_ rfl
  simp only [Tryz.ntmps12, List.size_toArray, List.length_cons, List.length_nil, Nat.reduceAdd, Nat.reduceSub, Array.replicate_succ, Array.replicate_zero, List.push_toArray, List.append_toArray, List.nil_append, List.cons_append]
  have HN := hid hnb
  have hn9 : n < 1000000000 := by have : most = 16777216 := rfl; omega
  have HA := hid (((H.newObj [.pointer (some ⟨p.b, p.o, none⟩)] 40).newObj [.slice vo n vc] 22).newObj [.int .i64 16384] 3)
  obtain ⟨N, hN⟩ : ∃ N, N = w.heap.size := ⟨_, rfl⟩
  rw [World.size_alloc, World.size_alloc, ← hN] at HA
  have hszA : ((((w.alloc (.cells #[.pointer (some ⟨p.b, p.o, none⟩)] 40)).alloc (.cells #[.slice vo n vc] 22)).alloc (.cells #[.int .i64 16384] 3))).heap.size = N + 3 := by rw [World.size_alloc, World.size_alloc, World.size_alloc, hN]
  have HC := hid (chunk_any (.slice vo n vc) (w.alloc (.cells #[.pointer (some ⟨p.b, p.o, none⟩)] 40)) ⟨_, _, _, rfl⟩)
  rw [World.size_alloc, ← hN] at HC
  clear hnb hrd H
  gi_wp2_with fail
  refine ⟨trivial, ?_⟩
  refine (callsIn_wide.2 HC.out).mono ?_
  rintro e2 w2 ⟨rfl, rfl⟩
  rw [← hN]
  generalize (((w.alloc (.cells #[.pointer (some ⟨p.b, p.o, none⟩)] 40)).alloc (.cells #[.slice vo n vc] 22)).alloc (.cells #[.int .i64 16384] 3)) = wc at HA hszA ⊢
  clear c16 c16a HC hN
  gi_wp2_with fail
  have hInv : ∀ k, EncInv finM (x ++ b.take (16384 * k)) (encUpto finM (blkF lensF) s b k) T e := inv_upto finLaws blkLaw HI b hb hx
  have HINV := hid hInv
  clear hInv
  refine range_rounds2 (gf := 38) (lb := #[.pointer (some ⟨N + 1, 0, none⟩), .pointer (some ⟨N + 1 + 1, 0, none⟩)]) rfl (by decide) rfl trivial (enters_of Tryz.func38 (by kernel_rfl) rfl) (partsN n)
    (fun k => #[partV vo n k]) (fun _ => rfl)
    (fun k W => Held w0 W (recAny wc.heap.size :: objT (N + 1 + 1) [.int .i64 16384] 3 :: objT (N + 1) [.slice vo n vc] 22 :: objT N [.pointer (some ⟨p.b, p.o, none⟩)] 40 :: encT (encUpto finM (blkF lensF) s b k) p :: S :: Rs)) ?far ?h0 ?hit
    (fun k => { tmps := #[.pointer (some ⟨p.b, p.o, none⟩), .slice vo n vc, .pointer (some ⟨N, 0, none⟩), undef, .int .i64 0, partV vo n k, .pointer (some ⟨p.b, p.o, none⟩), .bool false, .bool false, .pointer (some ⟨p.b, p.o, none⟩), .pointer (some ⟨p.b, p.o, none⟩), .pointer (some ⟨p.b, p.o + 16, none⟩), .bool false, .bool false, .slice vo n vc,
      .func (.func 38) #[] #[.pointer (some ⟨N + 1, 0, none⟩), .pointer (some ⟨N + 1 + 1, 0, none⟩)], partV vo n k, undef, undef, undef, undef, undef, undef, undef], defers := [] }) ?assign ?body ?done
  case far => exact fun k W W' h hm hz => h.recStep hm hz
  case h0 => exact fun V hm hz => HA.out.newRec hm hz
  case hit =>
    intro l J W hJI hJd hY hJ0
    refine chunk_in _ (by decide) l (N + 1) (N + 1 + 1) n vc vo hn9 hnc J (fun k W h => ?_) hJd hY W hJ0
    have h2 := hJI k W h
    exact ⟨h2.third.obj.cell (i := 0) rfl, h2.swap.obj.cell (i := 0) rfl⟩
  case assign =>
    intro l k W K hK
    gi_wp2
    exact hK
  case body =>
    intro l k W hk hI
    have hR := hI.recIs
    generalize ho1 : W.heap[wc.heap.size]? = o1 at hR
    generalize ho2 : W.heap[wc.heap.size + 1]? = o2 at hR
    have h2 : Held w0 W ([encT (encUpto finM (blkF lensF) s b k) p, S] ++ [recT wc.heap.size o1 o2, objT (N + 1 + 1) [.int .i64 16384] 3, objT (N + 1) [.slice vo n vc] 22, objT N [.pointer (some ⟨p.b, p.o, none⟩)] 40] ++ Rs) :=
      hR.perm ((List.perm_append_comm (l₁ := [_, _, _, _]) (l₂ := [_, _])).append_right Rs)
    have hik := HINV.out k
    have hpl : (x ++ b.take (16384 * k)).length + (partAt b k).length ≤ most := by
      rw [← List.length_append, List.append_assoc, part_len, List.length_append, List.length_take]
      omega
    have hpm : partLen n k = (partAt b k).length := by rw [HN.out]; exact partLen_is b k
    have hpb : ∀ c ∈ partAt b k, c < 256 := fun c hc => hb c (List.mem_of_mem_drop (List.mem_of_mem_take hc))
    have hi2 := inv_add finLaws hik (partAt b k) hpb hpl
    have hfx : (encUpto finM (blkF lensF) s b k).f.x = x ++ b.take (16384 * k) := hik.inp
    have hraw : (encUpto finM (blkF lensF) s b k).raw.length ≤ most := by
      obtain ⟨P, ks, ss, hm⟩ := hik.mid
      exact (mid_nums hm (by omega) he).2.1
    have hmost : most = 16777216 := rfl
    have HADD := hid (dadd_any (S := S) h2 (partV vo n k) (partLen n k) (partAt b k) (part_reads hv HN.out hk) hik.ok (by rw [hfx, hpm]; omega) (by omega))
    have HBL := hid (fun (wz : World) (Rz : List Thing) (h : Held w0 wz (encT (encAdd finM (encUpto finM (blkF lensF) s b k) (partAt b k)) p :: Rz)) => dblocks_any h hO hi2 (by rw [List.length_append]; exact hpl) he false)
    have cN : W.cell? ⟨N, 0, none⟩ = some (.pointer (some ⟨p.b, p.o, none⟩)) := (hI.fourth.obj).cell (i := 0) rfl
    have HO := hid (And.intro ho1 ho2)
    clear hR h2 hik hpl hpm hpb hi2 hfx hraw hmost ho1 ho2 hI
    gi_wp2_with fail
    refine ⟨trivial, ?_⟩
    refine (CallsIn.inRound l (callsIn_wide.2 HADD.out)).mono ?_
    rintro e3 w3 ⟨rfl, h3⟩
    have cN3 : w3.cell? ⟨N, 0, none⟩ = some (.pointer (some ⟨p.b, p.o, none⟩)) := (h3.perm (List.perm_middle (l₁ := [_, _, _, _, _])) ).obj.cell (i := 0) rfl
    have HB2 := hid (HBL.out _ _ h3)
    clear HBL HADD h3 cN
    gi_wp2_with fail
    refine ⟨trivial, ?_⟩
    refine (CallsIn.inRound l (callsIn_wide.2 HB2.out)).mono ?_
    rintro e4 w4 ⟨rfl, h4⟩
    have H4 := hid h4
    clear h4 HB2 cN3
    gi_wp2
    have h5 : Held w0 w4 ([recT wc.heap.size o1 o2, objT (N + 1 + 1) [.int .i64 16384] 3, objT (N + 1) [.slice vo n vc] 22, objT N [.pointer (some ⟨p.b, p.o, none⟩)] 40] ++ [encT (encUpto finM (blkF lensF) s b (k + 1)) p, S] ++ Rs) :=
      H4.out.perm ((List.perm_append_comm (l₁ := [_, _]) (l₂ := [_, _, _, _])).append_right Rs)
    have h6 := Held.recAre h5
    exact ⟨by rw [HO.out.1]; exact h6.1, by rw [HO.out.2]; exact h6.2, Held.recAs h5⟩
  case done =>
    intro W hI hK
    have HI2 := hid hI
    have HE : Hid (encUpto finM (blkF lensF) s b (partsN n) = encWrite finM (blkF lensF) s b) := hid (by rw [HN.out]; rfl)
    clear hI
    gi_wp2
    refine ⟨by simp, .inl ⟨_, _, rfl, run_takeDeferred hK, ?_⟩⟩
    have hM2 : Mod W (W.putObj wc.heap.size (.deferred none)) (isRec wc.heap.size) := ⟨rfl, rfl, rfl, by simp, fun j hj hne => World.putObj_heap_other (fun e => hne (.inl e))⟩
    have h3 := HI2.out.recStep hM2 (by rw [World.putObj_size])
    rw [HE.out] at h3
    exact ⟨_, results_tmp rfl _ _ _, rfl, h3.drop.drop.drop.drop⟩
end
end Go.Proofs.YtdmnfjicjjlnnaaGreatDoor
/-
  The landed encoder: Flush, Close, Take, Whole; an encoder that is closed, and none at all.
-/
namespace Go.Proofs.YtdmnfjicjjlnnaaGreatDoor
set_option maxRecDepth 5000
open Go.RowKit
section
variable {w0 w : World} {Rs : List Thing} {S : Thing}
theorem inv_block {M : MatchM} {x : List Nat} {s : EncS M.St} {T : List Nat} {e : Nat} (h : EncInv M x s T e) (hx : x.length ≤ most) (he : e ≤ 1000000) :
    s.told ≤ s.raw.length ∧ s.raw.length < 1000000000 ∧ s.told ≤ 65535 ∧ byteOK s.list ∧ (∀ b ∈ s.raw, b < 256) ∧ s.list.length < 1000000000 ∧ s.acc.length < 900000000 := by
  obtain ⟨P, ks, ss, hm⟩ := h.mid
  have h1 := mid_nums hm hx he
  have h2 := h.low
  have : most = 16777216 := rfl
  refine ⟨h1.1, by omega, by omega, hm.byt, fun b hb => ?_, by omega, h1.2.2.2⟩
  rw [hm.raw] at hb
  exact h.byt b (List.mem_of_mem_drop hb)
theorem end_is {M : MatchM} {F : Nat → List Tok → List Nat → Nat → List Nat} {x : List Nat} {s : EncS M.St} {T : List Nat} {e : Nat} (L : MatchLaws M) (HF : BlkLaw F) (h : EncInv M x s T e) (hx : x.length ≤ most) (he : e ≤ 100000) :
    encFlush M F s = encGap F (encEnd M F s) ∧ (encEnd M F s).acc.length < 900000000 ∧ (0 < (encMore M F true s).told → encEnd M F s = encBlock F false (encMore M F true s)) ∧ (¬ 0 < (encMore M F true s).told → encEnd M F s = encMore M F true s) := by
  have h3 := (inv_flush L HF h hx).2.2.1
  have hm : most = 16777216 := rfl
  have h5 : (encEnd M F s).acc.length ≤ (encFlush M F s).acc.length := by
    show _ ≤ ((encEnd M F s).acc ++ _).length
    rw [List.length_append]; omega
  rw [List.length_append] at h3
  exact ⟨rfl, by omega, fun hc => if_pos hc, fun hc => if_neg hc⟩
theorem enc_gap {s : EncS FinS} {p : Place} (H : Held w0 w (encT s p :: Rs)) (hO : Ordr w0) (hl : s.acc.length < 900000000) :
    Calls Tryz.prog 27 #[.pointer (some ⟨p.b, p.o + 12, none⟩), .int .i64 0, .slice none 0 0, .slice none 0 0, .bool false] w fun e w' => e = .returned (.bool true) ∧ Held w0 w' (encT (encGap (blkF lensF) s) p :: Rs) := by
  obtain ⟨C, X, bs, rv, lv, d, sp, c, hf, h1, back⟩ := enc_open H
  exact (write_blk 0 [] [] s.acc false (.slice none 0 0) (.slice none 0 0) 0 0 _ _ hO (enc_out hf h1) (fun wz F _ _ => ⟨Rd.nil wz 3, fun h => by omega⟩) (fun wz F _ _ => ⟨Rd.nil wz 1, fun h => by omega⟩) (fun _ h => by cases h) (fun _ h => by cases h) (by decide) hl (.inl ⟨rfl, by decide⟩)).mono fun _ _ ⟨h2, h3⟩ => ⟨h2, enc_writer back h3⟩
set_option maxHeartbeats 1600000 in
theorem dflush_any {s : EncS FinS} {p : Place} {x T : List Nat} {e : Nat} (H : Held w0 w (encT s p :: Rs)) (hO : Ordr w0) (HI : EncInv finM x s T e) (hx : x.length ≤ most) (he : e ≤ 100000) :
    Calls Tryz.prog 13 #[.pointer (some ⟨p.b, p.o, none⟩)] w fun e w' => e = .returned (.int .i64 0) ∧ Held w0 w' (encT (encFlush finM (blkF lensF) s) p :: Rs) := by
  obtain ⟨C, X, bs, rv, lv, d, sp, c, hf, h1, back⟩ := enc_open H
  have c16 := h1.objp.cell (i := 16) rfl
  have HB := hid (dblocks_any H hO HI hx (by omega) true)
  have HJ : EncInv finM x (encMore finM (blkF lensF) true s) T e := inv_more finLaws blkLaw HI true hx
  have hnb := inv_block HJ hx (by omega)
  obtain ⟨hF, hacc, hE1, hE2⟩ := end_is finLaws blkLaw HI hx he
  rw [hF]
  clear h1 hf back hF HJ
  generalize encMore finM (blkF lensF) true s = u at *
  generalize encEnd finM (blkF lensF) s = u2 at *
  have HE : Hid ((0 < u.told → u2 = encBlock (St := FinS) (blkF lensF) false u) ∧ (¬ 0 < u.told → u2 = u)) := hid ⟨hE1, hE2⟩
  have HN := hid hnb
  have HA := hid hacc
  clear hnb hacc HI H hE1 hE2
  go_enter Tryz.func13, Tryz.ntmps13
  go_wp2_with fail
  with_reducible refine HB.out.mono ?_
  rintro e1 w1 ⟨rfl, h2⟩
  obtain ⟨C, X, bs, rv, lv, d, sp, c, hf, h3, back⟩ := enc_open h2
  have c11 := h3.objp.cell (i := 11) rfl
  have H2 := hid h2
  clear h3 hf back h2 HB c16
  by_cases hc : 0 < u.told
  · have hcI : decide ((0 : Int) < (u.told : Int)) = true := decide_eq_true (by omega)
    have hcN : decide (0 < u.told) = true := decide_eq_true hc
    have HBL := hid (dblock_any H2.out hO false HN.out.1 HN.out.2.1 HN.out.2.2.1 HN.out.2.2.2.1 HN.out.2.2.2.2.1 HN.out.2.2.2.2.2.1 HN.out.2.2.2.2.2.2)
    rw [← HE.out.1 hc] at HBL
    clear hc
    go_wp2_with fail
    with_reducible refine HBL.out.mono ?_
    rintro e1 w2 ⟨rfl, h4⟩
    have HG := hid (enc_gap h4 hO HA.out)
    clear h4 HBL c11
    go_wp2_with fail
    with_reducible refine HG.out.mono ?_
    rintro e1 w3 ⟨rfl, h5⟩
    have H5 := hid h5
    clear h5 HG
    go_wp2
    go_ret
    exact ⟨rfl, H5.out⟩
  · have hcI : decide ((0 : Int) < (u.told : Int)) = false := decide_eq_false (by omega)
    have hcN : decide (0 < u.told) = false := decide_eq_false hc
    have HG := hid (enc_gap H2.out hO (by rw [← HE.out.2 hc]; exact HA.out))
    rw [← HE.out.2 hc] at HG
    clear hc
    go_wp2_with fail
    with_reducible refine HG.out.mono ?_
    rintro e1 w3 ⟨rfl, h5⟩
    have H5 := hid h5
    clear h5 HG c11
    go_wp2
    go_ret
    exact ⟨rfl, H5.out⟩
/-! ### An encoder that is closed -/
def zeroF : List Value := [.int .i64 0, .int .i64 0, .int .i64 0, .slice none 0 0, .int .i64 0, .map none, .map none, .slice none 0 0, .int .i64 0, .slice none 0 0, .slice none 0 0, .int .i64 0]
def shutP (p : Place) (pk : Bool) : Place := subP p 12 zeroF [.bool pk, .bool true] rfl
theorem shut_obj (p : Place) (pk : Bool) (d : Value) (sp c : Nat) : objP (shutP p pk) [d, .int .u64 (sp : Int), .int .i64 (c : Int)] = objP p (zeroF ++ [d, .int .u64 (sp : Int), .int .i64 (c : Int), .bool pk, .bool true]) := objP_sub p 12 zeroF _ _ rfl
def shutT (acc : List Nat) (p : Place) : Thing := exT fun pk : Bool => wrT (shutP p pk) acc
theorem shut_cell {acc : List Nat} {p : Place} (H : Held w0 w (shutT acc p :: Rs)) : w.cell? ⟨p.b, p.o + 16, none⟩ = some (.bool true) := by
  obtain ⟨pk, h1⟩ := H.ex
  obtain ⟨d, sp, c, bs, hf, h2⟩ := wr_unpack h1
  rw [shut_obj] at h2
  exact h2.objp.cell (i := 16) rfl
theorem shut_take {acc : List Nat} {p : Place} (H : Held w0 w (shutT acc p :: Rs)) :
    Calls Tryz.prog 28 #[.pointer (some ⟨p.b, p.o + 12, none⟩)] w fun e w' => ∃ d, e = .returned d ∧ Held w0 w' (ownT 5 1 d (bytesOf acc).length (u8s (bytesOf acc)) :: shutT (acc.drop (8 * (bytesOf acc).length)) p :: Rs) := by
  obtain ⟨pk, h1⟩ := H.ex
  exact (h_take h1).mono fun _ _ ⟨d, h2, h3⟩ => ⟨d, h2, (Held.mk (R := fun pk : Bool => wrT (shutP p pk) (acc.drop (8 * (bytesOf acc).length))) pk h3.swap).swap⟩
theorem close_is {M : MatchM} {F : Nat → List Tok → List Nat → Nat → List Nat} {x : List Nat} {s : EncS M.St} {T : List Nat} {e : Nat} (L : MatchLaws M) (HF : BlkLaw F) (h : EncInv M x s T e) (hx : x.length ≤ most) (he : e ≤ 100000) :
    (encBlock F true (encMore M F true s)).acc.length < 1000000000 := by
  have h3 := (inv_close L HF h hx).2.2.1
  have hm : most = 16777216 := rfl
  have h5 : (encBlock F true (encMore M F true s)).acc.length ≤ (encClose M F s).length := by
    unfold encClose evened
    rw [List.length_append]; omega
  rw [List.length_append] at h3
  omega
set_option maxHeartbeats 1600000 in
theorem dclose_any {s : EncS FinS} {p : Place} {x T : List Nat} {e : Nat} (H : Held w0 w (encT s p :: Rs)) (hO : Ordr w0) (HI : EncInv finM x s T e) (hx : x.length ≤ most) (he : e ≤ 100000) :
    Calls Tryz.prog 15 #[.pointer (some ⟨p.b, p.o, none⟩)] w fun e w' => e = .returned (.int .i64 0) ∧ Held w0 w' (shutT (encClose finM (blkF lensF) s) p :: Rs) := by
  obtain ⟨C, X, bs, rv, lv, d, sp, c, hf, h1, back⟩ := enc_open H
  have c16 := h1.objp.cell (i := 16) rfl
  have HB := hid (dblocks_any H hO HI hx (by omega) true)
  have HJ : EncInv finM x (encMore finM (blkF lensF) true s) T e := inv_more finLaws blkLaw HI true hx
  have hnb := inv_block HJ hx (by omega)
  have hci := close_is (F := blkF lensF) finLaws blkLaw HI hx he
  have hF : encClose finM (blkF lensF) s = evened (encBlock (St := FinS) (blkF lensF) true (encMore finM (blkF lensF) true s)).acc := rfl
  have hci2 : (encBlock (St := FinS) (blkF lensF) true (encMore finM (blkF lensF) true s)).acc.length < 1000000000 := hci
  rw [hF]
  clear h1 hf back hF HJ hci
  generalize encMore finM (blkF lensF) true s = u at *
  have HN := hid hnb
  have HC := hid hci2
  have HBL := hid (fun (wz : World) (h : Held w0 wz (encT (u : EncS FinS) p :: Rs)) => dblock_any h hO true hnb.1 hnb.2.1 hnb.2.2.1 hnb.2.2.2.1 hnb.2.2.2.2.1 hnb.2.2.2.2.2.1 hnb.2.2.2.2.2.2)
  generalize encBlock (St := FinS) (blkF lensF) true u = u2 at HC HBL ⊢
  clear hnb hci2 HI H
  go_enter Tryz.func15, Tryz.ntmps15
  go_wp2_with fail
  with_reducible refine HB.out.mono ?_
  rintro e1 w1 ⟨rfl, h2⟩
  have HB2 := hid (HBL.out _ h2)
  clear h2 HB HBL c16
  go_wp2_with fail
  with_reducible refine HB2.out.mono ?_
  rintro e1 w2 ⟨rfl, h2⟩
  have HAL := hid (enc_walign h2 (by have := HC.out; omega))
  clear h2 HB2
  go_wp2_with fail
  with_reducible refine HAL.out.mono ?_
  rintro e1 w3 ⟨rfl, h2⟩
  obtain ⟨C, X, bs, rv, lv, d, sp, c, hf, h3, back⟩ := enc_open h2
  have HF := hid hf
  have H2 := hid h3
  have z0 := h3.objp.cell0 rfl
  have f0 := h3.objp.frozen0
  have z1 := h3.objp.cell (i := 1) rfl
  have f1 := h3.objp.frozen 1
  have z2 := h3.objp.cell (i := 2) rfl
  have f2 := h3.objp.frozen 2
  have z3 := h3.objp.cell (i := 3) rfl
  have f3 := h3.objp.frozen 3
  have z4 := h3.objp.cell (i := 4) rfl
  have f4 := h3.objp.frozen 4
  have z5 := h3.objp.cell (i := 5) rfl
  have f5 := h3.objp.frozen 5
  have z6 := h3.objp.cell (i := 6) rfl
  have f6 := h3.objp.frozen 6
  have z7 := h3.objp.cell (i := 7) rfl
  have f7 := h3.objp.frozen 7
  have z8 := h3.objp.cell (i := 8) rfl
  have f8 := h3.objp.frozen 8
  have z9 := h3.objp.cell (i := 9) rfl
  have f9 := h3.objp.frozen 9
  have z10 := h3.objp.cell (i := 10) rfl
  have f10 := h3.objp.frozen 10
  have z11 := h3.objp.cell (i := 11) rfl
  have f11 := h3.objp.frozen 11
  have H3 := hid (((((((((((((H2.out.setObjP0 (.int .i64 0)).setObjP 1 (.int .i64 0)).setObjP 2 (.int .i64 0)).setObjP 3 (.slice none 0 0)).setObjP 4 (.int .i64 0)).setObjP 5 (.map none)).setObjP 6 (.map none)).setObjP 7 (.slice none 0 0)).setObjP 8 (.int .i64 0)).setObjP 9 (.slice none 0 0)).setObjP 10 (.slice none 0 0)).setObjP 11 (.int .i64 0)).setObjP 16 (.bool true))
  have z16 := h3.objp.cell (i := 16) rfl
  have f16 := h3.objp.frozen 16
  clear h2 h3 hf back HAL
  go_wp2
  go_ret
  refine ⟨rfl, ?_⟩
  have h5 : Held w0 _ (objP p (zeroF ++ [d, .int .u64 (sp : Int), .int .i64 (c : Int), .bool u2.packs, .bool true]) :: _) := H3.out
  rw [← shut_obj] at h5
  exact Held.mk (R := fun pk : Bool => wrT (shutP p pk) (evened u2.acc)) u2.packs (wr_pack HF.out h5.swap.drop.swap.drop.third.drop)
/-! ### Behind Close, and without an encoder -/
theorem dshut_write {acc : List Nat} {p : Place} (H : Held w0 w (shutT acc p :: Rs)) (v : Value) :
    Calls Tryz.prog 12 #[.pointer (some ⟨p.b, p.o, none⟩), v] w fun e w' => e = .returned (.int .i64 8) ∧ Held w0 w' (shutT acc p :: Rs) := by
  have c16 : ∀ o, (w.alloc o).cell? ⟨p.b, p.o + 16, none⟩ = some (.bool true) := fun o => shut_cell (H.alloc o)
  have H1 := hid (H.alloc (.cells #[.pointer (some ⟨p.b, p.o, none⟩)] 40))
  clear H
  refine (callsIn_wide (n := 3)).1 ?_
  refine callsIn_of_wp_marks Tryz.func12 rfl trivial ?_ rfl
  simp only [Tryz.ntmps12, List.size_toArray, List.length_cons, List.length_nil, Nat.reduceAdd, Nat.reduceSub, Array.replicate_succ, Array.replicate_zero, List.push_toArray, List.append_toArray, List.nil_append, List.cons_append]
  gi_wp2_with fail
  exact ⟨_, results_tmp rfl _ _ _, rfl, H1.out⟩
theorem dshut_flush {acc : List Nat} {p : Place} (H : Held w0 w (shutT acc p :: Rs)) :
    Calls Tryz.prog 13 #[.pointer (some ⟨p.b, p.o, none⟩)] w fun e w' => e = .returned (.int .i64 8) ∧ Held w0 w' (shutT acc p :: Rs) := by
  have c16 := shut_cell H
  have H1 := hid H
  clear H
  go_enter Tryz.func13, Tryz.ntmps13
  go_wp2
  go_ret
  exact ⟨rfl, H1.out⟩
theorem dshut_close {acc : List Nat} {p : Place} (H : Held w0 w (shutT acc p :: Rs)) :
    Calls Tryz.prog 15 #[.pointer (some ⟨p.b, p.o, none⟩)] w fun e w' => e = .returned (.int .i64 8) ∧ Held w0 w' (shutT acc p :: Rs) := by
  have c16 := shut_cell H
  have H1 := hid H
  clear H
  go_enter Tryz.func15, Tryz.ntmps15
  go_wp2
  go_ret
  exact ⟨rfl, H1.out⟩
theorem dshut_take {acc : List Nat} {p : Place} (H : Held w0 w (shutT acc p :: Rs)) :
    Calls Tryz.prog 14 #[.pointer (some ⟨p.b, p.o, none⟩)] w fun e w' => ∃ d, e = .returned d ∧ Held w0 w' (ownT 5 1 d (bytesOf acc).length (u8s (bytesOf acc)) :: shutT (acc.drop (8 * (bytesOf acc).length)) p :: Rs) := by
  have HT := hid (shut_take H)
  clear H
  go_enter Tryz.func14, Tryz.ntmps14
  go_wp2_with fail
  with_reducible refine HT.out.mono ?_
  rintro e w1 ⟨d, rfl, h1⟩
  obtain ⟨ao, cap, rfl, _, _⟩ := h1.own.form
  have H1 := hid h1
  clear h1 HT
  go_wp2
  go_ret
  exact ⟨_, rfl, H1.out⟩
theorem dtake_any {s : EncS FinS} {p : Place} (H : Held w0 w (encT s p :: Rs)) :
    Calls Tryz.prog 14 #[.pointer (some ⟨p.b, p.o, none⟩)] w fun e w' => ∃ d, e = .returned d ∧ Held w0 w' (ownT 5 1 d (bytesOf s.acc).length (u8s (bytesOf s.acc)) :: encT (encTake s) p :: Rs) := by
  have HT := hid (enc_take H)
  clear H
  go_enter Tryz.func14, Tryz.ntmps14
  go_wp2_with fail
  with_reducible refine HT.out.mono ?_
  rintro e w1 ⟨d, rfl, h1⟩
  obtain ⟨ao, cap, rfl, _, _⟩ := h1.own.form
  have H1 := hid h1
  clear h1 HT
  go_wp2
  go_ret
  exact ⟨_, rfl, H1.out⟩
theorem dnil_write (v : Value) (w : World) :
    Calls Tryz.prog 12 #[.pointer none, v] w fun e w' => e = .returned (.int .i64 8) ∧ Mod w w' (fun _ => False) := by
  refine (callsIn_wide (n := 3)).1 ?_
  refine callsIn_of_wp_marks Tryz.func12 rfl trivial ?_ rfl
  simp only [Tryz.ntmps12, List.size_toArray, List.length_cons, List.length_nil, Nat.reduceAdd, Nat.reduceSub, Array.replicate_succ, Array.replicate_zero, List.push_toArray, List.append_toArray, List.nil_append, List.cons_append]
  gi_wp2_with fail
  exact ⟨_, results_tmp rfl _ _ _, rfl, (Mod.refl w _).alloc _⟩
theorem dnil_flush (w : World) : Calls Tryz.prog 13 #[.pointer none] w fun e w' => e = .returned (.int .i64 8) ∧ w' = w := by
  go_enter Tryz.func13, Tryz.ntmps13
  go_wp2
  go_ret
  exact ⟨rfl, rfl⟩
theorem dnil_close (w : World) : Calls Tryz.prog 15 #[.pointer none] w fun e w' => e = .returned (.int .i64 8) ∧ w' = w := by
  go_enter Tryz.func15, Tryz.ntmps15
  go_wp2
  go_ret
  exact ⟨rfl, rfl⟩
theorem dnil_take (w : World) : Calls Tryz.prog 14 #[.pointer none] w fun e w' => e = .returned (.slice none 0 0) ∧ w' = w := by
  go_enter Tryz.func14, Tryz.ntmps14
  go_wp2
  go_ret
  exact ⟨rfl, rfl⟩
/-! ### Whole -/
set_option maxHeartbeats 1600000 in
theorem dwhole_any (lev : Int) (hl : Levs w0) (hO : Ordr w0) (v : Value) (n : Nat) (b : List Nat) (h : Held w0 w (S :: Rs)) (hv : Reads w0 S 1 v n (u8s b)) (hb : ∀ c ∈ b, c < 256) (hx : b.length ≤ most) :
    Calls Tryz.prog 8 #[v, .int .i64 lev] w fun e w' => ∃ d, e = .returned d ∧ Held w0 w' (ownT 5 1 d (wholeF finM (blkF lensF) b lev).length (u8s (wholeF finM (blkF lensF) b lev)) :: S :: Rs) := by
  have hrd := hv.rd h
  obtain ⟨vo, vc, rfl, _, _⟩ := hrd.form
  have HN := hid (dnew_any lev hl h)
  have hs := inv_start lev finLaws
  have HW := hid (fun (wz : World) (B : Nat) (hz : Held w0 wz (encT (encStart finM lev) (.whole B 67) :: S :: Rs)) => dwrite_any hz hO hs (by decide) (.slice vo n vc) n b hv hb (by simpa using hx))
  have hw := inv_write (F := blkF lensF) finLaws blkLaw hs b hb (by simpa using hx)
  have HC := hid (fun (wz : World) (B : Nat) (hz : Held w0 wz (encT (encWrite finM (blkF lensF) (encStart finM lev) b) (.whole B 67) :: S :: Rs)) => dclose_any hz hO hw (by simpa using hx) (by decide))
  have HT := hid (fun (wz : World) (B : Nat) (hz : Held w0 wz (shutT (encClose finM (blkF lensF) (encWrite finM (blkF lensF) (encStart finM lev) b)) (.whole B 67) :: S :: Rs)) => dshut_take hz)
  have hF : bytesOf (encClose finM (blkF lensF) (encWrite finM (blkF lensF) (encStart finM lev) b)) = wholeF finM (blkF lensF) b lev := rfl
  rw [hF] at HT
  clear hs hw hrd hF
  generalize wholeF finM (blkF lensF) b lev = W at HT ⊢
  generalize encClose finM (blkF lensF) (encWrite finM (blkF lensF) (encStart finM lev) b) = A at HC HT
  generalize encWrite finM (blkF lensF) (encStart finM lev) b = s1 at HW HC
  go_enter Tryz.func8, Tryz.ntmps8
  go_wp2_with fail
  with_reducible refine HN.out.mono ?_
  rintro e w1 ⟨B, rfl, h1⟩
  have H1 : Hid (Calls Tryz.prog 12 #[.pointer (some ⟨B, 0, none⟩), .slice vo n vc] w1 fun e w' => e = .returned (.int .i64 0) ∧ Held w0 w' (encT s1 (.whole B 67) :: S :: Rs)) := hid (HW.out w1 B h1)
  clear h1 HN HW
  go_wp2_with fail
  with_reducible refine H1.out.mono ?_
  rintro e w2 ⟨rfl, h2⟩
  have H2 : Hid (Calls Tryz.prog 15 #[.pointer (some ⟨B, 0, none⟩)] w2 fun e w' => e = .returned (.int .i64 0) ∧ Held w0 w' (shutT A (.whole B 67) :: S :: Rs)) := hid (HC.out w2 B h2)
  clear h2 H1 HC
  go_wp2_with fail
  with_reducible refine H2.out.mono ?_
  rintro e w3 ⟨rfl, h3⟩
  have H3 : Hid (Calls Tryz.prog 14 #[.pointer (some ⟨B, 0, none⟩)] w3 fun e w' => ∃ d, e = .returned d ∧ Held w0 w' (ownT 5 1 d W.length (u8s W) :: shutT (A.drop (8 * W.length)) (.whole B 67) :: S :: Rs)) := hid (HT.out w3 B h3)
  clear h3 H2 HT
  go_wp2_with fail
  with_reducible refine H3.out.mono ?_
  rintro e w4 ⟨d, rfl, h4⟩
  obtain ⟨ao, cap, rfl, _, _⟩ := h4.own.form
  have H4 := hid h4.swap.drop
  clear h4 H3
  go_wp2
  go_ret
  exact ⟨_, rfl, H4.out⟩
end
end Go.Proofs.YtdmnfjicjjlnnaaGreatDoor
