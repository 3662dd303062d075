/-
  What a law is handed, opened: numbers, bools, strings, slices of any of these, structs. A 'Shape' says what the cells of a type hold; no program is named here.
-/
import Derived.Test.YtmmfkppkmgjljaaDoorZE03
import Derived.Test.YtmmfkppkmgjljaaDoorZE02
import Derived.Deep.Slices
import Derived.OpenShut
import Derived.ProofKit
import Derived.Test.YtmmfkppkmgjljaaDoorZE25
import Derived.Test.YtmmfkppkmgjljaaDoorZE11
import Derived.Test.YtmmfkppkmgjljaaDoorZE15
import Derived.Deep.DeepCutAuto
import Derived.Test.YtmmfkppkmgjljaaDoorRows
import Derived.Test.YtmmfkppkmgjljaaDoorZE22
import Derived.LaidMore
import Derived.Deep.Strs
import Derived.Stop.Joined
import Derived.Test.YtmmfkppkmgjljaaDoorZE09
import Derived.Test.YtmmfkppkmgjljaaDoorZE10
import Derived.Test.YtmmfkppkmgjljaaDoorZE12
namespace Go.Proofs.YtmmfkppkmgjljaaDoor
set_option maxRecDepth 5000
open Go.RowKit
structure Shape (P : Program) (α : Type) where
  t : TypeId
  size : Nat
  good : World → List Value → α → Prop
  sized : P.cellsOf t = size
  long : ∀ w cs a, good w cs a → cs.length = size
  opens : ∀ {H : Type} {enc : TypeId × Value → H} {W : World} {fuel : Nat} {cs : List Value} {x : DataW H × List MemPlace},
    DataW.trod enc P W 0 (fun _ => true) true fuel t cs = some x → ∃ a, good W cs a
section
variable {P : Program}
def shInt (t : TypeId) (k : IntKind) (ht : P.underlying t = some (.int k)) (hc : P.cellsOf t = 1) : Shape P Int where
  t := t
  size := 1
  good := fun _ cs n => cs = [.int k n] ∧ (Lit.int k n).wf = true
  sized := hc
  long := fun _ _ _ h => by rw [h.1]; rfl
  opens := fun h => by
    obtain ⟨n, h1, _, h2⟩ := DataW.trod_int ht h
    exact ⟨n, h1, h2⟩
def IsSlice {α : Type} (S : Shape P α) (W : World) (v : Value) (l : List α) : Prop :=
  ∃ ao cap, v = .slice ao l.length cap ∧ l.length ≤ cap ∧ cap ≤ maxLen ∧ (ao = none → cap = 0) ∧ (l.length = 0 ∨ ∃ g off, ao = some ⟨g, off, none⟩ ∧
    ∀ i a, l[i]? = some a → ∃ xs, S.good W xs a ∧ ∀ j u, xs[j]? = some u → W.cell? ⟨g, off + i * S.size + j, none⟩ = some u)
def shSlice {α : Type} (S : Shape P α) (t : TypeId) (ht : P.underlying t = some (.slice S.t)) (hc : P.cellsOf t = 1) (hs : 0 < S.size) [Inhabited α] : Shape P (List α) where
  t := t
  size := 1
  good := fun W cs l => ∃ v, cs = [v] ∧ IsSlice S W v l
  sized := hc
  long := fun _ _ _ h => by obtain ⟨v, h, _⟩ := h; rw [h]; rfl
  opens := fun {H enc W fuel cs x} h => by
    rcases Go.Deep.open_slice ht h with ⟨hcs, _⟩ | ⟨ad, l, c, m, n, D, Pl, hcs, _, hl, hm, hmm, _, hel⟩
    · exact ⟨[], _, hcs, none, 0, rfl, Nat.le_refl _, Nat.zero_le _, fun _ => rfl, .inl rfl⟩
    · simp only [if_true] at hmm
      subst hmm
      rw [S.sized] at hel
      by_cases h0 : l = 0
      · subst h0
        exact ⟨[], _, hcs, some ad, m, rfl, by simp, hm, (fun h => by cases h), .inl rfl⟩
      · obtain ⟨g, off, spot⟩ := ad
        have hspot : spot = none := by
          obtain ⟨cs', hc0, _⟩ := hel 0 (by omega)
          obtain ⟨_, hcl, hcc⟩ := World.cells?_some hc0
          have hx := hcc 0 hs
          rw [List.getElem?_eq_getElem (by omega)] at hx
          have := World.cell?_spot hx
          simpa [Addr.add] using this
        subst hspot
        obtain ⟨A, hA⟩ := Go.Deep.choose_lt (α := α) (n := l) (p := fun i a => ∃ xs, S.good W xs a ∧ ∀ j u, xs[j]? = some u → W.cell? ⟨g, off + i * S.size + j, none⟩ = some u) (fun i hi => by
          obtain ⟨cs', hc0, ht⟩ := hel i (by omega)
          obtain ⟨a, ha⟩ := S.opens ht
          obtain ⟨_, hcl, hcc⟩ := World.cells?_some hc0
          refine ⟨a, cs', ha, fun j u hu => ?_⟩
          have hj := hcc j (by have := (List.getElem?_eq_some_iff.1 hu).1; omega)
          rw [Addr.add_lit, Addr.add_lit] at hj
          rw [hj]; exact hu)
        refine ⟨(List.range l).map A, _, hcs, some ⟨g, off, none⟩, m, by simp, by simpa using hl, hm, (fun h => by cases h), .inr ⟨g, off, rfl, fun i a hi => ?_⟩⟩
        have hil : i < l := by have := (List.getElem?_eq_some_iff.1 hi).1; simpa using this
        rw [List.getElem?_map, List.getElem?_range hil] at hi
        simp only [Option.map_some, Option.some.injEq] at hi
        subst hi
        exact hA i hil
theorem IsSlice.rd {α : Type} {S : Shape P α} {W : World} {v : Value} {l : List α} (h : IsSlice S W v l) (f : α → Value) (hf : ∀ W xs a, S.good W xs a → xs = [f a]) (hs : S.size = 1) : Rd W 1 v l.length (l.map f) := by
  obtain ⟨ao, cap, h1, h2, h3, h4, h5⟩ := h
  refine ⟨by simp, ao, cap, h1, h2, h3, h4, ?_⟩
  rcases h5 with h5 | ⟨g, off, h5, h6⟩
  · exact .inl h5
  · refine .inr ⟨g, off, h5, fun j u hu => ?_⟩
    rw [List.getElem?_map, Option.map_eq_some_iff] at hu
    obtain ⟨a, ha, rfl⟩ := hu
    obtain ⟨xs, hg, hc⟩ := h6 j a ha
    have := hc 0 (f a) (by rw [hf W xs a hg]; rfl)
    rwa [hs, Nat.mul_one, Nat.add_zero] at this
theorem IsSlice.each {α : Type} {S : Shape P α} {W : World} {v : Value} {l : List α} (h : IsSlice S W v l) {i : Nat} {a : α} (ha : l[i]? = some a) : ∃ xs, S.good W xs a := by
  obtain ⟨ao, cap, h1, h2, h3, h4, h5⟩ := h
  have hi := (List.getElem?_eq_some_iff.1 ha).1
  rcases h5 with h5 | ⟨g, off, h5, h6⟩
  · omega
  · obtain ⟨xs, h7, _⟩ := h6 i a ha
    exact ⟨xs, h7⟩
theorem IsSlice.bytes {t : TypeId} {ht : P.underlying t = some (.int .u8)} {hc : P.cellsOf t = 1} {W : World} {v : Value} {l : List Int} (h : IsSlice (shInt t .u8 ht hc) W v l) :
    ∃ b : List Nat, b.length = l.length ∧ (∀ x ∈ b, x < 256) ∧ Rd W 1 v b.length (u8s b) := by
  have hw : ∀ x ∈ l, 0 ≤ x ∧ x ≤ 255 := by
    intro x hx
    obtain ⟨i, hi⟩ := List.mem_iff_getElem?.1 hx
    obtain ⟨xs, h1, h2⟩ := h.each hi
    exact bounds_u8 h2
  refine ⟨l.map Int.toNat, by simp, fun x hx => ?_, ?_⟩
  · obtain ⟨y, hy, rfl⟩ := List.mem_map.1 hx
    have := hw y hy; omega
  · have h1 := h.rd (fun n => .int .u8 n) (fun W xs a hg => hg.1) rfl
    have e : u8s (l.map Int.toNat) = l.map (fun n => Value.int .u8 n) := by
      unfold u8s
      rw [List.map_map]
      refine List.map_congr_left fun x hx => ?_
      have := hw x hx
      simp only [Function.comp]
      rw [Int.toNat_of_nonneg this.1]
    rw [e, List.length_map]
    exact h1
end
end Go.Proofs.YtmmfkppkmgjljaaDoor
/-
  The laws' own example; a decoder that may let out nothing.
-/
namespace Go.Proofs.YtmmfkppkmgjljaaDoor
set_option maxRecDepth 5000
open Go.RowKit
def shIB : Shape Tryd.prog Int := shInt 5 .u8 Tryd.underlying5 (by kernel_rfl)
def shIBs : Shape Tryd.prog (List Int) := shSlice shIB 22 Tryd.underlying22 (by kernel_rfl) (by decide)
theorem ibs_of {w : World} {v : Value} {l : List Int} (h : shIBs.good w [v] l) : ∃ bs : List Nat, (∀ b ∈ bs, b < 256) ∧ Rd w 1 v bs.length (u8s bs) := by
  obtain ⟨v', hv, hs⟩ := h
  obtain rfl : v = v' := by simpa using hv
  obtain ⟨b, _, h1, h2⟩ := hs.bytes
  exact ⟨b, h1, h2⟩
theorem ans_ends : Ends 5 .hd (bits8 [1, 1, 0, 254, 255, 7, 9]) [] 8 (bits8 [9]) [7] :=
  .go (p1 := .sz true) (l1 := (bits8 [1, 1, 0, 254, 255, 7, 9]).drop 3) (o1 := []) (by kernel_rfl)
    (.go (p1 := .sto true 1) (l1 := bits8 [7, 9]) (o1 := []) (by kernel_rfl) (.go (p1 := .sto true 0) (l1 := bits8 [9]) (o1 := [7]) (by kernel_rfl) (.done (by kernel_rfl))))
theorem none_sym : symF fixLit ((bits8 [3, 0]).drop 3) = (256, 7, 0) := by
  have h := sym_read (good_of fix_check.1) (k := 256) ⟨7, by kernel_rfl, by decide⟩ (post := List.replicate 6 0) (by unfold isBits; decide)
  rw [show symBits fixLit 256 = List.replicate 7 0 by decide +kernel] at h
  exact h
theorem none_ends : Ends 0 .hd (bits8 [3, 0]) [] 8 (List.replicate 6 0) [] := by
  refine .go (p1 := .tok true fixLit fixDist) (l1 := (bits8 [3, 0]).drop 3) (o1 := []) (by kernel_rfl) (.done ?_)
  show tokR 0 true fixLit fixDist _ [] (symF fixLit ((bits8 [3, 0]).drop 3)) = _
  rw [none_sym]
  rfl
theorem WholeIs.of {M : Nat} {news t r : List Nat} {er e0 : Nat} {l' o' : List Nat} (h : WholeIs M news t r er) (hE : Ends M .hd (bits8 news) [] e0 l' o') : t = o' ∧ er = (if e0 = 8 then 0 else e0) ∧ r = if e0 = 8 then restOf l' else [] := by
  obtain ⟨e1, l1, h1, h2, h3⟩ := h.is
  obtain ⟨rfl, rfl, rfl⟩ := h1.det hE
  exact ⟨rfl, h2, h3⟩
section
variable {w0 w : World} {Rs : List Thing}
theorem h_same_eq (h : Held w0 w Rs) (v u : Value) (a b : List Nat) (hab : a = b) (hv : Rd w 1 v a.length (u8s a)) (hu : Rd w 1 u b.length (u8s b)) (hal : a.length < 8000000000) :
    Calls Tryd.prog 10 #[v, u] w fun e w' => e = .returned (.bool true) ∧ Held w0 w' Rs :=
  (h_same h v u a b hv hu hal).mono fun _ _ ⟨h1, h2⟩ => ⟨by rw [h1, decide_eq_true hab], h2⟩
set_option maxRecDepth 100000 in
set_option maxHeartbeats 1600000 in
theorem h_answers12 (hG : GlobI w0) (h : Held w0 w Rs) :
    Calls Tryd.prog 7 #[] w fun e w' => e = .returned (.bool true) ∧ Held w0 w' Rs := by
  have hl : Held w0 (w.alloc (.cells #[.int .u8 1, .int .u8 1, .int .u8 0, .int .u8 254, .int .u8 255, .int .u8 7, .int .u8 9] 5)) (ownT 5 1 (.slice (some ⟨w.heap.size, 0, none⟩) 7 7) 7 (u8s [1, 1, 0, 254, 255, 7, 9]) :: Rs) := h.lit 5 1 (u8s [1, 1, 0, 254, 255, 7, 9]) 7 (by decide) rfl
  have HW := hid (whole_any (M := 5) (.slice (some ⟨w.heap.size, 0, none⟩) 7 7) 7 [1, 1, 0, 254, 255, 7, 9] 5 hG (by decide) (by decide) hl (fun w' h => h.own.rd) (by decide) rfl (by decide))
  clear h hl
  go_enter Tryd.func7, Tryd.ntmps7
  go_wp2_with fail
  with_reducible refine HW.out.mono ?_
  rintro e w2 ⟨x, y, t, r, er, rfl, hi, h2⟩
  obtain ⟨rfl, rfl, rfl⟩ := hi.of ans_ends
  rw [if_pos rfl] at h2
  have hr : restOf (bits8 [9]) = [9] := by kernel_rfl
  rw [hr] at h2
  obtain ⟨ax, cx, rfl, _, _⟩ : ∃ ax cx, x = .slice ax 1 cx ∧ _ ∧ _ := h2.own.form
  obtain ⟨ay, cy, rfl, _, _⟩ : ∃ ay cy, y = .slice ay 1 cy ∧ _ ∧ _ := h2.swap.own.form
  have H2 := hid h2
  clear h2 HW hi hr
  have hl : Held w0 (w2.alloc (.cells #[.int .u8 7] 5)) (ownT 5 1 (.slice (some ⟨w2.heap.size, 0, none⟩) 1 1) 1 (u8s [7]) :: _) := H2.out.lit 5 1 (u8s [7]) 1 (by decide) rfl
  have HS := hid (h_same_eq hl (.slice ax 1 cx) (.slice (some ⟨w2.heap.size, 0, none⟩) 1 1) [7] [7] rfl hl.swap.own.rd hl.own.rd (by decide))
  clear hl
  go_wp2_with fail
  with_reducible refine HS.out.mono ?_
  rintro e w3 ⟨rfl, h3⟩
  have hl : Held w0 (w3.alloc (.cells #[.int .u8 9] 5)) (ownT 5 1 (.slice (some ⟨w3.heap.size, 0, none⟩) 1 1) 1 (u8s [9]) :: _) := h3.lit 5 1 (u8s [9]) 1 (by decide) rfl
  have HS2 := hid (h_same_eq hl (.slice ay 1 cy) (.slice (some ⟨w3.heap.size, 0, none⟩) 1 1) [9] [9] rfl hl.drop.drop.swap.own.rd hl.own.rd (by decide))
  clear hl h3 HS
  go_wp2_with fail
  with_reducible refine HS2.out.mono ?_
  rintro e w4 ⟨rfl, h4⟩
  have H4 := hid h4.drop.drop.drop.drop.drop
  clear h4 HS2
  go_wp2
  go_ret
  exact ⟨rfl, H4.out⟩
end
end Go.Proofs.YtmmfkppkmgjljaaDoor
/-
  The law InflateNone.
-/
namespace Go.Proofs.YtmmfkppkmgjljaaDoor
set_option maxRecDepth 5000
open Go.RowKit
set_option maxRecDepth 100000 in
set_option maxHeartbeats 1600000 in
theorem inflateNone_at (v : Value) (b : List Int) (n : Int) (w : World) (hG : GlobI w) (hg : shIBs.good w [v] b) (_ : (Lit.int .i64 n).wf = true) :
    Calls Tryd.prog 5 #[v, .int .i64 n] w fun e w' => e = .returned (.bool true) ∧ Below w.heap.size w w' := by
  obtain ⟨bs, _, hv⟩ := ibs_of hg
  obtain ⟨ao, cap, rfl, _, _⟩ := hv.form
  clear hg hv
  have H0 := hid (Held.start w)
  have hl : Held w (w.alloc (.cells #[.int .u8 3, .int .u8 0] 5)) (ownT 5 1 (.slice (some ⟨w.heap.size, 0, none⟩) 2 2) 2 (u8s [3, 0]) :: []) := (Held.start w).lit 5 1 (u8s [3, 0]) 2 (by decide) rfl
  have HW := hid (whole_any (M := 0) (.slice (some ⟨w.heap.size, 0, none⟩) 2 2) 2 [3, 0] (-1) hG (by decide) (by decide) hl (fun w' h => h.own.rd) (by decide) rfl (by decide))
  have HA := hid (fun (w' : World) (Rs : List Thing) (h : Held w w' Rs) => h_answers12 hG h)
  clear hl
  go_enter Tryd.func5, Tryd.ntmps5
  go_wp2_with fail
  with_reducible refine (ifeed_none _ _).mono ?_
  rintro e w1 ⟨rfl, rfl⟩
  go_wp2_with fail
  with_reducible refine (itake_none _ _).mono ?_
  rintro e w2 ⟨rfl, rfl⟩
  go_wp2_with fail
  with_reducible refine HW.out.mono ?_
  rintro e w2 ⟨x, y, t, r, er, rfl, hi, h2⟩
  obtain ⟨rfl, rfl, rfl⟩ := hi.of none_ends
  obtain ⟨ax, cx, rfl, _, _⟩ : ∃ ax cx, x = .slice ax 0 cx ∧ _ ∧ _ := h2.own.form
  obtain ⟨ay, ny, cy, rfl⟩ : ∃ ay ny cy, y = .slice ay ny cy := by obtain ⟨ay, cy, h, _⟩ := h2.swap.own.form; exact ⟨_, _, _, h⟩
  have H2 := hid h2.mod.toBelow
  have H3 := hid (HA.out _ _ h2)
  clear h2 HW HA hi
  go_wp2_with fail
  with_reducible refine H3.out.mono ?_
  rintro e w3 ⟨rfl, h3⟩
  have H4 := hid h3.mod.toBelow
  clear h3 H3
  go_wp2_with fail
  with_reducible refine (irest_none _).mono ?_
  rintro e w4 ⟨rfl, rfl⟩
  go_wp2
  go_ret
  exact ⟨rfl, H4.out⟩
end Go.Proofs.YtmmfkppkmgjljaaDoor
/-
  From the row's condition on the decoder's two package-level arrays to their cells; a start that meets it.
-/
namespace Go.Proofs.YtmmfkppkmgjljaaDoor
set_option maxRecDepth 5000
open Go.ChangeShapes Go.WideShapes Go.ChangeAt Go.RowKit
def laidInf : List (String × DataW Unit) := [("concertina/inflate.order", Rows.laid_concertina_inflate_order), ("concertina/inflate.runs", Rows.laid_concertina_inflate_runs)]
theorem gIno : Tryd.prog.globalNamed "concertina/inflate.order" = some 0 := by kernel_rfl
theorem tIno : (Tryd.prog.globals[0]?).map (·.type) = some 96 := by kernel_rfl
theorem gInr : Tryd.prog.globalNamed "concertina/inflate.runs" = some 1 := by kernel_rfl
theorem tInr : (Tryd.prog.globals[1]?).map (·.type) = some 122 := by kernel_rfl
theorem cells_run : Tryd.prog.cellsOf 121 = 2 := by kernel_rfl
theorem cells_intI : Tryd.prog.cellsOf 3 = 1 := by kernel_rfl
theorem inf_met (os : Os) (args : Array Value) : laidMetH Tryd.prog laidInf ((World.doorLaid Tryd.prog 400 os).forCall (fun _ _ => 0) ⟨#[], args, []⟩).memory :=
  laidMetH_of_parts3 (fuel := 8) (laidMet_of_run' 8 (by kernel_rfl) (by kernel_rfl)) (by kernel_rfl) (by kernel_rfl)
theorem laidMet_partsI {P : Program} {x : String × DataW Unit} {r : List (String × DataW Unit)} {W : World} (h : laidMet P (x :: r) W) : laidMet P [x] W ∧ laidMet P r W := by
  obtain ⟨n, d⟩ := x
  obtain ⟨ps, ⟨g, t, cs, fuel, p, q, h1, h2, h3, h4, h5, rfl⟩, hn, hc⟩ := h
  refine ⟨⟨_, ⟨g, t, cs, fuel, p, [], h1, h2, h3, h4, rfl, rfl⟩, ?_, fun b off hm => hc b off ?_⟩, q, h5, (List.nodup_append.1 hn).2.1, fun b off hm => hc b off (List.mem_append_right _ hm)⟩
  · rw [List.append_nil]; exact (List.nodup_append.1 hn).1
  · rw [List.append_nil] at hm; exact List.mem_append_left _ hm
section
variable {H : Type} {enc : TypeId × Value → H} {W : World} {base : Nat} {sp : Nat → Bool} {held : Bool}
theorem inf_int {m : Nat} {cs : List Value} {y : DataW H × List MemPlace} {a : Int} (h : DataW.trod enc Tryd.prog W base sp held m 3 cs = some y) (hy : y.1 = .lit (.int .i64 a)) : cs = [.int .i64 a] := by
  obtain ⟨n, e1, e2, _⟩ := DataW.trod_int Tryd.underlying3 h
  rw [e2] at hy
  have : n = a := by simpa using hy
  rw [← this]; exact e1
theorem inf_run {m : Nat} {cs : List Value} {y : DataW H × List MemPlace} {a b : Int} (h : DataW.trod enc Tryd.prog W base sp held m 121 cs = some y) (hy : y.1 = .agg [.lit (.int .i64 a), .lit (.int .i64 b)]) : cs = [.int .i64 a, .int .i64 b] := by
  obtain ⟨y0, y1, n, rfl, hl, h0, h1⟩ := trod_struct2 Tryd.underlying121 h
  simp only [DataW.agg.injEq, List.cons.injEq, and_true] at hy
  rw [cells_run] at hl
  have k0 := inf_int h0 hy.1
  have k1 := inf_int h1 hy.2
  simp only [cells_intI] at k0 k1
  match cs, hl with
  | [c0, c1], _ =>
    simp at k0 k1
    rw [k0, k1]
theorem ino_of_laid (h : laidMet Tryd.prog [("concertina/inflate.order", Rows.laid_concertina_inflate_order)] W) (i : Nat) (v : Value) (hv : (nums .i64 orderF)[i]? = some v) : W.cell? ⟨0, i, none⟩ = some v := by
  obtain ⟨ps, ⟨g0, t0, cs, f0, p0, q0, hg0, ht0, hv0, hd0, _, _⟩, _, _⟩ := h
  obtain rfl := Option.some.inj (gIno.symm.trans hg0)
  obtain rfl := Option.some.inj (tIno.symm.trans ht0)
  obtain ⟨xs, m, _, hx, hlen, hn, hel⟩ := DataW.trod_array Tryd.underlying96 hd0
  have hxs : xs.map (·.1) = orderF.map fun (t : Nat) => DataW.lit (.int .i64 (t : Int)) := by
    have e := congrArg Prod.fst hx
    exact (DataW.agg.inj e).symm
  have hi : i < 19 := (List.getElem?_eq_some_iff.1 hv).1
  have hcell := World.var?_cell hg0 hv0 i
  rw [hcell]
  have h1 := hel i hi
  rw [cells_intI] at h1
  have h2 : xs[i]? = some (xs[i]'(by omega)) := List.getElem?_eq_getElem _
  rw [h2] at h1
  obtain ⟨o, ho⟩ : ∃ o, orderF[i]? = some o := ⟨orderF[i]'hi, List.getElem?_eq_getElem _⟩
  have h3 := congrArg (fun l => l[i]?) hxs
  simp only [List.getElem?_map] at h3
  rw [h2, ho] at h3
  have h4 := inf_int h1 (by simpa using h3)
  have h5 := congrArg (fun l => l[0]?) h4
  simp only [List.getElem?_take, List.getElem?_drop] at h5
  rw [Nat.mul_one] at h5
  simp at h5
  have h6 : v = .int .i64 (o : Int) := by
    simp [nums, ho] at hv
    exact hv.symm
  rw [h6, h5]
def runsL : List (Nat × Nat) := [(2, 3), (3, 3), (7, 11)]
theorem runs_cells : ∀ k, k < 3 → (nums .i64 runsF)[k * 2]? = some (.int .i64 (((runsL[k]?.getD (0, 0)).1 : Nat) : Int)) ∧ (nums .i64 runsF)[k * 2 + 1]? = some (.int .i64 (((runsL[k]?.getD (0, 0)).2 : Nat) : Int)) := by
  intro k hk
  match k, hk with
  | 0, _ | 1, _ | 2, _ => exact ⟨rfl, rfl⟩
  | k + 3, h => omega
theorem inr_of_laid (h : laidMet Tryd.prog [("concertina/inflate.runs", Rows.laid_concertina_inflate_runs)] W) (i : Nat) (v : Value) (hv : (nums .i64 runsF)[i]? = some v) : W.cell? ⟨1, i, none⟩ = some v := by
  obtain ⟨ps, ⟨g0, t0, cs, f0, p0, q0, hg0, ht0, hv0, hd0, _, _⟩, _, _⟩ := h
  obtain rfl := Option.some.inj (gInr.symm.trans hg0)
  obtain rfl := Option.some.inj (tInr.symm.trans ht0)
  obtain ⟨xs, m, _, hx, hlen, hn, hel⟩ := DataW.trod_array Tryd.underlying122 hd0
  have hxs : xs.map (·.1) = runsL.map fun t => DataW.agg [.lit (.int .i64 (t.1 : Int)), .lit (.int .i64 (t.2 : Int))] := by
    have e := congrArg Prod.fst hx
    exact (DataW.agg.inj e).symm
  have hcs : ∀ k, k < 3 → (cs.toList.drop (k * 2)).take 2 = [.int .i64 (((runsL[k]?.getD (0, 0)).1 : Nat) : Int), .int .i64 (((runsL[k]?.getD (0, 0)).2 : Nat) : Int)] := by
    intro k hk
    have h1 := hel k hk
    rw [cells_run] at h1
    have h2 : xs[k]? = some (xs[k]'(by omega)) := List.getElem?_eq_getElem _
    rw [h2] at h1
    refine inf_run h1 ?_
    have h3 := congrArg (fun l => l[k]?) hxs
    simp only [List.getElem?_map] at h3
    rw [h2] at h3
    have hk2 : k < runsL.length := hk
    rw [List.getElem?_eq_getElem hk2] at h3 ⊢
    simpa using h3
  have hi : i < 6 := (List.getElem?_eq_some_iff.1 hv).1
  have hcell := World.var?_cell hg0 hv0 i
  rw [hcell]
  obtain ⟨k, j, hij, hk, hj⟩ : ∃ k j, i = k * 2 + j ∧ k < 3 ∧ j < 2 := ⟨i / 2, i % 2, by omega, by omega, by omega⟩
  have h1 := hcs k hk
  have h2 := runs_cells k hk
  have h3 := congrArg (fun l => l[j]?) h1
  simp only [List.getElem?_take, if_pos hj, List.getElem?_drop] at h3
  rw [← hij, Array.getElem?_toList] at h3
  rw [h3]
  rw [hij] at hv
  match j, hj with
  | 0, _ => rw [Nat.add_zero, h2.1] at hv; exact hv
  | 1, _ => rw [h2.2] at hv; exact hv
theorem inf_of_laid (h : laidMetH Tryd.prog laidInf W) : GlobI W := by
  rw [MakeChecks.laidMetH_plain _ _ _ (by kernel_rfl)] at h
  obtain ⟨h1, h2⟩ := laidMet_partsI h
  exact ⟨ino_of_laid h1, inr_of_laid h2⟩
end
end Go.Proofs.YtmmfkppkmgjljaaDoor
/-
  The reference's stream: a dynamic block's codes.
-/
namespace Go.Proofs.YtmmfkppkmgjljaaDoor
set_option maxRecDepth 5000
open Go.RowKit
section
variable {w0 w : World} {Rs : List Thing}
def DynEnd (w0 w' : World) (Rs : List Thing) (S : Nat × Nat × List Int × List Int) (B : Nat) (o r kk s : Value) (bo : Option Addr) (bc m M : Nat) (lc dc tk : Value) (all : List Nat) : Prop :=
  (S.1 = 0 ∧ ∃ (li di : Value), Held w0 w' (strT B o 0 r kk s (.slice bo m bc) S.2.1 (M : Int) li di lc dc tk :: rdT 1 (.slice bo m bc) m (u8s all) :: rd2T 1 li S.2.2.1.length (ints S.2.2.1) di S.2.2.2.length (ints S.2.2.2) :: Rs)) ∨
  (S.1 ≠ 0 ∧ ∃ (a' : Nat) (li di : Value), Held w0 w' (strT B o S.1 r kk s (.slice bo m bc) a' (M : Int) li di lc dc tk :: rdT 1 (.slice bo m bc) m (u8s all) :: Rs))
theorem check_in {l : List Int} {mm : Int} (h : checkOf l mm = 0) : ∀ y ∈ l, 0 ≤ y ∧ y ≤ mm := by
  unfold checkOf at h
  split at h
  · cases h
  · rename_i hb
    simp only [argBad, Bool.or_eq_true, decide_eq_true_eq, Bool.not_eq_true', not_or, Bool.not_eq_false] at hb
    exact (allIn_iff l mm).1 hb.2
theorem made_cells10 (z : Value) (n : Nat) (hz : z.cells = #[z]) : (madeCells z.cells (n * 1)).toList = List.replicate n z := by
  rw [Nat.mul_one, hz]
  refine List.ext_getElem? fun j => ?_
  by_cases hj : j < n
  · simp [madeCells, hj, Nat.mod_one]
  · rw [List.getElem?_eq_none (by simp [madeCells]; omega), List.getElem?_eq_none (by simp; omega)]
theorem alloc_size10 (w : World) (o : Obj) : (w.alloc o).heap.size = w.heap.size + 1 := by
  show (w.heap.push o).size = _
  simp
theorem Held.cut2 {w0 w : World} {Rs : List Thing} {e : TypeId} {lo : Option Addr} {n lcap : Nat} {xs : List Value} (h : Held w0 w (ownT e 1 (.slice lo n lcap) n xs :: Rs)) (A : Nat) (hA : A ≤ n) : Held w0 w (rd2T 1 (.slice lo A lcap) A (xs.take A) (sliced lo A n lcap 1) (n - A) (xs.drop A) :: Rs) := by
  have hl := h.own.rd.1
  have h1 := h.own.rd.front hA
  have h2 := h.own.rd.cut (L := A) (H := n) hA (Nat.le_refl _)
  rw [Nat.mul_one] at h1
  rw [Nat.mul_one, Nat.mul_one, List.take_of_length_le (by rw [List.length_drop]; omega)] at h2
  obtain ⟨F, h3, h4⟩ := h
  have hbl : ∀ k, Value.ownBlock (.slice lo A lcap) = some k → Value.ownBlock (.slice lo n lcap) = some k := fun k hk => by
    clear h1 h2 h3 h4
    cases lo <;> exact hk
  refine ⟨F, ⟨⟨h1, fun k hk => (h3.2 k).2 (hbl k hk)⟩, ⟨h2, fun k hk => (h3.2 k).2 ?_⟩⟩, h4⟩
  rw [← cut_block lo A n lcap 1 n]; exact hk
theorem order_lt : ∀ i, i < 19 → orderF[i]?.getD 0 < 19 := by decide
theorem order_is : ∀ i, i < 19 → ([16, 17, 18, 0, 8, 7, 9, 6, 10, 5, 11, 4, 12, 3, 13, 2, 14, 1, 15] : List Int)[i]? = some ((orderF[i]?.getD 0 : Nat) : Int) := by decide
theorem order_at (i ov : Nat) (h : i < 19) (ho : ov = orderF[i]?.getD 0) : (ints [16, 17, 18, 0, 8, 7, 9, 6, 10, 5, 11, 4, 12, 3, 13, 2, 14, 1, 15])[i]? = some (.int .i64 (ov : Int)) := by
  rw [ints_get, order_is i h, ho]; rfl
theorem ints_set10 (l : List Int) (i : Nat) (b : Int) : ints (l.set i b) = (ints l).set i (.int .i64 b) := by simp [ints, List.map_set]
set_option maxRecDepth 100000 in
set_option maxHeartbeats 6400000 in
theorem dynamic_any (B : Nat) (o r kk s : Value) (bo : Option Addr) (bc m a M : Nat) (li di lc dc tk : Value) (all : List Nat)
    (h : Held w0 w (strT B o 0 r kk s (.slice bo m bc) a (M : Int) li di lc dc tk :: rdT 1 (.slice bo m bc) m (u8s all) :: Rs)) (hb : isBits all) (ha : a ≤ m) (hm2 : m < 1000000000) :
    Calls Tryd.prog 24 #[ptrV B] w fun e' w' => e' = .returned (.bool (decide ((dynF all a).1 = 0))) ∧ DynEnd w0 w' Rs (dynF all a) B o r kk s bo bc m M lc dc tk all := by
  obtain ⟨i0, hi0, hz0, hz1, hz2⟩ := info_parts infoInt10
  have hm : m = all.length := by have := h.drop.rdv.1; rw [u8s_length] at this; omega
  have HM := hid hm
  have HBT := hid hb
  have H := hid h
  generalize hS : dynF all a = S at *
  have HS := hid hS
  have hb' := h.obj
  have c1 := hb'.cell (i := 1) rfl
  have c5 := hb'.cell (i := 5) rfl
  have c6 := hb'.cell (i := 6) rfl
  have f1 := hb'.frozen 1
  have ha0 : (0 : Int) ≤ (a : Int) := Int.natCast_nonneg _
  obtain ⟨z, hz⟩ : ∃ z, z = a + 14 := ⟨_, rfl⟩
  have hzI : (a : Int) + 14 = (z : Int) := by omega
  have hz0' : (0 : Int) ≤ (z : Int) := Int.natCast_nonneg _
  have HZ := hid hz
  unfold ptrV
  by_cases hlong : m < z
  · have b1 : decide (m < z) = true := decide_eq_true hlong
    have b2 : decide ((m : Int) < (z : Int)) = true := decide_eq_true (by omega)
    have HSe : Hid (S = (5, a, [], [])) := hid (by rw [← hS]; unfold dynF; exact if_pos (by rw [← hm, ← hz]; exact hlong))
    have hzw : IntKind.i64.wrap ((a : Int) + 14) = (z : Int) := by rw [hzI]; exact IntWalk.i64_in _ (by omega)
    clear h hb hm hS hb' hz hlong
    go_enter Tryd.func24, Tryd.ntmps24
    go_wp2
    go_quiet (fail)
    go_wp2
    go_ret
    exact ⟨by rw [HSe.out]; rfl, .inr ⟨by rw [HSe.out]; exact fun h => (by cases h), a, li, di, by rw [HSe.out]; exact (H.out.drewN _).setObj 1 _⟩⟩
  · have b1 : decide (m < z) = false := decide_eq_false hlong
    have b2 : decide ((m : Int) < (z : Int)) = false := decide_eq_false (by omega)
    obtain ⟨v1, hv1⟩ : ∃ v, v = numOf ((all.drop a).take 5) := ⟨_, rfl⟩
    obtain ⟨v2, hv2⟩ : ∃ v, v = numOf ((all.drop (a + 5)).take 5) := ⟨_, rfl⟩
    obtain ⟨v3, hv3⟩ : ∃ v, v = numOf ((all.drop (a + 10)).take 4) := ⟨_, rfl⟩
    have hv1b : v1 < 32 := by rw [hv1]; exact num16_lt hb a 5
    have hv2b : v2 < 32 := by rw [hv2]; exact num16_lt hb _ 5
    have hv3b : v3 < 16 := by rw [hv3]; exact num16_lt hb _ 4
    have HT1 := hid (fun w1 (hh : Held w0 w1 (strT B o 0 r kk s (.slice bo m bc) a (M : Int) li di lc dc tk :: rdT 1 (.slice bo m bc) m (u8s all) :: Rs)) => take_yes B o 0 r kk s bo bc m a 5 v1 (M : Int) li di lc dc tk all hh (by rw [hv1]; exact take_at (by rw [← hm]; omega)) hb (by omega) (by decide))
    have HT2 := hid (fun w1 (hh : Held w0 w1 (strT B o 0 r kk s (.slice bo m bc) (a + 5) (M : Int) li di lc dc tk :: rdT 1 (.slice bo m bc) m (u8s all) :: Rs)) => take_yes B o 0 r kk s bo bc m (a + 5) 5 v2 (M : Int) li di lc dc tk all hh (by rw [hv2]; exact take_at (by rw [← hm]; omega)) hb (by omega) (by decide))
    have HT3 := hid (fun w1 (hh : Held w0 w1 (strT B o 0 r kk s (.slice bo m bc) (a + 5 + 5) (M : Int) li di lc dc tk :: rdT 1 (.slice bo m bc) m (u8s all) :: Rs)) => take_yes B o 0 r kk s bo bc m (a + 5 + 5) 4 v3 (M : Int) li di lc dc tk all hh (by rw [show a + 5 + 5 = a + 10 by omega, hv3]; exact take_at (by rw [← hm]; omega)) hb (by omega) (by decide))
    have h5 : ((5 : Nat) : Int) = 5 := rfl
    have h4 : ((4 : Nat) : Int) = 4 := rfl
    have hz14 : a + 5 + 5 + 4 = z := by omega
    rw [h5] at HT1 HT2
    rw [h4, hz14] at HT3
    unfold ptrV at HT1 HT2 HT3
    obtain ⟨A, hA⟩ : ∃ A, A = v1 + 257 := ⟨_, rfl⟩
    obtain ⟨Bn, hBn⟩ : ∃ Bn, Bn = v2 + 1 := ⟨_, rfl⟩
    obtain ⟨C, hC⟩ : ∃ C, C = v3 + 4 := ⟨_, rfl⟩
    have hAI : (v1 : Int) + 257 = (A : Int) := by omega
    have hBI : (v2 : Int) + 1 = (Bn : Int) := by omega
    have hCI : (v3 : Int) + 4 = (C : Int) := by omega
    have hA0 : (0 : Int) ≤ (A : Int) := Int.natCast_nonneg _
    have hB0 : (0 : Int) ≤ (Bn : Int) := Int.natCast_nonneg _
    have hC0 : (0 : Int) ≤ (C : Int) := Int.natCast_nonneg _
    have HSS : Hid (S = dynF.dynRun all z A Bn C) := hid (by rw [← hS]; unfold dynF; rw [if_neg (by rw [← hm, ← hz]; exact hlong), ← hv1, ← hv2, ← hv3, ← hz, hA, hBn, hC])
    have hAb : A ≤ 300 := by omega
    have hBb : Bn ≤ 40 := by omega
    have hCb : C ≤ 19 := by omega
    have hzm : z ≤ m := by omega
    have hzw : IntKind.i64.wrap ((a : Int) + 14) = (z : Int) := by rw [hzI]; exact IntWalk.i64_in _ (by omega)
    have hA257 : 257 ≤ A := by omega
    have hB1 : 1 ≤ Bn := by omega
    clear h hb hm hS hb' hz hlong hv1 hv2 hv3 hA hBn hC h5 h4 hz14 HZ hv1b hv2b hv3b
    go_enter Tryd.func24, Tryd.ntmps24
    go_wp2
    go_quiet (fail)
    have HX1 := hid (HT1.out _ (H.out.drewN nq))
    clear hzw c1 c5 c6 f1 HT1 H
    go_wp2_with fail
    refine HX1.out.mono ?_
    rintro e' w2 ⟨rfl, hh⟩
    have HX2 := hid (HT2.out _ hh)
    clear hh HX1 HT2
    go_wp2_with fail
    refine HX2.out.mono ?_
    rintro e' w3 ⟨rfl, hh⟩
    have HX3 := hid (HT3.out _ hh)
    clear hh HX2 HT3
    go_wp2_with fail
    refine HX3.out.mono ?_
    rintro e' w4 ⟨rfl, hh⟩
    have H4 := hid hh
    have hb' := hh.obj
    have d1 := hb'.cell (i := 1) rfl
    have g1 := hb'.frozen 1
    clear hh HX3 hb'
    by_cases hbad : 286 < A ∨ 30 < Bn
    · have HSe : Hid (S = (2, z, [], [])) := hid (by rw [HSS.out]; unfold dynF.dynRun; exact if_pos hbad)
      have hc : (decide ((286 : Int) < (A : Int)) = true ∧ decide (286 < A) = true) ∨ (decide ((286 : Int) < (A : Int)) = false ∧ decide (286 < A) = false ∧ decide ((30 : Int) < (Bn : Int)) = true ∧ decide (30 < Bn) = true) := by
        by_cases h : 286 < A
        · exact .inl ⟨decide_eq_true (by omega), decide_eq_true h⟩
        · exact .inr ⟨decide_eq_false (by omega), decide_eq_false h, decide_eq_true (by omega), decide_eq_true (by omega)⟩
      clear hbad
      rcases hc with ⟨q1, q2⟩ | ⟨q1, q2, q3, q4⟩
      all_goals
        go_wp2
        go_ret
        exact ⟨by rw [HSe.out]; rfl, .inr ⟨by rw [HSe.out]; exact fun h => (by cases h), z, li, di, by rw [HSe.out]; exact H4.out.setObj 1 _⟩⟩
    · have q1 : decide ((286 : Int) < (A : Int)) = false := decide_eq_false (by omega)
      have q2 : decide (286 < A) = false := decide_eq_false (by omega)
      have q3 : decide ((30 : Int) < (Bn : Int)) = false := decide_eq_false (by omega)
      have q4 : decide (30 < Bn) = false := decide_eq_false (by omega)
      have hA286 : A ≤ 286 := by omega
      have hB30 : Bn ≤ 30 := by omega
      have HSX : Hid (S = if all.length < z + 3 * C then (5, z, [], []) else if checkOf (headF all z C) 7 ≠ 0 ∨ anyF all z C = false then (3, z + 3 * C, [], []) else dynF.dynEnd A (lenF (headF all z C) all (A + Bn) (all.length + 1) (z + 3 * C) [])) := hid (by rw [HSS.out]; unfold dynF.dynRun; exact if_neg hbad)
      have H5 := hid ((H4.out.lit 3 1 (ints [16, 17, 18, 0, 8, 7, 9, 6, 10, 5, 11, 4, 12, 3, 13, 2, 14, 1, 15]) 19 (by decide) rfl).toRd)
      clear hbad HSS
      go_wp2_with (refine wpList_make_own rfl 28 (.const (.int .i64 19)) (.const (.int .i64 19)) rfl 3 i0 (.int .i64 0) 1 Tryd.underlying28 hi0 hz0 hz1 .i64 19 rfl rfl (by rw [hz2]; decide) (by decide) ?_; intro hv w5 zs ho1 hm1 hf1 hv1 hzs; have H6 := hid (H5.out.pushOwn ho1 hm1 hf1))
      have H7 : Hid (Held w0 w5 (strT B o 0 r kk s (.slice bo m bc) z (M : Int) li di lc dc tk :: rdT 1 (.slice bo m bc) m (u8s all) :: ownT 3 1 hv 19 (ints (headF all z 0)) :: rdT 1 (.slice (some ⟨w4.heap.size, 0, none⟩) 19 19) 19 (ints [16, 17, 18, 0, 8, 7, 9, 6, 10, 5, 11, 4, 12, 3, 13, 2, 14, 1, 15]) :: Rs)) := hid (by
        have h := H6.out
        rw [hzs, made_cells10 _ _ rfl] at h
        exact h.third.fourth.swap)
      have hv2 : hv = .slice (some ⟨w4.heap.size + 1, 0, none⟩) 19 19 := by rw [hv1, alloc_size10]
      clear hv1
      subst hv2
      obtain ⟨OB, hOB⟩ : ∃ OB, OB = w4.heap.size := ⟨_, rfl⟩
      rw [← hOB] at H7 ⊢
      clear hOB H6 H5 hm1 hf1 ho1 hzs H4 d1 g1
      go_loopg [11, 12] (C + 2) (fun g t11 t12 wr => ∃ i p : Nat, i ≤ C ∧ C - i < g ∧ t12 = .int .i64 (i : Int) ∧ t11 = .bool (anyF all z i) ∧ p = z + 3 * i ∧ p ≤ m ∧ Hid (Held w0 wr (strT B o 0 r kk s (.slice bo m bc) p (M : Int) li di lc dc tk :: rdT 1 (.slice bo m bc) m (u8s all) :: ownT 3 1 (.slice (some ⟨OB + 1, 0, none⟩) 19 19) 19 (ints (headF all z i)) :: rdT 1 (.slice (some ⟨OB, 0, none⟩) 19 19) 19 (ints [16, 17, 18, 0, 8, 7, 9, 6, 10, 5, 11, 4, 12, 3, 13, 2, 14, 1, 15]) :: Rs)))
      case atStart => exact ⟨0, z, by omega, by omega, rfl, rfl, by omega, hzm, H7⟩
      case round =>
        obtain ⟨i, p, hi, hg, rfl, rfl, hp, hpm, HH⟩ := hrel
        have hi0' : (0 : Int) ≤ (i : Int) := Int.natCast_nonneg _
        by_cases hiC : i < C
        · have hiI : (i : Int) < (C : Int) := by omega
          have h3 : ((3 : Nat) : Int) = 3 := rfl
          cases ht : takeM all p 3 with
          | none =>
            have hT := take_no B o 0 r kk s bo bc m p 3 (M : Int) li di lc dc tk all HH.out ht (by omega) (by decide)
            rw [h3] at hT
            unfold ptrV at hT
            have HT := hid hT
            have HSe : Hid (S = (5, z, [], [])) := hid (by rw [HSX.out, if_pos (by have := take_none ht; omega)])
            clear hT ht
            go_wp2_with fail
            refine HT.out.mono ?_
            rintro e' w6 ⟨rfl, hh⟩
            have H8 := hid hh.drop.drop.drop
            have H9 := hid (hh.fourth.drop.third.drop)
            clear hh HT HH
            go_wp2
            go_ret
            exact ⟨by rw [HSe.out]; rfl, .inr ⟨by rw [HSe.out]; exact fun h => (by cases h), p, li, di, by rw [HSe.out]; exact H9.out⟩⟩
          | some v =>
            obtain ⟨htl, htv⟩ := take_some ht
            have hv8 : v < 8 := by rw [htv]; exact num16_lt HBT.out p 3
            have hT := take_yes B o 0 r kk s bo bc m p 3 v (M : Int) li di lc dc tk all HH.out ht HBT.out (by omega) (by decide)
            rw [h3] at hT
            unfold ptrV at hT
            have HT := hid hT
            have hpm2 : p + 3 ≤ m := by rw [HM.out]; exact htl
            obtain ⟨ov, hov⟩ : ∃ ov, ov = orderF[i]?.getD 0 := ⟨_, rfl⟩
            have hov19 : ov < 19 := by rw [hov]; exact order_lt i (by omega)
            have HHD : Hid (headF all z (i + 1) = (headF all z i).set ov (v : Int)) := hid (by rw [headF, ← hov, ← hp, ← htv])
            have HAN : Hid (anyF all z (i + 1) = (anyF all z i || decide (0 < v))) := hid (by rw [anyF, ← hp, ← htv])
            have hor := order_at i ov (by omega) hov
            have hv0 : (0 : Int) ≤ (v : Int) := Int.natCast_nonneg _
            have hov0 : (0 : Int) ≤ (ov : Int) := Int.natCast_nonneg _
            have hov19I : (ov : Int) < 19 := by omega
            clear hT ht htl htv hov
            go_wp2_with fail
            refine HT.out.mono ?_
            rintro e' w6 ⟨rfl, hh⟩
            obtain ⟨gh, oh, hge, hcell, hfr, hput⟩ := hh.drop.drop.own.site (by omega)
            simp only [Option.some.injEq, Addr.mk.injEq, and_true] at hge
            obtain ⟨rfl, rfl⟩ := hge
            obtain ⟨go', oo', hoe, hocell⟩ := hh.drop.drop.drop.rdv.spot (by omega)
            simp only [Option.some.injEq, Addr.mk.injEq, and_true] at hoe
            obtain ⟨rfl, rfl⟩ := hoe
            have k1 := hocell i _ hor
            rw [Nat.zero_add] at k1
            have hgl : (headF all z i).length = 19 := headF_length all z i
            obtain ⟨y, hy⟩ : ∃ y, (headF all z i)[ov]? = some y := ⟨(headF all z i)[ov]'(by omega), List.getElem?_eq_getElem _⟩
            have k2 := hcell ov (.int .i64 y) (by rw [ints_get, hy]; rfl)
            have k3 := hfr ov
            rw [Nat.zero_add] at k2 k3
            have h9 := hh.third.putOwn (hput ov (.int .i64 (v : Int)) hov19) (Mod.set w6 (OB + 1) (0 + ov) _)
            rw [← ints_set10, ← HHD.out, Nat.zero_add] at h9
            have H9 := hid h9.swap.third.swap
            clear hh HT HH hcell hfr hput hocell hy h9 hor hgl
            have hcs : anyF all z i = true ∨ anyF all z i = false := by cases anyF all z i <;> simp
            rcases hcs with hcs | hcs
            · rw [hcs]
              have HAN2 : Hid (anyF all z (i + 1) = true) := hid (by rw [HAN.out, hcs]; rfl)
              go_wp2
              go_roundg (gk - 1)
              case measure => omega
              case rel => exact ⟨i + 1, p + 3, by omega, by omega, by go_num, by rw [HAN2.out], by omega, hpm2, H9⟩
            · rw [hcs]
              have HAN2 : Hid (anyF all z (i + 1) = decide (0 < v)) := hid (by rw [HAN.out, hcs]; rfl)
              go_wp2
              go_roundg (gk - 1)
              case measure => omega
              case rel => exact ⟨i + 1, p + 3, by omega, by omega, by go_num, by rw [HAN2.out], by omega, hpm2, H9⟩
        · have hiI : ¬ (i : Int) < (C : Int) := by omega
          obtain rfl : i = C := by omega
          have hIBad : Hid (¬ (checkOf (headF all z i) 7 = 0 ∧ anyF all z i = true) → S = (3, p, [], [])) := hid (fun h => by
            rw [HSX.out, if_neg (by rw [← HM.out]; omega), if_pos, hp]
            by_cases h1 : checkOf (headF all z i) 7 = 0
            · right
              cases h2 : anyF all z i with
              | false => rfl
              | true => exact absurd ⟨h1, h2⟩ h
            · exact .inl h1)
          have hIOk : Hid (checkOf (headF all z i) 7 = 0 → anyF all z i = true → S = dynF.dynEnd A (lenF (headF all z i) all (A + Bn) (m + 1) p [])) := hid (fun h1 h2 => by
            rw [HSX.out, if_neg (by rw [← HM.out]; omega), if_neg (by rw [h1, h2]; simp), ← HM.out, hp])
          have hHl : (headF all z i).length = 19 := headF_length all z i
          have HCK := hid (fun w1 (hv : Rd w1 1 (.slice (some ⟨OB + 1, 0, none⟩) 19 19) (headF all z i).length (ints (headF all z i))) => refcheck_any (.slice (some ⟨OB + 1, 0, none⟩) 19 19) (headF all z i) 7 w1 hv (by omega))
          rw [hHl] at HCK
          have HHl := hid hHl
          have hin7 : Hid (checkOf (headF all z i) 7 = 0 → ∀ y ∈ headF all z i, 0 ≤ y ∧ y ≤ 15) := hid (fun h y hy => by have := check_in h y hy; omega)
          generalize headF all z i = HD at *
          generalize anyF all z i = any at *
          clear hHl HSX
          have hr1 := HH.out.drop.drop.own.rd
          have HK1 := hid (HCK.out wr hr1)
          have hb' := HH.out.obj
          have d1 := hb'.cell (i := 1) rfl
          have g1 := hb'.frozen 1
          clear hr1 HCK hb'
          generalize hck : checkOf HD 7 = ck at *
          by_cases hbad : ck = 0 ∧ any = true
          · obtain ⟨rfl, rfl⟩ := hbad
            have HD15 := hid (hin7.out rfl)
            have HSo := hid (hIOk.out rfl rfl)
            have HCD := hid (h_codes10 HH.out (.slice (some ⟨OB + 1, 0, none⟩) 19 19) HD 19 HH.out.drop.drop.own.rd HHl.out.symm (by decide))
            obtain ⟨N0, hN0⟩ : ∃ N0, N0 = A + Bn := ⟨_, rfl⟩
            have hN0I : (A : Int) + (Bn : Int) = (N0 : Int) := by omega
            have hN00 : (0 : Int) ≤ (N0 : Int) := Int.natCast_nonneg _
            have hN0b : N0 ≤ 316 := by omega
            rw [← hN0] at HSo
            have HN0 := hid hN0
            clear hIBad hIOk hin7 hN0
            go_wp2_with fail
            refine HK1.out.mono ?_
            rintro e' w6 ⟨rfl, rfl⟩
            go_wp2_with fail
            refine HCD.out.mono ?_
            rintro e' w7 ⟨cv, rfl, hh⟩
            obtain ⟨co, cc, rfl, _, _⟩ := hh.own.form
            have H8 := hid ((hh.swap.third.swap.nil 3 1).swap.third.swap)
            clear hh HK1 HCD HH d1 g1
            go_wp2
            go_loopg [16] (m + 3) (fun g t16 wr => ∃ (p n f : Nat) (L : List Int) (lo : Option Addr) (lcap : Nat), p ≤ m ∧ m - p < f ∧ f < g ∧ n ≤ N0 ∧ t16 = .slice lo n lcap ∧ Hid (n = L.length ∧ S = dynF.dynEnd A (lenF HD all N0 f p L)) ∧ Hid (Held w0 wr (strT B o 0 r kk s (.slice bo m bc) p (M : Int) li di lc dc tk :: rdT 1 (.slice bo m bc) m (u8s all) :: ownT 3 1 (.slice lo n lcap) n (ints L) :: ownT 44 1 (.slice co 19 cc) 19 (nums .u32 (codesOf HD)) :: ownT 3 1 (.slice (some ⟨OB + 1, 0, none⟩) 19 19) 19 (ints HD) :: rdT 1 (.slice (some ⟨OB, 0, none⟩) 19 19) 19 (ints [16, 17, 18, 0, 8, 7, 9, 6, 10, 5, 11, 4, 12, 3, 13, 2, 14, 1, 15]) :: Rs)))
            case atStart => exact ⟨p, 0, m + 1, [], none, 0, by omega, by omega, by omega, by omega, rfl, hid ⟨rfl, HSo.out⟩, H8⟩
            case round =>
              obtain ⟨p, n, f, L, lo, lcap, hpm, hpf, hfg, hnN, rfl, HO, HQ⟩ := hrel
              obtain ⟨gx, rfl⟩ : ∃ g, g = gk := ⟨gk, rfl⟩
              have hn0 : (0 : Int) ≤ (n : Int) := Int.natCast_nonneg _
              obtain ⟨f, rfl⟩ : ∃ f', f = f' + 1 := ⟨f - 1, by omega⟩
              by_cases hnl : n < N0
              · have hnI : (n : Int) < (N0 : Int) := by omega
                have hnot : Hid (¬ N0 ≤ L.length) := hid (by rw [← HO.out.1]; omega)
                obtain ⟨⟨ks, ns, es⟩, hsy⟩ : ∃ sy, symF HD (all.drop p) = sy := ⟨_, rfl⟩
                have HC := symbol_any B o 0 r kk s bo bc m p (M : Int) li di lc dc tk all (.slice (some ⟨OB + 1, 0, none⟩) 19 19) (.slice co 19 cc) HD 19 HQ.out HQ.out.drop.drop.drop.drop.own.rd HQ.out.drop.drop.drop.own.rd HHl.out.symm HD15.out (by decide) HBT.out hpm hm2
                rw [hsy] at HC
                simp only at HC
                unfold ptrV at HC
                by_cases hes : es = 0
                · subst hes
                  obtain ⟨hkl, hn1, hnr⟩ := sym_facts hsy
                  rw [HHl.out] at hkl
                  rw [List.length_drop, ← HM.out] at hnr
                  have HCs := hid (HC.mono fun _ _ h => (h.resolve_right fun h => h.1 rfl).2)
                  obtain ⟨p1, hp1⟩ : ∃ p1, p1 = p + ns := ⟨_, rfl⟩
                  rw [← hp1] at HCs
                  have hp1m : p1 ≤ m := by omega
                  have hpp : p + 1 ≤ p1 := by omega
                  have hks0 : (0 : Int) ≤ (ks : Int) := Int.natCast_nonneg _
                  have HRUN : Hid (lenStep HD all N0 p L = lenStep.lenRun all N0 p1 ks L) := hid (by rw [len_run hsy, hp1])
                  clear hsy HC hnr hn1 hp1
                  by_cases hk16 : ks < 16
                  · have hkI : (ks : Int) < 16 := by omega
                    have HSe : Hid (S = dynF.dynEnd A (lenF HD all N0 f p1 (L ++ [(ks : Int)]))) := hid (by rw [HO.out.2, lenF_on hnot.out (by rw [HRUN.out]; exact run_one hk16)])
                    go_wp2_with fail
                    refine HCs.out.mono ?_
                    rintro e' w8 ⟨rfl, hh⟩
                    have H8b := hid hh
                    clear hh HCs HQ
                    go_wp2_with (refine wpList_app_held rfl (.tmp 124) (.tmp 126) 28 rfl 3 i0 (.int .i64 0) 1 8 Tryd.underlying28 hi0 hz0 hz1 hz2 rfl (by decide) _ n _ rfl (H8b.out.third.alloc _) _ 1 (ints [(ks : Int)]) rfl (Rd.lit _ [_] _ 1 1 (by decide) rfl) (ints_one _) (n + 1) rfl (by unfold maxLen; omega) (by omega) ?_; intro lo' lcap' w9 h9; rw [← ints_append] at h9; have H9 := hid (h9.swap.third.swap); clear h9)
                    go_roundg (gx - 1)
                    case measure => omega
                    case rel => exact ⟨p1, n + 1, f, L ++ [(ks : Int)], _, _, hp1m, by omega, by omega, by omega, rfl, hid ⟨by rw [List.length_append, ← HO.out.1]; rfl, HSe.out⟩, H9⟩
                  · have hkI : ¬ (ks : Int) < 16 := by omega
                    rcases (by omega : ks = 16 ∨ ks = 17 ∨ ks = 18) with rfl | rfl | rfl
                    · by_cases hn00 : n = 0
                      · subst hn00
                        have hLn : Hid (L = []) := hid (List.eq_nil_of_length_eq_zero HO.out.1.symm)
                        have HSe : Hid (S = (2, p1, [], [])) := hid (by rw [HO.out.2, lenF_over hnot.out (by rw [HRUN.out]; exact run_none rfl hLn.out)]; rfl)
                        go_wp2_with fail
                        refine HCs.out.mono ?_
                        rintro e' w8 ⟨rfl, hh⟩
                        have hb' := hh.obj
                        have d1 := hb'.cell (i := 1) rfl
                        have g1 := hb'.frozen 1
                        have H8b := hid hh
                        clear hh HCs HQ hb'
                        go_wp2
                        go_ret
                        exact ⟨by rw [HSe.out]; rfl, .inr ⟨by rw [HSe.out]; exact fun h => (by cases h), p1, li, di, by rw [HSe.out]; exact (H8b.out.setObj 1 (.int .i64 2)).third.drop.third.drop.third.drop.third.drop⟩⟩
                      · have hnpos : 1 ≤ n := by omega
                        have b16 : ((16 : Int) == 16) = true := by decide
                        have bn0 : ((n : Int) == 0) = false := by simp; omega
                        have bn1 : decide (n = 0) = false := decide_eq_false (by omega)
                        have hnotl : Hid (¬ ((16 : Nat) = 16 ∧ L = [])) := hid (fun h => by have h1 := HO.out.1; rw [h.2] at h1; simp at h1; omega)
                        obtain ⟨y, hy⟩ : ∃ y, L[n - 1]? = some y := ⟨L[n - 1]'(by have := HO.out.1; omega), List.getElem?_eq_getElem _⟩
                        obtain ⟨qn, hqn⟩ : ∃ qn, qn = n - 1 := ⟨_, rfl⟩
                        have hqnI : (n : Int) - 1 = (qn : Int) := by omega
                        have hqn0 : (0 : Int) ≤ (qn : Int) := Int.natCast_nonneg _
                        have hqnN : (qn : Int) < (n : Int) := by omega
                        rw [← hqn] at hy
                        obtain ⟨gl, ol, rfl, _, _, _⟩ := HQ.out.drop.drop.own.site (by omega)
                        have HY : Hid (L[qn]? = some y ∧ L.getLast?.getD 0 = y ∧ qn < n) := hid ⟨hy, by rw [List.getLast?_eq_getElem?, ← HO.out.1, ← hqn, hy]; rfl, by omega⟩
                        clear hqn hy
                        cases ht : takeM all p1 2 with
                        | none =>
                          have hT := fun w1 (hh : Held w0 w1 (strT B o 0 r kk s (.slice bo m bc) p1 (M : Int) li di lc dc tk :: rdT 1 (.slice bo m bc) m (u8s all) :: ownT 3 1 (.slice (some ⟨gl, ol, none⟩) n lcap) n (ints L) :: ownT 44 1 (.slice co 19 cc) 19 (nums .u32 (codesOf HD)) :: ownT 3 1 (.slice (some ⟨OB + 1, 0, none⟩) 19 19) 19 (ints HD) :: rdT 1 (.slice (some ⟨OB, 0, none⟩) 19 19) 19 (ints [16, 17, 18, 0, 8, 7, 9, 6, 10, 5, 11, 4, 12, 3, 13, 2, 14, 1, 15]) :: Rs)) => take_no B o 0 r kk s bo bc m p1 2 (M : Int) li di lc dc tk all hh ht (by omega) (by decide)
                          rw [show ((2 : Nat) : Int) = 2 from rfl] at hT
                          unfold ptrV at hT
                          have HT := hid hT
                          have HSe : Hid (S = (5, p1, [], [])) := hid (by rw [HO.out.2, lenF_over hnot.out (by rw [HRUN.out]; exact run_end (wd := 2) (by decide) hnotl.out (by decide) ht)]; rfl)
                          clear hT ht
                          go_wp2_with fail
                          refine HCs.out.mono ?_
                          rintro e' w8 ⟨rfl, hh⟩
                          have HT2 := hid (HT.out w8 hh)
                          clear hh HCs HQ HT
                          go_wp2_with fail
                          refine HT2.out.mono ?_
                          rintro e' w9 ⟨rfl, hh⟩
                          have H9 := hid hh
                          clear hh HT2
                          go_wp2
                          go_ret
                          exact ⟨by rw [HSe.out]; rfl, .inr ⟨by rw [HSe.out]; exact fun h => (by cases h), p1, li, di, by rw [HSe.out]; exact H9.out.third.drop.third.drop.third.drop.third.drop⟩⟩
                        | some more =>
                          obtain ⟨htl, htv⟩ := take_some ht
                          have hmore : more < 2 ^ 2 := by rw [htv]; exact num16_lt HBT.out p1 2
                          have hT := fun w1 (hh : Held w0 w1 (strT B o 0 r kk s (.slice bo m bc) p1 (M : Int) li di lc dc tk :: rdT 1 (.slice bo m bc) m (u8s all) :: ownT 3 1 (.slice (some ⟨gl, ol, none⟩) n lcap) n (ints L) :: ownT 44 1 (.slice co 19 cc) 19 (nums .u32 (codesOf HD)) :: ownT 3 1 (.slice (some ⟨OB + 1, 0, none⟩) 19 19) 19 (ints HD) :: rdT 1 (.slice (some ⟨OB, 0, none⟩) 19 19) 19 (ints [16, 17, 18, 0, 8, 7, 9, 6, 10, 5, 11, 4, 12, 3, 13, 2, 14, 1, 15]) :: Rs)) => take_yes B o 0 r kk s bo bc m p1 2 more (M : Int) li di lc dc tk all hh ht HBT.out (by omega) (by decide)
                          rw [show ((2 : Nat) : Int) = 2 from rfl] at hT
                          unfold ptrV at hT
                          have HT := hid hT
                          have hmb : more ≤ 128 := by omega
                          have hmore0 : (0 : Int) ≤ (more : Int) := Int.natCast_nonneg _
                          obtain ⟨cnt, hcnt⟩ : ∃ cnt, cnt = 3 + more := ⟨_, rfl⟩
                          have hcntI : (3 : Int) + (more : Int) = (cnt : Int) := by omega
                          have hcnt0 : (0 : Int) ≤ (cnt : Int) := Int.natCast_nonneg _
                          obtain ⟨tot, htot⟩ : ∃ tot, tot = n + cnt := ⟨_, rfl⟩
                          have htotI : (n : Int) + (cnt : Int) = (tot : Int) := by omega
                          have htot0 : (0 : Int) ≤ (tot : Int) := Int.natCast_nonneg _
                          have hp2m : p1 + 2 ≤ m := by rw [HM.out]; exact htl
                          have hcntb : cnt ≤ 140 := by omega
                          by_cases hlong : N0 < tot
                          · have hlI : (N0 : Int) < (tot : Int) := by omega
                            have HSe : Hid (S = (2, p1 + 2, [], [])) := hid (by rw [HO.out.2, lenF_over hnot.out (by rw [HRUN.out]; exact run_long (wd := 2) (ba := 3) (by decide) hnotl.out (by decide) (by decide) ht (by rw [← HO.out.1]; omega))]; rfl)
                            clear hT ht hcnt htot htl htv hmore
                            go_wp2_with fail
                            refine HCs.out.mono ?_
                            rintro e' w8 ⟨rfl, hh⟩
                            have HT2 := hid (HT.out w8 hh)
                            clear hh HCs HQ HT
                            go_wp2_with fail
                            refine HT2.out.mono ?_
                            rintro e' w9 ⟨rfl, hh⟩
                            have hb' := hh.obj
                            have d1 := hb'.cell (i := 1) rfl
                            have g1 := hb'.frozen 1
                            obtain ⟨gl2, ol2, hle2, hlc2, _, _⟩ := hh.drop.drop.own.site (by omega)
                            simp only [Option.some.injEq, Addr.mk.injEq, and_true] at hle2
                            obtain ⟨rfl, rfl⟩ := hle2
                            have l1 := hlc2 qn _ (by rw [ints_get, HY.out.1]; rfl)
                            clear hlc2
                            have H9 := hid hh
                            clear hh HT2 hb'
                            go_wp2
                            go_ret
                            exact ⟨by rw [HSe.out]; rfl, .inr ⟨by rw [HSe.out]; exact fun h => (by cases h), p1 + 2, li, di, by rw [HSe.out]; exact (H9.out.setObj 1 (.int .i64 2)).third.drop.third.drop.third.drop.third.drop⟩⟩
                          · have hlI : decide ((N0 : Int) < (tot : Int)) = false := decide_eq_false (by omega)
                            have hlI2 : decide (N0 < tot) = false := decide_eq_false (by omega)
                            have HSe : Hid (S = dynF.dynEnd A (lenF HD all N0 f (p1 + 2) (L ++ List.replicate cnt y))) := hid (by rw [HO.out.2, lenF_on hnot.out (by rw [HRUN.out]; exact run_more (wd := 2) (ba := 3) (by decide) hnotl.out (by decide) (by decide) ht (by rw [← HO.out.1]; omega)), hcnt]; rw [if_pos rfl, HY.out.2.1])
                            have htotN : n + cnt ≤ N0 := by omega
                            have HNL := hid HO.out.1
                            clear hT ht hcnt htot htl htv hmore hlong
                            go_wp2_with fail
                            refine HCs.out.mono ?_
                            rintro e' w8 ⟨rfl, hh⟩
                            have HT2 := hid (HT.out w8 hh)
                            clear hh HCs HQ HT
                            go_wp2_with fail
                            refine HT2.out.mono ?_
                            rintro e' w9 ⟨rfl, hh⟩
                            obtain ⟨gl2, ol2, hle2, hlc2, _, _⟩ := hh.drop.drop.own.site (by omega)
                            simp only [Option.some.injEq, Addr.mk.injEq, and_true] at hle2
                            obtain ⟨rfl, rfl⟩ := hle2
                            have l1 := hlc2 qn _ (by rw [ints_get, HY.out.1]; rfl)
                            clear hlc2
                            have H9 : Hid (Held w0 w9 (strT B o 0 r kk s (.slice bo m bc) (p1 + 2) (M : Int) li di lc dc tk :: rdT 1 (.slice bo m bc) m (u8s all) :: ownT 3 1 (.slice (some ⟨gl, ol, none⟩) (n + 0) lcap) (n + 0) (ints (L ++ List.replicate 0 y)) :: ownT 44 1 (.slice co 19 cc) 19 (nums .u32 (codesOf HD)) :: ownT 3 1 (.slice (some ⟨OB + 1, 0, none⟩) 19 19) 19 (ints HD) :: rdT 1 (.slice (some ⟨OB, 0, none⟩) 19 19) 19 (ints [16, 17, 18, 0, 8, 7, 9, 6, 10, 5, 11, 4, 12, 3, 13, 2, 14, 1, 15]) :: Rs)) := hid (by rw [List.replicate_zero, List.append_nil]; exact hh)
                            clear hh HT2
                            go_wp2
                            go_loopg [16, 24] (cnt + 2) (fun g t16 t24 wr => ∃ (j : Nat) (lo2 : Option Addr) (lcap2 : Nat), j ≤ cnt ∧ cnt - j < g ∧ t24 = .int .i64 (j : Int) ∧ t16 = .slice lo2 (n + j) lcap2 ∧ Hid (Held w0 wr (strT B o 0 r kk s (.slice bo m bc) (p1 + 2) (M : Int) li di lc dc tk :: rdT 1 (.slice bo m bc) m (u8s all) :: ownT 3 1 (.slice lo2 (n + j) lcap2) (n + j) (ints (L ++ List.replicate j y)) :: ownT 44 1 (.slice co 19 cc) 19 (nums .u32 (codesOf HD)) :: ownT 3 1 (.slice (some ⟨OB + 1, 0, none⟩) 19 19) 19 (ints HD) :: rdT 1 (.slice (some ⟨OB, 0, none⟩) 19 19) 19 (ints [16, 17, 18, 0, 8, 7, 9, 6, 10, 5, 11, 4, 12, 3, 13, 2, 14, 1, 15]) :: Rs)))
                            case atStart => exact ⟨0, _, _, by omega, by omega, rfl, rfl, H9⟩
                            case round =>
                              obtain ⟨j, lo2, lcap2, hj, hg2, rfl, rfl, HJ⟩ := hrel
                              have hj0 : (0 : Int) ≤ (j : Int) := Int.natCast_nonneg _
                              by_cases hjc : j < cnt
                              · have hjI : (j : Int) < (cnt : Int) := by omega
                                have HX : Hid (L ++ List.replicate (j + 1) y = L ++ List.replicate j y ++ [y]) := hid (by rw [List.replicate_succ', List.append_assoc])
                                go_wp2_with (refine wpList_app_held rfl (.tmp 177) (.tmp 179) 28 rfl 3 i0 (.int .i64 0) 1 8 Tryd.underlying28 hi0 hz0 hz1 hz2 rfl (by decide) _ (n + j) _ rfl (HJ.out.third.alloc _) _ 1 (ints [y]) rfl (Rd.lit _ [_] _ 1 1 (by decide) rfl) (ints_one _) (n + j + 1) rfl (by unfold maxLen; omega) (by omega) ?_; intro lo' lcap' w10 h9; rw [← ints_append, ← HX.out] at h9; have H11 := hid (h9.swap.third.swap); clear h9)
                                go_roundg (gk - 1)
                                case measure => omega
                                case rel => exact ⟨j + 1, _, _, by omega, by omega, by go_num, rfl, H11⟩
                              · have hjI : ¬ (j : Int) < (cnt : Int) := by omega
                                obtain rfl : j = cnt := by omega
                                go_wp2
                                go_roundg (gx - 1)
                                case measure => omega
                                case rel => exact ⟨p1 + 2, n + j, f, _, _, _, hp2m, by omega, by omega, htotN, rfl, hid ⟨by rw [List.length_append, List.length_replicate, ← HNL.out], HSe.out⟩, HJ⟩
                    · have b16 : ((17 : Int) == 16) = false := by decide

                      have hnotl : Hid (¬ ((17 : Nat) = 16 ∧ L = [])) := hid (fun h => absurd h.1 (by decide))

                      cases ht : takeM all p1 3 with
                      | none =>
                        have hT := fun w1 (hh : Held w0 w1 (strT B o 0 r kk s (.slice bo m bc) p1 (M : Int) li di lc dc tk :: rdT 1 (.slice bo m bc) m (u8s all) :: ownT 3 1 (.slice lo n lcap) n (ints L) :: ownT 44 1 (.slice co 19 cc) 19 (nums .u32 (codesOf HD)) :: ownT 3 1 (.slice (some ⟨OB + 1, 0, none⟩) 19 19) 19 (ints HD) :: rdT 1 (.slice (some ⟨OB, 0, none⟩) 19 19) 19 (ints [16, 17, 18, 0, 8, 7, 9, 6, 10, 5, 11, 4, 12, 3, 13, 2, 14, 1, 15]) :: Rs)) => take_no B o 0 r kk s bo bc m p1 3 (M : Int) li di lc dc tk all hh ht (by omega) (by decide)
                        rw [show ((3 : Nat) : Int) = 3 from rfl] at hT
                        unfold ptrV at hT
                        have HT := hid hT
                        have HSe : Hid (S = (5, p1, [], [])) := hid (by rw [HO.out.2, lenF_over hnot.out (by rw [HRUN.out]; exact run_end (wd := 3) (by decide) hnotl.out (by decide) ht)]; rfl)
                        clear hT ht
                        go_wp2_with fail
                        refine HCs.out.mono ?_
                        rintro e' w8 ⟨rfl, hh⟩
                        have HT2 := hid (HT.out w8 hh)
                        clear hh HCs HQ HT
                        go_wp2_with fail
                        refine HT2.out.mono ?_
                        rintro e' w9 ⟨rfl, hh⟩
                        have H9 := hid hh
                        clear hh HT2
                        go_wp2
                        go_ret
                        exact ⟨by rw [HSe.out]; rfl, .inr ⟨by rw [HSe.out]; exact fun h => (by cases h), p1, li, di, by rw [HSe.out]; exact H9.out.third.drop.third.drop.third.drop.third.drop⟩⟩
                      | some more =>
                        obtain ⟨htl, htv⟩ := take_some ht
                        have hmore : more < 2 ^ 3 := by rw [htv]; exact num16_lt HBT.out p1 3
                        have hT := fun w1 (hh : Held w0 w1 (strT B o 0 r kk s (.slice bo m bc) p1 (M : Int) li di lc dc tk :: rdT 1 (.slice bo m bc) m (u8s all) :: ownT 3 1 (.slice lo n lcap) n (ints L) :: ownT 44 1 (.slice co 19 cc) 19 (nums .u32 (codesOf HD)) :: ownT 3 1 (.slice (some ⟨OB + 1, 0, none⟩) 19 19) 19 (ints HD) :: rdT 1 (.slice (some ⟨OB, 0, none⟩) 19 19) 19 (ints [16, 17, 18, 0, 8, 7, 9, 6, 10, 5, 11, 4, 12, 3, 13, 2, 14, 1, 15]) :: Rs)) => take_yes B o 0 r kk s bo bc m p1 3 more (M : Int) li di lc dc tk all hh ht HBT.out (by omega) (by decide)
                        rw [show ((3 : Nat) : Int) = 3 from rfl] at hT
                        unfold ptrV at hT
                        have HT := hid hT
                        have hmb : more ≤ 128 := by omega
                        have hmore0 : (0 : Int) ≤ (more : Int) := Int.natCast_nonneg _
                        obtain ⟨cnt, hcnt⟩ : ∃ cnt, cnt = 3 + more := ⟨_, rfl⟩
                        have hcntI : (3 : Int) + (more : Int) = (cnt : Int) := by omega
                        have hcnt0 : (0 : Int) ≤ (cnt : Int) := Int.natCast_nonneg _
                        obtain ⟨tot, htot⟩ : ∃ tot, tot = n + cnt := ⟨_, rfl⟩
                        have htotI : (n : Int) + (cnt : Int) = (tot : Int) := by omega
                        have htot0 : (0 : Int) ≤ (tot : Int) := Int.natCast_nonneg _
                        have hp2m : p1 + 3 ≤ m := by rw [HM.out]; exact htl
                        have hcntb : cnt ≤ 140 := by omega
                        by_cases hlong : N0 < tot
                        · have hlI : (N0 : Int) < (tot : Int) := by omega
                          have HSe : Hid (S = (2, p1 + 3, [], [])) := hid (by rw [HO.out.2, lenF_over hnot.out (by rw [HRUN.out]; exact run_long (wd := 3) (ba := 3) (by decide) hnotl.out (by decide) (by decide) ht (by rw [← HO.out.1]; omega))]; rfl)
                          clear hT ht hcnt htot htl htv hmore
                          go_wp2_with fail
                          refine HCs.out.mono ?_
                          rintro e' w8 ⟨rfl, hh⟩
                          have HT2 := hid (HT.out w8 hh)
                          clear hh HCs HQ HT
                          go_wp2_with fail
                          refine HT2.out.mono ?_
                          rintro e' w9 ⟨rfl, hh⟩
                          have hb' := hh.obj
                          have d1 := hb'.cell (i := 1) rfl
                          have g1 := hb'.frozen 1
                          have H9 := hid hh
                          clear hh HT2 hb'
                          go_wp2
                          go_ret
                          exact ⟨by rw [HSe.out]; rfl, .inr ⟨by rw [HSe.out]; exact fun h => (by cases h), p1 + 3, li, di, by rw [HSe.out]; exact (H9.out.setObj 1 (.int .i64 2)).third.drop.third.drop.third.drop.third.drop⟩⟩
                        · have hlI : decide ((N0 : Int) < (tot : Int)) = false := decide_eq_false (by omega)
                          have hlI2 : decide (N0 < tot) = false := decide_eq_false (by omega)
                          have HSe : Hid (S = dynF.dynEnd A (lenF HD all N0 f (p1 + 3) (L ++ List.replicate cnt 0))) := hid (by rw [HO.out.2, lenF_on hnot.out (by rw [HRUN.out]; exact run_more (wd := 3) (ba := 3) (by decide) hnotl.out (by decide) (by decide) ht (by rw [← HO.out.1]; omega)), hcnt]; rfl)
                          have htotN : n + cnt ≤ N0 := by omega
                          have HNL := hid HO.out.1
                          clear hT ht hcnt htot htl htv hmore hlong
                          go_wp2_with fail
                          refine HCs.out.mono ?_
                          rintro e' w8 ⟨rfl, hh⟩
                          have HT2 := hid (HT.out w8 hh)
                          clear hh HCs HQ HT
                          go_wp2_with fail
                          refine HT2.out.mono ?_
                          rintro e' w9 ⟨rfl, hh⟩
                          have H9 : Hid (Held w0 w9 (strT B o 0 r kk s (.slice bo m bc) (p1 + 3) (M : Int) li di lc dc tk :: rdT 1 (.slice bo m bc) m (u8s all) :: ownT 3 1 (.slice lo (n + 0) lcap) (n + 0) (ints (L ++ List.replicate 0 0)) :: ownT 44 1 (.slice co 19 cc) 19 (nums .u32 (codesOf HD)) :: ownT 3 1 (.slice (some ⟨OB + 1, 0, none⟩) 19 19) 19 (ints HD) :: rdT 1 (.slice (some ⟨OB, 0, none⟩) 19 19) 19 (ints [16, 17, 18, 0, 8, 7, 9, 6, 10, 5, 11, 4, 12, 3, 13, 2, 14, 1, 15]) :: Rs)) := hid (by rw [List.replicate_zero, List.append_nil]; exact hh)
                          clear hh HT2
                          go_wp2
                          go_loopg [16, 24] (cnt + 2) (fun g t16 t24 wr => ∃ (j : Nat) (lo2 : Option Addr) (lcap2 : Nat), j ≤ cnt ∧ cnt - j < g ∧ t24 = .int .i64 (j : Int) ∧ t16 = .slice lo2 (n + j) lcap2 ∧ Hid (Held w0 wr (strT B o 0 r kk s (.slice bo m bc) (p1 + 3) (M : Int) li di lc dc tk :: rdT 1 (.slice bo m bc) m (u8s all) :: ownT 3 1 (.slice lo2 (n + j) lcap2) (n + j) (ints (L ++ List.replicate j 0)) :: ownT 44 1 (.slice co 19 cc) 19 (nums .u32 (codesOf HD)) :: ownT 3 1 (.slice (some ⟨OB + 1, 0, none⟩) 19 19) 19 (ints HD) :: rdT 1 (.slice (some ⟨OB, 0, none⟩) 19 19) 19 (ints [16, 17, 18, 0, 8, 7, 9, 6, 10, 5, 11, 4, 12, 3, 13, 2, 14, 1, 15]) :: Rs)))
                          case atStart => exact ⟨0, _, _, by omega, by omega, rfl, rfl, H9⟩
                          case round =>
                            obtain ⟨j, lo2, lcap2, hj, hg2, rfl, rfl, HJ⟩ := hrel
                            have hj0 : (0 : Int) ≤ (j : Int) := Int.natCast_nonneg _
                            by_cases hjc : j < cnt
                            · have hjI : (j : Int) < (cnt : Int) := by omega
                              have HX : Hid (L ++ List.replicate (j + 1) 0 = L ++ List.replicate j 0 ++ [0]) := hid (by rw [List.replicate_succ', List.append_assoc])
                              go_wp2_with (refine wpList_app_held rfl (.tmp 177) (.tmp 179) 28 rfl 3 i0 (.int .i64 0) 1 8 Tryd.underlying28 hi0 hz0 hz1 hz2 rfl (by decide) _ (n + j) _ rfl (HJ.out.third.alloc _) _ 1 (ints [0]) rfl (Rd.lit _ [_] _ 1 1 (by decide) rfl) (ints_one _) (n + j + 1) rfl (by unfold maxLen; omega) (by omega) ?_; intro lo' lcap' w10 h9; rw [← ints_append, ← HX.out] at h9; have H11 := hid (h9.swap.third.swap); clear h9)
                              go_roundg (gk - 1)
                              case measure => omega
                              case rel => exact ⟨j + 1, _, _, by omega, by omega, by go_num, rfl, H11⟩
                            · have hjI : ¬ (j : Int) < (cnt : Int) := by omega
                              obtain rfl : j = cnt := by omega
                              go_wp2
                              go_roundg (gx - 1)
                              case measure => omega
                              case rel => exact ⟨p1 + 3, n + j, f, _, _, _, hp2m, by omega, by omega, htotN, rfl, hid ⟨by rw [List.length_append, List.length_replicate, ← HNL.out], HSe.out⟩, HJ⟩
                    · have b16 : ((18 : Int) == 16) = false := by decide

                      have hnotl : Hid (¬ ((18 : Nat) = 16 ∧ L = [])) := hid (fun h => absurd h.1 (by decide))

                      cases ht : takeM all p1 7 with
                      | none =>
                        have hT := fun w1 (hh : Held w0 w1 (strT B o 0 r kk s (.slice bo m bc) p1 (M : Int) li di lc dc tk :: rdT 1 (.slice bo m bc) m (u8s all) :: ownT 3 1 (.slice lo n lcap) n (ints L) :: ownT 44 1 (.slice co 19 cc) 19 (nums .u32 (codesOf HD)) :: ownT 3 1 (.slice (some ⟨OB + 1, 0, none⟩) 19 19) 19 (ints HD) :: rdT 1 (.slice (some ⟨OB, 0, none⟩) 19 19) 19 (ints [16, 17, 18, 0, 8, 7, 9, 6, 10, 5, 11, 4, 12, 3, 13, 2, 14, 1, 15]) :: Rs)) => take_no B o 0 r kk s bo bc m p1 7 (M : Int) li di lc dc tk all hh ht (by omega) (by decide)
                        rw [show ((7 : Nat) : Int) = 7 from rfl] at hT
                        unfold ptrV at hT
                        have HT := hid hT
                        have HSe : Hid (S = (5, p1, [], [])) := hid (by rw [HO.out.2, lenF_over hnot.out (by rw [HRUN.out]; exact run_end (wd := 7) (by decide) hnotl.out (by decide) ht)]; rfl)
                        clear hT ht
                        go_wp2_with fail
                        refine HCs.out.mono ?_
                        rintro e' w8 ⟨rfl, hh⟩
                        have HT2 := hid (HT.out w8 hh)
                        clear hh HCs HQ HT
                        go_wp2_with fail
                        refine HT2.out.mono ?_
                        rintro e' w9 ⟨rfl, hh⟩
                        have H9 := hid hh
                        clear hh HT2
                        go_wp2
                        go_ret
                        exact ⟨by rw [HSe.out]; rfl, .inr ⟨by rw [HSe.out]; exact fun h => (by cases h), p1, li, di, by rw [HSe.out]; exact H9.out.third.drop.third.drop.third.drop.third.drop⟩⟩
                      | some more =>
                        obtain ⟨htl, htv⟩ := take_some ht
                        have hmore : more < 2 ^ 7 := by rw [htv]; exact num16_lt HBT.out p1 7
                        have hT := fun w1 (hh : Held w0 w1 (strT B o 0 r kk s (.slice bo m bc) p1 (M : Int) li di lc dc tk :: rdT 1 (.slice bo m bc) m (u8s all) :: ownT 3 1 (.slice lo n lcap) n (ints L) :: ownT 44 1 (.slice co 19 cc) 19 (nums .u32 (codesOf HD)) :: ownT 3 1 (.slice (some ⟨OB + 1, 0, none⟩) 19 19) 19 (ints HD) :: rdT 1 (.slice (some ⟨OB, 0, none⟩) 19 19) 19 (ints [16, 17, 18, 0, 8, 7, 9, 6, 10, 5, 11, 4, 12, 3, 13, 2, 14, 1, 15]) :: Rs)) => take_yes B o 0 r kk s bo bc m p1 7 more (M : Int) li di lc dc tk all hh ht HBT.out (by omega) (by decide)
                        rw [show ((7 : Nat) : Int) = 7 from rfl] at hT
                        unfold ptrV at hT
                        have HT := hid hT
                        have hmb : more ≤ 128 := by omega
                        have hmore0 : (0 : Int) ≤ (more : Int) := Int.natCast_nonneg _
                        obtain ⟨cnt, hcnt⟩ : ∃ cnt, cnt = 11 + more := ⟨_, rfl⟩
                        have hcntI : (11 : Int) + (more : Int) = (cnt : Int) := by omega
                        have hcnt0 : (0 : Int) ≤ (cnt : Int) := Int.natCast_nonneg _
                        obtain ⟨tot, htot⟩ : ∃ tot, tot = n + cnt := ⟨_, rfl⟩
                        have htotI : (n : Int) + (cnt : Int) = (tot : Int) := by omega
                        have htot0 : (0 : Int) ≤ (tot : Int) := Int.natCast_nonneg _
                        have hp2m : p1 + 7 ≤ m := by rw [HM.out]; exact htl
                        have hcntb : cnt ≤ 140 := by omega
                        by_cases hlong : N0 < tot
                        · have hlI : (N0 : Int) < (tot : Int) := by omega
                          have HSe : Hid (S = (2, p1 + 7, [], [])) := hid (by rw [HO.out.2, lenF_over hnot.out (by rw [HRUN.out]; exact run_long (wd := 7) (ba := 11) (by decide) hnotl.out (by decide) (by decide) ht (by rw [← HO.out.1]; omega))]; rfl)
                          clear hT ht hcnt htot htl htv hmore
                          go_wp2_with fail
                          refine HCs.out.mono ?_
                          rintro e' w8 ⟨rfl, hh⟩
                          have HT2 := hid (HT.out w8 hh)
                          clear hh HCs HQ HT
                          go_wp2_with fail
                          refine HT2.out.mono ?_
                          rintro e' w9 ⟨rfl, hh⟩
                          have hb' := hh.obj
                          have d1 := hb'.cell (i := 1) rfl
                          have g1 := hb'.frozen 1
                          have H9 := hid hh
                          clear hh HT2 hb'
                          go_wp2
                          go_ret
                          exact ⟨by rw [HSe.out]; rfl, .inr ⟨by rw [HSe.out]; exact fun h => (by cases h), p1 + 7, li, di, by rw [HSe.out]; exact (H9.out.setObj 1 (.int .i64 2)).third.drop.third.drop.third.drop.third.drop⟩⟩
                        · have hlI : decide ((N0 : Int) < (tot : Int)) = false := decide_eq_false (by omega)
                          have hlI2 : decide (N0 < tot) = false := decide_eq_false (by omega)
                          have HSe : Hid (S = dynF.dynEnd A (lenF HD all N0 f (p1 + 7) (L ++ List.replicate cnt 0))) := hid (by rw [HO.out.2, lenF_on hnot.out (by rw [HRUN.out]; exact run_more (wd := 7) (ba := 11) (by decide) hnotl.out (by decide) (by decide) ht (by rw [← HO.out.1]; omega)), hcnt]; rfl)
                          have htotN : n + cnt ≤ N0 := by omega
                          have HNL := hid HO.out.1
                          clear hT ht hcnt htot htl htv hmore hlong
                          go_wp2_with fail
                          refine HCs.out.mono ?_
                          rintro e' w8 ⟨rfl, hh⟩
                          have HT2 := hid (HT.out w8 hh)
                          clear hh HCs HQ HT
                          go_wp2_with fail
                          refine HT2.out.mono ?_
                          rintro e' w9 ⟨rfl, hh⟩
                          have H9 : Hid (Held w0 w9 (strT B o 0 r kk s (.slice bo m bc) (p1 + 7) (M : Int) li di lc dc tk :: rdT 1 (.slice bo m bc) m (u8s all) :: ownT 3 1 (.slice lo (n + 0) lcap) (n + 0) (ints (L ++ List.replicate 0 0)) :: ownT 44 1 (.slice co 19 cc) 19 (nums .u32 (codesOf HD)) :: ownT 3 1 (.slice (some ⟨OB + 1, 0, none⟩) 19 19) 19 (ints HD) :: rdT 1 (.slice (some ⟨OB, 0, none⟩) 19 19) 19 (ints [16, 17, 18, 0, 8, 7, 9, 6, 10, 5, 11, 4, 12, 3, 13, 2, 14, 1, 15]) :: Rs)) := hid (by rw [List.replicate_zero, List.append_nil]; exact hh)
                          clear hh HT2
                          go_wp2
                          go_loopg [16, 24] (cnt + 2) (fun g t16 t24 wr => ∃ (j : Nat) (lo2 : Option Addr) (lcap2 : Nat), j ≤ cnt ∧ cnt - j < g ∧ t24 = .int .i64 (j : Int) ∧ t16 = .slice lo2 (n + j) lcap2 ∧ Hid (Held w0 wr (strT B o 0 r kk s (.slice bo m bc) (p1 + 7) (M : Int) li di lc dc tk :: rdT 1 (.slice bo m bc) m (u8s all) :: ownT 3 1 (.slice lo2 (n + j) lcap2) (n + j) (ints (L ++ List.replicate j 0)) :: ownT 44 1 (.slice co 19 cc) 19 (nums .u32 (codesOf HD)) :: ownT 3 1 (.slice (some ⟨OB + 1, 0, none⟩) 19 19) 19 (ints HD) :: rdT 1 (.slice (some ⟨OB, 0, none⟩) 19 19) 19 (ints [16, 17, 18, 0, 8, 7, 9, 6, 10, 5, 11, 4, 12, 3, 13, 2, 14, 1, 15]) :: Rs)))
                          case atStart => exact ⟨0, _, _, by omega, by omega, rfl, rfl, H9⟩
                          case round =>
                            obtain ⟨j, lo2, lcap2, hj, hg2, rfl, rfl, HJ⟩ := hrel
                            have hj0 : (0 : Int) ≤ (j : Int) := Int.natCast_nonneg _
                            by_cases hjc : j < cnt
                            · have hjI : (j : Int) < (cnt : Int) := by omega
                              have HX : Hid (L ++ List.replicate (j + 1) 0 = L ++ List.replicate j 0 ++ [0]) := hid (by rw [List.replicate_succ', List.append_assoc])
                              go_wp2_with (refine wpList_app_held rfl (.tmp 177) (.tmp 179) 28 rfl 3 i0 (.int .i64 0) 1 8 Tryd.underlying28 hi0 hz0 hz1 hz2 rfl (by decide) _ (n + j) _ rfl (HJ.out.third.alloc _) _ 1 (ints [0]) rfl (Rd.lit _ [_] _ 1 1 (by decide) rfl) (ints_one _) (n + j + 1) rfl (by unfold maxLen; omega) (by omega) ?_; intro lo' lcap' w10 h9; rw [← ints_append, ← HX.out] at h9; have H11 := hid (h9.swap.third.swap); clear h9)
                              go_roundg (gk - 1)
                              case measure => omega
                              case rel => exact ⟨j + 1, _, _, by omega, by omega, by go_num, rfl, H11⟩
                            · have hjI : ¬ (j : Int) < (cnt : Int) := by omega
                              obtain rfl : j = cnt := by omega
                              go_wp2
                              go_roundg (gx - 1)
                              case measure => omega
                              case rel => exact ⟨p1 + 7, n + j, f, _, _, _, hp2m, by omega, by omega, htotN, rfl, hid ⟨by rw [List.length_append, List.length_replicate, ← HNL.out], HSe.out⟩, HJ⟩
                · have HCs := hid (HC.mono fun _ _ h => (h.resolve_left fun h => hes h.1).2)
                  have HSe : Hid (S = (es, p, [], []) ∧ es ≠ 0) := hid ⟨by rw [HO.out.2, lenF_over hnot.out (len_err hsy hes)]; unfold dynF.dynEnd; exact if_pos hes, hes⟩
                  clear hsy HC hes
                  go_wp2_with fail
                  refine HCs.out.mono ?_
                  rintro e' w8 ⟨rfl, hh⟩
                  have H8b := hid hh
                  clear hh HCs HQ
                  go_wp2
                  go_ret
                  exact ⟨by rw [HSe.out.1]; simp [HSe.out.2], .inr ⟨by rw [HSe.out.1]; exact HSe.out.2, p, li, di, by rw [HSe.out.1]; exact H8b.out.third.drop.third.drop.third.drop.third.drop⟩⟩
              · have hnI : ¬ (n : Int) < (N0 : Int) := by omega
                obtain rfl : n = N0 := by omega
                have hSe : S = dynF.dynEnd A (0, p, L) := by rw [HO.out.2, lenF_done (by rw [← HO.out.1]; exact Nat.le_refl _)]
                have hlc := HQ.out.third.own.le
                have hAn : A ≤ n := by have := HN0.out; omega
                have h256 : 256 < A := by omega
                have hcA : ∀ wg, (Instr.sliceAt 28 (.slice lo n lcap) none (some (.int .i64 (A : Int))) none).run Tryd.prog wg = .ok (.slice lo A lcap) wg := fun wg => by
                  rw [← sliced_front lo A lcap 1 HQ.out.third.own.spotless]
                  exact run_cut 28 3 i0 1 Tryd.underlying28 hi0 hz1 lo n lcap 0 A _ _ rfl ⟨_, rfl⟩ (by omega) (by omega)
                have hcB : ∀ wg, (Instr.sliceAt 28 (.slice lo n lcap) (some (.int .i64 (A : Int))) none none).run Tryd.prog wg = .ok (sliced lo A n lcap 1) wg := fun wg =>
                  run_cut 28 3 i0 1 Tryd.underlying28 hi0 hz1 lo n lcap A n _ _ ⟨_, rfl⟩ rfl hAn hlc
                have h2 := HQ.out.third.cut2 A hAn
                have hti : (ints L).take A = ints (L.take A) := by simp [ints, List.map_take]
                have htd : (ints L).drop A = ints (L.drop A) := by simp [ints, List.map_drop]
                rw [hti, htd] at h2
                have htl : (L.take A).length = A := by rw [List.length_take, ← HO.out.1]; omega
                have htdl : (L.drop A).length = n - A := by rw [List.length_drop, ← HO.out.1]
                unfold sliced at hcB h2
                generalize (if lcap = A then lo else lo.map fun (x : Addr) => x.add (A * 1)) = lb at hcB h2
                have h3 := ((h2.swap.setObj 8 (.slice lo A lcap)).setObj 9 (.slice lb (n - A) (lcap - A)))
                have hb' := HQ.out.obj
                have c8 := hb'.cell (i := 8) rfl
                have c9 := hb'.cell (i := 9) rfl
                have f8 := hb'.frozen 8
                have f9 := hb'.frozen 9
                have H3 := hid h3
                obtain ⟨y, hy⟩ : ∃ y, L[256]? = some y := ⟨L[256]'(by have := HO.out.1; omega), List.getElem?_eq_getElem _⟩
                obtain ⟨gl, ol, rfl, hlcell⟩ := h3.swap.rdv2.1.spot (by omega)
                have hcy := hlcell 256 (.int .i64 y) (by rw [ints_get, List.getElem?_take_of_lt h256, hy]; rfl)
                have HK1 := hid (refcheck_any (.slice (some ⟨gl, ol, none⟩) A lcap) (L.take A) 15 _ (by rw [htl]; exact h3.swap.rdv2.1) (by omega))
                have HK2 := hid (refcheck_any (.slice lb (n - A) (lcap - A)) (L.drop A) 15 _ (by rw [htdl]; exact h3.swap.rdv2.2) (by omega))
                have hSS : S = if checkOf (L.take A) 15 ≠ 0 ∨ checkOf (L.drop A) 15 ≠ 0 ∨ y = 0 then (3, p, L.take A, L.drop A) else (0, p, L.take A, L.drop A) := by
                  rw [hSe]; unfold dynF.dynEnd
                  dsimp only
                  rw [if_neg (fun h => h rfl), hy, Option.getD_some]
                have HTL := hid (And.intro htl htdl)
                have HSS := hid hSS
                have hb9 := h3.obj
                have e1 := hb9.cell (i := 1) rfl
                have e8 := hb9.cell (i := 8) rfl
                have e9 := hb9.cell (i := 9) rfl
                have k1 := hb9.frozen 1
                generalize hc1 : checkOf (L.take A) 15 = q1' at *
                generalize hc2 : checkOf (L.drop A) 15 = q2' at *
                have hAI256 : (256 : Int) < (A : Int) := by omega
                clear hSe h2 hti htd htl htdl h3 hb' hb9 hy hlcell hSS HQ
                by_cases hz1' : q1' = 0
                · subst hz1'
                  by_cases hz2' : q2' = 0
                  · subst hz2'
                    by_cases hy0 : y = 0
                    · subst hy0
                      have HSe : Hid (S = (3, p, L.take A, L.drop A)) := hid (by rw [HSS.out, if_pos (by simp)])
                      go_wp2_with fail
                      refine HK1.out.mono ?_
                      rintro e' w8 ⟨rfl, rfl⟩
                      go_wp2_with fail
                      refine HK2.out.mono ?_
                      rintro e' w8 ⟨rfl, rfl⟩
                      go_wp2
                      go_ret
                      exact ⟨by rw [HSe.out]; rfl, .inr ⟨by rw [HSe.out]; exact fun h => (by cases h), p, _, _, by rw [HSe.out]; exact (H3.out.setObj 1 (.int .i64 3)).swap.drop.third.drop.third.drop.third.drop⟩⟩
                    · have hyb : (y == 0) = false := by simp; exact hy0
                      have HSe : Hid (S = (0, p, L.take A, L.drop A)) := hid (by rw [HSS.out, if_neg (by simp; exact hy0)])
                      clear hy0
                      go_wp2_with fail
                      refine HK1.out.mono ?_
                      rintro e' w8 ⟨rfl, rfl⟩
                      go_wp2_with fail
                      refine HK2.out.mono ?_
                      rintro e' w8 ⟨rfl, rfl⟩
                      go_wp2
                      go_ret
                      exact ⟨by rw [HSe.out]; rfl, .inl ⟨by rw [HSe.out], _, _, by rw [HSe.out]; simp only [HTL.out.1, HTL.out.2]; exact (H3.out.third.swap.fourth.drop.fourth.drop.fourth.drop.swap.third.swap.third)⟩⟩
                  · have b7 : ((q2' : Int) != 0) = true := by simp; exact hz2'
                    have HSe : Hid (S = (3, p, L.take A, L.drop A)) := hid (by rw [HSS.out, if_pos (.inr (.inl hz2'))])
                    clear hz2'
                    go_wp2_with fail
                    refine HK1.out.mono ?_
                    rintro e' w8 ⟨rfl, rfl⟩
                    go_wp2_with fail
                    refine HK2.out.mono ?_
                    rintro e' w8 ⟨rfl, rfl⟩
                    go_wp2
                    go_ret
                    exact ⟨by rw [HSe.out]; rfl, .inr ⟨by rw [HSe.out]; exact fun h => (by cases h), p, _, _, by rw [HSe.out]; exact (H3.out.setObj 1 (.int .i64 3)).swap.drop.third.drop.third.drop.third.drop⟩⟩
                · have b7 : ((q1' : Int) != 0) = true := by simp; exact hz1'
                  have HSe : Hid (S = (3, p, L.take A, L.drop A)) := hid (by rw [HSS.out, if_pos (.inl hz1')])
                  clear hz1'
                  go_wp2_with fail
                  refine HK1.out.mono ?_
                  rintro e' w8 ⟨rfl, rfl⟩
                  go_wp2
                  go_ret
                  exact ⟨by rw [HSe.out]; rfl, .inr ⟨by rw [HSe.out]; exact fun h => (by cases h), p, _, _, by rw [HSe.out]; exact (H3.out.setObj 1 (.int .i64 3)).swap.drop.third.drop.third.drop.third.drop⟩⟩
          · have HSe := hid (hIBad.out hbad)
            have hcs : (ck ≠ 0) ∨ (ck = 0 ∧ any = false) := by
              by_cases h : ck = 0
              · exact .inr ⟨h, by cases any with | false => rfl | true => exact absurd ⟨h, rfl⟩ hbad⟩
              · exact .inl h
            clear hIBad hIOk hbad
            rcases hcs with hcs | ⟨rfl, rfl⟩
            · have b7 : ((ck : Int) != 0) = true := by simp; exact hcs
              clear hcs
              go_wp2_with fail
              refine HK1.out.mono ?_
              rintro e' w6 ⟨rfl, rfl⟩
              have H9 := hid ((HH.out.setObj 1 (.int .i64 3)).fourth.drop.third.drop)
              go_wp2
              go_ret
              exact ⟨by rw [HSe.out]; rfl, .inr ⟨by rw [HSe.out]; exact fun h => (by cases h), p, li, di, by rw [HSe.out]; exact H9.out⟩⟩
            · go_wp2_with fail
              refine HK1.out.mono ?_
              rintro e' w6 ⟨rfl, rfl⟩
              have H9 := hid ((HH.out.setObj 1 (.int .i64 3)).fourth.drop.third.drop)
              go_wp2
              go_ret
              exact ⟨by rw [HSe.out]; rfl, .inr ⟨by rw [HSe.out]; exact fun h => (by cases h), p, li, di, by rw [HSe.out]; exact H9.out⟩⟩
end
end Go.Proofs.YtmmfkppkmgjljaaDoor
