/-
  What a call owns and what it may have changed: slices that lie anywhere in a row of their own ('Own'), slices that are only read ('Rd'), whole objects ('Blk'), and the frame 'Mod': everything but the named blocks is as it was. Laws on append for them. No program is named here.
-/
import Derived.WalkKit
import Derived.Deep.RegionHeld3
import Derived.Deep.RegionLaw
import Derived.Maps.AppendAt
import Derived.Deep.Draws
import Derived.Deep.QuietTactic
import Derived.BigQuiet
import Derived.Deep.LoopGhost
import Derived.Outline
namespace Go.Proofs.YtbkbkmgogbgofaaDoor
set_option maxRecDepth 5000
open Go.RowKit
theorem hid {p : Prop} (h : p) : Hid p := h
/-! ### The frame -/
structure Mod (w w' : World) (S : Nat → Prop) : Prop where
  os : w'.os = w.os
  tape : w'.tape = w.tape
  output : w'.output = w.output
  size : w.heap.size ≤ w'.heap.size
  block : ∀ k, k < w.heap.size → ¬ S k → w'.heap[k]? = w.heap[k]?
theorem Mod.refl (w : World) (S : Nat → Prop) : Mod w w S := ⟨rfl, rfl, rfl, Nat.le_refl _, fun _ _ _ => rfl⟩
theorem Mod.mono {w w' : World} {S T : Nat → Prop} (h : Mod w w' S) (hs : ∀ k, k < w.heap.size → S k → T k) : Mod w w' T :=
  ⟨h.os, h.tape, h.output, h.size, fun k hk ht => h.block k hk fun hS => ht (hs k hk hS)⟩
theorem Mod.trans {a b c : World} {S T : Nat → Prop} (h : Mod a b S) (h2 : Mod b c T) (hs : ∀ k, k < a.heap.size → T k → S k) : Mod a c S :=
  ⟨h2.os.trans h.os, h2.tape.trans h.tape, h2.output.trans h.output, Nat.le_trans h.size h2.size,
    fun k hk hS => (h2.block k (Nat.lt_of_lt_of_le hk h.size) fun ht => hS (hs k hk ht)).trans (h.block k hk hS)⟩
theorem Mod.same {a b c : World} {S : Nat → Prop} (h : Mod a b S) (h2 : Mod b c S) : Mod a c S := h.trans h2 fun _ _ h => h
theorem Mod.alloc {a w : World} {S : Nat → Prop} (h : Mod a w S) (o : Obj) : Mod a (w.alloc o) S :=
  h.trans (T := fun _ => False) ⟨rfl, rfl, rfl, by simp, fun k hk _ => Below.heap_alloc _ _ _ hk⟩ (fun _ _ h => h.elim)
theorem Mod.setCell {a w : World} {S : Nat → Prop} (h : Mod a w S) {p : Addr} (hp : a.heap.size ≤ p.block ∨ S p.block) (u : Value) : Mod a (w.setCell p u) S :=
  h.trans (T := fun k => k = p.block) ⟨rfl, rfl, rfl, by simp [World.setCell], fun k _ hne => Below.heap_setCell _ _ _ _ hne⟩ (fun k hk e => by subst e; exact hp.resolve_left (by omega))
theorem Mod.drew {a w : World} {S : Nat → Prop} (h : Mod a w S) : Mod a w.drew S := ⟨h.os, h.tape, h.output, h.size, h.block⟩
theorem Mod.drewN {a w : World} {S : Nat → Prop} (h : Mod a w S) (n : Nat) : Mod a (w.drewN n) S := ⟨h.os, h.tape, h.output, h.size, h.block⟩
theorem Mod.grown {a w w' : World} {S : Nat → Prop} {row : Option Nat} (h : Mod a w S) (hg : w.grownBy w' row) (hr : ∀ k, row = some k → a.heap.size ≤ k ∨ S k) : Mod a w' S :=
  h.trans (T := fun k => row = some k) ⟨hg.os, hg.tape, hg.output, hg.size, fun k hk hne => hg.block k hk fun e => hne e.symm⟩
    (fun k hk e => (hr k e).resolve_left (by omega))
theorem Mod.below {w w' : World} {S : Nat → Prop} (h : Mod w w' S) {B : Nat} (hB : B ≤ w.heap.size) (hs : ∀ k, k < B → ¬ S k) : Below B w w' :=
  ⟨h.os, h.tape, h.output, h.size, fun k hk => h.block k (by omega) (hs k hk)⟩
theorem Mod.cell {w w' : World} {S : Nat → Prop} (h : Mod w w' S) {p : Addr} (hp : p.block < w.heap.size) (hs : ¬ S p.block) : w'.cell? p = w.cell? p := World.cell?_of_block (w := w) (h.block p.block hp hs)
/-! ### A whole object -/
def Blk (w : World) (B : Nat) (cs : List Value) (T : TypeId) : Prop := w.heap[B]? = some (.cells cs.toArray T (0, 0))
section
variable {w w' : World} {B : Nat} {cs : List Value} {T : TypeId}
theorem Blk.lt (h : Blk w B cs T) : B < w.heap.size := (Array.getElem?_eq_some_iff.1 h).1
theorem Blk.cell (h : Blk w B cs T) {i : Nat} {v : Value} (hv : cs[i]? = some v) : w.cell? ⟨B, i, none⟩ = some v := by
  rw [cell_of_row w B i _ T (0, 0) h]; simpa using hv
theorem Blk.frozen (h : Blk w B cs T) (i : Nat) : w.frozen? ⟨B, i, none⟩ = false := frozen_of_row w B i _ T h
theorem Blk.set (h : Blk w B cs T) (i : Nat) (u : Value) : Blk (w.setCell ⟨B, i, none⟩ u) B (cs.set i u) T := by
  unfold Blk
  rw [heap_setCell_same w B i _ T u h, List.setIfInBounds_toArray]
theorem Blk.kept (h : Blk w B cs T) {S : Nat → Prop} (hm : Mod w w' S) (hs : ¬ S B) : Blk w' B cs T := (hm.block B h.lt hs).trans h
theorem Blk.alloc (h : Blk w B cs T) (o : Obj) : Blk (w.alloc o) B cs T := (Below.heap_alloc w o B h.lt).trans h
theorem Blk.grown (h : Blk w B cs T) {row : Option Nat} (hg : w.grownBy w' row) (hr : row ≠ some B) : Blk w' B cs T := (hg.block B h.lt fun e => hr e.symm).trans h
theorem Blk.new (w : World) (cs : List Value) (T : TypeId) : Blk (w.alloc (.cells cs.toArray T)) w.heap.size cs T := heap_alloc_new w _
end
/-! ### A slice that is only read -/
def Rd (w : World) (size : Nat) (v : Value) (n : Nat) (xs : List Value) : Prop :=
  xs.length = n * size ∧ ∃ ao cap, v = .slice ao n cap ∧ n ≤ cap ∧ cap ≤ maxLen ∧ (ao = none → cap = 0) ∧
    (n = 0 ∨ ∃ b off, ao = some ⟨b, off, none⟩ ∧ ∀ j u, xs[j]? = some u → w.cell? ⟨b, off + j, none⟩ = some u)
/-! ### A slice that may be appended to -/
def Own (w : World) (e : TypeId) (size : Nat) (v : Value) (n : Nat) (xs : List Value) : Prop :=
  xs.length = n * size ∧ ((v = .slice none 0 0 ∧ n = 0) ∨
    ∃ g off cap cur, v = .slice (some ⟨g, off, none⟩) n cap ∧ w.heap[g]? = some (.cells cur e (0, 0)) ∧ n ≤ cap ∧ cap ≤ maxLen ∧ off + cap * size ≤ cur.size ∧
      ∀ j u, xs[j]? = some u → cur[off + j]? = some u)
section
variable {w w' : World} {e : TypeId} {size : Nat} {v : Value} {n : Nat} {xs : List Value}
theorem Own.nil (w : World) (e : TypeId) (size : Nat) : Own w e size (.slice none 0 0) 0 [] := ⟨by simp, .inl ⟨rfl, rfl⟩⟩
theorem Own.of_row {base : Nat} (h : w.ownsRow base e size v n xs) : Own w e size v n xs := by
  refine ⟨h.1, ?_⟩
  rcases h.2 with h2 | ⟨g, cap, cur, hv, _, hg, hn, hc, hs, ht⟩
  · exact .inl h2
  · refine .inr ⟨g, 0, cap, cur, hv, hg, hn, hc, by omega, fun j u hu => ?_⟩
    rw [← ht, List.getElem?_take] at hu
    split at hu
    · simpa using hu
    · cases hu
theorem Own.lt (h : Own w e size v n xs) : ∀ k, v.ownBlock = some k → k < w.heap.size := by
  intro k hk
  rcases h.2 with ⟨rfl, _⟩ | ⟨g, off, cap, cur, rfl, hg, _⟩
  · simp [Value.ownBlock] at hk
  · simp [Value.ownBlock] at hk
    subst hk
    exact (Array.getElem?_eq_some_iff.1 hg).1
theorem Own.kept (h : Own w e size v n xs) {S : Nat → Prop} (hm : Mod w w' S) (hs : ∀ k, v.ownBlock = some k → ¬ S k) : Own w' e size v n xs := by
  refine ⟨h.1, ?_⟩
  rcases h.2 with h2 | ⟨g, off, cap, cur, rfl, hg, rest⟩
  · exact .inl h2
  · exact .inr ⟨g, off, cap, cur, rfl, by rw [hm.block g (Array.getElem?_eq_some_iff.1 hg).1 (hs g rfl)]; exact hg, rest⟩
theorem Own.alloc (h : Own w e size v n xs) (o : Obj) : Own (w.alloc o) e size v n xs := h.kept ((Mod.refl w (fun _ => False)).alloc o) (fun _ _ h => h)
theorem Own.drew (h : Own w e size v n xs) : Own w.drew e size v n xs := h
theorem Own.rd (h : Own w e size v n xs) : Rd w size v n xs := by
  refine ⟨h.1, ?_⟩
  rcases h.2 with ⟨rfl, rfl⟩ | ⟨g, off, cap, cur, rfl, hg, hn, hc, hs, ht⟩
  · exact ⟨none, 0, rfl, Nat.le_refl _, Nat.zero_le _, fun _ => rfl, .inl rfl⟩
  · exact ⟨_, cap, rfl, hn, hc, (fun h => by cases h), .inr ⟨g, off, rfl, fun j u hu => by rw [cell_of_row w g _ cur e (0, 0) hg]; exact ht j u hu⟩⟩
theorem Own.form (h : Own w e size v n xs) : ∃ ao cap, v = .slice ao n cap ∧ n ≤ cap ∧ cap ≤ maxLen := by
  rcases h.2 with ⟨rfl, rfl⟩ | ⟨g, off, cap, cur, rfl, hg, hn, hc, _⟩
  · exact ⟨_, _, rfl, Nat.le_refl _, Nat.zero_le _⟩
  · exact ⟨_, _, rfl, hn, hc⟩
theorem Own.lit (w : World) (cs : List Value) (n : Nat) (hm : n ≤ maxLen) (hs : cs.length = n * size) :
    Own (w.alloc (.cells cs.toArray e)) e size (.slice (some ⟨w.heap.size, 0, none⟩) n n) n cs :=
  ⟨hs, .inr ⟨w.heap.size, 0, n, _, rfl, heap_alloc_new w _, Nat.le_refl _, hm, by simp [hs], fun j u hu => by simpa using hu⟩⟩
end
section
variable {w w' : World} {size : Nat} {v : Value} {n : Nat} {xs : List Value}
theorem Rd.kept (h : Rd w size v n xs) {S : Nat → Prop} (hm : Mod w w' S) (hs : ∀ k, v.ownBlock = some k → ¬ S k) : Rd w' size v n xs := by
  obtain ⟨h1, ao, cap, rfl, h2, h3, h4, h5⟩ := h
  refine ⟨h1, ao, cap, rfl, h2, h3, h4, ?_⟩
  rcases h5 with h5 | ⟨b, off, rfl, h5⟩
  · exact .inl h5
  · exact .inr ⟨b, off, rfl, fun j u hu => by
      have hc := h5 j u hu
      rw [hm.cell (World.block_lt_of_cell? w _ hc) (hs b rfl)]; exact hc⟩
end
/-! ### The cells of a row behind stores -/
theorem heap_setCells (b : Nat) (e : TypeId) : ∀ (vs : List Value) (o : Nat) (w : World) (cur : Array Value), w.heap[b]? = some (.cells cur e (0, 0)) →
    ∃ cur', (w.setCells b o vs).heap[b]? = some (.cells cur' e (0, 0)) ∧ cur'.size = cur.size ∧ (∀ i, i < o → cur'[i]? = cur[i]?) ∧ (o + vs.length ≤ cur.size → ∀ j u, vs[j]? = some u → cur'[o + j]? = some u)
  | [], o, w, cur, h => ⟨cur, h, rfl, fun _ _ => rfl, fun _ j u hu => by simp at hu⟩
  | v :: r, o, w, cur, h => by
    obtain ⟨cur', h1, h2, h3, h4⟩ := heap_setCells b e r (o + 1) (w.setCell ⟨b, o, none⟩ v) (cur.setIfInBounds o v) (heap_setCell_same w b o cur e v h)
    refine ⟨cur', h1, by simpa using h2, fun i hi => ?_, fun hl j u hu => ?_⟩
    · rw [h3 i (by omega), Array.getElem?_setIfInBounds, if_neg (by omega)]
    · simp only [List.length_cons] at hl
      match j, hu with
      | 0, hu =>
        simp only [List.getElem?_cons_zero, Option.some.injEq] at hu
        subst hu
        rw [Nat.add_zero, h3 o (by omega), Array.getElem?_setIfInBounds, if_pos rfl, if_pos (by omega)]
      | j + 1, hu =>
        rw [show o + (j + 1) = o + 1 + j by omega]
        exact h4 (by simpa using (by omega)) j u (by simpa using hu)
theorem grownBy_setCells (w : World) (b : Nat) : ∀ (vs : List Value) (o : Nat), w.grownBy (w.setCells b o vs) (some b) := by
  intro vs
  induction vs generalizing w with
  | nil => intro o; exact World.grownBy.refl _ _
  | cons v r ih =>
    intro o
    have h1 := ih (w.setCell ⟨b, o, none⟩ v) (o + 1)
    refine ⟨h1.os, h1.tape, h1.output, Nat.le_trans (by simp [World.setCell]) h1.size, fun k hk hne => ?_⟩
    rw [World.setCells, h1.block k (by simpa [World.setCell] using hk) hne]
    exact Below.heap_setCell _ _ _ _ (fun e => hne (by rw [e]))
/-! ### append -/
section
variable {P : Program} (w : World)
theorem run_app (t ty e : TypeId) (i : TypeInfo) (z : Value) (size bytes : Nat) (ht : P.underlying t = some (.slice e)) (hi : P.info? e = some i) (hz : i.zero = some z)
    (hsize : i.size = size) (hby : i.bytes = bytes) (hzs : z.cells.size = size) (hsz : 0 < size)
    (v : Value) (n : Nat) (xs : List Value) (hown : Own w e size v n xs)
    (x : Value) (m : Nat) (news : List Value) (hsrc : Rd w size x m news) (h1 : ∀ u ∈ news, u.oneCell' = true)
    (h63 : n + m ≤ maxLen) (hbytes : (n + m) * bytes ≤ 140737488355328) :
    ∃ ao cap w', (Builtin.append_ #[t, t] ty #[v, x]).run P w = .ok (.slice ao (n + m) cap) w' ∧ Own w' e size (.slice ao (n + m) cap) (n + m) (xs ++ news) ∧ w.grownBy w' v.ownBlock ∧
      (Value.ownBlock (.slice ao (n + m) cap) = v.ownBlock ∨ Value.ownBlock (.slice ao (n + m) cap) = some w.heap.size) := by
  subst hsize
  subst hby
  obtain ⟨hl, xo, c, rfl, hmc, hcm', hx0, hsrc⟩ := hsrc
  have hsmall : n + m ≤ 9223372036854775807 := by simp only [maxLen] at h63; omega
  have hlen : (xs ++ news).length = (n + m) * i.size := by rw [List.length_append, hown.1, hl, Nat.add_mul]
  by_cases hm : m = 0
  · subst hm
    obtain rfl : news = [] := List.eq_nil_of_length_eq_zero (by simpa using hl)
    obtain ⟨ao, cap, hv, hnc, hcm⟩ := hown.form
    refine ⟨ao, cap, w, ?_, ?_, World.grownBy.refl _ _, .inl (by rw [hv]; rfl)⟩
    · subst hv
      cases xo with
      | none =>
        obtain rfl : c = 0 := hx0 rfl
        cases ao with
        | none =>
          rcases hown.2 with ⟨h, _⟩ | ⟨_, _, _, _, h, _⟩
          · simp only [Value.slice.injEq, true_and] at h
            obtain ⟨rfl, rfl⟩ := h
            simp [Builtin.append_, run_underlying ht, sizeOf, typeInfo, hi, Builtin.lenOf, Builtin.firstCells]
          · simp at h
        | some a => simp [Builtin.append_, run_underlying ht, sizeOf, typeInfo, hi, Builtin.lenOf, Builtin.firstCells, hnc, storeCells]
      | some xa =>
        cases ao with
        | none =>
          rcases hown.2 with ⟨h, _⟩ | ⟨_, _, _, _, h, _⟩
          · simp only [Value.slice.injEq, true_and] at h
            obtain ⟨rfl, rfl⟩ := h
            simp [Builtin.append_, run_underlying ht, sizeOf, typeInfo, hi, Builtin.lenOf, Builtin.firstCells, loadCells, loadCellsFrom]
          · simp at h
        | some a => simp [Builtin.append_, run_underlying ht, sizeOf, typeInfo, hi, Builtin.lenOf, Builtin.firstCells, loadCells, loadCellsFrom, hnc, storeCells]
    · rw [Nat.add_zero, List.append_nil, ← hv]; exact hown
  · rcases hsrc with h0 | ⟨xb, xoff, rfl, hnews'⟩
    · exact absurd h0 hm
    have hnews : ∀ j u, news[j]? = some u → w.cell? ((⟨xb, xoff, none⟩ : Addr).add j) = some u := fun j u hu => by rw [Addr.add_lit]; exact hnews' j u hu
    have grown : ∀ (old : Nat), old < n + m → ∀ (row : Option Nat),
        Own (w.drew.alloc (.cells (xs.toArray ++ news.toArray ++ Builtin.zeroCells z.cells (grownCap w (n + m) old e - (n + m))) e)) e i.size
          (.slice (some ⟨w.heap.size, 0, none⟩) (n + m) (grownCap w (n + m) old e)) (n + m) (xs ++ news) ∧
        w.grownBy (w.drew.alloc (.cells (xs.toArray ++ news.toArray ++ Builtin.zeroCells z.cells (grownCap w (n + m) old e - (n + m))) e)) row := by
      intro old ho row
      have hge := grownCap_ge w (n + m) old e
      have hcm : grownCap w (n + m) old e ≤ maxLen := grownCap_le_maxLen w (n + m) old e h63
      refine ⟨⟨hlen, .inr ⟨w.heap.size, 0, _, _, rfl, heap_alloc_new w.drew _, hge, hcm, ?_, fun j u hu => ?_⟩⟩, ⟨rfl, rfl, rfl, by simp, fun k hk _ => Below.heap_alloc w.drew _ k hk⟩⟩
      · simp only [Array.size_append, List.size_toArray, size_zeroCells, hzs, hown.1, hl, ← Nat.add_mul]
        have : n + m + (grownCap w (n + m) old e - (n + m)) = grownCap w (n + m) old e := by omega
        rw [this]; omega
      · have hj : j < (xs ++ news).length := (List.getElem?_eq_some_iff.1 hu).1
        rw [Nat.zero_add, Array.getElem?_append_left (by simpa using hj), ← hu]
        simp
    rcases hown.2 with ⟨rfl, rfl⟩ | ⟨g, off, cap, cur, rfl, hg, hnc, hcm, hcs, hcur⟩
    · obtain rfl : xs = [] := List.eq_nil_of_length_eq_zero (by simpa using hown.1)
      have hr := run_append_nil (P := P) w t ty e i z ht hi hz ⟨xb, xoff, none⟩ m c news hl hnews (by omega) (by omega) (by have hb := hbytes; simp only [Nat.zero_add] at hb; omega)
      have hgr := grown 0 (by omega) (Value.ownBlock (.slice none 0 0))
      simp only [Nat.zero_add, List.nil_append, Array.empty_append] at hgr ⊢
      exact ⟨_, _, _, hr, hgr.1, hgr.2, .inr rfl⟩
    · by_cases hroom : n + m ≤ cap
      · have hle : (n + m) * i.size ≤ cap * i.size := Nat.mul_le_mul_right _ hroom
        rw [Nat.add_mul] at hle
        have hr := run_append_room_cells (P := P) w t ty e i ht hi g off n cap ⟨xb, xoff, none⟩ m c news hl hnews h1 hroom
          (fun j hj => by
            rw [cell_of_row w g _ cur e (0, 0) hg, Array.getElem?_eq_getElem (by omega)]; rfl)
          (fun j _ => frozen_of_row w g _ cur e hg)
        obtain ⟨cur', k1, k2, k3, k4⟩ := heap_setCells g e news (off + n * i.size) w cur hg
        refine ⟨_, _, _, hr, ⟨hlen, .inr ⟨g, off, cap, cur', rfl, k1, hroom, hcm, by omega, fun j u hu => ?_⟩⟩, grownBy_setCells w g news _, .inl rfl⟩
        by_cases hj : j < xs.length
        · rw [List.getElem?_append_left hj] at hu
          rw [k3 _ (by have := hown.1; omega)]
          exact hcur j u hu
        · rw [List.getElem?_append_right (by omega)] at hu
          have := k4 (by omega) (j - xs.length) u hu
          rw [hown.1] at this
          rwa [show off + n * i.size + (j - n * i.size) = off + j by have := hown.1; omega] at this
      · have holds : ∀ j u, xs[j]? = some u → w.cell? ((⟨g, off, none⟩ : Addr).add j) = some u := fun j u hu => by
          rw [Addr.add_lit, cell_of_row w g _ cur e (0, 0) hg]; exact hcur j u hu
        have hr := run_append_grow (P := P) w t ty e i z ht hi hz ⟨g, off, none⟩ n cap xs hown.1 holds ⟨xb, xoff, none⟩ m c news hl hnews (by omega) (by omega) (growslice_fits (by omega) hbytes)
        have hgr := grown cap (by omega) (Value.ownBlock (.slice (some ⟨g, off, none⟩) n cap))
        exact ⟨_, _, _, hr, hgr.1, hgr.2, .inr rfl⟩
theorem wp_app {o : Oper} {a : Act} {K : Act → World → Prop} {Q : Exit → Act → World → Prop} (s x : Operand) (t : TypeId)
    (ho : o.op = .call { callee := .builtin .append, args := #[s, x], argTypes := #[t, t] })
    (e : TypeId) (i : TypeInfo) (z : Value) (size bytes : Nat) (ht : P.underlying t = some (.slice e)) (hi : P.info? e = some i) (hz : i.zero = some z)
    (hsize : i.size = size) (hby : i.bytes = bytes) (hzs : z.cells.size = size) (hsz : 0 < size)
    (v : Value) (n : Nat) (xs : List Value) (hs : a.eval s = v) (hown : Own w e size v n xs)
    (y : Value) (m : Nat) (news : List Value) (hx : a.eval x = y) (hsrc : Rd w size y m news) (h1 : ∀ u ∈ news, u.oneCell' = true)
    (h63 : n + m ≤ maxLen) (hbytes : (n + m) * bytes ≤ 140737488355328)
    (h : ∀ ao cap w', Own w' e size (.slice ao (n + m) cap) (n + m) (xs ++ news) → w.grownBy w' v.ownBlock →
      (Value.ownBlock (.slice ao (n + m) cap) = v.ownBlock ∨ Value.ownBlock (.slice ao (n + m) cap) = some w.heap.size) → K (a.put o.dst (.slice ao (n + m) cap)) w') : o.wp P a w K Q := by
  obtain ⟨ao, cap, w', hr, h2, h3, h4⟩ := run_app (P := P) w t o.type e i z size bytes ht hi hz hsize hby hzs hsz v n xs hown y m news hsrc h1 h63 hbytes
  unfold Oper.wp execOp
  simp only [ho, resolve, invoke, builtin, Sem.run_bind, Sem.run_pure, Result.andThen_ok, List.map_toArray, List.map_cons, List.map_nil, hs, hx, hr]
  exact h ao cap w' h2 h3 h4
theorem wpList_app {ops : Array Oper} {rest : List Oper} {o : Oper} {a : Act} {Q : Exit → Act → World → Prop} (hgd : o.guard = none) (s x : Operand) (t : TypeId)
    (ho : o.op = .call { callee := .builtin .append, args := #[s, x], argTypes := #[t, t] })
    (e : TypeId) (i : TypeInfo) (z : Value) (size bytes : Nat) (ht : P.underlying t = some (.slice e)) (hi : P.info? e = some i) (hz : i.zero = some z)
    (hsize : i.size = size) (hby : i.bytes = bytes) (hzs : z.cells.size = size) (hsz : 0 < size)
    (v : Value) (n : Nat) (xs : List Value) (hs : a.eval s = v) (hown : Own w e size v n xs)
    (y : Value) (m : Nat) (news : List Value) (hx : a.eval x = y) (hsrc : Rd w size y m news) (h1 : ∀ u ∈ news, u.oneCell' = true)
    (h63 : n + m ≤ maxLen) (hbytes : (n + m) * bytes ≤ 140737488355328)
    (h : ∀ ao cap w', Own w' e size (.slice ao (n + m) cap) (n + m) (xs ++ news) → w.grownBy w' v.ownBlock →
      (Value.ownBlock (.slice ao (n + m) cap) = v.ownBlock ∨ Value.ownBlock (.slice ao (n + m) cap) = some w.heap.size) → wpList P ops Q rest (a.put o.dst (.slice ao (n + m) cap)) w') : wpList P ops Q (o :: rest) a w :=
  wpList_plain hgd fun _ hK => wp_app w s x t ho e i z size bytes ht hi hz hsize hby hzs hsz v n xs hs hown y m news hx hsrc h1 h63 hbytes fun ao cap w' h2 h3 h4 => hK _ _ (h ao cap w' h2 h3 h4)
theorem step_app {ops : Array Oper} {o : Oper} {a : Act} {K : Act → World → Prop} {Q : Exit → Act → World → Prop} {E : Prop} (hgd : o.guard = none) (s x : Operand) (t : TypeId)
    (ho : o.op = .call { callee := .builtin .append, args := #[s, x], argTypes := #[t, t] })
    (e : TypeId) (i : TypeInfo) (z : Value) (size bytes : Nat) (ht : P.underlying t = some (.slice e)) (hi : P.info? e = some i) (hz : i.zero = some z)
    (hsize : i.size = size) (hby : i.bytes = bytes) (hzs : z.cells.size = size) (hsz : 0 < size)
    (v : Value) (n : Nat) (xs : List Value) (hs : a.eval s = v) (hown : Own w e size v n xs)
    (y : Value) (m : Nat) (news : List Value) (hx : a.eval x = y) (hsrc : Rd w size y m news) (h1 : ∀ u ∈ news, u.oneCell' = true)
    (h63 : n + m ≤ maxLen) (hbytes : (n + m) * bytes ≤ 140737488355328)
    (h : ∀ ao cap w', Own w' e size (.slice ao (n + m) cap) (n + m) (xs ++ news) → w.grownBy w' v.ownBlock →
      (Value.ownBlock (.slice ao (n + m) cap) = v.ownBlock ∨ Value.ownBlock (.slice ao (n + m) cap) = some w.heap.size) → K (a.put o.dst (.slice ao (n + m) cap)) w') :
    if Region.wanted o (yielded ops a.tmps) = true then Oper.wp P o a w K Q else E := by
  have hw : Region.wanted o (yielded ops a.tmps) = true := by simp [Region.wanted, hgd]
  rw [if_pos hw]
  exact wp_app w s x t ho e i z size bytes ht hi hz hsize hby hzs hsz v n xs hs hown y m news hx hsrc h1 h63 hbytes h
end
theorem Rd.lit (w : World) (cs : List Value) (e : TypeId) (size n : Nat) (hm : n ≤ maxLen) (hs : cs.length = n * size) :
    Rd (w.alloc (.cells cs.toArray e)) size (.slice (some ⟨w.heap.size, 0, none⟩) n n) n cs := (Own.lit (e := e) w cs n hm hs).rd
theorem Rd.drew {w : World} {size : Nat} {v : Value} {n : Nat} {xs : List Value} (h : Rd w size v n xs) : Rd w.drew size v n xs := h
end Go.Proofs.YtbkbkmgogbgofaaDoor
/-
  Cutting a slice that is owned or read: s[lo:hi]. No program is named here.
-/
namespace Go.Proofs.YtbkbkmgogbgofaaDoor
set_option maxRecDepth 5000
open Go.RowKit
def Bnd (o : Option Value) (dflt n : Nat) : Prop := match o with
  | none => n = dflt
  | some v => ∃ k, v = .int k (n : Int)
section
variable {P : Program} {w : World}
theorem run_cut (t e : TypeId) (i : TypeInfo) (size : Nat) (ht : P.underlying t = some (.slice e)) (hi : P.info? e = some i) (hs : i.size = size)
    (a : Option Addr) (len cap L H : Nat) (lo hh : Option Value) (hlo : Bnd lo 0 L) (hhi : Bnd hh len H) (h1 : L ≤ H) (h2 : H ≤ cap) :
    (Instr.sliceAt t (.slice a len cap) lo hh none).run P w = .ok (sliced a L H cap size) w := by
  have hel : P.elem t = e := by simp [Program.elem, ht]
  have ht' : P.underlying t = some (.slice (P.elem t)) := by rw [hel]; exact ht
  have hsz : (sizeOf (P.elem t)).run P w = .ok size w := by rw [hel]; simp [sizeOf, typeInfo, hi, hs]
  rw [run_sliceAt_slice w t _ _ _ _ ht']
  cases lo with
  | none =>
    obtain rfl : L = 0 := hlo
    cases hh with
    | none =>
      obtain rfl : H = len := hhi
      rw [run_slice_all w t a H cap ht', hsz]; rfl
    | some v =>
      obtain ⟨k, rfl⟩ := hhi
      rw [run_slice_h w t a len cap ht' k H (by omega) (by omega), hsz]; simp [Result.andThen]
  | some v =>
    obtain ⟨k, rfl⟩ := hlo
    cases hh with
    | none =>
      obtain rfl : H = len := hhi
      rw [run_slice_l w t a H cap ht' k L (by omega) (by omega), hsz]; simp [Result.andThen]
    | some v =>
      obtain ⟨k', rfl⟩ := hhi
      rw [run_slice_lh w t a len cap ht' k k' L H (by omega) (by omega) (by omega), hsz]; simp [Result.andThen]
theorem cut_get {xs : List Value} {o n j : Nat} {u : Value} (h : ((xs.drop o).take n)[j]? = some u) : xs[o + j]? = some u := by
  rw [List.getElem?_take] at h
  split at h
  · rwa [List.getElem?_drop] at h
  · cases h
theorem cut_len {xs : List Value} {size n L H : Nat} (h : xs.length = n * size) (h1 : L ≤ H) (h2 : H ≤ n) : ((xs.drop (L * size)).take ((H - L) * size)).length = (H - L) * size := by
  have h3 : H * size ≤ n * size := Nat.mul_le_mul_right _ h2
  have h4 : L * size ≤ H * size := Nat.mul_le_mul_right _ h1
  rw [List.length_take, List.length_drop, h, Nat.sub_mul]
  omega
theorem Own.cut {e : TypeId} {size n cap L H : Nat} {a : Option Addr} {xs : List Value} (h : Own w e size (.slice a n cap) n xs) (h1 : L ≤ H) (h2 : H ≤ n) :
    Own w e size (sliced a L H cap size) (H - L) ((xs.drop (L * size)).take ((H - L) * size)) := by
  refine ⟨cut_len h.1 h1 h2, ?_⟩
  rcases h.2 with ⟨hv, h0⟩ | ⟨g, off, cap', cur, hv, hg, hn, hc, hsz, hcur⟩
  · simp only [Value.slice.injEq] at hv
    obtain ⟨rfl, _, rfl⟩ := hv
    obtain rfl : L = 0 := by omega
    exact .inl ⟨by simp [sliced]; omega, by omega⟩
  · simp only [Value.slice.injEq, true_and] at hv
    obtain ⟨rfl, rfl⟩ := hv
    right
    by_cases hcl : cap = L
    · subst hcl
      obtain rfl : H = cap := by omega
      refine ⟨g, off, 0, cur, by simp [sliced], hg, by omega, by omega, by omega, fun j u hu => ?_⟩
      simp at hu
    · refine ⟨g, off + L * size, cap - L, cur, by simp [sliced, hcl, Addr.add_lit], hg, by omega, by omega, ?_, fun j u hu => ?_⟩
      · have : L * size + (cap - L) * size = cap * size := by rw [← Nat.add_mul]; congr 1; omega
        omega
      · rw [Nat.add_assoc]; exact hcur _ u (cut_get hu)
theorem Rd.cut {size n cap L H : Nat} {a : Option Addr} {xs : List Value} (h : Rd w size (.slice a n cap) n xs) (h1 : L ≤ H) (h2 : H ≤ n) :
    Rd w size (sliced a L H cap size) (H - L) ((xs.drop (L * size)).take ((H - L) * size)) := by
  obtain ⟨hl, ao, cap', hv, hn, hc, h0, hr⟩ := h
  simp only [Value.slice.injEq, true_and] at hv
  obtain ⟨rfl, rfl⟩ := hv
  refine ⟨cut_len hl h1 h2, _, _, rfl, by omega, by omega, ?_, ?_⟩
  · split
    · intro; omega
    · intro h; cases a with
      | none => have := h0 rfl; omega
      | some x => simp at h
  · by_cases hcl : cap = L
    · left; omega
    · rcases hr with hr | ⟨b, off, rfl, hr⟩
      · left; omega
      · right
        refine ⟨b, off + L * size, by rw [if_neg hcl]; simp [Addr.add_lit], fun j u hu => ?_⟩
        rw [Nat.add_assoc]; exact hr _ u (cut_get hu)
theorem cut_block (a : Option Addr) (L H cap size : Nat) (n : Nat) : Value.ownBlock (sliced a L H cap size) = Value.ownBlock (.slice a n cap) := by
  unfold sliced
  split
  · cases a <;> rfl
  · cases a with
    | none => rfl
    | some x => simp only [Option.map_some, Value.ownBlock, Addr.add]; split <;> rfl
theorem wp_cut_own {o : Oper} {ac : Act} {K : Act → World → Prop} {Q : Exit → Act → World → Prop} (t : TypeId) (x : Operand) (lo hh : Option Operand)
    (ho : o.op = .slice t x lo hh none) (e : TypeId) (i : TypeInfo) (size : Nat) (ht : P.underlying t = some (.slice e)) (hi : P.info? e = some i) (hs : i.size = size)
    (a : Option Addr) (n cap L H : Nat) (xs : List Value) (hx : ac.eval x = .slice a n cap) (hown : Own w e size (.slice a n cap) n xs)
    (hlo : Bnd (lo.map ac.eval) 0 L) (hhi : Bnd (hh.map ac.eval) n H) (h1 : L ≤ H) (h2 : H ≤ n)
    (h : ∀ a', Own w e size (.slice a' (H - L) (cap - L)) (H - L) ((xs.drop (L * size)).take ((H - L) * size)) → Value.ownBlock (.slice a' (H - L) (cap - L)) = Value.ownBlock (.slice a n cap) →
      K (ac.put o.dst (.slice a' (H - L) (cap - L))) w) : o.wp P ac w K Q := by
  obtain ⟨ao, cap', hv, hn, hc⟩ := hown.form
  simp only [Value.slice.injEq, true_and] at hv
  obtain ⟨rfl, rfl⟩ := hv
  have hr := run_cut (P := P) (w := w) t e i size ht hi hs a n cap L H _ _ hlo hhi h1 (by omega)
  have h3 := h (if cap = L then a else a.map fun (x : Addr) => x.add (L * size)) (hown.cut h1 h2) (cut_block a L H cap size n)
  unfold Oper.wp execOp
  simp only [ho, hx, Sem.run_bind, Sem.run_pure, Option.map_none, hr, Result.andThen_ok]
  exact h3
theorem wpList_cut_own {ops : Array Oper} {rest : List Oper} {o : Oper} {ac : Act} {Q : Exit → Act → World → Prop} (hgd : o.guard = none) (t : TypeId) (x : Operand) (lo hh : Option Operand)
    (ho : o.op = .slice t x lo hh none) (e : TypeId) (i : TypeInfo) (size : Nat) (ht : P.underlying t = some (.slice e)) (hi : P.info? e = some i) (hs : i.size = size)
    (a : Option Addr) (n cap L H : Nat) (xs : List Value) (hx : ac.eval x = .slice a n cap) (hown : Own w e size (.slice a n cap) n xs)
    (hlo : Bnd (lo.map ac.eval) 0 L) (hhi : Bnd (hh.map ac.eval) n H) (h1 : L ≤ H) (h2 : H ≤ n)
    (h : ∀ a', Own w e size (.slice a' (H - L) (cap - L)) (H - L) ((xs.drop (L * size)).take ((H - L) * size)) → Value.ownBlock (.slice a' (H - L) (cap - L)) = Value.ownBlock (.slice a n cap) →
      wpList P ops Q rest (ac.put o.dst (.slice a' (H - L) (cap - L))) w) : wpList P ops Q (o :: rest) ac w :=
  wpList_plain hgd fun _ hK => wp_cut_own t x lo hh ho e i size ht hi hs a n cap L H xs hx hown hlo hhi h1 h2 fun a' p q => hK _ _ (h a' p q)
theorem wp_cut_rd {o : Oper} {ac : Act} {K : Act → World → Prop} {Q : Exit → Act → World → Prop} (t : TypeId) (x : Operand) (lo hh : Option Operand)
    (ho : o.op = .slice t x lo hh none) (e : TypeId) (i : TypeInfo) (size : Nat) (ht : P.underlying t = some (.slice e)) (hi : P.info? e = some i) (hs : i.size = size)
    (a : Option Addr) (n cap L H : Nat) (xs : List Value) (hx : ac.eval x = .slice a n cap) (hrd : Rd w size (.slice a n cap) n xs)
    (hlo : Bnd (lo.map ac.eval) 0 L) (hhi : Bnd (hh.map ac.eval) n H) (h1 : L ≤ H) (h2 : H ≤ n)
    (h : ∀ a', Rd w size (.slice a' (H - L) (cap - L)) (H - L) ((xs.drop (L * size)).take ((H - L) * size)) → Value.ownBlock (.slice a' (H - L) (cap - L)) = Value.ownBlock (.slice a n cap) →
      K (ac.put o.dst (.slice a' (H - L) (cap - L))) w) : o.wp P ac w K Q := by
  have hn : n ≤ cap := by
    obtain ⟨_, ao, cap', hv, hn, _⟩ := hrd
    simp only [Value.slice.injEq, true_and] at hv
    obtain ⟨rfl, rfl⟩ := hv
    exact hn
  have hr := run_cut (P := P) (w := w) t e i size ht hi hs a n cap L H _ _ hlo hhi h1 (by omega)
  have h3 := h (if cap = L then a else a.map fun (x : Addr) => x.add (L * size)) (hrd.cut h1 h2) (cut_block a L H cap size n)
  unfold Oper.wp execOp
  simp only [ho, hx, Sem.run_bind, Sem.run_pure, Option.map_none, hr, Result.andThen_ok]
  exact h3
theorem wpList_cut_rd {ops : Array Oper} {rest : List Oper} {o : Oper} {ac : Act} {Q : Exit → Act → World → Prop} (hgd : o.guard = none) (t : TypeId) (x : Operand) (lo hh : Option Operand)
    (ho : o.op = .slice t x lo hh none) (e : TypeId) (i : TypeInfo) (size : Nat) (ht : P.underlying t = some (.slice e)) (hi : P.info? e = some i) (hs : i.size = size)
    (a : Option Addr) (n cap L H : Nat) (xs : List Value) (hx : ac.eval x = .slice a n cap) (hrd : Rd w size (.slice a n cap) n xs)
    (hlo : Bnd (lo.map ac.eval) 0 L) (hhi : Bnd (hh.map ac.eval) n H) (h1 : L ≤ H) (h2 : H ≤ n)
    (h : ∀ a', Rd w size (.slice a' (H - L) (cap - L)) (H - L) ((xs.drop (L * size)).take ((H - L) * size)) → Value.ownBlock (.slice a' (H - L) (cap - L)) = Value.ownBlock (.slice a n cap) →
      wpList P ops Q rest (ac.put o.dst (.slice a' (H - L) (cap - L))) w) : wpList P ops Q (o :: rest) ac w :=
  wpList_plain hgd fun _ hK => wp_cut_rd t x lo hh ho e i size ht hi hs a n cap L H xs hx hrd hlo hhi h1 h2 fun a' p q => hK _ _ (h a' p q)
end
theorem Rd.form {w : World} {size : Nat} {v : Value} {n : Nat} {xs : List Value} (h : Rd w size v n xs) : ∃ ao cap, v = .slice ao n cap ∧ n ≤ cap ∧ cap ≤ maxLen := by
  obtain ⟨_, ao, cap, hv, hn, hc, _⟩ := h
  exact ⟨ao, cap, hv, hn, hc⟩
theorem Rd.spot {w : World} {size : Nat} {ao : Option Addr} {cap n : Nat} {xs : List Value} (h : Rd w size (.slice ao n cap) n xs) (hn : 0 < n) :
    ∃ b off, ao = some ⟨b, off, none⟩ ∧ ∀ j u, xs[j]? = some u → w.cell? ⟨b, off + j, none⟩ = some u := by
  obtain ⟨_, ao', cap', hv, _, _, _, h0 | h0⟩ := h
  · omega
  · simp only [Value.slice.injEq, true_and] at hv
    obtain ⟨rfl, rfl⟩ := hv
    exact h0
theorem Mod.toBelow {w w' : World} (h : Mod w w' (fun _ => False)) : Below w.heap.size w w' := h.below (Nat.le_refl _) (fun _ _ h => h)
/-! ### append of one element, which the call has just laid in a block of its own -/
theorem wpList_app1 {P : Program} {wr : World} {x : Value} {ops : Array Oper} {rest : List Oper} {o : Oper} {a : Act} {Q : Exit → Act → World → Prop} (hgd : o.guard = none) (s y : Operand) (t : TypeId)
    (ho : o.op = .call { callee := .builtin .append, args := #[s, y], argTypes := #[t, t] })
    (e : TypeId) (i : TypeInfo) (z : Value) (bytes : Nat) (ht : P.underlying t = some (.slice e)) (hi : P.info? e = some i) (hz : i.zero = some z)
    (hsize : i.size = 1) (hby : i.bytes = bytes) (hzs : z.cells.size = 1)
    (v : Value) (n : Nat) (xs : List Value) (hs : a.eval s = v) (hown : Own wr e 1 v n xs)
    (hx : a.eval y = .slice (some ⟨wr.heap.size, 0, none⟩) 1 1) (h1 : x.oneCell' = true)
    (h63 : n + 1 ≤ maxLen) (hbytes : (n + 1) * bytes ≤ 140737488355328)
    (h : ∀ ao cap w', Own w' e 1 (.slice ao (n + 1) cap) (n + 1) (xs ++ [x]) → (wr.alloc (.cells #[x] e)).grownBy w' v.ownBlock →
      (Value.ownBlock (.slice ao (n + 1) cap) = v.ownBlock ∨ Value.ownBlock (.slice ao (n + 1) cap) = some (wr.alloc (.cells #[x] e)).heap.size) → wpList P ops Q rest (a.put o.dst (.slice ao (n + 1) cap)) w') : wpList P ops Q (o :: rest) a (wr.alloc (.cells #[x] e)) :=
  wpList_app _ hgd s y t ho e i z 1 bytes ht hi hz hsize hby hzs (by decide) v n xs hs (hown.alloc _) _ 1 [x] hx (Rd.lit wr [x] e 1 1 (by decide) rfl) (by simpa using h1) h63 hbytes h
end Go.Proofs.YtbkbkmgogbgofaaDoor
