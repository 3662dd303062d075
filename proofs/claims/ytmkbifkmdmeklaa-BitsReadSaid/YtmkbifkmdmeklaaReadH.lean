/-
  What the walk of the law BitsRead needs beside the contracts: an own slice's cells, cuts, the bits of bytes.
-/
import Derived.Test.YtmkbifkmdmeklaaBitsH2
import Derived.Test.YtmkbifkmdmeklaaActs
import Derived.BigFrame
namespace Go.Proofs.Ytmkbifkmdmeklaa
open Go.RowKit

theorem isBits_of_held {w0 w : World} {B : Nat} {l : List Nat} {Rs : List Thing} (h : Held w0 w (rdrT B l :: Rs)) : isBits l := by
  obtain ⟨d, hR, _, _⟩ := h.rr
  exact hR.isBits
theorem h_number {w0 w : World} {Rs : List Thing} (h : Held w0 w Rs) (v : Value) (n q : Nat) (xs : List Value) (l : List Nat) (hv : Rd w 1 v n xs) (hx : xs = u8s l) (hb : isBits l) (hl : n ≤ 60) (hq : q = numOf l) :
    Calls Try.prog 24 #[v] w fun e w' => e = .returned (.int .i64 (q : Int)) ∧ Held w0 w' Rs :=
  (number_of v n q xs l w hv hx hb hl hq).mono fun _ _ ⟨h1, h2⟩ => ⟨h1, h2 ▸ h⟩
/-- an element of an own slice is stored to -/
theorem Held.setOwn {w0 w : World} {e : TypeId} {n cap g off : Nat} {xs : List Value} {Rs : List Thing} (h : Held w0 w (ownT e 1 (.slice (some ⟨g, off, none⟩) n cap) n xs :: Rs)) (i : Nat) (hi : i < n) (u : Value) :
    Held w0 (w.setCell ⟨g, off + i, none⟩ u) (ownT e 1 (.slice (some ⟨g, off, none⟩) n cap) n (xs.set i u) :: Rs) := by
  obtain ⟨F, h1, h2, back⟩ := h.take
  have hF : F g := (h1.2 g).2 rfl
  refine back _ _ F ⟨?_, h1.2⟩ ((Mod.refl w F).setCell (p := ⟨g, off + i, none⟩) (.inr hF) u) (fun k hk => .inl hk) (fun k hk => by simpa [World.setCell] using (h2 k hk).2)
  obtain ⟨hl, h3 | ⟨g', off', cap', cur, hv, hg, hn, hc, hs, ht⟩⟩ := h1.1
  · cases h3.1
  · simp only [Value.slice.injEq, Option.some.injEq, Addr.mk.injEq, and_true, true_and] at hv
    obtain ⟨⟨rfl, rfl⟩, rfl⟩ := hv
    refine ⟨by rw [List.length_set]; exact hl, .inr ⟨g, off, cap, cur.setIfInBounds (off + i) u, rfl, ?_, hn, hc, by simpa using hs, fun j v hj => ?_⟩⟩
    · exact heap_setCell_same w g (off + i) cur e u hg
    · rw [List.getElem?_set] at hj
      by_cases hij : i = j
      · subst hij
        rw [if_pos rfl] at hj
        have hil : i < xs.length := by rw [hl]; omega
        rw [if_pos hil] at hj
        cases hj
        rw [Array.getElem?_setIfInBounds, if_pos rfl, if_pos (by omega)]
      · rw [if_neg hij] at hj
        rw [Array.getElem?_setIfInBounds, if_neg (by omega)]
        exact ht j v hj
theorem Own.spot {w : World} {e : TypeId} {n cap : Nat} {ao : Option Addr} {xs : List Value} (h : Own w e 1 (.slice ao n cap) n xs) (hn : 0 < n) :
    ∃ g off, ao = some ⟨g, off, none⟩ ∧ (∀ j u, xs[j]? = some u → w.cell? ⟨g, off + j, none⟩ = some u) ∧ ∀ j, w.frozen? ⟨g, off + j, none⟩ = false := by
  obtain ⟨hl, h3 | ⟨g, off, cap', cur, hv, hg, _, _, _, ht⟩⟩ := h
  · omega
  · simp only [Value.slice.injEq, true_and] at hv
    obtain ⟨rfl, rfl⟩ := hv
    exact ⟨g, off, rfl, fun j u hj => by rw [cell_of_row w g _ cur e (0, 0) hg]; exact ht j u hj, fun j => frozen_of_row w g _ cur e hg⟩
theorem wpList_take_rd {P : Program} {w : World} {ops : Array Oper} {rest : List Oper} {o : Oper} {ac : Act} {Q : Exit → Act → World → Prop} (hw : Region.wanted o (yielded ops ac.tmps) = true) (t : TypeId) (x hh : Operand)
    (ho : o.op = .slice t x none (some hh) none) (e : TypeId) (i : TypeInfo) (ht : P.underlying t = some (.slice e)) (hi : P.info? e = some i) (hs : i.size = 1)
    (a : Option Addr) (n cap H : Nat) (l : List Nat) (hx : ac.eval x = .slice a n cap) (hrd : Rd w 1 (.slice a n cap) n (u8s l))
    (hhi : Bnd (some (ac.eval hh)) n H) (h2 : H ≤ n)
    (h : ∀ a', Rd w 1 (.slice a' H cap) H (u8s (l.take H)) → wpList P ops Q rest (ac.put o.dst (.slice a' H cap)) w) : wpList P ops Q (o :: rest) ac w :=
  Go.BigFrame.wpList_want hw fun _ hK => wp_cut_rd t x none (some hh) ho e i 1 ht hi hs a n cap 0 H (u8s l) hx hrd rfl hhi (Nat.zero_le _) h2 fun a' p _ => hK _ _ (h a' (by
    have h1 : ((u8s l).drop (0 * 1)).take ((H - 0) * 1) = u8s (l.take H) := by simp [u8s, List.map_take]
    rw [h1] at p
    exact p))
theorem wpList_drop_own {P : Program} {w : World} {ops : Array Oper} {rest : List Oper} {o : Oper} {ac : Act} {Q : Exit → Act → World → Prop} (hgd : o.guard = none) (t : TypeId) (x lo : Operand)
    (ho : o.op = .slice t x (some lo) none none) (e : TypeId) (i : TypeInfo) (ht : P.underlying t = some (.slice e)) (hi : P.info? e = some i) (hs : i.size = 1)
    (a : Option Addr) (n cap L M : Nat) (l : List Nat) (hx : ac.eval x = .slice a n cap) (hown : Own w e 1 (.slice a n cap) n (u8s l)) (hl : n = l.length) (hM : M = n - L)
    (hlo : Bnd (some (ac.eval lo)) 0 L) (h1 : L ≤ n)
    (h : ∀ a', Own w e 1 (.slice a' M (cap - L)) M (u8s (l.drop L)) → Value.ownBlock (.slice a' M (cap - L)) = Value.ownBlock (.slice a n cap) →
      wpList P ops Q rest (ac.put o.dst (.slice a' M (cap - L))) w) : wpList P ops Q (o :: rest) ac w := by
  subst hM
  exact wpList_cut_own hgd t x (some lo) none ho e i 1 ht hi hs a n cap L n (u8s l) hx hown hlo rfl h1 (Nat.le_refl _) fun a' p q => h a' (by
    have h2 : ((u8s l).drop (L * 1)).take ((n - L) * 1) = u8s (l.drop L) := by
      rw [Nat.mul_one, Nat.mul_one, List.take_of_length_le (by rw [List.length_drop, u8s_length, hl]; exact Nat.le_refl _)]; simp [u8s]
    rw [h2] at p
    exact p) q
theorem bytesOf_take (l : List Nat) (k : Nat) (h : 8 * k ≤ l.length) : bytesOf (l.take (8 * k)) = (bytesOf l).take k := by
  have hk : (l.take (8 * k)).length = 8 * k := by rw [List.length_take]; omega
  apply List.ext_getElem?
  intro i
  by_cases hi : i < k
  · rw [bytesOf_get _ i (by rw [hk]; omega), List.getElem?_take, if_pos hi, bytesOf_get _ i (by omega)]
    congr 2
    rw [List.drop_take, List.take_take]
    congr 1
    omega
  · rw [List.getElem?_eq_none (by rw [bytesOf_length, hk]; omega), List.getElem?_eq_none (by rw [List.length_take]; omega)]
theorem u8s_set (l : List Nat) (i b : Nat) : u8s (l.set i b) = (u8s l).set i (.int .u8 (b : Int)) := by simp [u8s, List.map_set]

theorem h_bytes_n {w0 w : World} {Rs : List Thing} (h : Held w0 w Rs) (v : Value) (l : List Nat) (n k : Nat) (hn : n = l.length) (hk : k = (bytesOf l).length) (hv : Rd w 1 v n (u8s l)) (hb : isBits l) (hl : l.length < 8000000000) :
    Calls Try.prog 18 #[v] w fun e w' => ∃ v', e = .returned v' ∧ Held w0 w' (ownT 5 1 v' k (u8s (bytesOf l)) :: Rs) := by
  subst hn hk
  exact h_bytes h v l hv hb hl
theorem bnd_zero {k : IntKind} {d n : Nat} (h : n = 0) : Bnd (some (.int k 0)) d n := ⟨k, by rw [h]; rfl⟩
end Go.Proofs.Ytmkbifkmdmeklaa
