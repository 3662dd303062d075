/-
  The reference's Read and Bits.
-/
import Derived.Test.YthibpnkdhbkakaaDoorMd08
import Derived.Test.YthibpnkdhbkakaaDoorMd05
import Derived.Test.YthibpnkdhbkakaaDoorMd02
import Derived.Test.YthibpnkdhbkakaaDoorMd06
import Derived.Test.YthibpnkdhbkakaaDoorMd03
import Derived.StillTailTactics
import Derived.Deep.DeepMust
import Derived.Deep.RegionHeld3
import Derived.Test.YthibpnkdhbkakaaDoorMd07
namespace Go.Proofs.YthibpnkdhbkakaaDoor
set_option maxRecDepth 5000
open Go.RowKit

theorem lng_snoc (l : List Int) (a : Int) : lng (l ++ [a]) = max (lng l) a.toNat := by
  induction l with
  | nil => simp [lng]
  | cons b l ih =>
    show max b.toNat (lng (l ++ [a])) = max (max b.toNat (lng l)) a.toNat
    rw [ih]; omega
theorem infoC16 : (Tryd.prog.info? 91).map (·.zero) = some (some (arrV .i64 (cnts []))) := by kernel_rfl
theorem count_lt (l : List Int) (i n : Nat) (h : l[i]? = some (n : Int)) : (l.take i).count (n : Int) < l.count (n : Int) := by
  have h1 := count_take_succ l i (n : Int) (n : Int) h
  have h2 := count_take_le l (i + 1) (n : Int)
  rw [if_pos rfl] at h1; omega
theorem shr_rem (c k : Nat) : c / 2 ^ k % 2 ≤ 1 := by have := Nat.mod_lt (c / 2 ^ k) (show 0 < 2 by decide); omega
end Go.Proofs.YthibpnkdhbkakaaDoor
/-
  Things side by side, as many as a list names, as one thing; one of them taken out and put back. No program is named here.
-/
namespace Go.Proofs.YthibpnkdhbkakaaDoor
set_option maxRecDepth 5000
open Go.RowKit

def noT : Thing where
  res := fun _ F => ∀ k, ¬ F k
  loc := fun _ _ _ _ h _ _ => h
def allT : List Thing → Thing
  | [] => noT
  | R :: L => andT R (allT L)
section
variable {w0 w : World}
theorem Held.noT {Rs : List Thing} (h : Held w0 w Rs) : Held w0 w (noT :: Rs) := h.push _ (fun _ => False) (fun _ h => h) (Mod.refl w _) (fun _ h => h.elim)
theorem Held.all : ∀ {L Rs : List Thing}, Held w0 w (L ++ Rs) → Held w0 w (allT L :: Rs)
  | [], _, h => h.noT
  | R :: L, Rs, h => by
    have h1 : Held w0 w (L ++ R :: Rs) := h.perm List.perm_middle.symm
    exact (Held.all h1).swap.pair
theorem Held.unall : ∀ {L Rs : List Thing}, Held w0 w (allT L :: Rs) → Held w0 w (L ++ Rs)
  | [], _, h => h.drop
  | R :: L, Rs, h => by
    have h1 : Held w0 w (L ++ R :: Rs) := Held.unall (Held.unpair h).swap
    exact h1.perm List.perm_middle
theorem allT_perm {L L' Rs : List Thing} (h : Held w0 w (allT L :: Rs)) (hp : L.Perm L') : Held w0 w (allT L' :: Rs) :=
  Held.all (h.unall.perm (hp.append_right Rs))
theorem eraseIdx_perm {R : Thing} : ∀ (L : List Thing) (i : Nat), L[i]? = some R → (R :: L.eraseIdx i).Perm L
  | [], i, h => by simp at h
  | a :: L, 0, h => by
    simp only [List.getElem?_cons_zero, Option.some.injEq] at h
    subst h; exact List.Perm.refl _
  | a :: L, i + 1, h => by
    have ih := eraseIdx_perm L i (by simpa using h)
    exact (List.Perm.swap a R _).trans (List.Perm.cons a ih)
theorem Held.allOut {L Rs : List Thing} {i : Nat} {R : Thing} (h : Held w0 w (allT L :: Rs)) (hi : L[i]? = some R) : Held w0 w (R :: allT (L.eraseIdx i) :: Rs) := by
  exact Held.unpair (allT_perm (L' := R :: L.eraseIdx i) h (eraseIdx_perm L i hi).symm)
theorem Held.allBack {L Rs : List Thing} {i : Nat} {R : Thing} (h : Held w0 w (R :: allT (L.eraseIdx i) :: Rs)) (hi : i < L.length) : Held w0 w (allT (L.set i R) :: Rs) := by
  have h1 : Held w0 w (allT (R :: L.eraseIdx i) :: Rs) := h.pair
  have h2 := eraseIdx_perm (L.set i R) i (List.getElem?_set_self hi)
  rw [List.eraseIdx_set_eq] at h2
  exact allT_perm h1 h2
/-- What was made since a world, beside what was held there. -/
theorem HeldU.frame {w w' : World} {Rs : List Thing} (h : Held w0 w Rs) : ∀ {Ts : List Thing} {U V : Nat → Prop}, HeldU w w' U Ts → (∀ k, V k → U k) → (∀ k, V k → w.heap.size ≤ k) → HeldU w0 w' V (Ts ++ Rs)
  | [], _, _, hm, _, hw => by
    have hM : Mod w w' (fun _ => False) := hm
    exact (HeldU.more h (fun k hk => .inr (hw k hk))).step hM (fun _ h => h.elim) (fun _ h => h.elim)
  | _ :: _, _, _, ⟨F, h1, h2, h3⟩, hv, hw =>
    ⟨F, h1, fun k hk => ⟨Nat.le_trans h.mod.size (h2 k hk).1, (h2 k hk).2.1, fun hV => (h2 k hk).2.2 (hv k hV)⟩,
      HeldU.frame h h3 (fun k hk => hk.imp (hv k) id) (fun k hk => hk.elim (hw k) fun hf => (h2 k hf).1)⟩
theorem Held.frame {w w' : World} {Rs Ts : List Thing} (h : Held w0 w Rs) (h2 : Held w w' Ts) : Held w0 w' (Ts ++ Rs) := HeldU.frame h h2 (fun _ h => h) (fun _ h => h.elim)
/-- something new at an address that is told by a number -/
theorem Held.litN {w : World} {Rs : List Thing} (h : Held w0 w Rs) (e : TypeId) (size : Nat) (cs : List Value) (n : Nat) (hm : n ≤ maxLen) (hs : cs.length = n * size) (N : Nat) (hN : w.heap.size = N) :
    Held w0 (w.alloc (.cells cs.toArray e)) (ownT e size (.slice (some ⟨N, 0, none⟩) n n) n cs :: Rs) := by
  subst hN
  exact h.lit e size cs n hm hs
end
end Go.Proofs.YthibpnkdhbkakaaDoor
/-
  The reference's Expand.
-/
namespace Go.Proofs.YthibpnkdhbkakaaDoor
set_option maxRecDepth 5000
open Go.RowKit

theorem infoByte8r : (Tryd.prog.info? 5).map (fun i => (i.zero, i.size, i.bytes)) = some (some (.int .u8 0), 1, 1) := by kernel_rfl
end Go.Proofs.YthibpnkdhbkakaaDoor
/-
  The reference's stream in memory; its take, emit.
-/
namespace Go.Proofs.YthibpnkdhbkakaaDoor
set_option maxRecDepth 5000
open Go.RowKit

/-- A slice that is read alone, in blocks of the call's own. -/
def rdT (size : Nat) (v : Value) (n : Nat) (xs : List Value) : Thing where
  res := fun w F => Rd w size v n xs ∧ ∀ k, v.ownBlock = some k → F k
  loc := fun _ _ _ _ h hm hS => ⟨h.1.kept hm (fun k hk => hS k (h.2 k hk)), h.2⟩
/-- two of them, which may share their memory -/
def rd2T (size : Nat) (v : Value) (n : Nat) (xs : List Value) (v2 : Value) (n2 : Nat) (xs2 : List Value) : Thing where
  res := fun w F => (Rd w size v n xs ∧ ∀ k, v.ownBlock = some k → F k) ∧ (Rd w size v2 n2 xs2 ∧ ∀ k, v2.ownBlock = some k → F k)
  loc := fun _ _ _ _ h hm hS => ⟨⟨h.1.1.kept hm (fun k hk => hS k (h.1.2 k hk)), h.1.2⟩, ⟨h.2.1.kept hm (fun k hk => hS k (h.2.2 k hk)), h.2.2⟩⟩
section
variable {w0 w : World} {Rs : List Thing}
theorem Held.rdv {size n : Nat} {v : Value} {xs : List Value} (h : Held w0 w (rdT size v n xs :: Rs)) : Rd w size v n xs := by
  obtain ⟨F, h1, _⟩ := h
  exact h1.1
theorem Held.rdv2 {size n n2 : Nat} {v v2 : Value} {xs xs2 : List Value} (h : Held w0 w (rd2T size v n xs v2 n2 xs2 :: Rs)) : Rd w size v n xs ∧ Rd w size v2 n2 xs2 := by
  obtain ⟨F, h1, _⟩ := h
  exact ⟨h1.1.1, h1.2.1⟩
theorem Held.toRd {e : TypeId} {size n : Nat} {v : Value} {xs : List Value} (h : Held w0 w (ownT e size v n xs :: Rs)) : Held w0 w (rdT size v n xs :: Rs) := by
  obtain ⟨F, h1, h2⟩ := h
  exact ⟨F, ⟨h1.1.rd, fun k hk => (h1.2 k).2 hk⟩, h2⟩
def ptrV (B : Nat) : Value := .pointer (some ⟨B, 0, none⟩)
theorem infoByte10 : (Tryd.prog.info? 5).map (fun i => (i.zero, i.size, i.bytes)) = some (some (.int .u8 0), 1, 1) := by kernel_rfl
theorem take_some {bs : List Nat} {a n v : Nat} (h : takeM bs a n = some v) : a + n ≤ bs.length ∧ v = numOf ((bs.drop a).take n) := by
  unfold takeM at h
  split at h
  · rename_i hc
    simp only [Option.some.injEq] at h
    exact ⟨hc, h.symm⟩
  · cases h
theorem take_none {bs : List Nat} {a n : Nat} (h : takeM bs a n = none) : bs.length < a + n := by
  unfold takeM at h
  split at h
  · cases h
  · omega
theorem front_run10 (xo : Option Addr) (m xc a e : Nat) (h1 : a ≤ e) (h2 : e ≤ m) (h3 : m ≤ xc) (wg : World) :
    (Instr.sliceAt 30 (.slice xo m xc) (some (.int .i64 (a : Int))) (some (.int .i64 (e : Int))) none).run Tryd.prog wg = .ok (sliced xo a e xc 1) wg := by
  obtain ⟨i, hi, hz0, hz1, hz2⟩ := info_parts infoByte10
  exact run_cut (P := Tryd.prog) (w := wg) 30 5 i 1 Tryd.underlying30 hi hz1 xo m xc a e (some (.int .i64 (a : Int))) (some (.int .i64 (e : Int))) ⟨_, rfl⟩ ⟨_, rfl⟩ h1 (by omega)
end
end Go.Proofs.YthibpnkdhbkakaaDoor
/-
  The reference's stream: symbol, fixed.
-/
namespace Go.Proofs.YthibpnkdhbkakaaDoor
set_option maxRecDepth 5000
open Go.RowKit

section
variable {w0 w : World} {Rs : List Thing}
/-- the fixed codes' lengths -/
def fixAt (i : Nat) : Int := if 144 ≤ i ∧ i < 256 then 9 else if 256 ≤ i ∧ i < 280 then 7 else 8
def fixLit : List Int := (List.range 288).map fixAt
def fixDist : List Int := List.replicate 32 5
theorem fix_snoc (i : Nat) : (List.range (i + 1)).map fixAt = (List.range i).map fixAt ++ [fixAt i] := by rw [List.range_succ, List.map_append]; rfl
theorem infoInt10 : (Tryd.prog.info? 3).map (fun i => (i.zero, i.size, i.bytes)) = some (some (.int .i64 0), 1, 8) := by kernel_rfl
theorem Held.toRd2 {e e2 : TypeId} {size n n2 : Nat} {v v2 : Value} {xs xs2 : List Value} (h : Held w0 w (ownT e size v n xs :: ownT e2 size v2 n2 xs2 :: Rs)) : Held w0 w (rd2T size v n xs v2 n2 xs2 :: Rs) := by
  obtain ⟨F, ⟨F1, F2, h1, h2, _, hF⟩, h3⟩ := h.pair
  exact ⟨F, ⟨⟨h1.1.rd, fun k hk => (hF k).2 (.inl ((h1.2 k).2 hk))⟩, ⟨h2.1.rd, fun k hk => (hF k).2 (.inr ((h2.2 k).2 hk))⟩⟩, h3⟩
end
end Go.Proofs.YthibpnkdhbkakaaDoor
/-
  The reference's stream: stored.
-/
namespace Go.Proofs.YthibpnkdhbkakaaDoor
set_option maxRecDepth 5000
open Go.RowKit

section
variable {w0 w : World} {Rs : List Thing}
theorem num16_lt {all : List Nat} (hb : isBits all) (a n : Nat) : numOf ((all.drop a).take n) < 2 ^ n := by
  refine Nat.lt_of_lt_of_le (numOf_lt _ (isBits_take (isBits_drop hb a) n)) (Nat.pow_le_pow_right (by decide) (List.length_take_le _ _))
theorem take_at {all : List Nat} {a n : Nat} (h : a + n ≤ all.length) : takeM all a n = some (numOf ((all.drop a).take n)) := if_pos h
theorem take_past {all : List Nat} {a n : Nat} (h : all.length < a + n) : takeM all a n = none := if_neg (by omega)
end
end Go.Proofs.YthibpnkdhbkakaaDoor
/-
  The reference's codes of lengths and distances.
-/
namespace Go.Proofs.YthibpnkdhbkakaaDoor
set_option maxRecDepth 5000
open Go.RowKit

theorem lX_form (k : Nat) (hk : k < 28) : (k < 8 ∧ lX k = 0) ∨ (8 ≤ k ∧ lX k = (k - 4) / 4) := by
  unfold lX sx
  rw [if_neg (by omega)]
  by_cases h : k < 4
  · rw [if_pos h]; omega
  · rw [if_neg h]; omega
theorem dX_form (k : Nat) (hk : k < 30) : (k < 4 ∧ dX k = 0) ∨ (4 ≤ k ∧ dX k = (k - 2) / 2) := by
  unfold dX sx
  by_cases h : k < 2
  · rw [if_pos h]; omega
  · rw [if_neg h]; omega
theorem lB_sum : ∀ k, k < 28 → lB k + 2 ^ lX k ≤ 1000 := by decide +kernel
theorem dB_sum : ∀ k, k < 30 → dB k + 2 ^ dX k ≤ 100000 := by decide +kernel
theorem lens_at' (q k : Nat) (hq : q = 257 + k) (hk : k < 29) : lensOf (q : Int) = .tuple #[.int .i64 ((lB k : Nat) : Int), .int .i64 ((lX k : Nat) : Int), .bool true] := by subst hq; exact lens_at k hk
theorem dists_at' (q k : Nat) (hq : q = 0 + k) (hk : k < 30) : distsOf (q : Int) = .tuple #[.int .i64 ((dB k : Nat) : Int), .int .i64 ((dX k : Nat) : Int), .bool true] := by subst hq; rw [Nat.zero_add]; exact dists_at k hk
end Go.Proofs.YthibpnkdhbkakaaDoor
/-
  The reference's stream: a block's tokens.
-/
namespace Go.Proofs.YthibpnkdhbkakaaDoor
set_option maxRecDepth 5000
open Go.RowKit

section
variable {w0 w : World} {Rs : List Thing}
theorem Held.fifth {R1 R2 R3 R4 R5 : Thing} (h : Held w0 w (R1 :: R2 :: R3 :: R4 :: R5 :: Rs)) : Held w0 w (R5 :: R1 :: R2 :: R3 :: R4 :: Rs) := h.perm (List.perm_middle (l₁ := [R1, R2, R3, R4]))
theorem Held.seventh {R1 R2 R3 R4 R5 R6 R7 : Thing} (h : Held w0 w (R1 :: R2 :: R3 :: R4 :: R5 :: R6 :: R7 :: Rs)) : Held w0 w (R7 :: R1 :: R2 :: R3 :: R4 :: R5 :: R6 :: Rs) := h.perm (List.perm_middle (l₁ := [R1, R2, R3, R4, R5, R6]))
theorem Held.back5 {R1 R2 R3 R4 R5 : Thing} (h : Held w0 w (R5 :: R1 :: R2 :: R3 :: R4 :: Rs)) : Held w0 w (R1 :: R2 :: R3 :: R4 :: R5 :: Rs) := h.perm (List.perm_middle (l₁ := [R1, R2, R3, R4])).symm
theorem Held.back7 {R1 R2 R3 R4 R5 R6 R7 : Thing} (h : Held w0 w (R7 :: R1 :: R2 :: R3 :: R4 :: R5 :: R6 :: Rs)) : Held w0 w (R1 :: R2 :: R3 :: R4 :: R5 :: R6 :: R7 :: Rs) := h.perm (List.perm_middle (l₁ := [R1, R2, R3, R4, R5, R6])).symm
theorem infoTok10 : (Tryd.prog.info? 27).map (fun i => (i.zero, i.size, i.bytes)) = some (some (.agg #[.int .u8 0, .int .i64 0, .int .i64 0]), 3, 24) := by kernel_rfl
theorem sym_facts {l : List Int} {r : List Nat} {k n : Nat} (h : symF l r = (k, n, 0)) : k < l.length ∧ 1 ≤ n ∧ n ≤ r.length := by
  have hh := symF_hit (l := l) (r := r) (by rw [h])
  rw [h] at hh
  exact ⟨(List.getElem?_eq_some_iff.1 hh.1).1, hh.2.1, hh.2.2.1⟩
theorem lB_more : ∀ c, c < 29 → lB c + 2 ^ lX c ≤ 259 := by decide +kernel
theorem dB_more : ∀ c, c < 30 → dB c + 2 ^ dX c ≤ 32769 := by decide +kernel
end
end Go.Proofs.YthibpnkdhbkakaaDoor
/-
  The reference's stream, block by block: a model, and how far a block can grow what came out. No walk is in here.
-/
namespace Go.Proofs.YthibpnkdhbkakaaDoor
set_option maxRecDepth 5000

theorem farF_on {bs : List Nat} {M a q n : Nat} {out : List Nat} {tk : List Tok} {b : Bool} {X : Nat × Nat × List Nat × List Tok} (h : stepF.farF bs M a q n out tk = (b, X)) (hb : b = false) : X.1 = 0 := by
  subst hb
  unfold stepF.farF at h
  split at h
  · cases h
  · split at h
    · cases h
    · split at h
      · cases h
      · split at h
        · cases h
        · cases h; rfl
theorem matchF_on {dist : List Int} {bs : List Nat} {M a c : Nat} {out : List Nat} {tk : List Tok} {b : Bool} {X : Nat × Nat × List Nat × List Tok} (h : stepF.matchF dist bs M a c out tk = (b, X)) (hb : b = false) : X.1 = 0 := by
  unfold stepF.matchF at h
  split at h
  · cases h; cases hb
  · split at h
    · cases h; cases hb
    · exact farF_on h hb
theorem stepF_on {lit dist : List Int} {bs : List Nat} {M a : Nat} {out : List Nat} {tk : List Tok} {X : Nat × Nat × List Nat × List Tok} (h : stepF lit dist bs M a out tk = (false, X)) : X.1 = 0 := by
  unfold stepF at h
  split at h
  · cases h
  · split at h
    · cases h
    · split at h
      · split at h
        · cases h
        · cases h; rfl
      · split at h
        · cases h
        · exact matchF_on h rfl
theorem stepF_grow {lit dist : List Int} {bs : List Nat} {M a e a' : Nat} {out out' : List Nat} {tk tk' : List Tok} {b : Bool}
    (hb : isBits bs) (ha : a ≤ bs.length) (hM : out.length ≤ M) (h : stepF lit dist bs M a out tk = (b, e, a', out', tk')) (he : e = 0) :
    a < a' ∧ a' ≤ bs.length ∧ out'.length ≤ out.length + 258 * (a' - a) ∧ tk'.length ≤ tk.length + (a' - a) ∧ out'.length ≤ M := by
  subst he
  unfold stepF at h
  split at h
  · simp only [Prod.mk.injEq] at h
    omega
  · rename_i h0
    obtain ⟨k, n, e1, hs⟩ : ∃ k n e1, symF lit (bs.drop a) = (k, n, e1) := ⟨_, _, _, rfl⟩
    rw [hs] at h h0
    simp only [Decidable.not_not] at h h0
    subst h0
    obtain ⟨_, h1, h2⟩ := sym_facts hs
    rw [List.length_drop] at h2
    split at h
    · simp only [Prod.mk.injEq] at h
      obtain ⟨_, _, rfl, rfl, rfl⟩ := h
      omega
    · split at h
      · split at h
        · simp only [Prod.mk.injEq] at h
          omega
        · simp only [Prod.mk.injEq] at h
          obtain ⟨_, _, rfl, rfl, rfl⟩ := h
          simp only [List.length_append, List.length_cons, List.length_nil]
          omega
      · split at h
        · simp only [Prod.mk.injEq] at h
          omega
        · rename_i hk1 hk2 hk3
          unfold stepF.matchF at h
          split at h
          · simp only [Prod.mk.injEq] at h
            omega
          · rename_i more ht
            obtain ⟨h3, h4⟩ := take_some ht
            have hmore : more < 2 ^ lX (k - 257) := by rw [h4]; exact num16_lt hb _ _
            have hlb := lB_more (k - 257) (by omega)
            split at h
            · simp only [Prod.mk.injEq] at h
              omega
            · rename_i h5
              obtain ⟨q, n2, e2, hs2⟩ : ∃ q n2 e2, symF dist (bs.drop (a + n + lX (k - 257))) = (q, n2, e2) := ⟨_, _, _, rfl⟩
              rw [hs2] at h h5
              simp only [Decidable.not_not] at h h5
              subst h5
              obtain ⟨_, h6, h7⟩ := sym_facts hs2
              rw [List.length_drop] at h7
              unfold stepF.farF at h
              split at h
              · simp only [Prod.mk.injEq] at h
                omega
              · split at h
                · simp only [Prod.mk.injEq] at h
                  omega
                · rename_i far ht2
                  obtain ⟨h8, h9⟩ := take_some ht2
                  split at h
                  · simp only [Prod.mk.injEq] at h
                    omega
                  · split at h
                    · simp only [Prod.mk.injEq] at h
                      omega
                    · simp only [Prod.mk.injEq] at h
                      obtain ⟨_, _, rfl, rfl, rfl⟩ := h
                      rw [ext_length]
                      simp only [List.length_append, List.length_cons, List.length_nil]
                      omega
theorem tokF_grow {lit dist : List Int} {bs : List Nat} {M : Nat} (hb : isBits bs) : ∀ (f a : Nat) (out : List Nat) (tk : List Tok), a ≤ bs.length → out.length ≤ M → (tokF lit dist bs M f a out tk).1 = 0 →
    a ≤ (tokF lit dist bs M f a out tk).2.1 ∧ (tokF lit dist bs M f a out tk).2.1 ≤ bs.length ∧ (tokF lit dist bs M f a out tk).2.2.1.length ≤ out.length + 258 * ((tokF lit dist bs M f a out tk).2.1 - a) ∧ (tokF lit dist bs M f a out tk).2.2.2.length ≤ tk.length + ((tokF lit dist bs M f a out tk).2.1 - a) ∧ (tokF lit dist bs M f a out tk).2.2.1.length ≤ M
  | 0, a, out, tk, ha, hM, h => by
    rw [tokF] at h
    cases h
  | f + 1, a, out, tk, ha, hM, h => by
    obtain ⟨b, e, a', out', tk', hs⟩ : ∃ b e a' out' tk', stepF lit dist bs M a out tk = (b, e, a', out', tk') := ⟨_, _, _, _, _, rfl⟩
    cases b with
    | true =>
      rw [tokF_over hs] at h ⊢
      simp only at h ⊢
      obtain ⟨h1, h2, h3, h4, h5⟩ := stepF_grow hb ha hM hs h
      exact ⟨by omega, h2, h3, h4, h5⟩
    | false =>
      have he : e = 0 := stepF_on hs
      obtain ⟨h1, h2, h3, h4, h5⟩ := stepF_grow hb ha hM hs he
      rw [tokF_on hs] at h ⊢
      obtain ⟨k1, k2, k3, k4, k5⟩ := tokF_grow hb f a' out' tk' h2 h5 h
      exact ⟨by omega, k2, by omega, by omega, k5⟩
theorem copyF_grow {bs : List Nat} {M : Nat} : ∀ (n a : Nat) (out : List Nat), out.length ≤ M → a ≤ bs.length → (copyF bs M n a out).1 = 0 →
    (copyF bs M n a out).2.1 = a + 8 * n ∧ (copyF bs M n a out).2.1 ≤ bs.length ∧ (copyF bs M n a out).2.2.length = out.length + n ∧ (copyF bs M n a out).2.2.length ≤ M
  | 0, a, out, hM, ha, h => ⟨by rw [copyF]; simp, by rw [copyF]; exact ha, by rw [copyF]; simp, by rw [copyF]; exact hM⟩
  | n + 1, a, out, hM, ha, h => by
    cases ht : takeM bs a 8 with
    | none => rw [copyF, ht] at h; simp at h
    | some c =>
      have h1 := (take_some ht).1
      by_cases hm : M ≤ out.length
      · rw [copyF, ht] at h
        simp only [if_pos hm] at h
        cases h
      · have hx : copyF bs M (n + 1) a out = copyF bs M n (a + 8) (out ++ [c]) := by
          rw [copyF, ht]
          simp only [if_neg hm]
        rw [hx] at h ⊢
        obtain ⟨k1, k2, k3, k4⟩ := copyF_grow n (a + 8) (out ++ [c]) (by simp; omega) h1 h
        simp only [List.length_append, List.length_cons, List.length_nil] at k3
        exact ⟨by omega, k2, by omega, k4⟩
theorem storedF_grow {bs : List Nat} {M a : Nat} {out : List Nat} (hM : out.length ≤ M) (h : (storedF bs M a out).1 = 0) :
    a ≤ (storedF bs M a out).2.1 ∧ (storedF bs M a out).2.1 ≤ bs.length ∧ (storedF bs M a out).2.2.length ≤ out.length + 258 * ((storedF bs M a out).2.1 - a) ∧ (storedF bs M a out).2.2.length ≤ M := by
  unfold storedF at h ⊢
  simp only at h ⊢
  split at h
  · cases h
  · rename_i h1
    split at h
    · cases h
    · rename_i h2
      rw [if_neg h1, if_neg h2]
      obtain ⟨k1, k2, k3, k4⟩ := copyF_grow _ _ _ hM (by omega) h
      have hA : a ≤ evenF a := by unfold evenF; omega
      exact ⟨by omega, k2, by omega, k4⟩
theorem lenStep_grow {head : List Int} {bs : List Nat} {N a a' : Nat} {l l' : List Int} {b : Bool} (h : lenStep head bs N a l = (b, 0, a', l')) (hn : ¬ N ≤ l.length) (ha : a ≤ bs.length) : a < a' ∧ a' ≤ bs.length ∧ l'.length ≤ N := by
  unfold lenStep at h
  split at h
  · rename_i h0
    simp only [Prod.mk.injEq] at h
    exact absurd h.2.1 h0
  · rename_i h0
    obtain ⟨k, n, e1, hs⟩ : ∃ k n e1, symF head (bs.drop a) = (k, n, e1) := ⟨_, _, _, rfl⟩
    rw [hs] at h h0
    simp only [Decidable.not_not] at h h0
    subst h0
    obtain ⟨_, h1, h2⟩ := sym_facts hs
    rw [List.length_drop] at h2
    unfold lenStep.lenRun at h
    generalize (if k = 17 then 3 else if k = 18 then 7 else 2) = wd at h
    generalize (if k = 18 then 11 else 3) = ba at h
    generalize (if k = 16 then l.getLast?.getD 0 else 0) = y at h
    split at h
    · simp only [Prod.mk.injEq] at h
      obtain ⟨_, _, rfl, rfl⟩ := h
      simp only [List.length_append, List.length_cons, List.length_nil]
      omega
    · split at h
      · simp only [Prod.mk.injEq] at h
        omega
      · split at h
        · simp only [Prod.mk.injEq] at h
          omega
        · rename_i more ht
          have h3 := (take_some ht).1
          split at h
          · simp only [Prod.mk.injEq] at h
            omega
          · rename_i h4
            simp only [Prod.mk.injEq] at h
            obtain ⟨_, _, rfl, rfl⟩ := h
            rw [List.length_append, List.length_replicate]
            exact ⟨by omega, h3, by omega⟩
theorem lenStep_on {head : List Int} {bs : List Nat} {N a : Nat} {l : List Int} {X : Nat × Nat × List Int} (h : lenStep head bs N a l = (false, X)) : X.1 = 0 := by
  unfold lenStep at h
  split at h
  · cases h
  · unfold lenStep.lenRun at h
    generalize (symF head (bs.drop a)).1 = k at h
    generalize (if k = 17 then 3 else if k = 18 then 7 else 2) = wd at h
    generalize (if k = 18 then 11 else 3) = ba at h
    generalize (if k = 16 then l.getLast?.getD 0 else 0) = y at h
    split at h
    · cases h; rfl
    · split at h
      · cases h
      · split at h
        · cases h
        · split at h
          · cases h
          · cases h; rfl
theorem lenF_grow {head : List Int} {bs : List Nat} {N : Nat} : ∀ (f a : Nat) (l : List Int), a ≤ bs.length → l.length ≤ N → (lenF head bs N f a l).1 = 0 →
    a ≤ (lenF head bs N f a l).2.1 ∧ (lenF head bs N f a l).2.1 ≤ bs.length ∧ (lenF head bs N f a l).2.2.length ≤ N
  | 0, a, l, ha, hl, h => by
    rw [lenF] at h
    cases h
  | f + 1, a, l, ha, hl, h => by
    by_cases hn : N ≤ l.length
    · rw [lenF_done hn]
      exact ⟨Nat.le_refl _, ha, hl⟩
    · obtain ⟨b, e, a', l', hs⟩ : ∃ b e a' l', lenStep head bs N a l = (b, e, a', l') := ⟨_, _, _, _, rfl⟩
      cases b with
      | true =>
        rw [lenF_over hn hs] at h ⊢
        simp only at h ⊢
        subst h
        obtain ⟨h1, h2, h3⟩ := lenStep_grow hs hn ha
        exact ⟨by omega, h2, h3⟩
      | false =>
        have he : e = 0 := lenStep_on hs
        subst he
        obtain ⟨h1, h2, h3⟩ := lenStep_grow hs hn ha
        rw [lenF_on hn hs] at h ⊢
        obtain ⟨k1, k2, k3⟩ := lenF_grow f a' l' h2 h3 h
        exact ⟨by omega, k2, k3⟩
theorem checkOf_in {l : List Int} {mm : Int} (h : checkOf l mm = 0) : ∀ y ∈ l, 0 ≤ y ∧ y ≤ mm := by
  unfold checkOf at h
  split at h
  · cases h
  · rename_i hb
    simp only [argBad, Bool.or_eq_true, decide_eq_true_eq, Bool.not_eq_true', not_or, Bool.not_eq_false] at hb
    exact (allIn_iff l mm).1 hb.2
theorem dynF_grow {bs : List Nat} {a : Nat} (h : (dynF bs a).1 = 0) :
    a ≤ (dynF bs a).2.1 ∧ (dynF bs a).2.1 ≤ bs.length ∧ (dynF bs a).2.2.1.length ≤ 288 ∧ (dynF bs a).2.2.2.length ≤ 288 ∧ (∀ y ∈ (dynF bs a).2.2.1, 0 ≤ y ∧ y ≤ 15) ∧ (∀ y ∈ (dynF bs a).2.2.2, 0 ≤ y ∧ y ≤ 15) := by
  unfold dynF at h ⊢
  split at h
  · cases h
  · rename_i h1
    rw [if_neg h1]
    generalize numOf ((bs.drop a).take 5) + 257 = A at *
    generalize numOf ((bs.drop (a + 5)).take 5) + 1 = B at *
    generalize numOf ((bs.drop (a + 10)).take 4) + 4 = C at *
    unfold dynF.dynRun at h ⊢
    split at h
    · cases h
    · rename_i h2
      rw [if_neg h2]
      split at h
      · cases h
      · rename_i h3
        rw [if_neg h3]
        split at h
        · cases h
        · rename_i h4
          rw [if_neg h4]
          unfold dynF.dynEnd at h ⊢
          split at h
          · rename_i h5
            exact absurd h h5
          · rename_i h5
            rw [if_neg h5]
            split at h
            · cases h
            · rename_i h6
              rw [if_neg h6]
              obtain ⟨k1, k2, k3⟩ := lenF_grow (head := headF bs (a + 14) C) (bs := bs) (N := A + B) (bs.length + 1) (a + 14 + 3 * C) [] (by omega) (by simp) (by omega)
              have h7 : ∀ y ∈ (lenF (headF bs (a + 14) C) bs (A + B) (bs.length + 1) (a + 14 + 3 * C) []).2.2.take A, 0 ≤ y ∧ y ≤ 15 := checkOf_in (Decidable.not_not.1 (not_or.1 h6).1)
              have h8 : ∀ y ∈ (lenF (headF bs (a + 14) C) bs (A + B) (bs.length + 1) (a + 14 + 3 * C) []).2.2.drop A, 0 ≤ y ∧ y ≤ 15 := checkOf_in (Decidable.not_not.1 (not_or.1 (not_or.1 h6).2).1)
              refine ⟨by simp only; omega, k2, ?_, ?_, h7, h8⟩
              · simp only [List.length_take]
                omega
              · simp only [List.length_drop]
                omega
/-- one block after its three bits: the error, where it stands, what came out, the tokens -/
noncomputable def blockF (all : List Nat) (M kind a : Nat) (out : List Nat) (tk : List Tok) : Nat × Nat × List Nat × List Tok :=
  if kind = 0 then ((storedF all M a out).1, (storedF all M a out).2.1, (storedF all M a out).2.2, tk)
  else if kind = 1 then tokF fixLit fixDist all M (all.length + 1) a out tk
  else if kind = 2 then
    if (dynF all a).1 ≠ 0 then ((dynF all a).1, (dynF all a).2.1, out, tk)
    else tokF (dynF all a).2.2.1 (dynF all a).2.2.2 all M (all.length + 1) (dynF all a).2.1 out tk
  else (2, a, out, tk)
theorem blockF_grow {all : List Nat} {M kind a : Nat} {out : List Nat} {tk : List Tok} (hb : isBits all) (ha : a ≤ all.length) (hM : out.length ≤ M) (h : (blockF all M kind a out tk).1 = 0) :
    a ≤ (blockF all M kind a out tk).2.1 ∧ (blockF all M kind a out tk).2.1 ≤ all.length ∧ (blockF all M kind a out tk).2.2.1.length ≤ out.length + 258 * ((blockF all M kind a out tk).2.1 - a) ∧ (blockF all M kind a out tk).2.2.2.length ≤ tk.length + ((blockF all M kind a out tk).2.1 - a) ∧ (blockF all M kind a out tk).2.2.1.length ≤ M := by
  unfold blockF at h ⊢
  split at h
  · rename_i h1
    rw [if_pos h1]
    obtain ⟨k1, k2, k3, k4⟩ := storedF_grow hM h
    exact ⟨k1, k2, k3, by simp only; omega, k4⟩
  · rename_i h1
    rw [if_neg h1]
    split at h
    · rename_i h2
      rw [if_pos h2]
      exact tokF_grow hb _ _ _ _ ha hM h
    · rename_i h2
      rw [if_neg h2]
      split at h
      · rename_i h3
        rw [if_pos h3]
        split at h
        · rename_i h4
          exact absurd h h4
        · rename_i h4
          rw [if_neg h4]
          obtain ⟨d1, d2, _⟩ := dynF_grow (Decidable.not_not.1 h4)
          obtain ⟨k1, k2, k3, k4, k5⟩ := tokF_grow hb _ _ _ _ d2 hM h
          exact ⟨by omega, k2, by omega, by omega, k5⟩
      · cases h
/-- a stream that was read: the error, the bits read, what came out, the tokens, each block's kind, where each block ends, the bytes read by a stream that ends well -/
structure InfS where
  e : Nat
  a : Nat
  out : List Nat
  tk : List Tok
  kinds : List Nat
  stops : List Nat
  rest : Nat
/-- one round: is it over, and the stream then -/
noncomputable def roundF (all : List Nat) (M a : Nat) (out : List Nat) (tk : List Tok) (ks ss : List Nat) : Bool × InfS :=
  match takeM all a 3 with
  | none => (true, ⟨5, a, out, tk, ks, ss, 0⟩)
  | some v => afterF v (blockF all M (v / 2) (a + 3) out tk) ks ss
where
  afterF (v : Nat) (q : Nat × Nat × List Nat × List Tok) (ks ss : List Nat) : Bool × InfS :=
    if q.1 ≠ 0 then (true, ⟨q.1, q.2.1, q.2.2.1, q.2.2.2, ks ++ [v / 2], ss, 0⟩)
    else if v % 2 = 1 then (true, ⟨0, q.2.1, q.2.2.1, q.2.2.2, ks ++ [v / 2], ss ++ [q.2.2.1.length], (q.2.1 + 7) / 8⟩)
    else (false, ⟨0, q.2.1, q.2.2.1, q.2.2.2, ks ++ [v / 2], ss ++ [q.2.2.1.length], 0⟩)
noncomputable def inflF (all : List Nat) (M : Nat) : Nat → Nat → List Nat → List Tok → List Nat → List Nat → InfS
  | 0, a, out, tk, ks, ss => ⟨5, a, out, tk, ks, ss, 0⟩
  | f + 1, a, out, tk, ks, ss =>
    if (roundF all M a out tk ks ss).1 = true then (roundF all M a out tk ks ss).2
    else inflF all M f (roundF all M a out tk ks ss).2.a (roundF all M a out tk ks ss).2.out (roundF all M a out tk ks ss).2.tk (roundF all M a out tk ks ss).2.kinds (roundF all M a out tk ks ss).2.stops
theorem inflF_over {all : List Nat} {M f a : Nat} {out : List Nat} {tk : List Tok} {ks ss : List Nat} {S : InfS} (h : roundF all M a out tk ks ss = (true, S)) : inflF all M (f + 1) a out tk ks ss = S := by
  rw [inflF, h]; rfl
theorem inflF_on {all : List Nat} {M f a : Nat} {out : List Nat} {tk : List Tok} {ks ss : List Nat} {S : InfS} (h : roundF all M a out tk ks ss = (false, S)) : inflF all M (f + 1) a out tk ks ss = inflF all M f S.a S.out S.tk S.kinds S.stops := by
  rw [inflF, h]; rfl
theorem round_end {all : List Nat} {M a : Nat} {out : List Nat} {tk : List Tok} {ks ss : List Nat} (h : takeM all a 3 = none) : roundF all M a out tk ks ss = (true, ⟨5, a, out, tk, ks, ss, 0⟩) := by
  unfold roundF; rw [h]
theorem round_err {all : List Nat} {M a v e a' : Nat} {out out' : List Nat} {tk tk' : List Tok} {ks ss : List Nat} (h : takeM all a 3 = some v) (hq : blockF all M (v / 2) (a + 3) out tk = (e, a', out', tk')) (he : e ≠ 0) : roundF all M a out tk ks ss = (true, ⟨e, a', out', tk', ks ++ [v / 2], ss, 0⟩) := by
  unfold roundF; rw [h]; simp only; rw [hq]; exact if_pos he
theorem round_last {all : List Nat} {M a v a' : Nat} {out out' : List Nat} {tk tk' : List Tok} {ks ss : List Nat} (h : takeM all a 3 = some v) (hq : blockF all M (v / 2) (a + 3) out tk = (0, a', out', tk')) (hv : v % 2 = 1) : roundF all M a out tk ks ss = (true, ⟨0, a', out', tk', ks ++ [v / 2], ss ++ [out'.length], (a' + 7) / 8⟩) := by
  unfold roundF; rw [h]; simp only; rw [hq]; unfold roundF.afterF; rw [if_neg (fun h => h rfl), if_pos hv]
theorem round_more {all : List Nat} {M a v a' : Nat} {out out' : List Nat} {tk tk' : List Tok} {ks ss : List Nat} (h : takeM all a 3 = some v) (hq : blockF all M (v / 2) (a + 3) out tk = (0, a', out', tk')) (hv : v % 2 ≠ 1) : roundF all M a out tk ks ss = (false, ⟨0, a', out', tk', ks ++ [v / 2], ss ++ [out'.length], 0⟩) := by
  unfold roundF; rw [h]; simp only; rw [hq]; unfold roundF.afterF; rw [if_neg (fun h => h rfl), if_neg hv]
end Go.Proofs.YthibpnkdhbkakaaDoor
