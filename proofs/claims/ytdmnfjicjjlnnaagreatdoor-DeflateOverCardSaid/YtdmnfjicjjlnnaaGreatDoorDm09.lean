/-
  The statements' own example: a writer to which 1 and 2 are put gives the byte 5; 1 of three bits reversed is 4.
-/
import Derived.Test.YtdmnfjicjjlnnaaGreatDoorDm08
import Derived.Test.YtdmnfjicjjlnnaaGreatDoorDm05
import Derived.Test.YtdmnfjicjjlnnaaGreatDoorDm01
import Derived.Test.YtdmnfjicjjlnnaaGreatDoorDm02
import Derived.Test.YtdmnfjicjjlnnaaGreatDoorDm03
import Derived.StillTailTactics
import Derived.Lib.SlBytesConst
namespace Go.Proofs.YtdmnfjicjjlnnaaGreatDoor
set_option maxRecDepth 5000
open Go.RowKit
end Go.Proofs.YtdmnfjicjjlnnaaGreatDoor
/-
  The contracts of the bit reader's functions: a reader holds a list of bits ('Rr'); each method turns that list as its text says, and leaves all other memory as it was.
-/
namespace Go.Proofs.YtdmnfjicjjlnnaaGreatDoor
set_option maxRecDepth 5000
open Go.RowKit
/-! ### nil readers -/
/-! ### drop, skip -/
end Go.Proofs.YtdmnfjicjjlnnaaGreatDoor
/-
  The contracts of the bit reader's methods: Feed, Left, fill, Peek, Get, Align.
-/
namespace Go.Proofs.YtdmnfjicjjlnnaaGreatDoor
set_option maxRecDepth 5000
open Go.RowKit
/-! ### Feed -/
/-! ### Left -/
/-! ### Align -/
/-! ### fill -/
end Go.Proofs.YtdmnfjicjjlnnaaGreatDoor
/-
  The contracts of the bit reader's methods: Peek, Get, Read.
-/
namespace Go.Proofs.YtdmnfjicjjlnnaaGreatDoor
set_option maxRecDepth 5000
open Go.RowKit
end Go.Proofs.YtdmnfjicjjlnnaaGreatDoor
/-
  The contract of the bit reader's method Read.
-/
namespace Go.Proofs.YtdmnfjicjjlnnaaGreatDoor
set_option maxRecDepth 5000
open Go.RowKit
end Go.Proofs.YtdmnfjicjjlnnaaGreatDoor
/-
  Writers and readers among the things that a call holds.
-/
namespace Go.Proofs.YtdmnfjicjjlnnaaGreatDoor
set_option maxRecDepth 5000
open Go.RowKit
def wrT (B : Place) (l : List Nat) : Thing where
  res := fun w F => ∃ d, Wr w B d l ∧ ∀ k, F k ↔ WSet B.b d k
  loc := fun _ _ _ _ ⟨d, h1, h2⟩ hm hS => ⟨d, h1.kept hm (fun k hk => hS k ((h2 k).2 hk)), h2⟩
theorem moved_sub {w : World} {B : Nat} {d d' : Value} {F : Nat → Prop} (h2 : ∀ k, F k ↔ WSet B d k) (hmv : Moved w d d') : ∀ k, WSet B d' k → F k ∨ w.heap.size ≤ k := by
  rintro k (rfl | hk)
  · exact .inl ((h2 k).2 (.inl rfl))
  · rcases hmv with h | h
    · exact .inl ((h2 k).2 (.inr (h ▸ hk)))
    · exact .inr (h k hk)
theorem Held.wr {w0 w : World} {B : Place} {l : List Nat} {Rs : List Thing} (h : Held w0 w (wrT B l :: Rs)) : ∃ d, Wr w B d l ∧ (∀ k, WSet B.b d k → w0.heap.size ≤ k) ∧ ∀ w' l', WStep w w' B d l' → Held w0 w' (wrT B l' :: Rs) := by
  obtain ⟨F, ⟨d, hW, h2⟩, hF, back⟩ := h.take
  refine ⟨d, hW, fun k hk => (hF k ((h2 k).2 hk)).1, fun w' l' ⟨d', hW', hm, hmv⟩ => back w' _ _ ⟨d', hW', fun _ => Iff.rfl⟩ (hm.mono fun k _ hk => (h2 k).2 hk) (moved_sub h2 hmv) hW'.lt⟩
theorem Held.took {w0 w : World} {B : Place} {l : List Nat} {Rs : List Thing} (h : Held w0 w (wrT B l :: Rs)) : ∃ d, Wr w B d l ∧ ∀ w' n xs l', Own w' 5 1 d n xs → Wr w' B (.slice none 0 0) l' → Mod w w' (fun k => k = B.b) → Held w0 w' (ownT 5 1 d n xs :: wrT B l' :: Rs) := by
  obtain ⟨F, ⟨d, hW, h2⟩, h3, h4⟩ := h
  refine ⟨d, hW, fun w' n xs l' ho hW' hm => ?_⟩
  refine Held.split h4 (fun k hk => ⟨(h3 k hk).1, (h3 k hk).2.1⟩) (F1 := fun k => d.ownBlock = some k) (F2 := fun k => k = B.b) ⟨ho, fun _ => Iff.rfl⟩ ⟨_, hW', fun k => ⟨.inl, fun hk => hk.elim id (fun h => by simp [Value.ownBlock] at h)⟩⟩ (hm.mono fun k _ hk => (h2 k).2 (.inl hk))
    (fun k hk => (h2 k).2 (.inr hk)) (fun k hk => (h2 k).2 (.inl hk)) (fun k hk e => hW.ne (by rw [hk, e]))
end Go.Proofs.YtdmnfjicjjlnnaaGreatDoor
/-
  The contracts of the writer, the reader and the reference's functions, over the things that a call holds.
-/
namespace Go.Proofs.YtdmnfjicjjlnnaaGreatDoor
set_option maxRecDepth 5000
open Go.RowKit
section
variable {w0 w : World} {B : Nat} {l : List Nat} {Rs : List Thing}
theorem h_put {B : Place} (h : Held w0 w (wrT B l :: Rs)) (v n : Nat) (hv : v < 4294967296) (hn : n ≤ 32) (hl : l.length < 1099511600000) :
    Calls Tryz.prog 54 #[.pointer (some ⟨B.b, B.o, none⟩), .int .u32 (v : Int), .int .i64 (n : Int)] w fun e w' => e = .returned (.tuple #[]) ∧ Held w0 w' (wrT B (l ++ bitsOf n v) :: Rs) := by
  obtain ⟨d, hW, _, back⟩ := h.wr
  exact (put_any B d l v n w hW hv hn (by omega)).mono fun _ _ ⟨h1, h2⟩ => ⟨h1, back _ _ h2⟩
theorem h_walign {B : Place} (h : Held w0 w (wrT B l :: Rs)) (hl : l.length < 1099511600000) :
    Calls Tryz.prog 29 #[.pointer (some ⟨B.b, B.o, none⟩)] w fun e w' => e = .returned (.tuple #[]) ∧ Held w0 w' (wrT B (evened l) :: Rs) := by
  obtain ⟨d, hW, _, back⟩ := h.wr
  exact (walign_any B d l w hW (by omega)).mono fun _ _ ⟨h1, h2⟩ => ⟨h1, back _ _ h2⟩
theorem h_take {B : Place} (h : Held w0 w (wrT B l :: Rs)) :
    Calls Tryz.prog 28 #[.pointer (some ⟨B.b, B.o, none⟩)] w fun e w' => ∃ d, e = .returned d ∧ Held w0 w' (ownT 5 1 d (bytesOf l).length (u8s (bytesOf l)) :: wrT B (l.drop (8 * (bytesOf l).length)) :: Rs) := by
  obtain ⟨d, hW, back⟩ := h.took
  exact (take_any B d l w hW).mono fun _ _ ⟨h1, h2, h3, h4⟩ => ⟨d, h1, back _ _ _ _ h2 h3 h4⟩
end
end Go.Proofs.YtdmnfjicjjlnnaaGreatDoor
/-
  What a program that writes blocks is to do, as a statement that the program's own text must show ('BlockOK', for some bits of a block behind its first three); the laws' own example.
-/
namespace Go.Proofs.YtdmnfjicjjlnnaaGreatDoor
set_option maxRecDepth 5000
open Go.RowKit
def allSound (l : List Tok) : Prop := ∀ t ∈ l, soundB t = true
def mayK (kind : Int) (l : List Tok) (raw : List Nat) : Prop := kind = 0 ∧ raw.length ≤ 65535 ∨ (kind = 1 ∨ kind = 2) ∧ allSound l ∧ l.length < 1048576
instance (l : List Tok) : Decidable (allSound l) := by unfold allSound; infer_instance
instance (kind : Int) (l : List Tok) (raw : List Nat) : Decidable (mayK kind l raw) := by unfold mayK; infer_instance
section
variable (F : Nat → List Tok → List Nat → Nat → List Nat)
def blkBits (kind : Nat) (l : List Tok) (raw : List Nat) (last : Bool) (a : Nat) : List Nat := bitsOf 3 ((if last then 1 else 0) + 2 * kind) ++ F kind l raw (a + 3)
def costK (kind : Int) (l : List Tok) (raw : List Nat) : Int := if mayK kind l raw then ((3 + (F kind.toNat l raw 3).length : Nat) : Int) else -1
def bestStep (b : Int × Int) (k c : Int) : Int × Int := if 0 ≤ c ∧ (b.1 < 0 ∨ c < b.2) then (k, c) else b
def bestK (l : List Tok) (raw : List Nat) : Int × Int :=
  bestStep (bestStep (bestStep (-1, 0) 0 (costK F 0 l raw)) 1 (costK F 1 l raw)) 2 (costK F 2 l raw)
end
section
variable {F : Nat → List Tok → List Nat → Nat → List Nat} {Lv : World → Prop} {w0 w : World} {Rs : List Thing}
end
end Go.Proofs.YtdmnfjicjjlnnaaGreatDoor
/-
  What is read of the blocks that the laws write, by what a writer of blocks is to do ('BlockOK').
-/
namespace Go.Proofs.YtdmnfjicjjlnnaaGreatDoor
set_option maxRecDepth 5000
theorem mayK_kind {kind : Nat} {l : List Tok} {raw : List Nat} (h : mayK kind l raw) : kind < 3 := by
  rcases h with ⟨h, _⟩ | ⟨h | h, _⟩ <;> omega
theorem zeros_isBits (n : Nat) : isBits (List.replicate n 0) := fun b hb => by rw [List.eq_of_mem_replicate hb]; omega
theorem BlockBits.isBits {l : List Tok} {raw bs : List Nat} {a kind : Nat} (h : BlockBits l raw a kind bs) : isBits bs := by
  cases h with
  | stored => exact isBits_append (zeros_isBits _) (isBits_append (bitsOf_isBits _ _) (isBits_append (bitsOf_isBits _ _) (bits8_isBits _)))
  | fixed _ h => exact h.isBits
  | dynamic lit dist hd C lb bs h h2 => exact isBits_append (isBits_append (bitsOf_isBits _ _) (isBits_append (bitsOf_isBits _ _) (isBits_append (bitsOf_isBits _ _) (isBits_append (headBits_isBits _ _) h.lens.isBits)))) h2.isBits
theorem evened_app (l : List Nat) : ∃ p, isBits p ∧ evened l = l ++ p :=
  ⟨List.replicate ((8 - l.length % 8) % 8) 0, (fun b hb => by rw [List.eq_of_mem_replicate hb]; omega), rfl⟩
theorem evened_octets (l : List Nat) : (bytesOf (evened l)).length = (l.length + 7) / 8 := by
  rw [bytesOf_length]
  simp only [evened, List.length_append, List.length_replicate]
  omega
section
variable {F : Nat → List Tok → List Nat → Nat → List Nat} {Lv : World → Prop} {l : List Tok} {raw o : List Nat} {kind a M : Nat}
def Chosen (F : Nat → List Tok → List Nat → Nat → List Nat) (l : List Tok) (raw : List Nat) (b : Int × Int) : Prop := ∃ kk : Nat, b.1 = (kk : Int) ∧ mayK kk l raw ∧ b.2 = ((3 + (F kk l raw 3).length : Nat) : Int)
theorem step_chosen (k : Nat) (b : Int × Int) (h : b.1 < 0 ∨ Chosen F l raw b) : (bestStep b k (costK F k l raw)).1 < 0 ∨ Chosen F l raw (bestStep b k (costK F k l raw)) := by
  unfold bestStep
  split
  · rename_i hc
    refine .inr ⟨k, rfl, ?_⟩
    have hm : mayK k l raw := by
      refine Classical.byContradiction fun hno => ?_
      have := hc.1
      unfold costK at this
      rw [if_neg hno] at this
      omega
    refine ⟨hm, ?_⟩
    show costK F k l raw = _
    unfold costK
    rw [if_pos hm]
    rfl
  · exact h
theorem step_chosen_may (k : Nat) (b : Int × Int) (h : b.1 < 0 ∨ Chosen F l raw b) (hm : mayK k l raw) : Chosen F l raw (bestStep b k (costK F k l raw)) := by
  rcases step_chosen k b h with h2 | h2
  · exfalso
    have hc : (0 : Int) ≤ costK F k l raw := by
      unfold costK
      rw [if_pos hm]
      exact Int.natCast_nonneg _
    unfold bestStep at h2
    split at h2
    · have : ((k : Int)) < 0 := h2
      omega
    · rename_i hno
      exact hno ⟨hc, .inl h2⟩
  · exact h2
theorem best_chosen (hs : allSound l) (hl : l.length < 1048576) : Chosen F l raw (bestK F l raw) :=
  step_chosen_may 2 _ (step_chosen 1 _ (step_chosen 0 _ (.inl (by decide)))) (.inr ⟨.inr rfl, hs, hl⟩)
end
end Go.Proofs.YtdmnfjicjjlnnaaGreatDoor
/-
  Blocks in a row as the model of reading has them ('Chain'): read to the end, with another block behind them, with none. No program is named here.
-/
namespace Go.Proofs.YtdmnfjicjjlnnaaGreatDoor
set_option maxRecDepth 5000
inductive Chain (N : Nat) : List Nat → List Nat → List Nat → List Nat → Prop
  | nil : Chain N [] [] [] []
  | snoc (D out ks ss : List Nat) (kind : Nat) (l : List Tok) (raw bs o : List Nat) : Chain N D out ks ss → kind < 3 → BlockBits l raw (D.length + 3) kind bs → expT out l = (0, o) → o.length ≤ N → out.length + raw.length ≤ N →
      (outOf kind raw out o).length ≤ out.length + 16642 → Chain N (D ++ (bitsOf 3 (2 * kind) ++ bs)) (outOf kind raw out o) (ks ++ [kind]) (ss ++ [(outOf kind raw out o).length])
def Gaps (ss : List Nat) : Prop := ∀ i v, ss[i]? = some v → v ≤ (if i = 0 then 0 else ss[i - 1]?.getD 0) + 16642
theorem gaps_snoc {ss : List Nat} {v : Nat} (h : Gaps ss) (hv : v ≤ ss.getLast?.getD 0 + 16642) : Gaps (ss ++ [v]) := by
  intro i u hu
  rcases Nat.lt_or_ge i ss.length with hi | hi
  · rw [List.getElem?_append_left hi] at hu
    have := h i u hu
    by_cases h0 : i = 0
    · rw [if_pos h0] at this ⊢; exact this
    · rw [if_neg h0] at this ⊢
      rw [List.getElem?_append_left (by omega)]; exact this
  · rw [List.getElem?_append_right hi] at hu
    have hi0 : i - ss.length = 0 := by
      have := (List.getElem?_eq_some_iff.1 hu).1
      simp at this; omega
    rw [hi0] at hu
    simp at hu
    subst hu
    have hil : i = ss.length := by omega
    by_cases h0 : i = 0
    · rw [if_pos h0]
      have : ss = [] := List.eq_nil_of_length_eq_zero (by omega)
      subst this
      simpa using hv
    · rw [if_neg h0, List.getElem?_append_left (by omega), hil, ← List.getLast?_eq_getElem?]
      exact hv
section
variable {N M : Nat} {D out ks ss : List Nat}
theorem Chain.bits01 (h : Chain N D out ks ss) : isBits D := by
  induction h with
  | nil => intro b hb; cases hb
  | snoc D out ks ss kind l raw bs o _ _ hb _ _ _ _ ih => exact isBits_append ih (isBits_append (bitsOf_isBits _ _) hb.isBits)
theorem Chain.count (h : Chain N D out ks ss) : ks.length ≤ D.length ∧ ss.length = ks.length := by
  induction h with
  | nil => exact ⟨Nat.le_refl _, rfl⟩
  | snoc D out ks ss kind l raw bs o _ _ hb _ _ _ _ ih =>
    simp only [List.length_append, List.length_cons, List.length_nil, bitsOf_length]
    omega
theorem Chain.gaps (h : Chain N D out ks ss) : Gaps ss ∧ ss.getLast?.getD 0 = out.length := by
  induction h with
  | nil => exact ⟨fun i v hv => by simp at hv, rfl⟩
  | snoc D out ks ss kind l raw bs o _ _ hb _ _ _ hg ih => exact ⟨gaps_snoc ih.1 (by rw [ih.2]; exact hg), by simp⟩
theorem Chain.stops (h : Chain N D out ks ss) : ∀ v ∈ ss, v ≤ N := by
  induction h with
  | nil => exact fun v hv => by cases hv
  | snoc D out ks ss kind l raw bs o _ _ _ _ ho hr _ ih =>
    intro v hv
    rcases List.mem_append.1 hv with hv | hv
    · exact ih v hv
    · simp only [List.mem_singleton] at hv
      subst hv
      unfold outOf
      split
      · rw [List.length_append]; exact hr
      · exact ho
theorem Chain.more {N2 : Nat} (h : Chain N D out ks ss) (hN : N ≤ N2) : Chain N2 D out ks ss := by
  induction h with
  | nil => exact .nil
  | snoc D out ks ss kind l raw bs o _ hk hb he ho hr hg ih => exact .snoc D out ks ss kind l raw bs o ih hk hb he (by omega) (by omega) hg
theorem Chain.read (h : Chain N D out ks ss) (hM : N ≤ M) : ∀ post, isBits post → ∃ tk, ∀ f, inflF (D ++ post) M (ks.length + f) 0 [] [] [] [] = inflF (D ++ post) M f D.length out tk ks ss := by
  induction h with
  | nil => exact fun post _ => ⟨[], fun f => by simp⟩
  | snoc D out ks ss kind l raw bs o hc hk hb he ho hr hg ih =>
    intro post hp
    obtain ⟨tk, h1⟩ := ih (bitsOf 3 (2 * kind) ++ (bs ++ post)) (isBits_append (bitsOf_isBits _ _) (isBits_append hb.isBits hp))
    refine ⟨tksOf kind tk l, fun f => ?_⟩
    have h2 := infl_more (pre := D) (f := f) (M := M) (tk := tk) (ks := ks) (ss := ss) hb hk hp he (by omega) (by omega)
    have e : D ++ (bitsOf 3 (2 * kind) ++ bs) ++ post = D ++ (bitsOf 3 (2 * kind) ++ (bs ++ post)) := by simp
    rw [e, List.length_append, List.length_singleton, show ks.length + 1 + f = ks.length + (f + 1) by omega, h1 (f + 1), h2]
    congr 1
    simp only [List.length_append, bitsOf_length]
    omega
theorem Chain.over (h : Chain N D out ks ss) (hM : N ≤ M) : ∃ tk, inflF D M (D.length + 1) 0 [] [] [] [] = ⟨5, D.length, out, tk, ks, ss, 0⟩ := by
  obtain ⟨tk, h1⟩ := h.read hM [] (by intro b hb; cases hb)
  simp only [List.append_nil] at h1
  have hc := h.count.1
  refine ⟨tk, ?_⟩
  have h2 := h1 (D.length - ks.length + 1)
  rw [show ks.length + (D.length - ks.length + 1) = D.length + 1 by omega] at h2
  rw [h2]
  refine inflF_over (round_end ?_)
  unfold takeM
  rw [if_neg (by omega)]
theorem Chain.last {kind : Nat} {l : List Tok} {raw bs o : List Nat} (h : Chain N D out ks ss) (hM : N ≤ M) (hk : kind < 3) (hb : BlockBits l raw (D.length + 3) kind bs) (he : expT out l = (0, o)) (ho : o.length ≤ M) (hr : out.length + raw.length ≤ M) :
    ∃ tk, inflF (evened (D ++ (bitsOf 3 (1 + 2 * kind) ++ bs))) M ((evened (D ++ (bitsOf 3 (1 + 2 * kind) ++ bs))).length + 1) 0 [] [] [] [] =
      ⟨0, (D ++ (bitsOf 3 (1 + 2 * kind) ++ bs)).length, outOf kind raw out o, tk, ks ++ [kind], ss ++ [(outOf kind raw out o).length], ((D ++ (bitsOf 3 (1 + 2 * kind) ++ bs)).length + 7) / 8⟩ := by
  obtain ⟨post, hp, e⟩ := evened_app (D ++ (bitsOf 3 (1 + 2 * kind) ++ bs))
  obtain ⟨tk, h1⟩ := h.read hM (bitsOf 3 (1 + 2 * kind) ++ (bs ++ post)) (isBits_append (bitsOf_isBits _ _) (isBits_append hb.isBits hp))
  have e2 : evened (D ++ (bitsOf 3 (1 + 2 * kind) ++ bs)) = D ++ (bitsOf 3 (1 + 2 * kind) ++ (bs ++ post)) := by rw [e]; simp
  have hc := h.count.1
  have hl : ks.length ≤ (evened (D ++ (bitsOf 3 (1 + 2 * kind) ++ bs))).length := by rw [e2, List.length_append]; omega
  rw [e2] at hl ⊢
  generalize hn : (D ++ (bitsOf 3 (1 + 2 * kind) ++ (bs ++ post))).length = n at hl
  have h2 := h1 (n - ks.length + 1)
  rw [show ks.length + (n - ks.length + 1) = n + 1 by omega] at h2
  have h3 := infl_last (pre := D) (f := n - ks.length) (M := M) (tk := tk) (ks := ks) (ss := ss) hb hk hp he ho hr
  have e3 : (D ++ (bitsOf 3 (1 + 2 * kind) ++ bs)).length = D.length + 3 + bs.length := by simp only [List.length_append, bitsOf_length]; omega
  rw [e3]
  exact ⟨_, h2.trans h3⟩
end
/-! ### A block as it is chosen -/
structure BlkLaw (F : Nat → List Tok → List Nat → Nat → List Nat) : Prop where
  good : ∀ (kind : Nat) (l : List Tok) (raw : List Nat) (a : Nat), mayK kind l raw → byteOK l → (∀ b ∈ raw, b < 256) → BlockBits l raw a kind (F kind l raw a)
  same : ∀ (kind : Nat) (l : List Tok) (raw : List Nat) (a b : Nat), kind ≠ 0 → F kind l raw a = F kind l raw b
  place : ∀ (kind : Nat) (l : List Tok) (raw : List Nat) (a b : Nat), a % 8 = b % 8 → F kind l raw a = F kind l raw b
section
variable {F : Nat → List Tok → List Nat → Nat → List Nat}
theorem BlockBits.of_zero {l : List Tok} {raw bs : List Nat} {a : Nat} (h : BlockBits l raw a 0 bs) : bs = storedBits a raw := by
  generalize hk : 0 = k at h
  cases h with
  | stored => rfl
  | fixed => omega
  | dynamic => omega
theorem stored_len (a : Nat) (raw : List Nat) : (storedBits a raw).length ≤ 8 * raw.length + 39 := by
  unfold storedBits
  simp only [List.length_append, List.length_replicate, bitsOf_length, bits8_length]
  unfold evenF
  omega
theorem step_le (k : Nat) (b : Int × Int) (c : Int) (h0 : 0 ≤ b.1) (hk : b.2 ≤ c) (l : List Tok) (raw : List Nat) : (bestStep b k (costK F k l raw)).2 ≤ c ∧ 0 ≤ (bestStep b k (costK F k l raw)).1 := by
  unfold bestStep
  split
  · rename_i hc
    rcases hc.2 with h | h
    · omega
    · exact ⟨by show costK F k l raw ≤ c; omega, by show (0 : Int) ≤ (k : Int); omega⟩
  · exact ⟨hk, h0⟩
theorem best_least (l : List Tok) (raw : List Nat) (h : mayK 0 l raw) : (bestK F l raw).2 ≤ costK F 0 l raw := by
  have hc : (0 : Int) ≤ costK F 0 l raw := by unfold costK; rw [if_pos h]; exact Int.natCast_nonneg _
  have h1 : bestStep (-1, 0) 0 (costK F 0 l raw) = (0, costK F 0 l raw) := by unfold bestStep; rw [if_pos ⟨hc, .inl (by decide)⟩]
  unfold bestK
  rw [h1]
  have h2 := step_le (F := F) 1 (0, costK F 0 l raw) (costK F 0 l raw) (Int.le_refl 0) (Int.le_refl _) l raw
  exact (step_le (F := F) 2 _ (costK F 0 l raw) h2.2 h2.1 l raw).1
def bitsOne (F : Nat → List Tok → List Nat → Nat → List Nat) (packs : Bool) (l : List Tok) (raw : List Nat) (last : Bool) (a : Nat) : List Nat :=
  if packs then (if (bestK F l raw).1 < 0 then [] else blkBits F (bestK F l raw).1.toNat l raw last a) else blkBits F 0 [] raw last a
theorem blkBits_place (H : BlkLaw F) {a b : Nat} (h : a % 8 = b % 8) (kind : Nat) (l : List Tok) (raw : List Nat) (last : Bool) : blkBits F kind l raw last a = blkBits F kind l raw last b := by
  unfold blkBits
  rw [H.place kind l raw (a + 3) (b + 3) (by omega)]
theorem bitsOne_place (H : BlkLaw F) {a b : Nat} (h : a % 8 = b % 8) (packs : Bool) (l : List Tok) (raw : List Nat) (last : Bool) : bitsOne F packs l raw last a = bitsOne F packs l raw last b := by
  unfold bitsOne
  rw [blkBits_place H h, blkBits_place H h]
theorem one_is (H : BlkLaw F) {packs : Bool} {l : List Tok} {raw : List Nat} (hb : byteOK l) (hr : ∀ b ∈ raw, b < 256) (hm : raw.length ≤ 65535) (hs : allSound l) (hl : l.length < 1048576) (last : Bool) (a : Nat) :
    ∃ (kind : Nat) (l' : List Tok) (bs : List Nat), kind < 3 ∧ (packs = false → kind = 0) ∧ (l' = l ∨ kind = 0 ∧ l' = []) ∧ BlockBits l' raw (a + 3) kind bs ∧ bitsOne F packs l raw last a = bitsOf 3 ((if last then 1 else 0) + 2 * kind) ++ bs ∧ bs.length ≤ 8 * raw.length + 39 := by
  cases packs with
  | false =>
    have hg := H.good 0 [] raw (a + 3) (.inl ⟨rfl, hm⟩) (fun _ h => by cases h) hr
    refine ⟨0, [], F 0 [] raw (a + 3), by decide, fun _ => rfl, .inr ⟨rfl, rfl⟩, hg, rfl, ?_⟩
    rw [hg.of_zero]
    exact stored_len _ _
  | true =>
    obtain ⟨k, h1, h2, h3⟩ := best_chosen (F := F) (raw := raw) hs hl
    have h4 := best_least (F := F) l raw (.inl ⟨rfl, hm⟩)
    have hg := H.good k l raw (a + 3) h2 hb hr
    refine ⟨k, l, F k l raw (a + 3), mayK_kind h2, (fun h => by cases h), .inl rfl, hg, ?_, ?_⟩
    · unfold bitsOne
      rw [if_pos rfl, if_neg (by omega), h1, Int.toNat_natCast]
      rfl
    · by_cases hk : k = 0
      · subst hk
        rw [hg.of_zero]
        exact stored_len _ _
      · rw [H.same k l raw (a + 3) 3 hk]
        have h5 : costK F 0 l raw = ((3 + (storedBits 3 raw).length : Nat) : Int) := by
          have hg0 := H.good 0 l raw 3 (.inl ⟨rfl, hm⟩) hb hr
          unfold costK
          rw [if_pos (.inl ⟨rfl, hm⟩)]
          show ((3 + (F 0 l raw 3).length : Nat) : Int) = _
          rw [hg0.of_zero]
        have h6 := stored_len 3 raw
        omega
end
end Go.Proofs.YtdmnfjicjjlnnaaGreatDoor
/-
  What a finder of matches is to do, as a statement that the program's own text must show ('MatchOK', for some states that a finder passes through); the laws' own example.
-/
namespace Go.Proofs.YtdmnfjicjjlnnaaGreatDoor
set_option maxRecDepth 5000
open Go.RowKit
structure MatchM where
  St : Type
  start : Int → St
  write : St → List Nat → St
  toks : St → Bool → St × List Tok
  inp : St → List Nat
  outs : St → List Tok
  wait : St → Nat
  one : List Nat → Int → List Tok
  Ok : St → Prop
  Clean : Int → St → Prop
structure MatchLaws (M : MatchM) : Prop where
  ok_start : ∀ lev, M.Ok (M.start lev)
  ok_write : ∀ s bs, M.Ok s → (∀ b ∈ bs, b < 256) → (M.inp s).length + bs.length < 1000000000 → M.Ok (M.write s bs)
  ok_toks : ∀ s e, M.Ok s → M.Ok (M.toks s e).1
  inp_start : ∀ lev, M.inp (M.start lev) = []
  inp_write : ∀ s bs, M.inp (M.write s bs) = M.inp s ++ bs
  inp_toks : ∀ s e, M.inp (M.toks s e).1 = M.inp s
  outs_start : ∀ lev, M.outs (M.start lev) = []
  outs_write : ∀ s bs, M.outs (M.write s bs) = M.outs s
  outs_toks : ∀ s e, M.outs (M.toks s e).1 = M.outs s ++ (M.toks s e).2
  bytes : ∀ s, M.Ok s → byteOK (M.outs s)
  means : ∀ s, M.Ok s → (M.inp s).length ≤ most → M.wait s ≤ (M.inp s).length ∧ expT [] (M.outs s) = (0, (M.inp s).take ((M.inp s).length - M.wait s))
  wait_end : ∀ s, M.Ok s → M.wait (M.toks s true).1 = 0
  wait_some : ∀ s, M.Ok s → M.wait (M.toks s false).1 ≤ 261
  clean_start : ∀ lev, M.Clean lev (M.start lev)
  clean_write : ∀ lev s bs, M.Clean lev s → M.Clean lev (M.write s bs)
  clean_toks : ∀ lev s, M.Clean lev s → M.Clean lev (M.toks s false).1
  one_is : ∀ lev s, M.Ok s → M.Clean lev s → M.outs (M.toks s true).1 = M.one (M.inp s) lev
  level0 : ∀ bs lev, (∀ b ∈ bs, b < 256) → bs.length < 1000000000 → lev ≤ 0 → ∀ t ∈ M.one bs lev, t.2.1 = 0
  short : ∀ c n lev, c < 256 → 517 ≤ n → n ≤ 6000 → 1 ≤ lev → lev ≤ 9 → 10 * (M.one (List.replicate n c) lev).length < n
def tokT (v : Value) (l : List Tok) : Thing := ownT 80 3 v l.length (toksV l)
/-! ### What follows of the laws -/
theorem expT_grow : ∀ (l : List Tok) (acc o : List Nat), expT acc l = (0, o) → acc.length + l.length ≤ o.length
  | [], acc, o, h => by simp [expT] at h; subst h; simp
  | t :: r, acc, o, h => by
    rw [expT_cons] at h
    by_cases h0 : (stepT acc t).1 = 0
    · rw [if_pos h0] at h
      have ih := expT_grow r _ o h
      have h1 : acc.length + 1 ≤ (stepT acc t).2.length := by
        unfold stepT at h0 ⊢
        split <;> rename_i c1
        · rw [if_pos c1] at h0; simp at h0
        · rw [if_neg c1] at h0
          have hs : soundB t = true := by simpa using c1
          split <;> rename_i c2
          · rw [if_pos c2] at h0
            split <;> rename_i c3
            · rw [if_pos c3] at h0; simp at h0
            · simp
          · have := sound_match hs c2
            rw [if_neg c2] at h0
            split <;> rename_i c3
            · rw [if_pos c3] at h0; simp at h0
            · rw [if_neg c3] at h0
              split <;> rename_i c4
              · rw [if_pos c4] at h0; simp at h0
              · simp only [ext_length]; omega
      simp; omega
    · rw [if_neg h0] at h; simp at h; exact absurd h.1 h0
section
variable {w0 w : World} {Rs : List Thing}
theorem Rd.marked9 (w : World) (cs : List Value) (n : Nat) (t : TypeId) (fr : Nat × Nat) (hn : cs.length = n) (hm : n ≤ maxLen) : Rd (w.alloc (.cells cs.toArray t fr)) 1 (.slice (some ⟨w.heap.size, 0, none⟩) n n) n cs := by
  refine ⟨by omega, _, _, rfl, Nat.le_refl _, hm, by simp, .inr ⟨_, _, rfl, fun j u hu => ?_⟩⟩
  have : (w.alloc (.cells cs.toArray t fr)).heap[w.heap.size]? = some (.cells cs.toArray t fr) := by
    show (w.heap.push _)[w.heap.size]? = _
    simp
  rw [Nat.zero_add, cell_of_row _ _ _ _ _ _ this]
  simpa using hu
end
end Go.Proofs.YtdmnfjicjjlnnaaGreatDoor
/-
  What a finder of matches reckons: where the same three bytes stood last, the longest match of several places, tokens one after the other. No program is named here.
-/
namespace Go.Proofs.YtdmnfjicjjlnnaaGreatDoor
set_option maxRecDepth 5000
open Go.RowKit
def at3 (x : List Nat) (i : Nat) : List Nat := (x.drop i).take 3
def lastAt (x s : List Nat) : Nat → Option Nat
  | 0 => none
  | k + 1 => if at3 x k = s then some k else lastAt x s k
theorem lastAt_some {x s : List Nat} : ∀ {n k : Nat}, lastAt x s n = some k → k < n ∧ at3 x k = s ∧ ∀ j, k < j → j < n → at3 x j ≠ s
  | 0, k, h => by simp [lastAt] at h
  | n + 1, k, h => by
    unfold lastAt at h
    split at h <;> rename_i c
    · injection h with h; subst h
      exact ⟨by omega, c, fun j h1 h2 => by omega⟩
    · obtain ⟨h1, h2, h3⟩ := lastAt_some h
      refine ⟨by omega, h2, fun j hj1 hj2 => ?_⟩
      by_cases e : j = n
      · subst e; exact c
      · exact h3 j hj1 (by omega)
theorem lastAt_none {x s : List Nat} : ∀ {n : Nat}, lastAt x s n = none → ∀ j, j < n → at3 x j ≠ s
  | 0, _, j, hj => by omega
  | n + 1, h, j, hj => by
    unfold lastAt at h
    split at h <;> rename_i c
    · simp at h
    · by_cases e : j = n
      · subst e; exact c
      · exact lastAt_none h j (by omega)
theorem lastAt_of {x s : List Nat} {n k : Nat} (h1 : k < n) (h2 : at3 x k = s) (h3 : ∀ j, k < j → j < n → at3 x j ≠ s) : lastAt x s n = some k := by
  cases e : lastAt x s n with
  | none => exact absurd h2 (lastAt_none e k h1)
  | some j =>
    obtain ⟨a, b, c⟩ := lastAt_some e
    rcases Nat.lt_trichotomy j k with h | h | h
    · exact absurd h2 (c k h h1)
    · rw [h]
    · exact absurd b (h3 j h a)
theorem at3_app (x y : List Nat) (i : Nat) (h : i + 3 ≤ x.length) : at3 (x ++ y) i = at3 x i := by
  unfold at3
  rw [List.drop_append_of_le_length (by omega), List.take_append_of_le_length (by rw [List.length_drop]; omega)]
theorem lastAt_app (x y s : List Nat) : ∀ n, n = 0 ∨ n + 2 ≤ x.length → lastAt (x ++ y) s n = lastAt x s n
  | 0, _ => rfl
  | n + 1, h => by
    unfold lastAt
    rw [at3_app x y n (by omega), lastAt_app x y s n (by omega)]
def reach (W d : Nat) : Nat := if W < d then 0 else d
theorem reach_le (W d : Nat) : reach W d ≤ W ∧ reach W d ≤ d := by unfold reach; split <;> omega
theorem reach_pos {W d : Nat} (h : 0 < reach W d) : reach W d = d ∧ d ≤ W := by unfold reach at h ⊢; split at h <;> simp_all <;> omega
def near (W : Nat) (x : List Nat) (i : Nat) : Nat := match lastAt x (at3 x i) i with
  | none => 0
  | some k => reach W (i - k)
def far (W : Nat) (x : List Nat) (i d : Nat) : Nat := if near W x (i - d) = 0 then 0 else reach W (d + near W x (i - d))
theorem near_le (W : Nat) (x : List Nat) (i : Nat) : near W x i ≤ W ∧ near W x i ≤ i := by
  unfold near
  split
  · omega
  · have := reach_le W (i - ‹Nat›); omega
theorem near_spec {W : Nat} {x : List Nat} {i : Nat} (h : 0 < near W x i) : at3 x (i - near W x i) = at3 x i := by
  unfold near at h ⊢
  split at h
  · omega
  · rename_i k e
    obtain ⟨h1, h2, _⟩ := lastAt_some e
    rw [(reach_pos h).1, show i - (i - k) = k by omega, h2]
theorem far_spec {W : Nat} {x : List Nat} {i d : Nat} (hd : d ≤ i) (hs : at3 x (i - d) = at3 x i) (h : 0 < far W x i d) : far W x i d ≤ i ∧ far W x i d ≤ W ∧ at3 x (i - far W x i d) = at3 x i := by
  unfold far at h ⊢
  split at h
  · omega
  · rename_i c
    rw [if_neg c]
    have h1 := reach_pos h
    have h2 := near_le W x (i - d)
    rw [h1.1]
    refine ⟨by omega, h1.2, ?_⟩
    rw [show i - (d + near W x (i - d)) = i - d - near W x (i - d) by omega, near_spec (by omega), hs]
theorem near_app (W : Nat) (x y : List Nat) (i : Nat) (h : i + 3 ≤ x.length) : near W (x ++ y) i = near W x i := by
  unfold near
  rw [at3_app x y i h, lastAt_app x y _ i (by omega)]
theorem far_app (W : Nat) (x y : List Nat) (i d : Nat) (h : i + 3 ≤ x.length) : far W (x ++ y) i d = far W x i d := by
  unfold far
  rw [near_app W x y (i - d) (by omega)]
/-! ### The two maps -/
def mLast (x : List Nat) (a P : Nat) (s : List Nat) : Option Nat := (lastAt x s P).filter fun k => decide (a ≤ k)
def mOlder (W : Nat) (x : List Nat) (a : Nat) (s : List Nat) : Option Nat := (lastAt x s a).filter fun k => decide (a ≤ k + W)
def nearM (W : Nat) (x : List Nat) (a P : Nat) : Nat := match mLast x a P (at3 x P) with
  | some k => reach W (P - k)
  | none => match mOlder W x a (at3 x P) with
    | some k => reach W (P - k)
    | none => 0
theorem near_maps (W : Nat) (x : List Nat) (a P : Nat) (ha : a ≤ P) : nearM W x a P = near W x P := by
  unfold nearM near mLast mOlder
  cases e : lastAt x (at3 x P) P with
  | none =>
    have e2 : lastAt x (at3 x P) a = none := by
      cases e3 : lastAt x (at3 x P) a with
      | none => rfl
      | some k =>
        obtain ⟨h1, h2, _⟩ := lastAt_some e3
        exact absurd h2 (lastAt_none e k (by omega))
    rw [e2]; rfl
  | some k =>
    obtain ⟨h1, h2, h3⟩ := lastAt_some e
    by_cases c : a ≤ k
    · simp [Option.filter, c]
    · have e2 : lastAt x (at3 x P) a = some k := lastAt_of (by omega) h2 fun j hj1 hj2 => h3 j hj1 (by omega)
      rw [e2]
      by_cases c2 : a ≤ k + W
      · simp [Option.filter, c, c2]
      · simp [Option.filter, c, c2]
        unfold reach
        rw [if_pos (by omega)]
theorem mLast_app (x y : List Nat) (a P : Nat) (h : P = 0 ∨ P + 2 ≤ x.length) : mLast (x ++ y) a P = mLast x a P := by
  funext s; unfold mLast; rw [lastAt_app x y s P h]
theorem mOlder_app (W : Nat) (x y : List Nat) (a P : Nat) (h : P = 0 ∨ P + 2 ≤ x.length) (ha : a ≤ P) : mOlder W (x ++ y) a = mOlder W x a := by
  funext s; unfold mOlder; rw [lastAt_app x y s a (by omega)]
theorem mLast_learn (x : List Nat) (a P : Nat) (ha : a ≤ P) : mLast x a (P + 1) = fun s => if s = at3 x P then some P else mLast x a P s := by
  funext s
  unfold mLast
  rw [lastAt]
  by_cases c : at3 x P = s
  · rw [if_pos c, if_pos c.symm]; simp [Option.filter, ha]
  · rw [if_neg c, if_neg (fun h => c h.symm)]
theorem mLast_new (x : List Nat) (P : Nat) : mLast x P P = fun _ => none := by
  funext s
  unfold mLast
  cases e : lastAt x s P with
  | none => rfl
  | some k =>
    have := (lastAt_some e).1
    simp [Option.filter]; omega
theorem mOlder_new (W : Nat) (x : List Nat) (a : Nat) : mOlder W x (a + W) = mLast x a (a + W) := by
  funext s
  unfold mOlder mLast
  congr 1
  funext k
  simp
theorem mLast_zero (x : List Nat) : mLast x 0 0 = fun _ => none := mLast_new x 0
theorem mOlder_zero (W : Nat) (x : List Nat) : mOlder W x 0 = fun _ => none := by funext s; rfl
/-! ### How many bytes are the same -/
def same : List Nat → List Nat → Nat
  | a :: p, b :: q => if a = b then same p q + 1 else 0
  | _, _ => 0
theorem same_spec : ∀ (a b : List Nat), same a b ≤ a.length ∧ same a b ≤ b.length ∧ (∀ n, n < same a b → a[n]? = b[n]?) ∧ (same a b < a.length → same a b < b.length → a[same a b]? ≠ b[same a b]?)
  | [], b => by simp [same]
  | a :: p, [] => by simp [same]
  | a :: p, b :: q => by
    unfold same
    split <;> rename_i c
    · subst c
      obtain ⟨h1, h2, h3, h4⟩ := same_spec p q
      refine ⟨by simp; omega, by simp; omega, fun n hn => ?_, fun k1 k2 => ?_⟩
      · cases n with
        | zero => rfl
        | succ n => simpa using h3 n (by omega)
      · simpa using h4 (by simpa using k1) (by simpa using k2)
    · refine ⟨by simp, by simp, fun n hn => by omega, fun _ _ => by simpa using c⟩
theorem same_is {a b : List Nat} {n : Nat} (h1 : n ≤ a.length) (h2 : n ≤ b.length) (h3 : ∀ j, j < n → a[j]? = b[j]?) (h4 : n < a.length → n < b.length → a[n]? ≠ b[n]?) : same a b = n := by
  obtain ⟨k1, k2, k3, k4⟩ := same_spec a b
  rcases Nat.lt_trichotomy (same a b) n with h | h | h
  · exact absurd (h3 _ h) (k4 (by omega) (by omega))
  · exact h
  · exact absurd (k3 n h) (h4 (by omega) (by omega))
theorem same_app (a y b : List Nat) (h : b.length ≤ a.length) : same (a ++ y) b = same a b := by
  obtain ⟨k1, k2, k3, k4⟩ := same_spec a b
  refine same_is (by rw [List.length_append]; omega) k2 (fun j hj => ?_) (fun h1 h2 => ?_)
  · rw [List.getElem?_append_left (by omega)]; exact k3 j hj
  · rw [List.getElem?_append_left (by omega)]; exact k4 (by omega) h2
/-! ### The search -/
def stepS (x : List Nat) (i : Nat) (r : List Nat) (d : Nat) (f : Nat × Nat) : Nat × Nat :=
  if (x.drop (i - d))[f.1]? = r[f.1]? then (if f.1 < same (x.drop (i - d)) r then (same (x.drop (i - d)) r, d) else f) else f
def srch (W : Nat) (x : List Nat) (i : Nat) (r : List Nat) (en : Nat) : Nat → Nat → Nat × Nat → Nat × Nat
  | 0, _, f => f
  | n + 1, d, f => if 0 < d ∧ f.1 < min en r.length then srch W x i r en n (far W x i d) (stepS x i r d f) else f
def restL (L : Nat) (x : List Nat) (i : Nat) : List Nat := (x.drop i).take L
def best (W L : Nat) (x : List Nat) (tr en i : Nat) : Nat × Nat :=
  if (restL L x i).length < 3 then (0, 0) else srch W x i (restL L x i) en tr (near W x i) (0, 0)
theorem restL_length (L : Nat) (x : List Nat) (i : Nat) : (restL L x i).length = min L (x.length - i) := by simp [restL]
def fine (W L : Nat) (x : List Nat) (i : Nat) (f : Nat × Nat) : Prop :=
  f.1 = 0 ∨ (3 ≤ f.1 ∧ f.1 ≤ (restL L x i).length ∧ 1 ≤ f.2 ∧ f.2 ≤ W ∧ f.2 ≤ i ∧ ∀ n, n < f.1 → x[i - f.2 + n]? = x[i + n]?)
theorem stepS_fine {W L : Nat} {x : List Nat} {i d : Nat} {f : Nat × Nat} (hL : 3 ≤ L) (hr : 3 ≤ (restL L x i).length) (hd1 : 0 < d) (hd2 : d ≤ W) (hd3 : d ≤ i) (hs : at3 x (i - d) = at3 x i) (hf : fine W L x i f) : fine W L x i (stepS x i (restL L x i) d f) := by
  unfold stepS
  split
  · split
    · rename_i c1 c2
      obtain ⟨k1, k2, k3, k4⟩ := same_spec (x.drop (i - d)) (restL L x i)
      have hlen := restL_length L x i
      have h3 : 3 ≤ same (x.drop (i - d)) (restL L x i) := by
        refine Nat.le_of_not_lt fun hlt => ?_
        refine k4 (by rw [List.length_drop]; omega) (by omega) ?_
        obtain ⟨m, hm⟩ : ∃ m, m = same (x.drop (i - d)) (restL L x i) := ⟨_, rfl⟩
        rw [← hm] at hlt ⊢
        have e := congrArg (fun l => l[m]?) hs
        simp only [at3, List.getElem?_take, if_pos hlt] at e
        rw [e, restL, List.getElem?_take, if_pos (by omega)]
      refine .inr ⟨h3, k2, hd1, hd2, hd3, fun n hn => ?_⟩
      have := k3 n hn
      have hnL : n < L := by simp only at hn; omega
      rw [restL, List.getElem?_take, if_pos hnL, List.getElem?_drop, List.getElem?_drop] at this
      exact this
    · exact hf
  · exact hf
theorem srch_fine {W L : Nat} {x : List Nat} {i en : Nat} (hL : 3 ≤ L) (hr : 3 ≤ (restL L x i).length) : ∀ (n d : Nat) (f : Nat × Nat), (0 < d → d ≤ W ∧ d ≤ i ∧ at3 x (i - d) = at3 x i) → fine W L x i f → fine W L x i (srch W x i (restL L x i) en n d f)
  | 0, _, f, _, hf => hf
  | n + 1, d, f, hd, hf => by
    unfold srch
    split
    · rename_i c
      obtain ⟨h1, h2, h3⟩ := hd c.1
      refine srch_fine hL hr n _ _ (fun hp => ?_) (stepS_fine hL hr c.1 h1 h2 h3 hf)
      obtain ⟨k1, k2, k3⟩ := far_spec h2 h3 hp
      exact ⟨k2, k1, k3⟩
    · exact hf
theorem best_fine (W L : Nat) (x : List Nat) (tr en i : Nat) (hL : 3 ≤ L) : fine W L x i (best W L x tr en i) := by
  unfold best
  split
  · exact .inl rfl
  · rename_i c
    refine srch_fine hL (by omega) _ _ _ (fun hp => ?_) (.inl rfl)
    have h1 := near_le W x i
    exact ⟨h1.1, h1.2, near_spec hp⟩
theorem srch_app (W : Nat) (x y : List Nat) (i : Nat) (r : List Nat) (en : Nat) (hi : i + 3 ≤ x.length) (hr : r.length ≤ x.length - i) : ∀ (n d : Nat) (f : Nat × Nat), f.1 ≤ r.length → srch W (x ++ y) i r en n d f = srch W x i r en n d f
  | 0, _, _, _ => rfl
  | n + 1, d, f, hf => by
    unfold srch
    split
    · rename_i c
      have e1 : stepS (x ++ y) i r d f = stepS x i r d f := by
        unfold stepS
        rw [List.drop_append_of_le_length (by omega), same_app _ _ _ (by rw [List.length_drop]; omega), List.getElem?_append_left (by rw [List.length_drop]; omega)]
      rw [e1, far_app W x y i d hi]
      refine srch_app W x y i r en hi hr n _ _ ?_
      unfold stepS
      split
      · split
        · exact (same_spec (x.drop (i - d)) r).2.1
        · exact hf
      · exact hf
    · rfl
theorem best_app (W L : Nat) (x y : List Nat) (tr en i : Nat) (hL : 3 ≤ L) (h : i + L ≤ x.length) : best W L (x ++ y) tr en i = best W L x tr en i := by
  have e : restL L (x ++ y) i = restL L x i := by
    unfold restL
    rw [List.drop_append_of_le_length (by omega), List.take_append_of_le_length (by rw [List.length_drop]; omega)]
  have hl := restL_length L x i
  unfold best
  rw [e, near_app W x y i (by omega)]
  split
  · rfl
  · exact srch_app W x y i _ en (by omega) (by omega) _ _ _ (by simp)
/-! ### Tokens -/
def litT (x : List Nat) (i : Nat) : Tok := (((x[i]?.getD 0 : Nat) : Int), 0, 0)
def nextT (W L : Nat) (x : List Nat) (tr en la i : Nat) : Tok :=
  if (best W L x tr en i).1 = 0 ∨ ((best W L x tr en i).1 < la ∧ (best W L x tr en i).1 < (best W L x tr en (i + 1)).1) then litT x i
  else (0, ((best W L x tr en i).1 : Int), ((best W L x tr en i).2 : Int))
def adv (t : Tok) : Nat := max t.2.1.toNat 1
def par (W L : Nat) (x : List Nat) (tr en la stay : Nat) : Nat → Nat → List Tok × Nat
  | 0, i => ([], i)
  | n + 1, i => if stay < x.length - i then (nextT W L x tr en la i :: (par W L x tr en la stay n (i + adv (nextT W L x tr en la i))).1, (par W L x tr en la stay n (i + adv (nextT W L x tr en la i))).2) else ([], i)
section
variable {W L : Nat} {x : List Nat} {tr en la stay : Nat}
theorem adv_pos (t : Tok) : 1 ≤ adv t := by unfold adv; omega
theorem nextT_is (hL : 3 ≤ L) (i : Nat) (hi : i < x.length) : i + adv (nextT W L x tr en la i) ≤ x.length ∧ adv (nextT W L x tr en la i) ≤ max L 1 ∧
    (nextT W L x tr en la i = litT x i ∨ ∃ l d : Nat, nextT W L x tr en la i = (0, (l : Int), (d : Int)) ∧ 3 ≤ l ∧ l ≤ L ∧ i + l ≤ x.length ∧ 1 ≤ d ∧ d ≤ W ∧ d ≤ i ∧ ∀ n, n < l → x[i - d + n]? = x[i + n]?) := by
  have hf := best_fine W L x tr en i hL
  have hr := restL_length L x i
  unfold nextT
  split <;> rename_i c
  · exact ⟨by unfold adv litT; simp; omega, by unfold adv litT; simp; omega, .inl rfl⟩
  · rcases hf with hf | ⟨h1, h2, h3, h4, h5, h6⟩
    · exact absurd (Or.inl hf) c
    · exact ⟨by unfold adv; simp; omega, by unfold adv; simp; omega, .inr ⟨_, _, rfl, h1, by omega, by omega, h3, h4, h5, h6⟩⟩
theorem nextT_app (y : List Nat) (hL : 3 ≤ L) (i : Nat) (h : i + 1 + L ≤ x.length) : nextT W L (x ++ y) tr en la i = nextT W L x tr en la i := by
  unfold nextT litT
  rw [best_app W L x y tr en i hL (by omega), best_app W L x y tr en (i + 1) hL (by omega), List.getElem?_append_left (by omega)]
theorem par_le (hL : 3 ≤ L) : ∀ n i, i ≤ x.length → (par W L x tr en la stay n i).2 ≤ x.length ∧ i ≤ (par W L x tr en la stay n i).2
  | 0, i, h => ⟨h, Nat.le_refl _⟩
  | n + 1, i, h => by
    unfold par
    split
    · have := nextT_is (W := W) (x := x) (tr := tr) (en := en) (la := la) hL i (by omega)
      have h1 := par_le hL n _ this.1
      have h2 := adv_pos (nextT W L x tr en la i)
      exact ⟨h1.1, by simp only; omega⟩
    · exact ⟨h, Nat.le_refl _⟩
theorem par_stay : ∀ n i, x.length - i ≤ n → x.length - (par W L x tr en la stay n i).2 ≤ stay
  | 0, i, h => by show x.length - i ≤ stay; omega
  | n + 1, i, h => by
    unfold par
    split
    · have h2 := adv_pos (nextT W L x tr en la i)
      exact par_stay n _ (by omega)
    · show x.length - i ≤ stay; omega
theorem par_fuel : ∀ n m i, x.length - i ≤ n → x.length - i ≤ m → par W L x tr en la stay n i = par W L x tr en la stay m i
  | 0, 0, i, _, _ => rfl
  | 0, m + 1, i, h, _ => by unfold par; rw [if_neg (by omega)]
  | n + 1, 0, i, _, h => by unfold par; rw [if_neg (by omega)]
  | n + 1, m + 1, i, h1, h2 => by
    have h3 := adv_pos (nextT W L x tr en la i)
    unfold par
    split
    · rw [par_fuel n m _ (by omega) (by omega)]
    · rfl
def parse (W L : Nat) (x : List Nat) (tr en la stay i : Nat) : List Tok × Nat := par W L x tr en la stay (x.length - i) i
theorem parse_on (i : Nat) (h : stay < x.length - i) : parse W L x tr en la stay i = (nextT W L x tr en la i :: (parse W L x tr en la stay (i + adv (nextT W L x tr en la i))).1, (parse W L x tr en la stay (i + adv (nextT W L x tr en la i))).2) := by
  obtain ⟨m, hm⟩ : ∃ m, x.length - i = m + 1 := ⟨x.length - i - 1, by omega⟩
  have h3 := adv_pos (nextT W L x tr en la i)
  unfold parse
  rw [hm, par, if_pos h, par_fuel m (x.length - (i + adv (nextT W L x tr en la i))) _ (by omega) (Nat.le_refl _)]
theorem parse_end (i : Nat) (h : ¬ stay < x.length - i) : parse W L x tr en la stay i = ([], i) := by
  unfold parse
  cases e : x.length - i with
  | zero => rfl
  | succ m => rw [par, if_neg h]
theorem parse_join (y : List Nat) (hL : 3 ≤ L) (hs : L ≤ stay) : ∀ n i, x.length - i ≤ n → (parse W L x tr en la stay i).1 ++ (parse W L (x ++ y) tr en la 0 (parse W L x tr en la stay i).2).1 = (parse W L (x ++ y) tr en la 0 i).1
  | 0, i, h => by rw [parse_end (stay := stay) i (by omega)]; rfl
  | n + 1, i, h => by
    by_cases c : stay < x.length - i
    · have h3 := adv_pos (nextT W L x tr en la i)
      have e := nextT_app (W := W) (L := L) (x := x) (tr := tr) (en := en) (la := la) y hL i (by omega)
      have ih := parse_join y hL hs n (i + adv (nextT W L x tr en la i)) (by omega)
      rw [parse_on (stay := stay) i c, parse_on (x := x ++ y) (stay := 0) i (by rw [List.length_append]; omega), e]
      simp only [List.cons_append]
      rw [ih]
    · rw [parse_end (stay := stay) i c]; rfl
theorem ext_is {d : Nat} (i : Nat) (hd1 : 1 ≤ d) (hd : d ≤ i) : ∀ l, i + l ≤ x.length → (∀ n, n < l → x[i - d + n]? = x[i + n]?) → ext (x.take i) d l = x.take (i + l)
  | 0, _, _ => rfl
  | l + 1, hl, h => by
    have ih := ext_is i hd1 hd l (by omega) fun n hn => h n (by omega)
    have h1 := h l (by omega)
    rw [ext, ih, List.length_take, show min i x.length + l - d = i - d + l by omega, List.getElem?_take, if_pos (by omega), h1, ← Nat.add_assoc, List.take_add_one]
    have : i + l < x.length := by omega
    rw [List.getElem?_eq_getElem this]; rfl
theorem nextT_step (hL : 3 ≤ L) (hL2 : L = 258) (hW : W = 32768) (i : Nat) (hi : i < x.length) (hm : x.length ≤ most) : stepT (x.take i) (nextT W L x tr en la i) = (0, x.take (i + adv (nextT W L x tr en la i))) := by
  obtain ⟨h1, _, h2⟩ := nextT_is (W := W) (tr := tr) (en := en) (la := la) hL i hi
  have ht : (x.take i).length = i := by rw [List.length_take]; omega
  rcases h2 with h2 | ⟨l, d, h2, h3, h4, h5, h6, h7, h8, h9⟩
  · rw [h2]
    rw [stepT_lit (by simp [soundB, litT]) rfl (by rw [ht]; omega)]
    show (0, x.take i ++ [((x[i]?.getD 0 : Nat) : Int).toNat]) = (0, x.take (i + 1))
    rw [List.take_add_one, List.getElem?_eq_getElem hi]; simp
  · rw [h2]
    have hs : soundB (0, (l : Int), (d : Int)) = true := by
      subst hW
      unfold soundB
      rw [Bool.or_eq_true]
      exact .inr (decide_eq_true ⟨rfl, ⟨(by omega : (3 : Int) ≤ (l : Int)), (by omega : (l : Int) ≤ 258)⟩, (by omega : (1 : Int) ≤ (d : Int)), (by omega : (d : Int) ≤ 32768)⟩)
    rw [stepT_match hs (by show ¬ (l : Int) = 0; omega) (by rw [ht]; show ¬ most < i + ((l : Int)).toNat; omega) (by rw [ht]; show ¬ i < ((d : Int)).toNat; omega)]
    show (0, ext (x.take i) ((d : Int)).toNat ((l : Int)).toNat) = (0, x.take (i + max ((l : Int)).toNat 1))
    rw [Int.toNat_natCast, Int.toNat_natCast, ext_is i h6 h8 l h5 h9, show max l 1 = l by omega]
theorem nextT_byte (hL : 3 ≤ L) (i : Nat) (hi : i < x.length) (hb : ∀ b ∈ x, b < 256) : 0 ≤ (nextT W L x tr en la i).1 ∧ (nextT W L x tr en la i).1 ≤ 255 := by
  obtain ⟨_, _, h2⟩ := nextT_is (W := W) (tr := tr) (en := en) (la := la) hL i hi
  rcases h2 with h2 | ⟨l, d, h2, _⟩
  · rw [h2]
    have := hb x[i] (List.getElem_mem hi)
    unfold litT
    rw [List.getElem?_eq_getElem hi]
    show (0 : Int) ≤ ((x[i] : Nat) : Int) ∧ ((x[i] : Nat) : Int) ≤ 255
    omega
  · rw [h2]; exact ⟨Int.le_refl _, by show (0 : Int) ≤ 255; omega⟩
theorem parse_bytes (hL : 3 ≤ L) (hb : ∀ b ∈ x, b < 256) : ∀ n i, x.length - i ≤ n → byteOK (parse W L x tr en la stay i).1
  | 0, i, h => by rw [parse_end i (by omega)]; intro t ht; simp at ht
  | n + 1, i, h => by
    by_cases c : stay < x.length - i
    · have h3 := adv_pos (nextT W L x tr en la i)
      have ih := parse_bytes hL hb n (i + adv (nextT W L x tr en la i)) (by omega)
      rw [parse_on i c]
      intro t ht
      rcases List.mem_cons.1 ht with rfl | ht
      · exact nextT_byte hL i (by omega) hb
      · exact ih t ht
    · rw [parse_end i c]; intro t ht; simp at ht
theorem parse_means (hL : 3 ≤ L) (hL2 : L = 258) (hW : W = 32768) (hm : x.length ≤ most) : ∀ n i, x.length - i ≤ n → i ≤ x.length → expT (x.take i) (parse W L x tr en la stay i).1 = (0, x.take (parse W L x tr en la stay i).2)
  | 0, i, h, _ => by rw [parse_end i (by omega)]; rfl
  | n + 1, i, h, hi => by
    by_cases c : stay < x.length - i
    · have h3 := adv_pos (nextT W L x tr en la i)
      have h4 := (nextT_is (W := W) (x := x) (tr := tr) (en := en) (la := la) hL i (by omega)).1
      have ih := parse_means hL hL2 hW hm n (i + adv (nextT W L x tr en la i)) (by omega) h4
      rw [parse_on i c]
      show expT (x.take i) (nextT W L x tr en la i :: _) = _
      rw [expT_cons, nextT_step hL hL2 hW i (by omega) hm, if_pos rfl]
      exact ih
    · rw [parse_end i c]; rfl
theorem parse_le (hL : 3 ≤ L) (i : Nat) (h : i ≤ x.length) : (parse W L x tr en la stay i).2 ≤ x.length ∧ i ≤ (parse W L x tr en la stay i).2 := par_le hL _ i h
theorem parse_stay (i : Nat) : x.length - (parse W L x tr en la stay i).2 ≤ stay := par_stay _ i (Nat.le_refl _)
end
/-! ### One byte over and over -/
section
variable {W L n c tr en la : Nat}
theorem at3_rep {i : Nat} (h : i + 3 ≤ n) : at3 (List.replicate n c) i = List.replicate 3 c := by
  unfold at3
  rw [List.drop_replicate, List.take_replicate, show min 3 (n - i) = 3 by omega]
theorem near_rep {i : Nat} (hW : 1 ≤ W) (hi : 1 ≤ i) (h : i + 3 ≤ n) : near W (List.replicate n c) i = 1 := by
  have e : lastAt (List.replicate n c) (at3 (List.replicate n c) i) i = some (i - 1) := lastAt_of (by omega) (by rw [at3_rep h, at3_rep (by omega)]) (fun j h1 h2 => by omega)
  unfold near
  rw [e]
  show reach W (i - (i - 1)) = 1
  rw [show i - (i - 1) = 1 by omega, reach, if_neg (by omega)]
theorem same_rep : ∀ a b, b ≤ a → same (List.replicate a c) (List.replicate b c) = b
  | a, 0, _ => by cases a <;> simp [same]
  | 0, b + 1, h => by omega
  | a + 1, b + 1, h => by
    rw [List.replicate_succ, List.replicate_succ, same, if_pos rfl, same_rep a b (by omega)]
theorem srch_done (x : List Nat) (i : Nat) (r : List Nat) (d : Nat) (f : Nat × Nat) (h : ¬ f.1 < min en r.length) : ∀ m, srch W x i r en m d f = f
  | 0 => rfl
  | m + 1 => by unfold srch; rw [if_neg fun h2 => h h2.2]
theorem best_rep {i : Nat} (hW : 1 ≤ W) (hL : 3 ≤ L) (hi : 1 ≤ i) (h : i + 3 ≤ n) (ht : 1 ≤ tr) (he : 1 ≤ en) : best W L (List.replicate n c) tr en i = (min L (n - i), 1) := by
  have hr : restL L (List.replicate n c) i = List.replicate (min L (n - i)) c := by rw [restL, List.drop_replicate, List.take_replicate]
  obtain ⟨t, rfl⟩ : ∃ t, tr = t + 1 := ⟨tr - 1, by omega⟩
  unfold best
  rw [hr, near_rep hW hi h, if_neg (by rw [List.length_replicate]; omega), srch, List.length_replicate, if_pos ⟨by omega, by show 0 < _; omega⟩]
  have e : stepS (List.replicate n c) i (List.replicate (min L (n - i)) c) 1 (0, 0) = (min L (n - i), 1) := by
    unfold stepS
    rw [List.drop_replicate, same_rep _ _ (by omega), if_pos, if_pos (by show 0 < _; omega)]
    rw [List.getElem?_replicate, List.getElem?_replicate, if_pos (by show 0 < _; omega), if_pos (by show 0 < _; omega)]
  rw [e]
  exact srch_done _ _ _ _ _ (by rw [List.length_replicate]; show ¬ min L (n - i) < min en (min L (n - i)); omega) _
theorem best_le (x : List Nat) (i : Nat) (hL : 3 ≤ L) : (best W L x tr en i).1 ≤ min L (x.length - i) := by
  rcases best_fine W L x tr en i hL with h | h
  · omega
  · have := restL_length L x i; omega
theorem nextT_rep {i : Nat} (hW : 1 ≤ W) (hL : 3 ≤ L) (hi : 1 ≤ i) (h : i + 3 ≤ n) (ht : 1 ≤ tr) (he : 1 ≤ en) : adv (nextT W L (List.replicate n c) tr en la i) = min L (n - i) := by
  have h1 := best_rep (c := c) hW hL hi h ht he
  have h2 := best_le (W := W) (tr := tr) (en := en) (List.replicate n c) (i + 1) hL
  rw [List.length_replicate] at h2
  unfold nextT
  rw [h1, if_neg]
  · show max ((min L (n - i) : Nat) : Int).toNat 1 = _; omega
  · rintro (h3 | h3)
    · have h3 : min L (n - i) = 0 := h3
      omega
    · have h3 : _ ∧ min L (n - i) < _ := h3
      omega
theorem count_rep (hW : 1 ≤ W) (hL : L = 258) (ht : 1 ≤ tr) (he : 1 ≤ en) : ∀ m i, 1 ≤ i → n - i ≤ m → 258 * (parse W L (List.replicate n c) tr en la 0 i).1.length ≤ (n - i) + 516
  | 0, i, hi, h => by rw [parse_end i (by rw [List.length_replicate]; omega)]; simp
  | m + 1, i, hi, h => by
    by_cases e : 0 < n - i
    · have h3 := adv_pos (nextT W L (List.replicate n c) tr en la i)
      have ih := count_rep hW hL ht he m (i + adv (nextT W L (List.replicate n c) tr en la i)) (by omega) (by omega)
      rw [parse_on i (by rw [List.length_replicate]; exact e)]
      simp only [List.length_cons]
      by_cases c3 : i + 3 ≤ n
      · have h4 := nextT_rep (L := L) (c := c) (la := la) hW (by omega) hi c3 ht he
        by_cases c4 : 258 ≤ n - i
        · omega
        · have h5 : n - (i + adv (nextT W L (List.replicate n c) tr en la i)) = 0 := by omega
          have h6 : (parse W L (List.replicate n c) tr en la 0 (i + adv (nextT W L (List.replicate n c) tr en la i))).1 = [] := by
            rw [parse_end _ (by rw [List.length_replicate]; omega)]
          rw [h6]; simp
      · by_cases c5 : n - i = 1
        · have h6 : (parse W L (List.replicate n c) tr en la 0 (i + adv (nextT W L (List.replicate n c) tr en la i))).1 = [] := by
            rw [parse_end _ (by rw [List.length_replicate]; omega)]
          rw [h6]; simp only [List.length_nil]; omega
        · have h7 : (parse W L (List.replicate n c) tr en la 0 (i + adv (nextT W L (List.replicate n c) tr en la i))).1.length ≤ 1 := by
            obtain ⟨j, hj⟩ : ∃ j, j = i + adv (nextT W L (List.replicate n c) tr en la i) := ⟨_, rfl⟩
            rw [← hj]
            by_cases c6 : 0 < n - j
            · have h8 := adv_pos (nextT W L (List.replicate n c) tr en la j)
              rw [parse_on j (by rw [List.length_replicate]; exact c6)]
              have h9 : (parse W L (List.replicate n c) tr en la 0 (j + adv (nextT W L (List.replicate n c) tr en la j))).1 = [] := by
                rw [parse_end _ (by rw [List.length_replicate]; omega)]
              rw [h9]; simp
            · rw [parse_end j (by rw [List.length_replicate]; omega)]; simp
          omega
    · rw [parse_end i (by rw [List.length_replicate]; omega)]; simp
theorem short_rep (hW : 1 ≤ W) (hL : L = 258) (ht : 1 ≤ tr) (he : 1 ≤ en) (hn : 517 ≤ n) : 10 * (parse W L (List.replicate n c) tr en la 0 0).1.length < n := by
  have h0 := adv_pos (nextT W L (List.replicate n c) tr en la 0)
  have h1 := count_rep (n := n) (c := c) (la := la) hW hL ht he n (0 + adv (nextT W L (List.replicate n c) tr en la 0)) (by omega) (by omega)
  rw [parse_on 0 (by rw [List.length_replicate]; omega)]
  simp only [List.length_cons]
  omega
end
end Go.Proofs.YtdmnfjicjjlnnaaGreatDoor
