/-
  The contracts of the bit reader's functions: a reader holds a list of bits ('Rr'); each method turns that list as its text says, and leaves all other memory as it was.
-/
import Derived.Test.YtpecdappchkdiaaBitsW2
import Derived.Test.YtpecdappchkdiaaOwn2
namespace Go.Proofs.Ytpecdappchkdiaa
open Go.RowKit

/-- The reader's three cells: the rest of the bytes, the spare bits, their number. -/
def RIs (w : World) (B : Nat) (d : Value) (bs : List Nat) (s c : Nat) : Prop :=
  Blk w B [d, .int .u64 (s : Int), .int .i64 (c : Int)] 63 ∧ Own w 5 1 d bs.length (u8s bs) ∧ d.ownBlock ≠ some B ∧ s < 2 ^ c ∧ (∀ b ∈ bs, b < 256)
/-- A reader that holds the bits l. -/
def Rr (w : World) (B : Nat) (d : Value) (l : List Nat) : Prop := ∃ bs s c, RIs w B d bs s c ∧ c ≤ 39 ∧ l = bitsOf c s ++ bits8 bs
def RStep (w w' : World) (B : Nat) (d : Value) (l' : List Nat) : Prop := ∃ d', Rr w' B d' l' ∧ Mod w w' (WSet B d) ∧ Moved w d d'

theorem rsize {bs : List Nat} {s c : Nat} : (bitsOf c s ++ bits8 bs).length = c + 8 * bs.length := by rw [List.length_append, bits8_length, bitsOf_length]
theorem RIs.kept {w w' : World} {B : Nat} {d : Value} {bs : List Nat} {s c : Nat} (h : RIs w B d bs s c) {S : Nat → Prop} (hm : Mod w w' S) (hS : ∀ k, WSet B d k → ¬ S k) : RIs w' B d bs s c :=
  ⟨h.1.kept hm (hS B (.inl rfl)), h.2.1.kept hm (fun k hk => hS k (.inr hk)), h.2.2⟩
theorem Rr.kept {w w' : World} {B : Nat} {d : Value} {l : List Nat} (h : Rr w B d l) {S : Nat → Prop} (hm : Mod w w' S) (hS : ∀ k, WSet B d k → ¬ S k) : Rr w' B d l := by
  obtain ⟨bs, s, c, hW, r⟩ := h
  exact ⟨bs, s, c, hW.kept hm hS, r⟩
theorem Rr.lt {w : World} {B : Nat} {d : Value} {l : List Nat} (h : Rr w B d l) : ∀ k, WSet B d k → k < w.heap.size := by
  obtain ⟨bs, s, c, hW, _⟩ := h
  rintro k (rfl | hk)
  · exact hW.1.lt
  · exact hW.2.1.lt k hk
theorem Rr.isBits {w : World} {B : Nat} {d : Value} {l : List Nat} (h : Rr w B d l) : isBits l := by
  obtain ⟨bs, s, c, _, _, rfl⟩ := h
  exact isBits_append (bitsOf_isBits _ _) (bits8_isBits _)
theorem Moved.trans {w w1 : World} {d d1 d2 : Value} (h : Moved w d d1) (hsz : w.heap.size ≤ w1.heap.size) (h2 : Moved w1 d1 d2) : Moved w d d2 := by
  rcases h2 with h2 | h2
  · rcases h with h | h
    · exact .inl (h2.trans h)
    · exact .inr fun k hk => h k (h2 ▸ hk)
  · exact .inr fun k hk => Nat.le_trans hsz (h2 k hk)
theorem wset_next {w w1 w2 : World} {B : Nat} {d d1 : Value} (hlt : ∀ k, WSet B d k → k < w.heap.size) (hm : Mod w w1 (WSet B d)) (hv : Moved w d d1) (hm2 : Mod w1 w2 (WSet B d1)) : Mod w w2 (WSet B d) := by
  refine hm.trans hm2 ?_
  rintro k hk (rfl | hk2)
  · exact .inl rfl
  · rcases hv with hv | hv
    · exact .inr (hv ▸ hk2)
    · exact absurd (hv k hk2) (by omega)
theorem RStep.next {w w1 w2 : World} {B : Nat} {d d1 : Value} {l2 : List Nat} (hlt : ∀ k, WSet B d k → k < w.heap.size) (hm : Mod w w1 (WSet B d)) (hv : Moved w d d1) (h2 : RStep w1 w2 B d1 l2) : RStep w w2 B d l2 := by
  obtain ⟨d2, hW, hm2, hv2⟩ := h2
  exact ⟨d2, hW, wset_next hlt hm hv hm2, hv.trans hm.size hv2⟩
theorem RStep.stay {w : World} {B : Nat} {d : Value} {l : List Nat} (h : Rr w B d l) (n : Nat) : RStep w (w.drewN n) B d l :=
  ⟨d, h.kept (S := fun _ => False) ((Mod.refl w _).drewN n) (fun _ _ h => h), (Mod.refl w _).drewN n, .inl rfl⟩

theorem new_reader (w : World) :
    Calls Try.prog 12 #[] w fun e w' => e = .returned (.pointer (some ⟨w.heap.size, 0, none⟩)) ∧ w' = w.alloc (.cells #[.slice none 0 0, .int .u64 0, .int .i64 0] 63) := by
  go_enter Try.func12, Try.ntmps12
  go_wp2
  go_ret
  exact ⟨rfl, rfl⟩
theorem rr_new (w : World) : Rr (w.alloc (.cells #[.slice none 0 0, .int .u64 0, .int .i64 0] 63)) w.heap.size (.slice none 0 0) [] :=
  ⟨[], 0, 0, ⟨Blk.new w _ _, Own.nil _ _ _, by simp [Value.ownBlock], by simp, by simp⟩, by omega, by simp [bits8, bitsOf]⟩

/-! ### nil readers -/
theorem feed_nil (v : Value) (w : World) :
    Calls Try.prog 15 #[.pointer none, v] w fun e w' => e = .returned (.tuple #[]) ∧ w = w' := by
  go_enter Try.func15, Try.ntmps15
  go_wp2
  refine bodyPost_ret (results_none rfl _ _ _) rfl ?_
  exact ⟨rfl, rfl⟩
theorem left_nil (w : World) :
    Calls Try.prog 16 #[.pointer none] w fun e w' => e = .returned (.int .i64 0) ∧ w = w' := by
  go_enter Try.func16, Try.ntmps16
  go_wp2
  go_ret
  exact ⟨rfl, rfl⟩
theorem peek_nil (n : Int) (w : World) :
    Calls Try.prog 31 #[.pointer none, .int .i64 n] w fun e w' => e = .returned (.tuple #[.int .u32 0, .bool false]) ∧ w = w' := by
  go_enter Try.func31, Try.ntmps31
  go_wp2
  go_ret2
  exact ⟨rfl, rfl⟩
theorem get_nil (n : Int) (w : World) :
    Calls Try.prog 34 #[.pointer none, .int .i64 n] w fun e w' => e = .returned (.tuple #[.int .u32 0, .bool false]) ∧ w = w' := by
  go_enter Try.func34, Try.ntmps34
  go_wp2_with (go_at_call 31; refine (peek_nil _ _).mono ?_; rintro e w' ⟨rfl, rfl⟩)
  go_ret2
  exact ⟨rfl, rfl⟩

/-! ### drop, skip -/
theorem drop_any (B : Nat) (d : Value) (bs : List Nat) (s c n : Nat) (w : World) (h : RIs w B d bs s c) (hn : n ≤ c) (hc : c ≤ 39) :
    Calls Try.prog 47 #[.pointer (some ⟨B, 0, none⟩), .int .i64 (n : Int)] w fun e w' => e = .returned (.tuple #[]) ∧ RIs w' B d bs (s / 2 ^ n) (c - n) ∧ Mod w w' (fun k => k = B) := by
  obtain ⟨hb, hown, hne, hs, hb256⟩ := h
  obtain ⟨q, hq⟩ : ∃ q, q = s / 2 ^ n := ⟨_, rfl⟩
  have hM : Mod w ((w.setCell ⟨B, 1, none⟩ (.int .u64 (q : Int))).setCell ⟨B, 2, none⟩ (.int .i64 ((c : Int) - (n : Int)))) (fun k => k = B) :=
    ((Mod.refl w (fun k => k = B)).setCell (p := ⟨B, 1, none⟩) (.inr rfl) _).setCell (p := ⟨B, 2, none⟩) (.inr rfl) _
  have hfin : Hid (RIs ((w.setCell ⟨B, 1, none⟩ (.int .u64 (q : Int))).setCell ⟨B, 2, none⟩ (.int .i64 ((c : Int) - (n : Int)))) B d bs q (c - n) ∧ Mod w ((w.setCell ⟨B, 1, none⟩ (.int .u64 (q : Int))).setCell ⟨B, 2, none⟩ (.int .i64 ((c : Int) - (n : Int)))) (fun k => k = B)) := by
    refine ⟨⟨?_, hown.kept hM (fun k hk e => hne (by rw [hk, e])), hne, ?_, hb256⟩, hM⟩
    · have := (hb.set 1 (.int .u64 (q : Int))).set 2 (.int .i64 ((c : Int) - (n : Int)))
      simp only [List.set_cons_zero, List.set_cons_succ] at this
      rw [show ((c - n : Nat) : Int) = (c : Int) - (n : Int) by omega]
      exact this
    · rw [hq, Nat.div_lt_iff_lt_mul (Nat.two_pow_pos n), ← Nat.pow_add]
      rw [show c - n + n = c by omega]; exact hs
  have hval : (s : Int) / 2 ^ n = (q : Int) := by rw [hq, two_pow_int]; simp
  have HV := hid hval
  have HQ := hid hq
  have c1 := hb.cell (i := 1) rfl
  have c2 := hb.cell (i := 2) rfl
  have f1 := hb.frozen 1
  have f2 := hb.frozen 2
  clear hM hq hs hval
  go_enter Try.func47, Try.ntmps47
  go_wp2
  go_end0
  rw [HV.out, ← HQ.out]
  exact ⟨rfl, hfin.out⟩

theorem skip_fin {w : World} {B : Nat} {bs : List Nat} {s c n : Nat} {a a' : Option Addr} {cap L : Nat} (hL : L = bs.length - n) (hb : Blk w B [.slice a bs.length cap, .int .u64 (s : Int), .int .i64 (c : Int)] 63) (hne : Value.ownBlock (.slice a bs.length cap) ≠ some B)
    (hs : s < 2 ^ c) (hb256 : ∀ b ∈ bs, b < 256)
    (hown : Own w 5 1 (.slice a' L (cap - n)) L (((u8s bs).drop (n * 1)).take (L * 1))) (hbl : Value.ownBlock (.slice a' L (cap - n)) = Value.ownBlock (.slice a bs.length cap)) :
    RIs (w.setCell ⟨B, 0, none⟩ (.slice a' L (cap - n))) B (.slice a' L (cap - n)) (bs.drop n) s c := by
  have hM : Mod w (w.setCell ⟨B, 0, none⟩ (.slice a' L (cap - n))) (fun k => k = B) := (Mod.refl w (fun k => k = B)).setCell (p := ⟨B, 0, none⟩) (.inr rfl) _
  have e : ((u8s bs).drop (n * 1)).take (L * 1) = u8s (bs.drop n) := by
    rw [Nat.mul_one, Nat.mul_one, List.take_of_length_le (by rw [List.length_drop, u8s_length]; omega)]; simp [u8s]
  rw [e] at hown
  refine ⟨hb.set 0 _, ?_, by rw [hbl]; exact hne, hs, fun b hb' => hb256 b (List.mem_of_mem_drop hb')⟩
  rw [List.length_drop, ← hL]
  exact hown.kept hM (fun k hk e => hne (by rw [← hbl, hk, e]))
theorem skip_nil {w : World} {B : Nat} {bs : List Nat} {s c : Nat} {d : Value} (hd : RIs w B d bs s c) (h0 : bs = []) :
    RIs (w.setCell ⟨B, 0, none⟩ (.slice none 0 0)) B (.slice none 0 0) bs s c := by
  subst h0
  exact ⟨hd.1.set 0 _, Own.nil _ _ _, by simp [Value.ownBlock], hd.2.2.2.1, by simp⟩

set_option maxHeartbeats 800000 in
theorem skip_any (B : Nat) (d : Value) (bs : List Nat) (s c n : Nat) (w : World) (h : RIs w B d bs s c) (hn : n ≤ bs.length) (hbl : bs.length < 1099511627776) :
    Calls Try.prog 48 #[.pointer (some ⟨B, 0, none⟩), .int .i64 (n : Int)] w fun e w' => e = .returned (.tuple #[]) ∧ ∃ d', RIs w' B d' (bs.drop n) s c ∧ Mod w w' (fun k => k = B) ∧ (d'.ownBlock = d.ownBlock ∨ d'.ownBlock = none) := by
  obtain ⟨i, hi, hz0, hz1, hz2⟩ := info_parts Try.infoByte
  obtain ⟨hb, hown, hne, hs, hb256⟩ := h
  obtain ⟨a, cap, rfl, hcap, hmax⟩ := hown.form
  have c0 := hb.cell (i := 0) rfl
  have f0 := hb.frozen 0
  have HS := hid hs
  obtain ⟨L, hL⟩ : ∃ L, L = bs.length - n := ⟨_, rfl⟩
  have HL := hid hL
  have hLb : L < 1099511627776 := by omega
  by_cases h0 : L = 0
  · have h0' : ((L : Int) == 0) = true := by rw [h0]; rfl
    have hz : bs.drop n = [] := List.drop_eq_nil_of_le (by omega)
    have HZ := hid hz
    clear hs hL h0 hz
    go_enter Try.func48, Try.ntmps48
    go_wp2_with ((with_reducible show wpList _ _ _ (⟨some 10, _, _, _, _, _⟩ :: _) _ _); refine wpList_cut_own (w := w) rfl 23 (.tmp 8) (some (.tmp 9)) none rfl 5 i 1 Try.underlying23 hi hz1 a bs.length cap n bs.length (u8s bs) rfl hown ⟨_, rfl⟩ rfl hn (Nat.le_refl _) ?_; rw [← HL.out]; intro a' hown' hbl')
    go_end0
    have hR := skip_fin HL.out hb hne HS.out hb256 hown' hbl'
    refine ⟨rfl, _, skip_nil hR HZ.out, ?_, .inr rfl⟩
    exact ((Mod.refl w (fun k => k = B)).setCell (p := ⟨B, 0, none⟩) (.inr rfl) _).setCell (p := ⟨B, 0, none⟩) (.inr rfl) _
  · have h0' : ((L : Int) == 0) = false := by simp; omega
    clear hs hL h0
    go_enter Try.func48, Try.ntmps48
    go_wp2_with ((with_reducible show wpList _ _ _ (⟨some 10, _, _, _, _, _⟩ :: _) _ _); refine wpList_cut_own (w := w) rfl 23 (.tmp 8) (some (.tmp 9)) none rfl 5 i 1 Try.underlying23 hi hz1 a bs.length cap n bs.length (u8s bs) rfl hown ⟨_, rfl⟩ rfl hn (Nat.le_refl _) ?_; rw [← HL.out]; intro a' hown' hbl')
    go_end0
    exact ⟨rfl, _, skip_fin HL.out hb hne HS.out hb256 hown' hbl', (Mod.refl w (fun k => k = B)).setCell (p := ⟨B, 0, none⟩) (.inr rfl) _, .inl hbl'⟩
end Go.Proofs.Ytpecdappchkdiaa
