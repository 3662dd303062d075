/-
  The contracts of the bit writer's functions: a writer holds a list of bits ('Wr'); each method turns that list as its text says, and leaves all other memory as it was.
-/
import Derived.Test.YtpecdappchkdiaaProg
import Derived.Test.YtpecdappchkdiaaOwn
import Derived.Test.YtpecdappchkdiaaBitsMath
import Derived.StillTailTactics
namespace Go.Proofs.Ytpecdappchkdiaa
open Go.RowKit

theorem ret_int {k : IntKind} {a b : Int} (h : a = b) : Ending.returned (.int k a) = .returned (.int k b) := by rw [h]
theorem two_pow_int (c : Nat) : ((2 : Int) ^ c) = ((2 ^ c : Nat) : Int) := by simp

theorem fits_yes (n : Int) (w : World) (h : 0 ≤ n ∧ n ≤ 32) :
    Calls Try.prog 43 #[.int .i64 n] w fun e w' => e = .returned (.bool true) ∧ w = w' := by
  obtain ⟨h1, h2⟩ := h
  go_enter Try.func43, Try.ntmps43
  go_wp2
  go_ret
  exact ⟨rfl, rfl⟩
theorem fits_no (n : Int) (w : World) (h : n < 0 ∨ 32 < n) :
    Calls Try.prog 43 #[.int .i64 n] w fun e w' => e = .returned (.bool false) ∧ w = w' := by
  by_cases h0 : 0 ≤ n
  · have hd : decide (n ≤ 32) = false := by simp; omega
    go_enter Try.func43, Try.ntmps43
    go_wp2
    go_ret
    exact ⟨rfl, rfl⟩
  · go_enter Try.func43, Try.ntmps43
    go_wp2
    go_ret
    exact ⟨rfl, rfl⟩

theorem low_val (v k : Nat) (hv : v < 18446744073709551616) (hk : k ≤ 32) :
    bits .and .u64 (v : Int) (IntKind.u64.wrap (IntKind.u64.wrap (2 ^ k) - 1)) = ((v % 2 ^ k : Nat) : Int) := by
  have h1 : (2 : Nat) ^ k ≤ 2 ^ 32 := Nat.pow_le_pow_right (by decide) hk
  have h2 : 0 < (2 : Nat) ^ k := Nat.two_pow_pos k
  have e1 : IntKind.u64.wrap (2 ^ k) = ((2 ^ k : Nat) : Int) := by
    rw [IntWalk.u64_in]
    · simp
    · rw [two_pow_int]; omega
  rw [e1]
  have e2 : IntKind.u64.wrap (((2 ^ k : Nat) : Int) - 1) = ((2 ^ k - 1 : Nat) : Int) := by
    rw [IntWalk.u64_in _ (by omega)]; omega
  rw [e2, bits_and_u64_nat v (2 ^ k - 1) hv (by omega), Nat.and_two_pow_sub_one_eq_mod]
theorem lowest_any (v k : Nat) (w : World) (hv : v < 18446744073709551616) (hk : k ≤ 32) :
    Calls Try.prog 45 #[.int .u64 (v : Int), .int .i64 (k : Int)] w fun e w' => e = .returned (.int .u64 ((v % 2 ^ k : Nat) : Int)) ∧ w' = w := by
  go_enter Try.func45, Try.ntmps45
  go_wp2
  go_ret
  exact ⟨ret_int (low_val v k hv hk), rfl⟩

/-! ### The writer -/
/-- The writer's three cells: the done bytes, the spare bits, their number. -/
def WIs (w : World) (B : Nat) (d : Value) (bs : List Nat) (s c : Nat) : Prop :=
  Blk w B [d, .int .u64 (s : Int), .int .i64 (c : Int)] 71 ∧ Own w 5 1 d bs.length (u8s bs) ∧ d.ownBlock ≠ some B ∧ s < 2 ^ c ∧ (∀ b ∈ bs, b < 256)
/-- A writer that holds the bits l. -/
def Wr (w : World) (B : Nat) (d : Value) (l : List Nat) : Prop := ∃ bs s c, WIs w B d bs s c ∧ c < 8 ∧ l = bits8 bs ++ bitsOf c s
/-- What the writer d alone may have turned. -/
def WSet (B : Nat) (d : Value) (k : Nat) : Prop := k = B ∨ d.ownBlock = some k
/-- The slice's row is the old one's, or new. -/
def Moved (w : World) (d d' : Value) : Prop := d'.ownBlock = d.ownBlock ∨ ∀ k, d'.ownBlock = some k → w.heap.size ≤ k
def WStep (w w' : World) (B : Nat) (d : Value) (l' : List Nat) : Prop := ∃ d', Wr w' B d' l' ∧ Mod w w' (WSet B d) ∧ Moved w d d'

theorem WIs.kept {w w' : World} {B : Nat} {d : Value} {bs : List Nat} {s c : Nat} (h : WIs w B d bs s c) {S : Nat → Prop} (hm : Mod w w' S) (hS : ∀ k, WSet B d k → ¬ S k) : WIs w' B d bs s c :=
  ⟨h.1.kept hm (hS B (.inl rfl)), h.2.1.kept hm (fun k hk => hS k (.inr hk)), h.2.2⟩
theorem Wr.kept {w w' : World} {B : Nat} {d : Value} {l : List Nat} (h : Wr w B d l) {S : Nat → Prop} (hm : Mod w w' S) (hS : ∀ k, WSet B d k → ¬ S k) : Wr w' B d l := by
  obtain ⟨bs, s, c, hW, r⟩ := h
  exact ⟨bs, s, c, hW.kept hm hS, r⟩
theorem Wr.lt {w : World} {B : Nat} {d : Value} {l : List Nat} (h : Wr w B d l) : ∀ k, WSet B d k → k < w.heap.size := by
  obtain ⟨bs, s, c, hW, _⟩ := h
  rintro k (rfl | hk)
  · exact hW.1.lt
  · exact hW.2.1.lt k hk
theorem Wr.isBits {w : World} {B : Nat} {d : Value} {l : List Nat} (h : Wr w B d l) : isBits l := by
  obtain ⟨bs, s, c, _, _, rfl⟩ := h
  exact isBits_append (bits8_isBits _) (bitsOf_isBits _ _)
theorem Wr.ne {w : World} {B : Nat} {d : Value} {l : List Nat} (h : Wr w B d l) : d.ownBlock ≠ some B := by
  obtain ⟨bs, s, c, hW, _⟩ := h
  exact hW.2.2.1
/-- Two steps of one writer are one. -/
theorem WStep.next {w w1 w2 : World} {B : Nat} {d d1 : Value} {l2 : List Nat} (hlt : ∀ k, WSet B d k → k < w.heap.size) (hm : Mod w w1 (WSet B d)) (hv : Moved w d d1) (h2 : WStep w1 w2 B d1 l2) : WStep w w2 B d l2 := by
  obtain ⟨d2, hW, hm2, hv2⟩ := h2
  refine ⟨d2, hW, hm.trans hm2 ?_, ?_⟩
  · rintro k hk (rfl | hk2)
    · exact .inl rfl
    · rcases hv with hv | hv
      · exact .inr (hv ▸ hk2)
      · exact absurd (hv k hk2) (by omega)
  · rcases hv2 with hv2 | hv2
    · rcases hv with hv | hv
      · exact .inl (hv2.trans hv)
      · exact .inr fun k hk => hv k (hv2 ▸ hk)
    · exact .inr fun k hk => Nat.le_trans hm.size (hv2 k hk)
theorem WStep.stay {w : World} {B : Nat} {d : Value} {l : List Nat} (h : Wr w B d l) : WStep w w B d l := ⟨d, h, Mod.refl _ _, .inl rfl⟩

theorem Try.infoByte : (Try.prog.info? 5).map (fun i => (i.zero, i.size, i.bytes)) = some (some (.int .u8 0), 1, 1) := by kernel_rfl

/-! ### flush -/
def FlRel (w : World) (B : Nat) (d : Value) (L : List Nat) (k : Nat) (wr : World) : Prop :=
  ∃ ao cap bs s c, WIs wr B (.slice ao bs.length cap) bs s c ∧ bits8 bs ++ bitsOf c s = L ∧ c ≤ k ∧ Mod w wr (WSet B d) ∧ Moved w d (.slice ao bs.length cap)

theorem flush_round {w wr w1 : World} {B : Nat} {d : Value} {L : List Nat} {ao ao1 : Option Addr} {cap cap1 : Nat} {bs : List Nat} {s c k : Nat} {o : Obj}
    (hb : Blk wr B [.slice ao bs.length cap, .int .u64 (s : Int), .int .i64 (c : Int)] 71) (hne : Value.ownBlock (.slice ao bs.length cap) ≠ some B) (hs : s < 2 ^ c) (hb256 : ∀ b ∈ bs, b < 256)
    (hL : bits8 bs ++ bitsOf c s = L) (h8 : 8 ≤ c) (hk : c - 8 ≤ k) (hM : Mod w wr (WSet B d)) (hO : Moved w d (.slice ao bs.length cap)) (hBd : B < w.heap.size)
    (hown1 : Own w1 5 1 (.slice ao1 (bs.length + 1) cap1) (bs.length + 1) (u8s bs ++ [.int .u8 (IntKind.u8.wrap s)])) (hgrow : (wr.alloc o).drew.grownBy w1 (Value.ownBlock (.slice ao bs.length cap)))
    (hat : Value.ownBlock (.slice ao1 (bs.length + 1) cap1) = Value.ownBlock (.slice ao bs.length cap) ∨ Value.ownBlock (.slice ao1 (bs.length + 1) cap1) = some (wr.alloc o).drew.heap.size)
    (hb1 : Blk w1 B [.slice ao bs.length cap, .int .u64 (s : Int), .int .i64 (c : Int)] 71) :
    FlRel w B d L k (((w1.setCell ⟨B, 0, none⟩ (.slice ao1 (bs.length + 1) cap1)).setCell ⟨B, 1, none⟩ (.int .u64 ((s : Int) / 256))).setCell ⟨B, 2, none⟩ (.int .i64 ((c : Int) - 8))) := by
  have hlen : (bs ++ [s % 256]).length = bs.length + 1 := by simp
  have hsz : (wr.alloc o).drew.heap.size = wr.heap.size + 1 := by show (wr.heap.push o).size = _; simp
  have hMsz := hM.size
  have hne1 : Value.ownBlock (.slice ao1 (bs.length + 1) cap1) ≠ some B := by
    rcases hat with h | h
    · rw [h]; exact hne
    · rw [h, hsz]; intro e; injection e with e; have := hb.lt; omega
  have hM1 : Mod w w1 (WSet B d) := by
    refine ((hM.alloc o).drew).grown hgrow fun k hk => ?_
    rcases hO with hO | hO
    · exact .inr (.inr (hO ▸ hk))
    · exact .inl (hO k hk)
  have hset : ∀ (w0 : World) (i : Nat) (u : Value), Mod w w0 (WSet B d) → Mod w (w0.setCell ⟨B, i, none⟩ u) (WSet B d) := fun w0 i u h => h.setCell (.inr (.inl rfl)) u
  have hokept : ∀ (w0 : World) (i : Nat) (u : Value), Own w0 5 1 (.slice ao1 (bs.length + 1) cap1) (bs.length + 1) (u8s (bs ++ [s % 256])) → Own (w0.setCell ⟨B, i, none⟩ u) 5 1 (.slice ao1 (bs.length + 1) cap1) (bs.length + 1) (u8s (bs ++ [s % 256])) := fun w0 i u h =>
    h.kept (S := fun k => k = B) ((Mod.refl w0 (fun k => k = B)).setCell (p := ⟨B, i, none⟩) (.inr rfl) u) (fun k hk e => hne1 (by rw [hk, e]))
  refine ⟨ao1, cap1, bs ++ [s % 256], s / 256, c - 8, ⟨?_, ?_, by rw [hlen]; exact hne1, ?_, ?_⟩, ?_, hk, hset _ _ _ (hset _ _ _ (hset _ _ _ hM1)), ?_⟩
  · have := ((hb1.set 0 (.slice ao1 (bs.length + 1) cap1)).set 1 (.int .u64 ((s : Int) / 256))).set 2 (.int .i64 ((c : Int) - 8))
    simp only [List.set_cons_zero, List.set_cons_succ] at this
    rw [hlen, show ((s / 256 : Nat) : Int) = (s : Int) / 256 by omega, show ((c - 8 : Nat) : Int) = (c : Int) - 8 by omega]
    exact this
  · rw [hlen]
    refine hokept _ _ _ (hokept _ _ _ (hokept _ _ _ ?_))
    have e : u8s bs ++ [Value.int .u8 (IntKind.u8.wrap s)] = u8s (bs ++ [s % 256]) := by
      rw [u8s_append, IntKind.wrap_u8]; simp [u8s]
    rw [← e]; exact hown1
  · have : 2 ^ c = 2 ^ (c - 8) * 256 := by rw [show (256 : Nat) = 2 ^ 8 from rfl, ← Nat.pow_add]; congr 1; omega
    omega
  · intro b hb'
    rcases List.mem_append.1 hb' with h | h
    · exact hb256 b h
    · simp at h; omega
  · rw [← hL, bits8_append, bits8_cons, bits8_nil, List.append_nil, List.append_assoc]
    congr 1
    have h1 := bitsOf_add 8 (c - 8) s
    rw [show 8 + (c - 8) = c by omega] at h1
    rw [h1, show s % 256 = s % 2 ^ 8 from rfl, bitsOf_mod]
  · rw [hlen]
    rcases hat with h | h
    · rcases hO with hO | hO
      · exact .inl (h.trans hO)
      · exact .inr fun k hk => hO k (h ▸ hk)
    · exact .inr fun k hk => by rw [h, hsz] at hk; injection hk with hk; omega

set_option maxHeartbeats 800000 in
theorem flush_any (B : Nat) (d : Value) (bs : List Nat) (s c : Nat) (w : World) (h : WIs w B d bs s c) (hc : c < 64) (hbs : (bits8 bs ++ bitsOf c s).length < 1099511627776) :
    Calls Try.prog 36 #[.pointer (some ⟨B, 0, none⟩)] w fun e w' => e = .returned (.tuple #[]) ∧ WStep w w' B d (bits8 bs ++ bitsOf c s) := by
  obtain ⟨i, hi, hz0, hz1, hz2⟩ := info_parts Try.infoByte
  have hrel0 : FlRel w B d (bits8 bs ++ bitsOf c s) c w := by
    obtain ⟨ao, cap, rfl, _, _⟩ := h.2.1.form
    exact ⟨ao, cap, bs, s, c, h, rfl, Nat.le_refl _, Mod.refl _ _, .inl rfl⟩
  have hBw := h.1.lt
  go_enter Try.func36, Try.ntmps36
  go_wp2
  go_loopg [] c (fun k wr => FlRel w B d (bits8 bs ++ bitsOf c s) k wr ∧ k < 64)
  case atStart => exact ⟨hrel0, hc⟩
  case round =>
    obtain ⟨⟨ao, cap, bs', s', c', hW, hL, hck, hM, hO⟩, hgk⟩ := hrel
    have hW' := hW
    obtain ⟨hb, hown, hne, hs, hb256⟩ := hW
    have c0 := hb.cell (i := 0) rfl
    have c1 := hb.cell (i := 1) rfl
    have c2 := hb.cell (i := 2) rfl
    have f0 := hb.frozen 0
    have f1 := hb.frozen 1
    have f2 := hb.frozen 2
    have hlen : bs'.length < 1099511627776 := by have := congrArg List.length hL; simp only [List.length_append, bits8_length] at this hbs; omega
    have HL := hid hL
    clear hL
    have fa : ∀ o, (wr.alloc o).frozen? ⟨B, 0, none⟩ = false := fun o => (hb.alloc o).frozen 0
    have ca0 : ∀ o, (wr.alloc o).cell? ⟨B, 0, none⟩ = some (.slice ao bs'.length cap) := fun o => (hb.alloc o).cell (i := 0) rfl
    by_cases h8 : 8 ≤ c'
    · go_wp2
      go_region_law
        ((refine step_app _ (by rfl) (.tmp 11) (.tmp 17) 23 (by rfl) 5 i (.int .u8 0) 1 1 Try.underlying23 hi hz0 hz1 hz2 (by rfl) (by decide) (.slice ao bs'.length cap) bs'.length (u8s bs') (by rfl) (by exact (hown.alloc _).drew) (.slice (some ⟨wr.heap.size, 0, none⟩) 1 1) 1 [.int .u8 (IntKind.u8.wrap s')] (by rfl) (by exact (Rd.lit _ [_] _ 1 1 (by decide) rfl).drew) (by simp [Value.oneCell']) (by unfold maxLen; omega) (by omega) ?_; intro ao1 cap1 w1 hown1 hgrow hat; have hb1 := (hb.alloc _).drew.grown hgrow hne; have e0 := hb1.cell (i := 0) rfl; have e1 := hb1.cell (i := 1) rfl; have e2 := hb1.cell (i := 2) rfl; have g0 := hb1.frozen 0; have g1 := hb1.frozen 1; have g2 := hb1.frozen 2))
      all_goals
        go_wp2
        go_roundg (c' - 8)
        case measure => omega
        case rel => exact ⟨flush_round hb hne hs hb256 HL.out h8 (Nat.le_refl _) hM hO hBw hown1 hgrow hat hb1, by omega⟩
    · go_wp2
      go_end0
      exact ⟨rfl, _, ⟨bs', s', c', hW', by omega, HL.out.symm⟩, hM, hO⟩
end Go.Proofs.Ytpecdappchkdiaa
