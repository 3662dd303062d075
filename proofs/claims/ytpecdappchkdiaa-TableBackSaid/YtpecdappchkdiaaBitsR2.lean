/-
  The contracts of the bit reader's methods: Feed, Left, fill, Peek, Get, Align.
-/
import Derived.Test.YtpecdappchkdiaaBitsR
namespace Go.Proofs.Ytpecdappchkdiaa
open Go.RowKit

/-! ### Feed -/
theorem feed_mid {w w1 : World} {B : Nat} {bs news : List Nat} {s c : Nat} {ao ao1 : Option Addr} {cap cap1 n : Nat} (hb : Blk w B [.slice ao bs.length cap, .int .u64 (s : Int), .int .i64 (c : Int)] 63) (hne : Value.ownBlock (.slice ao bs.length cap) ≠ some B)
    (hs : s < 2 ^ c) (hc : c ≤ 39) (hb256 : ∀ b ∈ bs, b < 256) (hn256 : ∀ b ∈ news, b < 256) (hn : n = news.length)
    (hown1 : Own w1 5 1 (.slice ao1 (bs.length + n) cap1) (bs.length + n) (u8s bs ++ u8s news)) (hgrow : w.grownBy w1 (Value.ownBlock (.slice ao bs.length cap)))
    (hat : Value.ownBlock (.slice ao1 (bs.length + n) cap1) = Value.ownBlock (.slice ao bs.length cap) ∨ Value.ownBlock (.slice ao1 (bs.length + n) cap1) = some w.heap.size) :
    RStep w (w1.setCell ⟨B, 0, none⟩ (.slice ao1 (bs.length + n) cap1)) B (.slice ao bs.length cap) ((bitsOf c s ++ bits8 bs) ++ bits8 news) := by
  subst hn
  have hne1 : Value.ownBlock (.slice ao1 (bs.length + news.length) cap1) ≠ some B := by
    rcases hat with h | h
    · rw [h]; exact hne
    · rw [h]; intro e; injection e with e; have := hb.lt; omega
  have hb1 := hb.grown hgrow hne
  have hM1 : Mod w w1 (WSet B (.slice ao bs.length cap)) := (Mod.refl w _).grown hgrow fun k hk => .inr (.inr hk)
  refine ⟨.slice ao1 (bs.length + news.length) cap1, ⟨bs ++ news, s, c, ⟨hb1.set 0 _, ?_, hne1, hs, ?_⟩, hc, ?_⟩, hM1.setCell (.inr (.inl rfl)) _, ?_⟩
  · rw [List.length_append, u8s_append]
    exact hown1.kept ((Mod.refl w1 (fun k => k = B)).setCell (p := ⟨B, 0, none⟩) (.inr rfl) _) (fun k hk e => hne1 (by rw [hk, e]))
  · intro b hb'
    rcases List.mem_append.1 hb' with h | h
    · exact hb256 b h
    · exact hn256 b h
  · rw [bits8_append, List.append_assoc]
  · rcases hat with h | h
    · exact .inl h
    · exact .inr fun k hk => by rw [h] at hk; injection hk with hk; omega
theorem feed_any (B : Nat) (d v : Value) (l news : List Nat) (n : Nat) (w : World) (h : Rr w B d l) (hl : l.length < 1099511600000) (hv : Rd w 1 v n (u8s news))
    (hn256 : ∀ b ∈ news, b < 256) (hnl : n < 1099511627776) :
    Calls Try.prog 15 #[.pointer (some ⟨B, 0, none⟩), v] w fun e w' => e = .returned (.tuple #[]) ∧ RStep w w' B d (l ++ bits8 news) := by
  obtain ⟨i, hi, hz0, hz1, hz2⟩ := info_parts Try.infoByte
  obtain ⟨bs, s, c, ⟨hb, hown, hne, hs, hb256⟩, hc, hl'⟩ := h
  have hn : n = news.length := by have := hv.1; rw [u8s_length] at this; omega
  obtain ⟨ao, cap, rfl, hcap, hmax⟩ := hown.form
  have hlen : bs.length < 1099511600007 := by have h1 := congrArg List.length hl'; rw [rsize] at h1; omega
  have HN := hid hn
  have HL := hid hl'
  have HS := hid hs
  have c0 := hb.cell (i := 0) rfl
  have f0 := hb.frozen 0
  clear hn hl' hs
  go_enter Try.func15, Try.ntmps15
  go_wp2_with (at_builtin; refine wpList_app _ rfl (.tmp 10) (.tmp 11) 23 rfl 5 i (.int .u8 0) 1 1 Try.underlying23 hi hz0 hz1 hz2 rfl (by decide) (.slice ao bs.length cap) bs.length (u8s bs) rfl hown v n (u8s news) rfl hv (u8s_one _) (by unfold maxLen; omega) (by omega) ?_; intro ao1 cap1 w2 hown1 hgrow hat; have hb1 := hb.grown hgrow hne; have e0 := hb1.cell (i := 0) rfl; have g0 := hb1.frozen 0)
  go_end0
  rw [HL.out]
  exact ⟨rfl, feed_mid hb hne HS.out hc hb256 hn256 HN.out hown1 hgrow hat⟩

/-! ### Left -/
theorem left_any (B : Nat) (d : Value) (l : List Nat) (w : World) (h : Rr w B d l) (hl : l.length < 1099511627000) :
    Calls Try.prog 16 #[.pointer (some ⟨B, 0, none⟩)] w fun e w' => e = .returned (.int .i64 (l.length : Int)) ∧ ∃ n, w' = w.drewN n := by
  obtain ⟨bs, s, c, ⟨hb, hown, hne, hs, hb256⟩, hc, hl'⟩ := h
  obtain ⟨ao, cap, rfl, hcap, hmax⟩ := hown.form
  have hlen : l.length = c + 8 * bs.length := by rw [hl', rsize]
  have hbl : bs.length < 1099511627000 := by omega
  have HL := hid hlen
  have c0 := hb.cell (i := 0) rfl
  have c2 := hb.cell (i := 2) rfl
  clear hlen hl' hs
  go_enter Try.func16, Try.ntmps16
  go_wp2
  go_quiet (fail)
  go_wp2
  go_ret
  exact ⟨by rw [HL.out]; rfl, _, rfl⟩

/-- The reader's own row stays, or goes. -/
def RKeep (w w' : World) (B : Nat) (d : Value) (l' : List Nat) : Prop := ∃ d', Rr w' B d' l' ∧ Mod w w' (fun k => k = B) ∧ (d'.ownBlock = d.ownBlock ∨ d'.ownBlock = none)
theorem RKeep.step {w w' : World} {B : Nat} {d : Value} {l' : List Nat} (h : RKeep w w' B d l') : RStep w w' B d l' := by
  obtain ⟨d', h1, h2, h3⟩ := h
  refine ⟨d', h1, h2.mono fun k _ e => .inl e, ?_⟩
  rcases h3 with h | h
  · exact .inl h
  · exact .inr fun k hk => by rw [h] at hk; cases hk
/-! ### Align -/
/-! ### fill -/
def FiRel (w : World) (B : Nat) (d : Value) (L : List Nat) (n k : Nat) (wr : World) : Prop :=
  ∃ d' bs s c, RIs wr B d' bs s c ∧ bitsOf c s ++ bits8 bs = L ∧ c ≤ 39 ∧ n - c ≤ k ∧ Mod w wr (WSet B d) ∧ Moved w d d'

theorem or_shift8 (s v c : Nat) (hs : s < 2 ^ c) (hc : c < 32) (hv : v < 256) :
    bits .or .u64 (s : Int) (IntKind.u64.wrap ((v : Int) * 2 ^ c)) = ((s + 2 ^ c * v : Nat) : Int) := by
  have h1 : (2 : Nat) ^ c ≤ 2 ^ 31 := Nat.pow_le_pow_right (by decide) (by omega)
  have h2 : 2 ^ c * v < 2 ^ 31 * 256 := Nat.lt_of_le_of_lt (Nat.mul_le_mul_right _ h1) (by omega)
  have e1 : IntKind.u64.wrap ((v : Int) * 2 ^ c) = ((2 ^ c * v : Nat) : Int) := by
    have : ((v : Int) * 2 ^ c) = ((2 ^ c * v : Nat) : Int) := by rw [two_pow_int, Nat.mul_comm]; simp
    rw [this, IntWalk.u64_in _ (by omega)]
  rw [e1, bits_or_u64_nat s _ (by omega) (by omega), Nat.or_comm, ← Nat.two_pow_add_eq_or_of_lt hs, Nat.add_comm]

theorem fill_mid {w : World} {B : Nat} {d : Value} {bs : List Nat} {s c v q : Nat} (h : RIs w B d bs s c) (hv : v < 256) (hq : q = s + 2 ^ c * v) :
    RIs ((w.setCell ⟨B, 1, none⟩ (.int .u64 (q : Int))).setCell ⟨B, 2, none⟩ (.int .i64 ((c : Int) + 8))).drew B d bs q (c + 8) ∧
      Mod w ((w.setCell ⟨B, 1, none⟩ (.int .u64 (q : Int))).setCell ⟨B, 2, none⟩ (.int .i64 ((c : Int) + 8))).drew (fun k => k = B) := by
  obtain ⟨hb, hown, hne, hs, hb256⟩ := h
  have hM : Mod w ((w.setCell ⟨B, 1, none⟩ (.int .u64 (q : Int))).setCell ⟨B, 2, none⟩ (.int .i64 ((c : Int) + 8))).drew (fun k => k = B) :=
    ((((Mod.refl w (fun k => k = B)).setCell (p := ⟨B, 1, none⟩) (.inr rfl) _).setCell (p := ⟨B, 2, none⟩) (.inr rfl) _)).drew
  refine ⟨⟨?_, hown.kept hM (fun k hk e => hne (by rw [hk, e])), hne, ?_, hb256⟩, hM⟩
  · have := (hb.set 1 (.int .u64 (q : Int))).set 2 (.int .i64 ((c : Int) + 8))
    simp only [List.set_cons_zero, List.set_cons_succ] at this
    exact this
  · rw [hq, Nat.pow_add]
    have h1 : 2 ^ c * v + 2 ^ c ≤ 2 ^ c * 2 ^ 8 := by
      rw [← Nat.mul_succ]; exact Nat.mul_le_mul_left _ hv
    omega

set_option maxHeartbeats 800000 in
theorem fill_any (B : Nat) (d : Value) (l : List Nat) (n : Nat) (w : World) (h : Rr w B d l) (hn : n ≤ 32) (hnl : n ≤ l.length) (hl : l.length < 1099511627000) :
    Calls Try.prog 44 #[.pointer (some ⟨B, 0, none⟩), .int .i64 (n : Int)] w fun e w' => e = .returned (.tuple #[]) ∧ FiRel w B d l n 0 w' := by
  have hlt := hid h.lt
  have hrel0 : FiRel w B d l n n w := by
    obtain ⟨bs, s, c, hR, hc, hl'⟩ := h
    exact ⟨d, bs, s, c, hR, hl'.symm, hc, by omega, Mod.refl _ _, .inl rfl⟩
  go_enter Try.func44, Try.ntmps44
  go_wp2
  go_loopg [] n (fun k wr => FiRel w B d l n k wr)
  case atStart => exact hrel0
  case round =>
    obtain ⟨d', bs, s, c, hR, hL, hc, hck, hM, hO⟩ := hrel
    have hR' := hR
    obtain ⟨hb, hown, hne, hs, hb256⟩ := hR
    have c1 := hb.cell (i := 1) rfl
    have c2 := hb.cell (i := 2) rfl
    have f1 := hb.frozen 1
    have f2 := hb.frozen 2
    have hlen : l.length = c + 8 * bs.length := by rw [← hL, rsize]
    have HL := hid hL
    by_cases hcn : c < n
    · match bs, hR', hown, hb256, hlen, HL, hL with
      | [], _, _, _, hlen, _, _ => simp at hlen; omega
      | b :: bt, hR', hown, hb256, hlen, HL, hL =>
      obtain ⟨q, hq⟩ : ∃ q, q = s + 2 ^ c * b := ⟨_, rfl⟩
      have hb8 : b < 256 := hb256 b (by simp)
      have hos := or_shift8 s b c hs (by omega) hb8
      rw [← hq] at hos
      have hmid := hid (fill_mid hR' hb8 hq)
      have hjoin : bitsOf (c + 8) q ++ bits8 bt = l := by
        rw [← hL, hq, bitsOf_join c 8 s b hs, bits8_cons, List.append_assoc]
      have Hos := hid hos
      have HJ := hid hjoin
      obtain ⟨ao, cap, rfl, hcap, hmax⟩ := hown.form
      obtain ⟨g, off, rfl, hcell⟩ : ∃ g off, ao = some ⟨g, off, none⟩ ∧ wr.cell? ⟨g, off, none⟩ = some (.int .u8 (b : Int)) := by
        obtain ⟨_, ao', cap', hv, _, _, _, h0 | ⟨g, off, hg, hr⟩⟩ := hown.rd
        · simp at h0
        · simp only [Value.slice.injEq, true_and] at hv
          obtain ⟨rfl, rfl⟩ := hv
          exact ⟨g, off, hg, by have := hr 0 (.int .u8 (b : Int)) (by simp [u8s]); simpa using this⟩
      have c0 := hb.cell (i := 0) rfl
      have hbl : bt.length < 1099511627000 := by simp at hlen; omega
      have hi0 : (0 : Int) < (((b :: bt).length : Nat) : Int) := by simp
      clear hL hs hos hq hjoin hlen
      go_wp2
      refine wp_region_still_tail 17 (by kernel_rfl) (by kernel_rfl) ?_
      simp only [List.take_succ_cons, List.take_zero, List.drop_succ_cons, List.drop_zero]
      change wpStill _ _ wr.drew _ _ _
      iterate 17 still_step
      refine wpStill_nil ?_
      rw [IntWalk.u64_in (b : Int) (by omega), Hos.out]
      go_wp2_with fail
      refine (skip_any B _ (b :: bt) q (c + 8) 1 _ hmid.out.1 (by simp) (by simp; omega)).mono ?_
      rintro e w1 ⟨rfl, d1, hR1, hM1, hd1⟩
      go_wp2
      go_roundg (gk - 1)
      case measure => omega
      case rel =>
        have hM2 := hmid.out.2.trans hM1 (fun _ _ h => h)
        refine ⟨d1, bt, q, c + 8, hR1, HJ.out, by omega, by omega, ?_, ?_⟩
        · exact wset_next hlt.out hM hO (hM2.mono fun k _ e => .inl e)
        · rcases hd1 with hd1 | hd1
          · exact hO.trans hM.size (.inl hd1)
          · exact .inr fun k hk => by rw [hd1] at hk; cases hk
    · go_wp2
      go_end0
      exact ⟨rfl, d', bs, s, c, hR', HL.out, hc, by omega, hM, hO⟩
end Go.Proofs.Ytpecdappchkdiaa
