/-
  The contracts of the bit reader's methods: Feed, Left, fill, Peek, Get, Align.
-/
import Derived.Test.YtbkbkmgogbgofaaDoorZh08
namespace Go.Proofs.YtbkbkmgogbgofaaDoor
set_option maxRecDepth 5000
open Go.RowKit
/-! ### Feed -/
theorem feed_mid {w w1 : World} {B : Place} {bs news : List Nat} {s c : Nat} {ao ao1 : Option Addr} {cap cap1 n : Nat} (hb : BlkP w B [.slice ao bs.length cap, .int .u64 (s : Int), .int .i64 (c : Int)]) (hne : Value.ownBlock (.slice ao bs.length cap) ≠ some B.b)
    (hs : s < 2 ^ c) (hc : c ≤ 39) (hb256 : ∀ b ∈ bs, b < 256) (hn256 : ∀ b ∈ news, b < 256) (hn : n = news.length)
    (hown1 : Own w1 5 1 (.slice ao1 (bs.length + n) cap1) (bs.length + n) (u8s bs ++ u8s news)) (hgrow : w.grownBy w1 (Value.ownBlock (.slice ao bs.length cap)))
    (hat : Value.ownBlock (.slice ao1 (bs.length + n) cap1) = Value.ownBlock (.slice ao bs.length cap) ∨ Value.ownBlock (.slice ao1 (bs.length + n) cap1) = some w.heap.size) :
    RStep w (w1.setCell ⟨B.b, B.o, none⟩ (.slice ao1 (bs.length + n) cap1)) B (.slice ao bs.length cap) ((bitsOf c s ++ bits8 bs) ++ bits8 news) := by
  subst hn
  have hne1 : Value.ownBlock (.slice ao1 (bs.length + news.length) cap1) ≠ some B.b := by
    rcases hat with h | h
    · rw [h]; exact hne
    · rw [h]; intro e; injection e with e; have := hb.lt; omega
  have hb1 := hb.grown hgrow hne
  have hM1 : Mod w w1 (WSet B.b (.slice ao bs.length cap)) := (Mod.refl w _).grown hgrow fun k hk => .inr (.inr hk)
  refine ⟨.slice ao1 (bs.length + news.length) cap1, ⟨bs ++ news, s, c, ⟨hb1.set0 _, ?_, hne1, hs, ?_⟩, hc, ?_⟩, hM1.setCell (.inr (.inl rfl)) _, ?_⟩
  · rw [List.length_append, u8s_append]
    exact hown1.kept ((Mod.refl w1 (fun k => k = B.b)).setCell (p := ⟨B.b, B.o, none⟩) (.inr rfl) _) (fun k hk e => hne1 (by rw [hk, e]))
  · intro b hb'
    rcases List.mem_append.1 hb' with h | h
    · exact hb256 b h
    · exact hn256 b h
  · rw [bits8_append, List.append_assoc]
  · rcases hat with h | h
    · exact .inl h
    · exact .inr fun k hk => by rw [h] at hk; injection hk with hk; omega
theorem feed_any (B : Place) (d v : Value) (l news : List Nat) (n : Nat) (w : World) (h : Rr w B d l) (hl : l.length < 1099511600000) (hv : Rd w 1 v n (u8s news))
    (hn256 : ∀ b ∈ news, b < 256) (hnl : n < 1099511627776) :
    Calls Tryd.prog 13 #[.pointer (some ⟨B.b, B.o, none⟩), v] w fun e w' => e = .returned (.tuple #[]) ∧ RStep w w' B d (l ++ bits8 news) := by
  obtain ⟨i, hi, hz0, hz1, hz2⟩ := info_parts Tryd.infoByte
  obtain ⟨bs, s, c, ⟨hb, hown, hne, hs, hb256⟩, hc, hl'⟩ := h
  have hn : n = news.length := by have := hv.1; rw [u8s_length] at this; omega
  obtain ⟨ao, cap, rfl, hcap, hmax⟩ := hown.form
  have hlen : bs.length < 1099511600007 := by have h1 := congrArg List.length hl'; rw [rsize] at h1; omega
  have HN := hid hn
  have HL := hid hl'
  have HS := hid hs
  have c0 := hb.cell0 rfl
  have f0 := hb.frozen0
  clear hn hl' hs
  go_enter Tryd.func13, Tryd.ntmps13
  go_wp2_with (at_builtin; refine wpList_app _ rfl (.tmp 10) (.tmp 11) 26 rfl 5 i (.int .u8 0) 1 1 Tryd.underlying26 hi hz0 hz1 hz2 rfl (by decide) (.slice ao bs.length cap) bs.length (u8s bs) rfl hown v n (u8s news) rfl hv (u8s_one _) (by unfold maxLen; omega) (by omega) ?_; intro ao1 cap1 w2 hown1 hgrow hat; have hb1 := hb.grown hgrow hne; have e0 := hb1.cell0 rfl; have g0 := hb1.frozen0)
  go_end0
  rw [HL.out]
  exact ⟨rfl, feed_mid hb hne HS.out hc hb256 hn256 HN.out hown1 hgrow hat⟩
/-! ### Left -/
theorem left_any (B : Place) (d : Value) (l : List Nat) (w : World) (h : Rr w B d l) (hl : l.length < 1099511627000) :
    Calls Tryd.prog 35 #[.pointer (some ⟨B.b, B.o, none⟩)] w fun e w' => e = .returned (.int .i64 (l.length : Int)) ∧ ∃ n, w' = w.drewN n := by
  obtain ⟨bs, s, c, ⟨hb, hown, hne, hs, hb256⟩, hc, hl'⟩ := h
  obtain ⟨ao, cap, rfl, hcap, hmax⟩ := hown.form
  have hlen : l.length = c + 8 * bs.length := by rw [hl', rsize]
  have hbl : bs.length < 1099511627000 := by omega
  have HL := hid hlen
  have c0 := hb.cell0 rfl
  have c2 := hb.cell (i := 2) rfl
  clear hlen hl' hs
  go_enter Tryd.func35, Tryd.ntmps35
  go_wp2
  go_quiet (fail)
  go_wp2
  go_ret
  exact ⟨by rw [HL.out]; rfl, _, rfl⟩
def RKeep (w w' : World) (B : Place) (d : Value) (l' : List Nat) : Prop := ∃ d', Rr w' B d' l' ∧ Mod w w' (fun k => k = B.b) ∧ (d'.ownBlock = d.ownBlock ∨ d'.ownBlock = none)
/-! ### Align -/
theorem ralign_any (B : Place) (d : Value) (l : List Nat) (w : World) (h : Rr w B d l) :
    Calls Tryd.prog 34 #[.pointer (some ⟨B.b, B.o, none⟩)] w fun e w' => e = .returned (.tuple #[]) ∧ RKeep w w' B d (l.drop (l.length % 8)) := by
  obtain ⟨bs, s, c, hR, hc, hl'⟩ := h
  have hR' := hR
  obtain ⟨hb, hown, hne, hs, hb256⟩ := hR
  have hlen : l.length = c + 8 * bs.length := by rw [hl', rsize]
  have hdrop : l.drop (l.length % 8) = bitsOf (c - c % 8) (s / 2 ^ (c % 8)) ++ bits8 bs := by
    rw [hlen, show (c + 8 * bs.length) % 8 = c % 8 by omega, hl']
    have h1 := bitsOf_add (c % 8) (c - c % 8) s
    rw [show c % 8 + (c - c % 8) = c by omega] at h1
    rw [h1, List.append_assoc, List.drop_append, bitsOf_length, Nat.sub_self, List.drop_eq_nil_of_le (by rw [bitsOf_length]; omega)]
    rfl
  have HD := hid hdrop
  have c2 := hb.cell (i := 2) rfl
  clear hlen hdrop hl' hs
  go_enter Tryd.func34, Tryd.ntmps34
  go_wp2_with fail
  rw [show ((c : Int) % 8) = ((c % 8 : Nat) : Int) by omega]
  refine (drop_any B d bs s c (c % 8) w hR' (by omega) hc).mono ?_
  rintro e w1 ⟨rfl, hR1, hM⟩
  go_wp2
  go_end0
  rw [HD.out]
  exact ⟨rfl, d, ⟨bs, _, _, hR1, by omega, rfl⟩, hM, .inl rfl⟩
/-! ### fill -/
def FiRel (w : World) (B : Place) (d : Value) (L : List Nat) (n k : Nat) (wr : World) : Prop :=
  ∃ d' bs s c, RIs wr B d' bs s c ∧ bitsOf c s ++ bits8 bs = L ∧ c ≤ 39 ∧ n - c ≤ k ∧ Mod w wr (fun k => k = B.b) ∧ (d'.ownBlock = d.ownBlock ∨ d'.ownBlock = none)
theorem or_shift8 (s v c : Nat) (hs : s < 2 ^ c) (hc : c < 32) (hv : v < 256) :
    bits .or .u64 (s : Int) (IntKind.u64.wrap ((v : Int) * 2 ^ c)) = ((s + 2 ^ c * v : Nat) : Int) := by
  have h1 : (2 : Nat) ^ c ≤ 2 ^ 31 := Nat.pow_le_pow_right (by decide) (by omega)
  have h2 : 2 ^ c * v < 2 ^ 31 * 256 := Nat.lt_of_le_of_lt (Nat.mul_le_mul_right _ h1) (by omega)
  have e1 : IntKind.u64.wrap ((v : Int) * 2 ^ c) = ((2 ^ c * v : Nat) : Int) := by
    have : ((v : Int) * 2 ^ c) = ((2 ^ c * v : Nat) : Int) := by rw [two_pow_int, Nat.mul_comm]; simp
    rw [this, IntWalk.u64_in _ (by omega)]
  rw [e1, bits_or_u64_nat s _ (by omega) (by omega), Nat.or_comm, ← Nat.two_pow_add_eq_or_of_lt hs, Nat.add_comm]
theorem fill_mid {w : World} {B : Place} {d : Value} {bs : List Nat} {s c v q : Nat} (h : RIs w B d bs s c) (hv : v < 256) (hq : q = s + 2 ^ c * v) :
    RIs ((w.setCell ⟨B.b, B.o + 1, none⟩ (.int .u64 (q : Int))).setCell ⟨B.b, B.o + 2, none⟩ (.int .i64 ((c : Int) + 8))).drew B d bs q (c + 8) ∧
      Mod w ((w.setCell ⟨B.b, B.o + 1, none⟩ (.int .u64 (q : Int))).setCell ⟨B.b, B.o + 2, none⟩ (.int .i64 ((c : Int) + 8))).drew (fun k => k = B.b) := by
  obtain ⟨hb, hown, hne, hs, hb256⟩ := h
  have hM : Mod w ((w.setCell ⟨B.b, B.o + 1, none⟩ (.int .u64 (q : Int))).setCell ⟨B.b, B.o + 2, none⟩ (.int .i64 ((c : Int) + 8))).drew (fun k => k = B.b) :=
    ((((Mod.refl w (fun k => k = B.b)).setCell (p := ⟨B.b, B.o + 1, none⟩) (.inr rfl) _).setCell (p := ⟨B.b, B.o + 2, none⟩) (.inr rfl) _)).drew
  refine ⟨⟨?_, hown.kept hM (fun k hk e => hne (by rw [hk, e])), hne, ?_, hb256⟩, hM⟩
  · have := (hb.set 1 (.int .u64 (q : Int))).set 2 (.int .i64 ((c : Int) + 8))
    simp only [List.set_cons_zero, List.set_cons_succ] at this
    exact this
  · rw [hq, Nat.pow_add]
    have h1 : 2 ^ c * v + 2 ^ c ≤ 2 ^ c * 2 ^ 8 := by
      rw [← Nat.mul_succ]; exact Nat.mul_le_mul_left _ hv
    omega
set_option maxHeartbeats 800000 in
theorem fill_any (B : Place) (d : Value) (l : List Nat) (n : Nat) (w : World) (h : Rr w B d l) (hn : n ≤ 32) (hnl : n ≤ l.length) (hl : l.length < 1099511627000) :
    Calls Tryd.prog 80 #[.pointer (some ⟨B.b, B.o, none⟩), .int .i64 (n : Int)] w fun e w' => e = .returned (.tuple #[]) ∧ FiRel w B d l n 0 w' := by
  have hlt := hid h.lt
  have hrel0 : FiRel w B d l n n w := by
    obtain ⟨bs, s, c, hR, hc, hl'⟩ := h
    exact ⟨d, bs, s, c, hR, hl'.symm, hc, by omega, Mod.refl _ _, .inl rfl⟩
  go_enter Tryd.func80, Tryd.ntmps80
  go_wp2
  go_loopg [] n (fun k wr => FiRel w B d l n k wr)
  case atStart => exact hrel0
  case round =>
    obtain ⟨d', bs, s, c, hR, hL, hc, hck, hM, hO⟩ := hrel
    have hR' := hR
    obtain ⟨hb, hown, hne, hs, hb256⟩ := hR
    have c1 := hb.cell (i := 1) rfl
    have c2 := hb.cell (i := 2) rfl
    have f1 := hb.frozen 1
    have f2 := hb.frozen 2
    have hlen : l.length = c + 8 * bs.length := by rw [← hL, rsize]
    have HL := hid hL
    by_cases hcn : c < n
    · match bs, hR', hown, hb256, hlen, HL, hL with
      | [], _, _, _, hlen, _, _ => simp at hlen; omega
      | b :: bt, hR', hown, hb256, hlen, HL, hL =>
      obtain ⟨q, hq⟩ : ∃ q, q = s + 2 ^ c * b := ⟨_, rfl⟩
      have hb8 : b < 256 := hb256 b (by simp)
      have hos := or_shift8 s b c hs (by omega) hb8
      rw [← hq] at hos
      have hmid := hid (fill_mid hR' hb8 hq)
      have hjoin : bitsOf (c + 8) q ++ bits8 bt = l := by
        rw [← hL, hq, bitsOf_join c 8 s b hs, bits8_cons, List.append_assoc]
      have Hos := hid hos
      have HJ := hid hjoin
      obtain ⟨ao, cap, rfl, hcap, hmax⟩ := hown.form
      obtain ⟨g, off, rfl, hcell⟩ : ∃ g off, ao = some ⟨g, off, none⟩ ∧ wr.cell? ⟨g, off, none⟩ = some (.int .u8 (b : Int)) := by
        obtain ⟨_, ao', cap', hv, _, _, _, h0 | ⟨g, off, hg, hr⟩⟩ := hown.rd
        · simp at h0
        · simp only [Value.slice.injEq, true_and] at hv
          obtain ⟨rfl, rfl⟩ := hv
          exact ⟨g, off, hg, by have := hr 0 (.int .u8 (b : Int)) (by simp [u8s]); simpa using this⟩
      have c0 := hb.cell0 rfl
      have hbl : bt.length < 1099511627000 := by simp at hlen; omega
      have hi0 : (0 : Int) < (((b :: bt).length : Nat) : Int) := by simp
      clear hL hs hos hq hjoin hlen
      go_wp2
      refine wp_region_still_tail 17 (by kernel_rfl) (by kernel_rfl) ?_
      simp only [List.take_succ_cons, List.take_zero, List.drop_succ_cons, List.drop_zero]
      change wpStill _ _ wr.drew _ _ _
      iterate 17 still_step
      refine wpStill_nil ?_
      rw [IntWalk.u64_in (b : Int) (by omega), Hos.out]
      go_wp2_with fail
      refine (skip_any B _ (b :: bt) q (c + 8) 1 _ hmid.out.1 (by simp) (by simp; omega)).mono ?_
      rintro e w1 ⟨rfl, d1, hR1, hM1, hd1⟩
      go_wp2
      go_roundg (gk - 1)
      case measure => omega
      case rel =>
        have hM2 := hmid.out.2.trans hM1 (fun _ _ h => h)
        refine ⟨d1, bt, q, c + 8, hR1, HJ.out, by omega, by omega, ?_, ?_⟩
        · exact hM.trans hM2 (fun _ _ h => h)
        · rcases hd1 with hd1 | hd1
          · rw [hd1]; exact hO
          · exact .inr hd1
    · go_wp2
      go_end0
      exact ⟨rfl, d', bs, s, c, hR', HL.out, hc, by omega, hM, hO⟩
end Go.Proofs.YtbkbkmgogbgofaaDoor
/-
  The contracts of the bit reader's methods: Peek, Get, Read.
-/
namespace Go.Proofs.YtbkbkmgogbgofaaDoor
set_option maxRecDepth 5000
open Go.RowKit
theorem numOf_take {c s n : Nat} {t : List Nat} (h : n ≤ c) : numOf ((bitsOf c s ++ t).take n) = s % 2 ^ n := by
  rw [List.take_append_of_le_length (by rw [bitsOf_length]; exact h)]
  have h1 := bitsOf_add n (c - n) s
  rw [show n + (c - n) = c by omega] at h1
  rw [h1, List.take_append_of_le_length (by rw [bitsOf_length]; omega), List.take_of_length_le (by rw [bitsOf_length]; omega), numOf_bitsOf]
theorem peek_few (B : Place) (d : Value) (l : List Nat) (n : Nat) (w : World) (h : Rr w B d l) (hn : n ≤ 32) (hnl : l.length < n) :
    Calls Tryd.prog 60 #[.pointer (some ⟨B.b, B.o, none⟩), .int .i64 (n : Int)] w fun e w' => e = .returned (.tuple #[.int .u32 0, .bool false]) ∧ ∃ k, w' = w.drewN k := by
  have h1 : (l.length : Int) < (n : Int) := by omega
  go_enter Tryd.func60, Tryd.ntmps60
  go_wp2_with (first | (go_at_call 79; refine (fits_yes _ _ ⟨by omega, by omega⟩).mono ?_; rintro e w' ⟨rfl, rfl⟩) | (go_at_call 35; refine (left_any B d l w h (by omega)).mono ?_; rintro e w' ⟨rfl, k, rfl⟩))
  go_ret2
  exact ⟨rfl, _, rfl⟩
theorem peek_any (B : Place) (d : Value) (l : List Nat) (n : Nat) (w : World) (h : Rr w B d l) (hn : n ≤ 32) (hnl : n ≤ l.length) (hl : l.length < 1099511627000) :
    Calls Tryd.prog 60 #[.pointer (some ⟨B.b, B.o, none⟩), .int .i64 (n : Int)] w fun e w' => e = .returned (.tuple #[.int .u32 ((numOf (l.take n) : Nat) : Int), .bool true]) ∧ FiRel w B d l n 0 w' := by
  have hd : decide ((l.length : Int) < (n : Int)) = false := by simp; omega
  have hlt := hid h.lt
  have hbits := hid h.isBits
  go_enter Tryd.func60, Tryd.ntmps60
  go_wp2_with (first | (go_at_call 79; refine (fits_yes _ _ ⟨by omega, by omega⟩).mono ?_; rintro e w' ⟨rfl, rfl⟩) | (go_at_call 35; refine (left_any B d l w h (by omega)).mono ?_; rintro e w' ⟨rfl, k, rfl⟩) | fail)
  have h2 : Rr (w.drewN k) B d l := h.kept (S := fun _ => False) ((Mod.refl w _).drewN k) (fun _ _ h => h)
  refine (fill_any B d l n (w.drewN k) h2 hn hnl hl).mono ?_
  rintro e w2 ⟨rfl, d', bs, s, c, hR, hL, hc, hck, hM, hO⟩
  have hs := hid hR.2.2.2.1
  have hR' := hid hR
  have c1 := hR.1.cell (i := 1) rfl
  have HL := hid hL
  have h39 : s < 18446744073709551616 := Nat.lt_of_lt_of_le hR.2.2.2.1 (Nat.le_trans (Nat.pow_le_pow_right (by decide) (show c ≤ 64 by omega)) (by decide))
  obtain ⟨m, hm⟩ : ∃ m, m = s % 2 ^ n := ⟨_, rfl⟩
  have hm32 : m < 4294967296 := by
    rw [hm]; exact Nat.lt_of_lt_of_le (Nat.mod_lt _ (Nat.two_pow_pos n)) (Nat.pow_le_pow_right (by decide) hn)
  have HMm : Hid (numOf (l.take n) = m) := by
    show numOf (l.take n) = m
    rw [← hL, numOf_take (by omega), hm]
  have hm0 := hid hm
  clear hR hL hm
  go_wp2_with (go_at_call 81; refine (lowest_of s n m _ h39 hn hm0.out).mono ?_; rintro e w3 ⟨rfl, rfl⟩)
  go_ret2
  rw [HMm.out]
  refine ⟨rfl, d', bs, s, c, hR'.out, HL.out, hc, hck, ?_, hO⟩
  exact (((Mod.refl w (fun k => k = B.b)).drewN k).trans hM fun _ _ h => h)
theorem get_few (B : Place) (d : Value) (l : List Nat) (n : Nat) (w : World) (h : Rr w B d l) (hn : n ≤ 32) (hnl : l.length < n) :
    Calls Tryd.prog 47 #[.pointer (some ⟨B.b, B.o, none⟩), .int .i64 (n : Int)] w fun e w' => e = .returned (.tuple #[.int .u32 0, .bool false]) ∧ ∃ k, w' = w.drewN k := by
  go_enter Tryd.func47, Tryd.ntmps47
  go_wp2_with (go_at_call 60; refine (peek_few B d l n w h hn hnl).mono ?_; rintro e w' ⟨rfl, k, rfl⟩)
  go_ret2
  exact ⟨rfl, _, rfl⟩
theorem get_any (B : Place) (d : Value) (l : List Nat) (n : Nat) (w : World) (h : Rr w B d l) (hn : n ≤ 32) (hnl : n ≤ l.length) (hl : l.length < 1099511627000) :
    Calls Tryd.prog 47 #[.pointer (some ⟨B.b, B.o, none⟩), .int .i64 (n : Int)] w fun e w' => e = .returned (.tuple #[.int .u32 ((numOf (l.take n) : Nat) : Int), .bool true]) ∧ RKeep w w' B d (l.drop n) := by
  have hlt := hid h.lt
  go_enter Tryd.func47, Tryd.ntmps47
  go_wp2_with fail
  refine (peek_any B d l n w h hn hnl hl).mono ?_
  rintro e w1 ⟨rfl, d', bs, s, c, hR, hL, hc, hck, hM, hO⟩
  have HL := hid hL
  clear hL
  obtain ⟨m, hm⟩ : ∃ m, m = numOf (l.take n) := ⟨_, rfl⟩
  rw [← hm]
  go_wp2_with fail
  refine (drop_any B d' bs s c n w1 hR (by omega) hc).mono ?_
  rintro e w2 ⟨rfl, hR2, hM2⟩
  go_wp2
  go_ret2
  refine ⟨rfl, d', ⟨bs, _, _, hR2, by omega, ?_⟩, hM.trans hM2 (fun _ _ h => h), hO⟩
  rw [← HL.out, List.drop_append_of_le_length (by rw [bitsOf_length]; omega)]
  have h1 := bitsOf_add n (c - n) s
  rw [show n + (c - n) = c by omega] at h1
  rw [h1, List.drop_append, bitsOf_length, Nat.sub_self, List.drop_eq_nil_of_le (by rw [bitsOf_length]; omega)]
  rfl
end Go.Proofs.YtbkbkmgogbgofaaDoor
/-
  The contract of the bit reader's method Read.
-/
namespace Go.Proofs.YtbkbkmgogbgofaaDoor
set_option maxRecDepth 5000
open Go.RowKit
def RlRel (w : World) (H : Nat) (B : Place) (d : Value) (bs : List Nat) (L : List Nat) (n k : Nat) (v : Value) (wr : World) : Prop :=
  ∃ outs s c a5 c5, v = .slice a5 (outs.length) c5 ∧ outs.length ≤ n ∧ Own wr 5 1 v outs.length (u8s outs) ∧ RIs wr B d bs s c ∧ c % 8 = 0 ∧ c ≤ 39 ∧ c ≤ k ∧ bits8 outs ++ bitsOf c s = L ∧ (∀ b ∈ outs, b < 256) ∧
    Mod w wr (fun k => k = B.b ∨ H ≤ k) ∧ (∀ k, v.ownBlock = some k → H ≤ k)
theorem rl_round {w wr w1 w2 : World} {H : Nat} {B : Place} {d : Value} {bs outs L : List Nat} {n s c : Nat} {a5 a1 : Option Addr} {c5 c1 j : Nat} {x : Int} {o : Obj} (hx : x = ((s % 256 : Nat) : Int)) (hj : j = outs.length) (hjn : j < n) (hc8 : 8 ≤ c) (hcm : c % 8 = 0) (hc : c ≤ 39)
    (hL : bits8 outs ++ bitsOf c s = L) (h256 : ∀ b ∈ outs, b < 256) (hM : Mod w wr (fun k => k = B.b ∨ H ≤ k)) (hfr : ∀ k, Value.ownBlock (.slice a5 j c5) = some k → H ≤ k) (hHw : H ≤ wr.heap.size) (hBH : B.b < H)
    (hown1 : Own w1 5 1 (.slice a1 (j + 1) c1) (j + 1) (u8s outs ++ [.int .u8 x])) (hgrow : (wr.alloc o).grownBy w1 (Value.ownBlock (.slice a5 j c5)))
    (hat : Value.ownBlock (.slice a1 (j + 1) c1) = Value.ownBlock (.slice a5 j c5) ∨ Value.ownBlock (.slice a1 (j + 1) c1) = some (wr.alloc o).heap.size)
    (hR2 : RIs w2 B d bs (s / 2 ^ 8) (c - 8)) (hM2 : Mod w1 w2 (fun k => k = B.b)) : RlRel w H B d bs L n (c - 8) (.slice a1 (j + 1) c1) w2 := by
  subst hj hx
  have hsz : (wr.alloc o).heap.size = wr.heap.size + 1 := by show (wr.heap.push o).size = _; simp
  have hfr1 : ∀ k, Value.ownBlock (.slice a1 (outs.length + 1) c1) = some k → H ≤ k := by
    intro k hk
    rcases hat with h | h
    · exact hfr k (h ▸ hk)
    · rw [h, hsz] at hk; injection hk with hk; omega
  have hlen : (outs ++ [s % 256]).length = outs.length + 1 := by simp
  have hM1 : Mod w w1 (fun k => k = B.b ∨ H ≤ k) := (hM.alloc o).grown hgrow fun k hk => .inr (.inr (hfr k hk))
  refine ⟨outs ++ [s % 256], s / 2 ^ 8, c - 8, a1, c1, by rw [hlen], by omega, ?_, hR2, by omega, by omega, Nat.le_refl _, ?_, ?_, hM1.trans hM2 (fun k _ e => .inl e), hfr1⟩
  · rw [hlen]
    have e : u8s outs ++ [Value.int .u8 ((s % 256 : Nat) : Int)] = u8s (outs ++ [s % 256]) := by rw [u8s_append]; rfl
    rw [e] at hown1
    exact hown1.kept hM2 (fun k hk e => by have := hfr1 k hk; omega)
  · rw [← hL, bits8_append, bits8_cons, bits8_nil, List.append_nil, List.append_assoc]
    congr 1
    have h1 := bitsOf_add 8 (c - 8) s
    rw [show 8 + (c - 8) = c by omega] at h1
    rw [h1, show s % 256 = s % 2 ^ 8 from rfl, bitsOf_mod]
  · intro b hb'
    rcases List.mem_append.1 hb' with h | h
    · exact h256 b h
    · simp at h; omega
def readN (l : List Nat) (n : Int) : Nat := min n.toNat ((l.drop (l.length % 8)).length / 8)
theorem read_fin {outs bs : List Nat} {c s N more : Nat} {l1 : List Nat} (hL : l1 = (bits8 outs ++ bitsOf c s) ++ bits8 bs) (hc : c = 0 ∨ outs.length = N) (hcm : c % 8 = 0) (ho : outs.length ≤ N) (hN : N ≤ l1.length / 8)
    (hmore : more = N - outs.length) (h256 : ∀ b ∈ outs, b < 256) (hb256 : ∀ b ∈ bs, b < 256) :
    outs ++ bs.take more = (bytesOf l1).take N ∧ bitsOf c s ++ bits8 (bs.drop more) = l1.drop (8 * N) ∧ more ≤ bs.length := by
  have hlen := congrArg List.length hL
  simp only [List.length_append, bits8_length, bitsOf_length] at hlen
  rcases hc with rfl | hc
  · simp only [bitsOf, List.append_nil] at hL
    have hLL : l1 = bits8 (outs ++ bs) ++ [] := by rw [hL, bits8_append, List.append_nil]
    have hB : bytesOf l1 = outs ++ bs := by
      rw [hLL]; exact bytesOf_bits8 _ _ (fun b hb' => (List.mem_append.1 hb').elim (h256 b) (hb256 b)) (by simp)
    refine ⟨?_, ?_, by omega⟩
    · rw [hB, List.take_append, List.take_of_length_le ho, hmore]
    · rw [hLL, List.append_nil, bits8_drop, List.drop_append, List.drop_eq_nil_of_le ho, hmore]; simp [bitsOf]
  · have hm0 : more = 0 := by omega
    subst hm0
    refine ⟨?_, ?_, by omega⟩
    · have hdiv : l1 = bits8 outs ++ (bitsOf c s ++ bits8 bs) := by rw [hL, List.append_assoc]
      have hcb : ∃ ks : List Nat, bitsOf c s = bits8 ks ∧ ∀ b ∈ ks, b < 256 := by
        obtain ⟨m, hm⟩ : ∃ m, c = 8 * m := ⟨c / 8, by omega⟩
        subst hm
        clear hL hlen hdiv hcm hc
        induction m generalizing s with
        | zero => exact ⟨[], rfl, by simp⟩
        | succ m ih =>
          obtain ⟨ks, h1, h2⟩ := ih (s := s / 2 ^ 8)
          refine ⟨s % 256 :: ks, ?_, ?_⟩
          · rw [bits8_cons, ← h1, show 8 * (m + 1) = 8 + 8 * m by omega, bitsOf_add, show s % 256 = s % 2 ^ 8 from rfl, bitsOf_mod]
          · intro b hb'
            rcases List.mem_cons.1 hb' with rfl | h
            · omega
            · exact h2 b h
      obtain ⟨ks, h1, h2⟩ := hcb
      have hB : bytesOf l1 = outs ++ (ks ++ bs) := by
        have : l1 = bits8 (outs ++ (ks ++ bs)) ++ [] := by rw [hdiv, h1, bits8_append, bits8_append, List.append_nil]
        rw [this]
        exact bytesOf_bits8 _ _ (fun b hb' => by
          rcases List.mem_append.1 hb' with h | h
          · exact h256 b h
          · rcases List.mem_append.1 h with h | h
            · exact h2 b h
            · exact hb256 b h) (by simp)
      rw [hB, ← hc]; simp
    · rw [hL, ← hc, List.append_assoc, ← bits8_length outs, List.drop_left]; simp
theorem rl_start {w2 : World} {H N : Nat} {B : Place} {d : Value} {bs : List Nat} {s c : Nat} {v : Value} (hv : ∃ a5 c5, v = .slice a5 0 c5) (hown : Own w2 5 1 v 0 []) (hR : RIs w2 B d bs s c) (hcm : c % 8 = 0) (hc : c ≤ 39) (hfr : ∀ k, v.ownBlock = some k → H ≤ k) :
    RlRel w2 H B d bs (bitsOf c s) N c v w2 := by
  obtain ⟨a5, c5, rfl⟩ := hv
  exact ⟨[], s, c, a5, c5, rfl, Nat.zero_le _, hown, hR, hcm, hc, Nat.le_refl _, rfl, by simp, Mod.refl _ _, hfr⟩
theorem read_end {w w1 w2 wr w5 w6 : World} {H N more s c k : Nat} {B : Place} {d d1 d' v : Value} {l1 outs bs : List Nat} {ao5 : Option Addr} {c5 j : Nat} (hM1 : Mod w w1 (fun k => k = B.b)) (hmv1 : d1.ownBlock = d.ownBlock ∨ d1.ownBlock = none) (hH : H = w1.heap.size)
    (hgrow2 : (w1.drewN k).grownBy w2 none) (hMr : Mod w2 wr (fun k => k = B.b ∨ H ≤ k)) (hfr : ∀ k, Value.ownBlock (.slice ao5 j c5) = some k → H ≤ k) (hgrow : wr.grownBy w5 (Value.ownBlock (.slice ao5 j c5)))
    (hat : v.ownBlock = Value.ownBlock (.slice ao5 j c5) ∨ v.ownBlock = some wr.heap.size)
    (hfin : outs ++ bs.take more = (bytesOf l1).take N ∧ bitsOf c s ++ bits8 (bs.drop more) = l1.drop (8 * N) ∧ more ≤ bs.length)
    (hown5 : Own w5 5 1 v N (u8s (outs ++ bs.take more))) (hc : c ≤ 39)
    (hR6 : RIs w6 B d' (bs.drop more) s c) (hM6 : Mod w5 w6 (fun k => k = B.b)) (hd' : d'.ownBlock = d1.ownBlock ∨ d'.ownBlock = none) (hBH : B.b < H) :
    Own w6 5 1 v N (u8s ((bytesOf l1).take N)) ∧ RKeep w w6 B d (l1.drop (8 * N)) ∧ (∀ k, v.ownBlock = some k → w.heap.size ≤ k) := by
  have hM2 : Mod w1 w2 (fun _ => False) := ((Mod.refl w1 _).drewN k).grown hgrow2 (fun k hk => by cases hk)
  have hHr : H ≤ wr.heap.size := by rw [hH]; exact Nat.le_trans hM2.size hMr.size
  have hfrv : ∀ k, v.ownBlock = some k → H ≤ k := by
    intro k hk
    rcases hat with h | h
    · exact hfr k (h ▸ hk)
    · rw [h] at hk; injection hk with hk; omega
  have hMa : Mod w1 w6 (fun k => k = B.b) := by
    refine ((hM2.mono (T := fun k => k = B.b) (fun _ _ h => h.elim)).trans hMr ?_).trans ?_ (T := fun k => k = B.b ∨ H ≤ k) ?_
    · intro k hk hs; rcases hs with hs | hs
      · exact hs
      · omega
    · exact ((Mod.refl wr (fun k => k = B.b ∨ H ≤ k)).grown hgrow fun k hk => .inr (.inr (hfr k hk))).trans hM6 (fun k _ e => .inl e)
    · intro k hk hs; rcases hs with hs | hs
      · exact hs
      · omega
  refine ⟨?_, ⟨d', ⟨_, _, _, hR6, hc, hfin.2.1.symm⟩, hM1.same hMa, ?_⟩, fun k hk => Nat.le_trans hM1.size (by rw [← hH]; exact hfrv k hk)⟩
  · rw [← hfin.1]
    exact hown5.kept hM6 (fun k hk e => by have := hfrv k hk; omega)
  · rcases hd' with h | h
    · rw [h]; exact hmv1
    · exact .inr h
theorem read_zero (B : Place) (d : Value) (l : List Nat) (n : Int) (w : World) (h : Rr w B d l) (hl : l.length < 1099511600000) (h0 : readN l n = 0) :
    Calls Tryd.prog 31 #[.pointer (some ⟨B.b, B.o, none⟩), .int .i64 n] w fun e w' => e = .returned (.slice none 0 0) ∧ RKeep w w' B d (l.drop (l.length % 8)) := by
  obtain ⟨l1, hl1⟩ : ∃ l1, l1 = l.drop (l.length % 8) := ⟨_, rfl⟩
  have hl1b : l1.length < 1099511600000 := by rw [hl1, List.length_drop]; omega
  unfold readN at h0
  rw [← hl1] at h0 ⊢
  have HL := hid hl1
  clear hl1
  have hcase : n ≤ (l1.length : Int) / 8 ∧ n < 1 ∨ (l1.length : Int) / 8 < n ∧ (l1.length : Int) / 8 < 1 := by omega
  rcases hcase with ⟨hnl, hn1⟩ | ⟨hnl, hn1⟩
  all_goals
    go_enter Tryd.func31, Tryd.ntmps31
    go_wp2_with fail
    refine (ralign_any B d l w h).mono ?_
    rw [← HL.out]
    rintro e w1 ⟨rfl, d1, hR1, hM1, hmv1⟩
    go_wp2_with (go_at_call 35; refine (left_any B d1 l1 w1 hR1 (by omega)).mono ?_; rintro e w' ⟨rfl, k, rfl⟩)
    go_ret
    exact ⟨rfl, d1, hR1.kept (S := fun _ => False) ((Mod.refl w1 _).drewN k) (fun _ _ h => h), hM1.drewN k, hmv1⟩
set_option maxHeartbeats 1600000 in
theorem read_some (B : Place) (d : Value) (l : List Nat) (n : Int) (N : Nat) (w : World) (h : Rr w B d l) (hl : l.length < 1099511600000) (hN : readN l n = N) (hN0 : 0 < N) :
    Calls Tryd.prog 31 #[.pointer (some ⟨B.b, B.o, none⟩), .int .i64 n] w fun e w' => ∃ v, e = .returned v ∧ Own w' 5 1 v N (u8s ((bytesOf (l.drop (l.length % 8))).take N)) ∧
      RKeep w w' B d ((l.drop (l.length % 8)).drop (8 * N)) ∧ (∀ k, v.ownBlock = some k → w.heap.size ≤ k) := by
  obtain ⟨i, hi, hz0, hz1, hz2⟩ := info_parts Tryd.infoByte
  obtain ⟨l1, hl1⟩ : ∃ l1, l1 = l.drop (l.length % 8) := ⟨_, rfl⟩
  have hl1b : l1.length < 1099511600000 := by rw [hl1, List.length_drop]; omega
  unfold readN at hN
  rw [← hl1] at hN ⊢
  have HL := hid hl1
  have hNb : N ≤ l1.length / 8 := by omega
  clear hl1
  have hcase : n = (N : Int) ∧ (N : Int) ≤ (l1.length : Int) / 8 ∨ (l1.length : Int) / 8 < n ∧ (l1.length : Int) / 8 = (N : Int) := by omega
  have hN1 : (1 : Int) ≤ (N : Int) := by omega
  have hNN : N < 1099511600000 := by omega
  clear hN
  rcases hcase with ⟨rfl, hnl⟩ | ⟨hnl, hq⟩
  all_goals
    go_enter Tryd.func31, Tryd.ntmps31
    go_wp2_with fail
    refine (ralign_any B d l w h).mono ?_
    rw [← HL.out]
    rintro e w1 ⟨rfl, d1, hR1, hM1, hmv1⟩
    have hR1' := hid hR1
    go_wp2_with (first
      | (go_at_call 35; refine (left_any B d1 l1 w1 hR1 (by omega)).mono ?_; rintro e w' ⟨rfl, k, rfl⟩)
      | (at_make; refine Go.wpList_make_own _ rfl _ _ 26 rfl 0 5 i (.int .u8 0) 1 Tryd.underlying26 hi hz0 hz1 .i64 .i64 _ N rfl rfl rfl (by rw [hz2]; omega) (by unfold maxLen; omega) (Nat.zero_le _) ?_; intro w2 hown2 hgrow2))
    have hH : w1.heap.size = (w1.drewN k).heap.size := rfl
    obtain ⟨H, hHe⟩ : ∃ H, H = w1.heap.size := ⟨_, rfl⟩
    have hM2 : Mod w1 w2 (fun _ => False) := ((Mod.refl w1 _).drewN k).grown hgrow2 (fun k hk => by cases hk)
    have hR2 := hR1'.out.kept hM2 (fun _ _ h => h)
    have hBH : B.b < H := by rw [hHe]; exact hR1'.out.lt B.b (.inl rfl)
    have hH2 : H ≤ w2.heap.size := by rw [hHe]; exact hM2.size
    obtain ⟨bs, s, c, hRI, hc, hl1'⟩ := hR2
    have hcm : c % 8 = 0 := by
      have h1 := congrArg List.length hl1'
      rw [rsize] at h1
      have h2 : l1.length % 8 = 0 := by rw [HL.out, List.length_drop]; omega
      omega
    have hst := rl_start (N := N) (H := H) ⟨_, _, rfl⟩ (Own.of_row hown2) hRI hcm hc (fun k hk => by simp only [Value.ownBlock, Option.some.injEq] at hk; rw [← hk, hHe]; exact Nat.le_refl _)
    have hlb : bs.length < 1099511600000 := by have h1 := congrArg List.length hl1'; rw [rsize] at h1; omega
    have hd1f := hRI.2.1.form
    have hb256 := hRI.2.2.2.2
    have HL1 := hid hl1'
    have HH := hid hHe
    have HG2 := hid hgrow2
    have hdH : ∀ k, WSet B.b d1 k → ¬ H ≤ k := fun k hk => by have := hR1'.out.lt k hk; omega
    have HdH := hid hdH
    clear hR1 hl1' hHe hgrow2 hM2 hown2 hRI hH hdH
    obtain ⟨ao, cap, rfl, _, _⟩ := hd1f
    go_loopg [5] c (fun k t5 wr => RlRel w2 H B (.slice ao bs.length cap) bs (bitsOf c s) N k t5 wr)
    case atStart => exact hst
    case round =>
      obtain ⟨outs, s', c', a5, c5, rfl, hon, hown, hRI, hcm', hc', hck, hL', h256, hMr, hfr⟩ := hrel
      obtain ⟨j, hj⟩ : ∃ j, j = outs.length := ⟨_, rfl⟩
      rw [← hj] at hown hfr hon ⊢
      have HJ := hid hj
      have HL2 := hid hL'
      have hHr : H ≤ wr.heap.size := Nat.le_trans hH2 hMr.size
      have c0 := hRI.1.cell0 rfl
      have c1 := hRI.1.cell (i := 1) rfl
      have c2 := hRI.1.cell (i := 2) rfl
      have HRI := hid hRI
      clear hj hL' hRI
      by_cases hgo : 8 ≤ c' ∧ j < N
      · obtain ⟨hc8, hjN⟩ := hgo
        have hc0 : (0 : Int) < (c' : Int) := by omega
        go_wp2_with (first
          | (at_builtin; refine wpList_app1 rfl (.tmp 31) (.tmp 37) 26 rfl 5 i (.int .u8 0) 1 Tryd.underlying26 hi hz0 hz1 hz2 rfl (.slice a5 j c5) j (u8s outs) rfl hown rfl rfl (by unfold maxLen; omega) (by omega) ?_; intro ao1 cap1 w3 hown1 hgrow hat)
          | (go_at_call 36; refine (drop_any B (.slice ao bs.length cap) bs s' c' 8 w3 (HRI.out.kept (((Mod.refl wr (fun k => H ≤ k)).alloc _).grown hgrow (fun k hk => .inr (hfr k hk))) HdH.out) hc8 hc').mono ?_; rintro e w4 ⟨rfl, hR4, hM4⟩))
        go_roundg (c' - 8)
        case measure => omega
        case rel => exact rl_round (by omega) HJ.out hjN hc8 hcm' hc' HL2.out h256 hMr hfr hHr hBH hown1 hgrow hat hR4 hM4
      · obtain ⟨more, hmore⟩ : ∃ more, more = N - j := ⟨_, rfl⟩
        have hL1f : l1 = (bits8 outs ++ bitsOf c' s') ++ bits8 bs := by rw [HL2.out]; exact HL1.out
        have hfin := read_fin (N := N) (more := more) hL1f (by have := HJ.out; omega) hcm' (by rw [← HJ.out]; exact hon) hNb (by rw [← HJ.out]; exact hmore) h256 hb256
        have hml : more ≤ bs.length := hfin.2.2
        have HF := hid hfin
        have HMo := hid hmore
        have hmi : (N : Int) - (j : Int) = (more : Int) := by omega
        have hex : ¬ (0 : Int) < (c' : Int) ∨ (0 : Int) < (c' : Int) ∧ ¬ (j : Int) < (N : Int) := by omega
        clear hfin hL1f
        rcases hex with hex | ⟨hex, hex2⟩
        all_goals
          clear hmore hgo
          go_wp2_with (first
            | ((with_reducible show wpList _ _ _ (⟨some 51, _, _, _, _, _⟩ :: _) _ _); refine wpList_cut_rd (w := wr) rfl 26 (.tmp 49) none (some (.tmp 50)) rfl 5 i 1 Tryd.underlying26 hi hz1 ao bs.length cap 0 more (u8s bs) rfl HRI.out.2.1.rd rfl ⟨_, rfl⟩ (Nat.zero_le _) hml ?_; simp only [Nat.sub_zero, Nat.mul_one, List.drop_zero]; intro a' hrd' hbl')
            | (at_builtin; refine wpList_app _ rfl (.tmp 45) (.tmp 51) 26 rfl 5 i (.int .u8 0) 1 1 Tryd.underlying26 hi hz0 hz1 hz2 rfl (by decide) (.slice a5 j c5) j (u8s outs) rfl hown _ more ((u8s bs).take more) rfl (by assumption) (by intro u hu; exact u8s_one _ u (List.mem_of_mem_take hu)) (by unfold maxLen; omega) (by omega) ?_; intro ao1 cap1 w5 hown5 hgrow hat)
            | (go_at_call 37; refine (skip_any B (.slice ao bs.length cap) bs s' c' more w5 (HRI.out.kept ((Mod.refl wr (fun k => H ≤ k)).grown hgrow (fun k hk => .inr (hfr k hk))) HdH.out) hml (by omega)).mono ?_; rintro e w6 ⟨rfl, d', hR6, hM6, hd'⟩))
          go_ret
          refine ⟨_, rfl, ?_⟩
          have hjm : j + more = N := by have := HMo.out; omega
          rw [hjm] at hown5 hat ⊢
          have hfx := HF.out
          rw [show u8s outs ++ (u8s bs).take more = u8s (outs ++ bs.take more) by rw [u8s_append]; simp [u8s]] at hown5
          exact read_end hM1 hmv1 HH.out HG2.out hMr hfr hgrow hat hfx hown5 hc' hR6 hM6 hd' hBH
end Go.Proofs.YtbkbkmgogbgofaaDoor
