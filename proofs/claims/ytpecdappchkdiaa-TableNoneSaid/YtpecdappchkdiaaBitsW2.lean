/-
  The contracts of the bit writer's methods over 'flush': Put, Align, Write, Take, Bits, NewWriter.
-/
import Derived.Test.YtpecdappchkdiaaBitsW
import Derived.Test.YtpecdappchkdiaaOwn2
namespace Go.Proofs.Ytpecdappchkdiaa
open Go.RowKit

theorem new_writer (w : World) :
    Calls Try.prog 17 #[] w fun e w' => e = .returned (.pointer (some ⟨w.heap.size, 0, none⟩)) ∧ w' = w.alloc (.cells #[.slice none 0 0, .int .u64 0, .int .i64 0] 71) := by
  go_enter Try.func17, Try.ntmps17
  go_wp2
  go_ret
  exact ⟨rfl, rfl⟩
theorem wr_new (w : World) : Wr (w.alloc (.cells #[.slice none 0 0, .int .u64 0, .int .i64 0] 71)) w.heap.size (.slice none 0 0) [] :=
  ⟨[], 0, 0, ⟨Blk.new w _ _, Own.nil _ _ _, by simp [Value.ownBlock], by simp, by simp⟩, by omega, by simp [bits8, bitsOf]⟩

/-- the spare bits with a number's bits above them -/
theorem or_shift (s v c : Nat) (hs : s < 2 ^ c) (hc : c < 8) (hv : v < 4294967296) :
    bits .or .u64 (s : Int) (IntKind.u64.wrap ((v : Int) * 2 ^ c)) = ((s + 2 ^ c * v : Nat) : Int) := by
  have h1 : (2 : Nat) ^ c ≤ 2 ^ 7 := Nat.pow_le_pow_right (by decide) (by omega)
  have h2 : 2 ^ c * v < 2 ^ 7 * 4294967296 := Nat.lt_of_le_of_lt (Nat.mul_le_mul_right _ h1) (by omega)
  have e1 : IntKind.u64.wrap ((v : Int) * 2 ^ c) = ((2 ^ c * v : Nat) : Int) := by
    have : ((v : Int) * 2 ^ c) = ((2 ^ c * v : Nat) : Int) := by rw [two_pow_int, Nat.mul_comm]; simp
    rw [this, IntWalk.u64_in _ (by omega)]
  rw [e1, bits_or_u64_nat s _ (by omega) (by omega), Nat.or_comm, ← Nat.two_pow_add_eq_or_of_lt hs, Nat.add_comm]

theorem wsize {bs : List Nat} {s c : Nat} : (bits8 bs ++ bitsOf c s).length = 8 * bs.length + c := by rw [List.length_append, bits8_length, bitsOf_length]

theorem lowest_of (v k m : Nat) (w : World) (hv : v < 18446744073709551616) (hk : k ≤ 32) (hm : m = v % 2 ^ k) :
    Calls Try.prog 45 #[.int .u64 (v : Int), .int .i64 (k : Int)] w fun e w' => e = .returned (.int .u64 (m : Int)) ∧ w' = w := by
  rw [hm]; exact lowest_any v k w hv hk

theorem put_mid {w : World} {B : Nat} {d : Value} {bs : List Nat} {s c n m q : Nat} (hb : Blk w B [d, .int .u64 (s : Int), .int .i64 (c : Int)] 71) (hown : Own w 5 1 d bs.length (u8s bs)) (hne : d.ownBlock ≠ some B)
    (hs : s < 2 ^ c) (hb256 : ∀ b ∈ bs, b < 256) (hm : m < 2 ^ n) (hq : q = s + 2 ^ c * m) :
    WIs ((w.setCell ⟨B, 1, none⟩ (.int .u64 (q : Int))).setCell ⟨B, 2, none⟩ (.int .i64 ((c : Int) + (n : Int)))).drew B d bs q (c + n) ∧
      Mod w ((w.setCell ⟨B, 1, none⟩ (.int .u64 (q : Int))).setCell ⟨B, 2, none⟩ (.int .i64 ((c : Int) + (n : Int)))).drew (WSet B d) := by
  have hM : Mod w ((w.setCell ⟨B, 1, none⟩ (.int .u64 (q : Int))).setCell ⟨B, 2, none⟩ (.int .i64 ((c : Int) + (n : Int)))).drew (fun k => k = B) :=
    ((((Mod.refl w (fun k => k = B)).setCell (p := ⟨B, 1, none⟩) (.inr rfl) _).setCell (p := ⟨B, 2, none⟩) (.inr rfl) _)).drew
  refine ⟨⟨?_, hown.kept hM (fun k hk e => hne (by rw [hk, e])), hne, ?_, hb256⟩, hM.mono fun k _ e => .inl e⟩
  · have := (hb.set 1 (.int .u64 (q : Int))).set 2 (.int .i64 ((c : Int) + (n : Int)))
    simp only [List.set_cons_zero, List.set_cons_succ] at this
    exact this
  · rw [hq, Nat.pow_add]
    have h1 : 2 ^ c * m + 2 ^ c ≤ 2 ^ c * 2 ^ n := by
      rw [← Nat.mul_succ]; exact Nat.mul_le_mul_left _ hm
    omega

set_option maxHeartbeats 800000 in
theorem put_any (B : Nat) (d : Value) (l : List Nat) (v n : Nat) (w : World) (h : Wr w B d l) (hv : v < 4294967296) (hn : n ≤ 32) (hl : l.length < 1099511627000) :
    Calls Try.prog 35 #[.pointer (some ⟨B, 0, none⟩), .int .u32 (v : Int), .int .i64 (n : Int)] w fun e w' => e = .returned (.tuple #[]) ∧ WStep w w' B d (l ++ bitsOf n v) := by
  have hlt := hid h.lt
  obtain ⟨bs, s, c, ⟨hb, hown, hne, hs, hb256⟩, hc, hl'⟩ := h
  have c1 := hb.cell (i := 1) rfl
  have c2 := hb.cell (i := 2) rfl
  have f1 := hb.frozen 1
  have f2 := hb.frozen 2
  obtain ⟨m, hm⟩ : ∃ m, m = v % 2 ^ n := ⟨_, rfl⟩
  obtain ⟨q, hq⟩ : ∃ q, q = s + 2 ^ c * m := ⟨_, rfl⟩
  have hvm : m < 4294967296 := by rw [hm]; exact Nat.lt_of_le_of_lt (Nat.mod_le _ _) hv
  have hm2 : m < 2 ^ n := by rw [hm]; exact Nat.mod_lt _ (Nat.two_pow_pos n)
  have hos := or_shift s m c hs hc hvm
  rw [← hq] at hos
  have hmid := hid (put_mid hb hown hne hs hb256 hm2 hq)
  have hjoin : bits8 bs ++ bitsOf (c + n) q = l ++ bitsOf n v := by
    rw [hl', hq, bitsOf_join c n s m hs, hm, bitsOf_mod, List.append_assoc]
  have hlen : (bits8 bs ++ bitsOf (c + n) q).length < 1099511627776 := by rw [hjoin, List.length_append, bitsOf_length]; omega
  have Hos := hid hos
  have HM := hid hm
  have HJ := hid hjoin
  have HLen := hid hlen
  clear hs hm hl' hos hq hjoin hm2 hlen
  go_enter Try.func35, Try.ntmps35
  go_wp2_with (go_at_call 43; refine (fits_yes _ _ ⟨by omega, by omega⟩).mono ?_; rintro e w' ⟨rfl, rfl⟩)
  refine wp_region_still_tail 14 (by kernel_rfl) (by kernel_rfl) ?_
  simp only [List.take_succ_cons, List.take_zero, List.drop_succ_cons, List.drop_zero]
  change wpStill _ _ w.drew _ _ _
  iterate 7 still_step
  refine wpStill_step (fun K hK => ?_)
  go_simp
  rw [IntWalk.u64_in (v : Int) (by omega)]
  refine ⟨_, lowest_of v n m _ (by omega) hn HM.out, hK _ ?_⟩
  clear hK K
  iterate 6 still_step
  refine wpStill_nil ?_
  rw [Hos.out]
  go_wp2_with fail
  refine (flush_any B d bs q (c + n) _ hmid.out.1 (by omega) HLen.out).mono ?_
  rintro e w' ⟨rfl, hst⟩
  have hfin := hid (WStep.next hlt.out hmid.out.2 (Or.inl rfl) hst)
  clear hst
  go_wp2
  go_end0
  rw [HJ.out] at hfin
  exact ⟨rfl, hfin.out⟩

theorem put_not (p : Option Addr) (v n : Int) (w : World) (hn : n < 0 ∨ 32 < n) :
    Calls Try.prog 35 #[.pointer p, .int .u32 v, .int .i64 n] w fun e w' => e = .returned (.tuple #[]) ∧ w = w' := by
  cases p with
  | none =>
    go_enter Try.func35, Try.ntmps35
    go_wp2
    refine bodyPost_ret (results_none rfl _ _ _) rfl ?_
    exact ⟨rfl, rfl⟩
  | some a =>
    go_enter Try.func35, Try.ntmps35
    go_wp2_with (go_at_call 43; refine (fits_no _ _ hn).mono ?_; rintro e w' ⟨rfl, rfl⟩)
    refine bodyPost_ret (results_none rfl _ _ _) rfl ?_
    exact ⟨rfl, rfl⟩
theorem put_nil (v n : Int) (w : World) :
    Calls Try.prog 35 #[.pointer none, .int .u32 v, .int .i64 n] w fun e w' => e = .returned (.tuple #[]) ∧ w = w' := by
  go_enter Try.func35, Try.ntmps35
  go_wp2
  refine bodyPost_ret (results_none rfl _ _ _) rfl ?_
  exact ⟨rfl, rfl⟩

/-! ### Align -/
theorem align_list {bs : List Nat} {s c : Nat} (hs : s < 2 ^ c) (hc : c < 8) (h0 : c ≠ 0) : bits8 bs ++ bitsOf 8 s = evened (bits8 bs ++ bitsOf c s) := by
  have h1 := bitsOf_zero_pad c (8 - c) s hs
  rw [show c + (8 - c) = 8 by omega] at h1
  rw [h1, evened, wsize, List.append_assoc]
  congr 3
  omega
theorem even_done {bs : List Nat} : evened (bits8 bs) = bits8 bs := by
  rw [evened, bits8_length]
  have : (8 - 8 * bs.length % 8) % 8 = 0 := by omega
  rw [this]; simp
theorem walign_any (B : Nat) (d : Value) (l : List Nat) (w : World) (h : Wr w B d l) (hl : l.length < 1099511627000) :
    Calls Try.prog 21 #[.pointer (some ⟨B, 0, none⟩)] w fun e w' => e = .returned (.tuple #[]) ∧ WStep w w' B d (evened l) := by
  have hlt := hid h.lt
  have hstay := hid (WStep.stay h)
  obtain ⟨bs, s, c, ⟨hb, hown, hne, hs, hb256⟩, hc, hl'⟩ := h
  have c2 := hb.cell (i := 2) rfl
  have f2 := hb.frozen 2
  by_cases h0 : c = 0
  · subst h0
    have hev : evened l = l := by rw [hl', show bitsOf 0 s = [] from rfl, List.append_nil]; exact even_done
    have HE := hid hev
    clear hev hl' hs
    have hd : (((0 : Nat) : Int) == 0) = true := rfl
    go_enter Try.func21, Try.ntmps21
    go_wp2
    refine bodyPost_ret (results_none rfl _ _ _) rfl ?_
    rw [HE.out]
    exact ⟨rfl, hstay.out⟩
  · have hj := align_list (bs := bs) hs hc h0
    rw [← hl'] at hj
    have hlen : (bits8 bs ++ bitsOf 8 s).length < 1099511627776 := by
      have := congrArg List.length hl'; rw [wsize] at this; rw [wsize]; omega
    have hs8 : s < 2 ^ 8 := Nat.lt_of_lt_of_le hs (Nat.pow_le_pow_right (by decide) (by omega))
    have hM : Mod w (w.setCell ⟨B, 2, none⟩ (.int .i64 8)) (fun k => k = B) := (Mod.refl w (fun k => k = B)).setCell (p := ⟨B, 2, none⟩) (.inr rfl) _
    have hW : WIs (w.setCell ⟨B, 2, none⟩ (.int .i64 8)) B d bs s 8 := ⟨hb.set 2 _, hown.kept hM (fun k hk e => hne (by rw [hk, e])), hne, hs8, hb256⟩
    have HM := hid (hM.mono (T := WSet B d) fun k _ e => .inl e)
    have HW := hid hW
    have HJ := hid hj
    have HLen := hid hlen
    have hd : ((c : Int) == 0) = false := by simp; omega
    clear hM hW hj hlen hl' hs8 hs
    go_enter Try.func21, Try.ntmps21
    go_wp2_with fail
    refine (flush_any B d bs s 8 _ HW.out (by omega) HLen.out).mono ?_
    rintro e w' ⟨rfl, hst⟩
    have hfin := hid (WStep.next hlt.out HM.out (Or.inl rfl) hst)
    clear hst
    go_wp2
    go_end0
    rw [HJ.out] at hfin
    exact ⟨rfl, hfin.out⟩
theorem walign_nil (w : World) :
    Calls Try.prog 21 #[.pointer none] w fun e w' => e = .returned (.tuple #[]) ∧ w = w' := by
  go_enter Try.func21, Try.ntmps21
  go_wp2
  refine bodyPost_ret (results_none rfl _ _ _) rfl ?_
  exact ⟨rfl, rfl⟩
theorem wbits_nil (w : World) :
    Calls Try.prog 20 #[.pointer none] w fun e w' => e = .returned (.int .i64 0) ∧ w = w' := by
  go_enter Try.func20, Try.ntmps20
  go_wp2
  go_ret
  exact ⟨rfl, rfl⟩
theorem take_nil (w : World) :
    Calls Try.prog 22 #[.pointer none] w fun e w' => e = .returned (.slice none 0 0) ∧ w = w' := by
  go_enter Try.func22, Try.ntmps22
  go_wp2
  go_ret
  exact ⟨rfl, rfl⟩

/-! ### Take -/
theorem take_any (B : Nat) (d : Value) (l : List Nat) (w : World) (h : Wr w B d l) :
    Calls Try.prog 22 #[.pointer (some ⟨B, 0, none⟩)] w fun e w' => e = .returned d ∧ Own w' 5 1 d (bytesOf l).length (u8s (bytesOf l)) ∧
      Wr w' B (.slice none 0 0) (l.drop (8 * (bytesOf l).length)) ∧ Mod w w' (fun k => k = B) := by
  obtain ⟨bs, s, c, ⟨hb, hown, hne, hs, hb256⟩, hc, hl'⟩ := h
  have hbytes : bytesOf l = bs := by rw [hl']; exact bytesOf_bits8 bs _ hb256 (by rw [bitsOf_length]; exact hc)
  have hdrop : l.drop (8 * bs.length) = bits8 [] ++ bitsOf c s := by
    rw [hl', List.drop_append, bits8_length, Nat.sub_self, List.drop_eq_nil_of_le (by rw [bits8_length]; omega)]; rfl
  have hM : Mod w (w.setCell ⟨B, 0, none⟩ (.slice none 0 0)) (fun k => k = B) := (Mod.refl w (fun k => k = B)).setCell (p := ⟨B, 0, none⟩) (.inr rfl) _
  have HW : Hid (Own (w.setCell ⟨B, 0, none⟩ (.slice none 0 0)) 5 1 d (bytesOf l).length (u8s (bytesOf l)) ∧
      Wr (w.setCell ⟨B, 0, none⟩ (.slice none 0 0)) B (.slice none 0 0) (l.drop (8 * (bytesOf l).length)) ∧ Mod w (w.setCell ⟨B, 0, none⟩ (.slice none 0 0)) (fun k => k = B)) := by
    rw [hbytes, hdrop]
    exact ⟨hown.kept hM (fun k hk e => hne (by rw [hk, e])), ⟨[], s, c, ⟨hb.set 0 _, Own.nil _ _ _, by simp [Value.ownBlock], hs, by simp⟩, hc, rfl⟩, hM⟩
  have c0 := hb.cell (i := 0) rfl
  have f0 := hb.frozen 0
  clear hM hdrop hbytes hl' hs
  go_enter Try.func22, Try.ntmps22
  go_wp2
  go_ret
  exact ⟨rfl, HW.out⟩

/-! ### Bits -/
theorem wbits_any (B : Nat) (d : Value) (l : List Nat) (w : World) (h : Wr w B d l) (hl : l.length < 1099511627000) :
    Calls Try.prog 20 #[.pointer (some ⟨B, 0, none⟩)] w fun e w' => e = .returned (.int .i64 (l.length : Int)) ∧ ∃ n, w' = w.drewN n := by
  obtain ⟨bs, s, c, ⟨hb, hown, hne, hs, hb256⟩, hc, hl'⟩ := h
  obtain ⟨ao, cap, rfl, hcap, hmax⟩ := hown.form
  have hlen : l.length = 8 * bs.length + c := by rw [hl', wsize]
  have hbl : bs.length < 1099511627000 := by omega
  have HL := hid hlen
  have c0 := hb.cell (i := 0) rfl
  have c2 := hb.cell (i := 2) rfl
  clear hlen hl' hs
  go_enter Try.func20, Try.ntmps20
  go_wp2
  go_quiet (fail)
  go_wp2
  go_ret
  exact ⟨by rw [HL.out]; rfl, _, rfl⟩

/-! ### Write -/
theorem evened_bytes {bs : List Nat} {s c : Nat} {l : List Nat} (h : bits8 bs ++ bitsOf c s = evened l) (hc : c < 8) : c = 0 := by
  have h1 := congrArg List.length h
  have h2 := evened_length l
  rw [wsize] at h1
  omega
theorem write_mid {w w1 : World} {B : Nat} {bs news : List Nat} {s : Nat} {ao ao1 : Option Addr} {cap cap1 n : Nat} (hb : Blk w B [.slice ao bs.length cap, .int .u64 (s : Int), .int .i64 ((0 : Nat) : Int)] 71) (hne : Value.ownBlock (.slice ao bs.length cap) ≠ some B)
    (hs : s < 2 ^ 0) (hb256 : ∀ b ∈ bs, b < 256) (hn256 : ∀ b ∈ news, b < 256) (hn : n = news.length)
    (hown1 : Own w1 5 1 (.slice ao1 (bs.length + n) cap1) (bs.length + n) (u8s bs ++ u8s news)) (hgrow : w.grownBy w1 (Value.ownBlock (.slice ao bs.length cap)))
    (hat : Value.ownBlock (.slice ao1 (bs.length + n) cap1) = Value.ownBlock (.slice ao bs.length cap) ∨ Value.ownBlock (.slice ao1 (bs.length + n) cap1) = some w.heap.size) :
    WStep w (w1.setCell ⟨B, 0, none⟩ (.slice ao1 (bs.length + n) cap1)) B (.slice ao bs.length cap) (bits8 bs ++ bits8 news) := by
  subst hn
  have hne1 : Value.ownBlock (.slice ao1 (bs.length + news.length) cap1) ≠ some B := by
    rcases hat with h | h
    · rw [h]; exact hne
    · rw [h]; intro e; injection e with e; have := hb.lt; omega
  have hb1 := hb.grown hgrow hne
  have hM1 : Mod w w1 (WSet B (.slice ao bs.length cap)) := (Mod.refl w _).grown hgrow fun k hk => .inr (.inr hk)
  refine ⟨.slice ao1 (bs.length + news.length) cap1, ⟨bs ++ news, s, 0, ⟨hb1.set 0 _, ?_, hne1, hs, ?_⟩, by omega, ?_⟩, hM1.setCell (.inr (.inl rfl)) _, ?_⟩
  · rw [List.length_append, u8s_append]
    exact hown1.kept ((Mod.refl w1 (fun k => k = B)).setCell (p := ⟨B, 0, none⟩) (.inr rfl) _) (fun k hk e => hne1 (by rw [hk, e]))
  · intro b hb'
    rcases List.mem_append.1 hb' with h | h
    · exact hb256 b h
    · exact hn256 b h
  · rw [bits8_append]; simp [bitsOf]
  · rcases hat with h | h
    · exact .inl h
    · exact .inr fun k hk => by rw [h] at hk; injection hk with hk; omega
end Go.Proofs.Ytpecdappchkdiaa
