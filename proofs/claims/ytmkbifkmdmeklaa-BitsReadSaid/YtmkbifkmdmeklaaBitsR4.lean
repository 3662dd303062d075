/-
  The contract of the bit reader's method Read.
-/
import Derived.Test.YtmkbifkmdmeklaaBitsR3
namespace Go.Proofs.Ytmkbifkmdmeklaa
open Go.RowKit

/-- What a round of Read's loop keeps: the bytes that were taken off the spare bits so far, in new memory. -/
def RlRel (w : World) (H B : Nat) (d : Value) (bs : List Nat) (L : List Nat) (n k : Nat) (v : Value) (wr : World) : Prop :=
  ∃ outs s c a5 c5, v = .slice a5 (outs.length) c5 ∧ outs.length ≤ n ∧ Own wr 5 1 v outs.length (u8s outs) ∧ RIs wr B d bs s c ∧ c % 8 = 0 ∧ c ≤ 39 ∧ c ≤ k ∧ bits8 outs ++ bitsOf c s = L ∧ (∀ b ∈ outs, b < 256) ∧
    Mod w wr (fun k => k = B ∨ H ≤ k) ∧ (∀ k, v.ownBlock = some k → H ≤ k)

theorem rl_round {w wr w1 w2 : World} {H B : Nat} {d : Value} {bs outs L : List Nat} {n s c : Nat} {a5 a1 : Option Addr} {c5 c1 j : Nat} {x : Int} {o : Obj} (hx : x = ((s % 256 : Nat) : Int)) (hj : j = outs.length) (hjn : j < n) (hc8 : 8 ≤ c) (hcm : c % 8 = 0) (hc : c ≤ 39)
    (hL : bits8 outs ++ bitsOf c s = L) (h256 : ∀ b ∈ outs, b < 256) (hM : Mod w wr (fun k => k = B ∨ H ≤ k)) (hfr : ∀ k, Value.ownBlock (.slice a5 j c5) = some k → H ≤ k) (hHw : H ≤ wr.heap.size) (hBH : B < H)
    (hown1 : Own w1 5 1 (.slice a1 (j + 1) c1) (j + 1) (u8s outs ++ [.int .u8 x])) (hgrow : (wr.alloc o).grownBy w1 (Value.ownBlock (.slice a5 j c5)))
    (hat : Value.ownBlock (.slice a1 (j + 1) c1) = Value.ownBlock (.slice a5 j c5) ∨ Value.ownBlock (.slice a1 (j + 1) c1) = some (wr.alloc o).heap.size)
    (hR2 : RIs w2 B d bs (s / 2 ^ 8) (c - 8)) (hM2 : Mod w1 w2 (fun k => k = B)) : RlRel w H B d bs L n (c - 8) (.slice a1 (j + 1) c1) w2 := by
  subst hj hx
  have hsz : (wr.alloc o).heap.size = wr.heap.size + 1 := by show (wr.heap.push o).size = _; simp
  have hfr1 : ∀ k, Value.ownBlock (.slice a1 (outs.length + 1) c1) = some k → H ≤ k := by
    intro k hk
    rcases hat with h | h
    · exact hfr k (h ▸ hk)
    · rw [h, hsz] at hk; injection hk with hk; omega
  have hlen : (outs ++ [s % 256]).length = outs.length + 1 := by simp
  have hM1 : Mod w w1 (fun k => k = B ∨ H ≤ k) := (hM.alloc o).grown hgrow fun k hk => .inr (.inr (hfr k hk))
  refine ⟨outs ++ [s % 256], s / 2 ^ 8, c - 8, a1, c1, by rw [hlen], by omega, ?_, hR2, by omega, by omega, Nat.le_refl _, ?_, ?_, hM1.trans hM2 (fun k _ e => .inl e), hfr1⟩
  · rw [hlen]
    have e : u8s outs ++ [Value.int .u8 ((s % 256 : Nat) : Int)] = u8s (outs ++ [s % 256]) := by rw [u8s_append]; rfl
    rw [e] at hown1
    exact hown1.kept hM2 (fun k hk e => by have := hfr1 k hk; omega)
  · rw [← hL, bits8_append, bits8_cons, bits8_nil, List.append_nil, List.append_assoc]
    congr 1
    have h1 := bitsOf_add 8 (c - 8) s
    rw [show 8 + (c - 8) = c by omega] at h1
    rw [h1, show s % 256 = s % 2 ^ 8 from rfl, bitsOf_mod]
  · intro b hb'
    rcases List.mem_append.1 hb' with h | h
    · exact h256 b h
    · simp at h; omega

/-- The number of bytes that Read takes. -/
def readN (l : List Nat) (n : Int) : Nat := min n.toNat ((l.drop (l.length % 8)).length / 8)

theorem read_fin {outs bs : List Nat} {c s N more : Nat} {l1 : List Nat} (hL : l1 = (bits8 outs ++ bitsOf c s) ++ bits8 bs) (hc : c = 0 ∨ outs.length = N) (hcm : c % 8 = 0) (ho : outs.length ≤ N) (hN : N ≤ l1.length / 8)
    (hmore : more = N - outs.length) (h256 : ∀ b ∈ outs, b < 256) (hb256 : ∀ b ∈ bs, b < 256) :
    outs ++ bs.take more = (bytesOf l1).take N ∧ bitsOf c s ++ bits8 (bs.drop more) = l1.drop (8 * N) ∧ more ≤ bs.length := by
  have hlen := congrArg List.length hL
  simp only [List.length_append, bits8_length, bitsOf_length] at hlen
  rcases hc with rfl | hc
  · simp only [bitsOf, List.append_nil] at hL
    have hLL : l1 = bits8 (outs ++ bs) ++ [] := by rw [hL, bits8_append, List.append_nil]
    have hB : bytesOf l1 = outs ++ bs := by
      rw [hLL]; exact bytesOf_bits8 _ _ (fun b hb' => (List.mem_append.1 hb').elim (h256 b) (hb256 b)) (by simp)
    refine ⟨?_, ?_, by omega⟩
    · rw [hB, List.take_append, List.take_of_length_le ho, hmore]
    · rw [hLL, List.append_nil, bits8_drop, List.drop_append, List.drop_eq_nil_of_le ho, hmore]; simp [bitsOf]
  · have hm0 : more = 0 := by omega
    subst hm0
    refine ⟨?_, ?_, by omega⟩
    · have hdiv : l1 = bits8 outs ++ (bitsOf c s ++ bits8 bs) := by rw [hL, List.append_assoc]
      have hcb : ∃ ks : List Nat, bitsOf c s = bits8 ks ∧ ∀ b ∈ ks, b < 256 := by
        obtain ⟨m, hm⟩ : ∃ m, c = 8 * m := ⟨c / 8, by omega⟩
        subst hm
        clear hL hlen hdiv hcm hc
        induction m generalizing s with
        | zero => exact ⟨[], rfl, by simp⟩
        | succ m ih =>
          obtain ⟨ks, h1, h2⟩ := ih (s := s / 2 ^ 8)
          refine ⟨s % 256 :: ks, ?_, ?_⟩
          · rw [bits8_cons, ← h1, show 8 * (m + 1) = 8 + 8 * m by omega, bitsOf_add, show s % 256 = s % 2 ^ 8 from rfl, bitsOf_mod]
          · intro b hb'
            rcases List.mem_cons.1 hb' with rfl | h
            · omega
            · exact h2 b h
      obtain ⟨ks, h1, h2⟩ := hcb
      have hB : bytesOf l1 = outs ++ (ks ++ bs) := by
        have : l1 = bits8 (outs ++ (ks ++ bs)) ++ [] := by rw [hdiv, h1, bits8_append, bits8_append, List.append_nil]
        rw [this]
        exact bytesOf_bits8 _ _ (fun b hb' => by
          rcases List.mem_append.1 hb' with h | h
          · exact h256 b h
          · rcases List.mem_append.1 h with h | h
            · exact h2 b h
            · exact hb256 b h) (by simp)
      rw [hB, ← hc]; simp
    · rw [hL, ← hc, List.append_assoc, ← bits8_length outs, List.drop_left]; simp

theorem rl_start {w2 : World} {H B N : Nat} {d : Value} {bs : List Nat} {s c : Nat} {v : Value} (hv : ∃ a5 c5, v = .slice a5 0 c5) (hown : Own w2 5 1 v 0 []) (hR : RIs w2 B d bs s c) (hcm : c % 8 = 0) (hc : c ≤ 39) (hfr : ∀ k, v.ownBlock = some k → H ≤ k) :
    RlRel w2 H B d bs (bitsOf c s) N c v w2 := by
  obtain ⟨a5, c5, rfl⟩ := hv
  exact ⟨[], s, c, a5, c5, rfl, Nat.zero_le _, hown, hR, hcm, hc, Nat.le_refl _, rfl, by simp, Mod.refl _ _, hfr⟩
theorem read_end {w w1 w2 wr w5 w6 : World} {H B N more s c k : Nat} {d d1 d' v : Value} {l1 outs bs : List Nat} {ao5 : Option Addr} {c5 j : Nat} (hM1 : Mod w w1 (fun k => k = B)) (hmv1 : d1.ownBlock = d.ownBlock ∨ d1.ownBlock = none) (hH : H = w1.heap.size)
    (hgrow2 : (w1.drewN k).grownBy w2 none) (hMr : Mod w2 wr (fun k => k = B ∨ H ≤ k)) (hfr : ∀ k, Value.ownBlock (.slice ao5 j c5) = some k → H ≤ k) (hgrow : wr.grownBy w5 (Value.ownBlock (.slice ao5 j c5)))
    (hat : v.ownBlock = Value.ownBlock (.slice ao5 j c5) ∨ v.ownBlock = some wr.heap.size)
    (hfin : outs ++ bs.take more = (bytesOf l1).take N ∧ bitsOf c s ++ bits8 (bs.drop more) = l1.drop (8 * N) ∧ more ≤ bs.length)
    (hown5 : Own w5 5 1 v N (u8s (outs ++ bs.take more))) (hc : c ≤ 39)
    (hR6 : RIs w6 B d' (bs.drop more) s c) (hM6 : Mod w5 w6 (fun k => k = B)) (hd' : d'.ownBlock = d1.ownBlock ∨ d'.ownBlock = none) (hBH : B < H) :
    Own w6 5 1 v N (u8s ((bytesOf l1).take N)) ∧ RKeep w w6 B d (l1.drop (8 * N)) ∧ (∀ k, v.ownBlock = some k → w.heap.size ≤ k) := by
  have hM2 : Mod w1 w2 (fun _ => False) := ((Mod.refl w1 _).drewN k).grown hgrow2 (fun k hk => by cases hk)
  have hHr : H ≤ wr.heap.size := by rw [hH]; exact Nat.le_trans hM2.size hMr.size
  have hfrv : ∀ k, v.ownBlock = some k → H ≤ k := by
    intro k hk
    rcases hat with h | h
    · exact hfr k (h ▸ hk)
    · rw [h] at hk; injection hk with hk; omega
  have hMa : Mod w1 w6 (fun k => k = B) := by
    refine ((hM2.mono (T := fun k => k = B) (fun _ _ h => h.elim)).trans hMr ?_).trans ?_ (T := fun k => k = B ∨ H ≤ k) ?_
    · intro k hk hs; rcases hs with hs | hs
      · exact hs
      · omega
    · exact ((Mod.refl wr (fun k => k = B ∨ H ≤ k)).grown hgrow fun k hk => .inr (.inr (hfr k hk))).trans hM6 (fun k _ e => .inl e)
    · intro k hk hs; rcases hs with hs | hs
      · exact hs
      · omega
  refine ⟨?_, ⟨d', ⟨_, _, _, hR6, hc, hfin.2.1.symm⟩, hM1.same hMa, ?_⟩, fun k hk => Nat.le_trans hM1.size (by rw [← hH]; exact hfrv k hk)⟩
  · rw [← hfin.1]
    exact hown5.kept hM6 (fun k hk e => by have := hfrv k hk; omega)
  · rcases hd' with h | h
    · rw [h]; exact hmv1
    · exact .inr h

theorem read_zero (B : Nat) (d : Value) (l : List Nat) (n : Int) (w : World) (h : Rr w B d l) (hl : l.length < 1099511600000) (h0 : readN l n = 0) :
    Calls Try.prog 26 #[.pointer (some ⟨B, 0, none⟩), .int .i64 n] w fun e w' => e = .returned (.slice none 0 0) ∧ RKeep w w' B d (l.drop (l.length % 8)) := by
  obtain ⟨l1, hl1⟩ : ∃ l1, l1 = l.drop (l.length % 8) := ⟨_, rfl⟩
  have hl1b : l1.length < 1099511600000 := by rw [hl1, List.length_drop]; omega
  unfold readN at h0
  rw [← hl1] at h0 ⊢
  have HL := hid hl1
  clear hl1
  have hcase : n ≤ (l1.length : Int) / 8 ∧ n < 1 ∨ (l1.length : Int) / 8 < n ∧ (l1.length : Int) / 8 < 1 := by omega
  rcases hcase with ⟨hnl, hn1⟩ | ⟨hnl, hn1⟩
  all_goals
    go_enter Try.func26, Try.ntmps26
    go_wp2_with fail
    refine (ralign_any B d l w h).mono ?_
    rw [← HL.out]
    rintro e w1 ⟨rfl, d1, hR1, hM1, hmv1⟩
    go_wp2_with (go_at_call 27; refine (left_any B d1 l1 w1 hR1 (by omega)).mono ?_; rintro e w' ⟨rfl, k, rfl⟩)
    go_ret
    exact ⟨rfl, d1, hR1.kept (S := fun _ => False) ((Mod.refl w1 _).drewN k) (fun _ _ h => h), hM1.drewN k, hmv1⟩

set_option maxHeartbeats 1600000 in
theorem read_some (B : Nat) (d : Value) (l : List Nat) (n : Int) (N : Nat) (w : World) (h : Rr w B d l) (hl : l.length < 1099511600000) (hN : readN l n = N) (hN0 : 0 < N) :
    Calls Try.prog 26 #[.pointer (some ⟨B, 0, none⟩), .int .i64 n] w fun e w' => ∃ v, e = .returned v ∧ Own w' 5 1 v N (u8s ((bytesOf (l.drop (l.length % 8))).take N)) ∧
      RKeep w w' B d ((l.drop (l.length % 8)).drop (8 * N)) ∧ (∀ k, v.ownBlock = some k → w.heap.size ≤ k) := by
  obtain ⟨i, hi, hz0, hz1, hz2⟩ := info_parts Try.infoByte
  obtain ⟨l1, hl1⟩ : ∃ l1, l1 = l.drop (l.length % 8) := ⟨_, rfl⟩
  have hl1b : l1.length < 1099511600000 := by rw [hl1, List.length_drop]; omega
  unfold readN at hN
  rw [← hl1] at hN ⊢
  have HL := hid hl1
  have hNb : N ≤ l1.length / 8 := by omega
  clear hl1
  have hcase : n = (N : Int) ∧ (N : Int) ≤ (l1.length : Int) / 8 ∨ (l1.length : Int) / 8 < n ∧ (l1.length : Int) / 8 = (N : Int) := by omega
  have hN1 : (1 : Int) ≤ (N : Int) := by omega
  have hNN : N < 1099511600000 := by omega
  clear hN
  rcases hcase with ⟨rfl, hnl⟩ | ⟨hnl, hq⟩
  all_goals
    go_enter Try.func26, Try.ntmps26
    go_wp2_with fail
    refine (ralign_any B d l w h).mono ?_
    rw [← HL.out]
    rintro e w1 ⟨rfl, d1, hR1, hM1, hmv1⟩
    have hR1' := hid hR1
    go_wp2_with (first
      | (go_at_call 27; refine (left_any B d1 l1 w1 hR1 (by omega)).mono ?_; rintro e w' ⟨rfl, k, rfl⟩)
      | (at_make; refine wpList_make_own _ rfl _ _ 26 rfl 0 5 i (.int .u8 0) 1 Try.underlying26 hi hz0 hz1 .i64 .i64 _ N rfl rfl rfl (by rw [hz2]; omega) (by unfold maxLen; omega) (Nat.zero_le _) ?_; intro w2 hown2 hgrow2))
    have hH : w1.heap.size = (w1.drewN k).heap.size := rfl
    obtain ⟨H, hHe⟩ : ∃ H, H = w1.heap.size := ⟨_, rfl⟩
    have hM2 : Mod w1 w2 (fun _ => False) := ((Mod.refl w1 _).drewN k).grown hgrow2 (fun k hk => by cases hk)
    have hR2 := hR1'.out.kept hM2 (fun _ _ h => h)
    have hBH : B < H := by rw [hHe]; exact hR1'.out.lt B (.inl rfl)
    have hH2 : H ≤ w2.heap.size := by rw [hHe]; exact hM2.size
    obtain ⟨bs, s, c, hRI, hc, hl1'⟩ := hR2
    have hcm : c % 8 = 0 := by
      have h1 := congrArg List.length hl1'
      rw [rsize] at h1
      have h2 : l1.length % 8 = 0 := by rw [HL.out, List.length_drop]; omega
      omega
    have hst := rl_start (N := N) (H := H) ⟨_, _, rfl⟩ (Own.of_row hown2) hRI hcm hc (fun k hk => by simp only [Value.ownBlock, Option.some.injEq] at hk; rw [← hk, hHe]; exact Nat.le_refl _)
    have hlb : bs.length < 1099511600000 := by have h1 := congrArg List.length hl1'; rw [rsize] at h1; omega
    have hd1f := hRI.2.1.form
    have hb256 := hRI.2.2.2.2
    have HL1 := hid hl1'
    have HH := hid hHe
    have HG2 := hid hgrow2
    have hdH : ∀ k, WSet B d1 k → ¬ H ≤ k := fun k hk => by have := hR1'.out.lt k hk; omega
    have HdH := hid hdH
    clear hR1 hl1' hHe hgrow2 hM2 hown2 hRI hH hdH
    obtain ⟨ao, cap, rfl, _, _⟩ := hd1f
    go_loopg [5] c (fun k t5 wr => RlRel w2 H B (.slice ao bs.length cap) bs (bitsOf c s) N k t5 wr)
    case atStart => exact hst
    case round =>
      obtain ⟨outs, s', c', a5, c5, rfl, hon, hown, hRI, hcm', hc', hck, hL', h256, hMr, hfr⟩ := hrel
      obtain ⟨j, hj⟩ : ∃ j, j = outs.length := ⟨_, rfl⟩
      rw [← hj] at hown hfr hon ⊢
      have HJ := hid hj
      have HL2 := hid hL'
      have hHr : H ≤ wr.heap.size := Nat.le_trans hH2 hMr.size
      have c0 := hRI.1.cell (i := 0) rfl
      have c1 := hRI.1.cell (i := 1) rfl
      have c2 := hRI.1.cell (i := 2) rfl
      have HRI := hid hRI
      clear hj hL' hRI
      by_cases hgo : 8 ≤ c' ∧ j < N
      · obtain ⟨hc8, hjN⟩ := hgo
        have hc0 : (0 : Int) < (c' : Int) := by omega
        go_wp2_with (first
          | (at_builtin; refine wpList_app1 rfl (.tmp 31) (.tmp 37) 26 rfl 5 i (.int .u8 0) 1 Try.underlying26 hi hz0 hz1 hz2 rfl (.slice a5 j c5) j (u8s outs) rfl hown rfl rfl (by unfold maxLen; omega) (by omega) ?_; intro ao1 cap1 w3 hown1 hgrow hat)
          | (go_at_call 33; refine (drop_any B (.slice ao bs.length cap) bs s' c' 8 w3 (HRI.out.kept (((Mod.refl wr (fun k => H ≤ k)).alloc _).grown hgrow (fun k hk => .inr (hfr k hk))) HdH.out) hc8 hc').mono ?_; rintro e w4 ⟨rfl, hR4, hM4⟩))
        go_roundg (c' - 8)
        case measure => omega
        case rel => exact rl_round (by omega) HJ.out hjN hc8 hcm' hc' HL2.out h256 hMr hfr hHr hBH hown1 hgrow hat hR4 hM4
      · obtain ⟨more, hmore⟩ : ∃ more, more = N - j := ⟨_, rfl⟩
        have hL1f : l1 = (bits8 outs ++ bitsOf c' s') ++ bits8 bs := by rw [HL2.out]; exact HL1.out
        have hfin := read_fin (N := N) (more := more) hL1f (by have := HJ.out; omega) hcm' (by rw [← HJ.out]; exact hon) hNb (by rw [← HJ.out]; exact hmore) h256 hb256
        have hml : more ≤ bs.length := hfin.2.2
        have HF := hid hfin
        have HMo := hid hmore
        have hmi : (N : Int) - (j : Int) = (more : Int) := by omega
        have hex : ¬ (0 : Int) < (c' : Int) ∨ (0 : Int) < (c' : Int) ∧ ¬ (j : Int) < (N : Int) := by omega
        clear hfin hL1f
        rcases hex with hex | ⟨hex, hex2⟩
        all_goals
          clear hmore hgo
          go_wp2_with (first
            | ((with_reducible show wpList _ _ _ (⟨some 51, _, _, _, _, _⟩ :: _) _ _); refine wpList_cut_rd (w := wr) rfl 26 (.tmp 49) none (some (.tmp 50)) rfl 5 i 1 Try.underlying26 hi hz1 ao bs.length cap 0 more (u8s bs) rfl HRI.out.2.1.rd rfl ⟨_, rfl⟩ (Nat.zero_le _) hml ?_; simp only [Nat.sub_zero, Nat.mul_one, List.drop_zero]; intro a' hrd' hbl')
            | (at_builtin; refine wpList_app _ rfl (.tmp 45) (.tmp 51) 26 rfl 5 i (.int .u8 0) 1 1 Try.underlying26 hi hz0 hz1 hz2 rfl (by decide) (.slice a5 j c5) j (u8s outs) rfl hown _ more ((u8s bs).take more) rfl (by assumption) (by intro u hu; exact u8s_one _ u (List.mem_of_mem_take hu)) (by unfold maxLen; omega) (by omega) ?_; intro ao1 cap1 w5 hown5 hgrow hat)
            | (go_at_call 34; refine (skip_any B (.slice ao bs.length cap) bs s' c' more w5 (HRI.out.kept ((Mod.refl wr (fun k => H ≤ k)).grown hgrow (fun k hk => .inr (hfr k hk))) HdH.out) hml (by omega)).mono ?_; rintro e w6 ⟨rfl, d', hR6, hM6, hd'⟩))
          go_ret
          refine ⟨_, rfl, ?_⟩
          have hjm : j + more = N := by have := HMo.out; omega
          rw [hjm] at hown5 hat ⊢
          have hfx := HF.out
          rw [show u8s outs ++ (u8s bs).take more = u8s (outs ++ bs.take more) by rw [u8s_append]; simp [u8s]] at hown5
          exact read_end hM1 hmv1 HH.out HG2.out hMr hfr hgrow hat hfx hown5 hc' hR6 hM6 hd' hBH
end Go.Proofs.Ytmkbifkmdmeklaa
