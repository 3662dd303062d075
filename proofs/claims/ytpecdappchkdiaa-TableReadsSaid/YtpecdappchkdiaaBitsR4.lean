/-
  The contract of the bit reader's method Read.
-/
import Derived.Test.YtpecdappchkdiaaBitsR3
namespace Go.Proofs.Ytpecdappchkdiaa
open Go.RowKit

/-- What a round of Read's loop keeps: the bytes that were taken off the spare bits so far, in new memory. -/
def RlRel (w : World) (H B : Nat) (d : Value) (bs : List Nat) (L : List Nat) (n k : Nat) (v : Value) (wr : World) : Prop :=
  ∃ outs s c a5 c5, v = .slice a5 (outs.length) c5 ∧ outs.length ≤ n ∧ Own wr 5 1 v outs.length (u8s outs) ∧ RIs wr B d bs s c ∧ c % 8 = 0 ∧ c ≤ 39 ∧ c ≤ k ∧ bits8 outs ++ bitsOf c s = L ∧ (∀ b ∈ outs, b < 256) ∧
    Mod w wr (fun k => k = B ∨ H ≤ k) ∧ (∀ k, v.ownBlock = some k → H ≤ k)

theorem rl_round {w wr w1 w2 : World} {H B : Nat} {d : Value} {bs outs L : List Nat} {n s c : Nat} {a5 a1 : Option Addr} {c5 c1 j : Nat} {x : Int} {o : Obj} (hx : x = ((s % 256 : Nat) : Int)) (hj : j = outs.length) (hjn : j < n) (hc8 : 8 ≤ c) (hcm : c % 8 = 0) (hc : c ≤ 39)
    (hL : bits8 outs ++ bitsOf c s = L) (h256 : ∀ b ∈ outs, b < 256) (hM : Mod w wr (fun k => k = B ∨ H ≤ k)) (hfr : ∀ k, Value.ownBlock (.slice a5 j c5) = some k → H ≤ k) (hHw : H ≤ wr.heap.size) (hBH : B < H)
    (hown1 : Own w1 5 1 (.slice a1 (j + 1) c1) (j + 1) (u8s outs ++ [.int .u8 x])) (hgrow : (wr.alloc o).grownBy w1 (Value.ownBlock (.slice a5 j c5)))
    (hat : Value.ownBlock (.slice a1 (j + 1) c1) = Value.ownBlock (.slice a5 j c5) ∨ Value.ownBlock (.slice a1 (j + 1) c1) = some (wr.alloc o).heap.size)
    (hR2 : RIs w2 B d bs (s / 2 ^ 8) (c - 8)) (hM2 : Mod w1 w2 (fun k => k = B)) : RlRel w H B d bs L n (c - 8) (.slice a1 (j + 1) c1) w2 := by
  subst hj hx
  have hsz : (wr.alloc o).heap.size = wr.heap.size + 1 := by show (wr.heap.push o).size = _; simp
  have hfr1 : ∀ k, Value.ownBlock (.slice a1 (outs.length + 1) c1) = some k → H ≤ k := by
    intro k hk
    rcases hat with h | h
    · exact hfr k (h ▸ hk)
    · rw [h, hsz] at hk; injection hk with hk; omega
  have hlen : (outs ++ [s % 256]).length = outs.length + 1 := by simp
  have hM1 : Mod w w1 (fun k => k = B ∨ H ≤ k) := (hM.alloc o).grown hgrow fun k hk => .inr (.inr (hfr k hk))
  refine ⟨outs ++ [s % 256], s / 2 ^ 8, c - 8, a1, c1, by rw [hlen], by omega, ?_, hR2, by omega, by omega, Nat.le_refl _, ?_, ?_, hM1.trans hM2 (fun k _ e => .inl e), hfr1⟩
  · rw [hlen]
    have e : u8s outs ++ [Value.int .u8 ((s % 256 : Nat) : Int)] = u8s (outs ++ [s % 256]) := by rw [u8s_append]; rfl
    rw [e] at hown1
    exact hown1.kept hM2 (fun k hk e => by have := hfr1 k hk; omega)
  · rw [← hL, bits8_append, bits8_cons, bits8_nil, List.append_nil, List.append_assoc]
    congr 1
    have h1 := bitsOf_add 8 (c - 8) s
    rw [show 8 + (c - 8) = c by omega] at h1
    rw [h1, show s % 256 = s % 2 ^ 8 from rfl, bitsOf_mod]
  · intro b hb'
    rcases List.mem_append.1 hb' with h | h
    · exact h256 b h
    · simp at h; omega

/-- The number of bytes that Read takes. -/
def readN (l : List Nat) (n : Int) : Nat := min n.toNat ((l.drop (l.length % 8)).length / 8)

theorem read_fin {outs bs : List Nat} {c s N more : Nat} {l1 : List Nat} (hL : l1 = (bits8 outs ++ bitsOf c s) ++ bits8 bs) (hc : c = 0 ∨ outs.length = N) (hcm : c % 8 = 0) (ho : outs.length ≤ N) (hN : N ≤ l1.length / 8)
    (hmore : more = N - outs.length) (h256 : ∀ b ∈ outs, b < 256) (hb256 : ∀ b ∈ bs, b < 256) :
    outs ++ bs.take more = (bytesOf l1).take N ∧ bitsOf c s ++ bits8 (bs.drop more) = l1.drop (8 * N) ∧ more ≤ bs.length := by
  have hlen := congrArg List.length hL
  simp only [List.length_append, bits8_length, bitsOf_length] at hlen
  rcases hc with rfl | hc
  · simp only [bitsOf, List.append_nil] at hL
    have hLL : l1 = bits8 (outs ++ bs) ++ [] := by rw [hL, bits8_append, List.append_nil]
    have hB : bytesOf l1 = outs ++ bs := by
      rw [hLL]; exact bytesOf_bits8 _ _ (fun b hb' => (List.mem_append.1 hb').elim (h256 b) (hb256 b)) (by simp)
    refine ⟨?_, ?_, by omega⟩
    · rw [hB, List.take_append, List.take_of_length_le ho, hmore]
    · rw [hLL, List.append_nil, bits8_drop, List.drop_append, List.drop_eq_nil_of_le ho, hmore]; simp [bitsOf]
  · have hm0 : more = 0 := by omega
    subst hm0
    refine ⟨?_, ?_, by omega⟩
    · have hdiv : l1 = bits8 outs ++ (bitsOf c s ++ bits8 bs) := by rw [hL, List.append_assoc]
      have hcb : ∃ ks : List Nat, bitsOf c s = bits8 ks ∧ ∀ b ∈ ks, b < 256 := by
        obtain ⟨m, hm⟩ : ∃ m, c = 8 * m := ⟨c / 8, by omega⟩
        subst hm
        clear hL hlen hdiv hcm hc
        induction m generalizing s with
        | zero => exact ⟨[], rfl, by simp⟩
        | succ m ih =>
          obtain ⟨ks, h1, h2⟩ := ih (s := s / 2 ^ 8)
          refine ⟨s % 256 :: ks, ?_, ?_⟩
          · rw [bits8_cons, ← h1, show 8 * (m + 1) = 8 + 8 * m by omega, bitsOf_add, show s % 256 = s % 2 ^ 8 from rfl, bitsOf_mod]
          · intro b hb'
            rcases List.mem_cons.1 hb' with rfl | h
            · omega
            · exact h2 b h
      obtain ⟨ks, h1, h2⟩ := hcb
      have hB : bytesOf l1 = outs ++ (ks ++ bs) := by
        have : l1 = bits8 (outs ++ (ks ++ bs)) ++ [] := by rw [hdiv, h1, bits8_append, bits8_append, List.append_nil]
        rw [this]
        exact bytesOf_bits8 _ _ (fun b hb' => by
          rcases List.mem_append.1 hb' with h | h
          · exact h256 b h
          · rcases List.mem_append.1 h with h | h
            · exact h2 b h
            · exact hb256 b h) (by simp)
      rw [hB, ← hc]; simp
    · rw [hL, ← hc, List.append_assoc, ← bits8_length outs, List.drop_left]; simp

theorem rl_start {w2 : World} {H B N : Nat} {d : Value} {bs : List Nat} {s c : Nat} {v : Value} (hv : ∃ a5 c5, v = .slice a5 0 c5) (hown : Own w2 5 1 v 0 []) (hR : RIs w2 B d bs s c) (hcm : c % 8 = 0) (hc : c ≤ 39) (hfr : ∀ k, v.ownBlock = some k → H ≤ k) :
    RlRel w2 H B d bs (bitsOf c s) N c v w2 := by
  obtain ⟨a5, c5, rfl⟩ := hv
  exact ⟨[], s, c, a5, c5, rfl, Nat.zero_le _, hown, hR, hcm, hc, Nat.le_refl _, rfl, by simp, Mod.refl _ _, hfr⟩
theorem read_end {w w1 w2 wr w5 w6 : World} {H B N more s c k : Nat} {d d1 d' v : Value} {l1 outs bs : List Nat} {ao5 : Option Addr} {c5 j : Nat} (hM1 : Mod w w1 (fun k => k = B)) (hmv1 : d1.ownBlock = d.ownBlock ∨ d1.ownBlock = none) (hH : H = w1.heap.size)
    (hgrow2 : (w1.drewN k).grownBy w2 none) (hMr : Mod w2 wr (fun k => k = B ∨ H ≤ k)) (hfr : ∀ k, Value.ownBlock (.slice ao5 j c5) = some k → H ≤ k) (hgrow : wr.grownBy w5 (Value.ownBlock (.slice ao5 j c5)))
    (hat : v.ownBlock = Value.ownBlock (.slice ao5 j c5) ∨ v.ownBlock = some wr.heap.size)
    (hfin : outs ++ bs.take more = (bytesOf l1).take N ∧ bitsOf c s ++ bits8 (bs.drop more) = l1.drop (8 * N) ∧ more ≤ bs.length)
    (hown5 : Own w5 5 1 v N (u8s (outs ++ bs.take more))) (hc : c ≤ 39)
    (hR6 : RIs w6 B d' (bs.drop more) s c) (hM6 : Mod w5 w6 (fun k => k = B)) (hd' : d'.ownBlock = d1.ownBlock ∨ d'.ownBlock = none) (hBH : B < H) :
    Own w6 5 1 v N (u8s ((bytesOf l1).take N)) ∧ RKeep w w6 B d (l1.drop (8 * N)) ∧ (∀ k, v.ownBlock = some k → w.heap.size ≤ k) := by
  have hM2 : Mod w1 w2 (fun _ => False) := ((Mod.refl w1 _).drewN k).grown hgrow2 (fun k hk => by cases hk)
  have hHr : H ≤ wr.heap.size := by rw [hH]; exact Nat.le_trans hM2.size hMr.size
  have hfrv : ∀ k, v.ownBlock = some k → H ≤ k := by
    intro k hk
    rcases hat with h | h
    · exact hfr k (h ▸ hk)
    · rw [h] at hk; injection hk with hk; omega
  have hMa : Mod w1 w6 (fun k => k = B) := by
    refine ((hM2.mono (T := fun k => k = B) (fun _ _ h => h.elim)).trans hMr ?_).trans ?_ (T := fun k => k = B ∨ H ≤ k) ?_
    · intro k hk hs; rcases hs with hs | hs
      · exact hs
      · omega
    · exact ((Mod.refl wr (fun k => k = B ∨ H ≤ k)).grown hgrow fun k hk => .inr (.inr (hfr k hk))).trans hM6 (fun k _ e => .inl e)
    · intro k hk hs; rcases hs with hs | hs
      · exact hs
      · omega
  refine ⟨?_, ⟨d', ⟨_, _, _, hR6, hc, hfin.2.1.symm⟩, hM1.same hMa, ?_⟩, fun k hk => Nat.le_trans hM1.size (by rw [← hH]; exact hfrv k hk)⟩
  · rw [← hfin.1]
    exact hown5.kept hM6 (fun k hk e => by have := hfrv k hk; omega)
  · rcases hd' with h | h
    · rw [h]; exact hmv1
    · exact .inr h

end Go.Proofs.Ytpecdappchkdiaa
