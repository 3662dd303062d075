/-
  Codes, their highest bit first, and the numbers that writers and readers take, their lowest bit first.
-/
import Derived.Test.YtbkbkmgogbgofaaDoorZh08
import Derived.Test.YtbkbkmgogbgofaaDoorZh03
import Derived.Test.YtbkbkmgogbgofaaDoorZh10
import Derived.Test.YtbkbkmgogbgofaaDoorZh04
import Derived.Test.YtbkbkmgogbgofaaDoorZh06
import Derived.StillTailTactics
import Derived.Lib.SlBytesConst
import Derived.Laws.BytesArg
import Derived.WalkSpells
import Derived.Deep.DeepCutAuto
namespace Go.Proofs.YtbkbkmgogbgofaaDoor
set_option maxRecDepth 5000
theorem bitsOf_revN (c n : Nat) (hn : n ≤ 32) : bitsOf n (revN c n) = hiBits n c := by
  refine List.ext_getElem? fun k => ?_
  by_cases hk : k < n
  · rw [bitsOf_get _ _ _ hk]
    have h := revN_bit c n (n - 1 - k) hn (by omega)
    rw [show n - 1 - (n - 1 - k) = k by omega] at h
    simp [hiBits, hk, h]
  · rw [List.getElem?_eq_none (by rw [bitsOf_length]; omega), List.getElem?_eq_none (by rw [hiBits_length]; omega)]
theorem bitsOf_hiBits (c n : Nat) (hn : n ≤ 32) : bitsOf n c = hiBits n (revN c n) := by
  rw [← bitsOf_revN _ _ hn, revN_twice _ _ hn, bitsOf_mod]
end Go.Proofs.YtbkbkmgogbgofaaDoor
/-
  find: the symbol whose code 15 bits begin with.
-/
namespace Go.Proofs.YtbkbkmgogbgofaaDoor
set_option maxRecDepth 5000
open Go.RowKit
section
variable {w0 w : World} {Rs : List Thing}
theorem hiN15 (x n : Nat) (hx : x < 32768) (hn : n ≤ 15) : hiN ((hiBits 15 x).take n) = x / 2 ^ (15 - n) := by
  rw [hiN_hiBits 15 x n hn, Nat.mod_eq_of_lt]
  rw [Nat.div_lt_iff_lt_mul (Nat.pow_pos (by decide)), ← Nat.pow_add, show n + (15 - n) = 15 by omega]
  exact hx
set_option maxRecDepth 20000 in
set_option maxHeartbeats 1600000 in
theorem tfind_any (l : List Int) (B x : Nat) (h : Held w0 w (tabT l B :: Rs)) (hF : Fine l) (hx : x < 32768) :
    Calls Tryd.prog 71 #[.pointer (some ⟨B, 0, none⟩), .int .u32 (x : Int)] w fun e w' => ∃ k n : Nat, e = .returned (.tuple #[.int .i64 (k : Int), .int .i64 (n : Int)]) ∧
      Held w0 w' (tabT l B :: Rs) ∧ Hid (Hit l (hiBits 15 x) k n ∨ k = 0 ∧ n = 0 ∧ ∀ i m, ¬ Hit l (hiBits 15 x) i m) := by
  obtain ⟨⟨lv, cv, S⟩, h1⟩ := h.ex
  have H1 : Hid (Held w0 w (tabK l l.length B lv cv S :: Rs)) := h1
  have HL := hid hF
  clear h h1 hF
  obtain ⟨bs, hbs⟩ : ∃ bs, bs = hiBits 15 x := ⟨_, rfl⟩
  rw [← hbs]
  have HY : Hid (∀ n, n ≤ 15 → hiN (bs.take n) = x / 2 ^ (15 - n)) := by rw [hbs]; exact fun n hn => hiN15 x n hx hn
  have HB : Hid (bs.length = 15) := by unfold Hid; rw [hbs]; exact hiBits_length 15 x
  clear hbs
  go_enter Tryd.func71, Tryd.ntmps71
  go_wp2
  go_loopg [5] 17 (fun k t5 wr => ∃ n : Nat, 1 ≤ n ∧ n ≤ 16 ∧ 16 - n < k ∧ t5 = .int .i64 (n : Int) ∧ Hid (Held w0 wr (tabK l l.length B lv cv S :: Rs)) ∧ Hid (Past l bs n ∧ (n ≤ 15 → fstC l n ≤ hiN (bs.take n))))
  case atStart => exact ⟨1, by omega, by omega, by omega, rfl, H1, Past.one l bs, fun _ => Nat.zero_le _⟩
  case round =>
    obtain ⟨n, hn1, hn2, hk, rfl, HH, HP⟩ := hrel
    clear H1
    by_cases hn : n ≤ 15
    · obtain ⟨m, hm⟩ : ∃ m, m = (grp l l.length n).length := ⟨_, rfl⟩
      obtain ⟨f, hf⟩ : ∃ f, f = grpF l l.length n := ⟨_, rfl⟩
      obtain ⟨y, hy⟩ : ∃ y, y = x / 2 ^ (15 - n) := ⟨_, rfl⟩
      have hn16 : n < 16 := by omega
      have hKO := K_open HH.out hn16
      have hc1 := hKO.obj.cell (tabL_F _ _ _ _ n hn16)
      have hc2 := hKO.obj.cell (tabL_S _ _ _ _ n hn16)
      have hos := hKO.swap.own
      rw [← hm] at hos
      obtain ⟨so, scap, hS, _, _⟩ := hos.form
      rw [hS] at hc2 hos
      rw [← hf] at hc1
      have hfy : f ≤ y := by
        have h1 := HP.out.2 hn
        rw [HY.out n hn, ← hy] at h1
        rw [hf]; unfold grpF; split
        · exact Nat.zero_le _
        · exact h1
      have hy2 : y < 32768 := by rw [hy]; exact Nat.lt_of_le_of_lt (Nat.div_le_self _ _) hx
      obtain ⟨r, hr⟩ : ∃ r, r = 15 - n := ⟨_, rfl⟩
      have hrI : (15 : Int) - (n : Int) = (r : Int) := by omega
      have hval : (x : Int) / 2 ^ r = (y : Int) := by rw [hy, ← hr, two_pow_int]; exact (Int.natCast_ediv _ _).symm
      obtain ⟨d, hd⟩ : ∃ d, d = y - f := ⟨_, rfl⟩
      have hdI : (y : Int) - (f : Int) = (d : Int) := by omega
      have hm288 : m ≤ 288 := by rw [hm]; have h1 := grp_le l l.length n; have := HL.out.2.1; omega
      have hn0 : (0 : Int) ≤ (n : Int) := Int.natCast_nonneg _
      have hn15 : (n : Int) < 16 := by omega
      have hr15 : r ≤ 14 := by omega
      have hm0 : (0 : Int) ≤ (m : Int) := Int.natCast_nonneg _
      have HMI := hid hm
      have HFI := hid hf
      have HYI := hid hy
      have HDI := hid hd
      have HRI := hid hr
      have HSI := hid hS
      clear hm hf hy hd hS hKO hr
      by_cases hdm : d < m
      · have hdB : decide ((d : Int) < (m : Int)) = true := by simp; omega
        obtain ⟨g, off, rfl, hcell, _, _⟩ := hos.site (by omega)
        obtain ⟨i, hi⟩ : ∃ i, (grp l l.length n)[d]? = some i := ⟨(grp l l.length n)[d]'(by have := HMI.out; omega), List.getElem?_eq_getElem _⟩
        have hc3 := hcell d _ (by rw [nums_get, hi]; rfl)
        have HI := hid hi
        clear hi hcell hos
        have hd0 : (0 : Int) ≤ (d : Int) := Int.natCast_nonneg _
        have hdmI : (d : Int) < (m : Int) := by omega
        go_wp2
        go_quiet (fail)
        go_wp2
        go_ret2
        have hcode := grp_code l n d i hn1 hn HI.out
        have hne : grp l l.length n ≠ [] := fun e => by have h1 := HMI.out; rw [e] at h1; simp at h1; omega
        have hfF : f = fstC l n := by rw [HFI.out]; unfold grpF; rw [if_neg hne]
        exact ⟨i, n, rfl, Held.mk (_, _, S) (HH.out.drewN _), .inl (hit_at hn1 (by have := HB.out; omega) hcode.1 (by rw [HY.out n hn, ← HYI.out, hcode.2]; have := HDI.out; omega))⟩
      · have hdB : decide ((d : Int) < (m : Int)) = false := by simp; omega
        go_wp2
        go_quiet (fail)
        go_wp2
        have hcnt : fstC l n + l.count (n : Int) ≤ hiN (bs.take n) := by
          have h1 := HP.out.2 hn
          rw [HY.out n hn, ← HYI.out] at h1 ⊢
          rw [← grp_all l n hn1, ← HMI.out]
          by_cases hm1 : m = 0
          · omega
          · have hne : grp l l.length n ≠ [] := fun e => by have h1 := HMI.out; rw [e] at h1; simp at h1; omega
            have hfF : f = fstC l n := by rw [HFI.out]; unfold grpF; rw [if_neg hne]
            have := HDI.out
            omega
        have HP2 : Hid (Past l bs (n + 1) ∧ (n + 1 ≤ 15 → fstC l (n + 1) ≤ hiN (bs.take (n + 1)))) := by
          refine ⟨HP.out.1.next hn hcnt, fun h15 => ?_⟩
          exact over_next hn1 hcnt (b := bs[n]'(by have := HB.out; omega)) (List.getElem?_eq_getElem _)
        have HH2 := hid (HH.out.drewN 4)
        clear hcnt
        go_roundg (gk - 1)
        case measure => omega
        case rel => exact ⟨n + 1, by omega, by omega, by omega, by go_num, HH.out.drewN _, HP2⟩
    · have h16 : n = 16 := by omega
      subst h16
      have HN : Hid (∀ i m, ¬ Hit l bs i m) := fun i m hh => by
        have h1 := HP.out.1 i m hh
        have h2 := hh.2.2.1
        have := HB.out
        omega
      have HH2 := hid HH.out
      clear HH HP
      go_wp2
      go_ret2
      exact ⟨0, 0, rfl, Held.mk (_, _, S) HH2.out, .inr ⟨rfl, rfl, HN.out⟩⟩
end
end Go.Proofs.YtbkbkmgogbgofaaDoor
/-
  Next: the symbol whose code is next, or an error.
-/
namespace Go.Proofs.YtbkbkmgogbgofaaDoor
set_option maxRecDepth 5000
open Go.RowKit
theorem hit_same {l : List Int} {bs cs : List Nat} {L i q : Nat} (ht : cs.take L = bs.take L) (hq : q ≤ L) (h1 : L ≤ bs.length) (h : Hit l cs i q) : Hit l bs i q := by
  refine ⟨h.1, h.2.1, by omega, ?_⟩
  have h3 := h.2.2.2
  have e : cs.take q = bs.take q := by
    have := congrArg (List.take q) ht
    rwa [List.take_take, List.take_take, Nat.min_eq_left hq] at this
  rw [e] at h3; exact h3
theorem ahead_bits (bs : List Nat) (hb : isBits bs) (L : Nat) (hL : L ≤ bs.length) (h15 : L ≤ 15) : (hiBits 15 (revN (numOf (bs.take L)) 15)).take L = bs.take L := by
  rw [← bitsOf_hiBits _ 15 (by decide)]
  have hl : (bs.take L).length = L := by rw [List.length_take]; omega
  have h := bitsOf_numOf (bs.take L) (isBits_take hb L)
  rw [hl] at h
  refine Eq.trans ?_ h
  refine List.ext_getElem? fun k => ?_
  by_cases hk : k < L
  · rw [List.getElem?_take_of_lt hk, bitsOf_get _ _ _ (by omega), bitsOf_get _ _ _ hk]
  · rw [List.getElem?_eq_none (by rw [List.length_take]; omega), List.getElem?_eq_none (by rw [bitsOf_length]; omega)]
theorem next_far {l : List Int} {bs cs : List Nat} {L k n : Nat} (hl : ∀ a ∈ l, 0 ≤ a ∧ a ≤ 15) (hc : isBits cs) (h15 : cs.length = 15) (ht : cs.take L = bs.take L) (hL : L = min bs.length 15) (hh : Hit l cs k n) (hn : L < n) : ReadIs l bs 0 0 5 := by
  have hlng := hh.long
  have hn15 := hh.2.2.1
  refine .inr ⟨rfl, rfl, fun i m h => ?_, ?_⟩
  · have hm : m ≤ 15 := by have := hl _ (List.mem_of_getElem? h.1); omega
    have hmb := h.2.2.1
    have h2 := hit_same (bs := cs) ht.symm (by omega) (by omega) h
    have := (Hit.one hc hl hh h2).2
    omega
  · rw [if_pos (.inl (by omega))]
theorem next_none {l : List Int} {bs cs : List Nat} {L : Nat} (hF : Fine l) (hc : isBits cs) (h15 : cs.length = 15) (ht : cs.take L = bs.take L) (hL : L = min bs.length 15) (h0 : 0 < L) (hh : ∀ i m, ¬ Hit l cs i m) : ReadIs l bs 0 0 3 := by
  have hlng : lng l ≤ 15 := lng_top l 15 fun a ha => by have := hF.1 a ha; omega
  refine .inr ⟨rfl, rfl, fun i m h => ?_, ?_⟩
  · have hm : m ≤ 15 := by have := hF.1 _ (List.mem_of_getElem? h.1); omega
    have hmb := h.2.2.1
    exact hh i m (hit_same (bs := cs) ht.symm (by omega) (by omega) h)
  · rw [if_neg]
    rintro (h | h)
    · rcases hF.2.2 with h2 | h2 | h2
      · have := lng_small l hF.1 (.inl h2); omega
      · obtain ⟨i, m, h3⟩ := Hit.whole hF.1 h2 hc (by omega)
        exact hh i m h3
      · have := lng_small l hF.1 (.inr h2); omega
    · subst h; simp at hL; omega
section
variable {w0 w : World} {Rs : List Thing}
set_option maxRecDepth 20000 in
set_option maxHeartbeats 1600000 in
theorem next_lens {P : Place} {R : List Nat → Thing} (LR : RdLens P R) (l : List Int) (B : Nat) (bs : List Nat) (h : Held w0 w (R bs :: tabT l B :: Rs)) (hF : Fine l) (hb : isBits bs) (hlen : bs.length < 1000000000) :
    Calls Tryd.prog 55 #[.pointer (some ⟨B, 0, none⟩), .pointer (some ⟨P.b, P.o, none⟩)] w fun e w' =>
      ∃ k q er : Nat, e = .returned (.tuple #[.int .i64 (k : Int), .int .i64 (er : Int)]) ∧ Held w0 w' (R (bs.drop q) :: tabT l B :: Rs) ∧ Hid (ReadIs l bs k q er) := by
  have HL := hid (l_left LR h (by omega))
  obtain ⟨L, hL⟩ : ∃ L, L = min bs.length 15 := ⟨_, rfl⟩
  obtain ⟨N, hN⟩ : ∃ N, N = bs.length := ⟨_, rfl⟩
  rw [← hN] at HL
  have HB := hid hb
  have HF := hid hF
  have HN := hid hN
  have HLI := hid hL
  obtain ⟨cs, hcs⟩ : ∃ cs, cs = hiBits 15 (revN (numOf (bs.take L)) 15) := ⟨_, rfl⟩
  have HT : Hid (cs.take L = bs.take L) := by rw [hcs]; exact ahead_bits bs hb L (by omega) (by omega)
  have HC : Hid (isBits cs) := by rw [hcs]; exact hiBits_isBits _ _
  have HC2 : Hid (cs.length = 15) := by rw [hcs]; exact hiBits_length _ _
  obtain ⟨a, ha⟩ : ∃ a, a = numOf (bs.take L) := ⟨_, rfl⟩
  have ha32 : a < 4294967296 := by
    rw [ha]
    have h1 := numOf_lt (bs.take L) (isBits_take hb L)
    have h2 : 2 ^ (bs.take L).length ≤ 2 ^ 15 := Nat.pow_le_pow_right (by decide) (by rw [List.length_take]; omega)
    exact Nat.lt_of_lt_of_le h1 (Nat.le_trans h2 (by decide))
  rw [← ha] at hcs
  obtain ⟨x, hx⟩ : ∃ x, x = revN a 15 := ⟨_, rfl⟩
  have hx2 : x < 32768 := by rw [hx]; exact revN_lt _ _ (by decide)
  rw [← hx] at hcs
  have HX := hid hx
  have HA := hid ha
  have HCS := hid hcs
  have hN0 : (0 : Int) ≤ (N : Int) := Int.natCast_nonneg _
  have hL15 : L ≤ 15 := by omega
  have hLN : L ≤ N := by omega
  have hcase : N ≤ 15 ∧ L = N ∨ 15 < N ∧ L = 15 := by omega
  have hNl : N < 1000000000 := by omega
  clear h hL hN hb hF hcs hx ha hlen
  rcases hcase with ⟨hNc, hNL⟩ | ⟨hNc, hNL⟩
  · obtain rfl : N = L := hNL.symm
    have hNI : (N : Int) ≤ 15 := by omega
    go_enter Tryd.func55, Tryd.ntmps55
    go_wp2_with fail
    refine HL.out.mono ?_
    rintro e w1 ⟨rfl, hh⟩
    have H1 := hid hh
    clear hh
    go_wp2_with fail
    refine (l_peek LR H1.out N (by omega) (by have := HN.out; omega) (by have := HN.out; omega)).mono ?_
    rw [← HA.out]
    rintro e w2 ⟨rfl, hh⟩
    have H2 := hid hh
    clear hh H1
    go_wp2_with fail
    refine (reverse_any a 15 w2 ha32 (by decide)).mono ?_
    rw [← HX.out]
    rintro e w3 ⟨rfl, rfl⟩
    go_wp2_with fail
    refine (tfind_any l B x H2.out.swap HF.out hx2).mono ?_
    rw [← HCS.out]
    rintro e w4 ⟨k, n, rfl, hh, HR⟩
    have H4 := hid hh.swap
    clear hh H2
    have hk0 : (0 : Int) ≤ (k : Int) := Int.natCast_nonneg _
    have hn0 : (0 : Int) ≤ (n : Int) := Int.natCast_nonneg _
    by_cases h0 : N = 0
    · have hB0 : ((N : Int) == 0) = true := by simp; omega
      have HE : Hid (bs = []) := List.eq_nil_of_length_eq_zero (by have := HN.out; omega)
      clear h0
      go_wp2
      go_ret2
      refine ⟨0, 0, 5, rfl, H4.out, ?_⟩
      rw [HE.out]; exact read_empty l
    have hB0 : ((N : Int) == 0) = false := by simp; omega
    have HL0 : Hid (0 < N) := by unfold Hid; omega
    clear h0
    have h3 : N < n ∨ n = 0 ∨ 1 ≤ n ∧ n ≤ N := by omega
    rcases h3 with h3 | h3 | ⟨h3, h4⟩
    · have hB1 : decide (((N : Nat) : Int) < (n : Int)) = true := by simp; omega
      have hI1 : ((N : Nat) : Int) < (n : Int) := by omega
      have HH : Hid (ReadIs l bs 0 0 5) := by
        rcases HR.out with h | ⟨_, h, _⟩
        · exact next_far HF.out.1 HC.out HC2.out HT.out HLI.out h h3
        · omega
      clear h3
      go_wp2
      go_ret2
      exact ⟨0, 0, 5, rfl, H4.out, HH⟩
    · subst h3
      have HH : Hid (ReadIs l bs 0 0 3) := by
        rcases HR.out with h | ⟨_, _, h⟩
        · exact absurd h.2.1 (by decide)
        · exact next_none HF.out HC.out HC2.out HT.out HLI.out HL0.out h
      have hB1 : decide (((N : Nat) : Int) < 0) = false := by simp
      have hI1 : ¬ ((N : Nat) : Int) < 0 := by omega
      go_wp2
      go_ret2
      exact ⟨0, 0, 3, rfl, H4.out, HH⟩
    · have hB1 : decide (((N : Nat) : Int) < (n : Int)) = false := by simp; omega
      have hI1 : ¬ ((N : Nat) : Int) < (n : Int) := by omega
      have hB2 : ((n : Int) == 0) = false := by simp; omega
      have HH : Hid (ReadIs l bs k n 0) := by
        rcases HR.out with h | ⟨_, h, _⟩
        · exact read_hit (hit_same HT.out h4 (by have := HLI.out; omega) h)
        · omega
      have HG := hid (l_get LR H4.out n (by omega) (by have := HLI.out; omega) (by have := HN.out; omega))
      clear h3 h4
      go_wp2_with fail
      refine HG.out.mono ?_
      rintro e w5 ⟨rfl, hh⟩
      have H5 := hid hh
      clear hh H4 HG
      go_wp2
      go_ret2
      exact ⟨k, n, 0, rfl, H5.out, HH⟩
  · subst hNL
    have hNI : ¬ (N : Int) ≤ 15 := by omega
    have hNI2 : (15 : Int) < (N : Int) := by omega
    go_enter Tryd.func55, Tryd.ntmps55
    go_wp2_with fail
    refine HL.out.mono ?_
    rintro e w1 ⟨rfl, hh⟩
    have H1 := hid hh
    clear hh
    go_wp2_with fail
    refine (l_peek LR H1.out 15 (by omega) (by have := HN.out; omega) (by have := HN.out; omega)).mono ?_
    rw [← HA.out]
    rintro e w2 ⟨rfl, hh⟩
    have H2 := hid hh
    clear hh H1
    go_wp2_with fail
    refine (reverse_any a 15 w2 ha32 (by decide)).mono ?_
    rw [← HX.out]
    rintro e w3 ⟨rfl, rfl⟩
    go_wp2_with fail
    refine (tfind_any l B x H2.out.swap HF.out hx2).mono ?_
    rw [← HCS.out]
    rintro e w4 ⟨k, n, rfl, hh, HR⟩
    have H4 := hid hh.swap
    clear hh H2
    have hk0 : (0 : Int) ≤ (k : Int) := Int.natCast_nonneg _
    have hn0 : (0 : Int) ≤ (n : Int) := Int.natCast_nonneg _
    have HL0 : Hid (0 < 15) := by unfold Hid; omega
    have h3 : 15 < n ∨ n = 0 ∨ 1 ≤ n ∧ n ≤ 15 := by omega
    rcases h3 with h3 | h3 | ⟨h3, h4⟩
    · have hB1 : decide (((15 : Nat) : Int) < (n : Int)) = true := by simp; omega
      have hI1 : ((15 : Nat) : Int) < (n : Int) := by omega
      have HH : Hid (ReadIs l bs 0 0 5) := by
        rcases HR.out with h | ⟨_, h, _⟩
        · exact next_far HF.out.1 HC.out HC2.out HT.out HLI.out h h3
        · omega
      clear h3
      go_wp2
      go_ret2
      exact ⟨0, 0, 5, rfl, H4.out, HH⟩
    · subst h3
      have HH : Hid (ReadIs l bs 0 0 3) := by
        rcases HR.out with h | ⟨_, _, h⟩
        · exact absurd h.2.1 (by decide)
        · exact next_none HF.out HC.out HC2.out HT.out HLI.out HL0.out h
      have hB1 : decide (((15 : Nat) : Int) < 0) = false := by simp
      have hI1 : ¬ ((15 : Nat) : Int) < 0 := by omega
      go_wp2
      go_ret2
      exact ⟨0, 0, 3, rfl, H4.out, HH⟩
    · have hB1 : decide (((15 : Nat) : Int) < (n : Int)) = false := by simp; omega
      have hI1 : ¬ ((15 : Nat) : Int) < (n : Int) := by omega
      have hB2 : ((n : Int) == 0) = false := by simp; omega
      have HH : Hid (ReadIs l bs k n 0) := by
        rcases HR.out with h | ⟨_, h, _⟩
        · exact read_hit (hit_same HT.out h4 (by have := HLI.out; omega) h)
        · omega
      have HG := hid (l_get LR H4.out n (by omega) (by have := HLI.out; omega) (by have := HN.out; omega))
      clear h3 h4
      go_wp2_with fail
      refine HG.out.mono ?_
      rintro e w5 ⟨rfl, hh⟩
      have H5 := hid hh
      clear hh H4 HG
      go_wp2
      go_ret2
      exact ⟨k, n, 0, rfl, H5.out, HH⟩
end
end Go.Proofs.YtbkbkmgogbgofaaDoor
/-
  What a window is to do, as a statement that the program's own text must show ('WindowOK', for some thing that a window is); the laws' own example.
-/
namespace Go.Proofs.YtbkbkmgogbgofaaDoor
set_option maxRecDepth 5000
open Go.RowKit
section
variable {w0 w : World} {Rs : List Thing}
end
end Go.Proofs.YtbkbkmgogbgofaaDoor
/-
  The last bytes of a list, as many as a window keeps. No program is named here.
-/
namespace Go.Proofs.YtbkbkmgogbgofaaDoor
set_option maxRecDepth 5000
def keepN (S : Nat) (l : List Nat) : List Nat := l.drop (l.length - S)
theorem keepN_length (S : Nat) (l : List Nat) : (keepN S l).length = min l.length S := by rw [keepN, List.length_drop]; omega
theorem keepN_short (S : Nat) (l : List Nat) (h : l.length ≤ S) : keepN S l = l := by rw [keepN, Nat.sub_eq_zero_of_le h, List.drop_zero]
theorem keepN_behind (S : Nat) (p l : List Nat) (h : S ≤ l.length) : keepN S (p ++ l) = keepN S l := by
  have e : p.length + l.length - S = p.length + (l.length - S) := by omega
  rw [keepN, List.length_append, e, List.drop_append, keepN]
  simp
theorem keepN_split (S : Nat) (l : List Nat) : l.take (l.length - S) ++ keepN S l = l := List.take_append_drop _ _
theorem keepN_app (S : Nat) (l m : List Nat) : keepN S (keepN S l ++ keepN S m) = keepN S (l ++ m) := by
  have hl := keepN_length S l
  have hm := keepN_length S m
  by_cases h : S ≤ m.length
  · rw [keepN_behind S l m h, keepN_behind S _ _ (by omega)]
    exact keepN_short S _ (by omega)
  · rw [keepN_short S m (by omega)]
    by_cases h2 : l.length ≤ S
    · rw [keepN_short S l h2]
    · have e : l ++ m = l.take (l.length - S) ++ (keepN S l ++ m) := by rw [← List.append_assoc, keepN_split]
      rw [e, keepN_behind S _ (keepN S l ++ m) (by rw [List.length_append]; omega)]
theorem ext_app (p l : List Nat) (d : Nat) (h : d ≤ l.length) : ∀ n, ext (p ++ l) d n = p ++ ext l d n
  | 0 => rfl
  | n + 1 => by
    have e : p.length + l.length + n - d = p.length + (l.length + n - d) := by omega
    rw [ext, ext, ext_app p l d h n, List.append_assoc, List.length_append, e, List.getElem?_append_right (by omega), Nat.add_sub_cancel_left]
theorem out_app (p l : List Nat) (d n : Nat) (h : d ≤ l.length) : out (p ++ l) d n = out l d n := by
  rw [out, out, ext_app p l d h n, List.length_append, List.drop_append]
  simp
theorem keepN_ext (S : Nat) (l : List Nat) (d n : Nat) (h : d ≤ (keepN S l).length) : keepN S (ext (keepN S l) d n) = keepN S (ext l d n) := by
  by_cases h2 : l.length ≤ S
  · rw [keepN_short S l h2]
  · have hk := keepN_length S l
    have e : ext l d n = l.take (l.length - S) ++ ext (keepN S l) d n := by rw [← ext_app _ _ _ h, keepN_split]
    rw [e, keepN_behind S _ (ext (keepN S l) d n) (by rw [ext_length]; omega)]
theorem out_keepN (S : Nat) (l : List Nat) (d n : Nat) (h : d ≤ (keepN S l).length) : out (keepN S l) d n = out l d n := by
  have e := out_app (l.take (l.length - S)) (keepN S l) d n h
  rw [keepN_split] at e
  exact e.symm
theorem drop_keepN (S : Nat) (l : List Nat) (n : Nat) (h1 : n ≤ l.length) (h2 : n ≤ S) : (keepN S l).drop ((keepN S l).length - n) = l.drop (l.length - n) := by
  have e : l.length - S + (l.length - (l.length - S) - n) = l.length - n := by omega
  rw [keepN, List.length_drop, List.drop_drop, e]
theorem out_drop (l : List Nat) (d n : Nat) : (ext l d n).drop ((ext l d n).length - n) = out l d n := by
  rw [ext_length, Nat.add_sub_cancel, out]
end Go.Proofs.YtbkbkmgogbgofaaDoor
/-
  The landed window keeps its contracts: its object, its list, Add, Copy, Len, Last.
-/
namespace Go.Proofs.YtbkbkmgogbgofaaDoor
set_option maxRecDepth 5000
open Go.RowKit
theorem infoByteW : (Tryd.prog.info? 5).map (fun i => (i.zero, i.size, i.bytes)) = some (some (.int .u8 0), 1, 1) := by kernel_rfl
def keep (l : List Nat) : List Nat := keepN 32768 l
def rawT (l : List Nat) (B : Place) : Thing := exT fun v : Value => andT (objP B [v]) (ownT 5 1 v l.length (u8s l))
def winT (all : List Nat) (B : Place) : Thing := rawT (keep all) B
section
variable {w0 w : World} {Rs : List Thing}
theorem mkRaw {l : List Nat} {B : Place} {n : Nat} {v : Value} (hn : n = l.length) (h : Held w0 w (objP B [v] :: ownT 5 1 v n (u8s l) :: Rs)) : Held w0 w (rawT l B :: Rs) := by
  subst hn
  exact Held.mk v h.pair
theorem unRaw {l : List Nat} {B : Place} (h : Held w0 w (rawT l B :: Rs)) : ∃ v, Held w0 w (objP B [v] :: ownT 5 1 v l.length (u8s l) :: Rs) := by
  obtain ⟨v, h2⟩ := h.ex
  exact ⟨v, h2.unpair⟩
theorem outside_any (n : Nat) (hn : n < 2000000000) (w : World) :
    Calls Tryd.prog 83 #[.int .i64 (n : Int)] w fun e w' => e = .returned (.int .i64 ((n - 32768 : Nat) : Int)) ∧ w' = w := by
  have hn0 : (0 : Int) ≤ (n : Int) := Int.natCast_nonneg _
  rcases Nat.lt_or_ge 32768 n with h | h
  · have hI : (n : Int) - 32768 = ((n - 32768 : Nat) : Int) := by omega
    obtain ⟨m, hm⟩ : ∃ m, m = n - 32768 := ⟨_, rfl⟩
    rw [← hm] at hI ⊢
    have hm0 : (0 : Int) ≤ (m : Int) := Int.natCast_nonneg _
    have hm1 : (0 : Int) < (m : Int) := by omega
    clear hm h
    go_enter Tryd.func83, Tryd.ntmps83
    go_wp2
    go_ret
    exact ⟨rfl, rfl⟩
  · obtain ⟨x, hx⟩ : ∃ x : Int, x = (n : Int) - 32768 := ⟨_, rfl⟩
    have hI : (n : Int) - 32768 = x := hx.symm
    have hz : n - 32768 = 0 := by omega
    have hlo : -9223372036854775808 ≤ x := by omega
    have hhi : x ≤ 9223372036854775807 := by omega
    have hc : x < 0 ∨ x = 0 := by omega
    rw [hz]
    clear hx h
    rcases hc with hc | rfl
    all_goals
      go_enter Tryd.func83, Tryd.ntmps83
      go_wp2
      go_ret
      exact ⟨rfl, rfl⟩
theorem raw_len (l : List Nat) (B : Place) (n : Nat) (h : Held w0 w (rawT l B :: Rs)) (hn : n = l.length) :
    Calls Tryd.prog 77 #[.pointer (some ⟨B.b, B.o, none⟩)] w fun e w' => e = .returned (.int .i64 (n : Int)) ∧ w = w' := by
  subst hn
  obtain ⟨v, h3⟩ := unRaw h
  have hb := h3.objp
  obtain ⟨ao, cap, rfl, _, _⟩ := h3.swap.own.form
  have c0 := hb.cell0 rfl
  clear h h3 hb
  go_enter Tryd.func77, Tryd.ntmps77
  go_wp2
  go_ret
  exact ⟨rfl, rfl⟩
theorem cloneB_any (v : Value) (n : Nat) (l : List Nat) (h : Held w0 w Rs) (hv : Rd w 1 v n (u8s l)) (hn : n ≤ 1000000000) :
    Calls Tryd.prog 95 #[v] w fun e w' => ∃ v', e = .returned v' ∧ Held w0 w' (ownT 5 1 v' n (u8s l) :: Rs) := by
  obtain ⟨i0, hi0, hz0, hz1, hz2⟩ := info_parts infoByteW
  have q22 : ∀ (w : World) (a : Option Addr) (n c n' c' : Nat), (binOp .eql 26 (.slice a n c) (.slice none n' c')).run Tryd.prog w = .ok (.bool a.isNone) w := fun w a n c n' c' => Lib.run_eql_slice_nil w _ _ a n c n' c' Tryd.underlying26
  obtain ⟨hl, ao, cap, rfl, hnc, hcm, h0, hr⟩ := hv
  cases ao with
  | none =>
    obtain rfl := h0 rfl
    obtain rfl : n = 0 := by omega
    have hx : u8s l = [] := List.eq_nil_of_length_eq_zero (by omega)
    rw [hx]
    have HH := hid (h.nil 5 1)
    clear h hl h0 hr
    go_enter Tryd.func95, Tryd.ntmps95
    go_wp2
    go_ret
    exact ⟨_, rfl, HH.out⟩
  | some a =>
    have hv : Rd w 1 (.slice (some a) n cap) n (u8s l) := ⟨hl, _, _, rfl, hnc, hcm, h0, hr⟩
    have H1 := hid (h.lit 5 1 [] 0 (by decide) rfl)
    have HV := hid (hv.kept ((Mod.refl w (fun _ => False)).alloc (.cells #[] 5)) (fun _ _ h => h))
    clear h hl h0 hr hv
    go_enter Tryd.func95, Tryd.ntmps95
    go_wp2_with (refine wpList_app_held rfl (.tmp 5) (.tmp 6) 26 rfl 5 i0 (.int .u8 0) 1 1 Tryd.underlying26 hi0 hz0 hz1 hz2 rfl (by decide) _ 0 [] rfl H1.out _ n (u8s l) rfl HV.out (u8s_one l) n (by omega) (by unfold maxLen; omega) (by omega) ?_; intro ao1 cap1 w1 h1; have H2 := hid h1; clear h1)
    go_ret
    exact ⟨_, rfl, H2.out⟩
theorem raw_slide (l : List Nat) (B : Place) (h : Held w0 w (rawT l B :: Rs)) (hl : l.length < 2000000000) :
    Calls Tryd.prog 84 #[.pointer (some ⟨B.b, B.o, none⟩)] w fun e w' => e = .returned (.tuple #[]) ∧ Held w0 w' (rawT (keep l) B :: Rs) := by
  obtain ⟨i, hi, hz0, hz1, hz2⟩ := info_parts infoByteW
  obtain ⟨v, h3⟩ := unRaw h
  obtain ⟨n, hn⟩ : ∃ n, n = l.length := ⟨_, rfl⟩
  rw [← hn] at h3 hl
  obtain ⟨ao, cap, rfl, hnc, hcm⟩ := h3.swap.own.form
  obtain ⟨q, hq⟩ : ∃ q, q = n - 32768 := ⟨_, rfl⟩
  have HO := hid (fun w => outside_any n hl w)
  rw [← hq] at HO
  have hb := h3.objp
  have c0 := hb.cell0 rfl
  have f0 := hb.frozen0
  have hqn : q ≤ n := by omega
  have hcut : ∀ wg, (Instr.sliceAt 26 (.slice ao n cap) (some (.int .i64 (q : Int))) none none).run Tryd.prog wg = .ok (.slice (if cap = q then ao else ao.map fun (x : Addr) => x.add (q * 1)) (n - q) (cap - q)) wg := fun wg =>
    run_cut (P := Tryd.prog) 26 5 i 1 Tryd.underlying26 hi hz1 ao n cap q n (some (.int .i64 (q : Int))) none ⟨_, rfl⟩ rfl hqn hnc
  have H5 := hid (h3.swap.recut (h3.swap.own.cut hqn (Nat.le_refl _)) (cut_block ao q n cap 1 n)).swap
  unfold sliced at H5
  generalize (if cap = q then ao else ao.map fun (x : Addr) => x.add (q * 1)) = a' at hcut H5
  have HE : Hid (((u8s l).drop (q * 1)).take ((n - q) * 1) = u8s (keep l) ∧ n - q = (keep l).length) := by
    have hk := keepN_length 32768 l
    refine hid ⟨?_, by rw [keep, hk, ← hn]; omega⟩
    rw [Nat.mul_one, Nat.mul_one, List.take_of_length_le (by rw [List.length_drop, u8s_length]; omega), keep, keepN, ← hn, ← hq]
    simp [u8s, List.map_drop]
  rw [HE.out.1] at H5
  clear h h3 hb hq hn
  go_enter Tryd.func84, Tryd.ntmps84
  go_wp2
  go_still_tail 14, (by kernel_rfl)
  still_call (HO.out _)
  repeat still_step
  refine wpStill_nil ?_
  change wpList _ _ _ _ _ w.drew
  go_wp2
  go_end0
  exact ⟨rfl, mkRaw HE.out.2 (H5.out.drew.setObjP0 _)⟩
theorem raw_last (l : List Nat) (B : Place) (k : Nat) (a : Int) (h : Held w0 w (rawT l B :: Rs)) (hl : l.length < 1000000000) (hk : 1 ≤ k) (hkl : k ≤ l.length) (ha : a = (k : Int) ∨ ((k : Int) ≤ a ∧ k = l.length)) :
    Calls Tryd.prog 92 #[.pointer (some ⟨B.b, B.o, none⟩), .int .i64 a] w fun e w' => ∃ v, e = .returned v ∧ Held w0 w' (ownT 5 1 v k (u8s (l.drop (l.length - k))) :: rawT l B :: Rs) := by
  obtain ⟨i, hi, hz0, hz1, hz2⟩ := info_parts infoByteW
  obtain ⟨n, hn⟩ : ∃ n, n = l.length := ⟨_, rfl⟩
  rw [← hn] at hl ha hkl ⊢
  obtain ⟨p, hp⟩ : ∃ p, p = n - k := ⟨_, rfl⟩
  rw [← hp]
  have hpn : p ≤ n := by omega
  have HL := hid (raw_len l B n h hn)
  have HW := hid h
  obtain ⟨v, h3⟩ := unRaw h
  rw [← hn] at h3
  obtain ⟨ao, cap, rfl, hnc, hcm⟩ := h3.swap.own.form
  have hb := h3.objp
  have c0 := hb.cell0 rfl
  have hcut : ∀ wg, (Instr.sliceAt 26 (.slice ao n cap) (some (.int .i64 (p : Int))) none none).run Tryd.prog wg = .ok (.slice (if cap = p then ao else ao.map fun (x : Addr) => x.add (p * 1)) (n - p) (cap - p)) wg := fun wg =>
    run_cut (P := Tryd.prog) 26 5 i 1 Tryd.underlying26 hi hz1 ao n cap p n (some (.int .i64 (p : Int))) none ⟨_, rfl⟩ rfl hpn hnc
  have hrd := (h3.swap.own.rd.cut (L := p) (H := n) hpn (Nat.le_refl _)).drew
  unfold sliced at hrd
  generalize (if cap = p then ao else ao.map fun (x : Addr) => x.add (p * 1)) = a' at hcut hrd
  have e1 : n - p = k := by omega
  have e2 : ((u8s l).drop (p * 1)).take ((n - p) * 1) = u8s (l.drop p) := by
    rw [Nat.mul_one, Nat.mul_one, List.take_of_length_le (by rw [List.length_drop, u8s_length]; omega)]
    simp [u8s, List.map_drop]
  rw [e2, e1] at hrd
  rw [e1] at hcut
  have HC := hid (cloneB_any _ k (l.drop p) h.drew hrd (by omega))
  have hn0 : (0 : Int) ≤ (n : Int) := Int.natCast_nonneg _
  have hk0 : (0 : Int) ≤ (k : Int) := Int.natCast_nonneg _
  have hkI : ¬ (k : Int) < 1 := by omega
  have hkn : (k : Int) ≤ (n : Int) := by omega
  have hpI : (n : Int) - (k : Int) = (p : Int) := by omega
  have hw0 : IntKind.i64.wrap (p : Int) = (p : Int) := IntWalk.i64_in _ (by omega)
  have hc : a = (k : Int) ∨ ((n : Int) < a ∧ n = k) := by omega
  clear h h3 hb hrd e1 e2 hp hn ha
  rcases hc with rfl | ⟨hc, hnk⟩
  · go_enter Tryd.func92, Tryd.ntmps92
    go_wp2_with fail
    refine HL.out.mono ?_
    rintro e w1 ⟨rfl, rfl⟩
    go_wp2
    go_still_tail 12, (by kernel_rfl)
    change wpList _ _ _ _ _ w.drew
    generalize w.drew = w2 at HC ⊢
    go_wp2_with fail
    refine HC.out.mono ?_
    rintro e w3 ⟨v', rfl, hh⟩
    have HE := hid hh
    clear hh HC
    go_wp2
    go_ret
    exact ⟨_, rfl, HE.out⟩
  · subst hnk
    go_enter Tryd.func92, Tryd.ntmps92
    go_wp2_with fail
    refine HL.out.mono ?_
    rintro e w1 ⟨rfl, rfl⟩
    go_wp2
    go_still_tail 12, (by kernel_rfl)
    change wpList _ _ _ _ _ w.drew
    generalize w.drew = w2 at HC ⊢
    go_wp2_with fail
    refine HC.out.mono ?_
    rintro e w3 ⟨v', rfl, hh⟩
    have HE := hid hh
    clear hh HC
    go_wp2
    go_ret
    exact ⟨_, rfl, HE.out⟩
set_option maxHeartbeats 1600000 in
theorem raw_add (l bs : List Nat) (B : Place) (v : Value) (m : Nat) (h : Held w0 w (rawT l B :: Rs)) (hl : l.length < 40000) (hv : Rd w 1 v m (u8s bs)) (hm : m < 2000000000) :
    Calls Tryd.prog 63 #[.pointer (some ⟨B.b, B.o, none⟩), v] w fun e w' => e = .returned (.tuple #[]) ∧ Held w0 w' (rawT (keep (l ++ keep bs)) B :: Rs) := by
  obtain ⟨i, hi, hz0, hz1, hz2⟩ := info_parts infoByteW
  have hmb : m = bs.length := by have := hv.1; rw [u8s_length] at this; omega
  obtain ⟨so, scap, rfl, hmc, hsm⟩ := hv.form
  obtain ⟨n, hn⟩ : ∃ n, n = l.length := ⟨_, rfl⟩
  obtain ⟨q, hq⟩ : ∃ q, q = m - 32768 := ⟨_, rfl⟩
  have hqm : q ≤ m := by omega
  have HO := hid (fun w => outside_any m hm w)
  rw [← hq] at HO
  obtain ⟨v, h3⟩ := unRaw h
  rw [← hn] at h3 hl
  obtain ⟨ao, cap, rfl, hnc, hcm⟩ := h3.swap.own.form
  have hb := h3.objp
  have HB := hid hb
  have HA := hid h3.apartP
  have c0 := hb.cell0 rfl
  have hcut : ∀ wg, (Instr.sliceAt 26 (.slice so m scap) (some (.int .i64 (q : Int))) none none).run Tryd.prog wg = .ok (.slice (if scap = q then so else so.map fun (x : Addr) => x.add (q * 1)) (m - q) (scap - q)) wg := fun wg =>
    run_cut (P := Tryd.prog) 26 5 i 1 Tryd.underlying26 hi hz1 so m scap q m (some (.int .i64 (q : Int))) none ⟨_, rfl⟩ rfl hqm hmc
  have hrd := (hv.cut (L := q) (H := m) hqm (Nat.le_refl _)).drew
  unfold sliced at hrd
  generalize (if scap = q then so else so.map fun (x : Addr) => x.add (q * 1)) = a' at hcut hrd
  obtain ⟨k, hk⟩ : ∃ k, k = m - q := ⟨_, rfl⟩
  have e2 : ((u8s bs).drop (q * 1)).take ((m - q) * 1) = u8s (keep bs) := by
    rw [Nat.mul_one, Nat.mul_one, List.take_of_length_le (by rw [List.length_drop, u8s_length]; omega), keep, keepN, ← hmb, ← hq]
    simp [u8s, List.map_drop]
  rw [e2, ← hk] at hrd
  rw [← hk] at hcut
  have hk3 : k ≤ 32768 := by omega
  have hkl : k = (keep bs).length := by rw [keep, keepN_length]; omega
  have HR := hid hrd
  have HN := hid (And.intro hn hkl)
  have H3 := hid h3.swap
  clear h h3 hb hv hrd e2 hq hk hkl hn hmb
  go_enter Tryd.func63, Tryd.ntmps63
  go_wp2
  go_region_law ((first
    | (refine step_app _ (by rfl) (.tmp 10) (.tmp 15) 26 (by rfl) 5 i (.int .u8 0) 1 1 Tryd.underlying26 hi hz0 hz1 hz2 (by rfl) (by decide) (.slice ao n cap) n (u8s l) (by rfl) (by exact H3.out.own.drew) (.slice a' k (scap - q)) k (u8s (keep bs)) (by rfl) (by exact HR.out) (u8s_one _) (by unfold maxLen; omega) (by omega) ?_; intro ao1 cap1 w2 hown1 hgrow hat; have HB1 := hid (HB.out.drew.grown hgrow HA.out); have f1 := HB1.out.frozen0; have c1 := HB1.out.cell0 rfl)
    | (go_simp; go_at_call 83; refine (HO.out _).mono ?_; rintro e w1 ⟨rfl, rfl⟩)))
  all_goals
    have h5 := (H3.out.drew.app hown1 hgrow hat).swap.setObjP0 (.slice ao1 (n + k) cap1)
    rw [← u8s_append] at h5
    have HS := hid (raw_slide (l ++ keep bs) B (mkRaw (by rw [List.length_append, ← HN.out.1, ← HN.out.2]) h5) (by rw [List.length_append, ← HN.out.1, ← HN.out.2]; omega))
    clear h5 hown1 hgrow hat f1 c1 HB1
    go_wp2_with fail
    refine HS.out.mono ?_
    rintro e w6 ⟨rfl, hh⟩
    have HE := hid hh
    clear hh HS
    go_wp2
    go_end0
    exact ⟨rfl, HE.out⟩
set_option maxHeartbeats 3200000 in
theorem raw_copy (l : List Nat) (B : Place) (n d : Nat) (h : Held w0 w (rawT l B :: Rs)) (hl : l.length ≤ 32768) (hn1 : 1 ≤ n) (hn2 : n ≤ 258) (hd1 : 1 ≤ d) (hd2 : d ≤ l.length) :
    Calls Tryd.prog 78 #[.pointer (some ⟨B.b, B.o, none⟩), .int .i64 (n : Int), .int .i64 (d : Int)] w fun e w' => ∃ v, e = .returned (.tuple #[v, .int .i64 0]) ∧ Held w0 w' (ownT 5 1 v n (u8s (out l d n)) :: rawT (keep (ext l d n)) B :: Rs) := by
  obtain ⟨i, hi, hz0, hz1, hz2⟩ := info_parts infoByteW
  obtain ⟨L, hL⟩ : ∃ L, L = l.length := ⟨_, rfl⟩
  have HLN := hid (raw_len l B L h hL)
  have HW := hid h
  have HL := hid hL
  rw [← hL] at hl hd2
  have hn3 : ¬ (n : Int) < 1 := by omega
  have hn4 : ¬ (258 : Int) < (n : Int) := by omega
  have hd3 : ¬ (d : Int) < 1 := by omega
  have hd4 : ¬ (L : Int) < (d : Int) := by omega
  have hd5 : ¬ L < d := by omega
  have hn0 : (0 : Int) ≤ (n : Int) := Int.natCast_nonneg _
  have hd0 : (0 : Int) ≤ (d : Int) := Int.natCast_nonneg _
  clear h hL
  go_enter Tryd.func78, Tryd.ntmps78
  go_wp2_with fail
  refine HLN.out.mono ?_
  rintro e w1 ⟨rfl, rfl⟩
  go_wp2
  go_loopg [27] (n + 2) (fun k t27 wr => ∃ j : Nat, j ≤ n ∧ n - j < k ∧ t27 = .int .i64 (j : Int) ∧ Hid (Held w0 wr (rawT (ext l d j) B :: Rs)))
  case atStart => exact ⟨0, by omega, by omega, rfl, HW⟩
  case round =>
    obtain ⟨j, hj, hk, rfl, HR⟩ := hrel
    have hj0 : (0 : Int) ≤ (j : Int) := Int.natCast_nonneg _
    by_cases hjn : j < n
    · have hjI : (j : Int) < (n : Int) := by omega
      obtain ⟨v, h3⟩ := unRaw HR.out
      obtain ⟨m, hm⟩ : ∃ m, m = L + j := ⟨_, rfl⟩
      have hel : (ext l d j).length = m := by rw [ext_length, ← HL.out, hm]
      rw [hel] at h3
      obtain ⟨ao, cap, rfl, hnc, hcm⟩ := h3.swap.own.form
      have hb := h3.objp
      have HB := hid hb
      have HA := hid h3.apartP
      have H3 := hid h3.swap
      have c0 := hb.cell0 rfl
      have f0 := hb.frozen0
      have fa : ∀ o, (wr.alloc o).frozen? ⟨B.b, B.o, none⟩ = false := fun o => (hb.alloc o).frozen0
      have ca0 : ∀ o, (wr.alloc o).cell? ⟨B.b, B.o, none⟩ = some (.slice ao m cap) := fun o => (hb.alloc o).cell0 rfl
      obtain ⟨p, hp⟩ : ∃ p, p = m - d := ⟨_, rfl⟩
      obtain ⟨x, hx⟩ : ∃ x, (ext l d j)[p]? = some x := ⟨(ext l d j)[p]'(by omega), List.getElem?_eq_getElem _⟩
      have hES : u8s (ext l d j) ++ u8s [x] = u8s (ext l d (j + 1)) := by
        rw [← u8s_append, ext, ← HL.out, show L + j - d = p by omega, hx]; rfl
      obtain ⟨g, off, rfl, hcell, _, _⟩ := h3.swap.own.site (by omega)
      have e1 := hcell p (.int .u8 (x : Int)) (by rw [u8s_get, hx]; rfl)
      have e2 : ∀ o, (wr.alloc o).cell? ⟨g, off + p, none⟩ = some (.int .u8 (x : Int)) := fun o => (Mod.cell ((Mod.refl wr (fun _ => False)).alloc o) (World.block_lt_of_cell? wr _ e1) (fun h => h)).trans e1
      have hpI : (m : Int) - (d : Int) = (p : Int) := by omega
      have hp0 : (0 : Int) ≤ (p : Int) := Int.natCast_nonneg _
      have hm0 : (0 : Int) ≤ (m : Int) := Int.natCast_nonneg _
      have hpm : (p : Int) < (m : Int) := by omega
      have hw0 : IntKind.i64.wrap (p : Int) = (p : Int) := IntWalk.i64_in _ (by omega)
      have hmb : m ≤ 40000 := by omega
      have HES := hid hES
      have HM := hid (And.intro hm hel)
      clear h3 hb hcell hx hES hp hm hel
      go_wp2
      go_region_law
        ((refine step_app _ (by rfl) (.tmp 33) (.tmp 47) 26 (by rfl) 5 i (.int .u8 0) 1 1 Tryd.underlying26 hi hz0 hz1 hz2 (by rfl) (by decide) (.slice (some ⟨g, off, none⟩) m cap) m (u8s (ext l d j)) (by rfl) (by exact (H3.out.own.alloc _).drew) (.slice (some ⟨wr.heap.size, 0, none⟩) 1 1) 1 (u8s [x]) (by rfl) (by exact (Rd.lit _ [_] _ 1 1 (by decide) rfl).drew) (u8s_one _) (by unfold maxLen; omega) (by omega) ?_; intro ao1 cap1 w2 hown1 hgrow hat; have HB1 := hid ((HB.out.alloc _).drew.grown hgrow HA.out); have f1 := HB1.out.frozen0; have c1 := HB1.out.cell0 rfl))
      all_goals
        have h5 := ((H3.out.alloc (.cells #[.int .u8 (x : Int)] 5)).drew.app hown1 hgrow hat).swap.setObjP0 (.slice ao1 (m + 1) cap1)
        rw [HES.out] at h5
        have H6 := hid (mkRaw (l := ext l d (j + 1)) (by rw [ext_length, ← HL.out, HM.out.1]; omega) h5)
        clear h5 hown1 hgrow hat f1 c1 HB1
        go_wp2
        go_roundg (gk - 1)
        case measure => omega
        case rel => exact ⟨j + 1, by omega, by omega, by go_num, H6⟩
    · obtain rfl : n = j := by omega
      have hjI : ¬ (n : Int) < (n : Int) := by omega
      have HS := hid (raw_slide (ext l d n) B HR.out (by rw [ext_length, ← HL.out]; omega))
      clear HR
      go_wp2_with fail
      refine HS.out.mono ?_
      rintro e w2 ⟨rfl, hh⟩
      have hkl : (keep (ext l d n)).length = min (L + n) 32768 := by rw [keep, keepN_length, ext_length, ← HL.out]
      have hdr : (keep (ext l d n)).drop ((keep (ext l d n)).length - n) = out l d n := by
        rw [keep, drop_keepN 32768 _ n (by rw [ext_length]; omega) (by omega), out_drop]
      have HT := raw_last (keep (ext l d n)) B n (n : Int) hh (by omega) hn1 (by omega) (.inl rfl)
      rw [hdr] at HT
      have HT := hid HT
      clear hh HS hkl hdr
      go_wp2_with fail
      refine HT.out.mono ?_
      rintro e w3 ⟨v', rfl, hh⟩
      have HE := hid hh
      clear hh HT
      go_wp2
      go_ret2
      exact ⟨_, rfl, HE.out⟩
/-! ### By all bytes that ever came -/
theorem keep_le (l : List Nat) : (keep l).length ≤ 32768 := by rw [keep, keepN_length]; omega
theorem keep_len (l : List Nat) : (keep l).length = min l.length 32768 := keepN_length _ _
theorem win_add (all bs : List Nat) (B : Place) (v : Value) (n : Nat) (h : Held w0 w (winT all B :: Rs)) (hv : Rd w 1 v n (u8s bs)) (hn : n < 2000000000) :
    Calls Tryd.prog 63 #[.pointer (some ⟨B.b, B.o, none⟩), v] w fun e w' => e = .returned (.tuple #[]) ∧ Held w0 w' (winT (all ++ bs) B :: Rs) := by
  have h1 := raw_add (keep all) bs B v n h (by have := keep_le all; omega) hv hn
  have e : keep (keep all ++ keep bs) = keep (all ++ bs) := keepN_app _ _ _
  rw [e] at h1
  exact h1
theorem win_copy (all : List Nat) (B : Place) (n d : Nat) (h : Held w0 w (winT all B :: Rs)) (hn1 : 1 ≤ n) (hn2 : n ≤ 258) (hd1 : 1 ≤ d) (hd2 : d ≤ all.length) (hd3 : d ≤ 32768) :
    Calls Tryd.prog 78 #[.pointer (some ⟨B.b, B.o, none⟩), .int .i64 (n : Int), .int .i64 (d : Int)] w fun e w' => ∃ v, e = .returned (.tuple #[v, .int .i64 0]) ∧ Held w0 w' (ownT 5 1 v n (u8s (out all d n)) :: winT (ext all d n) B :: Rs) := by
  have hd : d ≤ (keep all).length := by rw [keep_len]; omega
  have h1 := raw_copy (keep all) B n d h (keep_le all) hn1 hn2 hd1 hd
  have e1 : keep (ext (keep all) d n) = keep (ext all d n) := keepN_ext _ _ _ _ hd
  have e2 : out (keep all) d n = out all d n := out_keepN _ _ _ _ hd
  rw [e1, e2] at h1
  exact h1
theorem win_len (all : List Nat) (B : Place) (m : Nat) (h : Held w0 w (winT all B :: Rs)) (hm : m = min all.length 32768) :
    Calls Tryd.prog 77 #[.pointer (some ⟨B.b, B.o, none⟩)] w fun e w' => e = .returned (.int .i64 (m : Int)) ∧ w = w' :=
  raw_len (keep all) B m h (by rw [keep_len, hm])
/-! ### A window that is none -/
end
end Go.Proofs.YtbkbkmgogbgofaaDoor
