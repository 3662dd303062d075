/-
  The walk of the law SumsJoin.
-/
import Derived.Test.YtolapfhajbldiaaAns2
import Derived.Test.YtolapfhajbldiaaSrc
namespace Go.Proofs.Ytolapfhajbldiaa
open Go.RowKit

def z8 (n : Nat) : List Nat := List.replicate n 0
theorem z8_snoc (l : List Nat) (n : Nat) : u8s (l ++ z8 n) ++ [.int .u8 0] = u8s (l ++ z8 (n + 1)) := by
  have e : l ++ z8 (n + 1) = (l ++ z8 n) ++ [0] := by rw [z8, List.replicate_succ', ← List.append_assoc]; rfl
  rw [e]; exact (u8s_append _ [0]).symm
theorem z8_snoc2 (a l : List Nat) (n : Nat) : u8s (a ++ (l ++ z8 n)) ++ [.int .u8 0] = u8s (a ++ (l ++ z8 (n + 1))) := by
  rw [← List.append_assoc, z8_snoc, List.append_assoc]
theorem z8_len (l : List Nat) (n : Nat) : (l ++ z8 n).length = l.length + n := by simp [z8]
theorem z8_256 {l : List Nat} (h : ∀ b ∈ l, b < 256) (n : Nat) : ∀ b ∈ l ++ z8 n, b < 256 := by
  intro b hb
  rcases List.mem_append.1 hb with hb | hb
  · exact h b hb
  · rw [List.eq_of_mem_replicate hb]; decide
theorem join_math_crc (a b : List Nat) : joinN (crcOf 0 a) b.length ^^^ crcOf 0 b = crcOf 0 (a ++ b) := by rw [crcOf_join]; rfl
theorem low_of (x y : Nat) (hx : x < 65521) : (y * 65536 + x) % 65536 % 65521 = x := by omega
theorem high_of (x y : Nat) (hx : x < 65521) (hy : y < 65521) : (y * 65536 + x) / 65536 % 65521 = y := by omega
set_option maxRecDepth 20000 in
theorem join_math_adler (a b : List Nat) :
    ((adlOf 1 a) / 65536 % 65521 + (adlOf 1 b) / 65536 % 65521 + b.length % 65521 * ((adlOf 1 a) % 65536 % 65521 + 65520)) % 65521 * 65536 + ((adlOf 1 a) % 65536 % 65521 + 65520 + (adlOf 1 b) % 65536 % 65521) % 65521 = adlOf 1 (a ++ b) := by
  have h1 := adl_lt (p := (1, 0)) (by decide) (by decide) a
  have h2 := adl_lt (p := (1, 0)) (by decide) (by decide) b
  have h3 := joinadler_math a b _ _ rfl rfl
  have e : ∀ l : List Nat, adlOf 1 l = (adl (1, 0) l).2 * 65536 + (adl (1, 0) l).1 := fun l => rfl
  rw [e (a ++ b), h3, e a, e b]
  obtain ⟨p, hp⟩ : ∃ p, p = adl (1, 0) a := ⟨_, rfl⟩
  obtain ⟨q, hq⟩ : ∃ q, q = adl (1, 0) b := ⟨_, rfl⟩
  rw [← hp] at h1 ⊢
  rw [← hq] at h2 ⊢
  obtain ⟨x, y⟩ := p
  obtain ⟨s, t⟩ := q
  simp only at h1 h2 ⊢
  rw [low_of x y h1.1, high_of x y h1.1 h1.2, low_of s t h2.1, high_of s t h2.1 h2.2]

theorem crcOf_lt {c : Nat} {l : List Nat} (hc : c < 4294967296) (hl : ∀ b ∈ l, b < 256) : crcOf c l < 4294967296 :=
  Nat.xor_lt_two_pow (n := 32) (crcs_lt (Nat.xor_lt_two_pow (n := 32) hc (by decide)) hl) (by decide)
set_option maxRecDepth 20000 in
theorem adlOf_lt (c : Nat) (l : List Nat) : adlOf c l < 4294967296 := by
  have h := adl_lt (p := (c % 65536 % 65521, c / 65536 % 65521)) (Nat.mod_lt _ (by decide)) (Nat.mod_lt _ (by decide)) l
  unfold adlOf
  omega
/-- what the last lines of the law ask of the numbers -/
structure Sums (a b : List Nat) (x y f f2 g g2 : Nat) : Prop where
  x32 : x < 4294967296
  y32 : y < 4294967296
  f232 : f2 < 4294967296
  g232 : g2 < 4294967296
  HF : Hid (f = crcOf 0 (a ++ b))
  HF1 : Hid (crcOf x b = f)
  HF2 : Hid (f2 = crcOf 0 b)
  HF3 : Hid (joinN x b.length ^^^ f2 = f)
  HG : Hid (g = adlOf 1 (a ++ b))
  HG1 : Hid (adlOf y b = g)
  HG2 : Hid (g2 = adlOf 1 b)
  HG3 : Hid ((y / 65536 % 65521 + g2 / 65536 % 65521 + b.length % 65521 * (y % 65536 % 65521 + 65520)) % 65521 * 65536 + (y % 65536 % 65521 + 65520 + g2 % 65536 % 65521) % 65521 = g)
theorem sums_of (a b : List Nat) (x y : Nat) (hx : x = crcOf 0 a) (hy : y = adlOf 1 a) (ha : ∀ c ∈ a, c < 256) (hb : ∀ c ∈ b, c < 256) : ∃ f f2 g g2, Sums a b x y f f2 g g2 := by
  subst hx hy
  exact ⟨_, _, _, _, crcOf_lt (by decide) ha, adlOf_lt _ _, crcOf_lt (by decide) hb, adlOf_lt _ _, rfl, (crcOf_append 0 a b).symm, rfl, join_math_crc a b, rfl, (adlOf_append 1 a b).symm, rfl, join_math_adler a b⟩

set_option maxRecDepth 20000 in
set_option maxHeartbeats 4000000 in
theorem join_walk (va vb : Value) (a b : List Nat) (many : Nat) (w : World) (hva : Rd w 1 va a.length (u8s a)) (hvb : Rd w 1 vb b.length (u8s b)) (ha8 : ∀ c ∈ a, c < 256) (hb8 : ∀ c ∈ b, c < 256) (hm : many < 65536)
    (hla : a.length ≤ 5000) (hlb : b.length ≤ 5000) :
    Calls Try.prog 4 #[va, vb, .int .u16 (many : Int)] w fun e w' => e = .returned (.bool true) ∧ Below w.heap.size w w' := by
  obtain ⟨ao, ac, rfl, _, _⟩ := hva.form
  obtain ⟨bo, bc, rfl, _, _⟩ := hvb.form
  obtain ⟨na, hna⟩ : ∃ na, na = a.length := ⟨_, rfl⟩
  obtain ⟨nb, hnb⟩ : ∃ nb, nb = b.length := ⟨_, rfl⟩
  obtain ⟨x, hx⟩ : ∃ x, x = crcOf 0 a := ⟨_, rfl⟩
  obtain ⟨y, hy⟩ : ∃ y, y = adlOf 1 a := ⟨_, rfl⟩
  have HX := hid hx
  have HY := hid hy
  have HA8 := hid ha8
  have HB8 := hid hb8
  have HVA : Hid (Rd w 1 (.slice ao na ac) a.length (u8s a)) := by unfold Hid; rw [hna]; exact hva
  have HVB : Hid (Rd w 1 (.slice bo nb bc) nb (u8s b)) := by unfold Hid; rw [hnb]; exact hvb
  have HLA : Hid (a.length < 1000000000) := by unfold Hid; omega
  rw [← hna] at hla ⊢
  rw [← hnb] at hlb ⊢
  have HNA := hid hna
  have HNB := hid hnb
  obtain ⟨mm, hmm⟩ : ∃ mm, mm = many % 2000 := ⟨_, rfl⟩
  have hmI : (many : Int) % 2000 = (mm : Int) := by omega
  have hmm2 : mm < 2000 := by omega
  have h1I : ¬ (5000 : Int) < (na : Int) := by omega
  have h2I : ¬ (5000 : Int) < (nb : Int) := by omega
  clear hx hy ha8 hb8 hva hvb hna hnb hmm
  obtain ⟨i0, hi, hz0, hz1, hz2⟩ := info_parts Try.infoByte
  have HV0 : Hid (Rd (w.alloc (.cells #[] 5)) 1 (.slice ao na ac) na (u8s a)) := by
    have h := HVA.out.kept ((Mod.refl w (fun _ => False)).alloc (.cells #[] 5)) (fun _ _ h => h)
    unfold Hid; rw [← HNA.out] at h; exact h
  go_enter Try.func4, Try.ntmps4
  go_wp2_with (first
    | ((with_reducible show wpList _ _ _ (⟨some 22, _, _, _, _, _⟩ :: _) _ _); refine wpList_app _ rfl (.tmp 20) (.tmp 21) 23 rfl 5 i0 (.int .u8 0) 1 1 Try.underlying23 hi hz0 hz1 hz2 rfl (by decide) (.slice (some ⟨w.heap.size, 0, none⟩) 0 0) 0 [] rfl (Own.lit w [] 0 (by decide) rfl) (.slice ao na ac) na (u8s a) rfl HV0.out (u8s_one _) (by unfold maxLen; omega) (by omega) ?_; intro ao1 cap1 w1 hown1 hgrow1 hat1; simp only [Nat.zero_add, List.nil_append] at hown1 hat1; have H1 := hid (((Held.start w).lit 5 1 [] 0 (by decide) rfl).app hown1 hgrow1 hat1); clear hown1 hgrow1 hat1)
    | ((with_reducible show wpList _ _ _ (⟨some 24, _, _, _, _, _⟩ :: _) _ _); refine wpList_app _ rfl (.tmp 22) (.tmp 23) 23 rfl 5 i0 (.int .u8 0) 1 1 Try.underlying23 hi hz0 hz1 hz2 rfl (by decide) (.slice ao1 na cap1) na (u8s a) rfl H1.out.own (.slice bo nb bc) nb (u8s b) rfl (H1.out.old HVB.out) (u8s_one _) (by unfold maxLen; omega) (by omega) ?_; intro ao2 cap2 w2 hown2 hgrow2 hat2; have H2 := hid (H1.out.app hown2 hgrow2 hat2); clear hown2 hgrow2 hat2))
  have HS0 : Hid (Src w w2 [ownT 5 1 (.slice ao2 (na + nb) cap2) (na + nb) (u8s (a ++ (b ++ z8 0)))] 5 (.slice bo nb bc) nb (u8s (b ++ z8 0))) := by
    have e : b ++ z8 0 = b := by simp [z8]
    unfold Hid; rw [e, u8s_append]; exact .inl ⟨H2.out, HVB.out⟩
  clear H1 H2
  go_loopg [1, 7, 8] (mm + 1) (fun k t1 t7 t8 wr => ∃ (i : Nat) (p q : Option Addr) (cp cq : Nat), i ≤ 51 ∧ i ≤ mm ∧ mm - i < k ∧ t8 = .int .i64 (i : Int) ∧ t7 = .slice p (na + nb + i) cp ∧ t1 = .slice q (nb + i) cq ∧
    Hid (Src w wr [ownT 5 1 (.slice p (na + nb + i) cp) (na + nb + i) (u8s (a ++ (b ++ z8 i)))] 5 (.slice q (nb + i) cq) (nb + i) (u8s (b ++ z8 i))))
  case atStart => exact ⟨0, ao2, bo, cap2, bc, by omega, by omega, by omega, rfl, rfl, rfl, HS0⟩
  case round =>
    obtain ⟨i, p, q, cp, cq, hi51, him, hk, rfl, rfl, rfl, HS⟩ := hrel
    have hi0 : (0 : Int) ≤ (i : Int) := Int.natCast_nonneg _
    by_cases hc : i < mm
    · have hcI : (i : Int) < (mm : Int) := by omega
      by_cases h50 : 50 < i
      · have h50I : (50 : Int) < (i : Int) := by omega
        go_wp2_with (first
          | ((with_reducible show wpList _ _ _ (⟨some 34, _, _, _, _, _⟩ :: _) _ _); refine wpList_app1 (wr := wr) rfl (.tmp 32) (.tmp 33) 23 rfl 5 i0 (.int .u8 0) 1 Try.underlying23 hi hz0 hz1 hz2 rfl (.slice p (na + nb + i) cp) (na + nb + i) (u8s (a ++ (b ++ z8 i))) rfl HS.out.held.own rfl rfl (by unfold maxLen; omega) (by omega) ?_; intro ao1 cap1 w1 hown1 hgrow1 hat1; have S1 := hid ((HS.out.alloc (.cells #[.int .u8 0] 5)).map (fun Rs h => h.app hown1 hgrow1 hat1)); clear hown1 hgrow1 hat1)
          | ((with_reducible show wpList _ _ _ (⟨some 37, _, _, _, _, _⟩ :: _) _ _); refine wpList_app _ rfl (.tmp 35) (.tmp 36) 23 rfl 5 i0 (.int .u8 0) 1 1 Try.underlying23 hi hz0 hz1 hz2 rfl (by decide) (.slice (some ⟨w1.heap.size, 0, none⟩) 0 0) 0 [] rfl (Own.lit w1 [] 0 (by decide) rfl) (.slice q (nb + i) cq) (nb + i) (u8s (b ++ z8 i)) rfl ((S1.out.alloc _).rd) (u8s_one _) (by unfold maxLen; omega) (by omega) ?_; intro ao2 cap2 w2 hown2 hgrow2 hat2; simp only [Nat.zero_add, List.nil_append] at hown2 hat2; have H2 := hid ((S1.out.held.lit 5 1 [] 0 (by decide) rfl).app hown2 hgrow2 hat2); clear hown2 hgrow2 hat2)
          | ((with_reducible show wpList _ _ _ (⟨some 39, _, _, _, _, _⟩ :: _) _ _); refine wpList_app1 (wr := w2) rfl (.tmp 37) (.tmp 38) 23 rfl 5 i0 (.int .u8 0) 1 Try.underlying23 hi hz0 hz1 hz2 rfl (.slice ao2 (nb + i) cap2) (nb + i) (u8s (b ++ z8 i)) rfl H2.out.own rfl rfl (by unfold maxLen; omega) (by omega) ?_; intro ao3 cap3 w3 hown3 hgrow3 hat3; have H3 := hid ((H2.out.alloc (.cells #[.int .u8 0] 5)).app hown3 hgrow3 hat3); clear hown3 hgrow3 hat3))
        obtain ⟨J, hJ⟩ : ∃ J, J = i + 1 := ⟨_, rfl⟩
        have HS3 : Hid (Src w w3 [ownT 5 1 (.slice ao1 (na + nb + i + 1) cap1) (na + nb + i + 1) (u8s (a ++ (b ++ z8 J)))] 5 (.slice ao3 (nb + i + 1) cap3) (nb + i + 1) (u8s (b ++ z8 J))) := by
          have h := H3.out
          rw [z8_snoc, z8_snoc2, ← hJ] at h
          exact .inr h
        clear HS S1 H2 H3
        obtain ⟨p, rfl⟩ : ∃ p, p = ao1 := ⟨_, rfl⟩
        obtain ⟨q, rfl⟩ : ∃ q, q = ao3 := ⟨_, rfl⟩
        obtain ⟨cp, rfl⟩ : ∃ cp, cp = cap1 := ⟨_, rfl⟩
        obtain ⟨cq, rfl⟩ : ∃ cq, cq = cap3 := ⟨_, rfl⟩
        have HS := HS3
        clear HS3
        obtain ⟨NB, hNB0⟩ : ∃ NB, NB = nb + i + 1 := ⟨_, rfl⟩
        obtain ⟨NA, hNA0⟩ : ∃ NA, NA = na + nb + i + 1 := ⟨_, rfl⟩
        rw [← hNB0, ← hNA0] at HS ⊢
        have hNB : NB = nb + J := by omega
        have hNA : NA = na + nb + J := by omega
        have hJ52 : J ≤ 52 := by omega
        clear hNB0 hNA0 hJ
        have HNBl : Hid ((b ++ z8 J).length = NB) := by unfold Hid; rw [z8_len, hNB, HNB.out]
        have HNAl : Hid ((a ++ (b ++ z8 J)).length = NA) := by unfold Hid; rw [List.length_append, z8_len, hNA, HNA.out, HNB.out, Nat.add_assoc]
        have HRB : Hid (∀ W, Src w W [ownT 5 1 (.slice p NA cp) NA (u8s (a ++ (b ++ z8 J)))] 5 (.slice q NB cq) NB (u8s (b ++ z8 J)) → Rd W 1 (.slice q NB cq) (b ++ z8 J).length (u8s (b ++ z8 J))) := by
          intro W h; have h2 := h.rd; rw [HNBl.out]; exact h2
        have HRA : Hid (∀ W, Src w W [ownT 5 1 (.slice p NA cp) NA (u8s (a ++ (b ++ z8 J)))] 5 (.slice q NB cq) NB (u8s (b ++ z8 J)) → Rd W 1 (.slice p NA cp) (a ++ (b ++ z8 J)).length (u8s (a ++ (b ++ z8 J)))) := by
          intro W h; have h2 := h.held.own.rd; rw [HNAl.out]; exact h2
        have HLB : Hid ((b ++ z8 J).length < 1000000000) := by unfold Hid; rw [HNBl.out]; omega
        have HLAB : Hid ((a ++ (b ++ z8 J)).length < 1000000000) := by unfold Hid; rw [HNAl.out]; omega
        have hNB63 : NB < 9223372036854775808 := by omega
        have HAB8 : Hid (∀ c ∈ a ++ (b ++ z8 J), c < 256) := by
          intro c hc
          rcases List.mem_append.1 hc with hc | hc
          · exact HA8.out c hc
          · exact z8_256 HB8.out J c hc
        obtain ⟨f, f2, g, g2, hx32, hy32, hf232, hg232, HF, HF1, HF2, HF3, HG, HG1, HG2, HG3⟩ := sums_of a (b ++ z8 J) x y HX.out HY.out HA8.out (z8_256 HB8.out J)
        rw [HNBl.out] at HF3 HG3
        have hff : ((f : Int) == (f : Int)) = true := by simp
        have hgg : ((g : Int) == (g : Int)) = true := by simp
        clear hNB hNA
        have HW0 := hid (HS.out.held)
        have HBR := HS.out
        have HXA := hid (crc_any 0 _ a _ (by decide) (HW0.out.old HVA.out) HA8.out HLA.out)
        rw [← HX.out] at HXA
        go_wp2_with fail
        refine HXA.out.mono ?_
        rintro e W1 ⟨rfl, hM1⟩
        have S1 := hid (HS.out.same hM1)
        clear hM1 HXA HBR HW0
        go_wp2_with fail
        have HC := hid (adler_any 1 _ a W1 (by decide) (S1.out.held.old HVA.out) HA8.out HLA.out)
        rw [← HY.out] at HC
        refine HC.out.mono ?_
        rintro e W' ⟨rfl, rfl⟩
        clear HC
        go_wp2_with fail
        refine (answers_any W1).mono ?_
        rintro e W2 ⟨rfl, hM2⟩
        have S2 := hid (S1.out.same hM2)
        clear hM2
        go_wp2_with fail
        have HC := hid (crc_any x _ (b ++ z8 J) W2 hx32 (HRB.out W2 S2.out) (z8_256 HB8.out J) HLB.out)
        rw [HF1.out] at HC
        refine HC.out.mono ?_
        rintro e W3 ⟨rfl, hM3⟩
        have S3 := hid (S2.out.same hM3)
        clear hM3 HC
        go_wp2_with fail
        have HC := hid (crc_any 0 _ (a ++ (b ++ z8 J)) W3 (by decide) (HRA.out W3 S3.out) HAB8.out HLAB.out)
        rw [← HF.out] at HC
        refine HC.out.mono ?_
        rintro e W4 ⟨rfl, hM4⟩
        have S4 := hid (S3.out.same hM4)
        clear hM4 HC
        go_wp2_with fail
        have HC := hid (crc_any 0 _ (b ++ z8 J) W4 (by decide) (HRB.out W4 S4.out) (z8_256 HB8.out J) HLB.out)
        rw [← HF2.out] at HC
        refine HC.out.mono ?_
        rintro e W5 ⟨rfl, hM5⟩
        have S5 := hid (S4.out.same hM5)
        clear hM5 HC
        go_wp2_with fail
        have HC := hid (joincrc_any x f2 NB W5 hx32 hf232 hNB63)
        rw [HF3.out] at HC
        refine HC.out.mono ?_
        rintro e W6 ⟨rfl, hM6⟩
        have S6 := hid (S5.out.same hM6)
        clear hM6 HC
        go_wp2_with fail
        have HC := hid (crc_any 0 _ (a ++ (b ++ z8 J)) W6 (by decide) (HRA.out W6 S6.out) HAB8.out HLAB.out)
        rw [← HF.out] at HC
        refine HC.out.mono ?_
        rintro e W7 ⟨rfl, hM7⟩
        have S7 := hid (S6.out.same hM7)
        clear hM7 HC
        go_wp2_with fail
        have HC := hid (adler_any y _ (b ++ z8 J) W7 hy32 (HRB.out W7 S7.out) (z8_256 HB8.out J) HLB.out)
        rw [HG1.out] at HC
        refine HC.out.mono ?_
        rintro e W' ⟨rfl, rfl⟩
        clear HC
        go_wp2_with fail
        have HC := hid (adler_any 1 _ (a ++ (b ++ z8 J)) W7 (by decide) (HRA.out W7 S7.out) HAB8.out HLAB.out)
        rw [← HG.out] at HC
        refine HC.out.mono ?_
        rintro e W' ⟨rfl, rfl⟩
        clear HC
        go_wp2_with fail
        have HC := hid (adler_any 1 _ (b ++ z8 J) W7 (by decide) (HRB.out W7 S7.out) (z8_256 HB8.out J) HLB.out)
        rw [← HG2.out] at HC
        refine HC.out.mono ?_
        rintro e W' ⟨rfl, rfl⟩
        clear HC
        go_wp2_with fail
        have HC := hid (joinadler_any y g2 NB W7 hy32 hg232 hNB63)
        rw [HG3.out] at HC
        refine HC.out.mono ?_
        rintro e W' ⟨rfl, rfl⟩
        clear HC
        go_wp2_with fail
        have HC := hid (adler_any 1 _ (a ++ (b ++ z8 J)) W7 (by decide) (HRA.out W7 S7.out) HAB8.out HLAB.out)
        rw [← HG.out] at HC
        refine HC.out.mono ?_
        rintro e W' ⟨rfl, rfl⟩
        clear HC
        go_wp2
        go_ret
        exact ⟨rfl, S7.out.held.below⟩
      · have h50I : ¬ (50 : Int) < (i : Int) := by omega
        go_wp2_with (first
          | ((with_reducible show wpList _ _ _ (⟨some 34, _, _, _, _, _⟩ :: _) _ _); refine wpList_app1 (wr := wr) rfl (.tmp 32) (.tmp 33) 23 rfl 5 i0 (.int .u8 0) 1 Try.underlying23 hi hz0 hz1 hz2 rfl (.slice p (na + nb + i) cp) (na + nb + i) (u8s (a ++ (b ++ z8 i))) rfl HS.out.held.own rfl rfl (by unfold maxLen; omega) (by omega) ?_; intro ao1 cap1 w1 hown1 hgrow1 hat1; have S1 := hid ((HS.out.alloc (.cells #[.int .u8 0] 5)).map (fun Rs h => h.app hown1 hgrow1 hat1)); clear hown1 hgrow1 hat1)
          | ((with_reducible show wpList _ _ _ (⟨some 37, _, _, _, _, _⟩ :: _) _ _); refine wpList_app _ rfl (.tmp 35) (.tmp 36) 23 rfl 5 i0 (.int .u8 0) 1 1 Try.underlying23 hi hz0 hz1 hz2 rfl (by decide) (.slice (some ⟨w1.heap.size, 0, none⟩) 0 0) 0 [] rfl (Own.lit w1 [] 0 (by decide) rfl) (.slice q (nb + i) cq) (nb + i) (u8s (b ++ z8 i)) rfl ((S1.out.alloc _).rd) (u8s_one _) (by unfold maxLen; omega) (by omega) ?_; intro ao2 cap2 w2 hown2 hgrow2 hat2; simp only [Nat.zero_add, List.nil_append] at hown2 hat2; have H2 := hid ((S1.out.held.lit 5 1 [] 0 (by decide) rfl).app hown2 hgrow2 hat2); clear hown2 hgrow2 hat2)
          | ((with_reducible show wpList _ _ _ (⟨some 39, _, _, _, _, _⟩ :: _) _ _); refine wpList_app1 (wr := w2) rfl (.tmp 37) (.tmp 38) 23 rfl 5 i0 (.int .u8 0) 1 Try.underlying23 hi hz0 hz1 hz2 rfl (.slice ao2 (nb + i) cap2) (nb + i) (u8s (b ++ z8 i)) rfl H2.out.own rfl rfl (by unfold maxLen; omega) (by omega) ?_; intro ao3 cap3 w3 hown3 hgrow3 hat3; have H3 := hid ((H2.out.alloc (.cells #[.int .u8 0] 5)).app hown3 hgrow3 hat3); clear hown3 hgrow3 hat3))
        have HS3 : Hid (Src w w3 [ownT 5 1 (.slice ao1 (na + nb + (i + 1)) cap1) (na + nb + (i + 1)) (u8s (a ++ (b ++ z8 (i + 1))))] 5 (.slice ao3 (nb + (i + 1)) cap3) (nb + (i + 1)) (u8s (b ++ z8 (i + 1)))) := by
          have h := H3.out
          rw [z8_snoc, z8_snoc2] at h
          exact .inr h
        go_roundg (gk - 1)
        case measure => omega
        case rel => exact ⟨i + 1, ao1, ao3, cap1, cap3, by omega, by omega, by omega, by go_num, rfl, rfl, HS3⟩
    · have hcI : ¬ (i : Int) < (mm : Int) := by omega
      obtain ⟨J, rfl⟩ : ∃ J, J = i := ⟨_, rfl⟩
      obtain ⟨NB, hNB⟩ : ∃ NB, NB = nb + J := ⟨_, rfl⟩
      obtain ⟨NA, hNA⟩ : ∃ NA, NA = na + nb + J := ⟨_, rfl⟩
      rw [← hNB, ← hNA] at HS ⊢
      have HNBl : Hid ((b ++ z8 J).length = NB) := by unfold Hid; rw [z8_len, hNB, HNB.out]
      have HNAl : Hid ((a ++ (b ++ z8 J)).length = NA) := by unfold Hid; rw [List.length_append, z8_len, hNA, HNA.out, HNB.out, Nat.add_assoc]
      have HRB : Hid (∀ W, Src w W [ownT 5 1 (.slice p NA cp) NA (u8s (a ++ (b ++ z8 J)))] 5 (.slice q NB cq) NB (u8s (b ++ z8 J)) → Rd W 1 (.slice q NB cq) (b ++ z8 J).length (u8s (b ++ z8 J))) := by
        intro W h; have h2 := h.rd; rw [HNBl.out]; exact h2
      have HRA : Hid (∀ W, Src w W [ownT 5 1 (.slice p NA cp) NA (u8s (a ++ (b ++ z8 J)))] 5 (.slice q NB cq) NB (u8s (b ++ z8 J)) → Rd W 1 (.slice p NA cp) (a ++ (b ++ z8 J)).length (u8s (a ++ (b ++ z8 J)))) := by
        intro W h; have h2 := h.held.own.rd; rw [HNAl.out]; exact h2
      have HLB : Hid ((b ++ z8 J).length < 1000000000) := by unfold Hid; rw [HNBl.out]; omega
      have HLAB : Hid ((a ++ (b ++ z8 J)).length < 1000000000) := by unfold Hid; rw [HNAl.out]; omega
      have hNB63 : NB < 9223372036854775808 := by omega
      have HAB8 : Hid (∀ c ∈ a ++ (b ++ z8 J), c < 256) := by
        intro c hc
        rcases List.mem_append.1 hc with hc | hc
        · exact HA8.out c hc
        · exact z8_256 HB8.out J c hc
      obtain ⟨f, f2, g, g2, hx32, hy32, hf232, hg232, HF, HF1, HF2, HF3, HG, HG1, HG2, HG3⟩ := sums_of a (b ++ z8 J) x y HX.out HY.out HA8.out (z8_256 HB8.out J)
      rw [HNBl.out] at HF3 HG3
      have hff : ((f : Int) == (f : Int)) = true := by simp
      have hgg : ((g : Int) == (g : Int)) = true := by simp
      clear hNB hNA
      have HW0 := hid (HS.out.held)
      have HBR := HS.out
      have HXA := hid (crc_any 0 _ a _ (by decide) (HW0.out.old HVA.out) HA8.out HLA.out)
      rw [← HX.out] at HXA
      go_wp2_with fail
      refine HXA.out.mono ?_
      rintro e W1 ⟨rfl, hM1⟩
      have S1 := hid (HS.out.same hM1)
      clear hM1 HXA HBR HW0
      go_wp2_with fail
      have HC := hid (adler_any 1 _ a W1 (by decide) (S1.out.held.old HVA.out) HA8.out HLA.out)
      rw [← HY.out] at HC
      refine HC.out.mono ?_
      rintro e W' ⟨rfl, rfl⟩
      clear HC
      go_wp2_with fail
      refine (answers_any W1).mono ?_
      rintro e W2 ⟨rfl, hM2⟩
      have S2 := hid (S1.out.same hM2)
      clear hM2
      go_wp2_with fail
      have HC := hid (crc_any x _ (b ++ z8 J) W2 hx32 (HRB.out W2 S2.out) (z8_256 HB8.out J) HLB.out)
      rw [HF1.out] at HC
      refine HC.out.mono ?_
      rintro e W3 ⟨rfl, hM3⟩
      have S3 := hid (S2.out.same hM3)
      clear hM3 HC
      go_wp2_with fail
      have HC := hid (crc_any 0 _ (a ++ (b ++ z8 J)) W3 (by decide) (HRA.out W3 S3.out) HAB8.out HLAB.out)
      rw [← HF.out] at HC
      refine HC.out.mono ?_
      rintro e W4 ⟨rfl, hM4⟩
      have S4 := hid (S3.out.same hM4)
      clear hM4 HC
      go_wp2_with fail
      have HC := hid (crc_any 0 _ (b ++ z8 J) W4 (by decide) (HRB.out W4 S4.out) (z8_256 HB8.out J) HLB.out)
      rw [← HF2.out] at HC
      refine HC.out.mono ?_
      rintro e W5 ⟨rfl, hM5⟩
      have S5 := hid (S4.out.same hM5)
      clear hM5 HC
      go_wp2_with fail
      have HC := hid (joincrc_any x f2 NB W5 hx32 hf232 hNB63)
      rw [HF3.out] at HC
      refine HC.out.mono ?_
      rintro e W6 ⟨rfl, hM6⟩
      have S6 := hid (S5.out.same hM6)
      clear hM6 HC
      go_wp2_with fail
      have HC := hid (crc_any 0 _ (a ++ (b ++ z8 J)) W6 (by decide) (HRA.out W6 S6.out) HAB8.out HLAB.out)
      rw [← HF.out] at HC
      refine HC.out.mono ?_
      rintro e W7 ⟨rfl, hM7⟩
      have S7 := hid (S6.out.same hM7)
      clear hM7 HC
      go_wp2_with fail
      have HC := hid (adler_any y _ (b ++ z8 J) W7 hy32 (HRB.out W7 S7.out) (z8_256 HB8.out J) HLB.out)
      rw [HG1.out] at HC
      refine HC.out.mono ?_
      rintro e W' ⟨rfl, rfl⟩
      clear HC
      go_wp2_with fail
      have HC := hid (adler_any 1 _ (a ++ (b ++ z8 J)) W7 (by decide) (HRA.out W7 S7.out) HAB8.out HLAB.out)
      rw [← HG.out] at HC
      refine HC.out.mono ?_
      rintro e W' ⟨rfl, rfl⟩
      clear HC
      go_wp2_with fail
      have HC := hid (adler_any 1 _ (b ++ z8 J) W7 (by decide) (HRB.out W7 S7.out) (z8_256 HB8.out J) HLB.out)
      rw [← HG2.out] at HC
      refine HC.out.mono ?_
      rintro e W' ⟨rfl, rfl⟩
      clear HC
      go_wp2_with fail
      have HC := hid (joinadler_any y g2 NB W7 hy32 hg232 hNB63)
      rw [HG3.out] at HC
      refine HC.out.mono ?_
      rintro e W' ⟨rfl, rfl⟩
      clear HC
      go_wp2_with fail
      have HC := hid (adler_any 1 _ (a ++ (b ++ z8 J)) W7 (by decide) (HRA.out W7 S7.out) HAB8.out HLAB.out)
      rw [← HG.out] at HC
      refine HC.out.mono ?_
      rintro e W' ⟨rfl, rfl⟩
      clear HC
      go_wp2
      go_ret
      exact ⟨rfl, S7.out.held.below⟩

set_option maxRecDepth 20000 in
set_option maxHeartbeats 1600000 in
theorem join_plain (va vb : Value) (a b : List Nat) (many : Nat) (w : World) (hva : Rd w 1 va a.length (u8s a)) (hvb : Rd w 1 vb b.length (u8s b)) (hp : 5000 < a.length ∨ 5000 < b.length) :
    Calls Try.prog 4 #[va, vb, .int .u16 (many : Int)] w fun e w' => e = .returned (.bool true) ∧ Below w.heap.size w w' := by
  obtain ⟨ao, ac, rfl, hca, hma⟩ := hva.form
  obtain ⟨bo, bc, rfl, hcb, hmb⟩ := hvb.form
  obtain ⟨na, hna⟩ : ∃ na, na = a.length := ⟨_, rfl⟩
  obtain ⟨nb, hnb⟩ : ∃ nb, nb = b.length := ⟨_, rfl⟩
  have hna63 : na ≤ 9223372036854775807 := by unfold maxLen at hma; omega
  have hnb63 : nb ≤ 9223372036854775807 := by unfold maxLen at hmb; omega
  rw [← hna, ← hnb] at hp ⊢
  clear hna hnb hva hvb hca hcb hma hmb
  have hna0 : (0 : Int) ≤ (na : Int) := Int.natCast_nonneg _
  have hnb0 : (0 : Int) ≤ (nb : Int) := Int.natCast_nonneg _
  by_cases h1 : 5000 < na
  · have h1I : (5000 : Int) < (na : Int) := by omega
    clear hp
    go_enter Try.func4, Try.ntmps4
    go_wp2_with fail
    refine (answers_any w).mono ?_
    rintro e w1 ⟨rfl, hM1⟩
    go_wp2
    go_ret
    exact ⟨rfl, hM1.toBelow⟩
  · have h1I : ¬ (5000 : Int) < (na : Int) := by omega
    have h2 : 5000 < nb := by omega
    have h2I : (5000 : Int) < (nb : Int) := by omega
    clear hp
    go_enter Try.func4, Try.ntmps4
    go_wp2_with fail
    refine (answers_any w).mono ?_
    rintro e w1 ⟨rfl, hM1⟩
    go_wp2
    go_ret
    exact ⟨rfl, hM1.toBelow⟩
end Go.Proofs.Ytolapfhajbldiaa
