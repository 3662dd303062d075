/-
  Tokens as what a law is handed.
-/
import Derived.Test.YthibpnkdhbkakaaDoorMd06
import Derived.Test.YthibpnkdhbkakaaDoorMd35
import Derived.Test.YthibpnkdhbkakaaDoorMd09
import Derived.Test.YthibpnkdhbkakaaDoorMd07
import Derived.Test.YthibpnkdhbkakaaDoorMd15
import Derived.Test.YthibpnkdhbkakaaDoorMd08
import Derived.Deep.DeepCutAuto
import Derived.Deep.CutBlock
import Derived.Test.YthibpnkdhbkakaaDoorMd02
import Derived.StillTailTactics
import Derived.Test.YthibpnkdhbkakaaDoorMd34
import Derived.Deep.RegionHeld3
namespace Go.Proofs.YthibpnkdhbkakaaDoor
set_option maxRecDepth 5000
open Go.RowKit

def shTokU : Shape Tryd.prog Int := shInt 5 .u8 Tryd.underlying5 (by kernel_rfl)
def shTokI : Shape Tryd.prog Int := shInt 3 .i64 Tryd.underlying3 (by kernel_rfl)
def shTok : Shape Tryd.prog Tok := shStruct3 shTokU shTokI shTokI 27 Tryd.underlying27 (by kernel_rfl) rfl rfl rfl rfl rfl rfl
def shToks : Shape Tryd.prog (List Tok) := shSlice shTok 22 Tryd.underlying22 (by kernel_rfl) (by decide)
theorem toksV_at : ∀ (l : List Tok) (j : Nat) (u : Value), (toksV l)[j]? = some u → ∃ i r t, j = i * 3 + r ∧ l[i]? = some t ∧ [Value.int .u8 t.1, .int .i64 t.2.1, .int .i64 t.2.2][r]? = some u
  | [], _, _, h => by simp [toksV] at h
  | x :: l, 0, u, h => ⟨0, 0, x, rfl, rfl, by rw [toksV_cons] at h; simpa using h⟩
  | x :: l, 1, u, h => ⟨0, 1, x, rfl, rfl, by rw [toksV_cons] at h; simpa using h⟩
  | x :: l, 2, u, h => ⟨0, 2, x, rfl, rfl, by rw [toksV_cons] at h; simpa using h⟩
  | x :: l, j + 3, u, h => by
    rw [toksV_cons] at h
    obtain ⟨i, r, t, h1, h2, h3⟩ := toksV_at l j u (by simpa using h)
    exact ⟨i + 1, r, t, by omega, by simpa using h2, h3⟩
theorem toks_of {w : World} {v : Value} {l : List Tok} (h : shToks.good w [v] l) : byteOK l ∧ Rd w 3 v l.length (toksV l) := by
  obtain ⟨v', hv, hs⟩ := h
  obtain rfl : v = v' := by simpa using hv
  have hgood : ∀ (W : World) xs (a : Tok), shTok.good W xs a → xs = [Value.int .u8 a.1, .int .i64 a.2.1, .int .i64 a.2.2] ∧ 0 ≤ a.1 ∧ a.1 ≤ 255 := by
    rintro W xs a ⟨c0, c1, c2, rfl, ⟨rfl, h0⟩, ⟨rfl, _⟩, ⟨rfl, _⟩⟩
    exact ⟨rfl, Go.bounds_u8 h0⟩
  refine ⟨fun t ht => ?_, ?_⟩
  · obtain ⟨i, hi⟩ := List.mem_iff_getElem?.1 ht
    obtain ⟨xs, h1⟩ := hs.each hi
    exact (hgood _ _ _ h1).2
  · obtain ⟨ao, cap, h1, h2, h3, h4, h5⟩ := hs
    refine ⟨toksV_length l, ao, cap, h1, h2, h3, h4, ?_⟩
    rcases h5 with h5 | ⟨g, off, h5, h6⟩
    · exact .inl h5
    · refine .inr ⟨g, off, h5, fun j u hu => ?_⟩
      obtain ⟨i, r, t, rfl, hi, hr⟩ := toksV_at l j u hu
      obtain ⟨xs, hg, hc⟩ := h6 i t hi
      have := hc r u (by rw [(hgood _ _ _ hg).1]; exact hr)
      rw [← Nat.add_assoc]
      exact this
end Go.Proofs.YthibpnkdhbkakaaDoor
/-
  The reference's stream: a dynamic block's codes.
-/
namespace Go.Proofs.YthibpnkdhbkakaaDoor
set_option maxRecDepth 5000
open Go.RowKit

section
variable {w0 w : World} {Rs : List Thing}
theorem check_in {l : List Int} {mm : Int} (h : checkOf l mm = 0) : ∀ y ∈ l, 0 ≤ y ∧ y ≤ mm := by
  unfold checkOf at h
  split at h
  · cases h
  · rename_i hb
    simp only [argBad, Bool.or_eq_true, decide_eq_true_eq, Bool.not_eq_true', not_or, Bool.not_eq_false] at hb
    exact (allIn_iff l mm).1 hb.2
theorem made_cells10 (z : Value) (n : Nat) (hz : z.cells = #[z]) : (madeCells z.cells (n * 1)).toList = List.replicate n z := by
  rw [Nat.mul_one, hz]
  refine List.ext_getElem? fun j => ?_
  by_cases hj : j < n
  · simp [madeCells, hj, Nat.mod_one]
  · rw [List.getElem?_eq_none (by simp [madeCells]; omega), List.getElem?_eq_none (by simp; omega)]
theorem alloc_size10 (w : World) (o : Obj) : (w.alloc o).heap.size = w.heap.size + 1 := by
  show (w.heap.push o).size = _
  simp
theorem Held.cut2 {w0 w : World} {Rs : List Thing} {e : TypeId} {lo : Option Addr} {n lcap : Nat} {xs : List Value} (h : Held w0 w (ownT e 1 (.slice lo n lcap) n xs :: Rs)) (A : Nat) (hA : A ≤ n) : Held w0 w (rd2T 1 (.slice lo A lcap) A (xs.take A) (sliced lo A n lcap 1) (n - A) (xs.drop A) :: Rs) := by
  have hl := h.own.rd.1
  have h1 := h.own.rd.front hA
  have h2 := h.own.rd.cut (L := A) (H := n) hA (Nat.le_refl _)
  rw [Nat.mul_one] at h1
  rw [Nat.mul_one, Nat.mul_one, List.take_of_length_le (by rw [List.length_drop]; omega)] at h2
  obtain ⟨F, h3, h4⟩ := h
  have hbl : ∀ k, Value.ownBlock (.slice lo A lcap) = some k → Value.ownBlock (.slice lo n lcap) = some k := fun k hk => by
    clear h1 h2 h3 h4
    cases lo <;> exact hk
  refine ⟨F, ⟨⟨h1, fun k hk => (h3.2 k).2 (hbl k hk)⟩, ⟨h2, fun k hk => (h3.2 k).2 ?_⟩⟩, h4⟩
  rw [← cut_block lo A n lcap 1 n]; exact hk
theorem order_lt : ∀ i, i < 19 → orderF[i]?.getD 0 < 19 := by decide
theorem order_is : ∀ i, i < 19 → ([16, 17, 18, 0, 8, 7, 9, 6, 10, 5, 11, 4, 12, 3, 13, 2, 14, 1, 15] : List Int)[i]? = some ((orderF[i]?.getD 0 : Nat) : Int) := by decide
theorem order_at (i ov : Nat) (h : i < 19) (ho : ov = orderF[i]?.getD 0) : (ints [16, 17, 18, 0, 8, 7, 9, 6, 10, 5, 11, 4, 12, 3, 13, 2, 14, 1, 15])[i]? = some (.int .i64 (ov : Int)) := by
  rw [ints_get, order_is i h, ho]; rfl
theorem ints_set10 (l : List Int) (i : Nat) (b : Int) : ints (l.set i b) = (ints l).set i (.int .i64 b) := by simp [ints, List.map_set]
end
end Go.Proofs.YthibpnkdhbkakaaDoor
/-
  The reference's stream: Inflate itself.
-/
namespace Go.Proofs.YthibpnkdhbkakaaDoor
set_option maxRecDepth 5000
open Go.RowKit

section
variable {w0 w : World} {Rs : List Thing}
theorem Held.builtR {w0 w w' : World} {v : Value} {l : List Nat} {Rs : List Thing} (h : Held w0 w Rs) (hb : Built w w' v l) : Held w0 w' (ownT 5 1 v l.length (u8s l) :: Rs) := h.pushOwn hb.1 hb.2.1 hb.2.2
theorem Held.nilN (h : Held w0 w Rs) (e : TypeId) (size : Nat) : Held w0 w (ownT e size (.slice none 0 0) 0 [] :: Rs) := h.nil e size
theorem Held.nth5 {R1 R2 R3 R4 R5 : Thing} (h : Held w0 w (R1 :: R2 :: R3 :: R4 :: R5 :: Rs)) : Held w0 w (R5 :: R1 :: R2 :: R3 :: R4 :: Rs) := h.perm (List.perm_middle (l₁ := [R1, R2, R3, R4]))
theorem Held.nth6 {R1 R2 R3 R4 R5 R6 : Thing} (h : Held w0 w (R1 :: R2 :: R3 :: R4 :: R5 :: R6 :: Rs)) : Held w0 w (R6 :: R1 :: R2 :: R3 :: R4 :: R5 :: Rs) := h.perm (List.perm_middle (l₁ := [R1, R2, R3, R4, R5]))
theorem Held.nth7 {R1 R2 R3 R4 R5 R6 R7 : Thing} (h : Held w0 w (R1 :: R2 :: R3 :: R4 :: R5 :: R6 :: R7 :: Rs)) : Held w0 w (R7 :: R1 :: R2 :: R3 :: R4 :: R5 :: R6 :: Rs) := h.perm (List.perm_middle (l₁ := [R1, R2, R3, R4, R5, R6]))
def intsN (l : List Nat) : List Value := ints (l.map fun (x : Nat) => (x : Int))
theorem intsN_app (a : List Nat) (b : Nat) : intsN (a ++ [b]) = intsN a ++ ints [(b : Int)] := by unfold intsN; rw [List.map_append, ints_append]; rfl
theorem fix_fine : (∀ y ∈ fixLit, 0 ≤ y ∧ y ≤ 15) ∧ (∀ y ∈ fixDist, 0 ≤ y ∧ y ≤ 15) ∧ fixLit.length = 288 ∧ fixDist.length = 32 := by decide +kernel
theorem Held.k4 {R1 R2 R3 R4 : Thing} (h : Held w0 w (R1 :: R2 :: R3 :: R4 :: Rs)) : Held w0 w (R1 :: R3 :: R4 :: R2 :: Rs) := h.perm (List.Perm.cons _ (List.perm_middle (l₁ := [R3, R4])).symm)
theorem Held.s5 {R1 R2 R3 R4 R5 : Thing} (h : Held w0 w (R1 :: R2 :: R3 :: R4 :: R5 :: Rs)) : Held w0 w (R1 :: R3 :: R4 :: R5 :: R2 :: Rs) := h.perm (List.Perm.cons _ (List.perm_middle (l₁ := [R3, R4, R5])).symm)
end
end Go.Proofs.YthibpnkdhbkakaaDoor
/-
  The reference's SameTokens, at two slices that hold the same tokens.
-/
namespace Go.Proofs.YthibpnkdhbkakaaDoor
set_option maxRecDepth 5000
open Go.RowKit

end Go.Proofs.YthibpnkdhbkakaaDoor
/-
  The law BlockMeans, by what a writer of blocks is to do ('BlockOK').
-/
namespace Go.Proofs.YthibpnkdhbkakaaDoor
set_option maxRecDepth 5000
open Go.RowKit

section
variable {F : Nat → List Tok → List Nat → Nat → List Nat} {Lv : World → Prop} {w0 w : World} {Rs : List Thing}
theorem expT_sound : ∀ (l : List Tok) (acc : List Nat), (expT acc l).1 = 0 → allSound l
  | [], _, _ => fun _ h => by cases h
  | t :: r, acc, h => by
    rw [expT_cons] at h
    split at h
    · rename_i h0
      intro x hx
      rcases List.mem_cons.1 hx with rfl | hx
      · unfold stepT at h0
        split at h0
        · simp at h0
        · simpa using ‹¬ soundB x = false›
      · exact expT_sound r _ h x hx
    · contradiction
end
end Go.Proofs.YthibpnkdhbkakaaDoor
/-
  The law BlockWrong, by what a writer of blocks is to do ('BlockOK').
-/
namespace Go.Proofs.YthibpnkdhbkakaaDoor
set_option maxRecDepth 5000
open Go.RowKit

section
variable {F : Nat → List Tok → List Nat → Nat → List Nat} {Lv : World → Prop} {w0 w : World} {Rs : List Thing}
def badN (l : List Tok) : Nat → Bool
  | 0 => false
  | i + 1 => badN l i || !soundB (l[i]?.getD (0, 0, 0))
theorem badN_not (l : List Tok) : ∀ k, badN l k = false → ∀ i t, i < k → l[i]? = some t → soundB t = true
  | 0, _, i, t, hi, _ => absurd hi (Nat.not_lt_zero _)
  | k + 1, h, i, t, hi, ht => by
    have h2 : badN l k = false ∧ (!soundB (l[k]?.getD (0, 0, 0))) = false := by simpa [badN] using h
    by_cases hik : i = k
    · subst hik
      have h3 := h2.2
      rw [ht] at h3
      simpa using h3
    · exact badN_not l k h2.1 i t (by omega) ht
theorem badN_yes (l : List Tok) (hs : allSound l) : ∀ k, k ≤ l.length → badN l k = false
  | 0, _ => rfl
  | k + 1, hk => by
    have ht : l[k]? = some (l[k]'(by omega)) := List.getElem?_eq_getElem _
    rw [badN, badN_yes l hs k (by omega), ht]
    simp [hs _ (List.getElem_mem _)]
theorem badN_all (l : List Tok) : badN l l.length = false ↔ allSound l :=
  ⟨fun h t ht => by
    obtain ⟨i, hi⟩ := List.mem_iff_getElem?.1 ht
    exact badN_not l _ h i t (List.getElem?_eq_some_iff.1 hi).1 hi, fun h => badN_yes l h _ (Nat.le_refl _)⟩
set_option maxRecDepth 100000 in
set_option maxHeartbeats 3200000 in
theorem blockWrong_from (HB : BlockOK F Lv) (kind : Int) (v : Value) (l : List Tok) (q : Int) (w : World) (HLV : Lv w) (_ : (Lit.int .i64 kind).wf = true) (hok : byteOK l) (hv : Rd w 3 v l.length (toksV l)) (hq : 0 ≤ q ∧ q ≤ 4294967295) :
    Calls Tryd.prog 3 #[.int .i64 kind, v, .int .u32 q] w fun e w' => e = .returned (.bool true) ∧ Below w.heap.size w w' := by
  obtain ⟨iu, hiu, hu0, hu1, hu2⟩ := info_parts infoByte10
  obtain ⟨qn, rfl⟩ : ∃ qn : Nat, q = (qn : Int) := ⟨q.toNat, by omega⟩
  obtain ⟨N, hN⟩ : ∃ N, N = 65530 + qn % 10 := ⟨_, rfl⟩
  have hNI : 65530 + (qn : Int) % 10 = (N : Int) := by omega
  have hNb : N ≤ 65539 := by omega
  have hN0 : (0 : Int) ≤ (N : Int) := Int.natCast_nonneg _
  have HNN := hid hN
  clear hN
  obtain ⟨n, hn⟩ : ∃ n, n = l.length := ⟨_, rfl⟩
  rw [← hn] at hv
  obtain ⟨ao, cap, rfl, _, _⟩ := hv.form
  have HV := hid hv
  have HN := hid hn
  have HK := hid hok
  have HX := hid HB
  have hn0 : (0 : Int) ≤ (n : Int) := Int.natCast_nonneg _
  have HA := hid (fun (w' : World) (Rs : List Thing) (h : Held w w' Rs) => h_answers10 HB HLV h)
  clear hv hn hok HB
  by_cases h1 : 400 < n
  · have h1I : (400 : Int) < (n : Int) := by omega
    go_enter Tryd.func3, Tryd.ntmps3
    go_wp2_with fail
    refine (HA.out _ _ (Held.start w)).mono ?_
    rintro e w1 ⟨rfl, hh⟩
    have H1 := hid hh.mod.toBelow
    clear hh
    go_wp2
    go_ret
    exact ⟨rfl, H1.out⟩
  · have h1I : ¬ (400 : Int) < (n : Int) := by omega
    go_enter Tryd.func3, Tryd.ntmps3
    go_wp2
    go_loopg [7, 8] (n + 2) (fun k t7 t8 wr => ∃ i : Nat, i ≤ n ∧ n - i < k ∧ t8 = .int .i64 (i : Int) ∧ t7 = .bool (badN l i) ∧ Hid (Held w wr []))
    case atStart => exact ⟨0, by omega, by omega, rfl, rfl, hid (Held.start w)⟩
    case round =>
      obtain ⟨i, hi, hkk, rfl, rfl, HH⟩ := hrel
      have hi0 : (0 : Int) ≤ (i : Int) := Int.natCast_nonneg _
      by_cases hin : i < n
      · have hiI : (i : Int) < (n : Int) := by omega
        obtain ⟨⟨ta, tl, td⟩, ht⟩ : ∃ t, l[i]? = some t := ⟨l[i]'(by have := HN.out; omega), List.getElem?_eq_getElem _⟩
        obtain ⟨g, off, rfl, c0, c1, c2⟩ := (HH.out.old HV.out).tok ht
        have hbs : badN l (i + 1) = (badN l i || !soundB (ta, tl, td)) := by rw [badN, ht]; rfl
        have HS2 := hid (refSound_any (ta, tl, td))
        have HBS := hid hbs
        clear ht hbs
        unfold tokV at HS2
        simp only at HS2
        generalize soundB (ta, tl, td) = sb at HS2 HBS
        generalize badN l i = bd at *
        cases bd
        · go_wp2_with fail
          refine (HS2.out _).mono ?_
          rintro e w4 ⟨rfl, hm⟩
          have H4 := hid (HH.out.same hm)
          clear hm
          go_wp2
          go_roundg (gk - 1)
          case measure => omega
          case rel => exact ⟨i + 1, by omega, by omega, by go_num, by rw [HBS.out]; cases sb <;> rfl, H4⟩
        · go_wp2
          go_roundg (gk - 1)
          case measure => omega
          case rel => exact ⟨i + 1, by omega, by omega, by go_num, by rw [HBS.out]; rfl, HH⟩
      · obtain rfl : i = n := by omega
        have hbad := badN_all l
        have hz0 : u8s (List.replicate N 0) = List.replicate N (.int .u8 0) := by simp [u8s]
        have hz : ∀ b ∈ List.replicate N 0, b < 256 := fun b hb => by rw [List.eq_of_mem_replicate hb]; omega
        rw [← HN.out] at hbad
        have HW := hid (h_newW HH.out)
        generalize badN l i = bd at *
        go_wp2_with fail
        refine HW.out.mono ?_
        rintro e w1 ⟨B, rfl, hh⟩
        have H1 := hid hh
        clear hh HW
        by_cases ka : kind < 0
        · have hno : ¬ mayK kind l (List.replicate N 0) := by rintro (⟨h, _⟩ | ⟨h | h, _⟩) <;> omega
          have hc1 : costK F kind l (List.replicate N 0) = -1 := by unfold costK; rw [if_neg hno]
          go_wp2_with (refine wpList_make_own rfl 30 (.tmp 34) (.tmp 34) rfl 5 iu (.int .u8 0) 1 Tryd.underlying30 hiu hu0 hu1 .i64 N rfl rfl (by rw [hu2]; omega) (by unfold maxLen; omega) ?_; intro v1 w4 zs ho1 hm1 hf1 hv1 hzs; rw [made_cells10 _ _ rfl, ← hz0] at hzs; subst hzs; subst hv1; have H4 := hid (H1.out.pushOwn ho1 hm1 hf1); clear hm1 hf1 ho1)
          refine (HA.out _ _ H4.out).mono ?_
          rintro e w5 ⟨rfl, hh⟩
          have HWN := hid (HX.out.writeNo kind l (List.replicate N 0) [] true (.slice ao i cap) (.slice (some ⟨w1.heap.size, 0, none⟩) N N) i N B w _ _ HLV hh.swap (hh.old HV.out) hh.own.rd HK.out hz (by omega) (by omega) (by decide) hno)
          clear hh
          go_wp2_with fail
          refine HWN.out.mono ?_
          rintro e w6 ⟨rfl, hh⟩
          have HBT := hid (h_wbits hh (by decide))
          clear hh HWN
          go_wp2_with fail
          refine HBT.out.mono ?_
          rintro e w7 ⟨rfl, hh⟩
          have HCT := hid (HX.out.cost kind l (List.replicate N 0) (.slice ao i cap) (.slice (some ⟨w1.heap.size, 0, none⟩) N N) i N w _ _ HLV hh (hh.old HV.out) hh.swap.own.rd HK.out hz (by omega) (by omega))
          rw [hc1] at HCT
          clear hh HBT
          go_wp2_with fail
          refine HCT.out.mono ?_
          rintro e w8 ⟨rfl, hh⟩
          have H8 := hid hh.mod.toBelow
          clear hh HCT
          go_wp2
          go_ret
          exact ⟨by simp, H8.out⟩
        · by_cases kb : 2 < kind
          · have hno : ¬ mayK kind l (List.replicate N 0) := by rintro (⟨h, _⟩ | ⟨h | h, _⟩) <;> omega
            have hc1 : costK F kind l (List.replicate N 0) = -1 := by unfold costK; rw [if_neg hno]
            go_wp2_with (refine wpList_make_own rfl 30 (.tmp 34) (.tmp 34) rfl 5 iu (.int .u8 0) 1 Tryd.underlying30 hiu hu0 hu1 .i64 N rfl rfl (by rw [hu2]; omega) (by unfold maxLen; omega) ?_; intro v1 w4 zs ho1 hm1 hf1 hv1 hzs; rw [made_cells10 _ _ rfl, ← hz0] at hzs; subst hzs; subst hv1; have H4 := hid (H1.out.pushOwn ho1 hm1 hf1); clear hm1 hf1 ho1)
            refine (HA.out _ _ H4.out).mono ?_
            rintro e w5 ⟨rfl, hh⟩
            have HWN := hid (HX.out.writeNo kind l (List.replicate N 0) [] true (.slice ao i cap) (.slice (some ⟨w1.heap.size, 0, none⟩) N N) i N B w _ _ HLV hh.swap (hh.old HV.out) hh.own.rd HK.out hz (by omega) (by omega) (by decide) hno)
            clear hh
            go_wp2_with fail
            refine HWN.out.mono ?_
            rintro e w6 ⟨rfl, hh⟩
            have HBT := hid (h_wbits hh (by decide))
            clear hh HWN
            go_wp2_with fail
            refine HBT.out.mono ?_
            rintro e w7 ⟨rfl, hh⟩
            have HCT := hid (HX.out.cost kind l (List.replicate N 0) (.slice ao i cap) (.slice (some ⟨w1.heap.size, 0, none⟩) N N) i N w _ _ HLV hh (hh.old HV.out) hh.swap.own.rd HK.out hz (by omega) (by omega))
            rw [hc1] at HCT
            clear hh HBT
            go_wp2_with fail
            refine HCT.out.mono ?_
            rintro e w8 ⟨rfl, hh⟩
            have H8 := hid hh.mod.toBelow
            clear hh HCT
            go_wp2
            go_ret
            exact ⟨by simp, H8.out⟩
          · cases bd
            · have hsnd := hbad.1 rfl
              clear hbad
              go_wp2_with (refine wpList_make_own rfl 30 (.tmp 34) (.tmp 34) rfl 5 iu (.int .u8 0) 1 Tryd.underlying30 hiu hu0 hu1 .i64 N rfl rfl (by rw [hu2]; omega) (by unfold maxLen; omega) ?_; intro v1 w4 zs ho1 hm1 hf1 hv1 hzs; rw [made_cells10 _ _ rfl, ← hz0] at hzs; subst hzs; subst hv1; have H4 := hid (H1.out.pushOwn ho1 hm1 hf1); clear hm1 hf1 ho1)
              refine (HA.out _ _ H4.out).mono ?_
              rintro e w5 ⟨rfl, hh⟩
              have HCT := hid (HX.out.cost 0 l (List.replicate N 0) (.slice ao i cap) (.slice (some ⟨w1.heap.size, 0, none⟩) N N) i N w _ _ HLV hh (hh.old HV.out) hh.own.rd HK.out hz (by omega) (by omega))
              clear hh
              by_cases hN6 : N ≤ 65535
              · have hcc : (0 : Int) ≤ costK F 0 l (List.replicate N 0) := by unfold costK; rw [if_pos (.inl ⟨rfl, by simpa using hN6⟩)]; exact Int.natCast_nonneg _
                have hNI6 : (N : Int) ≤ 65535 := by omega
                go_wp2_with fail
                refine HCT.out.mono ?_
                rintro e w8 ⟨rfl, hh⟩
                have H8 := hid hh.mod.toBelow
                clear hh HCT
                generalize costK F 0 l (List.replicate N 0) = cc at *
                go_wp2
                go_ret
                exact ⟨by simp, H8.out⟩
              · have hcc : costK F 0 l (List.replicate N 0) = -1 := by
                  unfold costK
                  rw [if_neg]
                  rintro (⟨_, h⟩ | ⟨h | h, _⟩)
                  · rw [List.length_replicate] at h; omega
                  · omega
                  · omega
                rw [hcc] at HCT
                have hNI6 : ¬ (N : Int) ≤ 65535 := by omega
                go_wp2_with fail
                refine HCT.out.mono ?_
                rintro e w8 ⟨rfl, hh⟩
                have H8 := hid hh.mod.toBelow
                clear hh HCT
                go_wp2
                go_ret
                exact ⟨by simp [hNI6], H8.out⟩
            · have hns : ¬ allSound l := fun h => by have := hbad.2 h; contradiction
              clear hbad
              by_cases kc : 0 < kind
              · have hno : ¬ mayK kind l (List.replicate N 0) := by
                  rintro (⟨h, _⟩ | ⟨_, h, _⟩)
                  · omega
                  · exact hns h
                have hc1 : costK F kind l (List.replicate N 0) = -1 := by unfold costK; rw [if_neg hno]
                go_wp2_with (refine wpList_make_own rfl 30 (.tmp 34) (.tmp 34) rfl 5 iu (.int .u8 0) 1 Tryd.underlying30 hiu hu0 hu1 .i64 N rfl rfl (by rw [hu2]; omega) (by unfold maxLen; omega) ?_; intro v1 w4 zs ho1 hm1 hf1 hv1 hzs; rw [made_cells10 _ _ rfl, ← hz0] at hzs; subst hzs; subst hv1; have H4 := hid (H1.out.pushOwn ho1 hm1 hf1); clear hm1 hf1 ho1)
                refine (HA.out _ _ H4.out).mono ?_
                rintro e w5 ⟨rfl, hh⟩
                have HWN := hid (HX.out.writeNo kind l (List.replicate N 0) [] true (.slice ao i cap) (.slice (some ⟨w1.heap.size, 0, none⟩) N N) i N B w _ _ HLV hh.swap (hh.old HV.out) hh.own.rd HK.out hz (by omega) (by omega) (by decide) hno)
                clear hh
                go_wp2_with fail
                refine HWN.out.mono ?_
                rintro e w6 ⟨rfl, hh⟩
                have HBT := hid (h_wbits hh (by decide))
                clear hh HWN
                go_wp2_with fail
                refine HBT.out.mono ?_
                rintro e w7 ⟨rfl, hh⟩
                have HCT := hid (HX.out.cost kind l (List.replicate N 0) (.slice ao i cap) (.slice (some ⟨w1.heap.size, 0, none⟩) N N) i N w _ _ HLV hh (hh.old HV.out) hh.swap.own.rd HK.out hz (by omega) (by omega))
                rw [hc1] at HCT
                clear hh HBT
                go_wp2_with fail
                refine HCT.out.mono ?_
                rintro e w8 ⟨rfl, hh⟩
                have H8 := hid hh.mod.toBelow
                clear hh HCT
                go_wp2
                go_ret
                exact ⟨by simp, H8.out⟩
              · by_cases kd : 65535 < N
                · have hbk : bestK F l (List.replicate N 0) = (-1, 0) := by
                    have k0 : costK F 0 l (List.replicate N 0) = -1 := by
                      unfold costK
                      rw [if_neg]
                      rintro (⟨_, h⟩ | ⟨h | h, _⟩)
                      · rw [List.length_replicate] at h; omega
                      · omega
                      · omega
                    have k1 : costK F 1 l (List.replicate N 0) = -1 := by
                      unfold costK
                      rw [if_neg]
                      rintro (⟨h, _⟩ | ⟨_, h, _⟩)
                      · omega
                      · exact hns h
                    have k2 : costK F 2 l (List.replicate N 0) = -1 := by
                      unfold costK
                      rw [if_neg]
                      rintro (⟨h, _⟩ | ⟨_, h, _⟩)
                      · omega
                      · exact hns h
                    unfold bestK
                    rw [k0, k1, k2]
                    decide
                  have hNI6 : (65535 : Int) < (N : Int) := by omega
                  go_wp2_with (refine wpList_make_own rfl 30 (.tmp 34) (.tmp 34) rfl 5 iu (.int .u8 0) 1 Tryd.underlying30 hiu hu0 hu1 .i64 N rfl rfl (by rw [hu2]; omega) (by unfold maxLen; omega) ?_; intro v1 w4 zs ho1 hm1 hf1 hv1 hzs; rw [made_cells10 _ _ rfl, ← hz0] at hzs; subst hzs; subst hv1; have H4 := hid (H1.out.pushOwn ho1 hm1 hf1); clear hm1 hf1 ho1)
                  refine (HA.out _ _ H4.out).mono ?_
                  rintro e w5 ⟨rfl, hh⟩
                  have HWN := hid (HX.out.best l (List.replicate N 0) [] true (.slice ao i cap) (.slice (some ⟨w1.heap.size, 0, none⟩) N N) i N B w _ _ _ HLV hh.swap (Reads.old HV.out (by decide)) (Reads.own w _ 1 _ _ _) HK.out hz (by omega) (by omega) (by decide))
                  rw [hbk, if_pos (by decide)] at HWN
                  clear hh
                  go_wp2_with fail
                  refine HWN.out.mono ?_
                  rintro e w6 ⟨rfl, hh⟩
                  have HBT := hid (h_wbits hh (by decide))
                  clear hh HWN
                  go_wp2_with fail
                  refine HBT.out.mono ?_
                  rintro e w7 ⟨rfl, hh⟩
                  have H8 := hid hh.mod.toBelow
                  clear hh HBT
                  go_wp2
                  go_ret
                  exact ⟨by simp, H8.out⟩
                · have kd2 : ¬ (65535 : Int) < (N : Int) := by omega
                  go_wp2_with (refine wpList_make_own rfl 30 (.tmp 34) (.tmp 34) rfl 5 iu (.int .u8 0) 1 Tryd.underlying30 hiu hu0 hu1 .i64 N rfl rfl (by rw [hu2]; omega) (by unfold maxLen; omega) ?_; intro v1 w4 zs ho1 hm1 hf1 hv1 hzs; rw [made_cells10 _ _ rfl, ← hz0] at hzs; subst hzs; subst hv1; have H4 := hid (H1.out.pushOwn ho1 hm1 hf1); clear hm1 hf1 ho1)
                  refine (HA.out _ _ H4.out).mono ?_
                  rintro e w5 ⟨rfl, hh⟩
                  have HCT := hid (HX.out.cost 0 l (List.replicate N 0) (.slice ao i cap) (.slice (some ⟨w1.heap.size, 0, none⟩) N N) i N w _ _ HLV hh (hh.old HV.out) hh.own.rd HK.out hz (by omega) (by omega))
                  clear hh
                  by_cases hN6 : N ≤ 65535
                  · have hcc : (0 : Int) ≤ costK F 0 l (List.replicate N 0) := by unfold costK; rw [if_pos (.inl ⟨rfl, by simpa using hN6⟩)]; exact Int.natCast_nonneg _
                    have hNI6 : (N : Int) ≤ 65535 := by omega
                    go_wp2_with fail
                    refine HCT.out.mono ?_
                    rintro e w8 ⟨rfl, hh⟩
                    have H8 := hid hh.mod.toBelow
                    clear hh HCT
                    generalize costK F 0 l (List.replicate N 0) = cc at *
                    go_wp2
                    go_ret
                    exact ⟨by simp, H8.out⟩
                  · exfalso; omega
end
end Go.Proofs.YthibpnkdhbkakaaDoor
