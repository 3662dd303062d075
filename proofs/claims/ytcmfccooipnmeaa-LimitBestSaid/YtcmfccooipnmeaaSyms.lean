/-
  The frequencies looked at: whether they may be, and the symbols that come.
-/
import Derived.Test.YtcmfccooipnmeaaPack
import Derived.Test.YtcmfccooipnmeaaLimitOK
namespace Go.Proofs.Ytcmfccooipnmeaa
open Go.RowKit

set_option maxHeartbeats 800000 in
theorem within_any (v : Value) (f : List Int) (w : World) (n : Nat) (hn : n = f.length) (hv : Rd w 1 v n (ints f)) (hl : n < 1000000) :
    Calls Try.prog 15 #[v] w fun e w' => e = .returned (.bool (frqIn f)) ∧ w = w' := by
  obtain ⟨ao, cap, rfl, _, _⟩ := hv.form
  have HN := hid hn
  clear hn
  have hn0 : (0 : Int) ≤ (n : Int) := Int.natCast_nonneg _
  go_enter Try.func15, Try.ntmps15
  go_wp2
  go_loopg [7] (n + 1) (fun k t7 wr => ∃ (i : Nat), i ≤ n ∧ n - i < k ∧ t7 = .int .i64 (i : Int) ∧ Hid (frqIn (f.take i) = true) ∧ wr = w)
  case atStart => exact ⟨0, by omega, by omega, rfl, rfl, rfl⟩
  case round =>
    obtain ⟨i, hi, hk, rfl, HA, rfl⟩ := hrel
    by_cases hin : i < n
    · obtain ⟨g, off, rfl, hcell⟩ := hv.spot (by omega)
      obtain ⟨a, hai⟩ : ∃ a, f[i]? = some a := ⟨f[i]'(by have := HN.out; omega), List.getElem?_eq_getElem _⟩
      have hc1 := hcell i _ (by rw [ints_get, hai]; rfl)
      have hi0 : (0 : Int) ≤ (i : Int) := Int.natCast_nonneg _
      have hi1 : (i : Int) < (n : Int) := by omega
      have HT := hid (take_snoc3 f i a hai)
      clear hcell hai
      have h5 : a < 0 ∨ 0 ≤ a ∧ 1048576 < a ∨ 0 ≤ a ∧ a ≤ 1048576 := by omega
      rcases h5 with h5 | ⟨h5, h6⟩ | ⟨h5, h6⟩
      · have HF : Hid (frqIn f = false) := hid (frqIn_take f (i + 1) (by rw [HT.out, frqIn_snoc, HA.out]; simp; omega))
        have hb3 : decide (a < 0) = true := by simp; omega
        go_wp2
        go_ret
        exact ⟨by rw [HF.out]; rfl, rfl⟩
      · have HF : Hid (frqIn f = false) := hid (frqIn_take f (i + 1) (by rw [HT.out, frqIn_snoc, HA.out]; simp; omega))
        have hb3 : decide (a < 0) = false := by simp; omega
        have hb4 : decide ((1048576 : Int) < a) = true := by simp; omega
        go_wp2
        go_ret
        exact ⟨by rw [HF.out]; rfl, rfl⟩
      · have HF : Hid (frqIn (f.take (i + 1)) = true) := hid (by rw [HT.out, frqIn_snoc, HA.out]; simp; omega)
        have hb3 : decide (a < 0) = false := by simp; omega
        have hb4 : decide ((1048576 : Int) < a) = false := by simp; omega
        go_wp2
        go_roundg (gk - 1)
        case measure => omega
        case rel => exact ⟨i + 1, by omega, by omega, by go_num, HF, rfl⟩
    · have hi1 : ¬ (i : Int) < (n : Int) := by omega
      have HF : Hid (frqIn f = true) := by
        have h := HA.out
        rw [List.take_of_length_le (by have := HN.out; omega)] at h
        exact hid h
      go_wp2
      go_ret
      exact ⟨by rw [HF.out]; rfl, rfl⟩
/-- the symbols that come, each with its weight -/
def symI : Nat → List Nat → List Itm
  | _, [] => []
  | k, a :: f => if 0 < a then (a, (k : Int)) :: symI (k + 1) f else symI (k + 1) f
theorem symI_snoc (a : Nat) : ∀ (f : List Nat) (k : Nat), symI k (f ++ [a]) = symI k f ++ (if 0 < a then [(a, ((k + f.length : Nat) : Int))] else [])
  | [], k => by simp [symI]
  | b :: f, k => by
    rw [List.cons_append, symI, symI, symI_snoc a f (k + 1), show k + 1 + f.length = k + (b :: f).length by simp; omega]
    by_cases h : 0 < b
    · rw [if_pos h, if_pos h]; rfl
    · rw [if_neg h, if_neg h]
theorem symI_length : ∀ (f : List Nat) (k : Nat), (symI k f).length = codedN f
  | [], _ => rfl
  | a :: f, k => by
    rw [symI, codedN]
    by_cases h : 0 < a
    · rw [if_pos h, if_pos h, List.length_cons, symI_length f]; omega
    · rw [if_neg h, if_neg h, symI_length f]; omega
theorem symI_le : ∀ (f : List Nat) (k : Nat), (symI k f).length ≤ f.length
  | [], _ => Nat.le_refl _
  | a :: f, k => by
    rw [symI, List.length_cons]
    have := symI_le f (k + 1)
    split
    · rw [List.length_cons]; omega
    · omega
set_option maxHeartbeats 1600000 in
theorem symbols_any (v : Value) (f : List Int) (w0 w : World) (Rs : List Thing) (h : Held w0 w Rs) (n : Nat) (hn : n = f.length) (hv : Rd w0 1 v n (ints f)) (hl : n < 1000) (hf : ∀ a ∈ f, 0 ≤ a ∧ a ≤ 1048576) :
    Calls Try.prog 16 #[v] w fun e w' => ∃ v', e = .returned v' ∧ Held w0 w' (itmT v' (symI 0 (f.map Int.toNat)) :: Rs) := by
  obtain ⟨i0, hi0, hz0, hz1, hz2⟩ := info_parts infoItem
  obtain ⟨ao, cap, rfl, _, _⟩ := hv.form
  have HN := hid hn
  have HF := hid hf
  have H := hid h
  clear hn hf h
  have hn0 : (0 : Int) ≤ (n : Int) := Int.natCast_nonneg _
  go_enter Try.func16, Try.ntmps16
  go_wp2
  go_loopg [3, 8] (n + 1) (fun k t3 t8 wr => ∃ (i L : Nat) (so : Option Addr) (sc : Nat), i ≤ n ∧ n - i < k ∧ t8 = .int .i64 (i : Int) ∧ t3 = .slice so L sc ∧ L ≤ i ∧ Hid (L = (symI 0 ((f.take i).map Int.toNat)).length) ∧
    Hid (Held w0 wr (ownT 41 2 (.slice so L sc) L (cellsI (symI 0 ((f.take i).map Int.toNat))) :: Rs)))
  case atStart => exact ⟨0, 0, none, 0, by omega, by omega, rfl, rfl, by omega, rfl, hid (H.out.nil _ _)⟩
  case round =>
    obtain ⟨i, L, so, sc, hi, hk, rfl, rfl, hLi, HL, HH⟩ := hrel
    have hI0 : (0 : Int) ≤ (i : Int) := Int.natCast_nonneg _
    by_cases hin : i < n
    · have hi1 : (i : Int) < (n : Int) := by omega
      obtain ⟨g1, off1, rfl, hcell⟩ := (HH.out.old hv).spot (by omega)
      obtain ⟨a, hai⟩ : ∃ a, f[i]? = some a := ⟨f[i]'(by have := HN.out; omega), List.getElem?_eq_getElem _⟩
      have ha := HF.out a (List.mem_of_getElem? hai)
      obtain ⟨x, rfl⟩ := Int.eq_ofNat_of_zero_le ha.1
      have hx : x ≤ 1048576 := by omega
      have hc1 := hcell i _ (by rw [ints_get, hai]; rfl)
      have HT : Hid (symI 0 ((f.take (i + 1)).map Int.toNat) = symI 0 ((f.take i).map Int.toNat) ++ (if 0 < x then [(x, ((i : Nat) : Int))] else [])) := by
        rw [take_snoc3 f i _ hai, List.map_append, List.map_cons, List.map_nil, symI_snoc]
        have hl : (List.map Int.toNat (f.take i)).length = i := by rw [List.length_map, List.length_take]; have := HN.out; omega
        rw [hl, Nat.zero_add]; exact hid rfl
      clear hcell hai ha
      by_cases hx0 : 0 < x
      · have hx0I : (0 : Int) < (x : Int) := by omega
        have HT2 : Hid (symI 0 ((f.take (i + 1)).map Int.toNat) = symI 0 ((f.take i).map Int.toNat) ++ [(x, ((i : Nat) : Int))]) := by
          have h := HT.out
          rw [if_pos hx0] at h
          exact hid h
        have HH1 := hid (HH.out.lit 41 2 (cellsI [(x, ((i : Nat) : Int))]) 1 (by decide) rfl).swap
        go_wp2_with ((with_reducible show wpList _ _ _ (⟨some 20, _, _, _, _, _⟩ :: _) _ _); refine wpList_app_held rfl (.tmp 15) (.tmp 19) 38 rfl 41 i0 (.agg #[.int .i64 0, .int .i64 0]) 2 16 Try.underlying38 hi0 hz0 hz1 hz2 rfl (by decide) _ L (cellsI (symI 0 ((f.take i).map Int.toNat))) rfl HH1.out _ 1 (cellsI [(x, ((i : Nat) : Int))]) rfl HH1.out.swap.own.rd (cellsI_one _) (L + 1) rfl (by unfold maxLen; omega) (by omega) ?_; intro ao1 cap1 w1 h1; rw [← cellsI_app, ← HT2.out] at h1; have HH2 := hid h1.swap.drop; clear h1)
        go_roundg (gk - 1)
        case measure => omega
        case rel => exact ⟨i + 1, L + 1, ao1, cap1, by omega, by omega, by go_num, rfl, by omega, hid (by rw [HT2.out, List.length_append, ← HL.out]; rfl), HH2⟩
      · have hx0I : ¬ (0 : Int) < (x : Int) := by omega
        have HT2 : Hid (symI 0 ((f.take (i + 1)).map Int.toNat) = symI 0 ((f.take i).map Int.toNat)) := by
          have h := HT.out
          rw [if_neg hx0, List.append_nil] at h
          exact hid h
        go_wp2
        go_roundg (gk - 1)
        case measure => omega
        case rel => exact ⟨i + 1, L, so, sc, by omega, by omega, by go_num, rfl, by omega, by rw [HT2.out]; exact HL, by rw [HT2.out]; exact HH⟩
    · have hi1 : ¬ (i : Int) < (n : Int) := by omega
      have HE : Hid (Held w0 wr (itmT (.slice so L sc) (symI 0 (f.map Int.toNat)) :: Rs)) := by
        have h := HH.out
        have h2 := HL.out
        rw [List.take_of_length_le (by have := HN.out; omega)] at h h2
        unfold itmT
        rw [← h2]; exact hid h
      go_wp2
      go_ret
      exact ⟨_, rfl, HE⟩
end Go.Proofs.Ytcmfccooipnmeaa
