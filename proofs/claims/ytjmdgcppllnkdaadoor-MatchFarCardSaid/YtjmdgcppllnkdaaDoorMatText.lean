/-
  The laws' texts of layer 9: a text repeated, with a byte turned in each round.
-/
import Derived.Test.YtjmdgcppllnkdaaDoorMatOK
import Derived.Laws.BitsAllLaws
namespace Go.Proofs.YtjmdgcppllnkdaaDoor
open Go.RowKit

theorem u8s_put (l : List Nat) (i b : Nat) : u8s (l.set i b) = (u8s l).set i (.int .u8 (b : Int)) := by simp [u8s, List.map_set]
/-- one byte turned -/
def turnT (o : List Nat) (n i : Nat) : List Nat := o.set (o.length - 1 - i % n) ((o[o.length - 1 - i % n]?.getD 0) ^^^ i)
def textN (bs : List Nat) (tu : Bool) : Nat → List Nat
  | 0 => []
  | k + 1 => if tu && decide (0 < bs.length) then turnT (textN bs tu k ++ bs) bs.length k else textN bs tu k ++ bs
theorem turnT_length (o : List Nat) (n i : Nat) : (turnT o n i).length = o.length := by unfold turnT; rw [List.length_set]
theorem textN_length (bs : List Nat) (tu : Bool) : ∀ k, (textN bs tu k).length = k * bs.length
  | 0 => by simp [textN]
  | k + 1 => by
    have ih := textN_length bs tu k
    unfold textN
    split
    · rw [turnT_length, List.length_append, ih, Nat.succ_mul]
    · rw [List.length_append, ih, Nat.succ_mul]
theorem textN_bytes (bs : List Nat) (tu : Bool) (hb : ∀ b ∈ bs, b < 256) : ∀ k, k ≤ 256 → ∀ b ∈ textN bs tu k, b < 256
  | 0, _ => by simp [textN]
  | k + 1, hk => by
    have ih := textN_bytes bs tu hb k (by omega)
    have ha : ∀ b ∈ textN bs tu k ++ bs, b < 256 := fun b h => (List.mem_append.1 h).elim (ih b) (hb b)
    unfold textN
    split
    · intro b h
      unfold turnT at h
      rcases List.mem_or_eq_of_mem_set h with h | rfl
      · exact ha b h
      · refine Nat.xor_lt_two_pow (n := 8) ?_ (by omega)
        cases e : (textN bs tu k ++ bs)[(textN bs tu k ++ bs).length - 1 - k % bs.length]? with
        | none => simp
        | some x => exact ha x (List.mem_of_getElem? e)
    · exact ha
section
variable {w0 w : World} {Rs : List Thing}
theorem infoByte9 : (Tryd.prog.info? 5).map (fun i => (i.zero, i.size, i.bytes)) = some (some (.int .u8 0), 1, 1) := by kernel_rfl
def byT (v : Value) (l : List Nat) : Thing := ownT 5 1 v l.length (u8s l)
set_option maxHeartbeats 1600000 in
theorem text_any (v : Value) (n tm tn : Nat) (bs : List Nat) (w : World) (hv : Rd w 1 v n (u8s bs)) (hb : ∀ b ∈ bs, b < 256) (hn : n ≤ 1000) :
    Calls Tryd.prog 9 #[v, .int .u8 (tm : Int), .int .u8 (tn : Int)] w fun e w' => ∃ u, e = .returned u ∧ Held w w' [byT u (textN bs (decide (tn % 2 = 1)) (tm % 40 + 1))] := by
  obtain ⟨i0, hi0, hz0, hz1, hz2⟩ := info_parts infoByte9
  obtain ⟨ao, cap, rfl, _, _⟩ := hv.form
  have hnb : n = bs.length := by have := hv.1; rw [u8s_length] at this; omega
  have HNB := hid hnb
  have HV := hid hv
  have HB := hid hb
  obtain ⟨K, hK⟩ : ∃ K, K = tm % 40 := ⟨_, rfl⟩
  have hK2 : K < 40 := by omega
  have hKI : (tm : Int) % 40 = (K : Int) := by omega
  have hKT : (tm : Int).tmod 40 = (K : Int) := by rw [hK]; rfl
  rw [← hK]
  obtain ⟨T, hT⟩ : ∃ T, T = tn % 2 := ⟨_, rfl⟩
  have hTI : (tn : Int) % 2 = (T : Int) := by omega
  have hTT : (tn : Int).tmod 2 = (T : Int) := by rw [hT]; rfl
  have hT2 : T < 2 := by omega
  rw [← hT]
  have hn0 : (0 : Int) ≤ (n : Int) := Int.natCast_nonneg _
  have hK0 : (0 : Int) ≤ (K : Int) := Int.natCast_nonneg _
  clear hv hb hnb hK hT
  have H1 := hid (Held.start w)
  go_enter Tryd.func9, Tryd.ntmps9
  go_wp2
  go_loopg [7, 8] (K + 3) (fun g t7 t8 wr => ∃ (k m : Nat) (a7 : Option Addr) (c7 : Nat), k ≤ K + 1 ∧ K + 1 - k < g ∧ t8 = .int .i64 (k : Int) ∧ t7 = .slice a7 m c7 ∧ Hid (m = k * n) ∧ m ≤ 50000 ∧ Hid (Held w wr [ownT 5 1 (.slice a7 m c7) m (u8s (textN bs (decide (T = 1)) k))]))
  case atStart => exact ⟨0, 0, none, 0, by omega, by omega, rfl, rfl, hid (by omega), by omega, hid (H1.out.nil 5 1)⟩
  case round =>
    obtain ⟨k, m, a7, c7, hk, hg, rfl, rfl, HM, hm, HH⟩ := hrel
    have hk0 : (0 : Int) ≤ (k : Int) := Int.natCast_nonneg _
    have hm0 : (0 : Int) ≤ (m : Int) := Int.natCast_nonneg _
    by_cases hkK : k ≤ K
    · have hkI : (k : Int) ≤ (K : Int) := by omega
      have hmn : m + n ≤ 50000 := by
        have h1 := HM.out
        have h2 : k * n ≤ 39 * 1000 := Nat.mul_le_mul (by omega) hn
        omega
      have HM2 : Hid (m + n = (k + 1) * n) := hid (by rw [HM.out, Nat.succ_mul])
      by_cases hc : T = 1 ∧ 0 < n
      · obtain ⟨rfl, hnp⟩ := hc
        obtain ⟨N, hN⟩ : ∃ N, N = m + n := ⟨_, rfl⟩
        obtain ⟨j, hj⟩ : ∃ j, j = k % n := ⟨_, rfl⟩
        have hjn : j < n := by rw [hj]; exact Nat.mod_lt _ hnp
        obtain ⟨q, hq⟩ : ∃ q, q = N - 1 := ⟨_, rfl⟩
        obtain ⟨p, hp⟩ : ∃ p, p = q - j := ⟨_, rfl⟩
        have hpN : p < N := by omega
        have hqI : (N : Int) - 1 = (q : Int) := by omega
        have hpI : (q : Int) - (j : Int) = (p : Int) := by omega
        have hjI : (k : Int) % (n : Int) = (j : Int) := by rw [hj]; rfl
        have hjT : (k : Int).tmod (n : Int) = (j : Int) := by rw [hj]; rfl
        have hj0 : (0 : Int) ≤ (j : Int) := Int.natCast_nonneg _
        have hq0 : (0 : Int) ≤ (q : Int) := Int.natCast_nonneg _
        have hp0 : (0 : Int) ≤ (p : Int) := Int.natCast_nonneg _
        have hN0 : (0 : Int) ≤ (N : Int) := Int.natCast_nonneg _
        have hpNI : (p : Int) < (N : Int) := by omega
        have hnz : ¬ (n : Int) = 0 := by omega
        have hnpI : (0 : Int) < (n : Int) := by omega
        have hNb : N ≤ 50000 := by omega
        obtain ⟨O, hO⟩ : ∃ O, O = textN bs (decide (1 = 1)) k ++ bs := ⟨_, rfl⟩
        have hOl : O.length = N := by rw [hO, List.length_append, textN_length, ← HNB.out, ← HM.out, hN]
        obtain ⟨x, hx⟩ : ∃ x, O[p]? = some x := ⟨O[p]'(by omega), List.getElem?_eq_getElem _⟩
        have hx256 : x < 256 := by
          have h1 := List.mem_of_getElem? hx
          rw [hO] at h1
          exact (List.mem_append.1 h1).elim (textN_bytes bs _ HB.out k (by omega) x) (HB.out x)
        obtain ⟨z, hz⟩ : ∃ z, z = x ^^^ k := ⟨_, rfl⟩
        have hz8 : z < 256 := by rw [hz]; exact Nat.xor_lt_two_pow (n := 8) hx256 (by omega)
        have hzI : bits .xor .u8 (x : Int) (k : Int) = (z : Int) := by rw [hz]; exact u8_xor_nat x k hx256 (by omega)
        have HC : Hid (u8s (textN bs (decide (1 = 1)) (k + 1)) = (u8s O).set p (.int .u8 (z : Int))) := hid (by
          rw [textN, if_pos (by rw [Bool.and_eq_true]; exact ⟨by decide, decide_eq_true (by rw [← HNB.out]; exact hnp)⟩), ← hO, turnT, ← HNB.out, hOl, ← hj, show N - 1 - j = p by omega, hx, Option.getD_some, ← hz]
          exact u8s_put O p z)
        have HO := hid (And.intro hO (And.intro hOl hx))
        have HN := hid (And.intro hN (And.intro hz hj))
        have HM3 : Hid (N = (k + 1) * n) := hid (by rw [hN]; exact HM2.out)
        have hk40 : k < 40 := by omega
        clear hO hOl hx hN hj hq hp hz
        go_wp2_with (refine wpList_app_held rfl (.tmp 16) (.tmp 17) 22 rfl 5 i0 (.int .u8 0) 1 1 Tryd.underlying22 hi0 hz0 hz1 hz2 rfl (by decide) _ m _ rfl HH.out _ n (u8s bs) rfl (HH.out.old HV.out) (u8s_one bs) N HN.out.1 (by unfold maxLen; omega) (by omega) ?_; intro ao1 cap1 w4 h4; rw [← u8s_append, ← HO.out.1] at h4; obtain ⟨g, off, rfl, hcell, hfr, hput⟩ := h4.own.site (by omega); have hcell1 := hcell p (.int .u8 (x : Int)) (by rw [u8s_get, HO.out.2.2]; rfl); have hfr1 := hfr p; have H5 := hid (h4.putOwn (hput p (.int .u8 (z : Int)) hpN) (Mod.set w4 g (off + p) _)); clear hcell hfr hput h4)
        go_roundg (gk - 1)
        case measure => omega
        case rel =>
          refine ⟨k + 1, N, _, _, by omega, by omega, by go_num, rfl, HM3, hNb, hid ?_⟩
          rw [HC.out]
          exact H5.out
      · have HC : Hid (textN bs (decide (T = 1)) (k + 1) = textN bs (decide (T = 1)) k ++ bs) := hid (by
          rw [textN, if_neg]
          rw [Bool.and_eq_true, decide_eq_true_eq, decide_eq_true_eq, ← HNB.out]
          exact hc)
        have hc2 : T = 0 ∨ (T = 1 ∧ n = 0) := by omega
        clear hc
        rcases hc2 with rfl | ⟨rfl, rfl⟩
        all_goals
          go_wp2_with (refine wpList_app_held rfl (.tmp 16) (.tmp 17) 22 rfl 5 i0 (.int .u8 0) 1 1 Tryd.underlying22 hi0 hz0 hz1 hz2 rfl (by decide) _ m _ rfl HH.out _ _ (u8s bs) rfl (HH.out.old HV.out) (u8s_one bs) (m + _) rfl (by unfold maxLen; omega) (by omega) ?_; intro ao1 cap1 w4 h4; have H4 := hid h4; clear h4)
          go_roundg (gk - 1)
          case measure => omega
          case rel =>
            refine ⟨k + 1, m + _, ao1, cap1, by omega, by omega, by go_num, rfl, HM2, hmn, hid ?_⟩
            rw [HC.out, u8s_append]
            exact H4.out
    · have hkI : ¬ (k : Int) ≤ (K : Int) := by omega
      obtain rfl : k = K + 1 := by omega
      go_wp2
      go_ret
      refine ⟨_, rfl, ?_⟩
      unfold byT
      rw [textN_length, ← HNB.out, ← HM.out]
      exact HH.out
end
end Go.Proofs.YtjmdgcppllnkdaaDoor
