/-
  The landed finder: what is written to it, how much waits, literals, all tokens.
-/
import Derived.Test.YtjmdgcppllnkdaaDoorMatFin1
import Derived.Test.YtjmdgcppllnkdaaDoorMatOK
namespace Go.Proofs.YtjmdgcppllnkdaaDoor
open Go.RowKit

theorem infoTok3M : (Tryd.prog.info? 32).map (fun i => (i.zero, i.size, i.bytes)) = some (some (.agg #[.int .u8 0, .int .i64 0, .int .i64 0]), 3, 24) := by kernel_rfl
section
variable {w0 w : World} {Rs : List Thing} {tr en la at' cut gone n B a P : Nat} {x bs bk : List Nat} {g h : List Nat → Option Nat}
theorem writeM_any (H : Held w0 w (rawF tr en la at' gone bs bk g h n B :: Rs)) (v : Value) (m : Nat) (b : List Nat) (hv : Rd w 1 v m (u8s b)) (hlen : bs.length + m < 1000000000) :
    Calls Tryd.prog 14 #[.pointer (some ⟨B, 0, none⟩), v] w fun e w' => e = .returned (.tuple #[]) ∧ Held w0 w' (rawF tr en la at' gone (bs ++ b) bk g h n B :: Rs) := by
  obtain ⟨i0, hi0, hz0, hz1, hz2⟩ := info_parts infoByteM
  have hmb : m = b.length := by have := hv.1; rw [u8s_length] at this; omega
  obtain ⟨so, scap, rfl, hmc, hsm⟩ := hv.form
  obtain ⟨lv, bv, m1, m2, HF⟩ := unFin H
  obtain ⟨L, hL⟩ : ∃ L, L = bs.length := ⟨_, rfl⟩
  have h1 : Held w0 w (objT B (finV tr en la lv gone (.map (some m1)) (.map (some m2)) bv at') 58 :: ownT 5 1 lv bs.length (u8s bs) :: ownT 42 1 bv bk.length (nums .u16 bk) :: mapS (.map (some m1)) g n :: mapS (.map (some m2)) h n :: Rs) := HF
  rw [← hL] at h1 hlen
  obtain ⟨lo, lcap, rfl, _, _⟩ := h1.swap.own.form
  have hb := h1.obj
  have c3 := hb.cell (i := 3) rfl
  have H1 := hid h1.swap
  have HV := hid hv
  have HN := hid (And.intro hL hmb)
  clear H HF h1 hv hb hL hmb
  go_enter Tryd.func14, Tryd.ntmps14
  go_wp2_with (refine wpList_app_held rfl (.tmp 11) (.tmp 12) 22 rfl 5 i0 (.int .u8 0) 1 1 Tryd.underlying22 hi0 hz0 hz1 hz2 rfl (by decide) _ L (u8s bs) rfl H1.out _ m (u8s b) rfl HV.out (u8s_one b) (L + m) rfl (by unfold maxLen; omega) (by omega) ?_; intro ao1 cap1 w2 h2; have H2 := hid h2.swap; have f3 := H2.out.obj.frozen 3; have c3' := H2.out.obj.cell (i := 3) rfl; clear h2)
  go_end0
  refine ⟨rfl, mkFin (.slice ao1 (L + m) cap1) bv m1 m2 ?_⟩
  have h3 := H2.out.setObj 3 (.slice ao1 (L + m) cap1)
  unfold finL
  rw [List.length_append, ← HN.out.1, ← HN.out.2, u8s_append]
  exact h3
theorem writeNil_any (v : Value) (w : World) : Calls Tryd.prog 14 #[.pointer none, v] w fun e w' => e = .returned (.tuple #[]) ∧ w' = w := by
  go_enter Tryd.func14, Tryd.ntmps14
  go_wp2
  refine bodyPost_ret (results_none rfl _ _ _) rfl ?_
  exact ⟨rfl, rfl⟩
theorem toEnd6 {R1 R2 R3 R4 R5 T : Thing} (H : Held w0 w (R1 :: R2 :: T :: R3 :: R4 :: R5 :: Rs)) : Held w0 w (R1 :: R2 :: R3 :: R4 :: R5 :: T :: Rs) :=
  H.perm (List.Perm.cons _ (List.Perm.cons _ (List.perm_middle (l₁ := [R3, R4, R5])).symm))
theorem waiting_any (H : Held w0 w (rawF tr en la at' gone bs bk g h n B :: Rs)) (hat : at' ≤ bs.length) (hlen : bs.length < 1000000000) :
    Calls Tryd.prog 16 #[.pointer (some ⟨B, 0, none⟩)] w fun e w' => e = .returned (.int .i64 ((bs.length - at' : Nat) : Int)) ∧ ∃ k, w' = w.drewN k := by
  obtain ⟨lv, bv, m1, m2, HF⟩ := unFin H
  obtain ⟨hB, hO, _, _, _⟩ := finAll HF
  obtain ⟨L, hL⟩ : ∃ L, L = bs.length := ⟨_, rfl⟩
  rw [← hL] at hO hat hlen ⊢
  obtain ⟨lo, lcap, rfl, _, _⟩ := hO.form
  have c3 := hB.cell (i := 3) rfl
  have c8 := hB.cell (i := 8) rfl
  obtain ⟨d, hd⟩ : ∃ d, d = L - at' := ⟨_, rfl⟩
  have hdI : (L : Int) - (at' : Int) = (d : Int) := by omega
  have hd0 : (0 : Int) ≤ (d : Int) := Int.natCast_nonneg _
  have hdb : d < 1000000000 := by omega
  rw [← hd]
  clear hd H HF hB hO hL hat
  go_enter Tryd.func16, Tryd.ntmps16
  go_wp2
  go_quiet (fail)
  go_wp2
  go_ret
  exact ⟨rfl, _, rfl⟩
theorem waitingNil_any (w : World) : Calls Tryd.prog 16 #[.pointer none] w fun e w' => e = .returned (.int .i64 0) ∧ w' = w := by
  go_enter Tryd.func16, Tryd.ntmps16
  go_wp2
  go_ret
  exact ⟨rfl, rfl⟩
theorem tokensNil_any (b : Bool) (w : World) : Calls Tryd.prog 15 #[.pointer none, .bool b] w fun e w' => e = .returned (.slice none 0 0) ∧ w' = w := by
  go_enter Tryd.func15, Tryd.ntmps15
  go_wp2
  go_ret
  exact ⟨rfl, rfl⟩
def litsT (bs : List Nat) : List Tok := bs.map fun (b : Nat) => ((b : Int), 0, 0)
set_option maxHeartbeats 1600000 in
theorem literals_any (H : Held w0 w (rawF tr en la at' gone bs bk g h n B :: Rs)) (hlen : bs.length < 1000000000) :
    Calls Tryd.prog 20 #[.pointer (some ⟨B, 0, none⟩)] w fun e w' => ∃ v, e = .returned v ∧ Held w0 w' (tokT v (litsT bs) :: rawF tr en la at' gone [] bk g h n B :: Rs) := by
  obtain ⟨i3, hi3, hz0, hz1, hz2⟩ := info_parts infoTok3M
  obtain ⟨lv, bv, m1, m2, HF⟩ := unFin H
  obtain ⟨hB, hO, _, _, _⟩ := finAll HF
  obtain ⟨L, hL⟩ : ∃ L, L = bs.length := ⟨_, rfl⟩
  rw [← hL] at hO hlen
  obtain ⟨lo, lcap, rfl, _, _⟩ := hO.form
  have HB := hid hB
  have c3 := hB.cell (i := 3) rfl
  have hL0 : (0 : Int) ≤ (L : Int) := Int.natCast_nonneg _
  have HL := hid hL
  have H1 : Hid (Held w0 w (objT B (finV tr en la (.slice lo L lcap) gone (.map (some m1)) (.map (some m2)) bv at') 58 :: ownT 5 1 (.slice lo L lcap) bs.length (u8s bs) :: ownT 42 1 bv bk.length (nums .u16 bk) :: mapS (.map (some m1)) g n :: mapS (.map (some m2)) h n :: Rs)) := HF
  clear H HF hB hO hL
  go_enter Tryd.func20, Tryd.ntmps20
  go_wp2
  go_loopg [3, 5, 12] (L + 2) (fun gg t3 t5 t12 wr => ∃ (k : Nat) (ao : Option Addr) (cap : Nat), k ≤ L ∧ L + 1 - k < gg ∧ t12 = .int .i64 (k : Int) ∧ t3 = .slice ao k cap ∧
    Hid (Held w0 wr (ownT 32 3 (.slice ao k cap) k (toksV (litsT (bs.take k))) :: objT B (finV tr en la (.slice lo L lcap) gone (.map (some m1)) (.map (some m2)) bv at') 58 :: ownT 5 1 (.slice lo L lcap) bs.length (u8s bs) :: ownT 42 1 bv bk.length (nums .u16 bk) :: mapS (.map (some m1)) g n :: mapS (.map (some m2)) h n :: Rs)))
  case atStart => exact ⟨0, none, 0, by omega, by omega, rfl, rfl, hid (H1.out.nil 32 3)⟩
  case round =>
    obtain ⟨k, ao, cap, hk, hg, rfl, rfl, HR⟩ := hrel
    have hk0 : (0 : Int) ≤ (k : Int) := Int.natCast_nonneg _
    by_cases hkL : k < L
    · have hkI : (k : Int) < (L : Int) := by omega
      obtain ⟨vb, hvb⟩ : ∃ vb, bs[k]? = some vb := ⟨bs[k]'(by rw [← HL.out]; exact hkL), List.getElem?_eq_getElem _⟩
      have hO2 := HR.out.drop.drop.own
      rw [← HL.out] at hO2
      obtain ⟨gl, off, rfl, hcell, _, _⟩ := hO2.site (by omega)
      have cb := hcell k (.int .u8 (vb : Int)) (by rw [u8s_get, hvb]; rfl)
      have HC : Hid (toksV (litsT (bs.take k)) ++ [.int .u8 (vb : Int), .int .i64 0, .int .i64 0] = toksV (litsT (bs.take (k + 1)))) := hid (by
        rw [List.take_add_one, hvb]
        simp [litsT, toksV])
      clear hvb hO2 hcell
      go_wp2_with (refine wpList_app_held rfl (.tmp 16) (.tmp 19) 25 rfl 32 i3 (.agg #[.int .u8 0, .int .i64 0, .int .i64 0]) 3 24 Tryd.underlying25 hi3 hz0 hz1 hz2 rfl (by decide) _ k (toksV (litsT (bs.take k))) rfl (HR.out.alloc _) _ 1 [.int .u8 (vb : Int), .int .i64 0, .int .i64 0] rfl (Rd.lit _ [.int .u8 (vb : Int), .int .i64 0, .int .i64 0] _ 3 1 (by decide) rfl) (by intro u hu; simp at hu; rcases hu with rfl | rfl <;> rfl) (k + 1) rfl (by unfold maxLen; omega) (by omega) ?_; intro ao1 cap1 w4 h4; rw [HC.out] at h4; have H4 := hid h4; clear h4)
      go_roundg (gk - 1)
      case measure => omega
      case rel => exact ⟨k + 1, ao1, cap1, by omega, by omega, by go_num, rfl, H4⟩
    · obtain rfl : k = L := by omega
      have hkI : ¬ (k : Int) < (k : Int) := by omega
      have h2 := HR.out.swap
      have hb2 := h2.obj
      have d3 := hb2.cell (i := 3) rfl
      have f3 := hb2.frozen 3
      have H3 := hid (h2.setObj 3 (.slice none 0 0))
      clear h2 hb2
      go_wp2
      go_ret
      refine ⟨.slice ao k cap, rfl, ?_⟩
      have h4 := (toEnd6 (H3.out.third.drop.nil 5 1).swap)
      have h5 := (mkFin (bs := []) (.slice none 0 0) bv m1 m2 h4).swap
      rw [List.take_of_length_le (by rw [HL.out]; exact Nat.le_refl _)] at h5
      have e : (litsT bs).length = k := by rw [HL.out]; simp [litsT]
      unfold tokT
      rw [e]
      exact h5
end
end Go.Proofs.YtjmdgcppllnkdaaDoor
