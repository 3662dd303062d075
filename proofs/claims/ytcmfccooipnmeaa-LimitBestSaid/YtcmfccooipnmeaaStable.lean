/-
  Items sorted by weight, those of one weight in the order in which they were.
-/
import Derived.Test.YtcmfccooipnmeaaMerge3
namespace Go.Proofs.Ytcmfccooipnmeaa
open Go.RowKit

/-- blocks, each sorted -/
def sblk (Bs : List (List Itm)) : List Itm := (Bs.map ssort).flatten
theorem sblk_length : ∀ Bs : List (List Itm), (sblk Bs).length = Bs.flatten.length
  | [] => rfl
  | B :: Bs => by
    show (ssort B ++ sblk Bs).length = (B ++ Bs.flatten).length
    rw [List.length_append, List.length_append, ssort_length, sblk_length Bs]
theorem blocks_length (k : Nat) : ∀ Bs : List (List Itm), (∀ B ∈ Bs, B.length = k) → Bs.flatten.length = k * Bs.length
  | [], _ => by simp
  | B :: Bs, h => by
    show (B ++ Bs.flatten).length = _
    rw [List.length_append, blocks_length k Bs fun C hC => h C (List.mem_cons_of_mem _ hC), h B List.mem_cons_self, List.length_cons, Nat.mul_succ]; omega
theorem sblk_snoc (Bs : List (List Itm)) (B : List Itm) : sblk (Bs ++ [B]) = sblk Bs ++ ssort B := by simp [sblk]
theorem sblk_cons (Bs : List (List Itm)) (B : List Itm) : sblk (B :: Bs) = ssort B ++ sblk Bs := by simp [sblk]
set_option maxRecDepth 100000 in
set_option maxHeartbeats 1600000 in
theorem stable_any (n : Nat) (Z : List Itm) (v : Value) (w0 w : World) (Rs : List Thing) (h : Held w0 w (itmT v Z :: Rs)) (hn : Z.length = n) (hN2 : n ≤ 100000) :
    Calls Try.prog 30 #[v, .int .i64 (n : Int), cmpV] w fun e w' => e = .returned (.tuple #[]) ∧ Held w0 w' (itmT v (ssort Z) :: Rs) := by
  unfold cmpV
  have h0 : (0 : Int) ≤ (n : Int) := Int.natCast_nonneg _
  have HN := hid hn
  have H := hid h
  clear h hn
  go_enter Try.func30, Try.ntmps30
  go_wp2
  go_loopg [7, 8] (n + 2) (fun k t7 t8 wr => ∃ (a : Nat) (Bs : List (List Itm)) (R : List Itm), a ≤ n ∧ n - a < k ∧ t7 = .int .i64 (a : Int) ∧ t8 = .int .i64 ((a : Int) + 20) ∧
    Hid ((∀ B ∈ Bs, B.length = 20) ∧ Z = Bs.flatten ++ R ∧ Bs.flatten.length = a) ∧ Hid (Held w0 wr (itmT v (sblk Bs ++ R) :: Rs)))
  case atStart => exact ⟨0, [], Z, by omega, by omega, rfl, rfl, hid ⟨by simp, by simp, rfl⟩, H⟩
  case round =>
    obtain ⟨a, Bs, R, han, hk, rfl, rfl, HE, HH⟩ := hrel
    have h1 : (0 : Int) ≤ (a : Int) := Int.natCast_nonneg _
    by_cases hb : a + 20 ≤ n
    · have hbI : (a : Int) + 20 ≤ (n : Int) := by omega
      obtain ⟨q1, q2, q3⟩ := HE.out
      have hRl : a + R.length = n := by have := HN.out; rw [q2, List.length_append] at this; omega
      have hB : (R.take 20).length = 20 := by simp; omega
      have hh := HH.out
      rw [← List.take_append_drop 20 R] at hh
      have HR := hid (insertion_any a (a + 20) n (sblk Bs) (R.take 20) (R.drop 20) v w0 wr Rs hh (by rw [List.take_append_drop, List.length_append, sblk_length]; omega) hN2 (by rw [sblk_length]; exact q3) (by rw [List.length_append, sblk_length, hB]; omega))
      have HG : Hid ((∀ B ∈ Bs ++ [R.take 20], B.length = 20) ∧ Z = (Bs ++ [R.take 20]).flatten ++ R.drop 20 ∧ (Bs ++ [R.take 20]).flatten.length = a + 20) := by
        refine hid ⟨fun B hB2 => ?_, ?_, ?_⟩
        · rcases List.mem_append.1 hB2 with h | h
          · exact q1 B h
          · rw [List.mem_singleton.1 h]; exact hB
        · rw [q2]; simp
        · rw [List.flatten_append, List.length_append, q3]; simp; omega
      have e20 : ((a + 20 : Nat) : Int) = (a : Int) + 20 := by omega
      rw [e20] at HR
      clear hh q1 q2 q3 hRl hB e20
      go_wp2_with fail
      refine HR.out.mono ?_
      rintro e w1 ⟨rfl, hh⟩
      rw [← List.append_assoc, ← sblk_snoc] at hh
      have HH1 := hid hh
      clear hh
      go_wp2
      go_roundg (gk - 1)
      case measure => omega
      case rel => exact ⟨a + 20, Bs ++ [R.take 20], R.drop 20, by omega, by omega, by go_num, by go_num, HG, HH1⟩
    · have hbI : ¬ (a : Int) + 20 ≤ (n : Int) := by omega
      have hs : ∃ (k : Nat) (Bs2 : List (List Itm)) (T : List Itm), k = 20 ∧ Bs2 = Bs ∧ T = R := ⟨20, Bs, R, rfl, rfl, rfl⟩
      have HR := hid (insertion_any a n n (sblk Bs) R [] v w0 wr Rs (by have h := HH.out; simpa using h) (by
        obtain ⟨q1, q2, q3⟩ := HE.out
        have h := HN.out
        rw [q2] at h; simp [sblk_length] at h ⊢; omega) hN2 (by rw [sblk_length]; exact HE.out.2.2) (by
        obtain ⟨q1, q2, q3⟩ := HE.out
        have h := HN.out
        rw [q2, List.length_append] at h
        rw [List.length_append, sblk_length]; exact h))
      go_wp2_with fail
      refine HR.out.mono ?_
      rintro e w1 ⟨rfl, hh⟩
      rw [List.append_nil] at hh
      have HH1 := hid hh
      clear hh hs HR
      have HT : Hid (R.length < 20) := by
        obtain ⟨q1, q2, q3⟩ := HE.out
        have h := HN.out
        rw [q2, List.length_append] at h
        exact hid (by omega)
      go_wp2
      go_loopg [6] (n + 1) (fun k t6 wq => ∃ (z : Nat) (Bs : List (List Itm)) (T : List Itm), 20 ≤ z ∧ z ≤ 2 * n + 20 ∧ n - z < k ∧ t6 = .int .i64 (z : Int) ∧
        Hid ((∀ B ∈ Bs, B.length = z) ∧ Z = Bs.flatten ++ T ∧ T.length < z) ∧ Hid (Held w0 wq (itmT v (sblk Bs ++ ssort T) :: Rs)))
      case atStart => exact ⟨20, Bs, R, by omega, by omega, by omega, rfl, hid ⟨HE.out.1, HE.out.2.1, HT.out⟩, HH1⟩
      case round =>
        obtain ⟨z, Cs, T, hz20, hz2, hk2, rfl, HF, HJ⟩ := hrel
        obtain ⟨gx, rfl⟩ : ∃ g, g = gk := ⟨gk, rfl⟩
        have h2 : (0 : Int) ≤ (z : Int) := Int.natCast_nonneg _
        by_cases hzn : z < n
        · have hznI : (z : Int) < (n : Int) := by omega
          go_wp2
          go_loopg [7, 8] (n + 1) (fun k t7 t8 wq => ∃ (a : Nat) (Ds Es : List (List Itm)), a ≤ n ∧ n - a < k ∧ t7 = .int .i64 (a : Int) ∧ t8 = .int .i64 ((a : Int) + 2 * (z : Int)) ∧
            Hid ((∀ B ∈ Ds, B.length = 2 * z) ∧ (∀ B ∈ Es, B.length = z) ∧ Z = Ds.flatten ++ (Es.flatten ++ T) ∧ Ds.flatten.length = a) ∧ Hid (Held w0 wq (itmT v (sblk Ds ++ (sblk Es ++ ssort T)) :: Rs)))
          case atStart =>
            refine ⟨0, [], Cs, by omega, by omega, rfl, by go_num, hid ⟨by simp, HF.out.1, by simpa using HF.out.2.1, rfl⟩, ?_⟩
            exact HJ
          case round =>
            obtain ⟨c, Ds, Es, hcn, hk3, rfl, rfl, HG, HK⟩ := hrel
            obtain ⟨gy, rfl⟩ : ∃ g, g = gk := ⟨gk, rfl⟩
            have h3 : (0 : Int) ≤ (c : Int) := Int.natCast_nonneg _
            have hEl : Hid (c + (z * Es.length + T.length) = n) := by
              obtain ⟨q1, q2, q3, q4⟩ := HG.out
              have h := HN.out
              rw [q3, List.length_append, List.length_append, q4, blocks_length z Es q2] at h
              exact hid h
            by_cases hc : c + 2 * z ≤ n
            · have hcI : (c : Int) + 2 * (z : Int) ≤ (n : Int) := by omega
              obtain ⟨B1, B2, Fs, rfl⟩ : ∃ B1 B2 Fs, Es = B1 :: B2 :: Fs := by
                have h1 := hEl.out
                have h2 := HF.out.2.2
                match Es with
                | [] => exfalso; simp at h1; omega
                | [B] => exfalso; simp at h1; omega
                | B1 :: B2 :: Fs => exact ⟨B1, B2, Fs, rfl⟩
              obtain ⟨q1, q2, q3, q4⟩ := HG.out
              have b1 := q2 B1 (by simp)
              have b2 := q2 B2 (by simp)
              have hh := HK.out
              rw [sblk_cons, sblk_cons, List.append_assoc, List.append_assoc] at hh
              have HR := hid (merge_ok (2 * z) c (c + z) (c + 2 * z) n (sblk Ds) (ssort B1) (ssort B2) (sblk Fs ++ ssort T) v w0 wr Rs hh (by
                have h := HN.out
                rw [q3] at h
                simp only [List.length_append, sblk_length, ssort_length, List.flatten_cons] at h ⊢; omega) hN2 (by rw [sblk_length]; exact q4) (by rw [ssort_length, b1]) (by rw [ssort_length, b2]; omega) (by omega) (by omega) (ssort_asc B1) (ssort_asc B2) (by omega))
              have HG2 : Hid ((∀ B ∈ Ds ++ [B1 ++ B2], B.length = 2 * z) ∧ (∀ B ∈ Fs, B.length = z) ∧ Z = (Ds ++ [B1 ++ B2]).flatten ++ (Fs.flatten ++ T) ∧ (Ds ++ [B1 ++ B2]).flatten.length = c + 2 * z) := by
                refine hid ⟨fun B hB => ?_, fun B hB => q2 B (List.mem_cons_of_mem _ (List.mem_cons_of_mem _ hB)), by rw [q3]; simp, ?_⟩
                · rcases List.mem_append.1 hB with h | h
                  · exact q1 B h
                  · rw [List.mem_singleton.1 h, List.length_append]; omega
                · rw [List.flatten_append, List.length_append, q4]; simp; omega
              have e1 : ((c + z : Nat) : Int) = (c : Int) + (z : Int) := by omega
              have e2 : ((c + 2 * z : Nat) : Int) = (c : Int) + 2 * (z : Int) := by omega
              rw [e1, e2] at HR
              clear hh q1 q2 q3 q4 b1 b2 e1 e2
              go_wp2_with fail
              refine HR.out.mono ?_
              rintro e w3 ⟨rfl, hh⟩
              rw [← ssort_app, ← List.append_assoc, ← sblk_snoc] at hh
              have HH2 := hid hh
              clear hh
              go_wp2
              go_roundg (gy - 1)
              case measure => omega
              case rel => exact ⟨c + 2 * z, Ds ++ [B1 ++ B2], Fs, by omega, by omega, by go_num, by go_num, HG2, HH2⟩
            · have hcI : ¬ (c : Int) + 2 * (z : Int) ≤ (n : Int) := by omega
              obtain ⟨q1, q2, q3, q4⟩ := HG.out
              by_cases hcm : c + z < n
              · have hcmI : (c : Int) + (z : Int) < (n : Int) := by omega
                obtain ⟨B, rfl⟩ : ∃ B, Es = [B] := by
                  have h1 := hEl.out
                  have h2 := HF.out.2.2
                  match Es with
                  | [] => exfalso; simp at h1; omega
                  | [B] => exact ⟨B, rfl⟩
                  | B1 :: B2 :: Fs => exfalso; simp [Nat.mul_add] at h1; omega
                have b1 := q2 B (by simp)
                have hel := hEl.out
                simp at hel
                have hh := HK.out
                rw [sblk_cons, List.append_assoc] at hh
                have HR := hid (merge_ok n c (c + z) n n (sblk Ds) (ssort B) (ssort T) [] v w0 wr Rs (by rw [List.append_nil]; exact hh) (by
                  have h := HN.out
                  rw [q3] at h
                  simp only [List.length_append, sblk_length, ssort_length, List.flatten_cons, List.length_nil, List.flatten_nil] at h ⊢; omega) hN2 (by rw [sblk_length]; exact q4) (by rw [ssort_length, b1]) (by rw [ssort_length]; omega) (by omega) (by omega) (ssort_asc B) (ssort_asc T) (by omega))
                have HG2 : Hid ((∀ B ∈ Ds, B.length = z * 2) ∧ Z = Ds.flatten ++ (B ++ T) ∧ (B ++ T).length < z * 2) := by
                  refine hid ⟨fun B hB => by rw [q1 B hB]; omega, by rw [q3]; simp, ?_⟩
                  have := HF.out.2.2
                  rw [List.length_append]; omega
                have e1 : ((c + z : Nat) : Int) = (c : Int) + (z : Int) := by omega
                rw [e1] at HR
                clear hh q1 q2 q3 q4 b1 e1 hel
                go_wp2_with fail
                refine HR.out.mono ?_
                rintro e w3 ⟨rfl, hh⟩
                rw [← ssort_app, List.append_nil] at hh
                have HH2 := hid hh
                clear hh
                go_wp2
                go_roundg (gx - 1)
                case measure => omega
                case rel => exact ⟨z * 2, Ds, B ++ T, by omega, by omega, by omega, by go_num, HG2, HH2⟩
              · have hcmI : ¬ (c : Int) + (z : Int) < (n : Int) := by omega
                obtain ⟨T2, HT2⟩ : ∃ T2, Hid (Es.flatten ++ T = T2 ∧ sblk Es ++ ssort T = ssort T2 ∧ T2.length < z * 2) := by
                  have h1 := hEl.out
                  have h2 := HF.out.2.2
                  match Es with
                  | [] => exact ⟨T, hid ⟨by simp, by simp [sblk], by omega⟩⟩
                  | [B] =>
                    have b1 := q2 B (by simp)
                    simp at h1
                    obtain rfl : T = [] := List.eq_nil_of_length_eq_zero (by omega)
                    exact ⟨B, hid ⟨by simp, by rw [sblk_cons]; simp [sblk, ssort, mrg], by omega⟩⟩
                  | B1 :: B2 :: Fs => exfalso; simp [Nat.mul_add] at h1; omega
                have HG2 : Hid ((∀ B ∈ Ds, B.length = z * 2) ∧ Z = Ds.flatten ++ T2 ∧ T2.length < z * 2) := by
                  refine hid ⟨fun B hB => by rw [q1 B hB]; omega, by rw [q3, HT2.out.1], HT2.out.2.2⟩
                have hh := HK.out
                rw [HT2.out.2.1] at hh
                have HH2 := hid hh
                clear hh q1 q2 q3 q4
                go_wp2
                go_roundg (gx - 1)
                case measure => omega
                case rel => exact ⟨z * 2, Ds, T2, by omega, by omega, by omega, by go_num, HG2, HH2⟩
        · have hznI : ¬ (z : Int) < (n : Int) := by omega
          go_wp2
          go_end0
          refine ⟨rfl, ?_⟩
          have h := HJ.out
          have e : sblk Cs ++ ssort T = ssort Z := by
            obtain ⟨q1, q2, q3⟩ := HF.out
            have h2 := HN.out
            rw [q2, List.length_append, blocks_length z Cs q1] at h2
            rw [q2]
            match Cs with
            | [] => simp [sblk]
            | [B] =>
              obtain rfl : T = [] := List.eq_nil_of_length_eq_zero (by simp at h2; omega)
              simp [sblk, ssort, mrg]
            | B1 :: B2 :: Fs => exfalso; simp [Nat.mul_add] at h2; omega
          rw [e] at h
          exact h
end Go.Proofs.Ytcmfccooipnmeaa
