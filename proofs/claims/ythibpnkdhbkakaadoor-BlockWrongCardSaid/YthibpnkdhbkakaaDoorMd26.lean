/-
  Two sorted ranges of items merged: one step, the halves by the same function.
-/
import Derived.Test.YthibpnkdhbkakaaDoorMd25
import Derived.Deep.DeepCutAuto
namespace Go.Proofs.YthibpnkdhbkakaaDoor
set_option maxRecDepth 5000
open Go.RowKit

def MergeOK (D : Nat) : Prop :=
  ∀ (a m b N : Nat) (P X Y S : List Itm) (v : Value) (w0 w : World) (Rs : List Thing), Held w0 w (itmT v (P ++ (X ++ (Y ++ S))) :: Rs) → (P ++ (X ++ (Y ++ S))).length = N → N ≤ 100000 → P.length = a → a + X.length = m → m + Y.length = b →
    a < m → m < b → Asc X → Asc Y → b - a ≤ D →
    Calls Tryd.prog 80 #[v, .int .i64 (a : Int), .int .i64 (m : Int), .int .i64 (b : Int), cmpV] w fun e w' => e = .returned (.tuple #[]) ∧ Held w0 w' (itmT v (P ++ (mrg X Y ++ S)) :: Rs)
set_option maxRecDepth 100000 in
set_option maxHeartbeats 3200000 in
theorem merge_step (D : Nat) (IH : MergeOK D) (a m b N : Nat) (P X Y S : List Itm) (v : Value) (w0 w : World) (Rs : List Thing) (h : Held w0 w (itmT v (P ++ (X ++ (Y ++ S))) :: Rs)) (hN : (P ++ (X ++ (Y ++ S))).length = N) (hN2 : N ≤ 100000)
    (ha : P.length = a) (hm : a + X.length = m) (hb : m + Y.length = b) (hX1 : a + 1 < m) (hY1 : m + 1 < b) (hX : Asc X) (hY : Asc Y) (hD : b - a ≤ D + 1) :
    Calls Tryd.prog 80 #[v, .int .i64 (a : Int), .int .i64 (m : Int), .int .i64 (b : Int), cmpV] w fun e w' => e = .returned (.tuple #[]) ∧ Held w0 w' (itmT v (P ++ (mrg X Y ++ S)) :: Rs) := by
  unfold cmpV
  have h0 : (0 : Int) ≤ (a : Int) := Int.natCast_nonneg _
  have h1 : (0 : Int) ≤ (b : Int) := Int.natCast_nonneg _
  have h2 : (0 : Int) ≤ (m : Int) := Int.natCast_nonneg _
  have hbN : b ≤ N := by simp at hN; omega
  obtain ⟨ao, cap, rfl, hc1, hc2⟩ := itm_form h
  rw [hN] at hc1 h ⊢
  obtain ⟨mid, hmid⟩ : ∃ mid, mid = (a + b) / 2 := ⟨_, rfl⟩
  obtain ⟨s0, r0, hcase⟩ : ∃ s0 r0, (mid < m ∧ s0 + b = mid + m ∧ r0 = mid) ∨ (m ≤ mid ∧ s0 = a ∧ r0 = m) := by
    by_cases h : mid < m
    · exact ⟨mid + m - b, mid, .inl ⟨h, by omega, rfl⟩⟩
    · exact ⟨a, m, .inr ⟨by omega, rfl, rfl⟩⟩
  have HL : Hid (P.length = a ∧ (P ++ (X ++ (Y ++ S))).length = N ∧ Asc X ∧ Asc Y ∧ a + X.length = m ∧ m + Y.length = b) := hid ⟨ha, hN, hX, hY, hm, hb⟩
  have HM := hid hmid
  have HC := hid hcase
  have H := hid h
  have eb0 : ((m : Int) - (a : Int) == 1) = false := by simp; omega
  have eb1 : ((b : Int) - (m : Int) == 1) = false := by simp; omega
  have e0 : ¬ (m : Int) - (a : Int) = 1 := by omega
  have e1 : ¬ (b : Int) - (m : Int) = 1 := by omega
  have emid : ((a : Int) + (b : Int)) / 2 = (mid : Int) := by omega
  obtain ⟨n, hn⟩ : ∃ n, n = mid + m := ⟨_, rfl⟩
  have en : (mid : Int) + (m : Int) = (n : Int) := by omega
  obtain ⟨p, hp⟩ : ∃ p, n = p + 1 := ⟨n - 1, by omega⟩
  have ep : (n : Int) - 1 = (p : Int) := by omega
  have HNP : Hid (n = mid + m ∧ n = p + 1) := hid ⟨hn, hp⟩
  have hmid0 : (0 : Int) ≤ (mid : Int) := Int.natCast_nonneg _
  have hn0 : (0 : Int) ≤ (n : Int) := Int.natCast_nonneg _
  have hp0 : (0 : Int) ≤ (p : Int) := Int.natCast_nonneg _
  have hmN : mid ≤ N := by omega
  have hnN : n ≤ 2 * N := by omega
  have hr1 : s0 ≤ r0 := by omega
  have hr2 : r0 ≤ N := by omega
  clear h hN ha hb hX hY hm hmid hcase hn hp
  go_enter Tryd.func80, Tryd.ntmps80
  go_upto_if 140 with (fail)
  go_cut [20, 21] (fun s20 s21 wx => s20 = .int .i64 (s0 : Int) ∧ s21 = .int .i64 (r0 : Int) ∧ w = wx)
  case first =>
    as_aux_lemma =>
      rcases HC.out with ⟨k1, k2, k3⟩ | ⟨k1, k2, k3⟩
      · have k1I : (mid : Int) < (m : Int) := by omega
        have k2I : (n : Int) - (b : Int) = (s0 : Int) := by have := HNP.out; omega
        have k2' := hid k2
        have k3' := hid k3
        clear k2 k3
        go_wp2
        go_meet
        exact ⟨rfl, by rw [k3'.out], rfl⟩
      · have k1I : ¬ (mid : Int) < (m : Int) := by omega
        have k2' := hid k2
        have k3' := hid k3
        clear k2 k3
        go_wp2
        go_meet
        exact ⟨by rw [k2'.out], by rw [k3'.out], rfl⟩
  case rest =>
    as_aux_lemma =>
      obtain ⟨rfl, rfl, rfl⟩ := hcut
      go_wp2
      go_loopg [20, 21] (r0 - s0 + 1) (fun k t10 t11 wr => ∃ (i j : Nat), s0 ≤ i ∧ i ≤ j ∧ j ≤ r0 ∧ j - i < k ∧ t10 = .int .i64 (i : Int) ∧ t11 = .int .i64 (j : Int) ∧
        Hid ((i = s0 ∨ ∃ x y, X[i - 1 - a]? = some x ∧ Y[mid + m - i - m]? = some y ∧ x.1 ≤ y.1 ∧ s0 < i) ∧ (j = r0 ∨ ∃ x y, X[j - a]? = some x ∧ Y[mid + m - 1 - j - m]? = some y ∧ y.1 < x.1 ∧ j < r0)) ∧
        Hid (Held w0 wr (itmT (.slice ao N cap) (P ++ (X ++ (Y ++ S))) :: Rs)))
      case atStart => exact ⟨s0, r0, by omega, by omega, by omega, by omega, rfl, rfl, hid ⟨.inl rfl, .inl rfl⟩, H⟩
      case round =>
        as_aux_lemma =>
          obtain ⟨i, j, hmi, hij, hjb, hk, rfl, rfl, HE, HH⟩ := hrel
          have h3 : (0 : Int) ≤ (i : Int) := Int.natCast_nonneg _
          have h4 : (0 : Int) ≤ (j : Int) := Int.natCast_nonneg _
          by_cases hlt : i < j
          · have hltI : (i : Int) < (j : Int) := by omega
            obtain ⟨q, hq⟩ : ∃ q, q = (i + j) / 2 := ⟨_, rfl⟩
            have hqI : ((i : Int) + (j : Int)) / 2 = (q : Int) := by omega
            have hq1 : i ≤ q := by omega
            have hq2 : q < j := by omega
            have hq0 : (0 : Int) ≤ (q : Int) := Int.natCast_nonneg _
            clear hq
            have hnum : a ≤ q ∧ q < m ∧ q ≤ p ∧ m ≤ p - q ∧ p - q < b := by
              have g1 := HC.out
              have g2 := HM.out
              have g3 := HNP.out
              clear HE
              omega
            obtain ⟨n1, n2, n3, n4, n5⟩ := hnum
            obtain ⟨q2, hq2'⟩ : ∃ q2, q2 = p - q := ⟨_, rfl⟩
            have hq2I : (p : Int) - (q : Int) = (q2 : Int) := by omega
            have hq20 : (0 : Int) ≤ (q2 : Int) := Int.natCast_nonneg _
            have n4' : m ≤ q2 := by omega
            have n5' : q2 < b := by omega
            have hqN : q < N := by omega
            have hq2N : q2 < N := by omega
            have hw2 : IntKind.i64.wrap (q2 : Int) = (q2 : Int) := wrap_nat q2 (by omega)
            have HQ2 := hid hq2'
            clear hq2' n3 n4 n5
            obtain ⟨x, hx⟩ : ∃ x, X[q - a]? = some x := ⟨X[q - a]'(by have := HL.out; omega), List.getElem?_eq_getElem _⟩
            obtain ⟨y, hy⟩ : ∃ y, Y[q2 - m]? = some y := ⟨Y[q2 - m]'(by have := HL.out; omega), List.getElem?_eq_getElem _⟩
            have HX := hid hx
            have HY := hid hy
            obtain ⟨l1, _, _, _, l5, l6⟩ := HL.out
            have hxg : (P ++ (X ++ (Y ++ S)))[q]? = some x := by
              rw [List.getElem?_append_right (by omega), l1, List.getElem?_append_left (by omega)]; exact hx
            have hyg : (P ++ (X ++ (Y ++ S)))[q2]? = some y := by
              rw [List.getElem?_append_right (by omega), l1, List.getElem?_append_right (by omega), List.getElem?_append_left (by omega), show q2 - a - X.length = q2 - m by omega]; exact hy
            obtain ⟨g, off, rfl, c1, c2, c3, c4, hf, _⟩ := HH.out.swap2 hxg hyg
            have hcmp : decide (cmpI (y.1 : Int) (x.1 : Int) < 0) = decide (y.1 < x.1) := cmpI_lt _ _
            clear hx hy hxg hyg l1 l5 l6
            go_wp2
            go_still_tail 11, (by kernel_rfl)
            change wpList _ _ _ _ _ wr.drew
            have HH3 := hid HH.out.drew
            clear c1 c2 c3 c4 hf HH
            generalize wr.drew = w2 at HH3 ⊢
            go_wp2_with fail
            refine (cmp_any y x _).mono ?_
            rintro e w3 ⟨rfl, hm⟩
            have HH4 := hid (HH3.out.same hm)
            clear hm HH3
            have hidx : mid + m - (q + 1) - m = q2 - m ∧ mid + m - 1 - q - m = q2 - m := by
              have := HNP.out; have := HQ2.out; clear HE; omega
            have HIX := hid hidx
            clear hidx
            by_cases hyx : y.1 < x.1
            · have hd : decide (y.1 < x.1) = true := by simp [hyx]
              rw [hd] at hcmp
              go_wp2
              go_roundg (gk - 1)
              case measure => omega
              case rel =>
                refine ⟨i, q, by omega, by omega, by omega, by omega, rfl, rfl, hid ⟨HE.out.1, .inr ⟨x, y, HX.out, ?_, hyx, by omega⟩⟩, HH4⟩
                rw [HIX.out.2]; exact HY.out
            · have hd : decide (y.1 < x.1) = false := by simp [hyx]
              rw [hd] at hcmp
              go_wp2
              go_roundg (gk - 1)
              case measure => omega
              case rel =>
                refine ⟨q + 1, j, by omega, by omega, by omega, by omega, by go_num, rfl, hid ⟨.inr ⟨x, y, ?_, ?_, by omega, by omega⟩, HE.out.2⟩, HH4⟩
                · rw [show q + 1 - 1 - a = q - a by omega]; exact HX.out
                · rw [HIX.out.1]; exact HY.out
          · have hltI : ¬ (i : Int) < (j : Int) := by omega
            obtain rfl : j = i := by omega
            obtain ⟨e, he⟩ : ∃ e, e + j = mid + m := ⟨mid + m - j, by have := HC.out; clear HE; omega⟩
            have heI : (n : Int) - (j : Int) = (e : Int) := by have := HNP.out; clear HE; omega
            have he0 : (0 : Int) ≤ (e : Int) := Int.natCast_nonneg _
            obtain ⟨X1, X2, Y1, Y2, g1, g2, g3, g4, g5, g6⟩ := sym_parts a m b mid s0 r0 j e X Y HL.out.2.2.2.2.1 HL.out.2.2.2.2.2 HM.out HL.out.2.2.1 HL.out.2.2.2.1 hmi hjb HC.out he HE.out.1 HE.out.2
            have HG : Hid (X = X1 ++ X2 ∧ Y = Y1 ++ Y2 ∧ a + X1.length = j ∧ m + Y1.length = e ∧ (∀ x ∈ X1, ∀ y ∈ Y2, x.1 ≤ y.1) ∧ (∀ y ∈ Y1, ∀ x ∈ X2, y.1 < x.1)) := hid ⟨g1, g2, g3, g4, g5, g6⟩
            have HEM := hid he
            clear g1 g2 g3 g4 g5 g6 HE he
            have HV : Hid (P ++ (X ++ (Y ++ S)) = (P ++ X1) ++ (X2 ++ (Y1 ++ (Y2 ++ S)))) := by rw [HG.out.1, HG.out.2.1]; exact hid (by simp)
            have hh := HH.out
            rw [HV.out] at hh
            have H1 := hid hh
            clear hh HH
            go_upto_region 39 with (fail)
            go_cut [185] (fun s wx => s = .bool (decide (j < m ∧ m < e)) ∧ wr = wx)
            case first =>
              as_aux_lemma =>
                by_cases c1 : j < m
                · have c1I : (j : Int) < (m : Int) := by omega
                  by_cases c2 : m < e
                  · have c2I : (m : Int) < (e : Int) := by omega
                    go_wp2
                    go_meet
                    exact ⟨by simp [c1, c2], rfl⟩
                  · have c2I : ¬ (m : Int) < (e : Int) := by omega
                    go_wp2
                    go_meet
                    exact ⟨by simp [c2], rfl⟩
                · have c1I : ¬ (j : Int) < (m : Int) := by omega
                  go_wp2
                  go_meet
                  exact ⟨by simp [c1], rfl⟩
            case rest =>
              as_aux_lemma =>
                obtain ⟨rfl, rfl⟩ := hcut
                go_step
                go_cut [] (fun wx => Hid (Held w0 wx (itmT (.slice ao N cap) ((P ++ X1) ++ (Y1 ++ (X2 ++ (Y2 ++ S)))) :: Rs)))
                case first =>
                  as_aux_lemma =>
                    by_cases hc : j < m ∧ m < e
                    · have hd : decide (j < m ∧ m < e) = true := by simp [hc]
                      have hnum : (P ++ X1).length = j ∧ (P ++ X1 ++ X2).length = m ∧ (P ++ X1 ++ (X2 ++ Y1)).length = e ∧ 0 < X2.length ∧ 0 < Y1.length ∧ (P ++ X1 ++ (X2 ++ (Y1 ++ (Y2 ++ S)))).length = N := by
                        have q1 := HG.out.1
                        have q2 := HG.out.2.1
                        have q3 := HG.out.2.2.1
                        have q4 := HG.out.2.2.2.1
                        obtain ⟨q5, q6, _, _, q7, q8⟩ := HL.out
                        rw [HV.out] at q6
                        rw [q1, List.length_append] at q7
                        rw [q2, List.length_append] at q8
                        simp only [List.length_append] at q6 ⊢
                        omega
                      have HR := hid (rotate_any j m e N (P ++ X1) X2 Y1 (Y2 ++ S) (.slice ao N cap) (.func (.func 73) #[] #[]) w0 wr Rs H1.out hnum.2.2.2.2.2 hN2 hnum.1 hnum.2.1 hnum.2.2.1 hnum.2.2.2.1 hnum.2.2.2.2.1)
                      clear hnum
                      rw [hd]
                      clear hd
                      go_wp2_with fail
                      refine HR.out.mono ?_
                      rintro e2 w5 ⟨rfl, hh⟩
                      have HH5 := hid hh
                      clear hh
                      go_wp2
                      go_meet
                      exact HH5
                    · have hd : decide (j < m ∧ m < e) = false := by simp only [decide_eq_false_iff_not]; exact hc
                      have HE2 : Hid ((P ++ X1) ++ (X2 ++ (Y1 ++ (Y2 ++ S))) = (P ++ X1) ++ (Y1 ++ (X2 ++ (Y2 ++ S)))) := by
                        have q1 := HG.out.1
                        have q2 := HG.out.2.1
                        have q3 := HG.out.2.2.1
                        have q4 := HG.out.2.2.2.1
                        obtain ⟨q5, q6, _, _, q7, q8⟩ := HL.out
                        rw [q1, List.length_append] at q7
                        rw [q2, List.length_append] at q8
                        rcases Nat.lt_or_ge j m with c1 | c1
                        · have : Y1 = [] := List.eq_nil_of_length_eq_zero (by omega)
                          rw [this]; exact hid rfl
                        · have : X2 = [] := List.eq_nil_of_length_eq_zero (by omega)
                          rw [this]; exact hid rfl
                      rw [hd]
                      clear hd
                      go_wp2
                      go_meet
                      rw [← HE2.out]
                      exact H1
                case rest =>
                  as_aux_lemma =>
                    have H2 := hid hcut.out
                    clear hcut H1
                    go_upto_region 41 with (fail)
                    go_cut [199] (fun s wx => s = .bool (decide (a < j ∧ j < mid)) ∧ wc = wx)
                    case first =>
                      as_aux_lemma =>
                        by_cases c1 : a < j
                        · have c1I : (a : Int) < (j : Int) := by omega
                          by_cases c2 : j < mid
                          · have c2I : (j : Int) < (mid : Int) := by omega
                            go_wp2
                            go_meet
                            exact ⟨by simp [c1, c2], rfl⟩
                          · have c2I : ¬ (j : Int) < (mid : Int) := by omega
                            go_wp2
                            go_meet
                            exact ⟨by simp [c2], rfl⟩
                        · have c1I : ¬ (a : Int) < (j : Int) := by omega
                          go_wp2
                          go_meet
                          exact ⟨by simp [c1], rfl⟩
                    case rest =>
                      as_aux_lemma =>
                        obtain ⟨rfl, rfl⟩ := hcut
                        go_step
                        go_cut [] (fun wx => Hid (Held w0 wx (itmT (.slice ao N cap) ((P ++ mrg X1 Y1) ++ (X2 ++ (Y2 ++ S))) :: Rs)))
                        case first =>
                          as_aux_lemma =>
                            by_cases hc : a < j ∧ j < mid
                            · have hd : decide (a < j ∧ j < mid) = true := by simp [hc]
                              have hnum : a + X1.length = j ∧ j + Y1.length = mid ∧ (P ++ (X1 ++ (Y1 ++ (X2 ++ (Y2 ++ S))))).length = N ∧ mid - a ≤ D := by
                                have q1 := HG.out.1
                                have q2 := HG.out.2.1
                                have q3 := HG.out.2.2.1
                                have q4 := HG.out.2.2.2.1
                                have q9 := HEM.out
                                have q10 := HM.out
                                obtain ⟨q5, q6, _, _, q7, q8⟩ := HL.out
                                rw [HV.out] at q6
                                rw [q1, List.length_append] at q7
                                rw [q2, List.length_append] at q8
                                simp only [List.length_append] at q6 ⊢
                                omega
                              have hA1 := HL.out.2.2.1
                              have hA2 := HL.out.2.2.2.1
                              rw [HG.out.1] at hA1
                              rw [HG.out.2.1] at hA2
                              have HR := hid (IH a j mid N P X1 Y1 (X2 ++ (Y2 ++ S)) (.slice ao N cap) w0 wc Rs (by have h := H2.out; rw [List.append_assoc] at h; exact h) hnum.2.2.1 hN2 HL.out.1 hnum.1 hnum.2.1 hc.1 hc.2 ((asc_app _ _).1 hA1).1 ((asc_app _ _).1 hA2).1 hnum.2.2.2)
                              clear hnum hA1 hA2
                              rw [hd]
                              clear hd
                              go_wp2_with fail
                              refine HR.out.mono ?_
                              rintro e2 w5 ⟨rfl, hh⟩
                              rw [← List.append_assoc] at hh
                              have HH5 := hid hh
                              clear hh
                              go_wp2
                              go_meet
                              exact HH5
                            · have hd : decide (a < j ∧ j < mid) = false := by simp only [decide_eq_false_iff_not]; exact hc
                              have HE2 : Hid ((P ++ X1) ++ (Y1 ++ (X2 ++ (Y2 ++ S))) = (P ++ mrg X1 Y1) ++ (X2 ++ (Y2 ++ S))) := by
                                have q1 := HG.out.1
                                have q2 := HG.out.2.1
                                have q3 := HG.out.2.2.1
                                have q4 := HG.out.2.2.2.1
                                have q9 := HEM.out
                                have q11 := HC.out
                                have hA1 := HL.out.2.2.1
                                rw [q1] at hA1
                                rcases Nat.lt_or_ge a j with c1 | c1
                                · have : Y1 = [] := List.eq_nil_of_length_eq_zero (by omega)
                                  rw [this, mrg_nil_right X1 ((asc_app _ _).1 hA1).1]; exact hid rfl
                                · have : X1 = [] := List.eq_nil_of_length_eq_zero (by omega)
                                  rw [this, mrg_nil_left]; exact hid (by simp)
                              rw [hd]
                              clear hd
                              go_wp2
                              go_meet
                              rw [← HE2.out]
                              exact H2
                        case rest =>
                          as_aux_lemma =>
                            have H3 := hid hcut.out
                            clear hcut H2
                            go_upto_region 43 with (fail)
                            go_cut [213] (fun s wx => s = .bool (decide (mid < e ∧ e < b)) ∧ wc = wx)
                            case first =>
                              as_aux_lemma =>
                                by_cases c1 : mid < e
                                · have c1I : (mid : Int) < (e : Int) := by omega
                                  by_cases c2 : e < b
                                  · have c2I : (e : Int) < (b : Int) := by omega
                                    go_wp2
                                    go_meet
                                    exact ⟨by simp [c1, c2], rfl⟩
                                  · have c2I : ¬ (e : Int) < (b : Int) := by omega
                                    go_wp2
                                    go_meet
                                    exact ⟨by simp [c2], rfl⟩
                                · have c1I : ¬ (mid : Int) < (e : Int) := by omega
                                  go_wp2
                                  go_meet
                                  exact ⟨by simp [c1], rfl⟩
                            case rest =>
                              as_aux_lemma =>
                                obtain ⟨rfl, rfl⟩ := hcut
                                go_step
                                have HZ : Hid (mrg X1 Y1 ++ mrg X2 Y2 = mrg X Y) := by
                                  have hA1 := HL.out.2.2.1
                                  rw [HG.out.1] at hA1
                                  rw [HG.out.1, HG.out.2.1]
                                  exact hid (mrg_split X1 X2 Y1 Y2 hA1 HG.out.2.2.2.2.1 HG.out.2.2.2.2.2).symm
                                by_cases hc : mid < e ∧ e < b
                                · have hd : decide (mid < e ∧ e < b) = true := by simp [hc]
                                  have hnum : (P ++ mrg X1 Y1).length = mid ∧ mid + X2.length = e ∧ e + Y2.length = b ∧ ((P ++ mrg X1 Y1) ++ (X2 ++ (Y2 ++ S))).length = N ∧ b - mid ≤ D := by
                                    have q1 := HG.out.1
                                    have q2 := HG.out.2.1
                                    have q3 := HG.out.2.2.1
                                    have q4 := HG.out.2.2.2.1
                                    have q9 := HEM.out
                                    have q10 := HM.out
                                    obtain ⟨q5, q6, _, _, q7, q8⟩ := HL.out
                                    rw [HV.out] at q6
                                    rw [q1, List.length_append] at q7
                                    rw [q2, List.length_append] at q8
                                    simp only [List.length_append, mrg_length] at q6 ⊢
                                    omega
                                  have hA1 := HL.out.2.2.1
                                  have hA2 := HL.out.2.2.2.1
                                  rw [HG.out.1] at hA1
                                  rw [HG.out.2.1] at hA2
                                  have HR := hid (IH mid e b N (P ++ mrg X1 Y1) X2 Y2 S (.slice ao N cap) w0 wc Rs H3.out hnum.2.2.2.1 hN2 hnum.1 hnum.2.1 hnum.2.2.1 hc.1 hc.2 ((asc_app _ _).1 hA1).2.1 ((asc_app _ _).1 hA2).2.1 hnum.2.2.2.2)
                                  clear hnum hA1 hA2
                                  rw [hd]
                                  clear hd
                                  go_wp2_with fail
                                  refine HR.out.mono ?_
                                  rintro e2 w5 ⟨rfl, hh⟩
                                  rw [List.append_assoc, ← List.append_assoc (mrg X1 Y1), HZ.out] at hh
                                  have HH5 := hid hh
                                  clear hh
                                  go_wp2
                                  go_end0
                                  exact ⟨rfl, HH5⟩
                                · have hd : decide (mid < e ∧ e < b) = false := by simp only [decide_eq_false_iff_not]; exact hc
                                  have HE2 : Hid ((P ++ mrg X1 Y1) ++ (X2 ++ (Y2 ++ S)) = P ++ (mrg X Y ++ S)) := by
                                    rw [← HZ.out]
                                    have q1 := HG.out.1
                                    have q2 := HG.out.2.1
                                    have q3 := HG.out.2.2.1
                                    have q4 := HG.out.2.2.2.1
                                    have q9 := HEM.out
                                    have q11 := HC.out
                                    obtain ⟨q5, q6, q12, _, q7, q8⟩ := HL.out
                                    rw [q1] at q12
                                    rw [q1, List.length_append] at q7
                                    rw [q2, List.length_append] at q8
                                    rcases Nat.lt_or_ge mid e with c1 | c1
                                    · have : Y2 = [] := List.eq_nil_of_length_eq_zero (by omega)
                                      rw [this, mrg_nil_right X2 ((asc_app _ _).1 q12).2.1]; exact hid (by simp)
                                    · have : X2 = [] := List.eq_nil_of_length_eq_zero (by omega)
                                      rw [this, mrg_nil_left]; exact hid (by simp)
                                  rw [hd]
                                  clear hd
                                  go_wp2
                                  go_end0
                                  have h := H3.out
                                  rw [HE2.out] at h
                                  exact ⟨rfl, h⟩
end Go.Proofs.YthibpnkdhbkakaaDoor
