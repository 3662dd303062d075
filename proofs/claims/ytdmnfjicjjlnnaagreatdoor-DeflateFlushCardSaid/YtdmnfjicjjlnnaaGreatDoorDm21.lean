/-
  Two sorted ranges of items merged: one step, the halves by the same function.
-/
import Derived.Test.YtdmnfjicjjlnnaaGreatDoorDm20
import Derived.Deep.DeepCutAuto
import Derived.Test.YtdmnfjicjjlnnaaGreatDoorDm05
import Derived.Lib.AppendZerosOnto
namespace Go.Proofs.YtdmnfjicjjlnnaaGreatDoor
set_option maxRecDepth 5000
open Go.RowKit
def MergeOK (D : Nat) : Prop :=
  ∀ (a m b N : Nat) (P X Y S : List Itm) (v : Value) (w0 w : World) (Rs : List Thing), Held w0 w (itmT v (P ++ (X ++ (Y ++ S))) :: Rs) → (P ++ (X ++ (Y ++ S))).length = N → N ≤ 100000 → P.length = a → a + X.length = m → m + Y.length = b →
    a < m → m < b → Asc X → Asc Y → b - a ≤ D →
    Calls Tryz.prog 129 #[v, .int .i64 (a : Int), .int .i64 (m : Int), .int .i64 (b : Int), cmpV] w fun e w' => e = .returned (.tuple #[]) ∧ Held w0 w' (itmT v (P ++ (mrg X Y ++ S)) :: Rs)
set_option maxRecDepth 100000 in
set_option maxHeartbeats 3200000 in
theorem merge_step (D : Nat) (IH : MergeOK D) (a m b N : Nat) (P X Y S : List Itm) (v : Value) (w0 w : World) (Rs : List Thing) (h : Held w0 w (itmT v (P ++ (X ++ (Y ++ S))) :: Rs)) (hN : (P ++ (X ++ (Y ++ S))).length = N) (hN2 : N ≤ 100000)
    (ha : P.length = a) (hm : a + X.length = m) (hb : m + Y.length = b) (hX1 : a + 1 < m) (hY1 : m + 1 < b) (hX : Asc X) (hY : Asc Y) (hD : b - a ≤ D + 1) :
    Calls Tryz.prog 129 #[v, .int .i64 (a : Int), .int .i64 (m : Int), .int .i64 (b : Int), cmpV] w fun e w' => e = .returned (.tuple #[]) ∧ Held w0 w' (itmT v (P ++ (mrg X Y ++ S)) :: Rs) := by
  unfold cmpV
  have h0 : (0 : Int) ≤ (a : Int) := Int.natCast_nonneg _
  have h1 : (0 : Int) ≤ (b : Int) := Int.natCast_nonneg _
  have h2 : (0 : Int) ≤ (m : Int) := Int.natCast_nonneg _
  have hbN : b ≤ N := by simp at hN; omega
  obtain ⟨ao, cap, rfl, hc1, hc2⟩ := itm_form h
  rw [hN] at hc1 h ⊢
  obtain ⟨mid, hmid⟩ : ∃ mid, mid = (a + b) / 2 := ⟨_, rfl⟩
  obtain ⟨s0, r0, hcase⟩ : ∃ s0 r0, (mid < m ∧ s0 + b = mid + m ∧ r0 = mid) ∨ (m ≤ mid ∧ s0 = a ∧ r0 = m) := by
    by_cases h : mid < m
    · exact ⟨mid + m - b, mid, .inl ⟨h, by omega, rfl⟩⟩
    · exact ⟨a, m, .inr ⟨by omega, rfl, rfl⟩⟩
  have HL : Hid (P.length = a ∧ (P ++ (X ++ (Y ++ S))).length = N ∧ Asc X ∧ Asc Y ∧ a + X.length = m ∧ m + Y.length = b) := hid ⟨ha, hN, hX, hY, hm, hb⟩
  have HM := hid hmid
  have HC := hid hcase
  have H := hid h
  have eb0 : ((m : Int) - (a : Int) == 1) = false := by simp; omega
  have eb1 : ((b : Int) - (m : Int) == 1) = false := by simp; omega
  have e0 : ¬ (m : Int) - (a : Int) = 1 := by omega
  have e1 : ¬ (b : Int) - (m : Int) = 1 := by omega
  have emid : ((a : Int) + (b : Int)) / 2 = (mid : Int) := by omega
  obtain ⟨n, hn⟩ : ∃ n, n = mid + m := ⟨_, rfl⟩
  have en : (mid : Int) + (m : Int) = (n : Int) := by omega
  obtain ⟨p, hp⟩ : ∃ p, n = p + 1 := ⟨n - 1, by omega⟩
  have ep : (n : Int) - 1 = (p : Int) := by omega
  have HNP : Hid (n = mid + m ∧ n = p + 1) := hid ⟨hn, hp⟩
  have hmid0 : (0 : Int) ≤ (mid : Int) := Int.natCast_nonneg _
  have hn0 : (0 : Int) ≤ (n : Int) := Int.natCast_nonneg _
  have hp0 : (0 : Int) ≤ (p : Int) := Int.natCast_nonneg _
  have hmN : mid ≤ N := by omega
  have hnN : n ≤ 2 * N := by omega
  have hr1 : s0 ≤ r0 := by omega
  have hr2 : r0 ≤ N := by omega
  clear h hN ha hb hX hY hm hmid hcase hn hp
  go_enter Tryz.func129, Tryz.ntmps129
  go_upto_if 140 with (fail)
  go_cut [20, 21] (fun s20 s21 wx => s20 = .int .i64 (s0 : Int) ∧ s21 = .int .i64 (r0 : Int) ∧ w = wx)
  case first =>
    as_aux_lemma =>
      rcases HC.out with ⟨k1, k2, k3⟩ | ⟨k1, k2, k3⟩
      · have k1I : (mid : Int) < (m : Int) := by omega
        have k2I : (n : Int) - (b : Int) = (s0 : Int) := by have := HNP.out; omega
        have k2' := hid k2
        have k3' := hid k3
        clear k2 k3
        go_wp2
        go_meet
        exact ⟨rfl, by rw [k3'.out], rfl⟩
      · have k1I : ¬ (mid : Int) < (m : Int) := by omega
        have k2' := hid k2
        have k3' := hid k3
        clear k2 k3
        go_wp2
        go_meet
        exact ⟨by rw [k2'.out], by rw [k3'.out], rfl⟩
  case rest =>
    as_aux_lemma =>
      obtain ⟨rfl, rfl, rfl⟩ := hcut
      go_wp2
      go_loopg [20, 21] (r0 - s0 + 1) (fun k t10 t11 wr => ∃ (i j : Nat), s0 ≤ i ∧ i ≤ j ∧ j ≤ r0 ∧ j - i < k ∧ t10 = .int .i64 (i : Int) ∧ t11 = .int .i64 (j : Int) ∧
        Hid ((i = s0 ∨ ∃ x y, X[i - 1 - a]? = some x ∧ Y[mid + m - i - m]? = some y ∧ x.1 ≤ y.1 ∧ s0 < i) ∧ (j = r0 ∨ ∃ x y, X[j - a]? = some x ∧ Y[mid + m - 1 - j - m]? = some y ∧ y.1 < x.1 ∧ j < r0)) ∧
        Hid (Held w0 wr (itmT (.slice ao N cap) (P ++ (X ++ (Y ++ S))) :: Rs)))
      case atStart => exact ⟨s0, r0, by omega, by omega, by omega, by omega, rfl, rfl, hid ⟨.inl rfl, .inl rfl⟩, H⟩
      case round =>
        as_aux_lemma =>
          obtain ⟨i, j, hmi, hij, hjb, hk, rfl, rfl, HE, HH⟩ := hrel
          have h3 : (0 : Int) ≤ (i : Int) := Int.natCast_nonneg _
          have h4 : (0 : Int) ≤ (j : Int) := Int.natCast_nonneg _
          by_cases hlt : i < j
          · have hltI : (i : Int) < (j : Int) := by omega
            obtain ⟨q, hq⟩ : ∃ q, q = (i + j) / 2 := ⟨_, rfl⟩
            have hqI : ((i : Int) + (j : Int)) / 2 = (q : Int) := by omega
            have hq1 : i ≤ q := by omega
            have hq2 : q < j := by omega
            have hq0 : (0 : Int) ≤ (q : Int) := Int.natCast_nonneg _
            clear hq
            have hnum : a ≤ q ∧ q < m ∧ q ≤ p ∧ m ≤ p - q ∧ p - q < b := by
              have g1 := HC.out
              have g2 := HM.out
              have g3 := HNP.out
              clear HE
              omega
            obtain ⟨n1, n2, n3, n4, n5⟩ := hnum
            obtain ⟨q2, hq2'⟩ : ∃ q2, q2 = p - q := ⟨_, rfl⟩
            have hq2I : (p : Int) - (q : Int) = (q2 : Int) := by omega
            have hq20 : (0 : Int) ≤ (q2 : Int) := Int.natCast_nonneg _
            have n4' : m ≤ q2 := by omega
            have n5' : q2 < b := by omega
            have hqN : q < N := by omega
            have hq2N : q2 < N := by omega
            have hw2 : IntKind.i64.wrap (q2 : Int) = (q2 : Int) := wrap_nat q2 (by omega)
            have HQ2 := hid hq2'
            clear hq2' n3 n4 n5
            obtain ⟨x, hx⟩ : ∃ x, X[q - a]? = some x := ⟨X[q - a]'(by have := HL.out; omega), List.getElem?_eq_getElem _⟩
            obtain ⟨y, hy⟩ : ∃ y, Y[q2 - m]? = some y := ⟨Y[q2 - m]'(by have := HL.out; omega), List.getElem?_eq_getElem _⟩
            have HX := hid hx
            have HY := hid hy
            obtain ⟨l1, _, _, _, l5, l6⟩ := HL.out
            have hxg : (P ++ (X ++ (Y ++ S)))[q]? = some x := by
              rw [List.getElem?_append_right (by omega), l1, List.getElem?_append_left (by omega)]; exact hx
            have hyg : (P ++ (X ++ (Y ++ S)))[q2]? = some y := by
              rw [List.getElem?_append_right (by omega), l1, List.getElem?_append_right (by omega), List.getElem?_append_left (by omega), show q2 - a - X.length = q2 - m by omega]; exact hy
            obtain ⟨g, off, rfl, c1, c2, c3, c4, hf, _⟩ := HH.out.swap2 hxg hyg
            have hcmp : decide (cmpI (y.1 : Int) (x.1 : Int) < 0) = decide (y.1 < x.1) := cmpI_lt _ _
            clear hx hy hxg hyg l1 l5 l6
            go_wp2
            go_still_tail 11, (by kernel_rfl)
            change wpList _ _ _ _ _ wr.drew
            have HH3 := hid HH.out.drew
            clear c1 c2 c3 c4 hf HH
            generalize wr.drew = w2 at HH3 ⊢
            go_wp2_with fail
            refine (cmp_any y x _).mono ?_
            rintro e w3 ⟨rfl, hm⟩
            have HH4 := hid (HH3.out.same hm)
            clear hm HH3
            have hidx : mid + m - (q + 1) - m = q2 - m ∧ mid + m - 1 - q - m = q2 - m := by
              have := HNP.out; have := HQ2.out; clear HE; omega
            have HIX := hid hidx
            clear hidx
            by_cases hyx : y.1 < x.1
            · have hd : decide (y.1 < x.1) = true := by simp [hyx]
              rw [hd] at hcmp
              go_wp2
              go_roundg (gk - 1)
              case measure => omega
              case rel =>
                refine ⟨i, q, by omega, by omega, by omega, by omega, rfl, rfl, hid ⟨HE.out.1, .inr ⟨x, y, HX.out, ?_, hyx, by omega⟩⟩, HH4⟩
                rw [HIX.out.2]; exact HY.out
            · have hd : decide (y.1 < x.1) = false := by simp [hyx]
              rw [hd] at hcmp
              go_wp2
              go_roundg (gk - 1)
              case measure => omega
              case rel =>
                refine ⟨q + 1, j, by omega, by omega, by omega, by omega, by go_num, rfl, hid ⟨.inr ⟨x, y, ?_, ?_, by omega, by omega⟩, HE.out.2⟩, HH4⟩
                · rw [show q + 1 - 1 - a = q - a by omega]; exact HX.out
                · rw [HIX.out.1]; exact HY.out
          · have hltI : ¬ (i : Int) < (j : Int) := by omega
            obtain rfl : j = i := by omega
            obtain ⟨e, he⟩ : ∃ e, e + j = mid + m := ⟨mid + m - j, by have := HC.out; clear HE; omega⟩
            have heI : (n : Int) - (j : Int) = (e : Int) := by have := HNP.out; clear HE; omega
            have he0 : (0 : Int) ≤ (e : Int) := Int.natCast_nonneg _
            obtain ⟨X1, X2, Y1, Y2, g1, g2, g3, g4, g5, g6⟩ := sym_parts a m b mid s0 r0 j e X Y HL.out.2.2.2.2.1 HL.out.2.2.2.2.2 HM.out HL.out.2.2.1 HL.out.2.2.2.1 hmi hjb HC.out he HE.out.1 HE.out.2
            have HG : Hid (X = X1 ++ X2 ∧ Y = Y1 ++ Y2 ∧ a + X1.length = j ∧ m + Y1.length = e ∧ (∀ x ∈ X1, ∀ y ∈ Y2, x.1 ≤ y.1) ∧ (∀ y ∈ Y1, ∀ x ∈ X2, y.1 < x.1)) := hid ⟨g1, g2, g3, g4, g5, g6⟩
            have HEM := hid he
            clear g1 g2 g3 g4 g5 g6 HE he
            have HV : Hid (P ++ (X ++ (Y ++ S)) = (P ++ X1) ++ (X2 ++ (Y1 ++ (Y2 ++ S)))) := by rw [HG.out.1, HG.out.2.1]; exact hid (by simp)
            have hh := HH.out
            rw [HV.out] at hh
            have H1 := hid hh
            clear hh HH
            go_upto_region 39 with (fail)
            go_cut [185] (fun s wx => s = .bool (decide (j < m ∧ m < e)) ∧ wr = wx)
            case first =>
              as_aux_lemma =>
                by_cases c1 : j < m
                · have c1I : (j : Int) < (m : Int) := by omega
                  by_cases c2 : m < e
                  · have c2I : (m : Int) < (e : Int) := by omega
                    go_wp2
                    go_meet
                    exact ⟨by simp [c1, c2], rfl⟩
                  · have c2I : ¬ (m : Int) < (e : Int) := by omega
                    go_wp2
                    go_meet
                    exact ⟨by simp [c2], rfl⟩
                · have c1I : ¬ (j : Int) < (m : Int) := by omega
                  go_wp2
                  go_meet
                  exact ⟨by simp [c1], rfl⟩
            case rest =>
              as_aux_lemma =>
                obtain ⟨rfl, rfl⟩ := hcut
                go_step
                go_cut [] (fun wx => Hid (Held w0 wx (itmT (.slice ao N cap) ((P ++ X1) ++ (Y1 ++ (X2 ++ (Y2 ++ S)))) :: Rs)))
                case first =>
                  as_aux_lemma =>
                    by_cases hc : j < m ∧ m < e
                    · have hd : decide (j < m ∧ m < e) = true := by simp [hc]
                      have hnum : (P ++ X1).length = j ∧ (P ++ X1 ++ X2).length = m ∧ (P ++ X1 ++ (X2 ++ Y1)).length = e ∧ 0 < X2.length ∧ 0 < Y1.length ∧ (P ++ X1 ++ (X2 ++ (Y1 ++ (Y2 ++ S)))).length = N := by
                        have q1 := HG.out.1
                        have q2 := HG.out.2.1
                        have q3 := HG.out.2.2.1
                        have q4 := HG.out.2.2.2.1
                        obtain ⟨q5, q6, _, _, q7, q8⟩ := HL.out
                        rw [HV.out] at q6
                        rw [q1, List.length_append] at q7
                        rw [q2, List.length_append] at q8
                        simp only [List.length_append] at q6 ⊢
                        omega
                      have HR := hid (rotate_any j m e N (P ++ X1) X2 Y1 (Y2 ++ S) (.slice ao N cap) (.func (.func 122) #[] #[]) w0 wr Rs H1.out hnum.2.2.2.2.2 hN2 hnum.1 hnum.2.1 hnum.2.2.1 hnum.2.2.2.1 hnum.2.2.2.2.1)
                      clear hnum
                      rw [hd]
                      clear hd
                      go_wp2_with fail
                      refine HR.out.mono ?_
                      rintro e2 w5 ⟨rfl, hh⟩
                      have HH5 := hid hh
                      clear hh
                      go_wp2
                      go_meet
                      exact HH5
                    · have hd : decide (j < m ∧ m < e) = false := by simp only [decide_eq_false_iff_not]; exact hc
                      have HE2 : Hid ((P ++ X1) ++ (X2 ++ (Y1 ++ (Y2 ++ S))) = (P ++ X1) ++ (Y1 ++ (X2 ++ (Y2 ++ S)))) := by
                        have q1 := HG.out.1
                        have q2 := HG.out.2.1
                        have q3 := HG.out.2.2.1
                        have q4 := HG.out.2.2.2.1
                        obtain ⟨q5, q6, _, _, q7, q8⟩ := HL.out
                        rw [q1, List.length_append] at q7
                        rw [q2, List.length_append] at q8
                        rcases Nat.lt_or_ge j m with c1 | c1
                        · have : Y1 = [] := List.eq_nil_of_length_eq_zero (by omega)
                          rw [this]; exact hid rfl
                        · have : X2 = [] := List.eq_nil_of_length_eq_zero (by omega)
                          rw [this]; exact hid rfl
                      rw [hd]
                      clear hd
                      go_wp2
                      go_meet
                      rw [← HE2.out]
                      exact H1
                case rest =>
                  as_aux_lemma =>
                    have H2 := hid hcut.out
                    clear hcut H1
                    go_upto_region 41 with (fail)
                    go_cut [199] (fun s wx => s = .bool (decide (a < j ∧ j < mid)) ∧ wc = wx)
                    case first =>
                      as_aux_lemma =>
                        by_cases c1 : a < j
                        · have c1I : (a : Int) < (j : Int) := by omega
                          by_cases c2 : j < mid
                          · have c2I : (j : Int) < (mid : Int) := by omega
                            go_wp2
                            go_meet
                            exact ⟨by simp [c1, c2], rfl⟩
                          · have c2I : ¬ (j : Int) < (mid : Int) := by omega
                            go_wp2
                            go_meet
                            exact ⟨by simp [c2], rfl⟩
                        · have c1I : ¬ (a : Int) < (j : Int) := by omega
                          go_wp2
                          go_meet
                          exact ⟨by simp [c1], rfl⟩
                    case rest =>
                      as_aux_lemma =>
                        obtain ⟨rfl, rfl⟩ := hcut
                        go_step
                        go_cut [] (fun wx => Hid (Held w0 wx (itmT (.slice ao N cap) ((P ++ mrg X1 Y1) ++ (X2 ++ (Y2 ++ S))) :: Rs)))
                        case first =>
                          as_aux_lemma =>
                            by_cases hc : a < j ∧ j < mid
                            · have hd : decide (a < j ∧ j < mid) = true := by simp [hc]
                              have hnum : a + X1.length = j ∧ j + Y1.length = mid ∧ (P ++ (X1 ++ (Y1 ++ (X2 ++ (Y2 ++ S))))).length = N ∧ mid - a ≤ D := by
                                have q1 := HG.out.1
                                have q2 := HG.out.2.1
                                have q3 := HG.out.2.2.1
                                have q4 := HG.out.2.2.2.1
                                have q9 := HEM.out
                                have q10 := HM.out
                                obtain ⟨q5, q6, _, _, q7, q8⟩ := HL.out
                                rw [HV.out] at q6
                                rw [q1, List.length_append] at q7
                                rw [q2, List.length_append] at q8
                                simp only [List.length_append] at q6 ⊢
                                omega
                              have hA1 := HL.out.2.2.1
                              have hA2 := HL.out.2.2.2.1
                              rw [HG.out.1] at hA1
                              rw [HG.out.2.1] at hA2
                              have HR := hid (IH a j mid N P X1 Y1 (X2 ++ (Y2 ++ S)) (.slice ao N cap) w0 wc Rs (by have h := H2.out; rw [List.append_assoc] at h; exact h) hnum.2.2.1 hN2 HL.out.1 hnum.1 hnum.2.1 hc.1 hc.2 ((asc_app _ _).1 hA1).1 ((asc_app _ _).1 hA2).1 hnum.2.2.2)
                              clear hnum hA1 hA2
                              rw [hd]
                              clear hd
                              go_wp2_with fail
                              refine HR.out.mono ?_
                              rintro e2 w5 ⟨rfl, hh⟩
                              rw [← List.append_assoc] at hh
                              have HH5 := hid hh
                              clear hh
                              go_wp2
                              go_meet
                              exact HH5
                            · have hd : decide (a < j ∧ j < mid) = false := by simp only [decide_eq_false_iff_not]; exact hc
                              have HE2 : Hid ((P ++ X1) ++ (Y1 ++ (X2 ++ (Y2 ++ S))) = (P ++ mrg X1 Y1) ++ (X2 ++ (Y2 ++ S))) := by
                                have q1 := HG.out.1
                                have q2 := HG.out.2.1
                                have q3 := HG.out.2.2.1
                                have q4 := HG.out.2.2.2.1
                                have q9 := HEM.out
                                have q11 := HC.out
                                have hA1 := HL.out.2.2.1
                                rw [q1] at hA1
                                rcases Nat.lt_or_ge a j with c1 | c1
                                · have : Y1 = [] := List.eq_nil_of_length_eq_zero (by omega)
                                  rw [this, mrg_nil_right X1 ((asc_app _ _).1 hA1).1]; exact hid rfl
                                · have : X1 = [] := List.eq_nil_of_length_eq_zero (by omega)
                                  rw [this, mrg_nil_left]; exact hid (by simp)
                              rw [hd]
                              clear hd
                              go_wp2
                              go_meet
                              rw [← HE2.out]
                              exact H2
                        case rest =>
                          as_aux_lemma =>
                            have H3 := hid hcut.out
                            clear hcut H2
                            go_upto_region 43 with (fail)
                            go_cut [213] (fun s wx => s = .bool (decide (mid < e ∧ e < b)) ∧ wc = wx)
                            case first =>
                              as_aux_lemma =>
                                by_cases c1 : mid < e
                                · have c1I : (mid : Int) < (e : Int) := by omega
                                  by_cases c2 : e < b
                                  · have c2I : (e : Int) < (b : Int) := by omega
                                    go_wp2
                                    go_meet
                                    exact ⟨by simp [c1, c2], rfl⟩
                                  · have c2I : ¬ (e : Int) < (b : Int) := by omega
                                    go_wp2
                                    go_meet
                                    exact ⟨by simp [c2], rfl⟩
                                · have c1I : ¬ (mid : Int) < (e : Int) := by omega
                                  go_wp2
                                  go_meet
                                  exact ⟨by simp [c1], rfl⟩
                            case rest =>
                              as_aux_lemma =>
                                obtain ⟨rfl, rfl⟩ := hcut
                                go_step
                                have HZ : Hid (mrg X1 Y1 ++ mrg X2 Y2 = mrg X Y) := by
                                  have hA1 := HL.out.2.2.1
                                  rw [HG.out.1] at hA1
                                  rw [HG.out.1, HG.out.2.1]
                                  exact hid (mrg_split X1 X2 Y1 Y2 hA1 HG.out.2.2.2.2.1 HG.out.2.2.2.2.2).symm
                                by_cases hc : mid < e ∧ e < b
                                · have hd : decide (mid < e ∧ e < b) = true := by simp [hc]
                                  have hnum : (P ++ mrg X1 Y1).length = mid ∧ mid + X2.length = e ∧ e + Y2.length = b ∧ ((P ++ mrg X1 Y1) ++ (X2 ++ (Y2 ++ S))).length = N ∧ b - mid ≤ D := by
                                    have q1 := HG.out.1
                                    have q2 := HG.out.2.1
                                    have q3 := HG.out.2.2.1
                                    have q4 := HG.out.2.2.2.1
                                    have q9 := HEM.out
                                    have q10 := HM.out
                                    obtain ⟨q5, q6, _, _, q7, q8⟩ := HL.out
                                    rw [HV.out] at q6
                                    rw [q1, List.length_append] at q7
                                    rw [q2, List.length_append] at q8
                                    simp only [List.length_append, mrg_length] at q6 ⊢
                                    omega
                                  have hA1 := HL.out.2.2.1
                                  have hA2 := HL.out.2.2.2.1
                                  rw [HG.out.1] at hA1
                                  rw [HG.out.2.1] at hA2
                                  have HR := hid (IH mid e b N (P ++ mrg X1 Y1) X2 Y2 S (.slice ao N cap) w0 wc Rs H3.out hnum.2.2.2.1 hN2 hnum.1 hnum.2.1 hnum.2.2.1 hc.1 hc.2 ((asc_app _ _).1 hA1).2.1 ((asc_app _ _).1 hA2).2.1 hnum.2.2.2.2)
                                  clear hnum hA1 hA2
                                  rw [hd]
                                  clear hd
                                  go_wp2_with fail
                                  refine HR.out.mono ?_
                                  rintro e2 w5 ⟨rfl, hh⟩
                                  rw [List.append_assoc, ← List.append_assoc (mrg X1 Y1), HZ.out] at hh
                                  have HH5 := hid hh
                                  clear hh
                                  go_wp2
                                  go_end0
                                  exact ⟨rfl, HH5⟩
                                · have hd : decide (mid < e ∧ e < b) = false := by simp only [decide_eq_false_iff_not]; exact hc
                                  have HE2 : Hid ((P ++ mrg X1 Y1) ++ (X2 ++ (Y2 ++ S)) = P ++ (mrg X Y ++ S)) := by
                                    rw [← HZ.out]
                                    have q1 := HG.out.1
                                    have q2 := HG.out.2.1
                                    have q3 := HG.out.2.2.1
                                    have q4 := HG.out.2.2.2.1
                                    have q9 := HEM.out
                                    have q11 := HC.out
                                    obtain ⟨q5, q6, q12, _, q7, q8⟩ := HL.out
                                    rw [q1] at q12
                                    rw [q1, List.length_append] at q7
                                    rw [q2, List.length_append] at q8
                                    rcases Nat.lt_or_ge mid e with c1 | c1
                                    · have : Y2 = [] := List.eq_nil_of_length_eq_zero (by omega)
                                      rw [this, mrg_nil_right X2 ((asc_app _ _).1 q12).2.1]; exact hid (by simp)
                                    · have : X2 = [] := List.eq_nil_of_length_eq_zero (by omega)
                                      rw [this, mrg_nil_left]; exact hid (by simp)
                                  rw [hd]
                                  clear hd
                                  go_wp2
                                  go_end0
                                  have h := H3.out
                                  rw [HE2.out] at h
                                  exact ⟨rfl, h⟩
end Go.Proofs.YtdmnfjicjjlnnaaGreatDoor
/-
  Two sorted ranges of items merged, whatever their lengths.
-/
namespace Go.Proofs.YtdmnfjicjjlnnaaGreatDoor
set_option maxRecDepth 5000
open Go.RowKit
theorem merge_ok : ∀ D, MergeOK D
  | 0 => by
    intro a m b N P X Y S v w0 w Rs h hN hN2 ha hm hb h1 h2 hX hY hD
    exfalso; omega
  | D + 1 => by
    intro a m b N P X Y S v w0 w Rs h hN hN2 ha hm hb h1 h2 hX hY hD
    by_cases e1 : a + 1 = m
    · obtain ⟨x, rfl⟩ : ∃ x, X = [x] := List.length_eq_one_iff.1 (by omega)
      exact merge_left a m b N P Y S x v w0 w Rs h hN hN2 ha e1 hb hY
    · by_cases e2 : m + 1 = b
      · obtain ⟨y, rfl⟩ : ∃ y, Y = [y] := List.length_eq_one_iff.1 (by omega)
        exact merge_right a m b N P X S y v w0 w Rs h hN hN2 ha hm e2 hX (by omega)
      · exact merge_step D (merge_ok D) a m b N P X Y S v w0 w Rs h hN hN2 ha hm hb (by omega) (by omega) hX hY hD
end Go.Proofs.YtdmnfjicjjlnnaaGreatDoor
/-
  Items sorted by weight, those of one weight in the order in which they were.
-/
namespace Go.Proofs.YtdmnfjicjjlnnaaGreatDoor
set_option maxRecDepth 5000
open Go.RowKit
def sblk (Bs : List (List Itm)) : List Itm := (Bs.map ssort).flatten
theorem sblk_length : ∀ Bs : List (List Itm), (sblk Bs).length = Bs.flatten.length
  | [] => rfl
  | B :: Bs => by
    show (ssort B ++ sblk Bs).length = (B ++ Bs.flatten).length
    rw [List.length_append, List.length_append, ssort_length, sblk_length Bs]
theorem blocks_length (k : Nat) : ∀ Bs : List (List Itm), (∀ B ∈ Bs, B.length = k) → Bs.flatten.length = k * Bs.length
  | [], _ => by simp
  | B :: Bs, h => by
    show (B ++ Bs.flatten).length = _
    rw [List.length_append, blocks_length k Bs fun C hC => h C (List.mem_cons_of_mem _ hC), h B List.mem_cons_self, List.length_cons, Nat.mul_succ]; omega
theorem sblk_snoc (Bs : List (List Itm)) (B : List Itm) : sblk (Bs ++ [B]) = sblk Bs ++ ssort B := by simp [sblk]
theorem sblk_cons (Bs : List (List Itm)) (B : List Itm) : sblk (B :: Bs) = ssort B ++ sblk Bs := by simp [sblk]
set_option maxRecDepth 100000 in
set_option maxHeartbeats 1600000 in
theorem stable_any (n : Nat) (Z : List Itm) (v : Value) (w0 w : World) (Rs : List Thing) (h : Held w0 w (itmT v Z :: Rs)) (hn : Z.length = n) (hN2 : n ≤ 100000) :
    Calls Tryz.prog 126 #[v, .int .i64 (n : Int), cmpV] w fun e w' => e = .returned (.tuple #[]) ∧ Held w0 w' (itmT v (ssort Z) :: Rs) := by
  unfold cmpV
  have h0 : (0 : Int) ≤ (n : Int) := Int.natCast_nonneg _
  have HN := hid hn
  have H := hid h
  clear h hn
  go_enter Tryz.func126, Tryz.ntmps126
  go_wp2
  go_loopg [7, 8] (n + 2) (fun k t7 t8 wr => ∃ (a : Nat) (Bs : List (List Itm)) (R : List Itm), a ≤ n ∧ n - a < k ∧ t7 = .int .i64 (a : Int) ∧ t8 = .int .i64 ((a : Int) + 20) ∧
    Hid ((∀ B ∈ Bs, B.length = 20) ∧ Z = Bs.flatten ++ R ∧ Bs.flatten.length = a) ∧ Hid (Held w0 wr (itmT v (sblk Bs ++ R) :: Rs)))
  case atStart => exact ⟨0, [], Z, by omega, by omega, rfl, rfl, hid ⟨by simp, by simp, rfl⟩, H⟩
  case round =>
    obtain ⟨a, Bs, R, han, hk, rfl, rfl, HE, HH⟩ := hrel
    have h1 : (0 : Int) ≤ (a : Int) := Int.natCast_nonneg _
    by_cases hb : a + 20 ≤ n
    · have hbI : (a : Int) + 20 ≤ (n : Int) := by omega
      obtain ⟨q1, q2, q3⟩ := HE.out
      have hRl : a + R.length = n := by have := HN.out; rw [q2, List.length_append] at this; omega
      have hB : (R.take 20).length = 20 := by simp; omega
      have hh := HH.out
      rw [← List.take_append_drop 20 R] at hh
      have HR := hid (insertion_any a (a + 20) n (sblk Bs) (R.take 20) (R.drop 20) v w0 wr Rs hh (by rw [List.take_append_drop, List.length_append, sblk_length]; omega) hN2 (by rw [sblk_length]; exact q3) (by rw [List.length_append, sblk_length, hB]; omega))
      have HG : Hid ((∀ B ∈ Bs ++ [R.take 20], B.length = 20) ∧ Z = (Bs ++ [R.take 20]).flatten ++ R.drop 20 ∧ (Bs ++ [R.take 20]).flatten.length = a + 20) := by
        refine hid ⟨fun B hB2 => ?_, ?_, ?_⟩
        · rcases List.mem_append.1 hB2 with h | h
          · exact q1 B h
          · rw [List.mem_singleton.1 h]; exact hB
        · rw [q2]; simp
        · rw [List.flatten_append, List.length_append, q3]; simp; omega
      have e20 : ((a + 20 : Nat) : Int) = (a : Int) + 20 := by omega
      rw [e20] at HR
      clear hh q1 q2 q3 hRl hB e20
      go_wp2_with fail
      refine HR.out.mono ?_
      rintro e w1 ⟨rfl, hh⟩
      rw [← List.append_assoc, ← sblk_snoc] at hh
      have HH1 := hid hh
      clear hh
      go_wp2
      go_roundg (gk - 1)
      case measure => omega
      case rel => exact ⟨a + 20, Bs ++ [R.take 20], R.drop 20, by omega, by omega, by go_num, by go_num, HG, HH1⟩
    · have hbI : ¬ (a : Int) + 20 ≤ (n : Int) := by omega
      have hs : ∃ (k : Nat) (Bs2 : List (List Itm)) (T : List Itm), k = 20 ∧ Bs2 = Bs ∧ T = R := ⟨20, Bs, R, rfl, rfl, rfl⟩
      have HR := hid (insertion_any a n n (sblk Bs) R [] v w0 wr Rs (by have h := HH.out; simpa using h) (by
        obtain ⟨q1, q2, q3⟩ := HE.out
        have h := HN.out
        rw [q2] at h; simp [sblk_length] at h ⊢; omega) hN2 (by rw [sblk_length]; exact HE.out.2.2) (by
        obtain ⟨q1, q2, q3⟩ := HE.out
        have h := HN.out
        rw [q2, List.length_append] at h
        rw [List.length_append, sblk_length]; exact h))
      go_wp2_with fail
      refine HR.out.mono ?_
      rintro e w1 ⟨rfl, hh⟩
      rw [List.append_nil] at hh
      have HH1 := hid hh
      clear hh hs HR
      have HT : Hid (R.length < 20) := by
        obtain ⟨q1, q2, q3⟩ := HE.out
        have h := HN.out
        rw [q2, List.length_append] at h
        exact hid (by omega)
      go_wp2
      go_loopg [6] (n + 1) (fun k t6 wq => ∃ (z : Nat) (Bs : List (List Itm)) (T : List Itm), 20 ≤ z ∧ z ≤ 2 * n + 20 ∧ n - z < k ∧ t6 = .int .i64 (z : Int) ∧
        Hid ((∀ B ∈ Bs, B.length = z) ∧ Z = Bs.flatten ++ T ∧ T.length < z) ∧ Hid (Held w0 wq (itmT v (sblk Bs ++ ssort T) :: Rs)))
      case atStart => exact ⟨20, Bs, R, by omega, by omega, by omega, rfl, hid ⟨HE.out.1, HE.out.2.1, HT.out⟩, HH1⟩
      case round =>
        obtain ⟨z, Cs, T, hz20, hz2, hk2, rfl, HF, HJ⟩ := hrel
        obtain ⟨gx, rfl⟩ : ∃ g, g = gk := ⟨gk, rfl⟩
        have h2 : (0 : Int) ≤ (z : Int) := Int.natCast_nonneg _
        by_cases hzn : z < n
        · have hznI : (z : Int) < (n : Int) := by omega
          go_wp2
          go_loopg [7, 8] (n + 1) (fun k t7 t8 wq => ∃ (a : Nat) (Ds Es : List (List Itm)), a ≤ n ∧ n - a < k ∧ t7 = .int .i64 (a : Int) ∧ t8 = .int .i64 ((a : Int) + 2 * (z : Int)) ∧
            Hid ((∀ B ∈ Ds, B.length = 2 * z) ∧ (∀ B ∈ Es, B.length = z) ∧ Z = Ds.flatten ++ (Es.flatten ++ T) ∧ Ds.flatten.length = a) ∧ Hid (Held w0 wq (itmT v (sblk Ds ++ (sblk Es ++ ssort T)) :: Rs)))
          case atStart =>
            refine ⟨0, [], Cs, by omega, by omega, rfl, by go_num, hid ⟨by simp, HF.out.1, by simpa using HF.out.2.1, rfl⟩, ?_⟩
            exact HJ
          case round =>
            obtain ⟨c, Ds, Es, hcn, hk3, rfl, rfl, HG, HK⟩ := hrel
            obtain ⟨gy, rfl⟩ : ∃ g, g = gk := ⟨gk, rfl⟩
            have h3 : (0 : Int) ≤ (c : Int) := Int.natCast_nonneg _
            have hEl : Hid (c + (z * Es.length + T.length) = n) := by
              obtain ⟨q1, q2, q3, q4⟩ := HG.out
              have h := HN.out
              rw [q3, List.length_append, List.length_append, q4, blocks_length z Es q2] at h
              exact hid h
            by_cases hc : c + 2 * z ≤ n
            · have hcI : (c : Int) + 2 * (z : Int) ≤ (n : Int) := by omega
              obtain ⟨B1, B2, Fs, rfl⟩ : ∃ B1 B2 Fs, Es = B1 :: B2 :: Fs := by
                have h1 := hEl.out
                have h2 := HF.out.2.2
                match Es with
                | [] => exfalso; simp at h1; omega
                | [B] => exfalso; simp at h1; omega
                | B1 :: B2 :: Fs => exact ⟨B1, B2, Fs, rfl⟩
              obtain ⟨q1, q2, q3, q4⟩ := HG.out
              have b1 := q2 B1 (by simp)
              have b2 := q2 B2 (by simp)
              have hh := HK.out
              rw [sblk_cons, sblk_cons, List.append_assoc, List.append_assoc] at hh
              have HR := hid (merge_ok (2 * z) c (c + z) (c + 2 * z) n (sblk Ds) (ssort B1) (ssort B2) (sblk Fs ++ ssort T) v w0 wr Rs hh (by
                have h := HN.out
                rw [q3] at h
                simp only [List.length_append, sblk_length, ssort_length, List.flatten_cons] at h ⊢; omega) hN2 (by rw [sblk_length]; exact q4) (by rw [ssort_length, b1]) (by rw [ssort_length, b2]; omega) (by omega) (by omega) (ssort_asc B1) (ssort_asc B2) (by omega))
              have HG2 : Hid ((∀ B ∈ Ds ++ [B1 ++ B2], B.length = 2 * z) ∧ (∀ B ∈ Fs, B.length = z) ∧ Z = (Ds ++ [B1 ++ B2]).flatten ++ (Fs.flatten ++ T) ∧ (Ds ++ [B1 ++ B2]).flatten.length = c + 2 * z) := by
                refine hid ⟨fun B hB => ?_, fun B hB => q2 B (List.mem_cons_of_mem _ (List.mem_cons_of_mem _ hB)), by rw [q3]; simp, ?_⟩
                · rcases List.mem_append.1 hB with h | h
                  · exact q1 B h
                  · rw [List.mem_singleton.1 h, List.length_append]; omega
                · rw [List.flatten_append, List.length_append, q4]; simp; omega
              have e1 : ((c + z : Nat) : Int) = (c : Int) + (z : Int) := by omega
              have e2 : ((c + 2 * z : Nat) : Int) = (c : Int) + 2 * (z : Int) := by omega
              rw [e1, e2] at HR
              clear hh q1 q2 q3 q4 b1 b2 e1 e2
              go_wp2_with fail
              refine HR.out.mono ?_
              rintro e w3 ⟨rfl, hh⟩
              rw [← ssort_app, ← List.append_assoc, ← sblk_snoc] at hh
              have HH2 := hid hh
              clear hh
              go_wp2
              go_roundg (gy - 1)
              case measure => omega
              case rel => exact ⟨c + 2 * z, Ds ++ [B1 ++ B2], Fs, by omega, by omega, by go_num, by go_num, HG2, HH2⟩
            · have hcI : ¬ (c : Int) + 2 * (z : Int) ≤ (n : Int) := by omega
              obtain ⟨q1, q2, q3, q4⟩ := HG.out
              by_cases hcm : c + z < n
              · have hcmI : (c : Int) + (z : Int) < (n : Int) := by omega
                obtain ⟨B, rfl⟩ : ∃ B, Es = [B] := by
                  have h1 := hEl.out
                  have h2 := HF.out.2.2
                  match Es with
                  | [] => exfalso; simp at h1; omega
                  | [B] => exact ⟨B, rfl⟩
                  | B1 :: B2 :: Fs => exfalso; simp [Nat.mul_add] at h1; omega
                have b1 := q2 B (by simp)
                have hel := hEl.out
                simp at hel
                have hh := HK.out
                rw [sblk_cons, List.append_assoc] at hh
                have HR := hid (merge_ok n c (c + z) n n (sblk Ds) (ssort B) (ssort T) [] v w0 wr Rs (by rw [List.append_nil]; exact hh) (by
                  have h := HN.out
                  rw [q3] at h
                  simp only [List.length_append, sblk_length, ssort_length, List.flatten_cons, List.length_nil, List.flatten_nil] at h ⊢; omega) hN2 (by rw [sblk_length]; exact q4) (by rw [ssort_length, b1]) (by rw [ssort_length]; omega) (by omega) (by omega) (ssort_asc B) (ssort_asc T) (by omega))
                have HG2 : Hid ((∀ B ∈ Ds, B.length = z * 2) ∧ Z = Ds.flatten ++ (B ++ T) ∧ (B ++ T).length < z * 2) := by
                  refine hid ⟨fun B hB => by rw [q1 B hB]; omega, by rw [q3]; simp, ?_⟩
                  have := HF.out.2.2
                  rw [List.length_append]; omega
                have e1 : ((c + z : Nat) : Int) = (c : Int) + (z : Int) := by omega
                rw [e1] at HR
                clear hh q1 q2 q3 q4 b1 e1 hel
                go_wp2_with fail
                refine HR.out.mono ?_
                rintro e w3 ⟨rfl, hh⟩
                rw [← ssort_app, List.append_nil] at hh
                have HH2 := hid hh
                clear hh
                go_wp2
                go_roundg (gx - 1)
                case measure => omega
                case rel => exact ⟨z * 2, Ds, B ++ T, by omega, by omega, by omega, by go_num, HG2, HH2⟩
              · have hcmI : ¬ (c : Int) + (z : Int) < (n : Int) := by omega
                obtain ⟨T2, HT2⟩ : ∃ T2, Hid (Es.flatten ++ T = T2 ∧ sblk Es ++ ssort T = ssort T2 ∧ T2.length < z * 2) := by
                  have h1 := hEl.out
                  have h2 := HF.out.2.2
                  match Es with
                  | [] => exact ⟨T, hid ⟨by simp, by simp [sblk], by omega⟩⟩
                  | [B] =>
                    have b1 := q2 B (by simp)
                    simp at h1
                    obtain rfl : T = [] := List.eq_nil_of_length_eq_zero (by omega)
                    exact ⟨B, hid ⟨by simp, by rw [sblk_cons]; simp [sblk, ssort, mrg], by omega⟩⟩
                  | B1 :: B2 :: Fs => exfalso; simp [Nat.mul_add] at h1; omega
                have HG2 : Hid ((∀ B ∈ Ds, B.length = z * 2) ∧ Z = Ds.flatten ++ T2 ∧ T2.length < z * 2) := by
                  refine hid ⟨fun B hB => by rw [q1 B hB]; omega, by rw [q3, HT2.out.1], HT2.out.2.2⟩
                have hh := HK.out
                rw [HT2.out.2.1] at hh
                have HH2 := hid hh
                clear hh q1 q2 q3 q4
                go_wp2
                go_roundg (gx - 1)
                case measure => omega
                case rel => exact ⟨z * 2, Ds, T2, by omega, by omega, by omega, by go_num, HG2, HH2⟩
        · have hznI : ¬ (z : Int) < (n : Int) := by omega
          go_wp2
          go_end0
          refine ⟨rfl, ?_⟩
          have h := HJ.out
          have e : sblk Cs ++ ssort T = ssort Z := by
            obtain ⟨q1, q2, q3⟩ := HF.out
            have h2 := HN.out
            rw [q2, List.length_append, blocks_length z Cs q1] at h2
            rw [q2]
            match Cs with
            | [] => simp [sblk]
            | [B] =>
              obtain rfl : T = [] := List.eq_nil_of_length_eq_zero (by simp at h2; omega)
              simp [sblk, ssort, mrg]
            | B1 :: B2 :: Fs => exfalso; simp [Nat.mul_add] at h2; omega
          rw [e] at h
          exact h
end Go.Proofs.YtdmnfjicjjlnnaaGreatDoor
/-
  Items sorted (the library's function, as the program calls it); two slices of items put together.
-/
namespace Go.Proofs.YtdmnfjicjjlnnaaGreatDoor
set_option maxRecDepth 5000
open Go.RowKit
theorem infoItem : (Tryz.prog.info? 147).map (fun i => (i.zero, i.size, i.bytes)) = some (some (.agg #[.int .i64 0, .int .i64 0]), 2, 16) := by kernel_rfl
theorem sortfunc_any (n : Nat) (Z : List Itm) (v : Value) (w0 w : World) (Rs : List Thing) (h : Held w0 w (itmT v Z :: Rs)) (hn : Z.length = n) (hN2 : n ≤ 100000) :
    Calls Tryz.prog 121 #[v, cmpV] w fun e w' => e = .returned (.tuple #[]) ∧ Held w0 w' (itmT v (ssort Z) :: Rs) := by
  have HR := hid (stable_any n Z v w0 w Rs h hn hN2)
  obtain ⟨ao, cap, rfl, hc1, hc2⟩ := itm_form h
  unfold cmpV at *
  rw [hn] at HR hc1 ⊢
  clear h hn
  go_enter Tryz.func121, Tryz.ntmps121
  go_wp2_with fail
  refine HR.out.mono ?_
  rintro e w1 ⟨rfl, hh⟩
  have HH := hid hh
  clear hh HR
  go_wp2
  go_end0
  exact ⟨rfl, HH⟩
theorem sortrow_any (n : Nat) (Z : List Itm) (v : Value) (w0 w : World) (Rs : List Thing) (h : Held w0 w (itmT v Z :: Rs)) (hn : Z.length = n) (hN2 : n ≤ 100000) :
    Calls Tryz.prog 108 #[v] w fun e w' => e = .returned (.tuple #[]) ∧ Held w0 w' (itmT v (ssort Z) :: Rs) := by
  have HR := hid (sortfunc_any n Z v w0 w Rs h hn hN2)
  clear h hn
  unfold cmpV at *
  go_enter Tryz.func108, Tryz.ntmps108
  go_wp2_with fail
  refine HR.out.mono ?_
  rintro e w1 ⟨rfl, hh⟩
  have HH := hid hh
  clear hh HR
  go_wp2
  go_end0
  exact ⟨rfl, HH⟩
set_option maxHeartbeats 800000 in
theorem grow_nil (n : Nat) (w0 w : World) (Rs : List Thing) (h : Held w0 w Rs) (hn : 0 < n) (hN2 : n ≤ 100000) :
    Calls Tryz.prog 120 #[.slice none 0 0, .int .i64 (n : Int)] w fun e w' => ∃ v, e = .returned v ∧ Held w0 w' (itmT v [] :: Rs) := by
  obtain ⟨i, hi, hz0, hz1, hz2⟩ := info_parts infoItem
  obtain ⟨G, hG⟩ : ∃ G, G = grownCap w (0 + n) 0 147 := ⟨_, rfl⟩
  have hrz : ∀ ty, (Builtin.append_ #[144, 3] ty #[.slice none 0 0, .int .i64 (n : Int)]).run Tryz.prog w =
      .ok (.slice (some ⟨w.heap.size, 0, none⟩) n G) (w.drew.alloc (.cells (#[] ++ Builtin.zeroCells (#[.int .i64 0, .int .i64 0]) n ++ Builtin.zeroCells (#[.int .i64 0, .int .i64 0]) (G - n)) 147)) := fun ty => by
    have h := Lib.run_append_grow_zeros w 144 3 ty 147 i (.agg #[.int .i64 0, .int .i64 0]) .i64 .i64 Tryz.underlying144 Tryz.underlying3 hi hz0 none 0 0 [] (by simp [Builtin.firstCells]) n hn (by rw [hz1]; decide) (by omega) (by omega) (by rw [hz2]; omega) (growslice_fits (by omega) (by rw [hz2]; omega))
    rw [← hG, Nat.zero_add] at h
    exact h
  have hGn : n ≤ G := by rw [hG]; have := grownCap_ge w (0 + n) 0 147; omega
  have hGm : G ≤ maxLen := by rw [hG]; exact grownCap_le_maxLen w (0 + n) 0 _ (by unfold maxLen; omega)
  have H := hid h
  have h0 : (0 : Int) ≤ (n : Int) := Int.natCast_nonneg _
  have h1 : ¬ (n : Int) < 0 := by omega
  have h2 : (0 : Int) < (n : Int) := by omega
  clear h hG
  go_enter Tryz.func120, Tryz.ntmps120
  go_wp2_with (at_builtin; refine Lib.wpList_append_run _ rfl _ _ _ _ rfl _ _ rfl rfl _ _ (hrz _) ?_)
  go_ret
  refine ⟨_, rfl, ?_⟩
  have hown : Own ((w.alloc (.cells (Builtin.zeroCells #[.int .i64 0, .int .i64 0] n ++ Builtin.zeroCells #[.int .i64 0, .int .i64 0] (G - n)) 147)).drew) 147 2 (.slice (some ⟨w.heap.size, 0, none⟩) 0 G) 0 [] :=
    ⟨rfl, .inr ⟨w.heap.size, 0, G, _, rfl, heap_alloc_new w _, Nat.zero_le _, hGm, by simp [size_zeroCells]; omega, fun j u hu => by simp at hu⟩⟩
  exact H.out.pushOwn hown (((Mod.refl w _).alloc _).drew) (fun k hk => by simp [Value.ownBlock] at hk; omega)
set_option maxHeartbeats 1600000 in
theorem concat_any (n m B : Nat) (X Y : List Itm) (x y : Value) (w0 w : World) (Rs : List Thing) (h : Held w0 w (ownT 144 1 (.slice (some ⟨B, 0, none⟩) 2 2) 2 [x, y] :: itmT x X :: itmT y Y :: Rs)) (hn : X.length = n) (hm : Y.length = m) (hn0 : 0 < n) (hN2 : n + m ≤ 100000) :
    Calls Tryz.prog 107 #[.slice (some ⟨B, 0, none⟩) 2 2] w fun e w' => ∃ v, e = .returned v ∧ Held w0 w' (itmT v (X ++ Y) :: ownT 144 1 (.slice (some ⟨B, 0, none⟩) 2 2) 2 [x, y] :: itmT x X :: itmT y Y :: Rs) := by
  obtain ⟨i0, hi, hz0, hz1, hz2⟩ := info_parts infoItem
  obtain ⟨xo, xc, rfl, hx1, hx2⟩ := itm_form h.swap
  obtain ⟨yo, yc, rfl, hy1, hy2⟩ := itm_form h.third
  rw [hn] at h hx1 ⊢
  rw [hm] at h hy1 ⊢
  have HL : Hid (X.length = n ∧ Y.length = m) := hid ⟨hn, hm⟩
  have H := hid h
  have h0 : (0 : Int) ≤ (n : Int) := Int.natCast_nonneg _
  have h1 : (0 : Int) ≤ (m : Int) := Int.natCast_nonneg _
  clear h hn hm
  go_enter Tryz.func107, Tryz.ntmps107
  go_wp2
  go_loopg [3, 11] 3 (fun k t3 t11 wr => ∃ (i s : Nat), i ≤ 2 ∧ 2 - i < k ∧ t11 = .int .i64 (i : Int) ∧ t3 = .int .i64 (s : Int) ∧ Hid ((i = 0 ∧ 0 = s) ∨ (i = 1 ∧ n = s) ∨ (i = 2 ∧ n + m = s)) ∧ wr = w)
  case atStart => exact ⟨0, 0, by omega, by omega, rfl, rfl, hid (.inl ⟨rfl, rfl⟩), rfl⟩
  case round =>
    obtain ⟨i, s, hi2, hk, rfl, rfl, HS, rfl⟩ := hrel
    obtain ⟨g, off, hg, hcell, hfr, _⟩ := H.out.own.site (by omega)
    simp only [Option.some.injEq, Addr.mk.injEq, and_true] at hg
    obtain ⟨rfl, rfl⟩ := hg
    have c0 := hcell 0 _ rfl
    have c1 := hcell 1 _ rfl
    simp only [Nat.zero_add] at c0 c1
    clear hcell hfr
    rcases HS.out with ⟨rfl, rfl⟩ | ⟨rfl, rfl⟩ | ⟨rfl, rfl⟩
    · go_wp2
      go_roundg (gk - 1)
      case measure => omega
      case rel => exact ⟨1, n, by omega, by omega, by go_num, by go_num, hid (.inr (.inl ⟨rfl, rfl⟩)), rfl⟩
    · go_wp2
      go_roundg (gk - 1)
      case measure => omega
      case rel => exact ⟨2, n + m, by omega, by omega, by go_num, by go_num, hid (.inr (.inr ⟨rfl, rfl⟩)), rfl⟩
    · have HG := hid (grow_nil (n + m) w0 wr _ H.out (by omega) hN2)
      go_wp2_with fail
      refine HG.out.mono ?_
      rintro e w1 ⟨v, rfl, hh⟩
      have HH := hid hh
      clear hh HG c0 c1
      go_wp2
      go_loopg [6, 27] 3 (fun k t6 t27 wq => ∃ (i L : Nat) (ao : Option Addr) (cap : Nat) (Z : List Itm), i ≤ 2 ∧ 2 - i < k ∧ t27 = .int .i64 (i : Int) ∧ t6 = .slice ao L cap ∧ Hid (L = Z.length ∧ ((i = 0 ∧ Z = []) ∨ (i = 1 ∧ Z = X) ∨ (i = 2 ∧ Z = X ++ Y))) ∧
        Hid (Held w0 wq (ownT 147 2 (.slice ao L cap) L (cellsI Z) :: ownT 144 1 (.slice (some ⟨B, 0, none⟩) 2 2) 2 [.slice xo n xc, .slice yo m yc] :: itmT (.slice xo n xc) X :: itmT (.slice yo m yc) Y :: Rs)))
      case atStart =>
        obtain ⟨ao, cap, rfl, _, _⟩ := itm_form HH.out
        exact ⟨0, 0, ao, cap, [], by omega, by omega, rfl, rfl, hid ⟨rfl, .inl ⟨rfl, rfl⟩⟩, HH⟩
      case round =>
        obtain ⟨i, L, ao, cap, Z, hi2, hk2, rfl, rfl, HZ, HJ⟩ := hrel
        obtain ⟨g, off, hg, hcell, hfr, _⟩ := HJ.out.swap.own.site (by omega)
        simp only [Option.some.injEq, Addr.mk.injEq, and_true] at hg
        obtain ⟨rfl, rfl⟩ := hg
        have c0 := hcell 0 _ rfl
        have c1 := hcell 1 _ rfl
        simp only [Nat.zero_add] at c0 c1
        clear hcell hfr
        obtain ⟨hL, hz⟩ := HZ.out
        have hLL : L ≤ n + m := by
          have := HL.out
          rcases hz with ⟨_, rfl⟩ | ⟨_, rfl⟩ | ⟨_, rfl⟩
          · rw [hL]; simp
          · omega
          · rw [hL]; simp; omega
        rcases hz with ⟨rfl, hz⟩ | ⟨rfl, hz⟩ | ⟨rfl, hz⟩
        · have HRd : Hid (Rd wr 2 (.slice xo n xc) n (cellsI X)) := by
            have h := HJ.out.third.own.rd
            rw [HL.out.1] at h
            exact hid h
          have HZ2 : Hid (cellsI Z ++ cellsI X = cellsI (X) ∧ 0 + n = (X).length) := by
            rw [hz]
            have := HL.out
            refine hid ⟨by simp [cellsI], ?_⟩
            simp; omega
          have hL0 : L = 0 := by rw [hL, hz]; rfl
          clear hz hL HZ
          subst hL0
          go_wp2_with ((with_reducible show wpList _ _ _ (⟨some 33, _, _, _, _, _⟩ :: _) _ _); refine wpList_app_held rfl (.tmp 31) (.tmp 32) 144 rfl 147 i0 (.agg #[.int .i64 0, .int .i64 0]) 2 16 Tryz.underlying144 hi hz0 hz1 hz2 rfl (by decide) _ _ (cellsI Z) rfl HJ.out _ n (cellsI X) rfl HRd.out (cellsI_one X) (0 + n) rfl (by unfold maxLen; omega) (by omega) ?_; intro ao1 cap1 w1 h1; rw [HZ2.out.1] at h1; have HJ2 := hid h1; clear h1)
          go_roundg (gk - 1)
          case measure => omega
          case rel => exact ⟨1, n, ao1, cap1, X, by omega, by omega, by go_num, rfl, hid ⟨by have := HZ2.out.2; omega, .inr (.inl ⟨rfl, rfl⟩)⟩, by rw [Nat.zero_add] at HJ2; exact HJ2⟩
        · have HRd : Hid (Rd wr 2 (.slice yo m yc) m (cellsI Y)) := by
            have h := HJ.out.fourth.own.rd
            rw [HL.out.2] at h
            exact hid h
          have HZ2 : Hid (cellsI Z ++ cellsI Y = cellsI (X ++ Y) ∧ n + m = (X ++ Y).length) := by
            rw [hz]
            have := HL.out
            refine hid ⟨by simp [cellsI], ?_⟩
            simp; omega
          have hL0 : n = L := by rw [hL, hz]; exact HL.out.1.symm
          clear hz hL HZ
          subst hL0
          go_wp2_with ((with_reducible show wpList _ _ _ (⟨some 33, _, _, _, _, _⟩ :: _) _ _); refine wpList_app_held rfl (.tmp 31) (.tmp 32) 144 rfl 147 i0 (.agg #[.int .i64 0, .int .i64 0]) 2 16 Tryz.underlying144 hi hz0 hz1 hz2 rfl (by decide) _ _ (cellsI Z) rfl HJ.out _ m (cellsI Y) rfl HRd.out (cellsI_one Y) (n + m) rfl (by unfold maxLen; omega) (by omega) ?_; intro ao1 cap1 w1 h1; rw [HZ2.out.1] at h1; have HJ2 := hid h1; clear h1)
          go_roundg (gk - 1)
          case measure => omega
          case rel => exact ⟨2, n + m, ao1, cap1, X ++ Y, by omega, by omega, by go_num, rfl, hid ⟨HZ2.out.2, .inr (.inr ⟨rfl, rfl⟩)⟩, HJ2⟩
        · have HZ2 : Hid (Held w0 wr (itmT (.slice ao L cap) (X ++ Y) :: ownT 144 1 (.slice (some ⟨B, 0, none⟩) 2 2) 2 [.slice xo n xc, .slice yo m yc] :: itmT (.slice xo n xc) X :: itmT (.slice yo m yc) Y :: Rs)) := by
            have h := HJ.out
            rw [hz] at h hL
            unfold itmT
            rw [← hL]
            exact hid h
          clear hz hL HZ HJ
          go_wp2
          go_ret
          exact ⟨_, rfl, HZ2⟩
end Go.Proofs.YtdmnfjicjjlnnaaGreatDoor
