/-
  The reference's Read and Bits.
-/
import Derived.Test.YtpecdappchkdiaaCodeRef2
import Derived.Test.YtpecdappchkdiaaTabMath
import Derived.Test.YtpecdappchkdiaaRef1
import Derived.Test.YtpecdappchkdiaaHeldApp
namespace Go.Proofs.Ytpecdappchkdiaa
open Go.RowKit

theorem lng_snoc (l : List Int) (a : Int) : lng (l ++ [a]) = max (lng l) a.toNat := by
  induction l with
  | nil => simp [lng]
  | cons b l ih =>
    show max b.toNat (lng (l ++ [a])) = max (max b.toNat (lng l)) a.toNat
    rw [ih]; omega
theorem infoC16 : (Try.prog.info? 64).map (·.zero) = some (some (arrV .i64 (cnts []))) := by kernel_rfl
theorem count_lt (l : List Int) (i n : Nat) (h : l[i]? = some (n : Int)) : (l.take i).count (n : Int) < l.count (n : Int) := by
  have h1 := count_take_succ l i (n : Int) (n : Int) h
  have h2 := count_take_le l (i + 1) (n : Int)
  rw [if_pos rfl] at h1; omega
set_option maxRecDepth 100000 in
set_option maxHeartbeats 3200000 in
theorem refread_any (v u x : Value) (l : List Int) (all : List Nat) (a n m : Nat) (w : World) (hv : Rd w 1 v n (ints l)) (hu : Rd w 1 u n (nums .u32 (codesOf l))) (hx : Rd w 1 x m (u8s all)) (hn : n = l.length) (hm : m = all.length)
    (hl : ∀ y ∈ l, 0 ≤ y ∧ y ≤ 15) (hn2 : n ≤ 288) (hb : isBits all) (ha : a ≤ m) (hm2 : m < 1000000) :
    Calls Try.prog 13 #[v, u, x, .int .i64 (a : Int)] w fun e w' => ∃ k q er : Nat, e = .returned (.tuple #[.int .i64 (k : Int), .int .i64 (q : Int), .int .i64 (er : Int)]) ∧ Mod w w' (fun _ => False) ∧ Hid (ReadIs l (all.drop a) k q er) := by
  obtain ⟨ao, ac, rfl, _, _⟩ := hv.form
  obtain ⟨uo, uc, rfl, _, _⟩ := hu.form
  obtain ⟨xo, xc, rfl, _, _⟩ := hx.form
  have HL := hid (And.intro hn (And.intro hm (And.intro hl hb)))
  obtain ⟨bs, hbs⟩ : ∃ bs, bs = all.drop a := ⟨_, rfl⟩
  have hbl : bs.length = m - a := by rw [hbs, List.length_drop, hm]
  have hbb : isBits bs := by rw [hbs]; exact isBits_drop hb a
  have HBS := hid (And.intro hbs (And.intro hbl hbb))
  rw [← hbs]
  have hn0 : (0 : Int) ≤ (n : Int) := Int.natCast_nonneg _
  have hm0 : (0 : Int) ≤ (m : Int) := Int.natCast_nonneg _
  have ha0 : (0 : Int) ≤ (a : Int) := Int.natCast_nonneg _
  clear hn hm hl hb hbs hbl hbb
  go_enter Try.func13, Try.ntmps13
  go_wp2_with (refine wpList_alloc_arr rfl _ rfl .i64 _ infoC16 ?_)
  have hH0 : Held w (w.alloc (.cells (nums .i64 (cnts [])).toArray 64)) [objT w.heap.size (nums .i64 (cnts [])) 64] := (Held.start w).newObj (nums .i64 (cnts [])) 64
  have HH0 := hid hH0
  clear hH0
  generalize w.heap.size = B at HH0 ⊢
  go_loopg [12, 13] (n + 1) (fun k t12 t13 wr => ∃ (i g : Nat), i ≤ n ∧ n - i < k ∧ t13 = .int .i64 (i : Int) ∧ t12 = .int .i64 (g : Int) ∧ g ≤ 15 ∧ Hid (g = lng (l.take i)) ∧ Hid (Held w wr [objT B (nums .i64 (cnts (l.take i))) 64]))
  case atStart => exact ⟨0, 0, by omega, by omega, rfl, rfl, by omega, rfl, HH0⟩
  case round =>
    obtain ⟨i, g, hi, hk, rfl, rfl, hg, HG, HH⟩ := hrel
    have hi0 : (0 : Int) ≤ (i : Int) := Int.natCast_nonneg _
    have hg0 : (0 : Int) ≤ (g : Int) := Int.natCast_nonneg _
    by_cases hin : i < n
    · have hi1 : (i : Int) < (n : Int) := by omega
      obtain ⟨b, off, rfl, hcell⟩ := (HH.out.old hv).spot (by omega)
      obtain ⟨y, hyi⟩ : ∃ y, l[i]? = some y := ⟨l[i]'(by have := HL.out.1; omega), List.getElem?_eq_getElem _⟩
      have hyr := HL.out.2.2.1 y (List.mem_of_getElem? hyi)
      have hc1 := hcell i _ (by rw [ints_get, hyi]; rfl)
      obtain ⟨p, rfl⟩ := Int.eq_ofNat_of_zero_le hyr.1
      have hp15 : p ≤ 15 := by omega
      have HT := hid (take_snoc3 l i _ hyi)
      have HM : Hid (lng (l.take (i + 1)) = max g p) := by rw [HT.out, lng_snoc, ← HG.out]; exact hid rfl
      clear hcell hyi hyr
      have hp0 : (0 : Int) ≤ (p : Int) := Int.natCast_nonneg _
      by_cases hpz : p = 0
      · subst hpz
        have HR : Hid (cnts (l.take (i + 1)) = cnts (l.take i)) := by rw [HT.out]; exact hid (cnts_skip _ _ (by simp [isLen]))
        have hgz : ¬ (g : Int) < 0 := by omega
        go_wp2
        go_roundg (gk - 1)
        case measure => omega
        case rel => exact ⟨i + 1, g, by omega, by omega, by go_num, rfl, by omega, by rw [HM.out]; exact hid (by omega), by rw [HR.out]; exact HH⟩
      · have hpp : (0 : Int) < (p : Int) := by omega
        have hp16 : (p : Int) < 16 := by omega
        obtain ⟨c, hc⟩ : ∃ c, c = (l.take i).count ((p : Nat) : Int) := ⟨_, rfl⟩
        have hcn : c ≤ n := by rw [hc]; exact Nat.le_trans List.count_le_length (by simp; have := HL.out.1; omega)
        have hc2 := HH.out.obj.cell (i := p) (v := .int .i64 (c : Int)) (by rw [nums_get, cnts_get _ p (by omega) (by omega), hc]; rfl)
        have hfr := HH.out.obj.frozen p
        have HS := hid (HH.out.setObj p (.int .i64 ((c + 1 : Nat) : Int)))
        have HR : Hid (nums .i64 ((cnts (l.take i)).set p (c + 1)) = nums .i64 (cnts (l.take (i + 1)))) := by rw [HT.out, ← cnts_snoc _ p (by omega) (by omega), hc]; exact hid rfl
        have hov := hv
        clear hc
        have HS2 : Hid (Held w (wr.setCell ⟨B, p, none⟩ (.int .i64 ((c : Int) + 1))) [objT B (nums .i64 (cnts (l.take (i + 1)))) 64]) := by
          have h := HS.out
          rw [nums_set, HR.out] at h
          exact hid (by simpa using h)
        obtain ⟨b', off', hb', hcell'⟩ := (HS2.out.old hv).spot (by omega)
        simp only [Option.some.injEq, Addr.mk.injEq, and_true] at hb'
        obtain ⟨rfl, rfl⟩ := hb'
        have hc3 : (wr.setCell ⟨B, p, none⟩ (.int .i64 ((c : Int) + 1))).cell? ⟨b, off + i, none⟩ = some (.int .i64 (p : Int)) := by
          have hyi2 : l[i]? = some (p : Int) := by
            have h := HT.out
            rw [List.take_add_one] at h
            have h2 := List.append_cancel_left h
            cases hh : l[i]? with
            | none => rw [hh] at h2; cases h2
            | some y => rw [hh] at h2; simpa using h2
          exact hcell' i _ (by rw [ints_get, hyi2]; rfl)
        clear hcell' hov HS
        by_cases hgp : g < p
        · have hgpI : (g : Int) < (p : Int) := by omega
          go_wp2
          go_roundg (gk - 1)
          case measure => omega
          case rel => exact ⟨i + 1, p, by omega, by omega, by go_num, rfl, by omega, by rw [HM.out]; exact hid (by omega), HS2⟩
        · have hgpI : ¬ (g : Int) < (p : Int) := by omega
          go_wp2
          go_roundg (gk - 1)
          case measure => omega
          case rel => exact ⟨i + 1, g, by omega, by omega, by go_num, rfl, by omega, by rw [HM.out]; exact hid (by omega), HS2⟩
    · have hi1 : ¬ (i : Int) < (n : Int) := by omega
      have HG2 : Hid (g = lng l) := by
        have h := HG.out
        rw [List.take_of_length_le (by have := HL.out.1; omega)] at h
        exact hid h
      have HC : Hid (Held w wr [objT B (nums .i64 (cnts l)) 64]) := by
        have h := HH.out
        rw [List.take_of_length_le (by have := HL.out.1; omega)] at h
        exact hid h
      clear HH HG
      go_wp2
      go_loopg [14, 15, 16] (g + 2) (fun k t14 t15 t16 wq => ∃ (z f v : Nat), 1 ≤ z ∧ z ≤ g + 1 ∧ g + 1 - z < k ∧ t16 = .int .i64 (z : Int) ∧ t15 = .int .i64 (f : Int) ∧ t14 = .int .i64 (v : Int) ∧ v ≤ 65536 ∧ f ≤ 5000000 ∧ a + (z - 1) ≤ m ∧
        Hid (2 * f = fstC l z ∧ v = hiN (bs.take (z - 1)) ∧ ∀ i q, Hit l bs i q → z ≤ q) ∧ wq = wr)
      case atStart => exact ⟨1, 0, 0, by omega, by omega, by omega, rfl, rfl, rfl, by omega, by omega, by omega, hid ⟨rfl, rfl, fun i q h => h.2.1⟩, rfl⟩
      case round =>
        obtain ⟨z, f, v, hz1, hz2, hk2, rfl, rfl, rfl, hv2, hf2, haz, HZ, rfl⟩ := hrel
        obtain ⟨gx, rfl⟩ : ∃ g, g = gk := ⟨gk, rfl⟩
        have hz0 : (0 : Int) ≤ (z : Int) := Int.natCast_nonneg _
        have hf0 : (0 : Int) ≤ (f : Int) := Int.natCast_nonneg _
        have hv0 : (0 : Int) ≤ (v : Int) := Int.natCast_nonneg _
        by_cases hzg : z ≤ g
        · have hzgI : (z : Int) ≤ (g : Int) := by omega
          by_cases hend : m < a + z
          · have hendI : (m : Int) < (a : Int) + (z : Int) := by omega
            have HD : Hid (ReadIs l bs 0 0 5) := by
              refine hid (.inr ⟨rfl, rfl, fun i q h => ?_, ?_⟩)
              · have h1 := HZ.out.2.2 i q h
                have h2 := h.2.2.1
                have h3 := HBS.out.2.1
                omega
              · rw [if_pos]
                left
                have h3 := HBS.out.2.1
                have h4 := HG2.out
                omega
            have HM := hid HC.out.mod
            go_wp2
            go_ret3
            exact ⟨0, 0, 5, rfl, HM.out, HD⟩
          · have hendI : ¬ (m : Int) < (a : Int) + (z : Int) := by omega
            obtain ⟨b, hbz⟩ : ∃ b, bs[z - 1]? = some b := ⟨bs[z - 1]'(by have := HBS.out.2.1; omega), List.getElem?_eq_getElem _⟩
            have hb1 := HBS.out.2.2 b (List.mem_of_getElem? hbz)
            have HV : Hid (hiN (bs.take z) = 2 * v + b) := by
              have h := hiN_take bs (z - 1) b hbz
              rw [show z - 1 + 1 = z by omega] at h
              rw [h, ← HZ.out.2.1]; exact hid rfl
            have hvb : 2 * v + b ≤ 65536 := by
              have h := hiN_lt bs HBS.out.2.2 z
              rw [HV.out] at h
              have h2 : 2 ^ z ≤ 2 ^ 15 := Nat.pow_le_pow_right (by decide) (by omega)
              omega
            obtain ⟨c, hc⟩ : ∃ c, c = l.count ((z : Nat) : Int) := ⟨_, rfl⟩
            have hcn : c ≤ n := by rw [hc]; exact Nat.le_trans List.count_le_length (by have := HL.out.1; omega)
            have hcc := HC.out.obj.cell (i := z) (v := .int .i64 (c : Int)) (by rw [nums_get, cnts_get _ z (by omega) (by omega), hc]; rfl)
            have hz16 : (z : Int) < 16 := by omega
            have hpos : (a : Int) + (z : Int) - 1 = ((a + z - 1 : Nat) : Int) := by omega
            have hp0 : (0 : Int) ≤ ((a + z - 1 : Nat) : Int) := Int.natCast_nonneg _
            have hpm : ((a + z - 1 : Nat) : Int) < (m : Int) := by omega
            obtain ⟨xb, xof, rfl, hxc⟩ := (HC.out.old hx).spot (by omega)
            have hbc := hxc (a + z - 1) (.int .u8 (b : Int)) (by
              have h := hbz
              rw [HBS.out.1, List.getElem?_drop, show a + (z - 1) = a + z - 1 by omega] at h
              rw [u8s_get, h]; rfl)
            have hFL : 2 * f ≤ 16384 * n := by
              have h := fst_le l z (by omega)
              rw [HZ.out.1, HL.out.1]; exact h
            have HCN := hid hc
            clear hxc hc hbz
            have HNX : Hid (2 * (2 * f + c) = fstC l (z + 1)) := by
              obtain ⟨y, rfl⟩ : ∃ y, z = y + 1 := ⟨z - 1, by omega⟩
              show Hid (2 * (2 * f + c) = 2 * (fstC l (y + 1) + l.count ((y + 1 : Nat) : Int)))
              rw [HZ.out.1, HCN.out]; exact hid rfl
            have HQ : Hid (∀ i q, Hit l bs i q → q = z → 2 * v + b < 2 * f + c ∧ l[i]? = some (z : Int) ∧ codeAt l i = 2 * v + b) := by
              refine hid fun i q h e => ?_
              subst e
              have h1 := h.2.2.2
              have h2 := codeAt_len l i (q : Int) h.1 (by simp [isLen]; omega)
              have h3 := count_lt l i q h.1
              rw [Int.toNat_natCast] at h2
              rw [HV.out] at h1
              have h4 := HZ.out.1
              have h5 := HCN.out
              exact ⟨by omega, h.1, by omega⟩
            by_cases hlt : 2 * v + b < 2 * f + c
            · have hltI : (v : Int) * 2 + (b : Int) < (f : Int) * 2 + (c : Int) := by omega
              go_wp2
              go_loopg [17] (n + 1) (fun k t17 wq => ∃ (i : Nat), i ≤ n ∧ n - i < k ∧ t17 = .int .i64 (i : Int) ∧ Hid (∀ j, j < i → l[j]? = some (z : Int) → codeAt l j ≠ 2 * v + b) ∧ wq = wr)
              case atStart => exact ⟨0, by omega, by omega, rfl, hid fun j hj => by omega, rfl⟩
              case round =>
                obtain ⟨i, hi2, hk3, rfl, HJ, rfl⟩ := hrel
                have hi0 : (0 : Int) ≤ (i : Int) := Int.natCast_nonneg _
                by_cases hin : i < n
                · have hinI : (i : Int) < (n : Int) := by omega
                  obtain ⟨g1, off1, rfl, hcell⟩ := (HC.out.old hv).spot (by omega)
                  obtain ⟨y, hyi⟩ : ∃ y, l[i]? = some y := ⟨l[i]'(by have := HL.out.1; omega), List.getElem?_eq_getElem _⟩
                  have hyr := HL.out.2.2.1 y (List.mem_of_getElem? hyi)
                  have hc1 := hcell i _ (by rw [ints_get, hyi]; rfl)
                  obtain ⟨p, rfl⟩ := Int.eq_ofNat_of_zero_le hyr.1
                  obtain ⟨g2, off2, rfl, hcell2⟩ := (HC.out.old hu).spot (by omega)
                  obtain ⟨cd, hcd⟩ : ∃ cd, cd = codeAt l i := ⟨_, rfl⟩
                  have hc2 := hcell2 i (.int .u32 (cd : Int)) (by rw [nums_get, codesOf_get l i (by have := HL.out.1; omega), hcd]; rfl)
                  have hcdl : cd ≤ 16385 * n := by rw [hcd, HL.out.1]; exact codeAt_le l i
                  have HY := hid hyi
                  have HCD := hid hcd
                  have hcd0 : (0 : Int) ≤ (cd : Int) := Int.natCast_nonneg _
                  clear hcell hcell2 hyi hyr hcd
                  by_cases hpz : p = z
                  · subst hpz
                    have hb1' : ((p : Int) == (p : Int)) = true := by simp
                    by_cases hcv : cd = 2 * v + b
                    · have hcvI : (cd : Int) = (v : Int) * 2 + (b : Int) := by omega
                      have hb2 : ((cd : Int) == (v : Int) * 2 + (b : Int)) = true := by simp; omega
                      have HD : Hid (ReadIs l bs i p 0) := by
                        refine hid (.inl ⟨rfl, HY.out, by omega, ?_, ?_⟩)
                        · have := HBS.out.2.1; omega
                        · rw [HV.out, ← HCD.out]; exact hcv.symm
                      have HM := hid HC.out.mod
                      clear hcvI
                      go_wp2
                      go_ret3
                      exact ⟨i, p, 0, rfl, HM.out, HD⟩
                    · have hb2 : ((cd : Int) == (v : Int) * 2 + (b : Int)) = false := by simp; omega
                      have hcvI : ¬ (cd : Int) = (v : Int) * 2 + (b : Int) := by omega
                      go_wp2
                      go_roundg (gk - 1)
                      case measure => omega
                      case rel =>
                        refine ⟨i + 1, by omega, by omega, by go_num, hid fun j hj hjl => ?_, rfl⟩
                        by_cases e : j = i
                        · subst e; rw [← HCD.out]; exact hcv
                        · exact HJ.out j (by omega) hjl
                  · have hb1' : ((p : Int) == (z : Int)) = false := by simp; omega
                    have hpzI : ¬ (p : Int) = (z : Int) := by omega
                    go_wp2
                    go_roundg (gk - 1)
                    case measure => omega
                    case rel =>
                      refine ⟨i + 1, by omega, by omega, by go_num, hid fun j hj hjl => ?_, rfl⟩
                      by_cases e : j = i
                      · subst e
                        have h := HY.out.symm.trans hjl
                        simp only [Option.some.injEq] at h
                        exact absurd h hpzI
                      · exact HJ.out j (by omega) hjl
                · have hinI : ¬ (i : Int) < (n : Int) := by omega
                  go_wp2
                  go_roundg (gx - 1)
                  case measure => omega
                  case rel =>
                    refine ⟨z + 1, 2 * f + c, 2 * v + b, by omega, by omega, by omega, by go_num, by go_num, by go_num, by omega, by omega, by omega, hid ⟨HNX.out, by rw [Nat.add_sub_cancel]; exact HV.out.symm, fun j q h => ?_⟩, rfl⟩
                    have h1 := HZ.out.2.2 j q h
                    by_cases e : q = z
                    · obtain ⟨_, h2, h3⟩ := HQ.out j q h e
                      have hjl := (List.getElem?_eq_some_iff.1 h2).1
                      exact absurd h3 (HJ.out j (by have := HL.out.1; omega) h2)
                    · omega
            · have hltI : ¬ (v : Int) * 2 + (b : Int) < (f : Int) * 2 + (c : Int) := by omega
              go_wp2
              go_roundg (gx - 1)
              case measure => omega
              case rel =>
                refine ⟨z + 1, 2 * f + c, 2 * v + b, by omega, by omega, by omega, by go_num, by go_num, by go_num, by omega, by omega, by omega, hid ⟨HNX.out, by rw [Nat.add_sub_cancel]; exact HV.out.symm, fun i q h => ?_⟩, rfl⟩
                have h1 := HZ.out.2.2 i q h
                by_cases e : q = z
                · exact absurd (HQ.out i q h e).1 hlt
                · omega
        · have hzgI : ¬ (z : Int) ≤ (g : Int) := by omega
          have HNO : Hid (∀ i q, ¬ Hit l bs i q) := by
            refine hid fun i q h => ?_
            have h1 := HZ.out.2.2 i q h
            have h2 := h.long
            have h3 := HG2.out
            omega
          have HM := hid HC.out.mod
          by_cases hg0 : g = 0
          · have hgb : ((g : Int) == 0) = true := by simp; omega
            have hgI : (g : Int) = 0 := by omega
            by_cases hma : m ≤ a
            · have hmaI : decide ((m : Int) ≤ (a : Int)) = true := by simp; omega
              have hmaN : decide (m ≤ a) = true := by simp; omega
              have HD : Hid (ReadIs l bs 0 0 5) := by
                refine hid (.inr ⟨rfl, rfl, HNO.out, ?_⟩)
                rw [if_pos]
                right
                exact List.eq_nil_of_length_eq_zero (by have := HBS.out.2.1; omega)
              go_wp2
              go_ret3
              exact ⟨0, 0, 5, rfl, HM.out, HD⟩
            · have hmaI : decide ((m : Int) ≤ (a : Int)) = false := by simp; omega
              have hmaN : decide (m ≤ a) = false := by simp; omega
              have HD : Hid (ReadIs l bs 0 0 3) := by
                refine hid (.inr ⟨rfl, rfl, HNO.out, ?_⟩)
                have h3 := HBS.out.2.1
                have h4 := HG2.out
                rw [if_neg]
                rintro (h | h)
                · omega
                · rw [h] at h3; simp at h3; omega
              go_wp2
              go_ret3
              exact ⟨0, 0, 3, rfl, HM.out, HD⟩
          · have hgb : ((g : Int) == 0) = false := by simp; omega
            have hgI : ¬ (g : Int) = 0 := by omega
            have HD : Hid (ReadIs l bs 0 0 3) := by
              refine hid (.inr ⟨rfl, rfl, HNO.out, ?_⟩)
              have h3 := HBS.out.2.1
              have h4 := HG2.out
              rw [if_neg]
              rintro (h | h)
              · omega
              · rw [h] at h3; simp at h3; omega
            go_wp2
            go_ret3
            exact ⟨0, 0, 3, rfl, HM.out, HD⟩

theorem shr_rem (c k : Nat) : c / 2 ^ k % 2 ≤ 1 := by have := Nat.mod_lt (c / 2 ^ k) (show 0 < 2 by decide); omega
set_option maxHeartbeats 1600000 in
theorem refbits4_any (v : Value) (l : List Int) (i p n : Nat) (w : World) (hv : Rd w 1 v n (ints l)) (hn : n = l.length) (hn2 : n ≤ 288) (hi : l[i]? = some (p : Int)) (hp : p ≤ 15) :
    Calls Try.prog 19 #[v, .int .i64 (i : Int)] w fun e w' => ∃ v', e = .returned v' ∧ Built w w' v' (hiBits p (codeAt l i)) := by
  obtain ⟨ao, ac, rfl, _, _⟩ := hv.form
  have HR := hid (refcodes_any _ l w (by rw [← hn]; exact hv) (by omega))
  rw [← hn] at HR
  have hil : i < n := by rw [hn]; exact (List.getElem?_eq_some_iff.1 hi).1
  have HN := hid hn
  have HI := hid hi
  have hi0 : (0 : Int) ≤ (i : Int) := Int.natCast_nonneg _
  obtain ⟨c, hc⟩ : ∃ c, c = codeAt l i := ⟨_, rfl⟩
  have hcl : c ≤ 16385 * n := by rw [hc, hn]; exact codeAt_le l i
  have HC := hid hc
  rw [← hc]
  have hc0 : (0 : Int) ≤ (c : Int) := Int.natCast_nonneg _
  clear hn hi hc
  obtain ⟨ii, hii, hz0, hz1, hz2⟩ := info_parts Try.infoByteR
  go_enter Try.func19, Try.ntmps19
  go_wp2_with fail
  refine HR.out.mono ?_
  rintro e w1 ⟨u, rfl, ho, hfr, hm⟩
  obtain ⟨uo, uc, rfl, _, _⟩ := ho.form
  obtain ⟨g, off, rfl, hcell, _, _⟩ := ho.site (by omega)
  have c1 := hcell i (.int .u32 (c : Int)) (by rw [nums_get, codesOf_get l i (by have := HN.out; omega), HC.out]; rfl)
  obtain ⟨g2, off2, rfl, hcell2⟩ := (hv.kept hm (fun _ _ h => h)).spot (by omega)
  have c2 := hcell2 i (.int .i64 (p : Int)) (by rw [ints_get, HI.out]; rfl)
  have HM := hid hm
  have H0 := hid (((Held.start w).same hm).nil 5 1)
  clear hcell hcell2 ho hfr hm HR
  go_wp2
  go_loopg [5, 7] (p + 1) (fun k t5 t7 wr => ∃ (j : Nat) (so : Option Addr) (sc : Nat), j ≤ p ∧ p - j < k ∧ t7 = .int .i64 ((p : Int) - 1 - (j : Int)) ∧ t5 = .slice so j sc ∧ Hid (Held w wr [ownT 5 1 (.slice so j sc) j (u8s ((hiBits p c).take j))]))
  case atStart => exact ⟨0, none, 0, by omega, by omega, by simp, rfl, H0⟩
  case round =>
    obtain ⟨j, so, sc, hj, hk, rfl, rfl, HH⟩ := hrel
    by_cases hjp : j < p
    · obtain ⟨q, hq⟩ : ∃ q, q = p - 1 - j := ⟨_, rfl⟩
      have hqI : (p : Int) - 1 - (j : Int) = (q : Int) := by omega
      have hq0 : (0 : Int) ≤ (q : Int) := Int.natCast_nonneg _
      have hq15 : q ≤ 15 := by omega
      have HQ := hid hq
      clear hq
      obtain ⟨x, hx⟩ : ∃ x, x = c / 2 ^ q % 2 := ⟨_, rfl⟩
      have hx1 : x ≤ 1 := by rw [hx]; exact shr_rem c q
      have hb1 : ((c : Int) / 2 ^ q).tmod 2 = (x : Int) := by rw [hx]; exact bit_val c q
      have hb2 : (x : Int) % 256 = (x : Int) := by omega
      have HT : Hid (u8s ((hiBits p c).take j) ++ u8s [x] = u8s ((hiBits p c).take (j + 1))) := by
        have hg : (hiBits p c)[j]? = some x := by
          rw [hx, HQ.out]; simp [hiBits, hjp]
        rw [List.take_add_one, hg, u8s_append]; exact hid rfl
      have HX := hid hx
      clear hx
      have HH1 := hid (HH.out.lit 5 1 (u8s [x]) 1 (by decide) rfl).swap
      go_wp2_with ((with_reducible show wpList _ _ _ (⟨some 30, _, _, _, _, _⟩ :: _) _ _); refine wpList_app_held rfl (.tmp 22) (.tmp 29) 23 rfl 5 ii (.int .u8 0) 1 1 Try.underlying23 hii hz0 hz1 hz2 rfl (by decide) _ j (u8s ((hiBits p c).take j)) rfl HH1.out _ 1 (u8s [x]) rfl HH1.out.swap.own.rd (by simp [u8s, Value.oneCell']) (j + 1) rfl (by unfold maxLen; omega) (by omega) ?_; intro ao1 cap1 w3 h1; rw [HT.out] at h1; have HH2 := hid h1.swap.drop; clear h1)
      go_roundg (gk - 1)
      case measure => omega
      case rel => exact ⟨j + 1, ao1, cap1, by omega, by omega, by go_num, rfl, HH2⟩
    · obtain rfl : j = p := by omega
      have hqI : (j : Int) - 1 - (j : Int) = -1 := by omega
      have HF : Hid (Built w wr (.slice so j sc) (hiBits j c)) := by
        have h := HH.out
        rw [List.take_of_length_le (by rw [hiBits_length]; exact Nat.le_refl _)] at h
        refine hid ⟨?_, h.mod, h.fresh⟩
        have h2 := h.own
        rw [hiBits_length]; exact h2
      go_wp2
      go_ret
      exact ⟨_, rfl, HF⟩
end Go.Proofs.Ytpecdappchkdiaa
