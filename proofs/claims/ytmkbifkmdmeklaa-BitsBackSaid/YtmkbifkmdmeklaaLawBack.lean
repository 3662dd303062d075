/-
  The walk of the law BitsBack.
-/
import Derived.Test.YtmkbifkmdmeklaaBitsH2
import Derived.Test.YtmkbifkmdmeklaaArgs
import Derived.Deep.DeepCutAuto
namespace Go.Proofs.Ytmkbifkmdmeklaa
open Go.RowKit

/-- the width of number i -/
def wid (sz : List Nat) (i : Nat) : Nat := sz[i]?.getD 0 % 33
/-- the bits of the first i numbers -/
def packed (l sz : List Nat) : Nat → List Nat
  | 0 => []
  | i + 1 => packed l sz i ++ bitsOf (wid sz i) (l[i]?.getD 0)
theorem wid_le (sz : List Nat) (i : Nat) : wid sz i ≤ 32 := by unfold wid; omega
theorem packed_len (l sz : List Nat) (i : Nat) : (packed l sz i).length ≤ 32 * i := by
  induction i with
  | zero => simp [packed]
  | succ i ih => have := wid_le sz i; simp only [packed, List.length_append, bitsOf_length]; omega
theorem packed_isBits (l sz : List Nat) (i : Nat) : isBits (packed l sz i) := by
  induction i with
  | zero => intro b hb; cases hb
  | succ i ih => exact isBits_append ih (bitsOf_isBits _ _)
theorem packed_pre (l sz : List Nat) (i n : Nat) (h : i ≤ n) : ∃ t, packed l sz n = packed l sz i ++ t := by
  induction n with
  | zero => obtain rfl : i = 0 := by omega
            exact ⟨[], by simp⟩
  | succ n ih =>
    by_cases hi : i = n + 1
    · subst hi; exact ⟨[], by simp⟩
    · obtain ⟨t, ht⟩ := ih (by omega)
      exact ⟨t ++ bitsOf (wid sz n) (l[n]?.getD 0), by rw [packed, ht, List.append_assoc]⟩
/-- what is still to be read ahead of number i -/
def rest (l sz : List Nat) (n i : Nat) : List Nat := (evened (packed l sz n)).drop (packed l sz i).length
theorem rest_step (l sz : List Nat) (n i : Nat) (h : i < n) : rest l sz n i = bitsOf (wid sz i) (l[i]?.getD 0) ++ rest l sz n (i + 1) := by
  obtain ⟨t, ht⟩ := packed_pre l sz (i + 1) n h
  obtain ⟨X, hX⟩ : ∃ X, X = t ++ List.replicate ((8 - (packed l sz n).length % 8) % 8) 0 := ⟨_, rfl⟩
  have hE : evened (packed l sz n) = packed l sz (i + 1) ++ X := by
    rw [evened, hX, ← List.append_assoc, ← ht]
  have h1 : rest l sz n (i + 1) = X := by rw [rest, hE, List.drop_left]
  rw [h1, rest, hE, packed, List.append_assoc, List.drop_left]
theorem rest_take (l sz : List Nat) (n i : Nat) (h : i < n) : (rest l sz n i).take (wid sz i) = bitsOf (wid sz i) (l[i]?.getD 0) := by
  rw [rest_step l sz n i h, List.take_append_of_le_length (by rw [bitsOf_length]; exact Nat.le_refl _), List.take_of_length_le (by rw [bitsOf_length]; exact Nat.le_refl _)]
theorem rest_drop (l sz : List Nat) (n i : Nat) (h : i < n) : (rest l sz n i).drop (wid sz i) = rest l sz n (i + 1) := by
  rw [rest_step l sz n i h, List.drop_append, bitsOf_length, List.drop_eq_nil_of_le (by rw [bitsOf_length]; exact Nat.le_refl _), Nat.sub_self]; rfl
theorem rest_zero (l sz : List Nat) (n : Nat) : rest l sz n 0 = evened (packed l sz n) := rfl
theorem feed_more (b : List Nat) (at' e : Nat) (h : at' ≤ e) : bits8 ((b.drop at').take (e - at')) ++ bits8 (b.drop e) = bits8 (b.drop at') := by
  rw [← bits8_append]
  congr 1
  have h1 : b.drop e = (b.drop at').drop (e - at') := by rw [List.drop_drop]; congr 1; omega
  rw [h1, List.take_append_drop]

/-- inside: the reader holds R, the bytes from at on are still to be fed; the number has been got, or not yet. -/
def BkIn (w : World) (Br m : Nat) (b : Value) (bs : List Nat) (rest : List Nat) (size k : Nat) (Rs : List Thing) (t10 t16 t17 : Value) (wr : World) : Prop :=
  ∃ (at' : Nat) (R : List Nat), at' ≤ m ∧ m - at' ≤ k ∧ t10 = .int .i64 (at' : Int) ∧ Held w wr (rdrT Br R :: ownT 5 1 b m (u8s bs) :: Rs) ∧
    ((t17 = .bool false ∧ t16 = .int .u32 0 ∧ R.length < size ∧ R ++ bits8 (bs.drop at') = rest) ∨ (t17 = .bool true ∧ t16 = .int .u32 ((numOf (rest.take size) : Nat) : Int) ∧ R ++ bits8 (bs.drop at') = rest.drop size))

theorem back_long (l : List Nat) (sv : Value) (lv : Value) (part : Int) (w : World) (hl : Rd w 1 lv l.length (nums .u32 l)) (hs : ∃ ao n cap, sv = .slice ao n cap) (hn : 300 < l.length) :
    Calls Try.prog 5 #[lv, sv, .int .u8 part] w fun e w' => e = .returned (.bool true) ∧ Below w.heap.size w w' := by
  obtain ⟨ao, cap, rfl, _, _⟩ := hl.form
  obtain ⟨so, sn, sc, rfl⟩ := hs
  have hd : (300 : Int) < (l.length : Int) := by omega
  go_enter Try.func5, Try.ntmps5
  go_wp2_with fail
  refine (h_newW (Held.start w)).mono ?_
  rintro e w1 ⟨Bw, rfl, H1⟩
  go_wp2_with fail
  refine (h_newR H1).mono ?_
  rintro e w2 ⟨Br, rfl, H2⟩
  go_wp2_with fail
  refine (h_answers H2).mono ?_
  rintro e w3 ⟨rfl, H3⟩
  go_wp2_with fail
  refine (h_answers H3).mono ?_
  rintro e w4 ⟨rfl, H4⟩
  go_wp2
  go_ret
  exact ⟨rfl, H4.below⟩

set_option maxRecDepth 100000 in
set_option maxHeartbeats 3200000 in
theorem back_walk (l sz : List Nat) (lv sv : Value) (part : Nat) (w : World) (hl : Rd w 1 lv l.length (nums .u32 l)) (hs : Rd w 1 sv sz.length (u8s sz)) (hl32 : ∀ x ∈ l, x < 4294967296) (hs8 : ∀ x ∈ sz, x < 256) (hp : part < 256) (hn : l.length ≤ 300) (hsl : sz.length ≤ maxLen) :
    Calls Try.prog 5 #[lv, sv, .int .u8 (part : Int)] w fun e w' => e = .returned (.bool true) ∧ Below w.heap.size w w' := by
  obtain ⟨ao, cap, rfl, _, _⟩ := hl.form
  obtain ⟨so, sc, rfl, _, _⟩ := hs.form
  obtain ⟨n, hnn⟩ : ∃ n, n = l.length := ⟨_, rfl⟩
  obtain ⟨sn, hsn⟩ : ∃ sn, sn = sz.length := ⟨_, rfl⟩
  rw [← hnn] at hl hn ⊢
  rw [← hsn] at hs hsl ⊢
  unfold maxLen at hsl
  have HN := hid hnn
  have HS := hid hsn
  have hd : ¬ (300 : Int) < (n : Int) := by omega
  obtain ⟨pn, hpn⟩ : ∃ pn, pn = part % 9 + 1 := ⟨_, rfl⟩
  have hpn0 : 0 < pn := by omega
  have hpnb : pn ≤ 9 := by omega
  have hpnI : (part : Int) % 9 + 1 = (pn : Int) := by omega
  clear hnn hsn hpn
  go_enter Try.func5, Try.ntmps5
  go_wp2_with fail
  refine (h_newW (Held.start w)).mono ?_
  rintro e w1 ⟨Bw, rfl, H1⟩
  go_wp2_with fail
  refine (h_newR H1).mono ?_
  rintro e w2 ⟨Br, rfl, H2⟩
  go_wp2_with fail
  refine (h_answers H2).mono ?_
  rintro e w3 ⟨rfl, H3⟩
  go_wp2
  go_loopg [12] n (fun k t12 wr => ∃ i : Nat, i ≤ n ∧ n - i ≤ k ∧ t12 = .int .i64 (i : Int) ∧ Held w wr [rdrT Br [], wrT Bw (packed l sz i)])
  case atStart => exact ⟨0, by omega, by omega, rfl, H3⟩
  case round =>
    obtain ⟨i, hi, hk, rfl, HR⟩ := hrel
    have hpl := packed_len l sz i
    by_cases hin : i < n
    · obtain ⟨g, off, rfl, hcell⟩ := (HR.old hl).spot (by omega)
      obtain ⟨x, hx⟩ : ∃ x, l[i]? = some x := ⟨l[i]'(by have := HN.out; omega), List.getElem?_eq_getElem _⟩
      have hx32 := hl32 x (List.mem_of_getElem? hx)
      have hc1 : wr.cell? ⟨g, off + i, none⟩ = some (.int .u32 (x : Int)) := hcell i _ (by rw [nums_get, hx]; rfl)
      have hi0 : (0 : Int) ≤ (i : Int) := Int.natCast_nonneg _
      have hi1 : (i : Int) < (n : Int) := by omega
      obtain ⟨z, hz⟩ : ∃ z, z = wid sz i := ⟨_, rfl⟩
      have hz32 : z ≤ 32 := by rw [hz]; exact wid_le sz i
      have HPK : Hid (packed l sz (i + 1) = packed l sz i ++ bitsOf z x) := by rw [hz]; simp [Hid, packed, hx]
      by_cases his : i < sn
      · obtain ⟨g2, off2, rfl, hcell2⟩ := (HR.old hs).spot (by omega)
        obtain ⟨y, hy⟩ : ∃ y, sz[i]? = some y := ⟨sz[i]'(by have := HS.out; omega), List.getElem?_eq_getElem _⟩
        have hy256 := hs8 y (List.mem_of_getElem? hy)
        have hc2 : wr.cell? ⟨g2, off2 + i, none⟩ = some (.int .u8 (y : Int)) := hcell2 i _ (by rw [u8s_get, hy]; rfl)
        have hi2 : (i : Int) < (sn : Int) := by omega
        have hzy : z = y % 33 := by rw [hz, wid, hy]; rfl
        have hyz : (y : Int) % 33 = (z : Int) := by omega
        clear hx hcell hcell2 hy hz hzy
        go_wp2_with fail
        refine (h_put HR.swap x z hx32 hz32 (by omega)).mono ?_
        rintro e w4 ⟨rfl, H4⟩
        go_wp2
        go_roundg (gk - 1)
        case measure => omega
        case rel => exact ⟨i + 1, by omega, by omega, by go_num, by rw [HPK.out]; exact H4.swap⟩
      · have hi2 : ¬ (i : Int) < (sn : Int) := by omega
        have hz0 : z = 0 := by rw [hz, wid, List.getElem?_eq_none (by have := HS.out; omega)]; rfl
        subst hz0
        clear hx hcell hz
        go_wp2_with fail
        refine (h_put HR.swap x 0 hx32 (by decide) (by omega)).mono ?_
        rintro e w4 ⟨rfl, H4⟩
        go_wp2
        go_roundg (gk - 1)
        case measure => omega
        case rel => exact ⟨i + 1, by omega, by omega, by go_num, by rw [HPK.out]; exact H4.swap⟩
    · obtain rfl : i = n := by omega
      have hel := evened_le (packed l sz i)
      have heb := evened_isBits (packed_isBits l sz i)
      obtain ⟨bs, hbs⟩ : ∃ bs, bs = bytesOf (evened (packed l sz i)) := ⟨_, rfl⟩
      have hbs256 : ∀ b ∈ bs, b < 256 := by rw [hbs]; exact bytesOf_lt _ heb
      have hb8 : bits8 bs = evened (packed l sz i) := by rw [hbs]; exact bits8_bytesOf _ heb (evened_length _)
      have HBS := hid hbs
      have HB8 := hid hb8
      obtain ⟨m, hm⟩ : ∃ m, m = bs.length := ⟨_, rfl⟩
      have hmb : m < 2000 := by have := congrArg List.length hb8; rw [bits8_length] at this; omega
      have HM := hid hm
      clear hbs hb8 hm hk
      go_wp2_with fail
      refine (h_walign HR.swap (by omega)).mono ?_
      rintro e w4 ⟨rfl, H4⟩
      go_wp2_with fail
      refine (h_take H4).mono ?_
      rw [← HBS.out, ← HM.out]
      rintro e w5 ⟨bv, rfl, H5⟩
      obtain ⟨bo, bc, rfl, _, _⟩ := H5.own.form
      have H6 := H5.third
      obtain ⟨Rs, hRs⟩ : ∃ Rs, Held w w5 (rdrT Br [] :: ownT 5 1 (.slice bo m bc) m (u8s bs) :: Rs) := ⟨_, H6⟩
      clear H6 H5 H4 HR
      go_wp2
      go_loopg [10, 14] i (fun k t10 t14 wr => ∃ (j at' : Nat) (R : List Nat), j ≤ i ∧ i - j ≤ k ∧ at' ≤ m ∧ t10 = .int .i64 (at' : Int) ∧ t14 = .int .i64 (j : Int) ∧ Hid (R ++ bits8 (bs.drop at') = rest l sz i j) ∧
        Held w wr (rdrT Br R :: ownT 5 1 (.slice bo m bc) m (u8s bs) :: Rs))
      case atStart => exact ⟨0, 0, [], Nat.zero_le _, by omega, Nat.zero_le _, rfl, rfl, by rw [Hid, rest_zero, ← HB8.out]; rfl, hRs⟩
      case round =>
        obtain ⟨j, at', R, hj, hk, hat', rfl, rfl, HRt, HR⟩ := hrel
        have hRl : R.length < 20000 := by
          have h1 := congrArg List.length HRt.out
          have h2 : (rest l sz i j).length ≤ (evened (packed l sz i)).length := by rw [rest, List.length_drop]; omega
          rw [List.length_append] at h1; omega
        by_cases hji : j < i
        · obtain ⟨g, off, rfl, hcell⟩ := hl.spot (by omega)
          obtain ⟨x, hx⟩ : ∃ x, l[j]? = some x := ⟨l[j]'(by have := HN.out; omega), List.getElem?_eq_getElem _⟩
          have hx32 := hl32 x (List.mem_of_getElem? hx)
          have hg : g < w.heap.size := World.block_lt_of_cell? w _ (hcell j (.int .u32 (x : Int)) (by rw [nums_get, hx]; rfl))
          have hcA : ∀ wz Rz, Held w wz Rz → wz.cell? ⟨g, off + j, none⟩ = some (.int .u32 (x : Int)) := fun wz Rz hz => by rw [hz.mod.cell hg (fun h => h)]; exact hcell j _ (by rw [nums_get, hx]; rfl)
          have HC := hid hcA
          have hj0 : (0 : Int) ≤ (j : Int) := Int.natCast_nonneg _
          have hj1 : (j : Int) < (i : Int) := by omega
          obtain ⟨z, hz⟩ : ∃ z, z = wid sz j := ⟨_, rfl⟩
          have hz32 : z ≤ 32 := by rw [hz]; exact wid_le sz j
          have hxj : l[j]?.getD 0 = x := by rw [hx]; rfl
          have hnum : numOf ((rest l sz i j).take z) = x % 2 ^ z := by rw [hz, rest_take l sz i j hji, numOf_bitsOf, hxj]
          have hdrp : (rest l sz i j).drop z = rest l sz i (j + 1) := by rw [hz, rest_drop l sz i j hji]
          have hrl : z ≤ (rest l sz i j).length := by rw [hz, rest_step l sz i j hji, List.length_append, bitsOf_length]; omega
          obtain ⟨q, hq⟩ : ∃ q, q = x % 2 ^ z := ⟨_, rfl⟩
          have hq32 : q < 4294967296 := by rw [hq]; exact Nat.lt_of_le_of_lt (Nat.mod_le _ _) hx32
          have hwant : (x : Int) % IntKind.u64.wrap (2 ^ z) = (q : Int) := by
            have h1 : (2 : Nat) ^ z ≤ 2 ^ 32 := Nat.pow_le_pow_right (by decide) hz32
            rw [two_pow_int, IntWalk.u64_in _ (by omega), hq]; exact (Int.natCast_emod _ _).symm
          rw [← hq] at hnum
          have HNum := hid hnum
          have HDrp := hid hdrp
          have HRL := hid hrl
          have HWant := hid hwant
          clear hcA hcell hx hxj hnum hdrp hrl hq hwant
          have HZ := hid hz
          clear hz
          go_upto_if 86 with (fail)
          go_cut [15] (fun s15 wx => s15 = .int .i64 (z : Int) ∧ wx = wr)
          case first =>
            by_cases his : j < sn
            · obtain ⟨g2, off2, rfl, hcell2⟩ := (HR.old hs).spot (by omega)
              obtain ⟨y, hy⟩ : ∃ y, sz[j]? = some y := ⟨sz[j]'(by have := HS.out; omega), List.getElem?_eq_getElem _⟩
              have hy256 := hs8 y (List.mem_of_getElem? hy)
              have hc2 : wr.cell? ⟨g2, off2 + j, none⟩ = some (.int .u8 (y : Int)) := hcell2 j _ (by rw [u8s_get, hy]; rfl)
              have hi2 : (j : Int) < (sn : Int) := by omega
              have hzy : z = y % 33 := by rw [HZ.out, wid, hy]; rfl
              have hyz : (y : Int) % 33 = (z : Int) := by omega
              clear hcell2 hy hzy
              go_wp2
              go_meet
              exact ⟨rfl, rfl⟩
            · have hi2 : ¬ (j : Int) < (sn : Int) := by omega
              have hz0 : z = 0 := by rw [HZ.out, wid, List.getElem?_eq_none (by have := HS.out; omega)]; rfl
              go_wp2
              go_meet
              rw [hz0]
              exact ⟨rfl, rfl⟩
          case rest =>
            obtain ⟨rfl, rfl⟩ := hcut
            have hbk : BkIn w Br m (.slice bo m bc) bs (rest l sz i j) z m Rs (.int .i64 (at' : Int)) (.int .u32 0) (.bool false) wc ∨ z ≤ R.length := by
              by_cases h : z ≤ R.length
              · exact .inr h
              · exact .inl ⟨at', R, hat', by omega, rfl, HR, .inl ⟨rfl, rfl, by omega, HRt.out⟩⟩
            go_upto_region 22 with (fail)
            go_cut [16, 17] (fun s16 s17 wx => BkIn w Br m (.slice bo m bc) bs (rest l sz i j) z m Rs (.int .i64 (at' : Int)) s16 s17 wx)
            case first =>
              by_cases hRz : z ≤ R.length
              · have hRt : numOf (R.take z) = q := by
                  rw [← HNum.out, ← HRt.out, List.take_append_of_le_length hRz]
                have HRq := hid hRt
                have hRd : R.drop z ++ bits8 (bs.drop at') = (rest l sz i j).drop z := by rw [← HRt.out, List.drop_append_of_le_length hRz]
                have HRd := hid hRd
                clear hRt hRd hbk
                go_wp2_with fail
                refine (h_get HR z hz32 hRz (by omega)).mono ?_
                rw [HRq.out]
                rintro e w6 ⟨rfl, H6⟩
                go_wp2
                go_meet
                exact ⟨at', R.drop z, hat', by omega, rfl, H6, .inr ⟨rfl, by rw [HNum.out], HRd.out⟩⟩
              · have HRt' := HRt
                clear hbk
                go_wp2_with fail
                refine (h_get_few HR z hz32 (by omega)).mono ?_
                rintro e w6 ⟨rfl, H6⟩
                go_wp2
                go_meet
                exact ⟨at', R, hat', by omega, rfl, H6, .inl ⟨rfl, rfl, by omega, HRt'.out⟩⟩
            case rest =>
              clear hbk HRt HR hRl
              go_wp2_with fail
              go_loopg [10, 16, 17] m (fun k t10 t16 t17 wx => BkIn w Br m (.slice bo m bc) bs (rest l sz i j) z k Rs t10 t16 t17 wx)
              case atStart => exact hcut
              case round =>
                obtain ⟨a2, R2, ha2, hk2, rfl, HR2, hcase⟩ := hrel
                rcases hcase with ⟨rfl, rfl, hR2z, hR2r⟩ | ⟨rfl, rfl, hR2r⟩
                · have HRt := hid hR2r
                  clear hR2r
                  have ham : a2 < m := by
                    have h1 := congrArg List.length HRt.out
                    rw [List.length_append, bits8_length, List.length_drop, ← HM.out] at h1
                    have h2 := HRL.out
                    omega
                  obtain ⟨en, hen⟩ : ∃ en, en = min (a2 + pn) m := ⟨_, rfl⟩
                  have hen1 : a2 < en := by omega
                  have hen2 : en ≤ m := by omega
                  have HEn := hid hen
                  clear hen
                  go_upto_if 113 with (fail)
                  go_cut [18] (fun s18 wx => s18 = .int .i64 (en : Int) ∧ wx = wr)
                  case first =>
                    by_cases hov : a2 + pn ≤ m
                    · have hov' : ¬ (m : Int) < (a2 : Int) + (pn : Int) := by omega
                      have he : (a2 : Int) + (pn : Int) = (en : Int) := by have := HEn.out; omega
                      have HE := hid he
                      clear he
                      go_wp2
                      go_meet
                      exact ⟨by rw [HE.out], rfl⟩
                    · have hov' : (m : Int) < (a2 : Int) + (pn : Int) := by omega
                      have he : (m : Int) = (en : Int) := by have := HEn.out; omega
                      have HE := hid he
                      clear he
                      go_wp2
                      go_meet
                      exact ⟨by rw [HE.out], rfl⟩
                  case rest =>
                    obtain ⟨rfl, rfl⟩ := hcut
                    have hbrd := HR2.swap.own.rd
                    have hFd : (R2 ++ bits8 ((bs.drop a2).take (en - a2))) ++ bits8 (bs.drop en) = rest l sz i j := by
                      rw [List.append_assoc, feed_more bs a2 en (by omega), HRt.out]
                    obtain ⟨R3, hR3⟩ : ∃ R3, R3 = R2 ++ bits8 ((bs.drop a2).take (en - a2)) := ⟨_, rfl⟩
                    rw [← hR3] at hFd
                    have hR3l : R3.length < 20000 := by
                      have h1 := congrArg List.length hFd
                      have h2 : (rest l sz i j).length ≤ (evened (packed l sz i)).length := by rw [rest, List.length_drop]; omega
                      rw [List.length_append] at h1; omega
                    have HFd := hid hFd
                    have HR3 := hid hR3
                    have hcutl : ((u8s bs).drop (a2 * 1)).take ((en - a2) * 1) = u8s ((bs.drop a2).take (en - a2)) := by simp [u8s]
                    have HCut := hid hcutl
                    have hea : en - a2 < 1099511627776 := by omega
                    have h256 : ∀ b ∈ (bs.drop a2).take (en - a2), b < 256 := fun b hb => hbs256 b (List.mem_of_mem_drop (List.mem_of_mem_take hb))
                    have H256 := hid h256
                    clear hFd hR3 hcutl h256
                    obtain ⟨ii, hii, _, hii1, _⟩ := info_parts Try.infoByteR
                    go_wp2_with (first
                      | ((with_reducible show wpList _ _ _ (⟨some 120, _, _, _, _, _⟩ :: _) _ _); refine wpList_cut_rd rfl 26 (.tmp 117) (some (.tmp 118)) (some (.tmp 119)) rfl 5 ii 1 Try.underlying26 hii hii1 bo m bc a2 en (u8s bs) rfl hbrd ⟨_, rfl⟩ ⟨_, rfl⟩ (by omega) hen2 ?_; rw [HCut.out]; intro a' hrd' hbl')
                      | fail)
                    refine (h_feed HR2 _ (en - a2) _ hrd' H256.out hea (by omega)).mono ?_
                    rw [← HR3.out]
                    rintro e w7 ⟨rfl, H7⟩
                    go_wp2_with fail
                    by_cases hRz : z ≤ R3.length
                    · have hRt : numOf (R3.take z) = q := by
                        rw [← HNum.out, ← HFd.out, List.take_append_of_le_length hRz]
                      have hRd : R3.drop z ++ bits8 (bs.drop en) = (rest l sz i j).drop z := by rw [← HFd.out, List.drop_append_of_le_length hRz]
                      have HRd := hid hRd
                      have HRt3 := hid hRt
                      clear hRt hRd
                      refine (h_get H7 z hz32 hRz (by omega)).mono ?_
                      rw [HRt3.out]
                      rintro e w8 ⟨rfl, H8⟩
                      go_wp2
                      go_roundg (gk - 1)
                      case measure => omega
                      case rel => exact ⟨en, R3.drop z, hen2, by omega, rfl, H8, .inr ⟨rfl, by rw [HNum.out], HRd.out⟩⟩
                    · refine (h_get_few H7 z hz32 (by omega)).mono ?_
                      rintro e w8 ⟨rfl, H8⟩
                      go_wp2
                      go_roundg (gk - 1)
                      case measure => omega
                      case rel => exact ⟨en, R3, hen2, by omega, rfl, H8, .inl ⟨rfl, rfl, by omega, HFd.out⟩⟩
                · have hc := HC.out _ _ HR2
                  have hqq : ((q : Int) != (q : Int)) = false := by simp
                  have HRn := hid (hR2r.trans HDrp.out)
                  rw [HNum.out]
                  have hwant := HWant.out
                  have hnz : ¬ IntKind.u64.wrap (2 ^ z) = 0 := by
                    have h1 : (2 : Nat) ^ z ≤ 2 ^ 32 := Nat.pow_le_pow_right (by decide) hz32
                    have h2 : 0 < (2 : Nat) ^ z := Nat.two_pow_pos z
                    rw [two_pow_int, IntWalk.u64_in _ (by omega)]; omega
                  clear hR2r
                  go_wp2
                  go_roundg (i - (j + 1))
                  case measure => omega
                  case rel => exact ⟨j + 1, a2, R2, by omega, by omega, ha2, rfl, by go_num, HRn.out, HR2⟩
        · go_wp2
          go_ret
          exact ⟨rfl, HR.below⟩
end Go.Proofs.Ytmkbifkmdmeklaa
