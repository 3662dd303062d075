/-
  The walk of the law BitsWhole.
-/
import Derived.Test.YtmkbifkmdmeklaaBitsH2
import Derived.Test.YtmkbifkmdmeklaaArgs
namespace Go.Proofs.Ytmkbifkmdmeklaa
open Go.RowKit

/-- what is ahead of the bytes: nothing, or one byte -/
theorem ahead_list (a : Nat) (ha : a < 8) : ∃ pre : List Nat, evened (bitsOf a 1) = bits8 pre ∧ pre.length ≤ 1 ∧ (∀ b ∈ pre, b < 256) := by
  by_cases h : a = 0
  · subst h; exact ⟨[], by simp [bitsOf, evened, bits8], by simp, by simp⟩
  · refine ⟨[1], ?_, by simp, by simp⟩
    have h1 := align_list (bs := []) (s := 1) (c := a) (Nat.one_lt_two_pow h) ha h
    simp only [bits8_nil, List.nil_append] at h1
    rw [← h1, bits8_cons, bits8_nil, List.append_nil]
theorem even_bits8 (l : List Nat) : evened (bits8 l) = bits8 l := even_done
theorem two_bytes (x y : Nat) (hx : x < 256) : bitsOf 16 (x + 256 * y) = bitsOf 8 x ++ bitsOf 8 y := bitsOf_join 8 8 x y hx

set_option maxHeartbeats 3200000 in
theorem whole_walk (bv : Value) (b : List Nat) (ah : Nat) (w : World) (hb : Rd w 1 bv b.length (u8s b)) (hb256 : ∀ x ∈ b, x < 256) (hah : ah < 256) (hbl : b.length ≤ 1000) :
    Calls Try.prog 7 #[bv, .int .u8 (ah : Int)] w fun e w' => e = .returned (.bool true) ∧ Below w.heap.size w w' := by
  obtain ⟨ao, cap, rfl, _, _⟩ := hb.form
  obtain ⟨n, hn⟩ : ∃ n, n = b.length := ⟨_, rfl⟩
  rw [← hn] at hb hbl ⊢
  have HN := hid hn
  obtain ⟨a, ha⟩ : ∃ a, a = ah % 8 := ⟨_, rfl⟩
  have ha8 : a < 8 := by omega
  have haI : (ah : Int) % 8 = (a : Int) := by omega
  have HA := hid haI
  obtain ⟨pre, hpre, hprel, hpre256⟩ := ahead_list a ha8
  have HP := hid hpre
  have hd : ¬ (1000 : Int) < (n : Int) := by omega
  clear hn ha hpre
  go_enter Try.func7, Try.ntmps7
  go_wp2_with fail
  refine (h_newW (Held.start w)).mono ?_
  rintro e w1 ⟨Bx, rfl, H1⟩
  go_wp2_with fail
  refine (h_newW H1).mono ?_
  rintro e w2 ⟨By, rfl, H2⟩
  go_wp2_with fail
  refine (h_put H2.swap 1 a (by decide) (by omega) (by simp)).mono ?_
  rintro e w3 ⟨rfl, H3⟩
  go_wp2_with fail
  refine (h_put H3.swap 1 a (by decide) (by omega) (by simp)).mono ?_
  rintro e w4 ⟨rfl, H4⟩
  simp only [List.nil_append] at H4
  go_wp2_with fail
  refine (h_walign H4.swap (by rw [bitsOf_length]; omega)).mono ?_
  rintro e w5 ⟨rfl, H5⟩
  go_wp2_with fail
  refine (h_walign H5.swap (by rw [bitsOf_length]; omega)).mono ?_
  rintro e w6 ⟨rfl, H6⟩
  rw [HP.out] at H6
  go_wp2_with fail
  refine (h_write_old H6.swap (.slice ao n cap) n b hb hb256 (by omega) (by rw [bits8_length]; omega)).mono ?_
  rw [even_bits8]
  rintro e w7 ⟨rfl, H7⟩
  go_wp2
  go_loopg [7] n (fun k t7 wr => ∃ i : Nat, i ≤ n + 1 ∧ n - i ≤ k ∧ t7 = .int .i64 (i : Int) ∧ Held w wr [wrT By (bits8 pre ++ bits8 (b.take i)), wrT Bx (bits8 pre ++ bits8 b)])
  case atStart => exact ⟨0, by omega, by omega, rfl, by simpa [bits8] using H7.swap⟩
  case round =>
    obtain ⟨i, hi, hk, rfl, HR⟩ := hrel
    have hlen : (bits8 pre ++ bits8 (b.take i)).length < 9000 := by
      rw [List.length_append, bits8_length, bits8_length, List.length_take, ← HN.out]; omega
    by_cases hin : i < n
    · obtain ⟨g, off, rfl, hcell⟩ := (HR.old hb).spot (by omega)
      obtain ⟨x, hx⟩ : ∃ x, b[i]? = some x := ⟨b[i]'(by have := HN.out; omega), List.getElem?_eq_getElem _⟩
      have hx256 := hb256 x (List.mem_of_getElem? hx)
      have hc1 : wr.cell? ⟨g, off + i, none⟩ = some (.int .u8 (x : Int)) := hcell i _ (by rw [u8s_get, hx]; rfl)
      have HX := hid (take_snoc' b i x hx)
      have hi0 : (0 : Int) ≤ (i : Int) := Int.natCast_nonneg _
      have hi1 : (i : Int) < (n : Int) := by omega
      by_cases hin1 : i + 1 < n
      · obtain ⟨y, hy⟩ : ∃ y, b[i + 1]? = some y := ⟨b[i + 1]'(by have := HN.out; omega), List.getElem?_eq_getElem _⟩
        have hy256 := hb256 y (List.mem_of_getElem? hy)
        have hc2 : wr.cell? ⟨g, off + (i + 1), none⟩ = some (.int .u8 (y : Int)) := hcell (i + 1) _ (by rw [u8s_get, hy]; rfl)
        have HY := hid (take_snoc' b (i + 1) y hy)
        have hi2 : (i : Int) + 1 < (n : Int) := by omega
        clear hx hy hcell
        go_wp2
        have hw1 : IntKind.i64.wrap ((i : Int) + 1) = (i : Int) + 1 := IntWalk.i64_in _ (by omega)
        have hw2 : (0 : Int) ≤ (i : Int) + 1 := by omega
        have hw3 : ((i : Int) + 1).toNat = i + 1 := by omega
        refine wp_region_still_tail 14 (by kernel_rfl) (by kernel_rfl) ?_
        simp only [List.take_succ_cons, List.take_zero, List.drop_succ_cons, List.drop_zero]
        change wpStill _ _ wr.drew _ _ _
        iterate 14 still_step
        refine wpStill_nil ?_
        clear hw1 hw2 hw3
        go_wp2_with fail
        rw [show ((x : Int) + 256 * (y : Int)) = ((x + 256 * y : Nat) : Int) by omega]
        refine (h_put HR.drew (x + 256 * y) 16 (by omega) (by decide) (by omega)).mono ?_
        rw [two_bytes x y hx256]
        rintro e w8 ⟨rfl, H8⟩
        go_wp2
        go_roundg (gk - 1)
        case measure => omega
        case rel =>
          refine ⟨i + 2, by omega, by omega, by go_num, ?_⟩
          rw [show i + 2 = i + 1 + 1 by omega, HY.out, HX.out, bits8_append, bits8_append, bits8_cons, bits8_cons, bits8_nil, List.append_nil, List.append_nil]
          simpa only [List.append_assoc] using H8
      · have hi2 : ¬ (i : Int) + 1 < (n : Int) := by omega
        clear hx hcell
        go_wp2_with fail
        refine (h_put HR x 8 (by omega) (by decide) (by omega)).mono ?_
        rintro e w8 ⟨rfl, H8⟩
        go_wp2
        go_roundg (gk - 1)
        case measure => omega
        case rel =>
          refine ⟨i + 2, by omega, by omega, by go_num, ?_⟩
          have h1 : b.take (i + 2) = b.take (i + 1) := by rw [List.take_of_length_le (by have := HN.out; omega), List.take_of_length_le (by have := HN.out; omega)]
          rw [h1, HX.out, bits8_append, bits8_cons, bits8_nil, List.append_nil]
          simpa only [List.append_assoc] using H8
    · have htk : b.take i = b := List.take_of_length_le (by have := HN.out; omega)
      have hPb : bytesOf (bits8 pre ++ bits8 b) = pre ++ b := by
        rw [← bits8_append]
        have := bytesOf_bits8 (pre ++ b) [] (fun z hz => (List.mem_append.1 hz).elim (hpre256 z) (hb256 z)) (by decide)
        rwa [List.append_nil] at this
      rw [htk] at HR
      have HPB := hid hPb
      clear hPb htk
      obtain ⟨m, hm⟩ : ∃ m, m = pre.length + n := ⟨_, rfl⟩
      have hm2 : (pre ++ b).length = m := by rw [List.length_append, hm, HN.out]
      have HM := hid hm
      have HM2 := hid hm2
      have hmb : m ≤ 1001 := by omega
      clear hm hm2
      go_wp2_with fail
      refine (h_take HR.swap).mono ?_
      rw [HPB.out, HM2.out]
      rintro e w8 ⟨p, rfl, H8⟩
      obtain ⟨po, pc, rfl, _, _⟩ := H8.own.form
      go_wp2_with fail
      refine (h_take H8.third).mono ?_
      rw [HPB.out, HM2.out]
      rintro e w9 ⟨q, rfl, H9⟩
      obtain ⟨qo, qc, rfl, _, _⟩ := H9.own.form
      go_wp2_with fail
      refine (h_newR H9.third).mono ?_
      rintro e w10 ⟨Br, rfl, H10⟩
      go_wp2_with fail
      refine (h_newR H10).mono ?_
      rintro e w11 ⟨Bs, rfl, H11⟩
      go_wp2_with fail
      refine (h_feed H11.swap (.slice po m pc) m (pre ++ b) H11.third.own.rd ?_ (by omega) (by simp)).mono ?_
      · exact fun z hz => (List.mem_append.1 hz).elim (hpre256 z) (hb256 z)
      simp only [List.nil_append]
      rintro e w12 ⟨rfl, H12⟩
      go_wp2_with fail
      refine (h_feed H12.swap (.slice qo m qc) m (pre ++ b) H12.fourth.own.rd ?_ (by omega) (by simp)).mono ?_
      · exact fun z hz => (List.mem_append.1 hz).elim (hpre256 z) (hb256 z)
      simp only [List.nil_append]
      rintro e w13 ⟨rfl, H13⟩
      go_wp2_with fail
      obtain ⟨c0, hc0⟩ : ∃ c0, c0 = pre.length := ⟨_, rfl⟩
      have hmn : (m : Int) - (n : Int) = (c0 : Int) := by have := HM.out; omega
      have hdr : (pre ++ b).drop c0 = b := by rw [hc0]; simp
      have hc0m : c0 ≤ (pre ++ b).length := by rw [hc0]; simp
      have HD := hid hdr
      have hpb256 : ∀ z ∈ pre ++ b, z < 256 := fun z hz => (List.mem_append.1 hz).elim (hpre256 z) (hb256 z)
      rw [hmn]
      have HMN := hid hmn
      clear hmn hdr hc0
      refine (h_read8 H13.swap hpb256 (c0 : Int) c0 (by omega) (by have := HM2.out; omega)).mono ?_
      rw [HD.out]
      rintro e w14 ⟨v14, rfl, H14⟩
      go_wp2_with fail
      rw [HMN.out]
      refine (h_read8 H14.third hpb256 (c0 : Int) c0 (by omega) (by have := HM2.out; omega)).mono ?_
      rw [HD.out]
      rintro e w15 ⟨v15, rfl, H15⟩
      go_wp2_with fail
      refine (h_read8 H15.fourth hb256 ((n : Int) + 9) n (by have := HN.out; omega) (by have := HN.out; omega)).mono ?_
      rw [List.take_of_length_le (by have := HN.out; omega), List.drop_eq_nil_of_le (by have := HN.out; omega)]
      rintro e w16 ⟨z, rfl, H16⟩
      obtain ⟨zo, zc, rfl, _, _⟩ := H16.own.form
      go_wp2
      have H17 := ((((H16.swap.drop).swap.drop).third).drop).swap
      have hdz : b.drop 0 = b := rfl
      rw [← hdz] at H17
      clear hdz
      obtain ⟨Rs, hRs⟩ : ∃ Rs, Held w w16 (rdrT Bs (bits8 (b.drop 0)) :: ownT 5 1 (.slice zo n zc) n (u8s b) :: ownT 5 1 (.slice po m pc) m (u8s (pre ++ b)) :: ownT 5 1 (.slice qo m qc) m (u8s (pre ++ b)) :: Rs) := ⟨_, H17⟩
      clear H17 H16 H15 H14 H13 H12 H11 H10 H9 H8 HR H7 H6 H5 H4 H3 H2 H1
      go_loopg [13] n (fun k t13 wr => ∃ i : Nat, i ≤ n ∧ n - i ≤ k ∧ t13 = .int .i64 (i : Int) ∧ Held w wr (rdrT Bs (bits8 (b.drop i)) :: ownT 5 1 (.slice zo n zc) n (u8s b) :: ownT 5 1 (.slice po m pc) m (u8s (pre ++ b)) :: ownT 5 1 (.slice qo m qc) m (u8s (pre ++ b)) :: Rs))
      case atStart => exact ⟨0, Nat.zero_le _, by omega, rfl, hRs⟩
      case round =>
        obtain ⟨i, hi, hk, rfl, HR⟩ := hrel
        by_cases hin : i < n
        · obtain ⟨g, off, rfl, _⟩ := hb.spot (by omega)
          obtain ⟨x, hx⟩ : ∃ x, b[i]? = some x := ⟨b[i]'(by have := HN.out; omega), List.getElem?_eq_getElem _⟩
          have hx256 := hb256 x (List.mem_of_getElem? hx)
          have hbd : bits8 (b.drop i) = bitsOf 8 x ++ bits8 (b.drop (i + 1)) := by
            have h1 := (List.getElem?_eq_some_iff.1 hx)
            rw [List.drop_eq_getElem_cons h1.1, bits8_cons, h1.2]
          have hnum : numOf ((bits8 (b.drop i)).take 8) = x := by
            rw [hbd, List.take_append_of_le_length (by rw [bitsOf_length]; exact Nat.le_refl _), List.take_of_length_le (by rw [bitsOf_length]; exact Nat.le_refl _), numOf_bitsOf]; omega
          have hdrp : (bits8 (b.drop i)).drop 8 = bits8 (b.drop (i + 1)) := by
            rw [hbd, List.drop_append, bitsOf_length, List.drop_eq_nil_of_le (by rw [bitsOf_length]; exact Nat.le_refl _)]; rfl
          have hl8 : 8 ≤ (bits8 (b.drop i)).length := by rw [bits8_length, List.length_drop]; have := HN.out; omega
          have hl9 : (bits8 (b.drop i)).length < 1099511600000 := by rw [bits8_length, List.length_drop]; have := HN.out; omega
          have HNum := hid hnum
          have HDr := hid hdrp
          have HX := hid hx
          have hxx : ((x : Int) != (x : Int)) = false := by simp
          have hi0 : (0 : Int) ≤ (i : Int) := Int.natCast_nonneg _
          have hi1 : (i : Int) < (n : Int) := by omega
          have hxm : (x : Int) % 256 = (x : Int) := by omega
          clear hx hbd hnum hdrp
          go_wp2_with fail
          refine (h_get HR 8 (by decide) hl8 hl9).mono ?_
          rw [HNum.out, HDr.out]
          rintro e w8 ⟨rfl, H8⟩
          have hc1 : w8.cell? ⟨g, off + i, none⟩ = some (.int .u8 (x : Int)) := by
            obtain ⟨g', off', hg, hcell⟩ := (H8.old hb).spot (by omega)
            simp only [Option.some.injEq, Addr.mk.injEq, and_true] at hg
            obtain ⟨rfl, rfl⟩ := hg
            exact hcell i _ (by rw [u8s_get, HX.out]; rfl)
          go_wp2
          go_roundg (gk - 1)
          case measure => omega
          case rel => exact ⟨i + 1, by omega, by omega, by go_num, H8⟩
        · have hdn : bits8 (b.drop i) = [] := by rw [List.drop_eq_nil_of_le (by have := HN.out; omega)]; rfl
          rw [hdn] at HR
          clear hdn
          go_wp2_with fail
          refine (h_answers HR).mono ?_
          rintro e w17 ⟨rfl, H17⟩
          go_wp2_with fail
          refine (h_same_yes H17 _ _ (pre ++ b) m H17.third.own.rd H17.fourth.own.rd (by omega)).mono ?_
          rintro e w18 ⟨rfl, H18⟩
          go_wp2_with fail
          refine (h_same_yes H18 _ _ b n H18.swap.own.rd (H18.old hb) (by omega)).mono ?_
          rintro e w19 ⟨rfl, H19⟩
          go_wp2_with fail
          refine (h_left H19 (by decide)).mono ?_
          rintro e w20 ⟨rfl, H20⟩
          go_wp2
          go_ret
          exact ⟨rfl, H20.below⟩
theorem whole_long (bv : Value) (b : List Nat) (ah : Int) (w : World) (hb : Rd w 1 bv b.length (u8s b)) (hbl : 1000 < b.length) :
    Calls Try.prog 7 #[bv, .int .u8 ah] w fun e w' => e = .returned (.bool true) ∧ Below w.heap.size w w' := by
  obtain ⟨ao, cap, rfl, _, _⟩ := hb.form
  have hd : (1000 : Int) < (b.length : Int) := by omega
  go_enter Try.func7, Try.ntmps7
  go_wp2_with fail
  refine (h_answers (Held.start w)).mono ?_
  rintro e w1 ⟨rfl, H1⟩
  go_wp2
  go_ret
  exact ⟨rfl, H1.below⟩
end Go.Proofs.Ytmkbifkmdmeklaa
