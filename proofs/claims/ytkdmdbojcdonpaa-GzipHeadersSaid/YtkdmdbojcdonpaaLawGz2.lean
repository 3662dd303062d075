/-
  The law GzipHeaders: what is handed in.
-/
import Derived.Test.YtkdmdbojcdonpaaLawGz1
import Derived.Test.YtkdmdbojcdonpaaOpen11
namespace Go.Proofs.Ytkdmdbojcdonpaa
set_option maxRecDepth 5000
open Go.RowKit

def shGb : Shape Try.prog Bool := shBool 4 Try.underlying4 (by kernel_rfl)
def shGw : Shape Try.prog Int := shInt 22 .u32 Try.underlying22 (by kernel_rfl)
def shGs : Shape Try.prog ByteArray := shStr 9 Try.underlying9 (by kernel_rfl)
def shHdr : Shape Try.prog (Bool × Bool × Int × Int × Int × List Int × Bool × ByteArray × ByteArray × Bool × Bool) :=
  shStruct11 shGb shGb shGw shGB shGB shGBs shGb shGs shGs shGb shGb 25 Try.underlying25 (by kernel_rfl) rfl rfl rfl rfl rfl rfl rfl rfl rfl rfl rfl rfl rfl rfl rfl rfl rfl rfl rfl rfl rfl rfl
theorem u32_nat {n : Int} (h : (Lit.int .u32 n).wf = true) : ∃ k : Nat, n = (k : Int) ∧ k < 4294967296 := by
  have := bounds_u32 h
  exact ⟨n.toNat, by omega, by omega⟩
theorem u8_nat {n : Int} (h : (Lit.int .u8 n).wf = true) : ∃ k : Nat, n = (k : Int) ∧ k < 256 := by
  have := bounds_u8 h
  exact ⟨n.toNat, by omega, by omega⟩
theorem hdr_of {w : World} {cs : List Value} {a : Bool × Bool × Int × Int × Int × List Int × Bool × ByteArray × ByteArray × Bool × Bool} (h : shHdr.good w cs a) : ∃ (x : Hdr) (ev : Value), cs = hdrC x ev ∧ OkH x ∧ Rd w 1 ev x.extra.length (u8s x.extra) := by
  obtain ⟨c0, c1, c2, c3, c4, c5, c6, c7, c8, c9, c10, rfl, g0, g1, g2, g3, g4, g5, g6, g7, g8, g9, g10⟩ := h
  obtain ⟨v, rfl, hsl⟩ := g5
  obtain ⟨bs, hb, hrd⟩ := gbs_of (l := a.2.2.2.2.2.1) ⟨v, rfl, hsl⟩
  obtain ⟨t, ht, ht32⟩ := u32_nat g2.2
  obtain ⟨fl, hfl, hfl8⟩ := u8_nat g3.2
  obtain ⟨sy, hsy, hsy8⟩ := u8_nat g4.2
  refine ⟨⟨a.1, a.2.1, t, fl, sy, bs, a.2.2.2.2.2.2.1, natsOf a.2.2.2.2.2.2.2.1, natsOf a.2.2.2.2.2.2.2.2.1, a.2.2.2.2.2.2.2.2.2.1, a.2.2.2.2.2.2.2.2.2.2⟩, v, ?_, ⟨ht32, hfl8, hsy8, hb, natsOf_lt _, natsOf_lt _⟩, hrd⟩
  rw [show c0 = [.bool a.1] from g0, show c1 = [.bool a.2.1] from g1, show c2 = [.int .u32 a.2.2.1] from g2.1, show c3 = [.int .u8 a.2.2.2.1] from g3.1, show c4 = [.int .u8 a.2.2.2.2.1] from g4.1, show c6 = [.bool a.2.2.2.2.2.2.1] from g6,
    show c7 = [.string a.2.2.2.2.2.2.2.1] from g7.1, show c8 = [.string a.2.2.2.2.2.2.2.2.1] from g8.1, show c9 = [.bool a.2.2.2.2.2.2.2.2.2.1] from g9, show c10 = [.bool a.2.2.2.2.2.2.2.2.2.2] from g10, ht, hfl, hsy]
  unfold hdrC strV
  dsimp only
  rw [strB_natsOf, strB_natsOf]
  rfl
/-- what is printed are bytes -/
theorem printH_bytes {x : Hdr} (ho : OkH x) : ∀ b ∈ printH x, b < 256 := by
  intro y hy
  unfold printH at hy
  rcases List.mem_append.1 hy with hy | hy
  · rw [bodyH_is] at hy
    simp only [List.mem_append] at hy
    rcases hy with ((hy | hy) | hy) | hy
    · unfold preH at hy
      simp only [List.mem_append, List.mem_cons, List.not_mem_nil, or_false] at hy
      rcases hy with (((rfl | rfl | rfl) | rfl) | hy) | rfl | rfl
      · decide
      · decide
      · decide
      · have := flagsOf_lt x
        omega
      · exact leB_byte _ _ _ hy
      · exact ho.flags
      · exact ho.sys
    · unfold extraP at hy
      split at hy
      · rcases List.mem_append.1 hy with hy | hy
        · exact leB_byte _ _ _ hy
        · exact ho.extra y hy
      · cases hy
    · unfold nameP at hy
      split at hy
      · rcases List.mem_append.1 hy with hy | hy
        · exact ho.name y hy
        · simp only [List.mem_cons, List.not_mem_nil, or_false] at hy
          rw [hy]; decide
      · cases hy
    · unfold noteP at hy
      split at hy
      · rcases List.mem_append.1 hy with hy | hy
        · exact ho.note y hy
        · simp only [List.mem_cons, List.not_mem_nil, or_false] at hy
          rw [hy]; decide
      · cases hy
  · split at hy
    · exact leB_byte _ _ _ hy
    · cases hy
set_option maxRecDepth 100000 in
set_option maxHeartbeats 6400000 in
theorem gzipHeaders_x (x : Hdr) (ev : Value) (v : Value) (b : List Int) (cut : Nat) (w : World) (ho : OkH x) (hev : Rd w 1 ev x.extra.length (u8s x.extra)) (hg : shGBs.good w [v] b) (hcut : cut < 65536) :
    Calls Try.prog 3 #[hdrV x ev, v, .int .u16 (cut : Int)] w fun e w' => e = .returned (.bool true) ∧ Below w.heap.size w w' := by
  obtain ⟨i0, hi0, hz0, hz1, hz2⟩ := info_parts infoByte13
  have HMX := hid (show 1000000000 ≤ maxLen by decide)
  obtain ⟨l, hb, hv⟩ := gbs_of hg
  obtain ⟨ao, cap, rfl, _, _⟩ := hv.form
  obtain ⟨n, hn⟩ : ∃ n, n = l.length := ⟨_, rfl⟩
  rw [← hn] at hv ⊢
  obtain ⟨eo, ec, rfl, _, _⟩ := hev.form
  have hn0 : (0 : Int) ≤ (n : Int) := Int.natCast_nonneg _
  clear hg
  have HG := hid (goodB_iff (h := x))
  have HV := hid (And.intro hv (And.intro hb (And.intro hn (And.intro ho (And.intro hev hcut)))))
  have HA := hid (fun (w' : World) (Rs : List Thing) (h : Held w w' Rs) => h_answers13 h)
  clear hv hb hn ho hev hcut
  obtain ⟨a, bb, t, fl, sy, ex, c, nm, nt, d, g⟩ := x
  dsimp only at *
  have h1 : Held w (w.alloc (.cells #[.bool a, .bool bb, .int .u32 (t : Int), .int .u8 (fl : Int), .int .u8 (sy : Int), .slice eo ex.length ec, .bool c, .string (strB nm), .string (strB nt), .bool d, .bool g] 25)) (objT w.heap.size [.bool a, .bool bb, .int .u32 (t : Int), .int .u8 (fl : Int), .int .u8 (sy : Int), .slice eo ex.length ec, .bool c, .string (strB nm), .string (strB nt), .bool d, .bool g] 25 :: []) := (Held.start w).newObj [.bool a, .bool bb, .int .u32 (t : Int), .int .u8 (fl : Int), .int .u8 (sy : Int), .slice eo ex.length ec, .bool c, .string (strB nm), .string (strB nt), .bool d, .bool g] 25
  have HSM := hid (small_any (⟨a, bb, t, fl, sy, ex, c, nm, nt, d, g⟩ : Hdr) eo ec h1)
  unfold hdrV hdrC strV at HSM
  unfold hdrV hdrC strV
  dsimp only at HSM ⊢
  clear h1
  by_cases hs : ex.length ≤ 70000 ∧ nm.length ≤ 5000 ∧ nt.length ≤ 5000
  · rw [decide_eq_true hs] at HSM
    have HS3 := hid hs
    clear hs
    by_cases h10 : n ≤ 1000
    · have h10I : ¬ (1000 : Int) < (n : Int) := by omega
      go_enter Try.func3, Try.ntmps3
      go_wp2_with fail
      with_reducible refine HSM.out.mono ?_
      rintro e w2 ⟨rfl, h2⟩
      generalize w.heap.size = B3 at h2 ⊢
      have HP := hid (print_any (⟨a, bb, t, fl, sy, ex, c, nm, nt, d, g⟩ : Hdr) (.slice eo ex.length ec) HV.out.2.2.2.1 h2 (fun w' hh => hh.old HV.out.2.2.2.2.1) (by have := HS3.out; dsimp only; omega))
      unfold hdrV hdrC strV at HP
      dsimp only at HP
      have H2 := hid h2
      clear h2 HSM
      go_wp2_with (first
        | ((with_reducible show wpList _ _ _ (⟨some 28, _, _, _, _, _⟩ :: _) _ _); go_must (refine wpList_load_hdr rfl 25 (.tmp 3) rfl _ 11 Try.underlying25 rfl infoHdr _ 25 rfl rfl (H2.out.obj) ?_))
        | fail)
      with_reducible refine HP.out.mono ?_
      rintro e w3 (⟨hgood, y, rfl, h3⟩ | ⟨hgood, rfl, h3⟩)
      · obtain ⟨p, hp⟩ : ∃ p, p = (printH (⟨a, bb, t, fl, sy, ex, c, nm, nt, d, g⟩ : Hdr)).length := ⟨_, rfl⟩
        obtain ⟨P, hP⟩ : ∃ P, P = printH (⟨a, bb, t, fl, sy, ex, c, nm, nt, d, g⟩ : Hdr) := ⟨_, rfl⟩
        rw [← hp] at h3
        rw [← hP] at h3 hp
        obtain ⟨yo, yc, rfl, hyc, _⟩ := h3.own.form
        have hpb : p ≤ 90000 ∧ 10 ≤ p := by
          have h4 := hgood.extra.1
          have h5 := hgood.name.1
          have h6 := hgood.note.1
          dsimp only at h4 h5 h6
          rw [hp, hP]
          unfold printH
          rw [bodyH_is]
          unfold preH extraP nameP noteP
          simp only [List.length_append, List.length_cons, List.length_nil, leB_length, apply_ite List.length]
          constructor
          · split <;> split <;> split <;> split <;> omega
          · omega
        have HGD := hid hgood
        have HPP := hid (And.intro hp (And.intro hP hpb.2))
        have hp9 : p ≤ 90000 := hpb.1
        have hp0 : (0 : Int) ≤ (p : Int) := Int.natCast_nonneg _
        have hp1 : ¬ (p : Int) = 0 := by omega
        have hp1B : ((p : Int) == 0) = false := by simp; omega
        have HA3 := hid (HA.out w3 _ h3)
        clear h3 HP hgood hp hP hpb H2
        go_wp2_with fail
        with_reducible refine HA3.out.mono ?_
        rintro e w4 ⟨rfl, h4⟩
        have HGA := hid (good_any (⟨a, bb, t, fl, sy, ex, c, nm, nt, d, g⟩ : Hdr) eo ec HV.out.2.2.2.1 (by have := HS3.out; dsimp only; omega) h4)
        rw [HG.out.2 HGD.out] at HGA
        unfold hdrV hdrC strV at HGA
        dsimp only at HGA
        have H4 := hid h4
        clear h4 HA3
        go_wp2_with (first
          | ((with_reducible show wpList _ _ _ (⟨some 37, _, _, _, _, _⟩ :: _) _ _); go_must (refine wpList_load_hdrG rfl 25 (.tmp 3) rfl _ 11 Try.underlying25 rfl infoHdr _ 25 rfl rfl (H4.out.swap.obj) ?_))
          | fail)
        with_reducible refine HGA.out.mono ?_
        rintro e w5 ⟨rfl, h5⟩
        have h5 : Held w w5 (ownT 5 1 (.slice yo p yc) p (u8s P) :: objT B3 [.bool a, .bool bb, .int .u32 (t : Int), .int .u8 (fl : Int), .int .u8 (sy : Int), .slice eo ex.length ec, .bool c, .string (strB nm), .string (strB nt), .bool d, .bool g] 25 :: []) := h5
        have h6 := h5.lit 5 1 [] 0 (by decide) rfl
        have H6 : Hid (Held w (w5.alloc (.cells #[] 5)) (ownT 5 1 (.slice (some ⟨w5.heap.size, 0, none⟩) 0 0) 0 [] :: ownT 5 1 (.slice yo p yc) p (u8s P) :: objT B3 [.bool a, .bool bb, .int .u32 (t : Int), .int .u8 (fl : Int), .int .u8 (sy : Int), .slice eo ex.length ec, .bool c, .string (strB nm), .string (strB nt), .bool d, .bool g] 25 :: [])) := hid h6
        obtain ⟨N, hN⟩ : ∃ N, N = p + n := ⟨_, rfl⟩
        have hN9 : N ≤ 100000 := by omega
        have HN := hid hN
        clear h5 h6 H4 HGA hN
        go_wp2_with (first
          | ((with_reducible show wpList _ _ _ (⟨some 58, _, _, _, _, _⟩ :: _) _ _); go_must (refine wpList_app_held rfl (.tmp 56) (.tmp 57) 23 rfl 5 i0 (.int .u8 0) 1 1 Try.underlying23 hi0 hz0 hz1 hz2 rfl (by decide) _ 0 [] rfl H6.out _ p (u8s P) rfl H6.out.swap.own.rd (u8s_one _) p (by omega) (by have := HMX.out; omega) (by omega) ?_); intro zo1 zc1 w6 h6; have H7 : Hid (Held w w6 (ownT 5 1 (.slice zo1 p zc1) p ([] ++ u8s P) :: _)) := hid h6; clear h6)
          | ((with_reducible show wpList _ _ _ (⟨some 60, _, _, _, _, _⟩ :: _) _ _); go_must (refine wpList_app_held rfl (.tmp 58) (.tmp 59) 23 rfl 5 i0 (.int .u8 0) 1 1 Try.underlying23 hi0 hz0 hz1 hz2 rfl (by decide) _ p ([] ++ u8s P) rfl H7.out _ n (u8s l) rfl (H7.out.old HV.out.1) (u8s_one _) N HN.out (by have := HMX.out; omega) (by omega) ?_); intro zo2 zc2 w7 h7; have H8 : Hid (Held w w7 (ownT 5 1 (.slice zo2 N zc2) N (([] ++ u8s P) ++ u8s l) :: _)) := hid h7; clear h7)
          | fail)
        have hPl : (P ++ l).length = N := by rw [List.length_append, ← HPP.out.1, ← HV.out.2.2.1, HN.out]
        have hPb : ∀ b ∈ P ++ l, b < 256 := by
          intro y hy
          rcases List.mem_append.1 hy with hy | hy
          · rw [HPP.out.2.1] at hy
            exact printH_bytes HV.out.2.2.2.1 y hy
          · exact HV.out.2.1 y hy
        have hRd := headR_print (⟨a, bb, t, fl, sy, ex, c, nm, nt, d, g⟩ : Hdr) HGD.out HV.out.2.2.2.1 l
        rw [← HPP.out.2.1, ← HPP.out.1] at hRd
        have HPL := hid (And.intro hPl (And.intro hPb hRd))
        clear hPl hPb hRd
        have h8 : Held w w7 (ownT 5 1 (.slice zo2 N zc2) N (u8s (P ++ l)) :: ownT 5 1 (.slice yo p yc) p (u8s P) :: objT B3 [.bool a, .bool bb, .int .u32 (t : Int), .int .u8 (fl : Int), .int .u8 (sy : Int), .slice eo ex.length ec, .bool c, .string (strB nm), .string (strB nt), .bool d, .bool g] 25 :: []) := by
          have := H8.out
          rw [List.nil_append, u8s_app] at this
          exact this
        have HPA := hid (parse_any (S := ownT 5 1 (.slice zo2 N zc2) N (u8s (P ++ l))) (v := .slice zo2 N zc2) (l := P ++ l) h8 (by rw [HPL.out.1]; exact Reads.own _ _ _ _ _ _) HPL.out.2.1 (by rw [HPL.out.1]; omega))
        clear h8 H7 H8 H6
        with_reducible refine HPA.out.mono ?_
        rintro en w8 (⟨x1, m1, ev1, hx1, rfl, h8⟩ | ⟨er, hx1, _, _⟩)
        · have heq := HPL.out.2.2.symm.trans hx1
          cases heq
          obtain ⟨o1, q1, rfl, _, _⟩ : ∃ o1 q1, ev1 = .slice o1 ex.length q1 ∧ _ ∧ _ := h8.own.form
          unfold hdrV hdrC strV
          dsimp only
          have h9 : Held w (w8.alloc (.cells #[.bool a, .bool bb, .int .u32 (t : Int), .int .u8 (fl : Int), .int .u8 (sy : Int), .slice o1 ex.length q1, .bool c, .string (strB nm), .string (strB nt), .bool d, .bool g] 25)) (objT w8.heap.size [.bool a, .bool bb, .int .u32 (t : Int), .int .u8 (fl : Int), .int .u8 (sy : Int), .slice o1 ex.length q1, .bool c, .string (strB nm), .string (strB nt), .bool d, .bool g] 25 :: ownT 5 1 (.slice o1 ex.length q1) ex.length (u8s ex) :: ownT 5 1 (.slice zo2 N zc2) N (u8s (P ++ l)) :: ownT 5 1 (.slice yo p yc) p (u8s P) :: objT B3 [.bool a, .bool bb, .int .u32 (t : Int), .int .u8 (fl : Int), .int .u8 (sy : Int), .slice eo ex.length ec, .bool c, .string (strB nm), .string (strB nt), .bool d, .bool g] 25 :: []) := h8.newObj [.bool a, .bool bb, .int .u32 (t : Int), .int .u8 (fl : Int), .int .u8 (sy : Int), .slice o1 ex.length q1, .bool c, .string (strB nm), .string (strB nt), .bool d, .bool g] 25
          have h10 := h9.lit 5 1 [] 0 (by decide) rfl
          have hsz : (w8.alloc (.cells #[.bool a, .bool bb, .int .u32 (t : Int), .int .u8 (fl : Int), .int .u8 (sy : Int), .slice o1 ex.length q1, .bool c, .string (strB nm), .string (strB nt), .bool d, .bool g] 25)).heap.size = w8.heap.size + 1 := by simp
          rw [hsz] at h10
          have H10 : Hid (Held w ((w8.alloc (.cells #[.bool a, .bool bb, .int .u32 (t : Int), .int .u8 (fl : Int), .int .u8 (sy : Int), .slice o1 ex.length q1, .bool c, .string (strB nm), .string (strB nt), .bool d, .bool g] 25)).alloc (.cells #[] 5)) (ownT 5 1 (.slice (some ⟨w8.heap.size + 1, 0, none⟩) 0 0) 0 [] :: objT w8.heap.size [.bool a, .bool bb, .int .u32 (t : Int), .int .u8 (fl : Int), .int .u8 (sy : Int), .slice o1 ex.length q1, .bool c, .string (strB nm), .string (strB nt), .bool d, .bool g] 25 :: ownT 5 1 (.slice o1 ex.length q1) ex.length (u8s ex) :: ownT 5 1 (.slice zo2 N zc2) N (u8s (P ++ l)) :: ownT 5 1 (.slice yo p yc) p (u8s P) :: objT B3 [.bool a, .bool bb, .int .u32 (t : Int), .int .u8 (fl : Int), .int .u8 (sy : Int), .slice eo ex.length ec, .bool c, .string (strB nm), .string (strB nt), .bool d, .bool g] 25 :: [])) := hid h10
          clear h8 h9 h10 hsz hx1 HPA
          go_wp2_with (first
            | ((with_reducible show wpList _ _ _ (⟨some 68, _, _, _, _, _⟩ :: _) _ _); go_must (refine wpList_app_held rfl (.tmp 66) (.tmp 67) 23 rfl 5 i0 (.int .u8 0) 1 1 Try.underlying23 hi0 hz0 hz1 hz2 rfl (by decide) _ 0 [] rfl H10.out _ p (u8s P) rfl H10.out.drop.fourth.own.rd (u8s_one _) p (by omega) (by have := HMX.out; omega) (by omega) ?_); intro xo1 xc1 w9 h9; have H11 : Hid (Held w w9 (ownT 5 1 (.slice xo1 p xc1) p ([] ++ u8s P) :: _)) := hid h9; clear h9)
            | ((with_reducible show wpList _ _ _ (⟨some 70, _, _, _, _, _⟩ :: _) _ _); go_must (refine wpList_app_held rfl (.tmp 68) (.tmp 69) 23 rfl 5 i0 (.int .u8 0) 1 1 Try.underlying23 hi0 hz0 hz1 hz2 rfl (by decide) _ p ([] ++ u8s P) rfl H11.out _ n (u8s l) rfl (H11.out.old HV.out.1) (u8s_one _) N HN.out (by have := HMX.out; omega) (by omega) ?_); intro xo2 xc2 w10 h10; have H12 : Hid (Held w w10 (ownT 5 1 (.slice xo2 N xc2) N (([] ++ u8s P) ++ u8s l) :: _)) := hid h10; clear h10)
            | fail)
          have h12 : Held w w10 (ownT 5 1 (.slice xo2 N xc2) N (u8s (P ++ l)) :: objT w8.heap.size [.bool a, .bool bb, .int .u32 (t : Int), .int .u8 (fl : Int), .int .u8 (sy : Int), .slice o1 ex.length q1, .bool c, .string (strB nm), .string (strB nt), .bool d, .bool g] 25 :: ownT 5 1 (.slice o1 ex.length q1) ex.length (u8s ex) :: ownT 5 1 (.slice zo2 N zc2) N (u8s (P ++ l)) :: ownT 5 1 (.slice yo p yc) p (u8s P) :: objT B3 [.bool a, .bool bb, .int .u32 (t : Int), .int .u8 (fl : Int), .int .u8 (sy : Int), .slice eo ex.length ec, .bool c, .string (strB nm), .string (strB nt), .bool d, .bool g] 25 :: []) := by
            have := H12.out
            rw [List.nil_append, u8s_app] at this
            exact this
          generalize w8.heap.size = B9 at h12 ⊢
          have HRF := hid (refHead_any (l := P ++ l) (.slice xo2 N xc2) N h12 (fun w' hh => hh.own.rd) HPL.out.2.1 HPL.out.1.symm (by omega))
          clear h12 H10 H11 H12
          with_reducible refine HRF.out.mono ?_
          rintro en w11 (⟨x2, m2, ev2, hx2, rfl, h13⟩ | ⟨er, hx2, _, _⟩)
          · have heq := HPL.out.2.2.symm.trans hx2
            cases heq
            obtain ⟨o2, q2, rfl, _, _⟩ : ∃ o2 q2, ev2 = .slice o2 ex.length q2 ∧ _ ∧ _ := h13.own.form
            unfold hdrV hdrC strV
            dsimp only
            have h14 : Held w (w11.alloc (.cells #[.bool a, .bool bb, .int .u32 (t : Int), .int .u8 (fl : Int), .int .u8 (sy : Int), .slice o2 ex.length q2, .bool c, .string (strB nm), .string (strB nt), .bool d, .bool g] 25)) (objT w11.heap.size [.bool a, .bool bb, .int .u32 (t : Int), .int .u8 (fl : Int), .int .u8 (sy : Int), .slice o2 ex.length q2, .bool c, .string (strB nm), .string (strB nt), .bool d, .bool g] 25 :: ownT 5 1 (.slice o2 ex.length q2) ex.length (u8s ex) :: ownT 5 1 (.slice xo2 N xc2) N (u8s (P ++ l)) :: objT B9 [.bool a, .bool bb, .int .u32 (t : Int), .int .u8 (fl : Int), .int .u8 (sy : Int), .slice o1 ex.length q1, .bool c, .string (strB nm), .string (strB nt), .bool d, .bool g] 25 :: ownT 5 1 (.slice o1 ex.length q1) ex.length (u8s ex) :: ownT 5 1 (.slice zo2 N zc2) N (u8s (P ++ l)) :: ownT 5 1 (.slice yo p yc) p (u8s P) :: objT B3 [.bool a, .bool bb, .int .u32 (t : Int), .int .u8 (fl : Int), .int .u8 (sy : Int), .slice eo ex.length ec, .bool c, .string (strB nm), .string (strB nt), .bool d, .bool g] 25 :: []) := h13.newObj [.bool a, .bool bb, .int .u32 (t : Int), .int .u8 (fl : Int), .int .u8 (sy : Int), .slice o2 ex.length q2, .bool c, .string (strB nm), .string (strB nt), .bool d, .bool g] 25
            have HS1 := hid (sameHdr_any (⟨a, bb, t, fl, sy, ex, c, nm, nt, d, g⟩ : Hdr) (.slice o1 ex.length q1) (.slice eo ex.length ec) h14 (fun w' hh => hh.drop.drop.drop.drop.own.rd) (fun w' hh => hh.old HV.out.2.2.2.2.1) (by have := HS3.out; dsimp only; omega))
            have H14 := hid h14
            unfold hdrV hdrC strV at HS1
            dsimp only at HS1
            clear h13 h14 HRF hx2
            go_wp2_with (first
              | ((with_reducible show wpList _ _ _ (⟨some 93, _, _, _, _, _⟩ :: _) _ _); go_must (refine wpList_load_hdrG rfl 25 (.tmp 9) rfl _ 11 Try.underlying25 rfl infoHdr _ 25 rfl rfl (H14.out.fourth.obj) ?_))
              | ((with_reducible show wpList _ _ _ (⟨some 94, _, _, _, _, _⟩ :: _) _ _); go_must (refine wpList_load_hdrG rfl 25 (.tmp 3) rfl _ 11 Try.underlying25 rfl infoHdr _ 25 rfl rfl (H14.out.drop.drop.drop.drop.drop.drop.drop.obj) ?_))
              | fail)
            with_reducible refine HS1.out.mono ?_
            rintro en w12 ⟨rfl, h15⟩
            generalize w11.heap.size = B12 at h15 ⊢
            have h15 : Held w w12 (objT B12 [.bool a, .bool bb, .int .u32 (t : Int), .int .u8 (fl : Int), .int .u8 (sy : Int), .slice o2 ex.length q2, .bool c, .string (strB nm), .string (strB nt), .bool d, .bool g] 25 :: ownT 5 1 (.slice o2 ex.length q2) ex.length (u8s ex) :: ownT 5 1 (.slice xo2 N xc2) N (u8s (P ++ l)) :: objT B9 [.bool a, .bool bb, .int .u32 (t : Int), .int .u8 (fl : Int), .int .u8 (sy : Int), .slice o1 ex.length q1, .bool c, .string (strB nm), .string (strB nt), .bool d, .bool g] 25 :: ownT 5 1 (.slice o1 ex.length q1) ex.length (u8s ex) :: ownT 5 1 (.slice zo2 N zc2) N (u8s (P ++ l)) :: ownT 5 1 (.slice yo p yc) p (u8s P) :: objT B3 [.bool a, .bool bb, .int .u32 (t : Int), .int .u8 (fl : Int), .int .u8 (sy : Int), .slice eo ex.length ec, .bool c, .string (strB nm), .string (strB nt), .bool d, .bool g] 25 :: []) := h15
            have HS2 := hid (sameHdr_any (⟨a, bb, t, fl, sy, ex, c, nm, nt, d, g⟩ : Hdr) (.slice o2 ex.length q2) (.slice eo ex.length ec) h15 (fun w' hh => hh.swap.own.rd) (fun w' hh => hh.old HV.out.2.2.2.2.1) (by have := HS3.out; dsimp only; omega))
            have H15 := hid h15
            unfold hdrV hdrC strV at HS2
            dsimp only at HS2
            clear h15 HS1 H14
            go_wp2_with (first
              | ((with_reducible show wpList _ _ _ (⟨some 99, _, _, _, _, _⟩ :: _) _ _); go_must (refine wpList_load_hdrG rfl 25 (.tmp 12) rfl _ 11 Try.underlying25 rfl infoHdr _ 25 rfl rfl (H15.out.obj) ?_))
              | ((with_reducible show wpList _ _ _ (⟨some 100, _, _, _, _, _⟩ :: _) _ _); go_must (refine wpList_load_hdrG rfl 25 (.tmp 3) rfl _ 11 Try.underlying25 rfl infoHdr _ 25 rfl rfl (H15.out.drop.drop.drop.drop.drop.drop.drop.obj) ?_))
              | fail)
            with_reducible refine HS2.out.mono ?_
            rintro en w13 ⟨rfl, h16⟩
            have h17 : Held w w13 (ownT 5 1 (.slice yo p yc) p (u8s P) :: objT B3 [.bool a, .bool bb, .int .u32 (t : Int), .int .u8 (fl : Int), .int .u8 (sy : Int), .slice eo ex.length ec, .bool c, .string (strB nm), .string (strB nt), .bool d, .bool g] 25 :: []) := h16.drop.drop.drop.drop.drop.drop
            obtain ⟨q, hq⟩ : ∃ q, q = cut % p := ⟨_, rfl⟩
            have hqp : q < p := by rw [hq]; exact Nat.mod_lt _ (by omega)
            have hqI : (cut : Int).tmod (p : Int) = (q : Int) := by rw [Int.tmod_eq_emod_of_nonneg (Int.natCast_nonneg _), hq]; exact (Int.natCast_emod _ _).symm
            have hqI2 : (cut : Int) % (p : Int) = (q : Int) := by rw [hq]; exact (Int.natCast_emod _ _).symm
            have hcw : IntKind.i64.wrap (cut : Int) = (cut : Int) := IntWalk.i64_in _ (by have := HV.out.2.2.2.2.2; omega)
            have hqpI : (q : Int) ≤ (p : Int) := by omega
            have hqcI : (q : Int) ≤ (yc : Int) := by omega
            have hq0 : (0 : Int) ≤ (q : Int) := Int.natCast_nonneg _
            have hPq : (P.take q).length = q := by rw [List.length_take, ← HPP.out.1]; omega
            have hRq : Reads w (ownT 5 1 (.slice yo p yc) p (u8s P)) 1 (.slice yo q yc) (P.take q).length (u8s (P.take q)) := by
              have h1 := reads_front (H := q) (Reads.own w 5 1 (.slice yo p yc) p (u8s P)) (by omega)
              rw [Nat.mul_one] at h1
              rw [hPq]
              unfold u8s at h1 ⊢
              rwa [← List.map_take] at h1
            have hsh := headR_short (⟨a, bb, t, fl, sy, ex, c, nm, nt, d, g⟩ : Hdr) HGD.out HV.out.2.2.2.1 q (by rw [← HPP.out.2.1, ← HPP.out.1]; exact hqp)
            rw [← HPP.out.2.1] at hsh
            have HPC := hid (parse_any (v := .slice yo q yc) (l := P.take q) h17 hRq (fun y hy => HPL.out.2.1 y (List.mem_append_left _ (List.mem_of_mem_take hy))) (by rw [hPq]; omega))
            have HSH := hid hsh
            clear h16 h17 hq hqp hPq hRq hsh HS2 H15
            go_wp2_with fail
            with_reducible refine HPC.out.mono ?_
            rintro en w14 (⟨x3, m3, ev3, hx3, _, _⟩ | ⟨er, hx3, rfl, h18⟩)
            · rw [HSH.out] at hx3
              cases hx3
            · have heq := HSH.out.symm.trans hx3
              cases heq
              have e0 : hdrV (flagsH 0) (.slice none 0 0) = .agg #[.bool false, .bool false, .int .u32 0, .int .u8 0, .int .u8 0, .slice none 0 0, .bool false, .string ⟨#[]⟩, .string ⟨#[]⟩, .bool false, .bool false] := rfl
              rw [e0]
              clear e0
              have H19 : Hid (Below w.heap.size w (w14.alloc (.cells #[.bool false, .bool false, .int .u32 0, .int .u8 0, .int .u8 0, .slice none 0 0, .bool false, .string ⟨#[]⟩, .string ⟨#[]⟩, .bool false, .bool false] 25))) := hid (h18.alloc _).mod.toBelow
              clear h18 HPC hx3
              go_wp2
              go_ret
              exact ⟨rfl, H19.out⟩
          · rw [HPL.out.2.2] at hx2
            cases hx2
        · rw [HPL.out.2.2] at hx1
          cases hx1
      · have HA3 := hid (HA.out w3 _ h3)
        have HNG := hid (show goodB (⟨a, bb, t, fl, sy, ex, c, nm, nt, d, g⟩ : Hdr) = false from Bool.eq_false_iff.2 (fun h => hgood (goodB_iff.1 h)))
        clear h3 HP hgood H2
        go_wp2_with fail
        with_reducible refine HA3.out.mono ?_
        rintro e w4 ⟨rfl, h4⟩
        have h4 : Held w w4 (objT B3 [.bool a, .bool bb, .int .u32 (t : Int), .int .u8 (fl : Int), .int .u8 (sy : Int), .slice eo ex.length ec, .bool c, .string (strB nm), .string (strB nt), .bool d, .bool g] 25 :: []) := h4
        have HGA := hid (good_any (⟨a, bb, t, fl, sy, ex, c, nm, nt, d, g⟩ : Hdr) eo ec HV.out.2.2.2.1 (by have := HS3.out; dsimp only; omega) h4)
        rw [HNG.out] at HGA
        unfold hdrV hdrC strV at HGA
        dsimp only at HGA
        have H4 := hid h4
        clear h4 HA3
        go_wp2_with (first
          | ((with_reducible show wpList _ _ _ (⟨some 37, _, _, _, _, _⟩ :: _) _ _); go_must (refine wpList_load_hdrG rfl 25 (.tmp 3) rfl _ 11 Try.underlying25 rfl infoHdr _ 25 rfl rfl (H4.out.obj) ?_))
          | fail)
        with_reducible refine HGA.out.mono ?_
        rintro e w5 ⟨rfl, h5⟩
        have H5 := hid h5.mod.toBelow
        clear h5 HGA H4
        go_wp2
        go_ret
        exact ⟨rfl, H5.out⟩
    · have h10I : (1000 : Int) < (n : Int) := by omega
      go_enter Try.func3, Try.ntmps3
      go_wp2_with fail
      with_reducible refine HSM.out.mono ?_
      rintro e w2 ⟨rfl, h2⟩
      have HA3 := hid (HA.out w2 _ h2)
      clear h2 HSM
      go_wp2_with fail
      with_reducible refine HA3.out.mono ?_
      rintro e w4 ⟨rfl, h4⟩
      have H4 := hid h4.mod.toBelow
      clear h4 HA3
      go_wp2
      go_ret
      exact ⟨rfl, H4.out⟩
  · rw [decide_eq_false hs] at HSM
    go_enter Try.func3, Try.ntmps3
    go_wp2_with fail
    with_reducible refine HSM.out.mono ?_
    rintro e w2 ⟨rfl, h2⟩
    have HA3 := hid (HA.out w2 _ h2)
    clear h2 HSM hs
    go_wp2_with fail
    with_reducible refine HA3.out.mono ?_
    rintro e w4 ⟨rfl, h4⟩
    have H4 := hid h4.mod.toBelow
    clear h4 HA3
    go_wp2
    go_ret
    exact ⟨rfl, H4.out⟩
theorem u16_nat {n : Int} (h : (Lit.int .u16 n).wf = true) : ∃ k : Nat, n = (k : Int) ∧ k < 65536 := by
  have := bounds_u16 h
  exact ⟨n.toNat, by omega, by omega⟩
theorem gzipHeaders_at (cs : Array Value) (a : Bool × Bool × Int × Int × Int × List Int × Bool × ByteArray × ByteArray × Bool × Bool) (v : Value) (b : List Int) (cut : Int) (w : World) (hg : shHdr.good w (Value.cells (.agg cs)).toList a) (hg2 : shGBs.good w [v] b) (hc : (Lit.int .u16 cut).wf = true) :
    Calls Try.prog 3 #[.agg cs, v, .int .u16 cut] w fun e w' => e = .returned (.bool true) ∧ Below w.heap.size w w' := by
  obtain ⟨x, ev, hx, ho, hrd⟩ := hdr_of hg
  obtain rfl : cs = (hdrC x ev).toArray := by
    have : cs.toList = _ := hx
    rw [← Array.toArray_toList (xs := cs), this]
  obtain ⟨k, rfl, hk⟩ := u16_nat hc
  exact gzipHeaders_x x ev v b k w ho hrd hg2 hk
end Go.Proofs.Ytkdmdbojcdonpaa
