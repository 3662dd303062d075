/-
  The law GzipParses.
-/
import Derived.Test.YtkdmdbojcdonpaaLawGz0
import Derived.Test.YtkdmdbojcdonpaaHdrR2
import Derived.Test.YtkdmdbojcdonpaaHdrS
import Derived.Test.YtkdmdbojcdonpaaHdrInv
import Derived.Test.YtkdmdbojcdonpaaOpen
namespace Go.Proofs.Ytkdmdbojcdonpaa
set_option maxRecDepth 5000
open Go.RowKit

def shGB : Shape Try.prog Int := shInt 5 .u8 Try.underlying5 (by kernel_rfl)
def shGBs : Shape Try.prog (List Int) := shSlice shGB 23 Try.underlying23 (by kernel_rfl) (by decide)
theorem gbs_of {w : World} {v : Value} {l : List Int} (h : shGBs.good w [v] l) : ∃ bs : List Nat, (∀ b ∈ bs, b < 256) ∧ Rd w 1 v bs.length (u8s bs) := by
  obtain ⟨v', hv, hs⟩ := h
  obtain rfl : v = v' := by simpa using hv
  obtain ⟨b, _, h1, h2⟩ := hs.bytes
  exact ⟨b, h1, h2⟩
theorem wpList_load_hdrG {P : Program} {w : World} {B : Nat} {ops : Array Oper} {rest : List Oper} {o : Oper} {ac : Act} {Q : Exit → Act → World → Prop} (hgd : Region.wanted o (yielded ops ac.tmps) = true) (t : TypeId) (x : Operand) (ho : o.op = .load t x) (d : TypeDesc) (n : Nat) (ht : P.underlying t = some d) (hd : isArr d = true) (hi : (P.info? t).map (·.size) = some n)
    (cs : List Value) (T : TypeId) (hx : ac.eval x = .pointer (some ⟨B, 0, none⟩)) (hl : cs.length = n) (hB : Blk w B cs T) (h : wpList P ops Q rest (ac.put o.dst (.agg cs.toArray)) w) : wpList P ops Q (o :: rest) ac w :=
  BigFrame.wpList_want hgd fun _ hK => wp_load_row t x ho B hx T cs.toArray (0, 0) d hB ht (by cases d <;> simp_all [isArr]) (by rw [hi]; simp [hl]) (hK _ _ h)
set_option maxRecDepth 100000 in
set_option maxHeartbeats 3200000 in
theorem gzipParses_at (v : Value) (b : List Int) (w : World) (hg : shGBs.good w [v] b) :
    Calls Try.prog 4 #[v] w fun e w' => e = .returned (.bool true) ∧ Below w.heap.size w w' := by
  obtain ⟨i0, hi0, hz0, hz1, hz2⟩ := info_parts infoByte13
  have HMX := hid (show 1000000000 ≤ maxLen by decide)
  obtain ⟨l, hb, hv⟩ := gbs_of hg
  obtain ⟨ao, cap, rfl, _, _⟩ := hv.form
  obtain ⟨n, hn⟩ : ∃ n, n = l.length := ⟨_, rfl⟩
  rw [← hn] at hv ⊢
  have hn0 : (0 : Int) ≤ (n : Int) := Int.natCast_nonneg _
  clear hg
  by_cases h8 : n ≤ 80000
  · have h8I : ¬ (80000 : Int) < (n : Int) := by omega
    have h1 := (Held.start w).lit 5 1 [] 0 (by decide) rfl
    have HV := hid (And.intro hv (And.intro hb hn))
    have H1 : Hid (Held w (w.alloc (.cells #[] 5)) (ownT 5 1 (.slice (some ⟨w.heap.size, 0, none⟩) 0 0) 0 [] :: []) ∧ Rd (w.alloc (.cells #[] 5)) 1 (.slice ao n cap) n (u8s l)) := hid ⟨h1, hv.kept ((Mod.refl w (fun _ => False)).alloc _) (fun _ _ h => h)⟩
    clear hv hb hn h1
    go_enter Try.func4, Try.ntmps4
    go_wp2_with (first
      | ((with_reducible show wpList _ _ _ (⟨some 16, _, _, _, _, _⟩ :: _) _ _); go_must (refine wpList_app_held rfl (.tmp 14) (.tmp 15) 23 rfl 5 i0 (.int .u8 0) 1 1 Try.underlying23 hi0 hz0 hz1 hz2 rfl (by decide) _ 0 [] rfl H1.out.1 _ n (u8s l) rfl H1.out.2 (u8s_one _) n (by omega) (by have := HMX.out; omega) (by omega) ?_); intro yo yc w2 h2; have H2 := hid h2; clear h2)
      | fail)
    have h2 : Held w w2 (ownT 5 1 (.slice yo n yc) n (u8s l) :: []) := H2.out
    have HP := hid (parse_any (S := ownT 5 1 (.slice yo n yc) n (u8s l)) (v := .slice yo n yc) (l := l) h2 (by rw [← HV.out.2.2]; exact Reads.own _ _ _ _ _ _) HV.out.2.1 (by have := HV.out.2.2; omega))
    clear h2 H1 H2
    with_reducible refine HP.out.mono ?_
    rintro en w3 (⟨x, m, ev, hx, rfl, h3⟩ | ⟨er, hx, rfl, h3⟩)
    · obtain ⟨a, bb, t, fl, sy, ex, c, nm, nt, d, g⟩ := x
      obtain ⟨eo, ec, rfl, _, _⟩ : ∃ eo ec, ev = .slice eo ex.length ec ∧ _ ∧ _ := h3.own.form
      unfold hdrV hdrC strV
      dsimp only
      have H3 := hid h3
      have HX := hid hx
      clear h3 HP hx
      have h4 : Held w (w3.alloc (.cells #[.bool a, .bool bb, .int .u32 (t : Int), .int .u8 (fl : Int), .int .u8 (sy : Int), .slice eo ex.length ec, .bool c, .string (strB nm), .string (strB nt), .bool d, .bool g] 25)) (objT w3.heap.size [.bool a, .bool bb, .int .u32 (t : Int), .int .u8 (fl : Int), .int .u8 (sy : Int), .slice eo ex.length ec, .bool c, .string (strB nm), .string (strB nt), .bool d, .bool g] 25 :: _) := H3.out.newObj [.bool a, .bool bb, .int .u32 (t : Int), .int .u8 (fl : Int), .int .u8 (sy : Int), .slice eo ex.length ec, .bool c, .string (strB nm), .string (strB nt), .bool d, .bool g] 25
      have HR := hid (refHead_any (l := l) (.slice ao n cap) n h4 (fun w' hh => hh.old HV.out.1) HV.out.2.1 HV.out.2.2 (by omega))
      clear h4 H3
      go_wp2_with fail
      with_reducible refine HR.out.mono ?_
      rintro en w5 (⟨x2, m2, ev2, hx2, rfl, h5⟩ | ⟨er, hx2, _, _⟩)
      · have heq := HX.out.symm.trans hx2
        cases heq
        obtain ⟨eo2, ec2, rfl, _, _⟩ : ∃ eo2 ec2, ev2 = .slice eo2 ex.length ec2 ∧ _ ∧ _ := h5.own.form
        unfold hdrV hdrC strV
        dsimp only
        have h6 : Held w (w5.alloc (.cells #[.bool a, .bool bb, .int .u32 (t : Int), .int .u8 (fl : Int), .int .u8 (sy : Int), .slice eo2 ex.length ec2, .bool c, .string (strB nm), .string (strB nt), .bool d, .bool g] 25)) (objT w5.heap.size [.bool a, .bool bb, .int .u32 (t : Int), .int .u8 (fl : Int), .int .u8 (sy : Int), .slice eo2 ex.length ec2, .bool c, .string (strB nm), .string (strB nt), .bool d, .bool g] 25 :: _) := h5.newObj [.bool a, .bool bb, .int .u32 (t : Int), .int .u8 (fl : Int), .int .u8 (sy : Int), .slice eo2 ex.length ec2, .bool c, .string (strB nm), .string (strB nt), .bool d, .bool g] 25
        have HA := hid (h_answers13 h6)
        have hexl := (headR_inv HV.out.2.1 HX.out).2.1
        dsimp only at hexl
        have HXL := hid hexl
        clear h5 h6 HR hx2 hexl
        go_wp2_with fail
        with_reducible refine HA.out.mono ?_
        rintro en w7 ⟨rfl, h7⟩
        have h7 : Held w w7 (objT w5.heap.size [.bool a, .bool bb, .int .u32 (t : Int), .int .u8 (fl : Int), .int .u8 (sy : Int), .slice eo2 ex.length ec2, .bool c, .string (strB nm), .string (strB nt), .bool d, .bool g] 25 :: ownT 5 1 (.slice eo2 ex.length ec2) ex.length (u8s ex) :: objT w3.heap.size [.bool a, .bool bb, .int .u32 (t : Int), .int .u8 (fl : Int), .int .u8 (sy : Int), .slice eo ex.length ec, .bool c, .string (strB nm), .string (strB nt), .bool d, .bool g] 25 :: ownT 5 1 (.slice eo ex.length ec) ex.length (u8s ex) :: _) := h7
        have HS := hid (sameHdr_any ⟨a, bb, t, fl, sy, ex, c, nm, nt, d, g⟩ (.slice eo ex.length ec) (.slice eo2 ex.length ec2) h7 (fun w' hh => hh.fourth.own.rd) (fun w' hh => hh.swap.own.rd) (by have := HXL.out; have := HV.out.2.2; dsimp only; omega))
        have H7 := hid h7
        clear h7 HA
        unfold hdrV hdrC strV at HS
        go_wp2_with (first
          | ((with_reducible show wpList _ _ _ (⟨some 39, _, _, _, _, _⟩ :: _) _ _); go_must (refine wpList_load_hdrG rfl 25 (.tmp 3) rfl _ 11 Try.underlying25 rfl infoHdr _ 25 rfl rfl (H7.out.third.obj) ?_))
          | ((with_reducible show wpList _ _ _ (⟨some 40, _, _, _, _, _⟩ :: _) _ _); go_must (refine wpList_load_hdrG rfl 25 (.tmp 6) rfl _ 11 Try.underlying25 rfl infoHdr _ 25 rfl rfl (H7.out.obj) ?_))
          | fail)
        with_reducible refine HS.out.mono ?_
        rintro en w8 ⟨rfl, h8⟩
        have H8 := hid h8.mod.toBelow
        clear h8 HS H7
        go_wp2
        go_ret
        exact ⟨rfl, H8.out⟩
      · rw [HX.out] at hx2
        cases hx2
    · have h3 : Held w w3 (ownT 5 1 (.slice yo n yc) n (u8s l) :: []) := h3
      have H3 := hid h3
      have HX := hid hx
      clear h3 HP hx
      have e0 : hdrV (flagsH 0) (.slice none 0 0) = .agg #[.bool false, .bool false, .int .u32 0, .int .u8 0, .int .u8 0, .slice none 0 0, .bool false, .string ⟨#[]⟩, .string ⟨#[]⟩, .bool false, .bool false] := rfl
      rw [e0]
      clear e0
      have h4 : Held w (w3.alloc (.cells #[.bool false, .bool false, .int .u32 0, .int .u8 0, .int .u8 0, .slice none 0 0, .bool false, .string ⟨#[]⟩, .string ⟨#[]⟩, .bool false, .bool false] 25)) (objT w3.heap.size [.bool false, .bool false, .int .u32 0, .int .u8 0, .int .u8 0, .slice none 0 0, .bool false, .string ⟨#[]⟩, .string ⟨#[]⟩, .bool false, .bool false] 25 :: _) := H3.out.newObj [.bool false, .bool false, .int .u32 0, .int .u8 0, .int .u8 0, .slice none 0 0, .bool false, .string ⟨#[]⟩, .string ⟨#[]⟩, .bool false, .bool false] 25
      have HR := hid (refHead_any (l := l) (.slice ao n cap) n h4 (fun w' hh => hh.old HV.out.1) HV.out.2.1 HV.out.2.2 (by omega))
      clear h4 H3
      go_wp2_with fail
      with_reducible refine HR.out.mono ?_
      rintro en w5 (⟨x2, m2, ev2, hx2, _, _⟩ | ⟨er2, hx2, rfl, h5⟩)
      · rw [HX.out] at hx2
        cases hx2
      · have heq := HX.out.symm.trans hx2
        cases heq
        have e0 : hdrV (flagsH 0) (.slice none 0 0) = .agg #[.bool false, .bool false, .int .u32 0, .int .u8 0, .int .u8 0, .slice none 0 0, .bool false, .string ⟨#[]⟩, .string ⟨#[]⟩, .bool false, .bool false] := rfl
        rw [e0]
        clear e0
        have h6 : Held w (w5.alloc (.cells #[.bool false, .bool false, .int .u32 0, .int .u8 0, .int .u8 0, .slice none 0 0, .bool false, .string ⟨#[]⟩, .string ⟨#[]⟩, .bool false, .bool false] 25)) (objT w5.heap.size [.bool false, .bool false, .int .u32 0, .int .u8 0, .int .u8 0, .slice none 0 0, .bool false, .string ⟨#[]⟩, .string ⟨#[]⟩, .bool false, .bool false] 25 :: _) := h5.newObj [.bool false, .bool false, .int .u32 0, .int .u8 0, .int .u8 0, .slice none 0 0, .bool false, .string ⟨#[]⟩, .string ⟨#[]⟩, .bool false, .bool false] 25
        have HA := hid (h_answers13 h6)
        clear h5 h6 HR hx2
        go_wp2_with fail
        with_reducible refine HA.out.mono ?_
        rintro en w7 ⟨rfl, h7⟩
        have h7 : Held w w7 (objT w5.heap.size [.bool false, .bool false, .int .u32 0, .int .u8 0, .int .u8 0, .slice none 0 0, .bool false, .string ⟨#[]⟩, .string ⟨#[]⟩, .bool false, .bool false] 25 :: objT w3.heap.size [.bool false, .bool false, .int .u32 0, .int .u8 0, .int .u8 0, .slice none 0 0, .bool false, .string ⟨#[]⟩, .string ⟨#[]⟩, .bool false, .bool false] 25 :: _) := h7
        have hS := sameHdr_any (flagsH 0) (.slice none 0 0) (.slice none 0 0) h7 (fun w' hh => Rd.nil w' 1) (fun w' hh => Rd.nil w' 1) (by decide)
        have hS : Calls Try.prog 11 #[.agg #[.bool false, .bool false, .int .u32 0, .int .u8 0, .int .u8 0, .slice none 0 0, .bool false, .string ⟨#[]⟩, .string ⟨#[]⟩, .bool false, .bool false], .agg #[.bool false, .bool false, .int .u32 0, .int .u8 0, .int .u8 0, .slice none 0 0, .bool false, .string ⟨#[]⟩, .string ⟨#[]⟩, .bool false, .bool false]] w7 _ := hS
        have HS := hid hS
        have H7 := hid h7
        clear h7 HA hS
        go_wp2_with (first
          | ((with_reducible show wpList _ _ _ (⟨some 39, _, _, _, _, _⟩ :: _) _ _); go_must (refine wpList_load_hdrG rfl 25 (.tmp 3) rfl _ 11 Try.underlying25 rfl infoHdr _ 25 rfl rfl (H7.out.swap.obj) ?_))
          | ((with_reducible show wpList _ _ _ (⟨some 40, _, _, _, _, _⟩ :: _) _ _); go_must (refine wpList_load_hdrG rfl 25 (.tmp 6) rfl _ 11 Try.underlying25 rfl infoHdr _ 25 rfl rfl (H7.out.obj) ?_))
          | fail)
        with_reducible refine HS.out.mono ?_
        rintro en w8 ⟨rfl, h8⟩
        have H8 := hid h8.mod.toBelow
        clear h8 HS H7
        go_wp2
        go_ret
        exact ⟨rfl, H8.out⟩
  · have h8I : (80000 : Int) < (n : Int) := by omega
    have HA := hid (h_answers13 (Held.start w))
    clear hv hb hn
    go_enter Try.func4, Try.ntmps4
    go_wp2_with fail
    with_reducible refine HA.out.mono ?_
    rintro en w7 ⟨rfl, h7⟩
    have H7 := hid h7.mod.toBelow
    clear h7 HA
    go_wp2
    go_ret
    exact ⟨rfl, H7.out⟩
end Go.Proofs.Ytkdmdbojcdonpaa
