/-
  The law DeflateOver.
-/
import Derived.Test.YtdmnfjicjjlnnaaGreatDoorDm29
import Derived.Test.YtdmnfjicjjlnnaaGreatDoorDm27
import Derived.Test.YtdmnfjicjjlnnaaGreatDoorDm03
import Derived.Laws.BytesArg
import Derived.Laws.BitsAllLaws
import Derived.Deep.DeepCutAuto
namespace Go.Proofs.YtdmnfjicjjlnnaaGreatDoor
set_option maxRecDepth 5000
open Go.RowKit
def shDB : Shape Tryz.prog Int := shInt 5 .u8 Tryz.underlying5 (by kernel_rfl)
def shDBs : Shape Tryz.prog (List Int) := shSlice shDB 22 Tryz.underlying22 (by kernel_rfl) (by decide)
theorem dbs_of {w : World} {v : Value} {l : List Int} (h : shDBs.good w [v] l) : ∃ bs : List Nat, (∀ b ∈ bs, b < 256) ∧ Rd w 1 v bs.length (u8s bs) := by
  obtain ⟨v', hv, hs⟩ := h
  obtain rfl : v = v' := by simpa using hv
  obtain ⟨b, _, h1, h2⟩ := hs.bytes
  exact ⟨b, h1, h2⟩
section
variable {w0 w : World} {Rs : List Thing}
theorem h_equal11 (h : Held w0 w Rs) (v u : Value) (a : List Nat) (n : Nat) (hv : Rd w 1 v n (u8s a)) (hu : Rd w 1 u n (u8s a)) (hal : n < 8000000000) :
    Calls Tryz.prog 10 #[v, u] w fun e w' => e = .returned (.bool true) ∧ Held w0 w' Rs := by
  have hn : n = a.length := by have := hv.1; rw [u8s_length] at this; omega
  subst hn
  exact (same_any v u a a w hv hu hal).mono fun _ _ ⟨h1, k, h2⟩ => ⟨by rw [h1]; simp, by rw [h2]; exact h.drewN k⟩
end
set_option maxRecDepth 100000 in
set_option maxHeartbeats 3200000 in
theorem deflateOver_at (v : Value) (l : List Int) (lev : Int) (w : World) (HL : Levs w) (HO : Ordr w) (hg : shDBs.good w [v] l) (_ : (Lit.int .i64 lev).wf = true) :
    Calls Tryz.prog 5 #[v, .int .i64 lev] w fun e w' => e = .returned (.bool true) ∧ Below w.heap.size w w' := by
  obtain ⟨bs, hb256, hv⟩ := dbs_of hg
  obtain ⟨n, hn⟩ : ∃ n, n = bs.length := ⟨_, rfl⟩
  rw [← hn] at hv
  obtain ⟨ao, cap, rfl, _, _⟩ := hv.form
  have hn0 : (0 : Int) ≤ (n : Int) := Int.natCast_nonneg _
  have HA := hid (fun (w' : World) (Rs : List Thing) (h : Held w w' Rs) => h_answers11 HL HO h)
  clear hg
  by_cases h1 : 2000 < n
  · have h1I : (2000 : Int) < (n : Int) := by omega
    clear hv hn hb256
    go_enter Tryz.func5, Tryz.ntmps5
    go_wp2_with fail
    with_reducible refine (HA.out _ _ (Held.start w)).mono ?_
    rintro e w1 ⟨rfl, hh⟩
    have HE := hid hh.below
    clear hh
    go_wp2
    go_ret
    exact ⟨rfl, HE.out⟩
  · have h1I : ¬ (2000 : Int) < (n : Int) := by omega
    have hmost : most = 16777216 := rfl
    have HN := hid (dnew_any lev HL (Held.start w).addNon)
    have hs := inv_start lev finLaws
    have hrd : Reads w nonT 1 (.slice ao n cap) n (u8s bs) := Reads.old hv (by decide)
    have HW := hid (fun (wz : World) (B : Nat) (hz : Held w wz [encT (encStart finM lev) (.whole B 67), nonT]) => dwrite_any hz HO hs (by decide) (.slice ao n cap) n bs hrd hb256 (by simp only [List.length_nil]; omega))
    have hw := inv_write (F := blkF lensF) finLaws blkLaw hs bs hb256 (by simp only [List.length_nil]; omega)
    have HC := hid (fun (wz : World) (B : Nat) (hz : Held w wz [encT (encWrite finM (blkF lensF) (encStart finM lev) bs) (.whole B 67), nonT]) => dclose_any hz HO hw (by simp only [List.nil_append]; omega) (by decide))
    have hci := (inv_close finLaws blkLaw hw (by simp only [List.nil_append]; omega))
    have hF : bytesOf (encClose finM (blkF lensF) (encWrite finM (blkF lensF) (encStart finM lev) bs)) = wholeF finM (blkF lensF) bs lev := rfl
    have hlen := (whole_is finLaws blkLaw bs lev hb256 (by omega)).2.2.1
    have h8 : (encClose finM (blkF lensF) (encWrite finM (blkF lensF) (encStart finM lev) bs)).length = 8 * (wholeF finM (blkF lensF) bs lev).length := by
      have h2 := hci.1
      rw [List.nil_append] at h2
      rw [← hF, bytesOf_length]; omega
    have HWH := hid (fun (wz : World) (Rs : List Thing) (hz : Held w wz (nonT :: Rs)) => dwhole_any lev HL HO (.slice ao n cap) n bs hz hrd hb256 (by omega))
    have hWl : (wholeF finM (blkF lensF) bs lev).length < 100000 := by rw [← hn] at hlen; omega
    generalize wholeF finM (blkF lensF) bs lev = W at *
    generalize encClose finM (blkF lensF) (encWrite finM (blkF lensF) (encStart finM lev) bs) = A at *
    generalize encWrite finM (blkF lensF) (encStart finM lev) bs = s1 at *
    have HD : Hid (bytesOf A = W ∧ A.drop (8 * W.length) = []) := hid ⟨hF, List.drop_eq_nil_of_le (by omega)⟩
    clear hs hrd hw hci hF hlen h8 hv hn hb256 h1
    go_enter Tryz.func5, Tryz.ntmps5
    go_wp2_with fail
    with_reducible refine HN.out.mono ?_
    rintro e w1 ⟨B, rfl, h2⟩
    have H2 : Hid (Calls Tryz.prog 12 #[.pointer (some ⟨B, 0, none⟩), .slice ao n cap] w1 fun e w' => e = .returned (.int .i64 0) ∧ Held w w' [encT s1 (.whole B 67), nonT]) := hid (HW.out w1 B h2)
    clear h2 HN HW
    go_wp2_with fail
    with_reducible refine H2.out.mono ?_
    rintro e w2 ⟨rfl, h3⟩
    have H3 : Hid (Calls Tryz.prog 15 #[.pointer (some ⟨B, 0, none⟩)] w2 fun e w' => e = .returned (.int .i64 0) ∧ Held w w' [shutT A (.whole B 67), nonT]) := hid (HC.out w2 B h3)
    clear h3 H2 HC
    go_wp2_with fail
    with_reducible refine H3.out.mono ?_
    rintro e w3 ⟨rfl, h3⟩
    have H4 : Hid (Calls Tryz.prog 14 #[.pointer (some ⟨B, 0, none⟩)] w3 fun e w' => ∃ d, e = .returned d ∧ Held w w' [ownT 5 1 d W.length (u8s W), shutT [] (.whole B 67), nonT]) := hid (by
      have h4 := dshut_take h3
      rw [HD.out.1, HD.out.2] at h4
      exact h4)
    clear h3 H3
    go_wp2_with fail
    with_reducible refine H4.out.mono ?_
    rintro e w4 ⟨d, rfl, h3⟩
    obtain ⟨dao, dcap, rfl, _, _⟩ := h3.own.form
    have H5 := hid (HA.out _ _ h3)
    clear h3 H4
    go_wp2_with fail
    with_reducible refine H5.out.mono ?_
    rintro e w5 ⟨rfl, h3⟩
    have H6 : Hid (Calls Tryz.prog 12 #[.pointer (some ⟨B, 0, none⟩), .slice ao n cap] w5 fun e w' => e = .returned (.int .i64 8) ∧ Held w w' [shutT [] (.whole B 67), ownT 5 1 (.slice dao W.length dcap) W.length (u8s W), nonT]) := hid (dshut_write h3.swap (.slice ao n cap))
    clear h3 H5
    go_wp2_with fail
    with_reducible refine H6.out.mono ?_
    rintro e w6 ⟨rfl, h3⟩
    have H7 : Hid (Calls Tryz.prog 13 #[.pointer (some ⟨B, 0, none⟩)] w6 fun e w' => e = .returned (.int .i64 8) ∧ Held w w' [shutT [] (.whole B 67), ownT 5 1 (.slice dao W.length dcap) W.length (u8s W), nonT]) := hid (dshut_flush h3)
    clear h3 H6
    go_wp2_with fail
    with_reducible refine H7.out.mono ?_
    rintro e w7 ⟨rfl, h3⟩
    have H8 : Hid (Calls Tryz.prog 15 #[.pointer (some ⟨B, 0, none⟩)] w7 fun e w' => e = .returned (.int .i64 8) ∧ Held w w' [shutT [] (.whole B 67), ownT 5 1 (.slice dao W.length dcap) W.length (u8s W), nonT]) := hid (dshut_close h3)
    clear h3 H7
    go_wp2_with fail
    with_reducible refine H8.out.mono ?_
    rintro e w8 ⟨rfl, h3⟩
    have H9 : Hid (Calls Tryz.prog 14 #[.pointer (some ⟨B, 0, none⟩)] w8 fun e w' => ∃ d, e = .returned d ∧ Held w w' [ownT 5 1 d 0 [], shutT [] (.whole B 67), ownT 5 1 (.slice dao W.length dcap) W.length (u8s W), nonT]) := hid (dshut_take h3)
    clear h3 H8
    go_wp2_with fail
    with_reducible refine H9.out.mono ?_
    rintro e w9 ⟨d9, rfl, h3⟩
    obtain ⟨ao9, cap9, rfl, _, _⟩ := h3.own.form
    have H10 := hid (HWH.out w9 _ h3.drop.drop.swap)
    clear h3 H9
    go_wp2_with fail
    with_reducible refine H10.out.mono ?_
    rintro e w10 ⟨d10, rfl, h3⟩
    obtain ⟨ao10, cap10, rfl, _, _⟩ := h3.own.form
    have H11 := hid (h_equal11 h3 (.slice dao W.length dcap) (.slice ao10 W.length cap10) W W.length h3.third.own.rd h3.own.rd (by omega))
    clear h3 H10
    go_wp2_with fail
    with_reducible refine H11.out.mono ?_
    rintro e w11 ⟨rfl, h3⟩
    have HB11 := hid h3.mod
    have HN1 := hid (dnil_write (.slice ao n cap) w11)
    clear h3 H11
    go_wp2_with fail
    with_reducible refine HN1.out.mono ?_
    rintro e w12 ⟨rfl, hm⟩
    have HB12 := hid ((HB11.out.trans hm (fun _ _ h => h.elim)).toBelow)
    have HN2 := hid (dnil_flush w12)
    have HN3 := hid (dnil_close w12)
    have HN4 := hid (dnil_take w12)
    clear hm HN1
    go_wp2_with fail
    with_reducible refine HN2.out.mono ?_
    rintro e w13 ⟨rfl, rfl⟩
    go_wp2_with fail
    with_reducible refine HN3.out.mono ?_
    rintro e w13 ⟨rfl, rfl⟩
    go_wp2_with fail
    with_reducible refine HN4.out.mono ?_
    rintro e w13 ⟨rfl, rfl⟩
    go_wp2
    go_ret
    exact ⟨rfl, HB12.out⟩
theorem deflateOver_by (v : Value) (l : List Int) (lev : Int) (w : World) (h : Levs w ∧ Ordr w) (hg : shDBs.good w [v] l) (hw : (Lit.int .i64 lev).wf = true) :
    Calls Tryz.prog 5 #[v, .int .i64 lev] w fun e w' => e = .returned (.bool true) ∧ Below w.heap.size w w' := deflateOver_at v l lev w h.1 h.2 hg hw
end Go.Proofs.YtdmnfjicjjlnnaaGreatDoor
/-
  From the row's condition on two package-level arrays (the table of levels, the order of lengths) to their cells; a start that meets it.
-/
namespace Go.Proofs.YtdmnfjicjjlnnaaGreatDoor
set_option maxRecDepth 5000
open Go.ChangeShapes Go.WideShapes Go.ChangeAt Go.RowKit
def laidDef : List (String × DataW Unit) := [("concertina/match.levels", Rows.laid_concertina_match_levels), ("concertina/block.order", Rows.laid_concertina_block_order)]
theorem def_met (os : Os) (args : Array Value) : laidMetH Tryz.prog laidDef ((World.doorLaid Tryz.prog 400 os).forCall (fun _ _ => 0) ⟨#[], args, []⟩).memory :=
  laidMetH_of_parts3 (fuel := 8) (laidMet_of_run' 8 (by kernel_rfl) (by kernel_rfl)) (by kernel_rfl) (by kernel_rfl)
theorem laidMet_parts {P : Program} {x : String × DataW Unit} {r : List (String × DataW Unit)} {W : World} (h : laidMet P (x :: r) W) : laidMet P [x] W ∧ laidMet P r W := by
  obtain ⟨n, d⟩ := x
  obtain ⟨ps, ⟨g, t, cs, fuel, p, q, h1, h2, h3, h4, h5, rfl⟩, hn, hc⟩ := h
  refine ⟨⟨_, ⟨g, t, cs, fuel, p, [], h1, h2, h3, h4, rfl, rfl⟩, ?_, fun b off hm => hc b off ?_⟩, q, h5, (List.nodup_append.1 hn).2.1, fun b off hm => hc b off (List.mem_append_right _ hm)⟩
  · rw [List.append_nil]; exact (List.nodup_append.1 hn).1
  · rw [List.append_nil] at hm; exact List.mem_append_left _ hm
theorem def_of_laid {W : World} (h : laidMetH Tryz.prog laidDef W) : Levs W ∧ Ordr W := by
  rw [MakeChecks.laidMetH_plain _ _ _ (by kernel_rfl)] at h
  obtain ⟨h1, h2⟩ := laidMet_parts h
  refine ⟨levs_of_laid ?_, ord_of_laid ?_⟩
  · rw [MakeChecks.laidMetH_plain _ _ _ (by kernel_rfl)]; exact h1
  · rw [MakeChecks.laidMetH_plain _ _ _ (by kernel_rfl)]; exact h2
end Go.Proofs.YtdmnfjicjjlnnaaGreatDoor
/-
  The laws' own example, and the texts that the laws are handed.
-/
namespace Go.Proofs.YtdmnfjicjjlnnaaGreatDoor
set_option maxRecDepth 5000
open Go.RowKit
def byD (v : Value) (l : List Nat) : Thing := ownT 5 1 v l.length (u8s l)
theorem turn_u32 (z : Nat) : ∃ y : Nat, ((z : Int) * 1103515245 + 12345) % 4294967296 = (y : Int) ∧ y < 4294967296 := ⟨(z * 1103515245 + 12345) % 4294967296, by simp, Nat.mod_lt _ (by decide)⟩
section
variable {w0 w : World} {Rs : List Thing}
set_option maxHeartbeats 3200000 in
set_option maxRecDepth 100000 in
theorem textD_any (ao : Option Addr) (cap n tm tn M : Nat) (bs : List Nat) (w : World) (hv : Rd w 1 (.slice ao n cap) n (u8s bs)) (hb : ∀ b ∈ bs, b < 256) (hn : n ≤ 2000) (hM : M ≤ 100000) (htn : tn < 65536) :
    Calls Tryz.prog 7 #[.agg #[.slice ao n cap, .int .u16 (tm : Int), .int .u16 (tn : Int)], .int .i64 (M : Int)] w fun e w' => ∃ (X : List Nat) (u : Value), e = .returned u ∧ X.length ≤ M + n ∧ (∀ b ∈ X, b < 256) ∧ Held w w' [byD u X] := by
  obtain ⟨i0, hi0, hz0, hz1, hz2⟩ := info_parts infoByteD
  have hnb : n = bs.length := by have := hv.1; rw [u8s_length] at this; omega
  have HNB := hid hnb
  have HB := hid hb
  have H1 := hid ((Held.start w).newObj [.slice ao n cap, .int .u16 (tm : Int), .int .u16 (tn : Int)] 25)
  have HV := hid hv
  obtain ⟨K, hK⟩ : ∃ K, K = tm % 2000 := ⟨_, rfl⟩
  have hK2 : K < 2000 := by omega
  have hKI : (tm : Int) % 2000 = (K : Int) := by omega
  have hKT : (tm : Int).tmod 2000 = (K : Int) := by rw [hK]; rfl
  have hn0 : (0 : Int) ≤ (n : Int) := Int.natCast_nonneg _
  have hK0 : (0 : Int) ≤ (K : Int) := Int.natCast_nonneg _
  have c0 := H1.out.obj.cell (i := 0) rfl
  have c1 := H1.out.obj.cell (i := 1) rfl
  have c2 := H1.out.obj.cell (i := 2) rfl
  clear hv hb hnb hK
  go_enter Tryz.func7, Tryz.ntmps7
  go_wp2
  generalize w.heap.size = N at *
  go_loopg [5, 6, 7] (K + 3) (fun g t5 t6 t7 wr => ∃ (k m z : Nat) (a5 : Option Addr) (c5 : Nat) (O : List Nat), k ≤ K + 1 ∧ K + 1 - k < g ∧ t7 = .int .i64 (k : Int) ∧ t6 = .int .u32 (z : Int) ∧ z < 4294967296 ∧ t5 = .slice a5 m c5 ∧ Hid (m = O.length) ∧ m ≤ M + n ∧ Hid (∀ b ∈ O, b < 256) ∧
    Hid (Held w wr [ownT 5 1 (.slice a5 m c5) m (u8s O), objT N [.slice ao n cap, .int .u16 (tm : Int), .int .u16 (tn : Int)] 25]))
  case atStart => exact ⟨0, 0, tn, none, 0, [], by omega, by omega, rfl, rfl, by omega, rfl, hid rfl, by omega, hid (fun b h => by cases h), hid (H1.out.nil 5 1)⟩
  case round =>
    obtain ⟨k, m, z, a5, c5, O, hk, hg, rfl, rfl, hz, rfl, HML, hm, HOB, HH⟩ := hrel
    have hk0 : (0 : Int) ≤ (k : Int) := Int.natCast_nonneg _
    have hm0 : (0 : Int) ≤ (m : Int) := Int.natCast_nonneg _
    have d0 := HH.out.drop.obj.cell (i := 0) rfl
    have d1 := HH.out.drop.obj.cell (i := 1) rfl
    have d2 := HH.out.drop.obj.cell (i := 2) rfl
    have HEX : Hid (∃ (X : List Nat) (u : Value), Ending.returned (.slice a5 m c5) = .returned u ∧ X.length ≤ M + n ∧ (∀ b ∈ X, b < 256) ∧ Held w wr [byD u X]) := hid ⟨O, .slice a5 m c5, rfl, by rw [← HML.out]; exact hm, HOB.out, by unfold byD; rw [← HML.out]; exact HH.out.one⟩
    by_cases hkK : k ≤ K
    · have hb1 : decide ((k : Int) ≤ (K : Int)) = true := decide_eq_true (by omega)
      have hb1' : decide (k ≤ K) = true := decide_eq_true hkK
      by_cases hmM : m < M
      · have hb2 : decide ((m : Int) < (M : Int)) = true := decide_eq_true (by omega)
        have hb2' : decide (m < M) = true := decide_eq_true hmM
        obtain ⟨L, hL⟩ : ∃ L, L = m + n := ⟨_, rfl⟩
        have hLb : L ≤ M + n := by omega
        have HAP : Hid (L = (O ++ bs).length) := hid (by rw [List.length_append, ← HML.out, ← HNB.out]; exact hL)
        have HOB2 : Hid (∀ b ∈ O ++ bs, b < 256) := hid fun b h => (List.mem_append.1 h).elim (HOB.out b) (HB.out b)
        clear HEX
        by_cases hc : 0 < n ∧ 0 < tn
        · obtain ⟨hn1, ht1⟩ := hc
          have hb3 : decide ((0 : Int) < (n : Int)) = true := decide_eq_true (by omega)
          have hb3' : decide (0 < n) = true := decide_eq_true hn1
          have hb4 : decide ((0 : Int) < (tn : Int)) = true := decide_eq_true (by omega)
          have hb4' : decide (0 < tn) = true := decide_eq_true ht1
          obtain ⟨y, hy, hyb⟩ := turn_u32 z
          obtain ⟨yd, hyd⟩ : ∃ yd, yd = y / 65536 := ⟨_, rfl⟩
          obtain ⟨j, hj⟩ : ∃ j, j = yd % n := ⟨_, rfl⟩
          have hjn : j < n := by rw [hj]; exact Nat.mod_lt _ hn1
          obtain ⟨q, hq⟩ : ∃ q, q = L - 1 := ⟨_, rfl⟩
          obtain ⟨p, hp⟩ : ∃ p, p = q - j := ⟨_, rfl⟩
          have hpL : p < L := by omega
          obtain ⟨c, hc⟩ : ∃ c, c = y / 256 % 256 := ⟨_, rfl⟩
          have hc256 : c < 256 := by rw [hc]; exact Nat.mod_lt _ (by decide)
          obtain ⟨xv, hx⟩ : ∃ xv, (O ++ bs)[p]? = some xv := ⟨(O ++ bs)[p]'(by rw [← HAP.out]; exact hpL), List.getElem?_eq_getElem _⟩
          have hx256 : xv < 256 := HOB2.out xv (List.mem_of_getElem? hx)
          obtain ⟨zz, hzz⟩ : ∃ zz, zz = xv ^^^ c := ⟨_, rfl⟩
          have hzz8 : zz < 256 := by rw [hzz]; exact Nat.xor_lt_two_pow (n := 8) hx256 hc256
          have hzI : bits .xor .u8 (xv : Int) (c : Int) = (zz : Int) := by rw [hzz]; exact u8_xor_nat xv c hx256 hc256
          have HX := hid hx
          have HCC : Hid (u8s ((O ++ bs).set p zz) = (u8s (O ++ bs)).set p (.int .u8 (zz : Int))) := hid (by simp [u8s, List.map_set])
          have HSB : Hid (∀ b ∈ (O ++ bs).set p zz, b < 256) := hid fun b h => by
            rcases List.mem_or_eq_of_mem_set h with h | rfl
            · exact HOB2.out b h
            · exact hzz8
          have HSL : Hid (L = ((O ++ bs).set p zz).length) := hid (by rw [List.length_set]; exact HAP.out)
          have hydI : (y : Int) / 65536 = (yd : Int) := by omega
          have hjI : (yd : Int) % (n : Int) = (j : Int) := by rw [hj]; rfl
          have hjT : (yd : Int).tmod (n : Int) = (j : Int) := by rw [hj]; rfl
          have hcI : IntKind.u8.wrap ((y : Int) / 256) = (c : Int) := by rw [IntKind.wrap_u8, hc]; omega
          have hqI : (L : Int) - 1 = (q : Int) := by omega
          have hpI : (q : Int) - (j : Int) = (p : Int) := by omega
          have hyd0 : (0 : Int) ≤ (yd : Int) := Int.natCast_nonneg _
          have hj0 : (0 : Int) ≤ (j : Int) := Int.natCast_nonneg _
          have hq0 : (0 : Int) ≤ (q : Int) := Int.natCast_nonneg _
          have hp0 : (0 : Int) ≤ (p : Int) := Int.natCast_nonneg _
          have hL0 : (0 : Int) ≤ (L : Int) := Int.natCast_nonneg _
          have hpLI : (p : Int) < (L : Int) := by omega
          have hnz : ¬ (n : Int) = 0 := by omega
          have hydb : yd < 65536 := by omega
          have hLb2 : L ≤ 200000 := by omega
          have hqb : q ≤ 200000 := by omega
          have hwyd : IntKind.i64.wrap (yd : Int) = (yd : Int) := IntWalk.i64_in _ (by omega)
          have HL := hid hL
          clear hL hyd hj hq hp hc hx hzz
          go_wp2_with (refine wpList_app_held rfl (.tmp 25) (.tmp 27) 22 rfl 5 i0 (.int .u8 0) 1 1 Tryz.underlying22 hi0 hz0 hz1 hz2 rfl (by decide) _ m _ rfl HH.out _ n (u8s bs) rfl (HH.out.old HV.out) (u8s_one bs) L HL.out (by unfold maxLen; omega) (by omega) ?_; intro ao1 cap1 w4 h4; rw [← u8s_append] at h4; obtain ⟨g, off, rfl, hcell, hfr, hput⟩ := h4.own.site (by omega); have hcell1 := hcell p (.int .u8 (xv : Int)) (by rw [u8s_get, HX.out]; rfl); have hfr1 := hfr p; have e0 := h4.drop.obj.cell (i := 0) rfl; have e2 := h4.drop.obj.cell (i := 2) rfl; have H5 := hid (h4.putOwn (hput p (.int .u8 (zz : Int)) hpL) (Mod.set w4 g (off + p) _)); clear hcell hfr hput h4)
          go_roundg (gk - 1)
          case measure => omega
          case rel => exact ⟨k + 1, L, y, _, _, (O ++ bs).set p zz, by omega, by omega, by go_num, by congr 1; omega, hyb, rfl, HSL, hLb, HSB, hid (by rw [HCC.out]; exact H5.out)⟩
        · have hc2 : n = 0 ∨ (0 < n ∧ tn = 0) := by omega
          clear hc
          rcases hc2 with rfl | ⟨hn1, rfl⟩
          · have HL := hid hL
            clear hL
            go_wp2_with (refine wpList_app_held rfl (.tmp 25) (.tmp 27) 22 rfl 5 i0 (.int .u8 0) 1 1 Tryz.underlying22 hi0 hz0 hz1 hz2 rfl (by decide) _ m _ rfl HH.out _ _ (u8s bs) rfl (HH.out.old HV.out) (u8s_one bs) L HL.out (by unfold maxLen; omega) (by omega) ?_; intro ao1 cap1 w4 h4; rw [← u8s_append] at h4; have e0 := h4.drop.obj.cell (i := 0) rfl; have e2 := h4.drop.obj.cell (i := 2) rfl; have H5 := hid h4; clear h4)
            go_roundg (gk - 1)
            case measure => omega
            case rel => exact ⟨k + 1, L, z, _, _, O ++ bs, by omega, by omega, by go_num, rfl, hz, rfl, HAP, hLb, HOB2, H5⟩
          · have hb3 : decide ((0 : Int) < (n : Int)) = true := decide_eq_true (by omega)
            have hb3' : decide (0 < n) = true := decide_eq_true hn1
            have HL := hid hL
            clear hL
            go_wp2_with (refine wpList_app_held rfl (.tmp 25) (.tmp 27) 22 rfl 5 i0 (.int .u8 0) 1 1 Tryz.underlying22 hi0 hz0 hz1 hz2 rfl (by decide) _ m _ rfl HH.out _ _ (u8s bs) rfl (HH.out.old HV.out) (u8s_one bs) L HL.out (by unfold maxLen; omega) (by omega) ?_; intro ao1 cap1 w4 h4; rw [← u8s_append] at h4; have e0 := h4.drop.obj.cell (i := 0) rfl; have e2 := h4.drop.obj.cell (i := 2) rfl; have H5 := hid h4; clear h4)
            go_roundg (gk - 1)
            case measure => omega
            case rel => exact ⟨k + 1, L, z, _, _, O ++ bs, by omega, by omega, by go_num, rfl, hz, rfl, HAP, hLb, HOB2, H5⟩
      · have hb2 : decide ((m : Int) < (M : Int)) = false := decide_eq_false (by omega)
        have hb2' : decide (m < M) = false := decide_eq_false hmM
        go_wp2
        go_ret
        exact HEX.out
    · have hb1 : decide ((k : Int) ≤ (K : Int)) = false := decide_eq_false (by omega)
      have hb1' : decide (k ≤ K) = false := decide_eq_false hkK
      go_wp2
      go_ret
      exact HEX.out
end
end Go.Proofs.YtdmnfjicjjlnnaaGreatDoor
/-
  The law DeflateMeans.
-/
namespace Go.Proofs.YtdmnfjicjjlnnaaGreatDoor
set_option maxRecDepth 5000
open Go.RowKit
def shDU : Shape Tryz.prog Int := shInt 23 .u16 Tryz.underlying23 (by kernel_rfl)
def shText : Shape Tryz.prog (List Int × Int × Int) := shStruct3 shDBs shDU shDU 25 Tryz.underlying25 (by kernel_rfl) rfl rfl rfl rfl rfl rfl
theorem text_of {W : World} {xs : List Value} {a : List Int × Int × Int} (h : shText.good W xs a) : ∃ (bs : List Nat) (v : Value) (tm tn : Nat), (∀ b ∈ bs, b < 256) ∧ Rd W 1 v bs.length (u8s bs) ∧ tm < 65536 ∧ tn < 65536 ∧ xs = [v, .int .u16 (tm : Int), .int .u16 (tn : Int)] := by
  obtain ⟨c0, c1, c2, rfl, hb, ⟨rfl, h1⟩, rfl, h2⟩ := h
  obtain ⟨v, rfl, hs⟩ := hb
  obtain ⟨b, _, h3, h4⟩ := hs.bytes
  have e1 := Go.bounds_u16 h1
  have e2 := Go.bounds_u16 h2
  obtain ⟨tm, hm⟩ := Int.eq_ofNat_of_zero_le e1.1
  obtain ⟨tn, hn⟩ := Int.eq_ofNat_of_zero_le e2.1
  exact ⟨b, v, tm, tn, h3, h4, by omega, by omega, by rw [hm, hn]; rfl⟩
theorem textD_at (MI : Int) (M : Nat) (hMI : MI = (M : Int)) (ao : Option Addr) (cap n tm tn : Nat) (bs : List Nat) (w : World) (hv : Rd w 1 (.slice ao n cap) n (u8s bs)) (hb : ∀ b ∈ bs, b < 256) (hn : n ≤ 2000) (hM : M ≤ 100000) (htn : tn < 65536) :
    Calls Tryz.prog 7 #[.agg #[.slice ao n cap, .int .u16 (tm : Int), .int .u16 (tn : Int)], .int .i64 MI] w fun e w' => ∃ (X : List Nat) (u : Value), e = .returned u ∧ X.length ≤ M + n ∧ (∀ b ∈ X, b < 256) ∧ Held w w' [byD u X] := by
  subst hMI; exact textD_any ao cap n tm tn M bs w hv hb hn hM htn
theorem gap_at {ss : List Nat} (h : Gaps ss) {i at' v : Nat} (hat : at' = if i = 0 then 0 else ss[i - 1]?.getD 0) (hv : ss[i]? = some v) : v ≤ at' + 16642 := by rw [hat]; exact h i v hv
set_option maxRecDepth 100000 in
set_option maxHeartbeats 3200000 in
theorem deflateMeans_at (cs : Array Value) (a : List Int × Int × Int) (lev : Int) (w : World) (HL : Levs w) (HO : Ordr w) (hg : shText.good w (Value.cells (.agg cs)).toList a) (_ : (Lit.int .i64 lev).wf = true) :
    Calls Tryz.prog 3 #[.agg cs, .int .i64 lev] w fun e w' => e = .returned (.bool true) ∧ Below w.heap.size w w' := by
  obtain ⟨bs, v, tm, tn, hb256, hv, htm, htn, hcs⟩ := text_of hg
  obtain rfl : cs = #[v, .int .u16 (tm : Int), .int .u16 (tn : Int)] := by
    have : cs.toList = _ := hcs
    rw [← Array.toArray_toList (xs := cs), this]
  obtain ⟨i0, hi0, hz0, hz1, hz2⟩ := info_parts infoByteD
  obtain ⟨n, hn⟩ : ∃ n, n = bs.length := ⟨_, rfl⟩
  rw [← hn] at hv
  obtain ⟨ao, cap, rfl, _, _⟩ := hv.form
  have hn0 : (0 : Int) ≤ (n : Int) := Int.natCast_nonneg _
  have HA := hid (fun (w' : World) (Rs : List Thing) (h : Held w w' Rs) => h_answers11 HL HO h)
  have H1 := hid ((Held.start w).newObj [.slice ao n cap, .int .u16 (tm : Int), .int .u16 (tn : Int)] 25)
  have c0 := H1.out.obj.cell (i := 0) rfl
  have c1 := H1.out.obj.cell (i := 1) rfl
  have c2 := H1.out.obj.cell (i := 2) rfl
  clear hg
  by_cases h1 : 2000 < n
  · have h1I : (2000 : Int) < (n : Int) := by omega
    clear hv hn hb256
    go_enter Tryz.func3, Tryz.ntmps3
    go_wp2_with fail
    with_reducible refine (HA.out _ _ H1.out).mono ?_
    rintro e w1 ⟨rfl, hh⟩
    have HE := hid hh.below
    clear hh
    go_wp2
    go_ret
    exact ⟨rfl, HE.out⟩
  · have h1I : ¬ (2000 : Int) < (n : Int) := by omega
    have HT := hid (fun (w' : World) (hr : Rd w' 1 (.slice ao n cap) n (u8s bs)) => textD_at 60000 60000 rfl ao cap n tm tn bs w' hr hb256 (by omega) (by decide) htn)
    have HV := hid (H1.out.old hv)
    clear hv hn hb256 h1
    go_enter Tryz.func3, Tryz.ntmps3
    go_wp2_with fail
    with_reducible refine (HT.out _ HV.out).mono ?_
    rintro e w1 ⟨X, u, rfl, hXl, hXb, hh⟩
    obtain ⟨m, hm⟩ : ∃ m, m = X.length := ⟨_, rfl⟩
    have hm2 : m ≤ 62000 := by omega
    have hmost : most = 16777216 := rfl
    unfold byD at hh
    rw [← hm] at hh
    obtain ⟨uo, uc, rfl, _, _⟩ := hh.own.form
    have H2 := hid (H1.out.frame hh)
    have HLT := hid (H2.out.lit 5 1 [] 0 (by decide) rfl)
    have hm0 : (0 : Int) ≤ (m : Int) := Int.natCast_nonneg _
    obtain ⟨_, hWb, hWl, hWr⟩ := whole_is finLaws blkLaw X lev hXb (by omega)
    obtain ⟨tk, ks, ss, p, hr, hks, hgp, hz, hst⟩ := hWr 16777216 (by omega)
    have HW := hid (fun (v' : Value) (w' : World) (Rs : List Thing) (h : Held w w' (ownT 5 1 v' m (u8s X) :: Rs)) => dwhole_any lev HL HO v' m X h (Reads.own w 5 1 v' m (u8s X)) hXb (by omega))
    rw [← hm] at hWl
    generalize wholeF finM (blkF lensF) X lev = W at *
    have hWn : W.length < 400000 := by omega
    have HI := hid (fun (d : Value) (w' : World) (Rz : List Thing) (h' : Held w w' (rdT 1 d W.length (u8s W) :: Rz)) => inflate_any d W 16777216 h' hWb hWn (by decide) (by decide))
    have e24 : (16777216 : Int).toNat = 16777216 := rfl
    rw [e24] at HI
    simp only [hr] at HI
    obtain ⟨q, hq⟩ : ∃ q, q = m / 16384 := ⟨_, rfl⟩
    have hqI : (m : Int) / 16384 = (q : Int) := by omega
    have hqT : (m : Int).tdiv 16384 = (q : Int) := by rw [hq]; rfl
    have hq2 : q ≤ 4 := by omega
    have hlI : ¬ ((m : Int) + 6 * ((q : Int) + 1) + 6 < (W.length : Int)) := by omega
    have HE := hid (fun (w' : World) (Rs : List Thing) (h' : Held w w' Rs) (v1 v2 : Value) (hv : Rd w' 1 v1 m (u8s X)) (hu : Rd w' 1 v2 m (u8s X)) => h_equal11 h' v1 v2 X m hv hu (by omega))
    have HG : Hid (m = X.length ∧ ss.length = ks.length ∧ Gaps ss ∧ (lev ≤ 0 → ∀ k ∈ ks, k = 0) ∧ ∀ v ∈ ss, v ≤ m) := hid ⟨hm, hks, hgp, hz, by rw [hm]; exact hst⟩
    clear hh HT H1 HV hXl hXb hm hr hks hgp hz hst hWr hWb hWl hq
    go_wp2_with (refine wpList_app_held rfl (.tmp 17) (.tmp 18) 22 rfl 5 i0 (.int .u8 0) 1 1 Tryz.underlying22 hi0 hz0 hz1 hz2 rfl (by decide) _ 0 [] rfl HLT.out _ m (u8s X) rfl HLT.out.drop.own.rd (u8s_one X) m (by omega) (by unfold maxLen; omega) (by omega) ?_; intro ao1 cap1 w2 h2; rw [List.nil_append] at h2; have H3 := hid (HW.out _ _ _ h2); clear h2)
    with_reducible refine H3.out.mono ?_
    rintro e w3 ⟨d, rfl, h3⟩
    obtain ⟨dao, dcap, rfl, _, _⟩ := h3.own.form
    have H4 := hid (HI.out _ _ _ h3.swap.drop.toRd)
    clear h3 H3 HW HI HLT H2
    go_wp2_with fail
    with_reducible refine H4.out.mono ?_
    rintro e w4 ⟨B2, rfl, sb, sc, sm, sa, hsm, oo, oc, k, ko, kc, nk, so, stc, ns, tt, tc, nt, li, di, lc, dc, hk, hnk, hns, hnt, hh⟩
    dsimp only at hk hnk hns hnt hh
    unfold ptrV
    have hkm : k = m := by rw [hk]; exact HG.out.1.symm
    subst hkm
    have HN := hid (And.intro hnk hns)
    clear hk hnk hns hnt
    have H5 := hid (HA.out _ _ hh)
    clear hh HA H4
    go_wp2_with fail
    with_reducible refine H5.out.mono ?_
    rintro e w5 ⟨rfl, h5⟩
    have q0 := h5.obj.cell (i := 0) rfl
    have q1 := h5.obj.cell (i := 1) rfl
    have q2 := h5.obj.cell (i := 2) rfl
    have H6 := hid (HE.out w5 _ h5 (.slice oo k oc) (.slice uo k uc) h5.third.own.rd h5.nth7.drop.nth7.own.rd)
    clear h5 H5 HE
    go_wp2_with fail
    with_reducible refine H6.out.mono ?_
    rintro e w6 ⟨rfl, h6⟩
    have q3 := h6.obj.cell (i := 3) rfl
    have q4 := h6.obj.cell (i := 4) rfl
    have H7 := hid h6
    clear h6 H6 q0 q1 q2
    go_wp2_with fail
    go_loopg [8, 9] (nk + 2) (fun g t8 t9 wr => ∃ (i at' : Nat), i ≤ nk ∧ nk - i < g ∧ t8 = .int .i64 (at' : Int) ∧ t9 = .int .i64 (i : Int) ∧ at' = (if i = 0 then 0 else ss[i - 1]?.getD 0) ∧ at' ≤ 62000 ∧ wr = w6)
    case atStart => exact ⟨0, 0, by omega, by omega, rfl, rfl, rfl, by omega, rfl⟩
    case round =>
      obtain ⟨i, at', hi, hgk, rfl, rfl, hat, hat2, rfl⟩ := hrel
      have hi0' : (0 : Int) ≤ (i : Int) := Int.natCast_nonneg _
      have ha0' : (0 : Int) ≤ (at' : Int) := Int.natCast_nonneg _
      by_cases hin : i < nk
      · have hb1 : decide ((i : Int) < (nk : Int)) = true := decide_eq_true (by omega)
        have hb2 : decide (i < nk) = true := decide_eq_true hin
        obtain ⟨hm', h2', h3', h4', h5'⟩ := HG.out
        obtain ⟨kd, hkd⟩ : ∃ kd, ks[i]? = some kd := ⟨ks[i]'(by have := HN.out.1; omega), List.getElem?_eq_getElem _⟩
        obtain ⟨sv, hsv⟩ : ∃ sv, ss[i]? = some sv := ⟨ss[i]'(by have := HN.out; omega), List.getElem?_eq_getElem _⟩
        have hns : i < ns := by have := HN.out; omega
        have hg1 := gap_at h3' hat hsv
        have hs1 : sv ≤ 62000 := by have := h5' sv (List.mem_of_getElem? hsv); omega
        have hs0 : (0 : Int) ≤ (sv : Int) := Int.natCast_nonneg _
        have hnkb : nk ≤ maxLen := by
          obtain ⟨_, _, e1, e2, e3⟩ := H7.out.fourth.own.form
          injection e1
          omega
        unfold maxLen at hnkb
        obtain ⟨g1, off1, rfl, hcell1, _, _⟩ := H7.out.fourth.own.site (by omega)
        obtain ⟨g2, off2, rfl, hcell2, _, _⟩ := H7.out.nth5.own.site (by omega)
        have r1 := hcell1 i (.int .i64 (kd : Int)) (by unfold intsN; rw [ints_get, List.getElem?_map, hkd]; rfl)
        have r2 := hcell2 i (.int .i64 (sv : Int)) (by unfold intsN; rw [ints_get, List.getElem?_map, hsv]; rfl)
        have hns1 : decide ((i : Int) < (ns : Int)) = true := decide_eq_true (by omega)
        have hnsI : (i : Int) < (ns : Int) := by omega
        have hnkI : (i : Int) < (nk : Int) := by omega
        have hd1 : ¬ ((16642 : Int) < (sv : Int) - (at' : Int)) := by omega
        have HR : Hid (sv = (if i + 1 = 0 then 0 else ss[i + 1 - 1]?.getD 0)) := hid (by rw [if_neg (by omega), Nat.add_sub_cancel, hsv]; rfl)
        have hz0' := fun h => h4' h kd (List.mem_of_getElem? hkd)
        clear hm' h2' h3' h4' h5' hkd hsv hat hg1 hcell1 hcell2
        by_cases hlev : lev ≤ 0
        · have hb3 : decide (lev ≤ 0) = true := decide_eq_true hlev
          obtain rfl : kd = 0 := hz0' hlev
          clear hz0'
          go_wp2
          go_roundg (gk - 1)
          case measure => omega
          case rel => exact ⟨i + 1, sv, by omega, by omega, by go_num, by go_num, HR.out, hs1, rfl⟩
        · have hb3 : decide (lev ≤ 0) = false := decide_eq_false hlev
          clear hz0'
          go_wp2
          go_roundg (gk - 1)
          case measure => omega
          case rel => exact ⟨i + 1, sv, by omega, by omega, by go_num, by go_num, HR.out, hs1, rfl⟩
      · have hb1 : decide ((i : Int) < (nk : Int)) = false := decide_eq_false (by omega)
        have hb2 : decide (i < nk) = false := decide_eq_false hin
        go_wp2
        go_ret
        exact ⟨rfl, H7.out.below⟩
theorem deflateMeans_by (cs : Array Value) (a : List Int × Int × Int) (lev : Int) (w : World) (h : Levs w ∧ Ordr w) (hg : shText.good w (Value.cells (.agg cs)).toList a) (hw : (Lit.int .i64 lev).wf = true) :
    Calls Tryz.prog 3 #[.agg cs, .int .i64 lev] w fun e w' => e = .returned (.bool true) ∧ Below w.heap.size w w' := deflateMeans_at cs a lev w h.1 h.2 hg hw
end Go.Proofs.YtdmnfjicjjlnnaaGreatDoor
/-
  The law DeflateFlush.
-/
namespace Go.Proofs.YtdmnfjicjjlnnaaGreatDoor
set_option maxRecDepth 5000
open Go.RowKit
section
variable {M : MatchM} {F : Nat → List Tok → List Nat → Nat → List Nat} {x : List Nat} {s : EncS M.St} {O : List Nat} {e : Nat}
theorem flush_taken (L : MatchLaws M) (HF : BlkLaw F) (h : EncInv M x s (bits8 O) e) (hO : ∀ b ∈ O, b < 256) (X : List Nat) (hX : ∀ b ∈ X, b < 256) (hl : x.length + X.length ≤ most) :
    ∃ B, B = bytesOf (encFlush M F (encWrite M F s X)).acc ∧ EncInv M (x ++ X) (encTake (encFlush M F (encWrite M F s X))) (bits8 (O ++ B)) (e + 2) ∧ (∀ b ∈ O ++ B, b < 256) ∧ (O ++ B).length ≤ (x ++ X).length + 6 * ((x ++ X).length / 16384 + e + 2) ∧
      ∀ N, (x ++ X).length ≤ N → ∃ tk ks ss p, inflF (bits8 (O ++ B)) N ((bits8 (O ++ B)).length + 1) 0 [] [] [] [] = ⟨5, p, x ++ X, tk, ks, ss, 0⟩ := by
  have h1 := inv_write (F := F) L HF h X hX hl
  obtain ⟨h2, h3, h4, h5⟩ := inv_flush L HF h1 (by rw [List.length_append]; exact hl)
  have hb : isBits (encFlush M F (encWrite M F s X)).acc := by
    obtain ⟨P, ks, ss, hm⟩ := h2.mid
    exact fun b hb => hm.ch.bits01 b (List.mem_append_right _ hb)
  have h6 := (inv_take h2).1
  generalize encFlush M F (encWrite M F s X) = u at *
  have h8 : u.acc.length % 8 = 0 := by rw [List.length_append, bits8_length] at h3; omega
  have h9 : bits8 (bytesOf u.acc) = u.acc := bits8_bytesOf _ hb h8
  have h10 : bits8 (O ++ bytesOf u.acc) = bits8 O ++ u.acc := by rw [bits8_append, h9]
  refine ⟨_, rfl, by rw [bits8_append]; exact h6, fun b hb2 => (List.mem_append.1 hb2).elim (hO b) (bytesOf_lt _ hb b), ?_, fun N hN => ?_⟩
  · have h11 := congrArg List.length h10
    rw [bits8_length] at h11
    omega
  · rw [h10]
    obtain ⟨tk, ks, ss, h12⟩ := h5 N hN
    exact ⟨tk, ks, ss, _, h12⟩
theorem close_taken (L : MatchLaws M) (HF : BlkLaw F) (h : EncInv M x s (bits8 O) e) (hO : ∀ b ∈ O, b < 256) (hl : x.length ≤ most) :
    ∃ B, B = bytesOf (encClose M F s) ∧ (∀ b ∈ O ++ B, b < 256) ∧ (O ++ B).length ≤ x.length + 6 * (x.length / 16384 + e + 1) + 1 ∧
      ∀ N, x.length ≤ N → ∃ tk ks ss p, inflF (bits8 (O ++ B)) N ((bits8 (O ++ B)).length + 1) 0 [] [] [] [] = ⟨0, p, x, tk, ks, ss, (O ++ B).length⟩ := by
  obtain ⟨h3, hb, h4, h5⟩ := inv_close L HF h hl
  generalize encClose M F s = C at *
  have h8 : C.length % 8 = 0 := by rw [List.length_append, bits8_length] at h3; omega
  have hbC : isBits C := fun b hb2 => hb b (List.mem_append_right _ hb2)
  have h9 : bits8 (bytesOf C) = C := bits8_bytesOf _ hbC h8
  have h10 : bits8 (O ++ bytesOf C) = bits8 O ++ C := by rw [bits8_append, h9]
  have h11 := congrArg List.length h10
  rw [bits8_length] at h11
  refine ⟨_, rfl, fun b hb2 => (List.mem_append.1 hb2).elim (hO b) (bytesOf_lt _ hbC b), ?_, fun N hN => ?_⟩
  · omega
  · rw [h10]
    obtain ⟨tk, ks, ss, p, h12, _⟩ := h5 N hN
    refine ⟨tk, ks, ss, p, ?_⟩
    rw [h12]
    congr 1
    omega
end
section
variable {w0 w : World} {Rs : List Thing} {S : Thing} {B : Nat}
theorem dwriteW {s : EncS FinS} {x T : List Nat} {e : Nat} (H : Held w0 w (encT s (.whole B 67) :: S :: Rs)) (hO : Ordr w0) (HI : EncInv finM x s T e) (he : e ≤ 1000000) (v : Value) (n : Nat) (b : List Nat) (hv : Reads w0 S 1 v n (u8s b)) (hb : ∀ c ∈ b, c < 256) (hx : x.length + b.length ≤ most) :
    Calls Tryz.prog 12 #[.pointer (some ⟨B, 0, none⟩), v] w fun e w' => e = .returned (.int .i64 0) ∧ Held w0 w' (encT (encWrite finM (blkF lensF) s b) (.whole B 67) :: S :: Rs) := dwrite_any H hO HI he v n b hv hb hx
theorem dflushW {s : EncS FinS} {x T : List Nat} {e : Nat} (H : Held w0 w (encT s (.whole B 67) :: Rs)) (hO : Ordr w0) (HI : EncInv finM x s T e) (hx : x.length ≤ most) (he : e ≤ 100000) :
    Calls Tryz.prog 13 #[.pointer (some ⟨B, 0, none⟩)] w fun e w' => e = .returned (.int .i64 0) ∧ Held w0 w' (encT (encFlush finM (blkF lensF) s) (.whole B 67) :: Rs) := dflush_any H hO HI hx he
theorem dtakeW {s : EncS FinS} (H : Held w0 w (encT s (.whole B 67) :: Rs)) :
    Calls Tryz.prog 14 #[.pointer (some ⟨B, 0, none⟩)] w fun e w' => ∃ d, e = .returned d ∧ Held w0 w' (ownT 5 1 d (bytesOf s.acc).length (u8s (bytesOf s.acc)) :: encT (encTake s) (.whole B 67) :: Rs) := dtake_any H
theorem dcloseW {s : EncS FinS} {x T : List Nat} {e : Nat} (H : Held w0 w (encT s (.whole B 67) :: Rs)) (hO : Ordr w0) (HI : EncInv finM x s T e) (hx : x.length ≤ most) (he : e ≤ 100000) :
    Calls Tryz.prog 15 #[.pointer (some ⟨B, 0, none⟩)] w fun e w' => e = .returned (.int .i64 0) ∧ Held w0 w' (shutT (encClose finM (blkF lensF) s) (.whole B 67) :: Rs) := dclose_any H hO HI hx he
theorem dshutW {acc : List Nat} (H : Held w0 w (shutT acc (.whole B 67) :: Rs)) :
    Calls Tryz.prog 14 #[.pointer (some ⟨B, 0, none⟩)] w fun e w' => ∃ d, e = .returned d ∧ Held w0 w' (ownT 5 1 d (bytesOf acc).length (u8s (bytesOf acc)) :: shutT (acc.drop (8 * (bytesOf acc).length)) (.whole B 67) :: Rs) := dshut_take H
end
def shTexts : Shape Tryz.prog (List (List Int × Int × Int)) := shSlice shText 39 Tryz.underlying39 (by kernel_rfl) (by decide)
set_option maxRecDepth 100000 in
set_option maxHeartbeats 3200000 in
theorem deflateFlush_at (v : Value) (ts : List (List Int × Int × Int)) (lev : Int) (w : World) (HL : Levs w) (HO : Ordr w) (ha : shTexts.good w [v] ts) (_ : (Lit.int .i64 lev).wf = true) :
    Calls Tryz.prog 4 #[v, .int .i64 lev] w fun e w' => e = .returned (.bool true) ∧ Below w.heap.size w w' := by
  obtain ⟨v', hv, ha⟩ := ha
  obtain rfl : v = v' := by simpa using hv
  clear hv
  obtain ⟨ao, cap, rfl, hac, hcm⟩ := ha.form
  obtain ⟨n, hn⟩ : ∃ n, n = ts.length := ⟨_, rfl⟩
  rw [← hn] at hac ha ⊢
  have HTN := hid hn
  have HTA := hid ha
  unfold maxLen at hcm
  clear hn ha
  obtain ⟨i0, hi0, hz0, hz1, hz2⟩ := info_parts infoByteD
  have hn0 : (0 : Int) ≤ (n : Int) := Int.natCast_nonneg _
  have HA := hid (fun (w' : World) (Rs : List Thing) (h : Held w w' Rs) => h_answers11 HL HO h)
  have HN := hid (dnew_any lev HL (Held.start w))
  have hs : EncInv finM [] (encStart finM lev) (bits8 []) 0 := inv_start lev finLaws
  have HS := hid hs
  clear hs
  generalize encStart finM lev = s0 at *
  go_enter Tryz.func4, Tryz.ntmps4
  go_wp2_with fail
  with_reducible refine HN.out.mono ?_
  rintro e w1 ⟨B, rfl, h1⟩
  have H1 := hid (HA.out _ _ h1)
  clear h1 HN
  go_wp2_with fail
  with_reducible refine H1.out.mono ?_
  rintro e w2 ⟨rfl, h2⟩
  by_cases h8 : 8 < n
  · have h8I : (8 : Int) < (n : Int) := by omega
    have H2 := hid (HA.out _ _ h2)
    clear h2 H1
    go_wp2_with fail
    with_reducible refine H2.out.mono ?_
    rintro e w3 ⟨rfl, h3⟩
    have HE := hid h3.below
    clear h3 H2
    go_wp2
    go_ret
    exact ⟨rfl, HE.out⟩
  · have h8I : ¬ (8 : Int) < (n : Int) := by omega
    have H2 := hid ((h2.nil 5 1).nil 5 1)
    clear h2 H1
    go_wp2_with fail
    go_loopg [6, 7, 8] (n + 2) (fun g t6 t7 t8 wr => ∃ (i on ln oc lc : Nat) (s : EncS FinS) (x O : List Nat) (oo lo : Option Addr), i ≤ n ∧ n - i < g ∧ t6 = .slice oo on oc ∧ t7 = .slice lo ln lc ∧ t8 = .int .i64 (i : Int) ∧ ln ≤ 3500 * i ∧ on ≤ 40000 ∧
      Hid (on = O.length ∧ ln = x.length ∧ (∀ b ∈ O, b < 256) ∧ EncInv finM x s (bits8 O) (2 * i)) ∧ Hid (Held w wr [encT s (.whole B 67), ownT 5 1 (.slice lo ln lc) ln (u8s x), ownT 5 1 (.slice oo on oc) on (u8s O)]))
    case atStart => exact ⟨0, 0, 0, 0, 0, s0, [], [], none, none, by omega, by omega, rfl, rfl, rfl, by omega, by omega, hid ⟨rfl, rfl, (fun b h => by cases h), HS.out⟩, hid H2.out.third⟩
    case round =>
      obtain ⟨i, on, ln, oc, lc, s, x, O, oo, lo, hin, hgk, rfl, rfl, rfl, hln, hon, HI, HH⟩ := hrel
      have hi0' : (0 : Int) ≤ (i : Int) := Int.natCast_nonneg _
      have hmost : most = 16777216 := rfl
      clear HS H2 HL
      by_cases hlt : i < n
      · have hb1 : decide ((i : Int) < (n : Int)) = true := decide_eq_true (by omega)
        have hb2 : decide (i < n) = true := decide_eq_true hlt
        have hltI : (i : Int) < (n : Int) := by omega
        obtain ⟨g, off, rfl, hcell⟩ := HTA.out.spot (by omega)
        obtain ⟨a, haa⟩ : ∃ a, ts[i]? = some a := ⟨ts[i]'(by have := HTN.out; omega), List.getElem?_eq_getElem _⟩
        obtain ⟨xs, hg, hcx⟩ := hcell i a haa
        obtain ⟨bs, bv, tm, tn, hb256, hrd, htm, htn, rfl⟩ := text_of hg
        obtain ⟨nb, hnb⟩ : ∃ nb, nb = bs.length := ⟨_, rfl⟩
        rw [← hnb] at hrd
        obtain ⟨bo, bc, rfl, hbc, hbm⟩ := hrd.form
        have c0 := hcx 0 _ rfl
        have c1 := hcx 1 _ rfl
        have c2 := hcx 2 _ rfl
        have hM := HH.out.mod
        have hgl := World.block_lt_of_cell? w _ c0
        have d0 := (hM.cell (p := ⟨g, off + i * 3, none⟩) hgl (fun h => h)).trans c0
        have d1 := (hM.cell (p := ⟨g, off + i * 3 + 1, none⟩) hgl (fun h => h)).trans c1
        have d2 := (hM.cell (p := ⟨g, off + i * 3 + 2, none⟩) hgl (fun h => h)).trans c2
        have HB := hid hb256
        have HR := hid (HH.out.old hrd)
        have HNB := hid hnb
        clear hcell haa hcx hg c0 c1 c2 hM hgl hrd hb256 hnb
        by_cases h5 : 500 < nb
        · have h5I : (500 : Int) < (nb : Int) := by omega
          have HE := hid HH.out.below
          go_wp2
          go_ret
          exact ⟨rfl, HE.out⟩
        · have h5I : ¬ (500 : Int) < (nb : Int) := by omega
          have HT := hid (textD_at 3000 3000 rfl bo bc nb tm tn bs wr HR.out HB.out (by omega) (by decide) htn)
          go_wp2_with fail
          with_reducible refine HT.out.mono ?_
          rintro e w3 ⟨X, u, rfl, hXl, hXb, hh⟩
          unfold byD at hh
          obtain ⟨m, hm⟩ : ∃ m, m = X.length := ⟨_, rfl⟩
          have hm2 : m ≤ 3500 := by omega
          rw [← hm] at hh
          obtain ⟨uo, uc, rfl, _, _⟩ := hh.own.form
          have h3 := (HH.out.frame hh).swap
          obtain ⟨hI1, hI2, hI3, hI4⟩ := HI.out
          have hxX : x.length + X.length ≤ 28000 := by omega
          obtain ⟨bt, hbt, hJ, hJb, hJl, hJr⟩ := flush_taken finLaws blkLaw hI4 hI3 X hXb (by omega)
          have hJW := inv_write (F := blkF lensF) finLaws blkLaw hI4 X hXb (by omega)
          have HC1 := hid (dwriteW h3 HO hI4 (by omega) (.slice uo m uc) m X (Reads.own w 5 1 _ m (u8s X)) hXb (by omega))
          have HC2 := hid (fun (wz : World) (Rz : List Thing) (hz : Held w wz (encT (encWrite finM (blkF lensF) s X) (.whole B 67) :: Rz)) => dflushW hz HO hJW (by rw [List.length_append]; omega) (by omega))
          have HC3 := hid (fun (wz : World) (Rz : List Thing) (hz : Held w wz (encT (encFlush finM (blkF lensF) (encWrite finM (blkF lensF) s X)) (.whole B 67) :: Rz)) => dtakeW hz)
          obtain ⟨tk, ks, ss, p, hr⟩ := hJr 16777216 (by rw [List.length_append]; omega)
          rw [← hbt] at HC3
          clear hh HT HH hI4 hJW hJr h3
          generalize encFlush finM (blkF lensF) (encWrite finM (blkF lensF) s X) = s2 at *
          generalize encWrite finM (blkF lensF) s X = s1 at *
          obtain ⟨nt, hnt⟩ : ∃ nt, nt = bt.length := ⟨_, rfl⟩
          obtain ⟨o2, ho2⟩ : ∃ o2, o2 = (O ++ bt).length := ⟨_, rfl⟩
          obtain ⟨l2, hl2⟩ : ∃ l2, l2 = (x ++ X).length := ⟨_, rfl⟩
          have hoS : o2 = on + nt := by rw [ho2, List.length_append]; omega
          have hlS : l2 = ln + m := by rw [hl2, List.length_append]; omega
          rw [← ho2, ← hl2] at hJl
          have ho4 : o2 ≤ 40000 := by omega
          have HC4 := hid (fun (d : Value) (wz : World) (Rz : List Thing) (hz : Held w wz Rz) (hv : Rd wz 1 d (O ++ bt).length (u8s (O ++ bt))) => inflate_of d (O ++ bt) 16777216 hz hv hJb (by omega) (by decide) (by decide))
          have e24 : (16777216 : Int).toNat = 16777216 := rfl
          rw [e24] at HC4
          simp only [hr] at HC4
          rw [← ho2] at HC4
          have HC5 := hid (fun (wz : World) (Rz : List Thing) (hz : Held w wz Rz) (v1 v2 : Value) (hv : Rd wz 1 v1 l2 (u8s (x ++ X))) (hu : Rd wz 1 v2 l2 (u8s (x ++ X))) => h_equal11 hz v1 v2 (x ++ X) l2 hv hu (by omega))
          rw [← hnt] at HC3
          have HJ := hid (And.intro ho2 (And.intro hl2 (And.intro hJb hJ)))
          have HOS := hid hoS
          have HLS := hid hlS
          have ho0 : (0 : Int) ≤ (on : Int) := Int.natCast_nonneg _
          have hl0 : (0 : Int) ≤ (ln : Int) := Int.natCast_nonneg _
          have hm0 : (0 : Int) ≤ (m : Int) := Int.natCast_nonneg _
          have hnt2 : nt ≤ 40000 := by omega
          have hl22 : l2 ≤ 28000 := by omega
          have hl23 : l2 ≤ 3500 * (i + 1) := by omega
          clear hI1 hI2 hI3 hJ hJb hJl hr hm hXl hXb hxX hbt hnt ho2 hl2 hoS hlS
          go_wp2_with fail
          with_reducible refine HC1.out.mono ?_
          rintro e w4 ⟨rfl, h4⟩
          have H4 := hid (HC2.out _ _ h4)
          clear h4 HC1 HC2
          go_wp2_with fail
          with_reducible refine H4.out.mono ?_
          rintro e w5 ⟨rfl, h5⟩
          have H5 := hid (HC3.out _ _ h5)
          clear h5 H4 HC3
          go_wp2_with fail
          with_reducible refine H5.out.mono ?_
          rintro e w6 ⟨d, rfl, h6⟩
          obtain ⟨dao, dcap, rfl, _, _⟩ := h6.own.form
          have H6 := hid h6.nth5
          clear h6 H5
          go_wp2_with (first | (refine wpList_app_held rfl (.tmp 57) (.tmp 59) 22 rfl 5 i0 (.int .u8 0) 1 1 Tryz.underlying22 hi0 hz0 hz1 hz2 rfl (by decide) _ on (u8s O) rfl H6.out _ nt (u8s bt) rfl H6.out.drop.own.rd (u8s_one bt) o2 HOS.out (by unfold maxLen; omega) (by omega) ?_; intro ao1 cap1 w7 h7; rw [← u8s_append] at h7; have H7 := hid h7.nth5; clear h7) | (refine wpList_app_held rfl (.tmp 61) (.tmp 62) 22 rfl 5 i0 (.int .u8 0) 1 1 Tryz.underlying22 hi0 hz0 hz1 hz2 rfl (by decide) _ ln (u8s x) rfl H7.out _ m (u8s X) rfl H7.out.nth5.own.rd (u8s_one X) l2 HLS.out (by unfold maxLen; omega) (by omega) ?_; intro ao2 cap2 w8 h8; rw [← u8s_append] at h8; have H8 := hid (HC4.out _ _ _ h8 h8.swap.own.rd); have H8b := hid h8; clear h8))
          clear H6 H7 HC4
          with_reducible refine H8.out.mono ?_
          rintro e w9 ⟨B2, rfl, sb, sc, sm, sa, hsm, oo2, oc2, k, ko, kc, nk, so, stc, ns, tt, tc, nt', li, di, lc', dc, hk, hnk, hns, hnt, hh⟩
          dsimp only at hk hnk hns hnt hh
          unfold ptrV
          have hkl : k = l2 := by rw [hk]; exact HJ.out.2.1.symm
          subst hkl
          clear hk hnk hns hnt hsm H8 H8b
          have q0 := hh.obj.cell (i := 0) rfl
          have q1 := hh.obj.cell (i := 1) rfl
          have H9 := hid (HC5.out _ _ hh (.slice oo2 k oc2) (.slice ao2 k cap2) hh.third.own.rd hh.nth7.own.rd)
          clear hh HC5
          go_wp2_with fail
          with_reducible refine H9.out.mono ?_
          rintro e w10 ⟨rfl, hh⟩
          have h10 := hh.drop.drop.drop.drop.drop.drop.third.drop.fourth.drop.third
          have H10 := hid h10
          clear hh H9 q0 q1 h10
          go_wp2
          go_roundg (gk - 1)
          case measure => omega
          case rel => exact ⟨i + 1, o2, k, cap1, cap2, encTake s2, x ++ X, O ++ bt, ao1, ao2, by omega, by omega, rfl, rfl, by go_num, hl23, ho4, hid ⟨HJ.out.1, HJ.out.2.1, HJ.out.2.2.1, HJ.out.2.2.2⟩, H10⟩
      · have hb1 : decide ((i : Int) < (n : Int)) = false := decide_eq_false (by omega)
        have hb2 : decide (i < n) = false := decide_eq_false hlt
        have hie : i ≤ 8 := by omega
        obtain ⟨hI1, hI2, hI3, hI4⟩ := HI.out
        have hx2 : x.length ≤ 28000 := by omega
        obtain ⟨bt, hbt, hJb, hJl, hJr⟩ := close_taken finLaws blkLaw hI4 hI3 (by omega)
        have HC1 := hid (dcloseW HH.out HO hI4 (by omega) (by omega))
        have HC3 := hid (fun (wz : World) (Rz : List Thing) (hz : Held w wz (shutT (encClose finM (blkF lensF) s) (.whole B 67) :: Rz)) => dshutW hz)
        obtain ⟨tk, ks, ss, p, hr⟩ := hJr 16777216 (by omega)
        rw [← hbt] at HC3
        clear hI4 hJr HH
        generalize encClose finM (blkF lensF) s = C at *
        obtain ⟨nt, hnt⟩ : ∃ nt, nt = bt.length := ⟨_, rfl⟩
        obtain ⟨o2, ho2⟩ : ∃ o2, o2 = (O ++ bt).length := ⟨_, rfl⟩
        have hoS : o2 = on + nt := by rw [ho2, List.length_append]; omega
        rw [← ho2] at hJl
        have ho4 : o2 ≤ 40000 := by omega
        have HC4 := hid (fun (d : Value) (wz : World) (Rz : List Thing) (hz : Held w wz Rz) (hv : Rd wz 1 d (O ++ bt).length (u8s (O ++ bt))) => inflate_of d (O ++ bt) 16777216 hz hv hJb (by omega) (by decide) (by decide))
        have e24 : (16777216 : Int).toNat = 16777216 := rfl
        rw [e24] at HC4
        simp only [hr] at HC4
        rw [← ho2] at HC4
        have HC5 := hid (fun (wz : World) (Rz : List Thing) (hz : Held w wz Rz) (v1 v2 : Value) (hv : Rd wz 1 v1 ln (u8s x)) (hu : Rd wz 1 v2 ln (u8s x)) => h_equal11 hz v1 v2 x ln hv hu (by omega))
        rw [← hnt] at HC3
        have HJ := hid hI2
        have HOS := hid hoS
        have ho0 : (0 : Int) ≤ (on : Int) := Int.natCast_nonneg _
        have hl0 : (0 : Int) ≤ (ln : Int) := Int.natCast_nonneg _
        have ho20 : (0 : Int) ≤ (o2 : Int) := Int.natCast_nonneg _
        have hnt2 : nt ≤ 40000 := by omega
        have hl22 : ln ≤ 28000 := by omega
        clear hI1 hI2 hI3 hJb hJl hr hx2 hbt hnt ho2 hoS HI
        go_wp2_with fail
        with_reducible refine HC1.out.mono ?_
        rintro e w5 ⟨rfl, h5⟩
        have H5 := hid (HC3.out _ _ h5)
        clear h5 HC1 HC3
        go_wp2_with fail
        with_reducible refine H5.out.mono ?_
        rintro e w6 ⟨d, rfl, h6⟩
        obtain ⟨dao, dcap, rfl, _, _⟩ := h6.own.form
        have H6 := hid h6.fourth
        clear h6 H5
        go_wp2_with (refine wpList_app_held rfl (.tmp 83) (.tmp 85) 22 rfl 5 i0 (.int .u8 0) 1 1 Tryz.underlying22 hi0 hz0 hz1 hz2 rfl (by decide) _ on (u8s O) rfl H6.out _ nt (u8s bt) rfl H6.out.drop.own.rd (u8s_one bt) o2 HOS.out (by unfold maxLen; omega) (by omega) ?_; intro ao1 cap1 w7 h7; rw [← u8s_append] at h7; have H7 := hid (HC4.out _ _ _ h7 h7.own.rd); clear h7)
        clear H6 HC4
        with_reducible refine H7.out.mono ?_
        rintro e w9 ⟨B2, rfl, sb, sc, sm, sa, hsm, oo2, oc2, k, ko, kc, nk, so, stc, ns, tt, tc, nt', li, di, lc', dc, hk, hnk, hns, hnt, hh⟩
        dsimp only at hk hnk hns hnt hh
        unfold ptrV
        have hkl : k = ln := by rw [hk]; exact HJ.out.symm
        subst hkl
        clear hk hnk hns hnt hsm H7
        have q0 := hh.obj.cell (i := 0) rfl
        have q1 := hh.obj.cell (i := 1) rfl
        have q2 := hh.obj.cell (i := 2) rfl
        have H9 := hid (HC5.out _ _ hh (.slice oo2 k oc2) (.slice lo k lc) hh.third.own.rd hh.drop.drop.drop.drop.drop.drop.fourth.own.rd)
        clear hh HC5
        go_wp2_with fail
        with_reducible refine H9.out.mono ?_
        rintro e w10 ⟨rfl, hh⟩
        have HE := hid hh.below
        clear hh H9 q0 q1 q2
        go_wp2
        go_ret
        exact ⟨rfl, HE.out⟩
theorem deflateFlush_by (v : Value) (ts : List (List Int × Int × Int)) (lev : Int) (w : World) (h : Levs w ∧ Ordr w) (ha : shTexts.good w [v] ts) (hw : (Lit.int .i64 lev).wf = true) :
    Calls Tryz.prog 4 #[v, .int .i64 lev] w fun e w' => e = .returned (.bool true) ∧ Below w.heap.size w w' := deflateFlush_at v ts lev w h.1 h.2 ha hw
end Go.Proofs.YtdmnfjicjjlnnaaGreatDoor
