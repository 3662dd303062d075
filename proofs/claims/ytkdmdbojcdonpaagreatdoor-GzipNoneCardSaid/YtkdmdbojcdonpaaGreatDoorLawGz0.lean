/-
  The laws' own parts: small, good, answers.
-/
import Derived.Test.YtkdmdbojcdonpaaGreatDoorHdrW3
namespace Go.Proofs.YtkdmdbojcdonpaaGreatDoor
set_option maxRecDepth 5000
open Go.RowKit

section
variable {w0 w : World} {Rs : List Thing}
theorem strB_app (a b : List Nat) : strB a ++ strB b = strB (a ++ b) := by
  apply ByteArray.ext
  unfold strB
  rw [List.map_append]
  simp
theorem strB_at {l : List Nat} {i c : Nat} (h : l[i]? = some c) (hc : c < 256) (hi : i < (strB l).size) : ((strB l)[i]'hi).toNat = c := by
  have key : ∀ (arr : Array UInt8) (ha : i < arr.size), arr = (l.map UInt8.ofNat).toArray → arr[i] = UInt8.ofNat c := fun arr ha e => by
    subst e
    rw [List.getElem_toArray, List.getElem_map, (List.getElem?_eq_some_iff.1 h).2]
  have h1 : ((strB l)[i]'hi) = UInt8.ofNat c := key (strB l).data hi rfl
  rw [h1, UInt8.toNat_ofNat', show c % 2 ^ 8 = c by omega]
theorem strB_emp {x : List Nat} (h : x ≠ []) : (strB x).toList.isEmpty = false := by
  cases he : (strB x).toList.isEmpty with
  | false => rfl
  | true =>
    rw [← decide_eq_emptyBytes, decide_eq_true_iff] at he
    exact absurd ((strB_empty x).1 he) h
set_option maxHeartbeats 6400000 in
theorem small_any (x : Hdr) (ao : Option Addr) (cap : Nat) (h : Held w0 w Rs) :
    Calls Tryz.prog 8 #[hdrV x (.slice ao x.extra.length cap)] w fun e w' => e = .returned (.bool (decide (x.extra.length ≤ 70000 ∧ x.name.length ≤ 5000 ∧ x.note.length ≤ 5000))) ∧ Held w0 w' Rs := by
  obtain ⟨a, b, t, fl, sy, ex, c, nm, nt, d, g⟩ := x
  have h1 := h.newObj (hdrC ⟨a, b, t, fl, sy, ex, c, nm, nt, d, g⟩ (.slice ao ex.length cap)) 29
  have s1 := strB_size nm
  have s2 := strB_size nt
  have H1 := hid h1.drop
  clear h h1
  unfold hdrV hdrC strV at *
  dsimp only at *
  generalize strB nm = snm at *
  generalize strB nt = snt at *
  obtain ⟨n, hn⟩ : ∃ n, n = ex.length := ⟨_, rfl⟩
  obtain ⟨n1, hn1⟩ : ∃ n1, n1 = nm.length := ⟨_, rfl⟩
  obtain ⟨n2, hn2⟩ : ∃ n2, n2 = nt.length := ⟨_, rfl⟩
  rw [← hn1] at s1
  rw [← hn2] at s2
  simp only [← hn, ← hn1, ← hn2] at *
  clear hn hn1 hn2
  by_cases h1 : n ≤ 70000
  · by_cases h2 : n1 ≤ 5000
    · by_cases h3 : n2 ≤ 5000
      · rw [decide_eq_true ⟨h1, h2, h3⟩]
        have i1 : (n : Int) ≤ 70000 := by omega
        have i2 : (n1 : Int) ≤ 5000 := by omega
        have i3 : (n2 : Int) ≤ 5000 := by omega
        go_enter Tryz.func8, Tryz.ntmps8
        go_wp2
        go_ret
        exact ⟨rfl, H1.out⟩
      · rw [decide_eq_false (fun h => h3 h.2.2)]
        have i1 : (n : Int) ≤ 70000 := by omega
        have i2 : (n1 : Int) ≤ 5000 := by omega
        have i3 : ¬ (n2 : Int) ≤ 5000 := by omega
        go_enter Tryz.func8, Tryz.ntmps8
        go_wp2
        go_ret
        exact ⟨rfl, H1.out⟩
    · rw [decide_eq_false (fun h => h2 h.2.1)]
      have i1 : (n : Int) ≤ 70000 := by omega
      have i2 : ¬ (n1 : Int) ≤ 5000 := by omega
      go_enter Tryz.func8, Tryz.ntmps8
      go_wp2
      go_ret
      exact ⟨rfl, H1.out⟩
  · rw [decide_eq_false (fun h => h1 h.1)]
    have i1 : ¬ (n : Int) ≤ 70000 := by omega
    go_enter Tryz.func8, Tryz.ntmps8
    go_wp2
    go_ret
    exact ⟨rfl, H1.out⟩
set_option maxRecDepth 100000 in
set_option maxHeartbeats 6400000 in
theorem h_answers13 (h : Held w0 w Rs) :
    Calls Tryz.prog 7 #[] w fun e w' => e = .returned (.bool true) ∧ Held w0 w' Rs := by
  have ho : OkH (flagsH 0) := ⟨by decide, by decide, by decide, (fun b hb => by cases hb), (fun b hb => by cases hb), (fun b hb => by cases hb)⟩
  have hg : GoodH (flagsH 0) := ⟨⟨by decide, .inr rfl⟩, ⟨by decide, .inr rfl, (fun b hb => by cases hb)⟩, ⟨by decide, .inr rfl, (fun b hb => by cases hb)⟩⟩
  have hP : Calls Tryz.prog 24 #[.agg #[.bool false, .bool false, .int .u32 0, .int .u8 0, .int .u8 0, .slice none 0 0, .bool false, .string ⟨#[]⟩, .string ⟨#[]⟩, .bool false, .bool false]] w fun en w' => PrintOut w0 Rs (flagsH 0) en w' :=
    print_any (flagsH 0) (.slice none 0 0) ho h (fun w' _ => Rd.nil w' 1) ⟨by decide, by decide, by decide⟩
  have HP := hid hP
  have HG := hid hg
  have hpr : printH (flagsH 0) = [31, 139, 8, 0, 0, 0, 0, 0, 0, 0] := by kernel_rfl
  have HPR := hid hpr
  clear h hP ho hg hpr
  go_enter Tryz.func7, Tryz.ntmps7
  go_wp2_with fail
  with_reducible refine HP.out.mono ?_
  rintro en w2 (⟨_, y, rfl, h2⟩ | ⟨hn, _⟩)
  · rw [HPR.out] at h2
    have h2 : Held w0 w2 (ownT 5 1 y 10 (u8s [31, 139, 8, 0, 0, 0, 0, 0, 0, 0]) :: Rs) := h2
    obtain ⟨yo, yc, rfl, _, _⟩ := h2.own.form
    obtain ⟨g, off, rfl, hc⟩ := h2.own.rd.spot (by decide)
    have hc0 := hc 0 (.int .u8 31) rfl
    rw [Nat.add_zero] at hc0
    have H2 := hid h2.drop
    clear h2 HP hc
    go_wp2
    go_ret
    exact ⟨rfl, H2.out⟩
  · exact absurd HG.out hn
set_option maxRecDepth 100000 in
set_option maxHeartbeats 12800000 in
theorem good_any (x : Hdr) (ao : Option Addr) (cap : Nat) (ho : OkH x) (hl : x.extra.length ≤ 1000000 ∧ x.name.length ≤ 1000000 ∧ x.note.length ≤ 1000000) (h : Held w0 w Rs) :
    Calls Tryz.prog 9 #[hdrV x (.slice ao x.extra.length cap)] w fun e w' => e = .returned (.bool (goodB x)) ∧ Held w0 w' Rs := by
  obtain ⟨gb, hgb⟩ : ∃ gb, gb = goodB x := ⟨_, rfl⟩
  rw [← hgb]
  have HGB := hid hgb
  clear hgb
  obtain ⟨a, b, t, fl, sy, ex, c, nm, nt, d, g⟩ := x
  have h1 := h.newObj (hdrC ⟨a, b, t, fl, sy, ex, c, nm, nt, d, g⟩ (.slice ao ex.length cap)) 29
  have s1 := strB_size nm
  have s2 := strB_size nt
  have e1 : nm ≠ [] → (strB nm).toList.isEmpty = false := strB_emp
  have e2 : nt ≠ [] → (strB nt).toList.isEmpty = false := strB_emp
  have z1 : nm = [] → strB nm = ⟨#[]⟩ := fun h => by rw [h]; rfl
  have z2 : nt = [] → strB nt = ⟨#[]⟩ := fun h => by rw [h]; rfl
  have hat : ∀ (i cc : Nat), (nm ++ nt)[i]? = some cc → ∀ hi : i < (strB nm ++ strB nt).size, ((strB nm ++ strB nt)[i]'hi).toNat = cc := fun i cc hcc hi => by
    have h3 : ∀ (s : ByteArray) (hs : s = strB (nm ++ nt)) (hi : i < s.size), (s[i]'hi).toNat = cc := fun s hs hi => by
      subst hs
      refine strB_at hcc ?_ hi
      rcases List.mem_append.1 (List.mem_of_getElem? hcc) with h4 | h4
      · exact ho.name _ h4
      · exact ho.note _ h4
    exact h3 _ (strB_app nm nt) hi
  have H1 := hid h1
  have HE := hid (And.intro e1 (And.intro e2 (And.intro z1 (And.intro z2 hat))))
  clear h h1 e1 e2 z1 z2 hat ho
  unfold hdrV hdrC strV at *
  dsimp only at *
  generalize strB nm = snm at *
  generalize strB nt = snt at *
  obtain ⟨n, hn⟩ : ∃ n, n = ex.length := ⟨_, rfl⟩
  obtain ⟨n1, hn1⟩ : ∃ n1, n1 = nm.length := ⟨_, rfl⟩
  obtain ⟨n2, hn2⟩ : ∃ n2, n2 = nt.length := ⟨_, rfl⟩
  rw [← hn1] at s1
  rw [← hn2] at s2
  rw [← hn, ← hn1, ← hn2] at hl
  rw [← hn] at H1 ⊢
  have HL := hid (And.intro hn (And.intro hn1 hn2))
  clear hn hn1 hn2
  have hn0 : (0 : Int) ≤ (n : Int) := Int.natCast_nonneg _
  have hn10 : (0 : Int) ≤ (n1 : Int) := Int.natCast_nonneg _
  have hn20 : (0 : Int) ≤ (n2 : Int) := Int.natCast_nonneg _
  go_enter Tryz.func9, Tryz.ntmps9
  have c5 := H1.out.obj.cell (i := 5) rfl
  have c6 := H1.out.obj.cell (i := 6) rfl
  have c7 := H1.out.obj.cell (i := 7) rfl
  have c8 := H1.out.obj.cell (i := 8) rfl
  have c9 := H1.out.obj.cell (i := 9) rfl
  have c10 := H1.out.obj.cell (i := 10) rfl
  go_wp2
  go_loopg [3] (n1 + n2 + 2) (fun gg t3 wr => wr = w.alloc (.cells #[.bool a, .bool b, .int .u32 (t : Int), .int .u8 (fl : Int), .int .u8 (sy : Int), .slice ao n cap, .bool c, .string snm, .string snt, .bool d, .bool g] 29) ∧ ∃ i : Nat, i ≤ n1 + n2 ∧ n1 + n2 - i < gg ∧ t3 = .int .i64 (i : Int) ∧ ∀ j, j < i → (nm ++ nt)[j]? ≠ some 0)
  case atStart => exact ⟨rfl, 0, by omega, by omega, rfl, fun j hj => absurd hj (Nat.not_lt_zero _)⟩
  case round =>
    obtain ⟨rfl, i, hi, hg, rfl, hno⟩ := hrel
    have hi0 : (0 : Int) ≤ (i : Int) := Int.natCast_nonneg _
    by_cases hin : i < n1 + n2
    · have hinI : (i : Int) < (n1 : Int) + (n2 : Int) := by omega
      obtain ⟨cc, hcc⟩ : ∃ cc, (nm ++ nt)[i]? = some cc := ⟨(nm ++ nt)[i]'(by rw [List.length_append]; have := HL.out; omega), List.getElem?_eq_getElem _⟩
      have hix := HE.out.2.2.2.2 i cc hcc
      by_cases hc0 : cc = 0
      · subst hc0
        have hixI : ∀ hi : i < (snm ++ snt).size, (((snm ++ snt)[i]'hi).toNat : Int) = 0 := fun hi => by rw [hix hi]; rfl
        have HV : Hid (gb = false) := hid (by
          rw [HGB.out]
          refine Bool.eq_false_iff.2 (fun h => ?_)
          have hh := goodB_iff.1 h
          rcases List.mem_append.1 (List.mem_of_getElem? hcc) with h4 | h4
          · exact hh.name.2.2 _ h4 rfl
          · exact hh.note.2.2 _ h4 rfl)
        clear hix hcc hno
        go_wp2
        go_ret
        exact ⟨by rw [HV.out]; rfl, H1.out.drop⟩
      · have hixI : ∀ hi : i < (snm ++ snt).size, (((snm ++ snt)[i]'hi).toNat : Int) = (cc : Int) := fun hi => by rw [hix hi]
        have hcI : ¬ (cc : Int) = 0 := by omega
        have hcB : ((cc : Int) == 0) = false := by simp; omega
        have HNO := hid (show ∀ j, j < i + 1 → (nm ++ nt)[j]? ≠ some 0 from fun j hj => by
          by_cases hji : j < i
          · exact hno j hji
          · obtain rfl : j = i := by omega
            rw [hcc]
            intro e
            exact hc0 (Option.some.inj e))
        clear hix hcc hno hc0
        go_wp2
        go_roundg (gk - 1)
        case measure => omega
        case rel => exact ⟨rfl, i + 1, by omega, by omega, by go_num, HNO.out⟩
    · have hinI : ¬ (i : Int) < (n1 : Int) + (n2 : Int) := by omega
      obtain rfl : i = n1 + n2 := by omega
      have hz : (∀ b ∈ nm, b ≠ 0) ∧ ∀ b ∈ nt, b ≠ 0 := by
        have hall : ∀ b ∈ nm ++ nt, b ≠ 0 := fun y hy hy0 => by
          obtain ⟨j, hj⟩ := List.mem_iff_getElem?.1 hy
          have hlt := (List.getElem?_eq_some_iff.1 hj).1
          rw [List.length_append] at hlt
          exact hno j (by have := HL.out; omega) (by rw [hj, hy0])
        exact ⟨fun y hy => hall y (List.mem_append_left _ hy), fun y hy => hall y (List.mem_append_right _ hy)⟩
      have HZ := hid hz
      clear hz hno
      have hd3 : ∀ (q : Bool) (y : List Nat), q = true ∨ (q = false ∧ y = []) ∨ (q = false ∧ y ≠ []) := fun q y => by
        cases q with
        | true => exact .inl rfl
        | false => exact .inr (by by_cases h : y = []; exact .inl ⟨rfl, h⟩; exact .inr ⟨rfl, h⟩)
      have hc3 : c = true ∨ (c = false ∧ n = 0) ∨ (c = false ∧ n ≠ 0) := by
        cases c with
        | true => exact .inl rfl
        | false => exact .inr (by by_cases h : n = 0; exact .inl ⟨rfl, h⟩; exact .inr ⟨rfl, h⟩)
      by_cases hE : n ≤ 65535
      · have hEI : (n : Int) ≤ 65535 := by omega
        rcases hc3 with rfl | ⟨rfl, rfl⟩ | ⟨rfl, hne⟩
        · skip
          by_cases hA : n1 ≤ 4096
          · have hAI : (n1 : Int) ≤ 4096 := by omega
            rcases hd3 d nm with rfl | ⟨rfl, hnn⟩ | ⟨rfl, hnn⟩
            · skip
              by_cases hB : n2 ≤ 4096
              · have hBI : (n2 : Int) ≤ 4096 := by omega
                rcases hd3 g nt with rfl | ⟨rfl, hnt⟩ | ⟨rfl, hnt⟩
                · skip
                  have HV : Hid (gb = true) := hid (by rw [HGB.out]; exact goodB_iff.2 ⟨⟨by rw [← HL.out.1]; exact hE, .inl rfl⟩, ⟨by rw [← HL.out.2.1]; exact hA, .inl rfl, HZ.out.1⟩, ⟨by rw [← HL.out.2.2]; exact hB, .inl rfl, HZ.out.2⟩⟩)
                  go_wp2
                  go_ret
                  exact ⟨by rw [HV.out]; rfl, H1.out.drop⟩
                · obtain rfl := HE.out.2.2.2.1 hnt
                  have HV : Hid (gb = true) := hid (by rw [HGB.out]; exact goodB_iff.2 ⟨⟨by rw [← HL.out.1]; exact hE, .inl rfl⟩, ⟨by rw [← HL.out.2.1]; exact hA, .inl rfl, HZ.out.1⟩, ⟨by rw [← HL.out.2.2]; exact hB, .inr hnt, HZ.out.2⟩⟩)
                  go_wp2
                  go_ret
                  exact ⟨by rw [HV.out]; rfl, H1.out.drop⟩
                · have hem2 := HE.out.2.1 hnt
                  have HV : Hid (gb = false) := hid (by rw [HGB.out]; exact Bool.eq_false_iff.2 (fun h => by have hh := goodB_iff.1 h; exact (hh.note.2.1).elim (fun e => by cases e) hnt))
                  go_wp2
                  go_ret
                  exact ⟨by rw [HV.out]; rfl, H1.out.drop⟩
              · have hBI : ¬ (n2 : Int) ≤ 4096 := by omega
                have HV : Hid (gb = false) := hid (by rw [HGB.out]; exact Bool.eq_false_iff.2 (fun h => by have hh := goodB_iff.1 h; exact hB (by rw [HL.out.2.2]; exact hh.note.1)))
                go_wp2
                go_ret
                exact ⟨by rw [HV.out]; rfl, H1.out.drop⟩
            · obtain rfl := HE.out.2.2.1 hnn
              by_cases hB : n2 ≤ 4096
              · have hBI : (n2 : Int) ≤ 4096 := by omega
                rcases hd3 g nt with rfl | ⟨rfl, hnt⟩ | ⟨rfl, hnt⟩
                · skip
                  have HV : Hid (gb = true) := hid (by rw [HGB.out]; exact goodB_iff.2 ⟨⟨by rw [← HL.out.1]; exact hE, .inl rfl⟩, ⟨by rw [← HL.out.2.1]; exact hA, .inr hnn, HZ.out.1⟩, ⟨by rw [← HL.out.2.2]; exact hB, .inl rfl, HZ.out.2⟩⟩)
                  go_wp2
                  go_ret
                  exact ⟨by rw [HV.out]; rfl, H1.out.drop⟩
                · obtain rfl := HE.out.2.2.2.1 hnt
                  have HV : Hid (gb = true) := hid (by rw [HGB.out]; exact goodB_iff.2 ⟨⟨by rw [← HL.out.1]; exact hE, .inl rfl⟩, ⟨by rw [← HL.out.2.1]; exact hA, .inr hnn, HZ.out.1⟩, ⟨by rw [← HL.out.2.2]; exact hB, .inr hnt, HZ.out.2⟩⟩)
                  go_wp2
                  go_ret
                  exact ⟨by rw [HV.out]; rfl, H1.out.drop⟩
                · have hem2 := HE.out.2.1 hnt
                  have HV : Hid (gb = false) := hid (by rw [HGB.out]; exact Bool.eq_false_iff.2 (fun h => by have hh := goodB_iff.1 h; exact (hh.note.2.1).elim (fun e => by cases e) hnt))
                  go_wp2
                  go_ret
                  exact ⟨by rw [HV.out]; rfl, H1.out.drop⟩
              · have hBI : ¬ (n2 : Int) ≤ 4096 := by omega
                have HV : Hid (gb = false) := hid (by rw [HGB.out]; exact Bool.eq_false_iff.2 (fun h => by have hh := goodB_iff.1 h; exact hB (by rw [HL.out.2.2]; exact hh.note.1)))
                go_wp2
                go_ret
                exact ⟨by rw [HV.out]; rfl, H1.out.drop⟩
            · have hem := HE.out.1 hnn
              have HV : Hid (gb = false) := hid (by rw [HGB.out]; exact Bool.eq_false_iff.2 (fun h => by have hh := goodB_iff.1 h; exact (hh.name.2.1).elim (fun e => by cases e) hnn))
              go_wp2
              go_ret
              exact ⟨by rw [HV.out]; rfl, H1.out.drop⟩
          · have hAI : ¬ (n1 : Int) ≤ 4096 := by omega
            have HV : Hid (gb = false) := hid (by rw [HGB.out]; exact Bool.eq_false_iff.2 (fun h => by have hh := goodB_iff.1 h; exact hA (by rw [HL.out.2.1]; exact hh.name.1)))
            go_wp2
            go_ret
            exact ⟨by rw [HV.out]; rfl, H1.out.drop⟩
        · skip
          by_cases hA : n1 ≤ 4096
          · have hAI : (n1 : Int) ≤ 4096 := by omega
            rcases hd3 d nm with rfl | ⟨rfl, hnn⟩ | ⟨rfl, hnn⟩
            · skip
              by_cases hB : n2 ≤ 4096
              · have hBI : (n2 : Int) ≤ 4096 := by omega
                rcases hd3 g nt with rfl | ⟨rfl, hnt⟩ | ⟨rfl, hnt⟩
                · skip
                  have HV : Hid (gb = true) := hid (by rw [HGB.out]; exact goodB_iff.2 ⟨⟨by rw [← HL.out.1]; exact hE, .inr (List.eq_nil_of_length_eq_zero HL.out.1.symm)⟩, ⟨by rw [← HL.out.2.1]; exact hA, .inl rfl, HZ.out.1⟩, ⟨by rw [← HL.out.2.2]; exact hB, .inl rfl, HZ.out.2⟩⟩)
                  go_wp2
                  go_ret
                  exact ⟨by rw [HV.out]; rfl, H1.out.drop⟩
                · obtain rfl := HE.out.2.2.2.1 hnt
                  have HV : Hid (gb = true) := hid (by rw [HGB.out]; exact goodB_iff.2 ⟨⟨by rw [← HL.out.1]; exact hE, .inr (List.eq_nil_of_length_eq_zero HL.out.1.symm)⟩, ⟨by rw [← HL.out.2.1]; exact hA, .inl rfl, HZ.out.1⟩, ⟨by rw [← HL.out.2.2]; exact hB, .inr hnt, HZ.out.2⟩⟩)
                  go_wp2
                  go_ret
                  exact ⟨by rw [HV.out]; rfl, H1.out.drop⟩
                · have hem2 := HE.out.2.1 hnt
                  have HV : Hid (gb = false) := hid (by rw [HGB.out]; exact Bool.eq_false_iff.2 (fun h => by have hh := goodB_iff.1 h; exact (hh.note.2.1).elim (fun e => by cases e) hnt))
                  go_wp2
                  go_ret
                  exact ⟨by rw [HV.out]; rfl, H1.out.drop⟩
              · have hBI : ¬ (n2 : Int) ≤ 4096 := by omega
                have HV : Hid (gb = false) := hid (by rw [HGB.out]; exact Bool.eq_false_iff.2 (fun h => by have hh := goodB_iff.1 h; exact hB (by rw [HL.out.2.2]; exact hh.note.1)))
                go_wp2
                go_ret
                exact ⟨by rw [HV.out]; rfl, H1.out.drop⟩
            · obtain rfl := HE.out.2.2.1 hnn
              by_cases hB : n2 ≤ 4096
              · have hBI : (n2 : Int) ≤ 4096 := by omega
                rcases hd3 g nt with rfl | ⟨rfl, hnt⟩ | ⟨rfl, hnt⟩
                · skip
                  have HV : Hid (gb = true) := hid (by rw [HGB.out]; exact goodB_iff.2 ⟨⟨by rw [← HL.out.1]; exact hE, .inr (List.eq_nil_of_length_eq_zero HL.out.1.symm)⟩, ⟨by rw [← HL.out.2.1]; exact hA, .inr hnn, HZ.out.1⟩, ⟨by rw [← HL.out.2.2]; exact hB, .inl rfl, HZ.out.2⟩⟩)
                  go_wp2
                  go_ret
                  exact ⟨by rw [HV.out]; rfl, H1.out.drop⟩
                · obtain rfl := HE.out.2.2.2.1 hnt
                  have HV : Hid (gb = true) := hid (by rw [HGB.out]; exact goodB_iff.2 ⟨⟨by rw [← HL.out.1]; exact hE, .inr (List.eq_nil_of_length_eq_zero HL.out.1.symm)⟩, ⟨by rw [← HL.out.2.1]; exact hA, .inr hnn, HZ.out.1⟩, ⟨by rw [← HL.out.2.2]; exact hB, .inr hnt, HZ.out.2⟩⟩)
                  go_wp2
                  go_ret
                  exact ⟨by rw [HV.out]; rfl, H1.out.drop⟩
                · have hem2 := HE.out.2.1 hnt
                  have HV : Hid (gb = false) := hid (by rw [HGB.out]; exact Bool.eq_false_iff.2 (fun h => by have hh := goodB_iff.1 h; exact (hh.note.2.1).elim (fun e => by cases e) hnt))
                  go_wp2
                  go_ret
                  exact ⟨by rw [HV.out]; rfl, H1.out.drop⟩
              · have hBI : ¬ (n2 : Int) ≤ 4096 := by omega
                have HV : Hid (gb = false) := hid (by rw [HGB.out]; exact Bool.eq_false_iff.2 (fun h => by have hh := goodB_iff.1 h; exact hB (by rw [HL.out.2.2]; exact hh.note.1)))
                go_wp2
                go_ret
                exact ⟨by rw [HV.out]; rfl, H1.out.drop⟩
            · have hem := HE.out.1 hnn
              have HV : Hid (gb = false) := hid (by rw [HGB.out]; exact Bool.eq_false_iff.2 (fun h => by have hh := goodB_iff.1 h; exact (hh.name.2.1).elim (fun e => by cases e) hnn))
              go_wp2
              go_ret
              exact ⟨by rw [HV.out]; rfl, H1.out.drop⟩
          · have hAI : ¬ (n1 : Int) ≤ 4096 := by omega
            have HV : Hid (gb = false) := hid (by rw [HGB.out]; exact Bool.eq_false_iff.2 (fun h => by have hh := goodB_iff.1 h; exact hA (by rw [HL.out.2.1]; exact hh.name.1)))
            go_wp2
            go_ret
            exact ⟨by rw [HV.out]; rfl, H1.out.drop⟩
        · have hneI : ¬ (n : Int) = 0 := by omega
          have hneB : ((n : Int) == 0) = false := by simp; omega
          have HV : Hid (gb = false) := hid (by rw [HGB.out]; exact Bool.eq_false_iff.2 (fun h => by have hh := goodB_iff.1 h; exact (hh.extra.2).elim (fun e => by cases e) (fun e => hne (by rw [HL.out.1, show ex = [] from e]; rfl))))
          go_wp2
          go_ret
          exact ⟨by rw [HV.out]; rfl, H1.out.drop⟩
      · have hEI : ¬ (n : Int) ≤ 65535 := by omega
        have HV : Hid (gb = false) := hid (by rw [HGB.out]; exact Bool.eq_false_iff.2 (fun h => by have hh := goodB_iff.1 h; exact hE (by rw [HL.out.1]; exact hh.extra.1)))
        go_wp2
        go_ret
        exact ⟨by rw [HV.out]; rfl, H1.out.drop⟩
end
end Go.Proofs.YtkdmdbojcdonpaaGreatDoor
