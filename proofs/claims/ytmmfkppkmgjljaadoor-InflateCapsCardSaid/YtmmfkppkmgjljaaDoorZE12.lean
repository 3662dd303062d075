/-
  Symbols sorted by their codes, by counting; and how a code is read by counts, one bit after the other. No program is named here.
-/
import Derived.Test.YtmmfkppkmgjljaaDoorZE03
import Derived.Test.YtmmfkppkmgjljaaDoorZE05
import Derived.Test.YtmmfkppkmgjljaaDoorProg
import Derived.Test.YtmmfkppkmgjljaaDoorZE04
import Derived.StillTailTactics
namespace Go.Proofs.YtmmfkppkmgjljaaDoor
set_option maxRecDepth 5000
theorem fstC_succ (l : List Int) (z : Nat) (h : 1 ≤ z) : fstC l (z + 1) = 2 * (fstC l z + l.count (z : Int)) := by
  obtain ⟨n, rfl⟩ : ∃ n, z = n + 1 := ⟨z - 1, by omega⟩
  rfl
theorem count_here (l : List Int) (i z : Nat) (h : l[i]? = some (z : Int)) : (l.take i).count (z : Int) < l.count (z : Int) := by
  have h1 := count_take_succ l i (z : Int) (z : Int) h
  have h2 := count_take_le l (i + 1) (z : Int)
  rw [if_pos rfl] at h1; omega
/-! ### reading by counts -/
def Past (l : List Int) (bs : List Nat) (z : Nat) : Prop := ∀ i q, Hit l bs i q → z ≤ q
theorem Past.one (l : List Int) (bs : List Nat) : Past l bs 1 := fun _ _ h => h.2.1
theorem hit_code {l : List Int} {bs : List Nat} {i z : Nat} (h : Hit l bs i z) (hz : z ≤ 15) : hiN (bs.take z) = fstC l z + (l.take i).count (z : Int) ∧ hiN (bs.take z) < fstC l z + l.count (z : Int) := by
  have h1 := h.2.2.2
  have h2 := h.2.1
  rw [codeAt_len l i _ h.1 (by simp [isLen]; omega), Int.toNat_natCast] at h1
  have h3 := count_here l i z h.1
  exact ⟨h1, by omega⟩
theorem Past.next {l : List Int} {bs : List Nat} {z : Nat} (h : Past l bs z) (hz : z ≤ 15) (hv : fstC l z + l.count (z : Int) ≤ hiN (bs.take z)) : Past l bs (z + 1) := fun i q hh => by
  have h1 := h i q hh
  by_cases e : q = z
  · subst e; have := (hit_code hh hz).2; omega
  · omega
theorem over_next {l : List Int} {bs : List Nat} {z b : Nat} (hz : 1 ≤ z) (hv : fstC l z + l.count (z : Int) ≤ hiN (bs.take z)) (hb : bs[z]? = some b) : fstC l (z + 1) ≤ hiN (bs.take (z + 1)) := by
  rw [fstC_succ l z hz, hiN_take bs z b hb]; omega
theorem hit_at {l : List Int} {bs : List Nat} {z i : Nat} (hz : 1 ≤ z) (hzb : z ≤ bs.length) (hi : l[i]? = some (z : Int)) (hc : codeAt l i = hiN (bs.take z)) : Hit l bs i z := ⟨hi, hz, hzb, hc.symm⟩
theorem read_hit {l : List Int} {bs : List Nat} {i z : Nat} (h : Hit l bs i z) : ReadIs l bs i z 0 := .inl ⟨rfl, h⟩
theorem read_empty (l : List Int) : ReadIs l [] 0 0 5 :=
  .inr ⟨rfl, rfl, fun i q hh => by have h1 := hh.2.1; have h2 := hh.2.2.1; simp at h2; omega, by rw [if_pos (.inr rfl)]⟩
end Go.Proofs.YtmmfkppkmgjljaaDoor
/-
  The symbols of a code, a group for each number of bits. No program is named here.
-/
namespace Go.Proofs.YtmmfkppkmgjljaaDoor
set_option maxRecDepth 5000
open Go.RowKit
def grp (l : List Int) (k n : Nat) : List Nat := if n = 0 then [] else (List.range k).filter fun i => l[i]? == some (n : Int)
def grpF (l : List Int) (k n : Nat) : Nat := if grp l k n = [] then 0 else fstC l n
theorem grp_none (l : List Int) (n : Nat) : grp l 0 n = [] := by unfold grp; split <;> rfl
theorem grpF_none (l : List Int) (n : Nat) : grpF l 0 n = 0 := by unfold grpF; rw [if_pos (grp_none l n)]
theorem grp_in (l : List Int) (k z : Nat) (h : l[k]? = some (z : Int)) (hz : 1 ≤ z) : grp l (k + 1) z = grp l k z ++ [k] := by
  unfold grp
  rw [if_neg (by omega), if_neg (by omega), List.range_succ, List.filter_append]
  simp [h]
theorem grp_out (l : List Int) (k z n : Nat) (h : l[k]? = some (z : Int)) (hn : n ≠ z) : grp l (k + 1) n = grp l k n := by
  unfold grp
  by_cases h0 : n = 0
  · rw [if_pos h0, if_pos h0]
  · rw [if_neg h0, if_neg h0, List.range_succ, List.filter_append]
    have : ¬ z = n := fun e => hn e.symm
    simp [h]; omega
theorem grp_skip (l : List Int) (k n : Nat) (h : l[k]? = some 0) : grp l (k + 1) n = grp l k n := by
  by_cases h0 : n = 0
  · subst h0; unfold grp; rfl
  · exact grp_out l k 0 n h h0
theorem grp_spec (l : List Int) (n : Nat) : ∀ k, k ≤ l.length → ∀ r i : Nat, (grp l k n)[r]? = some i → l[i]? = some (n : Int) ∧ (l.take i).count (n : Int) = r ∧ i < k
  | 0, _, r, i, h => by rw [grp_none] at h; simp at h
  | k + 1, hk, r, i, h => by
    have ih := grp_spec l n k (by omega)
    by_cases h0 : n = 0
    · subst h0; simp [grp] at h
    obtain ⟨a, ha⟩ : ∃ a, l[k]? = some a := ⟨l[k]'(by omega), List.getElem?_eq_getElem _⟩
    by_cases e : a = (n : Int)
    · subst e
      rw [grp_in l k n ha (by omega), List.getElem?_append] at h
      split at h
      · obtain ⟨h1, h2, h3⟩ := ih r i h
        exact ⟨h1, h2, by omega⟩
      · rename_i hr
        have hr0 : r - (grp l k n).length = 0 := by
          by_cases hz : r - (grp l k n).length = 0
          · exact hz
          · rw [List.getElem?_eq_none (by simp; omega)] at h; cases h
        rw [hr0] at h
        simp only [List.getElem?_cons_zero, Option.some.injEq] at h
        subst h
        refine ⟨ha, ?_, by omega⟩
        have hlen : (grp l k n).length = (l.take k).count (n : Int) := by
          clear ih ha hr hr0
          have : ∀ m, m ≤ l.length → (grp l m n).length = (l.take m).count (n : Int) := by
            intro m
            induction m with
            | zero => intro _; rw [grp_none]; rfl
            | succ m ihm =>
              intro hm
              have hmm := ihm (by omega)
              obtain ⟨b, hb⟩ : ∃ b, l[m]? = some b := ⟨l[m]'(by omega), List.getElem?_eq_getElem _⟩
              rw [List.take_add_one, hb, List.count_append, ← hmm]
              by_cases eb : b = (n : Int)
              · subst eb
                rw [grp_in l m n hb (by omega)]; simp
              · have : grp l (m + 1) n = grp l m n := by
                  unfold grp
                  rw [if_neg h0, if_neg h0, List.range_succ, List.filter_append]
                  simp [hb, eb]
                rw [this]; simp [eb]
          exact this k (by omega)
        omega
    · have : grp l (k + 1) n = grp l k n := by
        unfold grp
        rw [if_neg h0, if_neg h0, List.range_succ, List.filter_append]
        simp [ha, e]
      rw [this] at h
      obtain ⟨h1, h2, h3⟩ := ih r i h
      exact ⟨h1, h2, by omega⟩
theorem grp_len (l : List Int) (n : Nat) (h0 : 1 ≤ n) : ∀ m, m ≤ l.length → (grp l m n).length = (l.take m).count (n : Int) := by
  intro m
  induction m with
  | zero => intro _; rw [grp_none]; rfl
  | succ m ihm =>
    intro hm
    have hmm := ihm (by omega)
    obtain ⟨b, hb⟩ : ∃ b, l[m]? = some b := ⟨l[m]'(by omega), List.getElem?_eq_getElem _⟩
    rw [List.take_add_one, hb, List.count_append, ← hmm]
    by_cases eb : b = (n : Int)
    · subst eb
      rw [grp_in l m n hb h0]; simp
    · have : grp l (m + 1) n = grp l m n := by
        unfold grp
        rw [if_neg (by omega), if_neg (by omega), List.range_succ, List.filter_append]
        simp [hb, eb]
      rw [this]; simp [eb]
theorem grp_all (l : List Int) (n : Nat) (h0 : 1 ≤ n) : (grp l l.length n).length = l.count (n : Int) := by
  rw [grp_len l n h0 _ (Nat.le_refl _), List.take_of_length_le (Nat.le_refl _)]
theorem grp_le (l : List Int) (k n : Nat) : (grp l k n).length ≤ k := by
  unfold grp
  split
  · exact Nat.zero_le _
  · have := List.length_filter_le (fun i => l[i]? == some (n : Int)) (List.range k)
    simpa using this
theorem grpF_in (l : List Int) (k z : Nat) (h : l[k]? = some (z : Int)) (hz : 1 ≤ z) (hz2 : z ≤ 15) : grpF l (k + 1) z = if (grp l k z).length = 0 then codeAt l k else grpF l k z := by
  have hk := (List.getElem?_eq_some_iff.1 h).1
  unfold grpF
  rw [grp_in l k z h hz, if_neg (by simp)]
  by_cases e : grp l k z = []
  · rw [if_pos (by rw [e]; rfl)]
    have := grp_len l z hz k (by omega)
    rw [e] at this
    rw [codeAt_len l k _ h (by simp [isLen]; omega), Int.toNat_natCast, ← this]; rfl
  · rw [if_neg (fun h => e (List.eq_nil_of_length_eq_zero h)), if_neg e]
theorem grpF_out (l : List Int) (k z n : Nat) (h : l[k]? = some (z : Int)) (hn : n ≠ z) : grpF l (k + 1) n = grpF l k n := by
  unfold grpF; rw [grp_out l k z n h hn]
theorem grpF_skip (l : List Int) (k n : Nat) (h : l[k]? = some 0) : grpF l (k + 1) n = grpF l k n := by
  unfold grpF; rw [grp_skip l k n h]
theorem grp_code (l : List Int) (n r i : Nat) (hn : 1 ≤ n) (hn2 : n ≤ 15) (h : (grp l l.length n)[r]? = some i) : l[i]? = some (n : Int) ∧ codeAt l i = fstC l n + r := by
  obtain ⟨h1, h2, _⟩ := grp_spec l n _ (Nat.le_refl _) r i h
  refine ⟨h1, ?_⟩
  rw [codeAt_len l i _ h1 (by simp [isLen]; omega), Int.toNat_natCast, h2]
theorem lng_small0 (l : List Int) (hl : ∀ a ∈ l, 0 ≤ a ∧ a ≤ 15) (h : sumOf l ≤ 16384 * l.count 1) : lng l ≤ 1 := by
  induction l with
  | nil => exact Nat.zero_le _
  | cons a l ihl =>
    have ha := hl a List.mem_cons_self
    have hl2 : ∀ b ∈ l, 0 ≤ b ∧ b ≤ 15 := fun b hb => hl b (List.mem_cons_of_mem _ hb)
    have hb := (sum_bounds l hl2).1
    have ihl := ihl hl2
    rw [sum_cons, List.count_cons] at h
    show max a.toNat (lng l) ≤ 1
    by_cases h1 : a = 1
    · subst h1
      have hw : wtTo 15 1 = 16384 := by decide
      rw [hw, if_pos (by decide)] at h
      have ih := ihl (by omega)
      have : (1 : Int).toNat = 1 := rfl
      omega
    · rw [if_neg (by simpa using h1)] at h
      by_cases h0 : a = 0
      · subst h0
        have ih := ihl (by omega)
        have : (0 : Int).toNat = 0 := rfl
        omega
      · exfalso
        have hw : 1 ≤ wtTo 15 a := by
          unfold wtTo
          rw [if_pos (by omega)]
          exact Nat.pos_of_ne_zero (by simp)
        omega
theorem lng_small (l : List Int) (hl : ∀ a ∈ l, 0 ≤ a ∧ a ≤ 15) (h : sumOf l = 0 ∨ sumOf l = 16384 ∧ l.count 1 = 1) : lng l ≤ 1 :=
  lng_small0 l hl (by rcases h with h | ⟨h, h2⟩ <;> omega)
end Go.Proofs.YtmmfkppkmgjljaaDoor
/-
  The program's Check.
-/
namespace Go.Proofs.YtmmfkppkmgjljaaDoor
set_option maxRecDepth 5000
open Go.RowKit
set_option maxHeartbeats 800000 in
theorem within_any (v : Value) (l : List Int) (most : Int) (w : World) (hv : Rd w 1 v l.length (ints l)) (hl : l.length < 1000000) :
    Calls Tryd.prog 97 #[v, .int .i64 most] w fun e w' => e = .returned (.bool (allIn l most)) ∧ w = w' := by
  obtain ⟨ao, cap, rfl, _, _⟩ := hv.form
  obtain ⟨n, hn⟩ : ∃ n, n = l.length := ⟨_, rfl⟩
  rw [← hn] at hv hl
  have HN := hid hn
  clear hn
  have HGO : Hid (Rd w 1 (.slice ao n cap) n (ints l)) := hv
  rw [show l.length = n from HN.out.symm]
  go_enter Tryd.func97, Tryd.ntmps97
  go_wp2
  go_loopg [9] (n + 1) (fun k t9 wr => ∃ (i : Nat), i ≤ n ∧ n - i < k ∧ t9 = .int .i64 (i : Int) ∧ Hid (allIn (l.take i) most = true) ∧ wr = w)
  case atStart => exact ⟨0, by omega, by omega, rfl, rfl, rfl⟩
  case round =>
    obtain ⟨i, hi, hk, rfl, HA, rfl⟩ := hrel
    by_cases hin : i < n
    · obtain ⟨g, off, rfl, hcell⟩ := hv.spot (by omega)
      obtain ⟨a, hai⟩ : ∃ a, l[i]? = some a := ⟨l[i]'(by have := HN.out; omega), List.getElem?_eq_getElem _⟩
      have hc1 := hcell i _ (by rw [ints_get, hai]; rfl)
      have hi0 : (0 : Int) ≤ (i : Int) := Int.natCast_nonneg _
      have hi1 : (i : Int) < (n : Int) := by omega
      have HT := hid (take_snoc3 l i a hai)
      have h3 : a < 0 ∨ 0 ≤ a ∧ most < a ∨ 0 ≤ a ∧ a ≤ most := by omega
      rcases h3 with h | ⟨h, h2⟩ | ⟨h, h2⟩
      · have HF : Hid (allIn l most = false) := by unfold Hid; refine allIn_take l (i + 1) most ?_; rw [HT.out, allIn_snoc, HA.out]; simp; omega
        clear hcell hai
        go_wp2
        go_ret
        exact ⟨by rw [HF.out]; rfl, rfl⟩
      · have HF : Hid (allIn l most = false) := by unfold Hid; refine allIn_take l (i + 1) most ?_; rw [HT.out, allIn_snoc, HA.out]; simp; omega
        clear hcell hai
        go_wp2
        go_ret
        exact ⟨by rw [HF.out]; rfl, rfl⟩
      · have HF : Hid (allIn (l.take (i + 1)) most = true) := by unfold Hid; rw [HT.out, allIn_snoc, HA.out]; simp; omega
        clear hcell hai
        go_wp2
        go_roundg (gk - 1)
        case measure => omega
        case rel => exact ⟨i + 1, by omega, by omega, by go_num, HF, rfl⟩
    · have hi1 : ¬ (i : Int) < (n : Int) := by omega
      have HF : Hid (allIn l most = true) := by unfold Hid; have h := HA.out; rwa [List.take_of_length_le (by have := HN.out; omega)] at h
      go_wp2
      go_ret
      exact ⟨by rw [HF.out]; rfl, rfl⟩
set_option maxRecDepth 20000 in
set_option maxHeartbeats 1600000 in
theorem check_any (v : Value) (l : List Int) (most : Int) (w : World) (hv : Rd w 1 v l.length (ints l)) (hl : l.length < 1000000) :
    Calls Tryd.prog 78 #[v, .int .i64 most] w fun e w' => e = .returned (.int .i64 ((checkOf l most : Nat) : Int)) ∧ Mod w w' (fun _ => False) := by
  obtain ⟨ao, cap, rfl, _, _⟩ := hv.form
  have HCC := hid (count_any _ l w hv hl)
  have HWI := hid (within_any _ l most w hv hl)
  have HLN := hid hl
  obtain ⟨n, hn⟩ : ∃ n, n = l.length := ⟨_, rfl⟩
  rw [← hn] at hv hl HCC HWI
  rw [← hn]
  have HN := hid hn
  clear hn hv
  have hn0 : (0 : Int) ≤ (n : Int) := Int.natCast_nonneg _
  have h4 : most < 1 ∨ 1 ≤ most ∧ 15 < most ∨ 1 ≤ most ∧ most ≤ 15 ∧ 288 < n ∨ 1 ≤ most ∧ most ≤ 15 ∧ n ≤ 288 := by omega
  rcases h4 with h | ⟨h, h2⟩ | ⟨h, h2, h3⟩ | ⟨h, h2, h3⟩
  · have HF : Hid (checkOf l most = 1) := by unfold Hid checkOf; rw [if_pos]; simp [argBad]; omega
    go_enter Tryd.func78, Tryd.ntmps78
    go_wp2
    go_ret
    exact ⟨by rw [HF.out]; rfl, Mod.refl _ _⟩
  · have HF : Hid (checkOf l most = 1) := by unfold Hid checkOf; rw [if_pos]; simp [argBad]; omega
    go_enter Tryd.func78, Tryd.ntmps78
    go_wp2
    go_ret
    exact ⟨by rw [HF.out]; rfl, Mod.refl _ _⟩
  · have HF : Hid (checkOf l most = 1) := by unfold Hid checkOf; rw [if_pos]; have := HN.out; simp [argBad]; omega
    have h3I : (288 : Int) < (n : Int) := by omega
    go_enter Tryd.func78, Tryd.ntmps78
    go_wp2
    go_ret
    exact ⟨by rw [HF.out]; rfl, Mod.refl _ _⟩
  · have h3I : ¬ (288 : Int) < (n : Int) := by omega
    have h15 : ¬ 15 < most := by omega
    have h1 : ¬ most < 1 := by omega
    have HA1 : Hid (argBad l most = !allIn l most) := by
      unfold Hid argBad
      have := HN.out
      rw [decide_eq_false (by omega)]; rfl
    cases hA : allIn l most with
    | false =>
      rw [hA] at HWI
      have HF : Hid (checkOf l most = 1) := by unfold Hid checkOf; rw [HA1.out, hA]; rfl
      clear hA
      go_enter Tryd.func78, Tryd.ntmps78
      go_wp2_with fail
      refine HWI.out.mono ?_
      rintro e w1 ⟨rfl, rfl⟩
      go_wp2
      go_ret
      exact ⟨by rw [HF.out]; rfl, Mod.refl _ _⟩
    | true =>
      rw [hA] at HWI
      have HF : Hid (checkOf l most = if sumOf l = 0 ∨ sumOf l = 32768 ∨ sumOf l = 16384 ∧ l.count 1 = 1 then 0 else 3) := by
        unfold Hid checkOf; rw [HA1.out, hA]; rfl
      clear hA
      have HL := hid (cnts_length l)
      have HL0 := hid (cnts_length [])
      go_enter Tryd.func78, Tryd.ntmps78
      go_wp2_with fail
      refine HWI.out.mono ?_
      rintro e w0 ⟨rfl, rfl⟩
      go_wp2_with fail
      refine HCC.out.mono ?_
      rintro e w1 ⟨rfl, hM1⟩
      have HH0 := hid (((Held.start w).same hM1).newObj (nums .i64 (cnts [])) 109)
      clear hM1
      go_wp2_with (first
        | refine wpList_alloc_arr rfl _ rfl .i64 _ infoCz ?_
        | (refine wpList_store_arr rfl _ _ _ rfl 16 infoCs _ .i64 (cnts []) (cnts l) _ rfl rfl HL0.out HL.out HH0.out.obj ?_; intro w3 hB3 hM3; have HB3 := hid hB3; have HM3 := hid hM3; clear hM3)
        | refine wpList_load_arr rfl _ _ rfl _ 16 (by rfl) rfl infoCs w1.heap.size .i64 (cnts l) _ rfl HL.out HB3.out ?_)
      refine (csum_any l w3 HLN.out).mono ?_
      rintro e w4 ⟨rfl, hM4⟩
      have HH := hid ((HH0.out.putObj HB3.out HM3.out).same hM4)
      have hcell := HH.out.obj.cell (i := 1) (v := .int .i64 ((l.count 1 : Nat) : Int)) (by rw [nums_get, cnts_get _ 1 (by omega) (by omega)]; rfl)
      clear hM4 hB3
      obtain ⟨s, hs⟩ : ∃ s, s = sumOf l := ⟨_, rfl⟩
      obtain ⟨c, hc⟩ : ∃ c, c = l.count 1 := ⟨_, rfl⟩
      rw [← hc] at HF hcell
      rw [← hs] at HF ⊢
      clear hs hc
      have h5 : s = 0 ∨ s = 32768 ∨ s = 16384 ∧ c = 1 ∨ s = 16384 ∧ c ≠ 1 ∨ s ≠ 0 ∧ s ≠ 32768 ∧ s ≠ 16384 := by omega
      rcases h5 with rfl | rfl | ⟨rfl, rfl⟩ | ⟨rfl, hc1⟩ | ⟨hs0, hs1, hs2⟩
      · go_wp2
        go_ret
        exact ⟨by rw [HF.out]; rfl, HH.out.mod⟩
      · go_wp2
        go_ret
        exact ⟨by rw [HF.out]; rfl, HH.out.mod⟩
      · go_wp2
        go_ret
        exact ⟨by rw [HF.out]; rfl, HH.out.mod⟩
      · have hcI : ¬ (c : Int) = 1 := by omega
        go_wp2
        go_ret
        exact ⟨by rw [HF.out, if_neg (by omega)]; rfl, HH.out.mod⟩
      · have hcI : ¬ (s : Int) = 0 := by omega
        have hcI2 : ¬ (s : Int) = 32768 := by omega
        have hcI3 : ¬ (s : Int) = 16384 := by omega
        go_wp2
        go_ret
        exact ⟨by rw [HF.out, if_neg (by omega)]; rfl, HH.out.mod⟩
end Go.Proofs.YtmmfkppkmgjljaaDoor
/-
  The reference's Sum and Check.
-/
namespace Go.Proofs.YtmmfkppkmgjljaaDoor
set_option maxRecDepth 5000
open Go.RowKit
set_option maxHeartbeats 1600000 in
theorem refsum_any (v : Value) (l : List Int) (w : World) (hv : Rd w 1 v l.length (ints l)) (hl : l.length < 1000000) :
    Calls Tryd.prog 48 #[v] w fun e w' => e = .returned (.int .i64 ((sumOf l : Nat) : Int)) ∧ w = w' := by
  obtain ⟨ao, cap, rfl, _, _⟩ := hv.form
  obtain ⟨n, hn⟩ : ∃ n, n = l.length := ⟨_, rfl⟩
  rw [← hn] at hv hl ⊢
  have HN := hid hn
  clear hn
  go_enter Tryd.func48, Tryd.ntmps48
  go_wp2
  go_loopg [3, 4] (n + 1) (fun k t3 t4 wr => ∃ (i s : Nat), i ≤ n ∧ n - i < k ∧ t4 = .int .i64 (i : Int) ∧ t3 = .int .i64 (s : Int) ∧ Hid (s = sumOf (l.take i)) ∧ s ≤ 16384 * i ∧ wr = w)
  case atStart => exact ⟨0, 0, by omega, by omega, rfl, rfl, by simp [Hid, sumOf, tot_nil], by omega, rfl⟩
  case round =>
    obtain ⟨i, s, hi, hk, rfl, rfl, HS, hs, rfl⟩ := hrel
    obtain ⟨gx, rfl⟩ : ∃ g, g = gk := ⟨gk, rfl⟩
    by_cases hin : i < n
    · obtain ⟨g, off, rfl, hcell⟩ := hv.spot (by omega)
      obtain ⟨a, hai⟩ : ∃ a, l[i]? = some a := ⟨l[i]'(by have := HN.out; omega), List.getElem?_eq_getElem _⟩
      have hc1 := hcell i _ (by rw [ints_get, hai]; rfl)
      have hi0 : (0 : Int) ≤ (i : Int) := Int.natCast_nonneg _
      have hi1 : (i : Int) < (n : Int) := by omega
      have HT := hid (sum_take_snoc l i a hai)
      clear hcell hai
      have h3 : a < 1 ∨ 1 ≤ a ∧ 15 < a ∨ 1 ≤ a ∧ a ≤ 15 := by omega
      rcases h3 with h | ⟨h, h2⟩ | ⟨h, h2⟩
      · have HW : Hid (wtTo 15 a = 0) := by unfold Hid wtTo; rw [if_neg (by omega)]
        go_wp2
        go_roundg (gx - 1)
        case measure => omega
        case rel => exact ⟨i + 1, s, by omega, by omega, by go_num, rfl, by unfold Hid; rw [HT.out, HW.out]; exact HS.out, by omega, rfl⟩
      · have HW : Hid (wtTo 15 a = 0) := by unfold Hid wtTo; rw [if_neg (by omega)]
        go_wp2
        go_roundg (gx - 1)
        case measure => omega
        case rel => exact ⟨i + 1, s, by omega, by omega, by go_num, rfl, by unfold Hid; rw [HT.out, HW.out]; exact HS.out, by omega, rfl⟩
      · obtain ⟨m, rfl⟩ := Int.eq_ofNat_of_zero_le (show 0 ≤ a by omega)
        have HW : Hid (wtTo 15 (m : Int) = 2 ^ (15 - m)) := by unfold Hid wtTo; rw [if_pos (by omega)]; rfl
        have hm15 : m ≤ 15 := by omega
        have hm1 : 1 ≤ m := by omega
        go_wp2
        go_loopg [5, 6] (m + 1) (fun k t5 t6 wq => ∃ (j p : Nat), j ≤ m ∧ m - j < k ∧ t6 = .int .i64 (j : Int) ∧ t5 = .int .i64 (p : Int) ∧ Hid (p = 2 ^ (15 - j)) ∧ p ≤ 32768 ∧ wq = wr)
        case atStart => exact ⟨0, 32768, by omega, by omega, rfl, rfl, rfl, by omega, rfl⟩
        case round =>
          obtain ⟨j, p, hj, hk2, rfl, rfl, HP, hp, rfl⟩ := hrel
          by_cases hjm : j < m
          · have hjI : (j : Int) < (m : Int) := by omega
            obtain ⟨q, hq⟩ : ∃ q, q = 2 ^ (15 - (j + 1)) := ⟨_, rfl⟩
            have hpq : p = 2 * q := by rw [HP.out, hq, show 15 - j = (15 - (j + 1)) + 1 by omega, Nat.pow_succ, Nat.mul_comm]
            have hqI : (p : Int) / 2 = (q : Int) := by omega
            have HQ := hid hq
            clear hq hpq
            go_wp2
            go_roundg (gk - 1)
            case measure => omega
            case rel => exact ⟨j + 1, q, by omega, by omega, by go_num, rfl, HQ, by omega, rfl⟩
          · obtain rfl : j = m := by omega
            have hjI : ¬ (j : Int) < (j : Int) := by omega
            have hsp : p ≤ 16384 := by rw [HP.out]; have h14 : 15 - j ≤ 14 := by omega
                                       exact Nat.pow_le_pow_right (n := 2) (by decide) h14
            go_wp2
            go_roundg (gx - 1)
            case measure => omega
            case rel => exact ⟨i + 1, s + p, by omega, by omega, by go_num, by go_num, by unfold Hid; rw [HT.out, HW.out, HP.out, HS.out], by omega, rfl⟩
    · have hi1 : ¬ (i : Int) < (n : Int) := by omega
      go_wp2
      go_ret
      exact ⟨ret_int (by rw [HS.out, List.take_of_length_le (by have := HN.out; omega)]), rfl⟩
set_option maxRecDepth 100000 in
set_option maxHeartbeats 1600000 in
theorem refcheck_any (v : Value) (l : List Int) (most : Int) (w : World) (hv : Rd w 1 v l.length (ints l)) (hl : l.length < 1000000) :
    Calls Tryd.prog 40 #[v, .int .i64 most] w fun e w' => e = .returned (.int .i64 ((checkOf l most : Nat) : Int)) ∧ w = w' := by
  obtain ⟨ao, cap, rfl, _, _⟩ := hv.form
  have HRS := hid (refsum_any _ l w hv hl)
  obtain ⟨n, hn⟩ : ∃ n, n = l.length := ⟨_, rfl⟩
  rw [← hn] at hv hl HRS
  rw [← hn]
  have HN := hid hn
  clear hn
  have hn0 : (0 : Int) ≤ (n : Int) := Int.natCast_nonneg _
  have h4 : most < 1 ∨ 1 ≤ most ∧ 15 < most ∨ 1 ≤ most ∧ most ≤ 15 ∧ 288 < n ∨ 1 ≤ most ∧ most ≤ 15 ∧ n ≤ 288 := by omega
  rcases h4 with h | ⟨h, h2⟩ | ⟨h, h2, h3⟩ | ⟨h, h2, h3⟩
  · have HF : Hid (checkOf l most = 1) := by unfold Hid checkOf; rw [if_pos]; simp [argBad]; omega
    clear hv
    go_enter Tryd.func40, Tryd.ntmps40
    go_wp2
    go_ret
    exact ⟨by rw [HF.out]; rfl, rfl⟩
  · have HF : Hid (checkOf l most = 1) := by unfold Hid checkOf; rw [if_pos]; simp [argBad]; omega
    clear hv
    go_enter Tryd.func40, Tryd.ntmps40
    go_wp2
    go_ret
    exact ⟨by rw [HF.out]; rfl, rfl⟩
  · have HF : Hid (checkOf l most = 1) := by unfold Hid checkOf; rw [if_pos]; have := HN.out; simp [argBad]; omega
    have h3I : (288 : Int) < (n : Int) := by omega
    clear hv
    go_enter Tryd.func40, Tryd.ntmps40
    go_wp2
    go_ret
    exact ⟨by rw [HF.out]; rfl, rfl⟩
  · have h3I : ¬ (288 : Int) < (n : Int) := by omega
    have h15 : ¬ 15 < most := by omega
    have h1 : ¬ most < 1 := by omega
    have HA1 : Hid (argBad l most = !allIn l most) := by
      unfold Hid argBad
      have := HN.out
      rw [decide_eq_false (by omega)]; rfl
    go_enter Tryd.func40, Tryd.ntmps40
    go_wp2
    go_loopg [5, 6, 7] (n + 1) (fun k t5 t6 t7 wr => ∃ (i c o : Nat), i ≤ n ∧ n - i < k ∧ t7 = .int .i64 (i : Int) ∧ t5 = .int .i64 (c : Int) ∧ t6 = .int .i64 (o : Int) ∧ c ≤ i ∧ o ≤ i ∧ Hid (allIn (l.take i) most = true) ∧ Hid (c = coded (l.take i)) ∧ Hid (o = (l.take i).count 1) ∧ wr = w)
    case atStart => exact ⟨0, 0, 0, by omega, by omega, rfl, rfl, rfl, by omega, by omega, rfl, rfl, rfl, rfl⟩
    case round =>
      obtain ⟨i, c, o, hi, hk, rfl, rfl, rfl, hc, ho, HA, HC, HO, rfl⟩ := hrel
      by_cases hin : i < n
      · obtain ⟨g, off, rfl, hcell⟩ := hv.spot (by omega)
        obtain ⟨a, hai⟩ : ∃ a, l[i]? = some a := ⟨l[i]'(by have := HN.out; omega), List.getElem?_eq_getElem _⟩
        have hc1 := hcell i _ (by rw [ints_get, hai]; rfl)
        have hi0 : (0 : Int) ≤ (i : Int) := Int.natCast_nonneg _
        have hi1 : (i : Int) < (n : Int) := by omega
        have HT := hid (take_snoc3 l i a hai)
        clear hcell hai
        have h5 : a < 0 ∨ 0 ≤ a ∧ most < a ∨ 0 ≤ a ∧ a ≤ most := by omega
        rcases h5 with h5 | ⟨h5, h6⟩ | ⟨h5, h6⟩
        · have HF : Hid (checkOf l most = 1) := by unfold Hid; refine check_bad (allIn_take l (i + 1) most ?_); rw [HT.out, allIn_snoc, HA.out]; simp; omega
          go_wp2
          go_ret
          exact ⟨by rw [HF.out]; rfl, rfl⟩
        · have HF : Hid (checkOf l most = 1) := by unfold Hid; refine check_bad (allIn_take l (i + 1) most ?_); rw [HT.out, allIn_snoc, HA.out]; simp; omega
          go_wp2
          go_ret
          exact ⟨by rw [HF.out]; rfl, rfl⟩
        · have HF : Hid (allIn (l.take (i + 1)) most = true) := by unfold Hid; rw [HT.out, allIn_snoc, HA.out]; simp; omega
          have h7 : a = 0 ∨ a = 1 ∨ 1 < a := by omega
          rcases h7 with rfl | rfl | h7
          · have HC2 : Hid (c = coded (l.take (i + 1))) := by unfold Hid; rw [HT.out, coded_snoc, ← HC.out]; rfl
            have HO2 : Hid (o = (l.take (i + 1)).count 1) := by unfold Hid; rw [HT.out, count1_snoc, ← HO.out]; rfl
            go_wp2
            go_roundg (gk - 1)
            case measure => omega
            case rel => exact ⟨i + 1, c, o, by omega, by omega, by go_num, rfl, rfl, by omega, by omega, HF, HC2, HO2, rfl⟩
          · have HC2 : Hid (c + 1 = coded (l.take (i + 1))) := by unfold Hid; rw [HT.out, coded_snoc, ← HC.out]; rfl
            have HO2 : Hid (o + 1 = (l.take (i + 1)).count 1) := by unfold Hid; rw [HT.out, count1_snoc, ← HO.out]; rfl
            go_wp2
            go_roundg (gk - 1)
            case measure => omega
            case rel => exact ⟨i + 1, c + 1, o + 1, by omega, by omega, by go_num, by go_num, by go_num, by omega, by omega, HF, HC2, HO2, rfl⟩
          · have HC2 : Hid (c + 1 = coded (l.take (i + 1))) := by unfold Hid; rw [HT.out, coded_snoc, ← HC.out, if_pos (by omega)]
            have HO2 : Hid (o = (l.take (i + 1)).count 1) := by unfold Hid; rw [HT.out, count1_snoc, ← HO.out, if_neg (by omega)]; rfl
            go_wp2
            go_roundg (gk - 1)
            case measure => omega
            case rel => exact ⟨i + 1, c + 1, o, by omega, by omega, by go_num, by go_num, rfl, by omega, by omega, HF, HC2, HO2, rfl⟩
      · have hi1 : ¬ (i : Int) < (n : Int) := by omega
        have HE : Hid (l.take i = l) := by unfold Hid; exact List.take_of_length_le (by have := HN.out; omega)
        rw [HE.out] at HA HC HO
        have HB : Hid (argBad l most = false) := by unfold Hid; rw [HA1.out, HA.out]; rfl
        have HR := hid (check_ref l most HB.out)
        have HF : Hid (checkOf l most = if sumOf l = 0 ∨ sumOf l = 32768 ∨ sumOf l = 16384 ∧ l.count 1 = 1 then 0 else 3) := by
          unfold Hid checkOf; rw [HB.out]; rfl
        rw [← HC.out, ← HO.out] at HR
        rw [← HO.out] at HF
        go_wp2_with fail
        refine HRS.out.mono ?_
        rintro e w1 ⟨rfl, rfl⟩
        obtain ⟨s, hs⟩ : ∃ s, s = sumOf l := ⟨_, rfl⟩
        rw [← hs] at HF HR ⊢
        clear hs
        have h5 : 32768 < s ∨ s = 32768 ∨ s < 32768 ∧ c = 0 ∨ s < 32768 ∧ c = 1 ∧ o = 1 ∨ s < 32768 ∧ c = 1 ∧ o ≠ 1 ∨ s < 32768 ∧ c ≠ 1 ∧ c ≠ 0 := by omega
        rcases h5 with h5 | h5 | ⟨h5, h6⟩ | ⟨h5, h6, h7⟩ | ⟨h5, h7, h6⟩ | ⟨h5, h6, h7⟩
        · have HZ : Hid (checkOf l most = 3) := by unfold Hid; rw [HF.out, if_neg (HR.out.1 (by omega))]
          have hb0 : decide ((32768 : Int) < (s : Int)) = true := by simp; omega
          go_wp2
          go_ret
          exact ⟨by rw [HZ.out]; rfl, rfl⟩
        · have HZ : Hid (checkOf l most = 0) := by unfold Hid; rw [HF.out, if_pos (by have := HR.out; omega)]
          have hb0 : decide ((32768 : Int) < (s : Int)) = false := by simp; omega
          have hb1 : decide ((s : Int) < 32768) = false := by simp; omega
          go_wp2
          go_ret
          exact ⟨by rw [HZ.out]; rfl, rfl⟩
        · have HZ : Hid (checkOf l most = 0) := by unfold Hid; rw [HF.out, if_pos (by have := HR.out; omega)]
          have hb0 : decide ((32768 : Int) < (s : Int)) = false := by simp; omega
          have hb1 : decide ((s : Int) < 32768) = true := by simp; omega
          have hb2 : (((c : Nat) : Int) == 0) = true := by simp; omega
          go_wp2
          go_ret
          exact ⟨by rw [HZ.out]; rfl, rfl⟩
        · have HZ : Hid (checkOf l most = 0) := by unfold Hid; rw [HF.out, if_pos (by have := HR.out; omega)]
          have hb0 : decide ((32768 : Int) < (s : Int)) = false := by simp; omega
          have hb1 : decide ((s : Int) < 32768) = true := by simp; omega
          have hb2 : (((c : Nat) : Int) == 0) = false := by simp; omega
          have hb3 : (((c : Nat) : Int) == 1) = true := by simp; omega
          have hb4 : (((o : Nat) : Int) == 1) = true := by simp; omega
          go_wp2
          go_ret
          exact ⟨by rw [HZ.out]; rfl, rfl⟩
        · have HZ : Hid (checkOf l most = 3) := by unfold Hid; rw [HF.out, if_neg (HR.out.1 (by omega))]
          have hb0 : decide ((32768 : Int) < (s : Int)) = false := by simp; omega
          have hb1 : decide ((s : Int) < 32768) = true := by simp; omega
          have hb2 : (((c : Nat) : Int) == 0) = false := by simp; omega
          have hb3 : (((c : Nat) : Int) == 1) = true := by simp; omega
          have hb4 : (((o : Nat) : Int) == 1) = false := by simp; omega
          go_wp2
          go_ret
          exact ⟨by rw [HZ.out]; rfl, rfl⟩
        · have HZ : Hid (checkOf l most = 3) := by unfold Hid; rw [HF.out, if_neg (HR.out.1 (by omega))]
          have hb0 : decide ((32768 : Int) < (s : Int)) = false := by simp; omega
          have hb1 : decide ((s : Int) < 32768) = true := by simp; omega
          have hb2 : (((c : Nat) : Int) == 0) = false := by simp; omega
          have hb3 : (((c : Nat) : Int) == 1) = false := by simp; omega
          go_wp2
          go_ret
          exact ⟨by rw [HZ.out]; rfl, rfl⟩
end Go.Proofs.YtmmfkppkmgjljaaDoor
