/-
  The reference's Header: what any bytes are as a header.
-/
import Derived.Test.YtkdmdbojcdonpaaGreatDoorHdrR
namespace Go.Proofs.YtkdmdbojcdonpaaGreatDoor
set_option maxRecDepth 5000
open Go.RowKit

/-! ### What is left to read -/
def K4 (f t fl sy : Nat) (ex nm nt : List Nat) : Rdr Hdr := (whenR (bitB f 1) sumR ()).bind fun _ => .pure ⟨bitB f 0, bitB f 1, t, fl, sy, ex, bitB f 2, nm, nt, bitB f 3, bitB f 4⟩
def K3 (f t fl sy : Nat) (ex nm : List Nat) : Rdr Hdr := (whenR (bitB f 4) textR []).bind (K4 f t fl sy ex nm)
def K2 (f t fl sy : Nat) (ex : List Nat) : Rdr Hdr := (whenR (bitB f 3) textR []).bind (K3 f t fl sy ex)
def K1 (f t fl sy : Nat) : Rdr Hdr := (whenR (bitB f 2) ((numR 2).bind takeR) []).bind (K2 f t fl sy)
def K0 (f : Nat) : Rdr Hdr := (numR 4).bind fun t => (numR 1).bind fun fl => (numR 1).bind fun sy => K1 f t fl sy
theorem restR_is (f : Nat) : restR f = K0 f := rfl
section
variable {l : List Nat} {at' : Nat}
theorem bind_ok {α β : Type} {p : Rdr α} {f : α → Rdr β} {n m : Nat} {a : α} (h : p l n = .ok (a, m)) : (p.bind f) l n = f a l m := by unfold Rdr.bind; rw [h]
theorem bind_bad {α β : Type} {p : Rdr α} {f : α → Rdr β} {n e : Nat} (h : p l n = .error e) : (p.bind f) l n = .error e := by unfold Rdr.bind; rw [h]
theorem take_ok {k n : Nat} (h : n + k ≤ l.length) : takeR k l n = .ok ((l.drop n).take k, n + k) := by unfold takeR; rw [if_pos (by omega)]
theorem take_bad {k n : Nat} (hn : n ≤ l.length) (h : l.length < n + k) : takeR k l n = .error 5 := by unfold takeR; rw [if_neg (by omega)]
theorem num_ok {k n : Nat} (h : n + k ≤ l.length) : numR k l n = .ok (leN ((l.drop n).take k), n + k) := bind_ok (take_ok h)
theorem hnum_bad {k n : Nat} (hn : n ≤ l.length) (h : l.length < n + k) : numR k l n = .error 5 := bind_bad (take_bad hn h)
theorem num1_ok {n b : Nat} (h : l[n]? = some b) : numR 1 l n = .ok (b, n + 1) := by
  have hn := (List.getElem?_eq_some_iff.1 h).1
  rw [num_ok (by omega), List.drop_eq_getElem_cons hn, (List.getElem?_eq_some_iff.1 h).2]
  rfl
theorem byteIs_ok {n b : Nat} (h : l[n]? = some b) : byteIs b l n = .ok ((), n + 1) := by
  unfold byteIs
  rw [bind_ok (num1_ok h), if_pos rfl]
  rfl
theorem byteIs_bad {n b c : Nat} (h : l[n]? = some c) (hc : c ≠ b) : byteIs b l n = .error 2 := by
  unfold byteIs
  rw [bind_ok (num1_ok h), if_neg hc]
  rfl
theorem byteIs_end {n b : Nat} (h : l.length = n) : byteIs b l n = .error 5 := bind_bad (hnum_bad (by omega) (by omega))
/-- the first i bytes of what every header begins with -/
def Begins (l : List Nat) (i : Nat) : Prop := ∀ j, j < i → l[j]? = some (magicAt j)
theorem head_begin (h : Begins l 3) : headR l 0 = (flagR.bind restR) l 3 := by
  unfold headR
  refine bind_ok (a := ()) ?_
  unfold beginR
  rw [bind_ok (byteIs_ok (b := 31) (h 0 (by decide))), bind_ok (byteIs_ok (b := 139) (h 1 (by decide)))]
  exact byteIs_ok (h 2 (by decide))
theorem head_wrong {i c : Nat} (h : Begins l i) (hi : i < 3) (hc : l[i]? = some c) (hne : c ≠ magicAt i) : headR l 0 = .error 2 := by
  unfold headR
  refine bind_bad ?_
  unfold beginR
  rcases (show i = 0 ∨ i = 1 ∨ i = 2 by omega) with rfl | rfl | rfl
  · exact bind_bad (byteIs_bad hc hne)
  · rw [bind_ok (byteIs_ok (b := 31) (h 0 (by decide)))]
    exact bind_bad (byteIs_bad hc hne)
  · rw [bind_ok (byteIs_ok (b := 31) (h 0 (by decide))), bind_ok (byteIs_ok (b := 139) (h 1 (by decide)))]
    exact byteIs_bad hc hne
theorem head_end {i : Nat} (h : Begins l i) (hi : i < 3) (hc : l.length ≤ i) : headR l 0 = .error 5 := by
  replace hc : l.length = i := by
    cases i with
    | zero => omega
    | succ j =>
      have := (List.getElem?_eq_some_iff.1 (h j (Nat.lt_succ_self j))).1
      omega
  unfold headR
  refine bind_bad ?_
  unfold beginR
  rcases (show i = 0 ∨ i = 1 ∨ i = 2 by omega) with rfl | rfl | rfl
  · exact bind_bad (byteIs_end hc)
  · rw [bind_ok (byteIs_ok (b := 31) (h 0 (by decide)))]
    exact bind_bad (byteIs_end hc)
  · rw [bind_ok (byteIs_ok (b := 31) (h 0 (by decide))), bind_ok (byteIs_ok (b := 139) (h 1 (by decide)))]
    exact byteIs_end hc
theorem flag_end (hc : l.length = 3) : (flagR.bind restR) l 3 = .error 5 := bind_bad (bind_bad (hnum_bad (by omega) (by omega)))
theorem flag_wrong {f : Nat} (hc : l[3]? = some f) (hf : ¬ f < 32) : (flagR.bind restR) l 3 = .error 2 := by
  refine bind_bad ?_
  unfold flagR
  rw [bind_ok (num1_ok hc), if_neg hf]
  rfl
theorem flag_ok {f : Nat} (hc : l[3]? = some f) (hf : f < 32) : (flagR.bind restR) l 3 = K0 f l 4 := by
  refine bind_ok (a := f) ?_
  unfold flagR
  rw [bind_ok (num1_ok hc), if_pos hf]
  rfl
theorem fixed_end {f : Nat} (h4 : 4 ≤ l.length) (h10 : l.length < 10) : K0 f l 4 = .error 5 := by
  unfold K0
  by_cases h8 : l.length < 8
  · exact bind_bad (hnum_bad h4 (by omega))
  · rw [bind_ok (num_ok (by omega))]
    by_cases h9 : l.length < 9
    · exact bind_bad (hnum_bad (by omega) (by omega))
    · rw [bind_ok (num_ok (by omega))]
      exact bind_bad (hnum_bad (by omega) (by omega))
theorem fixed_ok {f fl sy : Nat} (h8 : l[8]? = some fl) (h9 : l[9]? = some sy) : K0 f l 4 = K1 f (leN ((l.drop 4).take 4)) fl sy l 10 := by
  have h10 := (List.getElem?_eq_some_iff.1 h9).1
  unfold K0
  rw [bind_ok (num_ok (by omega)), bind_ok (num1_ok h8), bind_ok (num1_ok h9)]
theorem when_no {α β : Type} {c : Bool} {p : Rdr α} {d : α} {f : α → Rdr β} (hc : c = false) : ((whenR c p d).bind f) l at' = f d l at' := by rw [hc]; rfl
theorem when_yes {α β : Type} {c : Bool} {p : Rdr α} {d : α} {f : α → Rdr β} (hc : c = true) : ((whenR c p d).bind f) l at' = (p.bind f) l at' := by rw [hc]; rfl
theorem extra_bad1 {β : Type} {f : List Nat → Rdr β} (hn : at' ≤ l.length) (h : l.length < at' + 2) : (((numR 2).bind takeR).bind f) l at' = .error 5 := bind_bad (bind_bad (hnum_bad hn h))
theorem extra_bad2 {β : Type} {f : List Nat → Rdr β} {k : Nat} (h : at' + 2 ≤ l.length) (hk : k = leN ((l.drop at').take 2)) (h2 : l.length < at' + 2 + k) : (((numR 2).bind takeR).bind f) l at' = .error 5 := by
  refine bind_bad ?_
  rw [bind_ok (num_ok h), ← hk]
  exact take_bad (by omega) h2
theorem extra_ok {β : Type} {f : List Nat → Rdr β} {k : Nat} (h : at' + 2 ≤ l.length) (hk : k = leN ((l.drop at').take 2)) (h2 : at' + 2 + k ≤ l.length) : (((numR 2).bind takeR).bind f) l at' = f ((l.drop (at' + 2)).take k) l (at' + 2 + k) := by
  refine bind_ok ?_
  rw [bind_ok (num_ok h), ← hk]
  exact take_ok h2
theorem text_is {β : Type} {f : List Nat → Rdr β} (_hn : at' ≤ l.length) : (textR.bind f) l at' = if (textM (l.drop at')).2.2 = 0 then f (textM (l.drop at')).1 l (at' + (textM (l.drop at')).2.1) else .error (textM (l.drop at')).2.2 := by
  unfold textM
  cases hz : zeroAt ((l.drop at').take 4097) with
  | some i =>
    dsimp only
    rw [if_pos rfl]
    refine bind_ok ?_
    unfold textR
    rw [hz]
    rfl
  | none =>
    dsimp only
    rw [List.length_drop, if_neg (by split <;> decide)]
    refine bind_bad ?_
    unfold textR
    rw [hz]
    dsimp only
    split <;> rfl
theorem textM_le (x : List Nat) : (textM x).2.1 ≤ x.length ∧ (textM x).1.length ≤ 4096 ∧ ((textM x).2.2 = 0 ∨ (textM x).2.2 = 2 ∨ (textM x).2.2 = 5) := by
  unfold textM
  split
  · rename_i i hi
    have h := (zeroAt_lt hi).1
    rw [List.length_take] at h
    dsimp only
    rw [List.length_take]
    omega
  · dsimp only
    refine ⟨Nat.zero_le _, Nat.zero_le _, ?_⟩
    split
    · exact .inr (.inl rfl)
    · exact .inr (.inr rfl)
theorem sum_bad1 {β : Type} {f : Unit → Rdr β} (hn : at' ≤ l.length) (h : l.length < at' + 2) : (sumR.bind f) l at' = .error 5 := by
  refine bind_bad ?_
  unfold sumR
  rw [hnum_bad hn h]
theorem sum_bad2 {β : Type} {f : Unit → Rdr β} (h : at' + 2 ≤ l.length) (hv : leN ((l.drop at').take 2) ≠ crcOf 0 (l.take at') % 65536) : (sumR.bind f) l at' = .error 4 := by
  refine bind_bad ?_
  unfold sumR
  rw [num_ok h]
  exact if_neg hv
theorem sum_ok {β : Type} {f : Unit → Rdr β} (h : at' + 2 ≤ l.length) (hv : leN ((l.drop at').take 2) = crcOf 0 (l.take at') % 65536) : (sumR.bind f) l at' = f () l (at' + 2) := by
  refine bind_ok ?_
  unfold sumR
  rw [num_ok h]
  exact if_pos hv
end
theorem tmod_bits : ∀ f : Nat, f < 32 → (((f : Int)).tmod 2 == 1) = bitB f 0 ∧ ((IntKind.i64.wrap ((f : Int) / 2)).tmod 2 == 1) = bitB f 1 ∧ ((IntKind.i64.wrap ((f : Int) / 4)).tmod 2 == 1) = bitB f 2 ∧
    ((IntKind.i64.wrap ((f : Int) / 8)).tmod 2 == 1) = bitB f 3 ∧ ((IntKind.i64.wrap ((f : Int) / 16)).tmod 2 == 1) = bitB f 4 := by decide +kernel
/-- the reference's header on the way -/
def RefAt (w0 w : World) (Rs : List Thing) (B2 B8 f t fl sy : Nat) (ex nm nt : List Nat) : Prop :=
  ∃ ao cap, Held w0 w (objT B2 (hdrC (flagsH 0) (.slice none 0 0)) 29 :: objT B8 (hdrC ⟨bitB f 0, bitB f 1, t, fl, sy, ex, bitB f 2, nm, nt, bitB f 3, bitB f 4⟩ (.slice ao ex.length cap)) 29 ::
    ownT 5 1 (.slice ao ex.length cap) ex.length (u8s ex) :: Rs)
section
variable {w0 w : World} {Rs : List Thing} {l : List Nat}
theorem RefAt.cells {B2 B8 f t fl sy : Nat} {ex nm nt : List Nat} (h : RefAt w0 w Rs B2 B8 f t fl sy ex nm nt) : HdrCells w B8 f := by
  obtain ⟨ao, cap, h1⟩ := h
  have h2 := h1.swap.obj
  exact ⟨h2.cell (i := 1) rfl, h2.cell (i := 6) rfl, h2.cell (i := 9) rfl, h2.cell (i := 10) rfl⟩
set_option maxRecDepth 100000 in
set_option maxHeartbeats 6400000 in
theorem refHead_any (v : Value) (n : Nat) (h : Held w0 w Rs) (hv : ∀ w', Held w0 w' Rs → Rd w' 1 v n (u8s l)) (hb : ∀ b ∈ l, b < 256) (hn : n = l.length) (hl : n < 1000000000) :
    Calls Tryz.prog 29 #[v] w fun en w' => HeadOut w0 Rs l en w' := by
  obtain ⟨ao, cap, rfl, hncap, _⟩ := (hv w h).form
  have h1 := (h.newObj (hdrC (flagsH 0) (.slice none 0 0)) 29).lit 5 1 (u8s [31, 139, 8]) 3 (by decide) rfl
  have hsz : (w.alloc (.cells (hdrC (flagsH 0) (.slice none 0 0)).toArray 29)).heap.size = w.heap.size + 1 := by simp
  rw [hsz] at h1
  have HV := hid (And.intro hv (And.intro hb (And.intro hn hl)))
  have H1 : Hid (Held w0 ((w.alloc (.cells #[.bool false, .bool false, .int .u32 0, .int .u8 0, .int .u8 0, .slice none 0 0, .bool false, .string ⟨#[]⟩, .string ⟨#[]⟩, .bool false, .bool false] 29)).alloc (.cells #[.int .u8 31, .int .u8 139, .int .u8 8] 5)) _) := hid h1
  have hn0 : (0 : Int) ≤ (n : Int) := Int.natCast_nonneg _
  clear hv hb hn h h1 hsz
  go_enter Tryz.func29, Tryz.ntmps29
  go_wp2
  generalize ((w.alloc (.cells #[.bool false, .bool false, .int .u32 0, .int .u8 0, .int .u8 0, .slice none 0 0, .bool false, .string ⟨#[]⟩, .string ⟨#[]⟩, .bool false, .bool false] 29)).alloc (.cells #[.int .u8 31, .int .u8 139, .int .u8 8] 5)) = w1 at H1 ⊢
  obtain ⟨B2, hB2⟩ : ∃ B2, B2 = w.heap.size := ⟨_, rfl⟩
  obtain ⟨B3, hB3⟩ : ∃ B3, B3 = w.heap.size + 1 := ⟨_, rfl⟩
  rw [← hB3, ← hB2] at H1 ⊢
  clear hB2 hB3
  go_loopg [6] 5 (fun gg t6 wr => ∃ i : Nat, i ≤ 3 ∧ 3 - i < gg ∧ t6 = .int .i64 (i : Int) ∧ Begins l i ∧ Hid (Held w0 wr (ownT 5 1 (.slice (some ⟨B3, 0, none⟩) 3 3) 3 (u8s [31, 139, 8]) :: objT B2 (hdrC (flagsH 0) (.slice none 0 0)) 29 :: Rs)))
  case atStart => exact ⟨0, by omega, by omega, rfl, fun j hj => absurd hj (Nat.not_lt_zero _), H1⟩
  case round =>
    obtain ⟨i, hi, hg, rfl, hbe, H2⟩ := hrel
    clear H1
    have hi0 : (0 : Int) ≤ (i : Int) := Int.natCast_nonneg _
    by_cases hi3 : i < 3
    · have hi3I : (i : Int) < 3 := by omega
      by_cases hin : i < n
      · have hinI : ¬ (n : Int) ≤ (i : Int) := by omega
        have hinI2 : (i : Int) < (n : Int) := by omega
        obtain ⟨c, hc⟩ : ∃ c, l[i]? = some c := ⟨l[i]'(by have := HV.out.2.2.1; omega), List.getElem?_eq_getElem _⟩
        obtain ⟨M, hM⟩ : ∃ M, M = magicAt i := ⟨_, rfl⟩
        have hrd := HV.out.1 _ H2.out.drop.drop
        obtain ⟨g, off, rfl, hcc⟩ := hrd.spot (by omega)
        have hcell := hcc i (.int .u8 (c : Int)) (by unfold u8s; rw [List.getElem?_map, hc]; rfl)
        obtain ⟨g3, o3, hg3, hcc3⟩ := H2.out.own.rd.spot (by decide)
        cases hg3
        have hcell3 := hcc3 i (.int .u8 (M : Int)) (by rw [hM]; rcases (show i = 0 ∨ i = 1 ∨ i = 2 by omega) with rfl | rfl | rfl <;> rfl)
        rw [Nat.zero_add] at hcell3
        have HC := hid (And.intro hc hM)
        clear hc hM hrd hcc hcc3
        by_cases hcm : c = M
        · have hN : ((c : Int) != (M : Int)) = false := by simp; omega
          have hE : (c : Int) = (M : Int) := by omega
          have HCM := hid hcm
          clear hcm
          go_wp2
          go_quiet (fail)
          go_wp2
          go_roundg (gk - 1)
          case measure => omega
          case rel =>
            refine ⟨i + 1, by omega, by omega, rfl, fun j hj => ?_, hid (H2.out.drewN _)⟩
            by_cases hji : j < i
            · exact hbe j hji
            · obtain rfl : j = i := by omega
              rw [HC.out.1, HCM.out, HC.out.2]
        · have hN : ((c : Int) != (M : Int)) = true := by simp; omega
          have hE : ¬ (c : Int) = (M : Int) := by omega
          have HW := hid (head_wrong hbe hi3 HC.out.1 (by rw [← HC.out.2]; exact hcm))
          clear hcm hbe
          go_wp2
          go_quiet (fail)
          go_wp2_with ((with_reducible show wpList _ _ _ (⟨none, Op.store _ (Operand.tmp 2) (Operand.tmp 36), _, _, _, _⟩ :: _) _ _); refine wpList_store_hdr rfl 29 (.tmp 2) (.tmp 36) rfl 11 infoHdr _ (hdrC (flagsH 0) (.slice none 0 0)) 29 rfl rfl rfl rfl (hdrC_one _ _ _ _) ((H2.out.drewN _).swap) ?_; intro wz hz; have HZ := hid hz; clear hz)
          refine ret_cell_tmp2 rfl _ 11 Tryz.underlying29 rfl infoHdr (hdrC (flagsH 0) (.slice none 0 0)) 29 _ _ rfl rfl rfl rfl HZ.out.obj rfl ?_
          exact .inr ⟨_, HW.out, rfl, HZ.out.drop.drop⟩
      · have hinI : (n : Int) ≤ (i : Int) := by omega
        have HW := hid (head_end hbe hi3 (by have := HV.out.2.2.1; omega))
        clear hbe
        go_wp2_with ((with_reducible show wpList _ _ _ (⟨none, Op.store _ (Operand.tmp 2) (Operand.tmp 26), _, _, _, _⟩ :: _) _ _); refine wpList_store_hdr rfl 29 (.tmp 2) (.tmp 26) rfl 11 infoHdr _ (hdrC (flagsH 0) (.slice none 0 0)) 29 rfl rfl rfl rfl (hdrC_one _ _ _ _) (H2.out.swap) ?_; intro wz hz; have HZ := hid hz; clear hz)
        refine ret_cell_tmp2 rfl _ 11 Tryz.underlying29 rfl infoHdr (hdrC (flagsH 0) (.slice none 0 0)) 29 _ _ rfl rfl rfl rfl HZ.out.obj rfl ?_
        exact .inr ⟨_, HW.out, rfl, HZ.out.drop.drop⟩
    · have hi3I : ¬ (i : Int) < 3 := by omega
      obtain rfl : i = 3 := by omega
      have HBE := hid (head_begin hbe)
      have hlen3 : 3 ≤ n := by
        have := (List.getElem?_eq_some_iff.1 (hbe 2 (by decide))).1
        have := HV.out.2.2.1
        omega
      have H3 := hid H2.out.drop
      clear hbe H2
      by_cases h4 : n < 4
      · have h4I : (n : Int) < 4 := by omega
        have HW := hid (HBE.out.trans (flag_end (by have := HV.out.2.2.1; omega)))
        go_wp2_with ((with_reducible show wpList _ _ _ (⟨none, Op.store _ (Operand.tmp 2) (Operand.tmp 40), _, _, _, _⟩ :: _) _ _); refine wpList_store_hdr rfl 29 (.tmp 2) (.tmp 40) rfl 11 infoHdr _ (hdrC (flagsH 0) (.slice none 0 0)) 29 rfl rfl rfl rfl (hdrC_one _ _ _ _) (H3.out) ?_; intro wz hz; have HZ := hid hz; clear hz)
        refine ret_cell_tmp2 rfl _ 11 Tryz.underlying29 rfl infoHdr (hdrC (flagsH 0) (.slice none 0 0)) 29 _ _ rfl rfl rfl rfl HZ.out.obj rfl ?_
        exact .inr ⟨_, HW.out, rfl, HZ.out.drop⟩
      · have h4I : ¬ (n : Int) < 4 := by omega
        have h4J : (3 : Int) < (n : Int) := by omega
        obtain ⟨f, hf⟩ : ∃ f, l[3]? = some f := ⟨l[3]'(by have := HV.out.2.2.1; omega), List.getElem?_eq_getElem _⟩
        have hrd := HV.out.1 _ H3.out.drop
        obtain ⟨g, off, rfl, hcc⟩ := hrd.spot (by omega)
        have hcell := hcc 3 (.int .u8 (f : Int)) (by unfold u8s; rw [List.getElem?_map, hf]; rfl)
        have hf256 : f < 256 := HV.out.2.1 f (List.mem_of_getElem? hf)
        have HF := hid hf
        clear hf hrd
        by_cases hf32 : f < 32
        · have hfI : ¬ (31 : Int) < (f : Int) := by omega
          have HFF := hid (HBE.out.trans (flag_ok HF.out hf32))
          by_cases h10 : n < 10
          · have h10I : (n : Int) < 10 := by omega
            have HW := hid (HFF.out.trans (fixed_end (by have := HV.out.2.2.1; omega) (by have := HV.out.2.2.1; omega)))
            clear hcc
            go_wp2_with ((with_reducible show wpList _ _ _ (⟨none, Op.store _ (Operand.tmp 2) (Operand.tmp 51), _, _, _, _⟩ :: _) _ _); refine wpList_store_hdr rfl 29 (.tmp 2) (.tmp 51) rfl 11 infoHdr _ (hdrC (flagsH 0) (.slice none 0 0)) 29 rfl rfl rfl rfl (hdrC_one _ _ _ _) (H3.out) ?_; intro wz hz; have HZ := hid hz; clear hz)
            refine ret_cell_tmp2 rfl _ 11 Tryz.underlying29 rfl infoHdr (hdrC (flagsH 0) (.slice none 0 0)) 29 _ _ rfl rfl rfl rfl HZ.out.obj rfl ?_
            exact .inr ⟨_, HW.out, rfl, HZ.out.drop⟩
          · have h10I : ¬ (n : Int) < 10 := by omega
            obtain ⟨fl, hfl⟩ : ∃ fl, l[8]? = some fl := ⟨l[8]'(by have := HV.out.2.2.1; omega), List.getElem?_eq_getElem _⟩
            obtain ⟨sy, hsy⟩ : ∃ sy, l[9]? = some sy := ⟨l[9]'(by have := HV.out.2.2.1; omega), List.getElem?_eq_getElem _⟩
            have hcell8 := hcc 8 (.int .u8 (fl : Int)) (by unfold u8s; rw [List.getElem?_map, hfl]; rfl)
            have hcell9 := hcc 9 (.int .u8 (sy : Int)) (by unfold u8s; rw [List.getElem?_map, hsy]; rfl)
            have HK := hid (HFF.out.trans (fixed_ok hfl hsy))
            clear hfl hsy HFF HBE HF hcc
            have hrdl := HV.out.1 _ H3.out.drop
            have hcut4 := (hrdl.cut (L := 4) (H := 8) (by decide) (by omega))
            rw [u8s_cut] at hcut4
            obtain ⟨i0, hi0, hz0, hz1, hz2⟩ := info_parts infoByte13
            have HC4 : ∀ wg, (Instr.sliceAt 25 (.slice (some ⟨g, off, none⟩) n cap) (some (.int .i64 4)) (some (.int .i64 8)) none).run Tryz.prog wg = .ok (sliced (some ⟨g, off, none⟩) 4 8 cap 1) wg := fun wg =>
              run_cut (P := Tryz.prog) (w := wg) 25 5 i0 1 Tryz.underlying25 hi0 hz1 (some ⟨g, off, none⟩) n cap 4 8 (some (.int .i64 4)) (some (.int .i64 8)) ⟨_, rfl⟩ ⟨_, rfl⟩ (by decide) (by omega)
            obtain ⟨a4, ha4⟩ : ∃ a4, sliced (some ⟨g, off, none⟩) 4 8 cap 1 = .slice a4 4 (cap - 4) := ⟨_, rfl⟩
            rw [ha4] at HC4 hcut4
            obtain ⟨t, ht⟩ : ∃ t, t = leN ((l.drop 4).take 4) := ⟨_, rfl⟩
            rw [← ht] at HK
            have HNUM : ∀ wg, Mod wr wg (fun _ => False) → Hid (Calls Tryz.prog 31 #[.slice a4 4 (cap - 4)] wg fun e w' => e = .returned (.int .i64 (t : Int)) ∧ w' = wg) := fun wg hm => by
              rw [ht]
              exact hid (num_any (.slice a4 4 (cap - 4)) 4 ((l.drop 4).take 4) wg (hcut4.kept hm (fun _ _ h => h)) (fun b hb => HV.out.2.1 b (List.mem_of_mem_drop (List.mem_of_mem_take hb))) (by decide))
            have ht32 : t < 4294967296 := by
              rw [ht]
              exact leN_le _ (fun b hb => HV.out.2.1 b (List.mem_of_mem_drop (List.mem_of_mem_take hb))) (by rw [List.length_take]; omega)
            have HT := hid ht
            have h10J : (9 : Int) < (n : Int) := by omega
            have h10K : (8 : Int) < (n : Int) := by omega
            clear ht hrdl hcut4 ha4
            go_upto_region 16 with (fail)
            go_cut [8] (fun s8 wx => s8 = .pointer (some ⟨wr.heap.size, 0, none⟩) ∧ Hid (RefAt w0 wx Rs B2 wr.heap.size f t fl sy [] [] []))
            case first =>
              go_region_held3 (fun w' => w'.cell? ⟨g, off + 8, none⟩ = some (.int .u8 (fl : Int)) ∧ w'.cell? ⟨g, off + 9, none⟩ = some (.int .u8 (sy : Int))) (first | go_keep) ((first
                | (go_at_call 31; refine (HNUM _ ((Mod.refl wr (fun _ => False)).drew)).out.mono ?_; rintro en wq ⟨rfl, rfl⟩)
                | (go_at_call 31; refine (HNUM _ (((Mod.refl wr (fun _ => False)).drew).alloc _)).out.mono ?_; rintro en wq ⟨rfl, rfl⟩)))
              all_goals
                go_wp2
                go_meet
                case rel =>
                  obtain ⟨b0, b1, b2, b3, b4⟩ := tmod_bits f hf32
                  rw [b0, b1, b2, b3, b4, IntWalk.u32_in _ (by omega)]
                  have h5 := ((H3.out.nil 5 1).newObj (hdrC ⟨bitB f 0, bitB f 1, t, fl, sy, [], bitB f 2, [], [], bitB f 3, bitB f 4⟩ (.slice none 0 0)) 29).drew
                  exact ⟨rfl, hid ⟨none, 0, h5.third⟩⟩
            case rest =>
              obtain ⟨rfl, hc⟩ := hcut
              obtain ⟨B8, hB8⟩ : ∃ B8, B8 = wr.heap.size := ⟨_, rfl⟩
              rw [← hB8] at hc ⊢
              have H4 := hid hc.out
              clear hc H3 hcell8 hcell9 hcell hB8
              have HCT : ∀ (a b : Nat), a ≤ b → b ≤ n → ∃ a1, (∀ wg, (Instr.sliceAt 25 (.slice (some ⟨g, off, none⟩) n cap) (some (.int .i64 (a : Int))) (some (.int .i64 (b : Int))) none).run Tryz.prog wg = .ok (.slice a1 (b - a) (cap - a)) wg) ∧ ∀ wg, Held w0 wg Rs → Rd wg 1 (.slice a1 (b - a) (cap - a)) (b - a) (u8s ((l.drop a).take (b - a))) := fun a b hab hbn => by
                obtain ⟨i0, hi0, hz0, hz1, hz2⟩ := info_parts infoByte13
                obtain ⟨a1, ha1⟩ : ∃ a1, sliced (some ⟨g, off, none⟩) a b cap 1 = .slice a1 (b - a) (cap - a) := ⟨_, rfl⟩
                refine ⟨a1, fun wg => ?_, fun wg hh => ?_⟩
                · rw [← ha1]
                  exact run_cut (P := Tryz.prog) (w := wg) 25 5 i0 1 Tryz.underlying25 hi0 hz1 (some ⟨g, off, none⟩) n cap a b (some (.int .i64 (a : Int))) (some (.int .i64 (b : Int))) ⟨_, rfl⟩ ⟨_, rfl⟩ hab (by omega)
                · have h1 := (HV.out.1 wg hh).cut (L := a) (H := b) hab hbn
                  rw [u8s_cut, ha1] at h1
                  exact h1
              have HCL : ∀ (a : Nat), a ≤ n → ∃ a1, (∀ wg, (Instr.sliceAt 25 (.slice (some ⟨g, off, none⟩) n cap) (some (.int .i64 (a : Int))) none none).run Tryz.prog wg = .ok (.slice a1 (n - a) (cap - a)) wg) ∧ ∀ wg, Held w0 wg Rs → Rd wg 1 (.slice a1 (n - a) (cap - a)) (n - a) (u8s (l.drop a)) := fun a han => by
                obtain ⟨i0, hi0, hz0, hz1, hz2⟩ := info_parts infoByte13
                obtain ⟨a1, ha1⟩ : ∃ a1, sliced (some ⟨g, off, none⟩) a n cap 1 = .slice a1 (n - a) (cap - a) := ⟨_, rfl⟩
                refine ⟨a1, fun wg => ?_, fun wg hh => ?_⟩
                · rw [← ha1]
                  exact run_cut (P := Tryz.prog) (w := wg) 25 5 i0 1 Tryz.underlying25 hi0 hz1 (some ⟨g, off, none⟩) n cap a n (some (.int .i64 (a : Int))) none ⟨_, rfl⟩ rfl han hncap
                · have h1 := (HV.out.1 wg hh).cut (L := a) (H := n) han (Nat.le_refl _)
                  rw [u8s_cut, ha1, List.take_of_length_le (by rw [List.length_drop]; have := HV.out.2.2.1; omega)] at h1
                  exact h1
              have HCT := hid HCT
              have HCL := hid HCL
              obtain ⟨x2, hx2⟩ : ∃ x2, x2 = bitB f 2 := ⟨_, rfl⟩
              have c6 := H4.out.cells.c6
              rw [← hx2] at c6
              have HX2 := hid hx2
              clear hx2 HNUM HC4
              go_upto_if 83 with (fail)
              go_cut [9] (fun s9 wx => ∃ (q : Nat) (ex : List Nat), s9 = .int .i64 (q : Int) ∧ q ≤ n ∧ Hid (headR l 0 = K2 f t fl sy ex l q ∧ ex.length ≤ n) ∧ Hid (RefAt w0 wx Rs B2 B8 f t fl sy ex [] []))
              case first =>
                cases x2 with
                | false =>
                  go_wp2
                  go_meet
                  case rel => exact ⟨10, [], rfl, by omega, hid ⟨HK.out.trans (when_no HX2.out.symm), Nat.zero_le _⟩, H4⟩
                | true =>
                  have HK1 := hid (HK.out.trans (when_yes HX2.out.symm))
                  obtain ⟨eo, ec, h4⟩ := H4.out
                  have H5 := hid h4
                  clear h4
                  by_cases h12 : n < 12
                  · have h12I : (n : Int) < 12 := by omega
                    have HW := hid (HK1.out.trans (extra_bad1 (by have := HV.out.2.2.1; omega) (by have := HV.out.2.2.1; omega)))
                    go_wp2_with ((with_reducible show wpList _ _ _ (⟨none, Op.store _ (Operand.tmp 2) (Operand.tmp 89), _, _, _, _⟩ :: _) _ _); refine wpList_store_hdr rfl 29 (.tmp 2) (.tmp 89) rfl 11 infoHdr _ (hdrC (flagsH 0) (.slice none 0 0)) 29 rfl rfl rfl rfl (hdrC_one _ _ _ _) (H5.out) ?_; intro wz hz; have HZ := hid hz; clear hz)
                    refine ret_cell_tmp2 rfl _ 11 Tryz.underlying29 rfl infoHdr (hdrC (flagsH 0) (.slice none 0 0)) 29 _ _ rfl rfl rfl rfl HZ.out.obj rfl ?_
                    exact .inr ⟨_, HW.out, rfl, HZ.out.drop.drop.drop⟩
                  · have h12I : ¬ (n : Int) < 12 := by omega
                    obtain ⟨a1, hcut1, hrd1⟩ := HCT.out 10 12 (by decide) (by omega)
                    have hcut1 : ∀ wg, (Instr.sliceAt 25 (.slice (some ⟨g, off, none⟩) n cap) (some (.int .i64 10)) (some (.int .i64 12)) none).run Tryz.prog wg = .ok (.slice a1 2 (cap - 10)) wg := hcut1
                    obtain ⟨k, hk⟩ : ∃ k, k = leN ((l.drop 10).take 2) := ⟨_, rfl⟩
                    have hbk : ∀ b ∈ (l.drop 10).take 2, b < 256 := fun b hb => HV.out.2.1 b (List.mem_of_mem_drop (List.mem_of_mem_take hb))
                    have hk16 : k < 65536 := by
                      have h1 := leN_lt _ hbk
                      rw [List.length_take, List.length_drop, Nat.min_eq_left (by have := HV.out.2.2.1; omega), ← hk] at h1
                      exact h1
                    have HN1 : ∀ wg, Held w0 wg Rs → Calls Tryz.prog 31 #[.slice a1 2 (cap - 10)] wg fun e w' => e = .returned (.int .i64 (k : Int)) ∧ w' = wg := fun wg hh => by
                      rw [hk]
                      exact num_any (.slice a1 2 (cap - 10)) 2 ((l.drop 10).take 2) wg (hrd1 wg hh) hbk (by decide)
                    have HKK := hid hk
                    have HNC := hid (HN1 _ H5.out.drop.drop.drop)
                    clear hk hbk HN1 hrd1 c6
                    go_wp2_with fail
                    with_reducible refine HNC.out.mono ?_
                    rintro en wq ⟨rfl, rfl⟩
                    by_cases h2 : n < 12 + k
                    · have h2I : (n : Int) < 12 + (k : Int) := by omega
                      have HW := hid (HK1.out.trans (extra_bad2 (k := k) (by have := HV.out.2.2.1; omega) HKK.out (by have := HV.out.2.2.1; omega)))
                      go_wp2_with ((with_reducible show wpList _ _ _ (⟨none, Op.store _ (Operand.tmp 2) (Operand.tmp 104), _, _, _, _⟩ :: _) _ _); refine wpList_store_hdr rfl 29 (.tmp 2) (.tmp 104) rfl 11 infoHdr _ (hdrC (flagsH 0) (.slice none 0 0)) 29 rfl rfl rfl rfl (hdrC_one _ _ _ _) (H5.out) ?_; intro wz hz; have HZ := hid hz; clear hz)
                      refine ret_cell_tmp2 rfl _ 11 Tryz.underlying29 rfl infoHdr (hdrC (flagsH 0) (.slice none 0 0)) 29 _ _ rfl rfl rfl rfl HZ.out.obj rfl ?_
                      exact .inr ⟨_, HW.out, rfl, HZ.out.drop.drop.drop⟩
                    · have h2I : ¬ (n : Int) < 12 + (k : Int) := by omega
                      obtain ⟨q, hq⟩ : ∃ q, q = 12 + k := ⟨_, rfl⟩
                      have hqI : 12 + (k : Int) = (q : Int) := by omega
                      obtain ⟨a2, hcut2, hrd2⟩ := HCT.out 12 q (by omega) (by omega)
                      have hqk : q - 12 = k := by omega
                      rw [hqk] at hcut2 hrd2
                      have hcut2 : ∀ wg, (Instr.sliceAt 25 (.slice (some ⟨g, off, none⟩) n cap) (some (.int .i64 12)) (some (.int .i64 (q : Int))) none).run Tryz.prog wg = .ok (.slice a2 k (cap - 12)) wg := hcut2
                      obtain ⟨i0, hi0, hz0, hz1, hz2⟩ := info_parts infoByte13
                      have hmx : 1000000000 ≤ maxLen := by decide
                      have h6 := H5.out.lit 5 1 [] 0 (by decide) rfl
                      have hrd3 := hrd2 _ h6.drop.drop.drop.drop
                      have HKX := hid (HK1.out.trans (extra_ok (k := k) (by have := HV.out.2.2.1; omega) HKK.out (by have := HV.out.2.2.1; omega)))
                      have hexl : ((l.drop 12).take k).length = k := by rw [List.length_take, List.length_drop]; have := HV.out.2.2.1; omega
                      have H6 := hid (And.intro h6 (And.intro hrd3 (And.intro hexl hq)))
                      clear h6 hrd2 hrd3 hexl hq hqk
                      go_wp2_with ((with_reducible show wpList _ _ _ (⟨some 112, _, _, _, _, _⟩ :: _) _ _); refine wpList_app_held rfl (.tmp 105) (.tmp 111) 25 rfl 5 i0 (.int .u8 0) 1 1 Tryz.underlying25 hi0 hz0 hz1 hz2 rfl (by decide) _ 0 [] rfl H6.out.1 _ k (u8s ((l.drop 12).take k)) rfl H6.out.2.1 (u8s_one _) k (by omega) (by omega) (by omega) ?_; intro yo yc w7 h7; have f5 := h7.third.obj.frozen 5; have c5 := h7.third.obj.cell (i := 5) rfl; have H7 := hid h7; clear h7)
                      go_meet
                      case rel =>
                        refine ⟨q, (l.drop 12).take k, rfl, by omega, hid ⟨?_, by rw [H6.out.2.2.1]; omega⟩, hid ⟨yo, yc, ?_⟩⟩
                        · have h8 := HKX.out
                          rw [← H6.out.2.2.2] at h8
                          exact h8
                        · rw [H6.out.2.2.1]
                          exact (H7.out.third.setObj 5 (.slice yo k yc)).third.fourth.drop
              case rest =>
                obtain ⟨q, ex, rfl, hqn, HK2, HE⟩ := hcut
                clear H4 HK c6
                obtain ⟨x3, hx3⟩ : ∃ x3, x3 = bitB f 3 := ⟨_, rfl⟩
                have c9 := HE.out.cells.c9
                rw [← hx3] at c9
                have HX3 := hid hx3
                clear hx3
                go_upto_if 118 with (fail)
                go_cut [9] (fun s9 wx => ∃ (q2 : Nat) (nm : List Nat), s9 = .int .i64 (q2 : Int) ∧ q2 ≤ n ∧ Hid (headR l 0 = K3 f t fl sy ex nm l q2) ∧ Hid (RefAt w0 wx Rs B2 B8 f t fl sy ex nm []))
                case first =>
                  cases x3 with
                  | false =>
                    go_wp2
                    go_meet
                    case rel => exact ⟨q, [], rfl, hqn, hid (HK2.out.1.trans (when_no HX3.out.symm)), HE⟩
                  | true =>
                    obtain ⟨eo, ec, h4⟩ := HE.out
                    obtain ⟨a1, hcut1, hrd1⟩ := HCL.out q hqn
                    have hTX := rtext_any (.slice a1 (n - q) (cap - q)) (n - q) (l.drop q) wc (hrd1 _ h4.drop.drop.drop) (fun b hb => HV.out.2.1 b (List.mem_of_mem_drop hb)) (by omega)
                    have hKX := (HK2.out.1.trans (when_yes HX3.out.symm)).trans (text_is (by have := HV.out.2.2.1; omega))
                    obtain ⟨hc1, hc2, hc3⟩ := textM_le (l.drop q)
                    rw [List.length_drop] at hc1
                    obtain ⟨nm, hnm⟩ : ∃ nm, nm = (textM (l.drop q)).1 := ⟨_, rfl⟩
                    obtain ⟨c, hc⟩ : ∃ c, c = (textM (l.drop q)).2.1 := ⟨_, rfl⟩
                    obtain ⟨e, he⟩ : ∃ e, e = (textM (l.drop q)).2.2 := ⟨_, rfl⟩
                    rw [← hnm, ← hc, ← he] at hTX hKX
                    rw [← hc] at hc1
                    rw [← he] at hc3
                    have hqc : q + c ≤ n := by have := HV.out.2.2.1; omega
                    have HTX := hid hTX
                    have HKX := hid hKX
                    have H5 := hid h4
                    clear hnm hc he hTX hKX h4 hrd1 hc1 hc2
                    generalize n - q = nq at hcut1 HTX
                    generalize cap - q = cq at hcut1 HTX
                    by_cases he0 : e = 0
                    · subst he0
                      have hKX2 := HKX.out
                      rw [if_pos rfl] at hKX2
                      have HKX2 := hid hKX2
                      clear hKX2 HKX c9 hc3
                      have f7 := H5.out.swap.obj.frozen 7
                      have c7 := H5.out.swap.obj.cell (i := 7) rfl
                      have H10 : Hid (RefAt w0 (wc.setCell ⟨B8, 7, none⟩ (strV nm)) Rs B2 B8 f t fl sy ex nm []) := hid ⟨eo, ec, (H5.out.swap.setObj 7 (strV nm)).swap⟩
                      unfold strV at H10 c7 HTX
                      go_wp2_with fail
                      with_reducible refine HTX.out.mono ?_
                      rintro en wq ⟨rfl, rfl⟩
                      go_wp2
                      go_meet
                      case rel => exact ⟨q + c, nm, by go_num, hqc, HKX2, H10⟩
                    · have heB : ((e : Int) != 0) = true := by simp; omega
                      have heI : ¬ (e : Int) = 0 := by omega
                      have hKX2 := HKX.out
                      rw [if_neg he0] at hKX2
                      have HW := hid hKX2
                      unfold strV at HTX
                      clear hKX2 HKX c9 hc3 he0
                      go_wp2_with fail
                      with_reducible refine HTX.out.mono ?_
                      rintro en wq ⟨rfl, rfl⟩
                      go_wp2_with ((with_reducible show wpList _ _ _ (⟨none, Op.store _ (Operand.tmp 2) (Operand.tmp 129), _, _, _, _⟩ :: _) _ _); refine wpList_store_hdr rfl 29 (.tmp 2) (.tmp 129) rfl 11 infoHdr _ (hdrC (flagsH 0) (.slice none 0 0)) 29 rfl rfl rfl rfl (hdrC_one _ _ _ _) (H5.out) ?_; intro wz hz; have HZ := hid hz; clear hz)
                      refine ret_cell_tmp2 rfl _ 11 Tryz.underlying29 rfl infoHdr (hdrC (flagsH 0) (.slice none 0 0)) 29 _ _ rfl rfl rfl rfl HZ.out.obj rfl ?_
                      exact .inr ⟨_, HW.out, rfl, HZ.out.drop.drop.drop⟩
                case rest =>
                  obtain ⟨q2, nm, rfl, hqn2, HK3, HE2⟩ := hcut
                  clear HE HK2 hqn c9
                  obtain ⟨x4, hx4⟩ : ∃ x4, x4 = bitB f 4 := ⟨_, rfl⟩
                  have c10 := HE2.out.cells.c10
                  rw [← hx4] at c10
                  have HX4 := hid hx4
                  clear hx4
                  go_upto_if 137 with (fail)
                  go_cut [9] (fun s9 wx => ∃ (q3 : Nat) (nt : List Nat), s9 = .int .i64 (q3 : Int) ∧ q3 ≤ n ∧ Hid (headR l 0 = K4 f t fl sy ex nm nt l q3) ∧ Hid (RefAt w0 wx Rs B2 B8 f t fl sy ex nm nt))
                  case first =>
                    cases x4 with
                    | false =>
                      go_wp2
                      go_meet
                      case rel => exact ⟨q2, [], rfl, hqn2, hid (HK3.out.trans (when_no HX4.out.symm)), HE2⟩
                    | true =>
                      obtain ⟨eo, ec, h4⟩ := HE2.out
                      obtain ⟨a1, hcut1, hrd1⟩ := HCL.out q2 hqn2
                      have hTX := rtext_any (.slice a1 (n - q2) (cap - q2)) (n - q2) (l.drop q2) wc (hrd1 _ h4.drop.drop.drop) (fun b hb => HV.out.2.1 b (List.mem_of_mem_drop hb)) (by omega)
                      have hKX := (HK3.out.trans (when_yes HX4.out.symm)).trans (text_is (by have := HV.out.2.2.1; omega))
                      obtain ⟨hc1, hc2, hc3⟩ := textM_le (l.drop q2)
                      rw [List.length_drop] at hc1
                      obtain ⟨nt, hnt⟩ : ∃ nt, nt = (textM (l.drop q2)).1 := ⟨_, rfl⟩
                      obtain ⟨c, hc⟩ : ∃ c, c = (textM (l.drop q2)).2.1 := ⟨_, rfl⟩
                      obtain ⟨e, he⟩ : ∃ e, e = (textM (l.drop q2)).2.2 := ⟨_, rfl⟩
                      rw [← hnt, ← hc, ← he] at hTX hKX
                      rw [← hc] at hc1
                      rw [← he] at hc3
                      have hqc : q2 + c ≤ n := by have := HV.out.2.2.1; omega
                      have HTX := hid hTX
                      have HKX := hid hKX
                      have H5 := hid h4
                      clear hnt hc he hTX hKX h4 hrd1 hc1 hc2
                      generalize n - q2 = nq at hcut1 HTX
                      generalize cap - q2 = cq at hcut1 HTX
                      by_cases he0 : e = 0
                      · subst he0
                        have hKX2 := HKX.out
                        rw [if_pos rfl] at hKX2
                        have HKX2 := hid hKX2
                        clear hKX2 HKX c10 hc3
                        have f8 := H5.out.swap.obj.frozen 8
                        have c8 := H5.out.swap.obj.cell (i := 8) rfl
                        have H10 : Hid (RefAt w0 (wc.setCell ⟨B8, 8, none⟩ (strV nt)) Rs B2 B8 f t fl sy ex nm nt) := hid ⟨eo, ec, (H5.out.swap.setObj 8 (strV nt)).swap⟩
                        unfold strV at H10 c8 HTX
                        go_wp2_with fail
                        with_reducible refine HTX.out.mono ?_
                        rintro en wq ⟨rfl, rfl⟩
                        go_wp2
                        go_meet
                        case rel => exact ⟨q2 + c, nt, by go_num, hqc, HKX2, H10⟩
                      · have heB : ((e : Int) != 0) = true := by simp; omega
                        have heI : ¬ (e : Int) = 0 := by omega
                        have hKX2 := HKX.out
                        rw [if_neg he0] at hKX2
                        have HW := hid hKX2
                        unfold strV at HTX
                        clear hKX2 HKX c10 hc3 he0
                        go_wp2_with fail
                        with_reducible refine HTX.out.mono ?_
                        rintro en wq ⟨rfl, rfl⟩
                        go_wp2_with ((with_reducible show wpList _ _ _ (⟨none, Op.store _ (Operand.tmp 2) (Operand.tmp 148), _, _, _, _⟩ :: _) _ _); refine wpList_store_hdr rfl 29 (.tmp 2) (.tmp 148) rfl 11 infoHdr _ (hdrC (flagsH 0) (.slice none 0 0)) 29 rfl rfl rfl rfl (hdrC_one _ _ _ _) (H5.out) ?_; intro wz hz; have HZ := hid hz; clear hz)
                        refine ret_cell_tmp2 rfl _ 11 Tryz.underlying29 rfl infoHdr (hdrC (flagsH 0) (.slice none 0 0)) 29 _ _ rfl rfl rfl rfl HZ.out.obj rfl ?_
                        exact .inr ⟨_, HW.out, rfl, HZ.out.drop.drop.drop⟩
                  case rest =>
                    obtain ⟨q3, nt, rfl, hqn3, HK4, HE3⟩ := hcut
                    clear HE2 HK3 hqn2 c10
                    obtain ⟨x1, hx1⟩ : ∃ x1, x1 = bitB f 1 := ⟨_, rfl⟩
                    have c1 := HE3.out.cells.c1
                    rw [← hx1] at c1
                    have HX1 := hid hx1
                    clear hx1
                    have hq3I : (q3 : Int) ≤ (n : Int) := by omega
                    go_upto_if 156 with (fail)
                    go_cut [9] (fun s9 wx => ∃ (q4 : Nat), s9 = .int .i64 (q4 : Int) ∧ Hid (headR l 0 = .ok (⟨bitB f 0, bitB f 1, t, fl, sy, ex, bitB f 2, nm, nt, bitB f 3, bitB f 4⟩, q4)) ∧ Hid (RefAt w0 wx Rs B2 B8 f t fl sy ex nm nt))
                    case first =>
                      cases x1 with
                      | false =>
                        go_wp2
                        go_meet
                        case rel => exact ⟨q3, rfl, hid (HK4.out.trans (when_no HX1.out.symm)), HE3⟩
                      | true =>
                        have HK5 := hid (HK4.out.trans (when_yes HX1.out.symm))
                        obtain ⟨eo, ec, h4⟩ := HE3.out
                        have H5 := hid h4
                        clear h4
                        by_cases h2 : n < q3 + 2
                        · have h2I : (n : Int) < (q3 : Int) + 2 := by omega
                          have HW := hid (HK5.out.trans (sum_bad1 (by have := HV.out.2.2.1; omega) (by have := HV.out.2.2.1; omega)))
                          clear HK5 c1
                          go_wp2_with ((with_reducible show wpList _ _ _ (⟨none, Op.store _ (Operand.tmp 2) (Operand.tmp 162), _, _, _, _⟩ :: _) _ _); refine wpList_store_hdr rfl 29 (.tmp 2) (.tmp 162) rfl 11 infoHdr _ (hdrC (flagsH 0) (.slice none 0 0)) 29 rfl rfl rfl rfl (hdrC_one _ _ _ _) (H5.out) ?_; intro wz hz; have HZ := hid hz; clear hz)
                          refine ret_cell_tmp2 rfl _ 11 Tryz.underlying29 rfl infoHdr (hdrC (flagsH 0) (.slice none 0 0)) 29 _ _ rfl rfl rfl rfl HZ.out.obj rfl ?_
                          exact .inr ⟨_, HW.out, rfl, HZ.out.drop.drop.drop⟩
                        · have h2I : ¬ (n : Int) < (q3 : Int) + 2 := by omega
                          obtain ⟨q4, hq4⟩ : ∃ q4, q4 = q3 + 2 := ⟨_, rfl⟩
                          have hq4I : (q3 : Int) + 2 = (q4 : Int) := by omega
                          obtain ⟨a1, hcut1, hrd1⟩ := HCT.out q3 q4 (by omega) (by omega)
                          have hqk : q4 - q3 = 2 := by omega
                          rw [hqk] at hcut1 hrd1
                          obtain ⟨V, hV⟩ : ∃ V, V = leN ((l.drop q3).take 2) := ⟨_, rfl⟩
                          have hbk : ∀ b ∈ (l.drop q3).take 2, b < 256 := fun b hb => HV.out.2.1 b (List.mem_of_mem_drop (List.mem_of_mem_take hb))
                          have hbt : ∀ b ∈ l.take q3, b < 256 := fun b hb => HV.out.2.1 b (List.mem_of_mem_take hb)
                          have HN1 : ∀ k, Hid (Calls Tryz.prog 31 #[.slice a1 2 (cap - q3)] (wc.drewN k) fun e w' => e = .returned (.int .i64 (V : Int)) ∧ w' = wc.drewN k) := fun k => by
                            rw [hV]
                            exact hid (num_any (.slice a1 2 (cap - q3)) 2 ((l.drop q3).take 2) (wc.drewN k) (hrd1 _ (H5.out.drop.drop.drop.drewN k)) hbk (by decide))
                          obtain ⟨C, hC⟩ : ∃ C, C = crcOf 0 (l.take q3) := ⟨_, rfl⟩
                          have hltk : (l.take q3).length = q3 := by rw [List.length_take]; have := HV.out.2.2.1; omega
                          have HN2 : ∀ k, Hid (Calls Tryz.prog 32 #[.int .u32 0, .slice (some ⟨g, off, none⟩) q3 cap] (wc.drewN k) fun e w' => e = .returned (.int .u32 (C : Int)) ∧ w' = wc.drewN k) := fun k => by
                            rw [hC]
                            have h1 := (HV.out.1 _ (H5.out.drop.drop.drop.drewN k)).front (H := q3) hqn3
                            have h2 : Rd (wc.drewN k) 1 (.slice (some ⟨g, off, none⟩) q3 cap) (l.take q3).length (u8s (l.take q3)) := by
                              rw [hltk]
                              rw [Nat.mul_one] at h1
                              unfold u8s at h1 ⊢
                              rwa [← List.map_take] at h1
                            exact hid ((refcrc_any 0 (.slice (some ⟨g, off, none⟩) q3 cap) (l.take q3) (wc.drewN k) (by decide) h2 hbt (by rw [hltk]; omega)).mono fun _ _ ⟨e1, e2⟩ => ⟨e1, e2.symm⟩)
                          have hC32 : C < 4294967296 := by rw [hC]; exact crcH_lt (by decide) hbt
                          obtain ⟨D, hD⟩ : ∃ D, D = C % 65536 := ⟨_, rfl⟩
                          have hD1 : (C : Int).tmod 65536 = (D : Int) := by rw [Int.tmod_eq_emod_of_nonneg (Int.natCast_nonneg _)]; omega
                          have hD2 : (C : Int) % 65536 = (D : Int) := by omega
                          have hDw : IntKind.i64.wrap (D : Int) = (D : Int) := IntWalk.i64_in _ (by omega)
                          have hq3c : (q3 : Int) ≤ (cap : Int) := by omega
                          have HVD := hid (And.intro hV (And.intro hC (And.intro hD hq4)))
                          clear hV hC hD hq4 hbk hbt hltk hrd1 hqk c1
                          by_cases hvd : V = D
                          · have hB : ((V : Int) != (D : Int)) = false := by simp; omega
                            have hE : (V : Int) = (D : Int) := by omega
                            have HKF := hid (HK5.out.trans (sum_ok (by have := HV.out.2.2.1; omega) (by rw [← HVD.out.1, ← HVD.out.2.1, ← HVD.out.2.2.1]; exact hvd)))
                            clear hvd
                            go_wp2
                            go_quiet (first | (go_at_call 31; exact (HN1 _).out.mono fun _ _ h => ⟨h.1, _, h.2⟩) | (go_at_call 32; exact (HN2 _).out.mono fun _ _ h => ⟨h.1, _, h.2⟩))
                            go_wp2
                            go_meet
                            case rel =>
                              refine ⟨q4, rfl, hid ?_, hid ⟨eo, ec, H5.out.drewN _⟩⟩
                              have h8 := HKF.out
                              rw [← HVD.out.2.2.2] at h8
                              exact h8
                          · have hB : ((V : Int) != (D : Int)) = true := by simp; omega
                            have hE : ¬ (V : Int) = (D : Int) := by omega
                            have HW := hid (HK5.out.trans (sum_bad2 (by have := HV.out.2.2.1; omega) (by rw [← HVD.out.1, ← HVD.out.2.1, ← HVD.out.2.2.1]; exact hvd)))
                            clear hvd
                            go_wp2
                            go_quiet (first | (go_at_call 31; exact (HN1 _).out.mono fun _ _ h => ⟨h.1, _, h.2⟩) | (go_at_call 32; exact (HN2 _).out.mono fun _ _ h => ⟨h.1, _, h.2⟩))
                            go_wp2_with ((with_reducible show wpList _ _ _ (⟨none, Op.store _ (Operand.tmp 2) (Operand.tmp 176), _, _, _, _⟩ :: _) _ _); refine wpList_store_hdr rfl 29 (.tmp 2) (.tmp 176) rfl 11 infoHdr _ (hdrC (flagsH 0) (.slice none 0 0)) 29 rfl rfl rfl rfl (hdrC_one _ _ _ _) ((H5.out.drewN _)) ?_; intro wz hz; have HZ := hid hz; clear hz)
                            refine ret_cell_tmp2 rfl _ 11 Tryz.underlying29 rfl infoHdr (hdrC (flagsH 0) (.slice none 0 0)) 29 _ _ rfl rfl rfl rfl HZ.out.obj rfl ?_
                            exact .inr ⟨_, HW.out, rfl, HZ.out.drop.drop.drop⟩
                    case rest =>
                      obtain ⟨q4, rfl, HF, HE4⟩ := hcut
                      clear HE3 HK4 hqn3 c1
                      obtain ⟨eo, ec, h4⟩ := HE4.out
                      have H5 := hid h4
                      clear h4
                      obtain ⟨N, hN⟩ : ∃ N, N = ex.length := ⟨_, rfl⟩
                      rw [← hN] at H5
                      have HNX := hid hN
                      clear hN
                      go_wp2_with (first
                        | ((with_reducible show wpList _ _ _ (⟨some 179, _, _, _, _, _⟩ :: _) _ _); refine wpList_load_hdr rfl 29 (.tmp 8) rfl _ 11 Tryz.underlying29 rfl infoHdr _ 29 rfl rfl H5.out.swap.obj ?_)
                        | ((with_reducible show wpList _ _ _ (⟨none, Op.store _ (Operand.tmp 2) (Operand.tmp 179), _, _, _, _⟩ :: _) _ _); refine wpList_store_hdr rfl 29 (.tmp 2) (.tmp 179) rfl 11 infoHdr _ _ 29 rfl rfl rfl rfl (hdrC_one _ _ _ _) H5.out ?_; intro w10 h10; have H10 := hid h10; clear h10))
                      refine ret_cell_tmp2 rfl _ 11 Tryz.underlying29 rfl infoHdr (hdrC ⟨bitB f 0, bitB f 1, t, fl, sy, ex, bitB f 2, nm, nt, bitB f 3, bitB f 4⟩ (.slice eo N ec)) 29 _ _ rfl rfl rfl rfl H10.out.obj rfl ?_
                      refine .inl ⟨_, _, _, HF.out, rfl, ?_⟩
                      show Held w0 _ (ownT 5 1 (.slice eo N ec) ex.length (u8s ex) :: Rs)
                      rw [← HNX.out]
                      exact H10.out.drop.drop
        · have hfI : (31 : Int) < (f : Int) := by omega
          have HW := hid (HBE.out.trans (flag_wrong HF.out hf32))
          clear hcc
          go_wp2_with ((with_reducible show wpList _ _ _ (⟨none, Op.store _ (Operand.tmp 2) (Operand.tmp 47), _, _, _, _⟩ :: _) _ _); refine wpList_store_hdr rfl 29 (.tmp 2) (.tmp 47) rfl 11 infoHdr _ (hdrC (flagsH 0) (.slice none 0 0)) 29 rfl rfl rfl rfl (hdrC_one _ _ _ _) (H3.out) ?_; intro wz hz; have HZ := hid hz; clear hz)
          refine ret_cell_tmp2 rfl _ 11 Tryz.underlying29 rfl infoHdr (hdrC (flagsH 0) (.slice none 0 0)) 29 _ _ rfl rfl rfl rfl HZ.out.obj rfl ?_
          exact .inr ⟨_, HW.out, rfl, HZ.out.drop⟩
end
end Go.Proofs.YtkdmdbojcdonpaaGreatDoor
