/-
  The landed parser of headers: text, sum, slices.Clone of bytes, ParseHeader.
-/
import Derived.Test.YtkdmdbojcdonpaaGreatDoorHdrP
import Derived.Test.YtkdmdbojcdonpaaGreatDoorHeldApp
import Derived.Test.YtkdmdbojcdonpaaGreatDoorSlices
import Derived.Test.YtkdmdbojcdonpaaGreatDoorSums2
import Derived.Test.YtkdmdbojcdonpaaGreatDoorRetObj
import Derived.Deep.CutBlock
namespace Go.Proofs.YtkdmdbojcdonpaaGreatDoor
set_option maxRecDepth 5000
open Go.RowKit

section
variable {w0 w : World} {Rs : List Thing} {S : Thing} {B e : Nat} {v : Value} {l : List Nat} {r : Except Nat Nat}
/-! ### Where the first byte 0 stands -/
theorem idxByte_any (x : List Nat) (u : Value) (n : Nat) (hu : Rd w 1 u n (u8s x)) (hx : ∀ b ∈ x, b < 256) :
    Calls Tryz.prog 114 #[u, .int .u8 0] w fun en w' => en = .returned (.int .i64 (zeroI x)) ∧ w' = w := by
  have HZ := run_zero_bytes (P := Tryz.prog) x hx u n hu
  obtain ⟨ao, cap, rfl, _, _⟩ := hu.form
  clear hu
  go_enter Tryz.func114, Tryz.ntmps114
  go_wp2
  rw [run_callFunc_extern Tryz.func131 (by kernel_rfl) (by kernel_rfl) (by kernel_rfl) (e := Extern.BytealgIndexByte.indexByte) (by kernel_rfl), HZ]
  simp only [Result.andThen]
  rw [Oper.upon_value]
  go_wp2
  go_ret
  exact ⟨rfl, rfl⟩
theorem idxStr_any (x : List Nat) (hx : ∀ b ∈ x, b < 256) (w : World) :
    Calls Tryz.prog 58 #[strV x, .int .u8 0] w fun en w' => en = .returned (.int .i64 (zeroI x)) ∧ w' = w := by
  have HZ := run_zero_str (P := Tryz.prog) x hx w
  unfold strV at HZ ⊢
  generalize strB x = sx at HZ ⊢
  go_enter Tryz.func58, Tryz.ntmps58
  go_wp2
  rw [run_callFunc_extern Tryz.func108 (by kernel_rfl) (by kernel_rfl) (by kernel_rfl) (e := Extern.BytealgIndexByte.indexByte) (by kernel_rfl), HZ]
  simp only [Result.andThen]
  rw [Oper.upon_value]
  go_wp2
  go_ret
  exact ⟨rfl, rfl⟩
/-! ### slices.Clone of bytes -/
theorem clone8_any (v : Value) (n : Nat) (l : List Nat) (h : Held w0 w Rs) (hv : Rd w 1 v n (u8s l)) (hn : n < 1000000000) :
    Calls Tryz.prog 35 #[v] w fun e w' => ∃ v', e = .returned v' ∧ Held w0 w' (ownT 5 1 v' n (u8s l) :: Rs) := by
  obtain ⟨i0, hi0, hz0, hz1, hz2⟩ := info_parts infoByte13
  have hm : 1000000000 ≤ maxLen := by decide
  have q22 : ∀ (w : World) (a : Option Addr) (n c n' c' : Nat), (binOp .eql 25 (.slice a n c) (.slice none n' c')).run Tryz.prog w = .ok (.bool a.isNone) w := fun w a n c n' c' => Lib.run_eql_slice_nil w _ _ a n c n' c' Tryz.underlying25
  obtain ⟨hl, ao, cap, rfl, hnc, hcm, h0, hr⟩ := hv
  cases ao with
  | none =>
    obtain rfl := h0 rfl
    obtain rfl : n = 0 := by omega
    have hx : u8s l = [] := List.eq_nil_of_length_eq_zero (by omega)
    rw [hx]
    have HH := hid (h.nil 5 1)
    clear h hl h0 hr
    go_enter Tryz.func35, Tryz.ntmps35
    go_wp2
    go_ret
    exact ⟨_, rfl, HH.out⟩
  | some a =>
    have hv : Rd w 1 (.slice (some a) n cap) n (u8s l) := ⟨hl, _, _, rfl, hnc, hcm, h0, hr⟩
    have H1 := hid (h.lit 5 1 [] 0 (by decide) rfl)
    have HV := hid (hv.kept ((Mod.refl w (fun _ => False)).alloc (.cells #[] 5)) (fun _ _ h => h))
    clear h hl h0 hr hv
    go_enter Tryz.func35, Tryz.ntmps35
    go_wp2_with (refine wpList_app_held rfl (.tmp 5) (.tmp 6) 25 rfl 5 i0 (.int .u8 0) 1 1 Tryz.underlying25 hi0 hz0 hz1 hz2 rfl (by decide) _ 0 [] rfl H1.out _ n (u8s l) rfl HV.out (u8s_one l) n (by omega) (by omega) (by omega) ?_; intro ao1 cap1 w1 h1; have H2 := hid h1; clear h1)
    go_ret
    exact ⟨_, rfl, H2.out⟩
theorem takeI_any (k : Nat) (ki : Int) (hki : ki = (k : Int)) (h : Held w0 w (parT B v l r :: S :: Rs)) (hv : Reads w0 S 1 v l.length (u8s l)) (hl : l.length < 1000000000) (hk : k < 1000000000) :
    Calls Tryz.prog 101 #[.pointer (some ⟨B, 0, none⟩), .int .i64 ki] w fun en w' => TakeO w0 Rs S B v l r k en w' := by
  subst hki
  exact htake_any k h hv hl hk
/-! ### text -/
theorem zeroI_some {x : List Nat} {i : Nat} (h : zeroAt x = some i) : zeroI x = (i : Int) := by unfold zeroI; rw [h]
theorem zeroI_none {x : List Nat} (h : zeroAt x = none) : zeroI x = -1 := by unfold zeroI; rw [h]
theorem reads_front {size n cap H : Nat} {a : Option Addr} {xs : List Value} (h : Reads w0 S size (.slice a n cap) n xs) (hH : H ≤ n) : Reads w0 S size (.slice a H cap) H (xs.take (H * size)) := fun w F hm hs => by
  obtain ⟨g1, g2⟩ := h w F hm hs
  exact ⟨g1.front hH, fun hn k hk => g2 (by omega) k (by cases a <;> exact hk)⟩
theorem text_yes {p i : Nat} (hr : PSt l r p e) (h : zeroAt ((l.drop p).take 4097) = some i) : runV textR l r [] = runV (takeR i) l r [] ∧ runS textR l r = runS (takeR 1) l (runS (takeR i) l r) := by
  cases r with
  | error x => exact ⟨rfl, rfl⟩
  | ok m =>
    obtain ⟨hm, rfl, _⟩ := hr
    have hlt := (zeroAt_lt h).1
    rw [List.length_take, List.length_drop] at hlt
    have h1 : takeR i l p = .ok ((l.drop p).take i, p + i) := by unfold takeR; rw [if_pos (by omega)]
    have h2 : takeR 1 l (p + i) = .ok ((l.drop (p + i)).take 1, p + i + 1) := by unfold takeR; rw [if_pos (by omega)]
    have h3 : textR l p = .ok ((l.drop p).take i, p + i + 1) := by unfold textR; rw [h]
    simp only [runV, runS, h1, h2, h3, and_self]
theorem text_no {p e : Nat} (hr : PSt l r p e) (h : zeroAt ((l.drop p).take 4097) = none) : runV textR l r [] = [] ∧ runS textR l r = failS r (if 4096 < l.length - p then 2 else 5) := by
  cases r with
  | error x => exact ⟨rfl, rfl⟩
  | ok m =>
    obtain ⟨hm, rfl, _⟩ := hr
    have h3 : textR l p = .error (if 4096 < l.length - p then 2 else 5) := by
      unfold textR
      rw [h]
      dsimp only
      split <;> rfl
    simp only [runV, runS, h3, failS, and_self]
set_option maxRecDepth 100000 in
set_option maxHeartbeats 3200000 in
theorem text_any (h : Held w0 w (parT B v l r :: S :: Rs)) (hv : Reads w0 S 1 v l.length (u8s l)) (hb : ∀ b ∈ l, b < 256) (hl : l.length < 1000000000) :
    Calls Tryz.prog 102 #[.pointer (some ⟨B, 0, none⟩)] w fun en w' => en = .returned (strV (runV textR l r [])) ∧ Held w0 w' (parT B v l (runS textR l r) :: S :: Rs) := by
  obtain ⟨i0, hi0, hz0, hz1, hz2⟩ := info_parts infoByte13
  obtain ⟨p, e, hq, h1⟩ := par_open h
  obtain ⟨ao, cap, rfl, hncap, _⟩ := (hv.rd h.drop).form
  obtain ⟨n, hn⟩ : ∃ n, n = l.length := ⟨_, rfl⟩
  rw [← hn] at hv hl hncap ⊢
  rw [← hn] at h1 h
  have hpn : p ≤ n := by rw [hn]; exact hq.1
  have c0 := h1.obj.cell (i := 0) rfl
  have c1 := h1.obj.cell (i := 1) rfl
  obtain ⟨L, hL⟩ : ∃ L, L = n - p := ⟨_, rfl⟩
  obtain ⟨q, hqq⟩ : ∃ q, q = min L 4097 := ⟨_, rfl⟩
  obtain ⟨x, hx⟩ : ∃ x, x = (l.drop p).take 4097 := ⟨_, rfl⟩
  have hxq : (l.drop p).take q = x := by
    rw [hx, hqq]
    by_cases h4 : L ≤ 4097
    · rw [Nat.min_eq_left h4, List.take_of_length_le (by rw [List.length_drop]; omega), List.take_of_length_le (by rw [List.length_drop]; omega)]
    · rw [Nat.min_eq_right (by omega)]
  have hxb : ∀ b ∈ x, b < 256 := fun b hb' => by rw [hx] at hb'; exact hb b (List.mem_of_mem_drop (List.mem_of_mem_take hb'))
  have HC : ∀ wg, (Instr.sliceAt 25 (.slice ao n cap) (some (.int .i64 (p : Int))) none none).run Tryz.prog wg = .ok (sliced ao p n cap 1) wg := fun wg =>
    run_cut (P := Tryz.prog) (w := wg) 25 5 i0 1 Tryz.underlying25 hi0 hz1 ao n cap p n (some (.int .i64 (p : Int))) none ⟨_, rfl⟩ rfl hpn hncap
  obtain ⟨a', ha'⟩ : ∃ a', sliced ao p n cap 1 = .slice a' L (cap - p) := ⟨_, by rw [hL]; rfl⟩
  rw [ha'] at HC
  obtain ⟨cp, hcp⟩ : ∃ cp, cp = cap - p := ⟨_, rfl⟩
  rw [← hcp] at HC ha'
  have hLcp : L ≤ cp := by omega
  have hqL : q ≤ L := by omega
  have hrest : Reads w0 S 1 (.slice a' L cp) L (u8s (l.drop p)) := by
    have h2 := reads_cut (L := p) (H := n) hv hpn (Nat.le_refl _)
    rw [u8s_cut, ha', ← hL] at h2
    rw [List.take_of_length_le (by rw [List.length_drop]; omega)] at h2
    exact h2
  have hx2 : Reads w0 S 1 (.slice a' q cp) q (u8s x) := by
    have h2 := reads_front hrest hqL
    rw [Nat.mul_one] at h2
    rw [← hxq]
    unfold u8s at h2 ⊢
    rwa [← List.map_take] at h2
  have HI : ∀ j, Hid _ := fun j => hid (idxByte_any x (.slice a' q cp) q (hx2.rd (h.drop.drewN j)) hxb)
  have HF2 : ∀ j, Hid _ := fun j => hid (par_fail 2 (by decide) 2 rfl (h.drewN j))
  have HF5 : ∀ j, Hid _ := fun j => hid (par_fail 5 (by decide) 5 rfl (h.drewN j))
  have hp0 : (0 : Int) ≤ (p : Int) := Int.natCast_nonneg _
  have hL0 : (0 : Int) ≤ (L : Int) := Int.natCast_nonneg _
  have hq0 : (0 : Int) ≤ (q : Int) := Int.natCast_nonneg _
  have hcase : ((L : Int) < 4097 ∧ q = L) ∨ ((4097 : Int) < (L : Int) ∧ q = 4097) ∨ (L = 4097 ∧ q = 4097) := by omega
  have hLcI : (L : Int) ≤ (cp : Int) := by omega
  have hqcI : (q : Int) ≤ (cp : Int) := by omega
  have hpI : (p : Int) ≤ (n : Int) := by omega
  have HQ := hid (And.intro hq (And.intro hL (And.intro hn hx)))
  have HV := hid (And.intro hv (And.intro hb hl))
  have HH := hid h
  clear h h1 hv hq hn hb hl hL hqq hx hxq hxb hrest hx2 ha' hcp hqL hLcp hncap hpn hq0
  rcases hcase with ⟨h4, rfl⟩ | ⟨h4, rfl⟩ | ⟨rfl, rfl⟩
  all_goals
    cases hz : zeroAt x with
    | some i =>
      have hzI := zeroI_some hz
      obtain ⟨hV, hS⟩ := text_yes HQ.out.1 (by rw [← HQ.out.2.2.2]; exact hz)
      have hi0 : (0 : Int) ≤ (i : Int) := Int.natCast_nonneg _
      have hilt : i < 1000000000 := by
        have h5 := (zeroAt_lt hz).1
        rw [HQ.out.2.2.2, List.length_take] at h5
        omega
      have HVS := hid (And.intro hV hS)
      rw [hzI] at HI
      clear hV hS hzI hz HF2 HF5
      go_enter Tryz.func102, Tryz.ntmps102
      go_wp2
      go_quiet (fail)
      go_wp2_with fail
      with_reducible refine (HI _).out.mono ?_
      rintro en w2 ⟨rfl, rfl⟩
      have H2 := hid (HH.out.drewN nq)
      generalize w.drewN nq = w2 at H2 ⊢
      have HTK := hid (htake_any i H2.out (by rw [← HQ.out.2.2.1]; exact HV.out.1) (by rw [← HQ.out.2.2.1]; exact HV.out.2.2) hilt)
      clear HI HC c0 c1 HH
      go_wp2_with fail
      with_reducible refine HTK.out.mono ?_
      rintro en w3 ⟨u, bs, rfl, hbs, hu, h3⟩
      have hub := hu.rd h3.drop
      have hbb : ∀ b ∈ bs, b < 256 := by
        intro b hbm
        rw [hbs] at hbm
        unfold runV at hbm
        split at hbm
        · cases hbm
        · split at hbm
          · cases hbm
          · rename_i m a k2 ht
            unfold takeR at ht
            split at ht
            · cases ht
              exact HV.out.2.1 b (List.mem_of_mem_drop (List.mem_of_mem_take hbm))
            · cases ht
      have HT1 := hid (takeI_any 1 1 rfl h3 (by rw [← HQ.out.2.2.1]; exact HV.out.1) (by rw [← HQ.out.2.2.1]; exact HV.out.2.2) (by decide))
      have HU := hid (And.intro hub hbb)
      have HBS := hid hbs
      clear h3 HTK hu hbb hbs
      go_wp2_with (refine wpList_conv_str rfl 25 9 (.tmp 28) rfl 5 Tryz.underlying25 Tryz.underlying5 Tryz.underlying9 _ bs bs.length rfl HU.out.1 HU.out.2 ?_)
      with_reducible refine HT1.out.mono ?_
      rintro en w4 ⟨u2, bs2, rfl, _, _, h4⟩
      have H4 := hid h4
      clear h4 HT1
      go_wp2
      go_ret
      refine ⟨by rw [HVS.out.1, ← HBS.out]; rfl, ?_⟩
      rw [HVS.out.2]
      exact H4.out
    | none =>
      have hzI := zeroI_none hz
      obtain ⟨hV, hS⟩ := text_no HQ.out.1 (by rw [← HQ.out.2.2.2]; exact hz)
      have HVS := hid (And.intro hV hS)
      rw [hzI] at HI
      clear hV hS hzI hz
      first
        | (have hgt : ¬ (4096 : Int) < (q : Int) := (by omega)
           have hn : ¬ 4096 < l.length - p := (by have := HQ.out; omega)
           have HN4 := hid hn
           have HFF := HF5
           clear HF2 HF5 hn)
        | (have hgt : (4096 : Int) < (L : Int) := (by omega)
           have hn : 4096 < l.length - p := (by have := HQ.out; omega)
           have HN4 := hid hn
           have HFF := HF2
           clear HF2 HF5 hn)
        | (have hn : 4096 < l.length - p := (by have := HQ.out; omega)
           have HN4 := hid hn
           have HFF := HF2
           clear HF2 HF5 hn)
      go_enter Tryz.func102, Tryz.ntmps102
      go_wp2
      go_quiet (fail)
      go_wp2_with fail
      with_reducible refine (HI _).out.mono ?_
      rintro en w2 ⟨rfl, rfl⟩
      have HF := hid (HFF nq).out
      generalize w.drewN nq = w2 at HF ⊢
      clear HI HC c0 c1 HH HFF
      go_wp2_with fail
      with_reducible refine HF.out.mono ?_
      rintro en w3 ⟨rfl, h3⟩
      have H3 := hid h3
      clear h3 HF
      go_wp2
      go_ret
      refine ⟨by rw [HVS.out.1]; rfl, ?_⟩
      rw [HVS.out.2]
      first | (rw [if_pos HN4.out]; exact H3.out) | (rw [if_neg HN4.out]; exact H3.out)
/-! ### sum -/
theorem crc0_any (v : Value) (l : List Nat) (w : World) (hv : Rd w 1 v l.length (u8s l)) (hb : ∀ b ∈ l, b < 256) (hl : l.length < 1000000000) :
    Calls Tryz.prog 40 #[.int .u32 0, v] w fun e w' => e = .returned (.int .u32 ((crcOf 0 l : Nat) : Int)) ∧ Mod w w' (fun _ => False) := crc_any 0 v l w (by decide) hv hb hl
theorem and_low (C : Nat) (hC : C < 4294967296) : bits .and .u32 (C : Int) 65535 = ((C % 65536 : Nat) : Int) := by
  have h := (bits_nat .u32 32 (by decide) (fun n h0 h1 => IntWalk.u32_in n (by omega)) C 65535 hC (by decide)).1
  rw [show ((65535 : Nat) : Int) = 65535 from rfl] at h
  rw [h, show (65535 : Nat) = 2 ^ 16 - 1 from rfl, Nat.and_two_pow_sub_one_eq_mod]
theorem crcH_lt {c : Nat} {l : List Nat} (hc : c < 4294967296) (hl : ∀ b ∈ l, b < 256) : crcOf c l < 4294967296 :=
  Nat.xor_lt_two_pow (n := 32) (crcs_lt (Nat.xor_lt_two_pow (n := 32) hc (by decide)) hl) (by decide)
theorem sum_runS {p e : Nat} (hr : PSt l r p e) : runS sumR l r = match runS (numR 2) l r with
    | .error x => .error x
    | .ok m => if runV (numR 2) l r 0 = crcOf 0 (l.take p) % 65536 then .ok m else .error 4 := by
  cases r with
  | error x => rfl
  | ok m =>
    obtain ⟨hm, rfl, _⟩ := hr
    exact match hy : numR 2 l p with
    | .error x => by simp only [runS, sumR, hy]
    | .ok (a, k) => by
      by_cases hab : a = crcOf 0 (l.take p) % 65536
      · simp only [runS, runV, sumR, hy, if_pos hab]
      · simp only [runS, runV, sumR, hy, if_neg hab]
set_option maxRecDepth 100000 in
set_option maxHeartbeats 3200000 in
theorem hsum_any (h : Held w0 w (parT B v l r :: S :: Rs)) (hv : Reads w0 S 1 v l.length (u8s l)) (hb : ∀ b ∈ l, b < 256) (hl : l.length < 1000000000) :
    Calls Tryz.prog 103 #[.pointer (some ⟨B, 0, none⟩)] w fun en w' => en = .returned (.tuple #[]) ∧ Held w0 w' (parT B v l (runS sumR l r) :: S :: Rs) := by
  obtain ⟨i0, hi0, hz0, hz1, hz2⟩ := info_parts infoByte13
  obtain ⟨p, e, hq, h1⟩ := par_open h
  obtain ⟨ao, cap, rfl, hncap, _⟩ := (hv.rd h.drop).form
  have hsum := sum_runS hq
  obtain ⟨n, hn⟩ : ∃ n, n = l.length := ⟨_, rfl⟩
  have hpn : p ≤ n := by rw [hn]; exact hq.1
  have c0 := h1.obj.cell (i := 0) rfl
  have c1 := h1.obj.cell (i := 1) rfl
  have hbef : Reads w0 S 1 (.slice ao p cap) (l.take p).length (u8s (l.take p)) := by
    have h2 := reads_front (H := p) hv (by omega)
    rw [Nat.mul_one] at h2
    rw [List.length_take, Nat.min_eq_left (by omega)]
    unfold u8s at h2 ⊢
    rwa [← List.map_take] at h2
  have hbb : ∀ b ∈ l.take p, b < 256 := fun b hx => hb b (List.mem_of_mem_take hx)
  obtain ⟨V, hV⟩ : ∃ V, V = runV (numR 2) l r 0 := ⟨_, rfl⟩
  obtain ⟨r1, hr1⟩ : ∃ r1, r1 = runS (numR 2) l r := ⟨_, rfl⟩
  have HNUM : ∀ j, Hid _ := fun j => hid (hnumber_any 2 (h.drewN j) hv hb hl (by decide) 2 rfl)
  rw [← hV, ← hr1] at HNUM
  rw [← hV, ← hr1] at hsum
  rw [hsum]
  obtain ⟨C, hC⟩ : ∃ C, C = crcOf 0 (l.take p) := ⟨_, rfl⟩
  rw [← hC]
  have hlen : (l.take p).length < 1000000000 := by rw [List.length_take]; omega
  have HB := hid (And.intro hbef (And.intro hbb (And.intro hC hlen)))
  have hp0 : (0 : Int) ≤ (p : Int) := Int.natCast_nonneg _
  have hpI : (p : Int) ≤ (cap : Int) := by omega
  clear h h1 hv hq hb hl hsum hV hr1 hbef hbb hC hlen hncap hpn
  cases r1 with
  | error x =>
    clear HB
    go_enter Tryz.func103, Tryz.ntmps103
    go_wp2
    go_quiet (fail)
    go_wp2_with fail
    with_reducible refine (HNUM _).out.mono ?_
    rintro en w2 ⟨rfl, h2⟩
    obtain ⟨p1, e1, hq1, h3⟩ := par_open h2
    obtain ⟨_, rfl, hx⟩ := id hq1
    have d2 := h3.obj.cell (i := 2) rfl
    have hB : ((e1 : Int) == 0) = false := by simp; omega
    have hI : ¬ (e1 : Int) = 0 := by omega
    have H2 := hid h2
    clear h2 h3 hq1 hx HNUM c0 c1
    go_wp2
    go_end0
    exact ⟨rfl, H2.out⟩
  | ok m =>
    have hC32 : C < 4294967296 := by rw [HB.out.2.2.1]; exact crcH_lt (by decide) HB.out.2.1
    have hand := hid (and_low C hC32)
    obtain ⟨D, hD⟩ : ∃ D, D = C % 65536 := ⟨_, rfl⟩
    rw [← hD] at hand ⊢
    dsimp only
    by_cases hVD : V = D
    · rw [if_pos hVD]
      subst hVD
      clear hD
      go_enter Tryz.func103, Tryz.ntmps103
      go_wp2
      go_quiet (fail)
      go_wp2_with fail
      with_reducible refine (HNUM _).out.mono ?_
      rintro en w2 ⟨rfl, h2⟩
      obtain ⟨p1, e1, hq1, h3⟩ := par_open h2
      obtain ⟨_, _, rfl⟩ := id hq1
      have d2 := h3.obj.cell (i := 2) rfl
      have HCR := hid (crc0_any (.slice ao p cap) (l.take p) w2 (HB.out.1.rd h2.drop) HB.out.2.1 HB.out.2.2.2)
      rw [← HB.out.2.2.1] at HCR
      have H2 := hid h2
      clear h2 h3 hq1 HNUM c0 c1
      go_wp2_with fail
      with_reducible refine HCR.out.mono ?_
      rintro en w3 ⟨rfl, hm⟩
      have H3 := hid (H2.out.same hm)
      have hand := hand.out
      clear hm HCR H2 d2
      go_wp2
      go_end0
      exact ⟨rfl, H3.out⟩
    · rw [if_neg hVD]
      have hNB : ((V : Int) != (D : Int)) = true := by simp; omega
      have hNI : ¬ (V : Int) = (D : Int) := by omega
      clear hD hVD
      go_enter Tryz.func103, Tryz.ntmps103
      go_wp2
      go_quiet (fail)
      go_wp2_with fail
      with_reducible refine (HNUM _).out.mono ?_
      rintro en w2 ⟨rfl, h2⟩
      obtain ⟨p1, e1, hq1, h3⟩ := par_open h2
      obtain ⟨_, _, rfl⟩ := id hq1
      have d2 := h3.obj.cell (i := 2) rfl
      have HCR := hid (crc0_any (.slice ao p cap) (l.take p) w2 (HB.out.1.rd h2.drop) HB.out.2.1 HB.out.2.2.2)
      rw [← HB.out.2.2.1] at HCR
      have H2 := hid h2
      clear h2 h3 hq1 HNUM c0 c1
      go_wp2_with fail
      with_reducible refine HCR.out.mono ?_
      rintro en w3 ⟨rfl, hm⟩
      have HF := hid (par_fail 4 (by decide) 4 rfl (H2.out.same hm))
      have hand := hand.out
      clear hm HCR H2 d2
      go_wp2_with fail
      with_reducible refine HF.out.mono ?_
      rintro en w4 ⟨rfl, h4⟩
      have H4 := hid h4
      clear h4 HF
      go_wp2
      go_end0
      exact ⟨rfl, H4.out⟩
end
end Go.Proofs.YtkdmdbojcdonpaaGreatDoor
