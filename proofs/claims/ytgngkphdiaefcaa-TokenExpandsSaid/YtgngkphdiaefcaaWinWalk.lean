/-
  The landed window keeps its contracts: its object, its list, Add, Copy, Len, Last.
-/
import Derived.Test.YtgngkphdiaefcaaWinOK
import Derived.Test.YtgngkphdiaefcaaWinKeep
import Derived.WalkSpells
import Derived.Deep.DeepCutAuto
namespace Go.Proofs.Ytgngkphdiaefcaa
open Go.RowKit

theorem infoByteW : (Try.prog.info? 5).map (fun i => (i.zero, i.size, i.bytes)) = some (some (.int .u8 0), 1, 1) := by kernel_rfl
/-- the last bytes, as many as are kept -/
def keep (l : List Nat) : List Nat := keepN 32768 l
/-- A window whose list is these bytes. -/
def rawT (l : List Nat) (B : Nat) : Thing := exT fun v : Value => andT (objT B [v] 50) (ownT 5 1 v l.length (u8s l))
def winT (all : List Nat) (B : Nat) : Thing := rawT (keep all) B
section
variable {w0 w : World} {Rs : List Thing}
theorem mkRaw {l : List Nat} {B n : Nat} {v : Value} (hn : n = l.length) (h : Held w0 w (objT B [v] 50 :: ownT 5 1 v n (u8s l) :: Rs)) : Held w0 w (rawT l B :: Rs) := by
  subst hn
  exact Held.mk v h.pair
theorem unRaw {l : List Nat} {B : Nat} (h : Held w0 w (rawT l B :: Rs)) : ∃ v, Held w0 w (objT B [v] 50 :: ownT 5 1 v l.length (u8s l) :: Rs) := by
  obtain ⟨v, h2⟩ := h.ex
  exact ⟨v, h2.unpair⟩
theorem win_new (h : Held w0 w Rs) :
    Calls Try.prog 25 #[] w fun e w' => ∃ B, e = .returned (.pointer (some ⟨B, 0, none⟩)) ∧ Held w0 w' (winT [] B :: Rs) := by
  go_enter Try.func25, Try.ntmps25
  go_wp2
  go_ret
  exact ⟨_, rfl, mkRaw rfl ((h.nil 5 1).newObj [.slice none 0 0] _)⟩
/-- how many of n are too old -/
theorem outside_any (n : Nat) (hn : n < 2000000000) (w : World) :
    Calls Try.prog 34 #[.int .i64 (n : Int)] w fun e w' => e = .returned (.int .i64 ((n - 32768 : Nat) : Int)) ∧ w' = w := by
  have hn0 : (0 : Int) ≤ (n : Int) := Int.natCast_nonneg _
  rcases Nat.lt_or_ge 32768 n with h | h
  · have hI : (n : Int) - 32768 = ((n - 32768 : Nat) : Int) := by omega
    obtain ⟨m, hm⟩ : ∃ m, m = n - 32768 := ⟨_, rfl⟩
    rw [← hm] at hI ⊢
    have hm0 : (0 : Int) ≤ (m : Int) := Int.natCast_nonneg _
    have hm1 : (0 : Int) < (m : Int) := by omega
    clear hm h
    go_enter Try.func34, Try.ntmps34
    go_wp2
    go_ret
    exact ⟨rfl, rfl⟩
  · obtain ⟨x, hx⟩ : ∃ x : Int, x = (n : Int) - 32768 := ⟨_, rfl⟩
    have hI : (n : Int) - 32768 = x := hx.symm
    have hz : n - 32768 = 0 := by omega
    have hlo : -9223372036854775808 ≤ x := by omega
    have hhi : x ≤ 9223372036854775807 := by omega
    have hc : x < 0 ∨ x = 0 := by omega
    rw [hz]
    clear hx h
    rcases hc with hc | rfl
    all_goals
      go_enter Try.func34, Try.ntmps34
      go_wp2
      go_ret
      exact ⟨rfl, rfl⟩
theorem raw_len (l : List Nat) (B n : Nat) (h : Held w0 w (rawT l B :: Rs)) (hn : n = l.length) :
    Calls Try.prog 31 #[.pointer (some ⟨B, 0, none⟩)] w fun e w' => e = .returned (.int .i64 (n : Int)) ∧ w = w' := by
  subst hn
  obtain ⟨v, h3⟩ := unRaw h
  have hb := h3.obj
  obtain ⟨ao, cap, rfl, _, _⟩ := h3.swap.own.form
  have c0 := hb.cell (i := 0) rfl
  clear h h3 hb
  go_enter Try.func31, Try.ntmps31
  go_wp2
  go_ret
  exact ⟨rfl, rfl⟩
/-- slices.Clone at bytes -/
theorem cloneB_any (v : Value) (n : Nat) (l : List Nat) (h : Held w0 w Rs) (hv : Rd w 1 v n (u8s l)) (hn : n ≤ 1000000000) :
    Calls Try.prog 35 #[v] w fun e w' => ∃ v', e = .returned v' ∧ Held w0 w' (ownT 5 1 v' n (u8s l) :: Rs) := by
  obtain ⟨i0, hi0, hz0, hz1, hz2⟩ := info_parts infoByteW
  have q22 : ∀ (w : World) (a : Option Addr) (n c n' c' : Nat), (binOp .eql 32 (.slice a n c) (.slice none n' c')).run Try.prog w = .ok (.bool a.isNone) w := fun w a n c n' c' => Lib.run_eql_slice_nil w _ _ a n c n' c' Try.underlying32
  obtain ⟨hl, ao, cap, rfl, hnc, hcm, h0, hr⟩ := hv
  cases ao with
  | none =>
    obtain rfl := h0 rfl
    obtain rfl : n = 0 := by omega
    have hx : u8s l = [] := List.eq_nil_of_length_eq_zero (by omega)
    rw [hx]
    have HH := hid (h.nil 5 1)
    clear h hl h0 hr
    go_enter Try.func35, Try.ntmps35
    go_wp2
    go_ret
    exact ⟨_, rfl, HH.out⟩
  | some a =>
    have hv : Rd w 1 (.slice (some a) n cap) n (u8s l) := ⟨hl, _, _, rfl, hnc, hcm, h0, hr⟩
    have H1 := hid (h.lit 5 1 [] 0 (by decide) rfl)
    have HV := hid (hv.kept ((Mod.refl w (fun _ => False)).alloc (.cells #[] 5)) (fun _ _ h => h))
    clear h hl h0 hr hv
    go_enter Try.func35, Try.ntmps35
    go_wp2_with (refine wpList_app_held rfl (.tmp 5) (.tmp 6) 32 rfl 5 i0 (.int .u8 0) 1 1 Try.underlying32 hi0 hz0 hz1 hz2 rfl (by decide) _ 0 [] rfl H1.out _ n (u8s l) rfl HV.out (u8s_one l) n (by omega) (by unfold maxLen; omega) (by omega) ?_; intro ao1 cap1 w1 h1; have H2 := hid h1; clear h1)
    go_ret
    exact ⟨_, rfl, H2.out⟩
theorem raw_slide (l : List Nat) (B : Nat) (h : Held w0 w (rawT l B :: Rs)) (hl : l.length < 2000000000) :
    Calls Try.prog 32 #[.pointer (some ⟨B, 0, none⟩)] w fun e w' => e = .returned (.tuple #[]) ∧ Held w0 w' (rawT (keep l) B :: Rs) := by
  obtain ⟨i, hi, hz0, hz1, hz2⟩ := info_parts infoByteW
  obtain ⟨v, h3⟩ := unRaw h
  obtain ⟨n, hn⟩ : ∃ n, n = l.length := ⟨_, rfl⟩
  rw [← hn] at h3 hl
  obtain ⟨ao, cap, rfl, hnc, hcm⟩ := h3.swap.own.form
  obtain ⟨q, hq⟩ : ∃ q, q = n - 32768 := ⟨_, rfl⟩
  have HO := hid (fun w => outside_any n hl w)
  rw [← hq] at HO
  have hb := h3.obj
  have c0 := hb.cell (i := 0) rfl
  have f0 := hb.frozen 0
  have hqn : q ≤ n := by omega
  have hcut : ∀ wg, (Instr.sliceAt 32 (.slice ao n cap) (some (.int .i64 (q : Int))) none none).run Try.prog wg = .ok (.slice (if cap = q then ao else ao.map fun (x : Addr) => x.add (q * 1)) (n - q) (cap - q)) wg := fun wg =>
    run_cut (P := Try.prog) 32 5 i 1 Try.underlying32 hi hz1 ao n cap q n (some (.int .i64 (q : Int))) none ⟨_, rfl⟩ rfl hqn hnc
  have H5 := hid (h3.swap.recut (h3.swap.own.cut hqn (Nat.le_refl _)) (cut_block ao q n cap 1 n)).swap
  unfold sliced at H5
  generalize (if cap = q then ao else ao.map fun (x : Addr) => x.add (q * 1)) = a' at hcut H5
  have HE : Hid (((u8s l).drop (q * 1)).take ((n - q) * 1) = u8s (keep l) ∧ n - q = (keep l).length) := by
    have hk := keepN_length 32768 l
    refine hid ⟨?_, by rw [keep, hk, ← hn]; omega⟩
    rw [Nat.mul_one, Nat.mul_one, List.take_of_length_le (by rw [List.length_drop, u8s_length]; omega), keep, keepN, ← hn, ← hq]
    simp [u8s, List.map_drop]
  rw [HE.out.1] at H5
  clear h h3 hb hq hn
  go_enter Try.func32, Try.ntmps32
  go_wp2
  go_still_tail 14, (by kernel_rfl)
  still_call (HO.out _)
  repeat still_step
  refine wpStill_nil ?_
  change wpList _ _ _ _ _ w.drew
  go_wp2
  go_end0
  exact ⟨rfl, mkRaw HE.out.2 (H5.out.drew.setObj 0 _)⟩
theorem raw_last_none (l : List Nat) (B : Nat) (a : Int) (h : Held w0 w (rawT l B :: Rs)) (hl : l.length < 2000000000) (ha : a < 1 ∨ l.length = 0) :
    Calls Try.prog 33 #[.pointer (some ⟨B, 0, none⟩), .int .i64 a] w fun e w' => e = .returned (.slice none 0 0) ∧ w = w' := by
  obtain ⟨n, hn⟩ : ∃ n, n = l.length := ⟨_, rfl⟩
  rw [← hn] at hl ha
  have HL := hid (raw_len l B n h hn)
  have hn0 : (0 : Int) ≤ (n : Int) := Int.natCast_nonneg _
  have hc : ((n : Int) < a ∧ (n : Int) < 1) ∨ (a ≤ (n : Int) ∧ a < 1) := by omega
  clear h hn ha
  rcases hc with ⟨hc, hc1⟩ | ⟨hc, hc1⟩
  all_goals
    go_enter Try.func33, Try.ntmps33
    go_wp2_with fail
    refine HL.out.mono ?_
    rintro e w1 ⟨rfl, rfl⟩
    go_wp2
    go_ret
    exact ⟨rfl, rfl⟩
theorem raw_last (l : List Nat) (B k : Nat) (a : Int) (h : Held w0 w (rawT l B :: Rs)) (hl : l.length < 1000000000) (hk : 1 ≤ k) (hkl : k ≤ l.length) (ha : a = (k : Int) ∨ ((k : Int) ≤ a ∧ k = l.length)) :
    Calls Try.prog 33 #[.pointer (some ⟨B, 0, none⟩), .int .i64 a] w fun e w' => ∃ v, e = .returned v ∧ Held w0 w' (ownT 5 1 v k (u8s (l.drop (l.length - k))) :: rawT l B :: Rs) := by
  obtain ⟨i, hi, hz0, hz1, hz2⟩ := info_parts infoByteW
  obtain ⟨n, hn⟩ : ∃ n, n = l.length := ⟨_, rfl⟩
  rw [← hn] at hl ha hkl ⊢
  obtain ⟨p, hp⟩ : ∃ p, p = n - k := ⟨_, rfl⟩
  rw [← hp]
  have hpn : p ≤ n := by omega
  have HL := hid (raw_len l B n h hn)
  have HW := hid h
  obtain ⟨v, h3⟩ := unRaw h
  rw [← hn] at h3
  obtain ⟨ao, cap, rfl, hnc, hcm⟩ := h3.swap.own.form
  have hb := h3.obj
  have c0 := hb.cell (i := 0) rfl
  have hcut : ∀ wg, (Instr.sliceAt 32 (.slice ao n cap) (some (.int .i64 (p : Int))) none none).run Try.prog wg = .ok (.slice (if cap = p then ao else ao.map fun (x : Addr) => x.add (p * 1)) (n - p) (cap - p)) wg := fun wg =>
    run_cut (P := Try.prog) 32 5 i 1 Try.underlying32 hi hz1 ao n cap p n (some (.int .i64 (p : Int))) none ⟨_, rfl⟩ rfl hpn hnc
  have hrd := (h3.swap.own.rd.cut (L := p) (H := n) hpn (Nat.le_refl _)).drew
  unfold sliced at hrd
  generalize (if cap = p then ao else ao.map fun (x : Addr) => x.add (p * 1)) = a' at hcut hrd
  have e1 : n - p = k := by omega
  have e2 : ((u8s l).drop (p * 1)).take ((n - p) * 1) = u8s (l.drop p) := by
    rw [Nat.mul_one, Nat.mul_one, List.take_of_length_le (by rw [List.length_drop, u8s_length]; omega)]
    simp [u8s, List.map_drop]
  rw [e2, e1] at hrd
  rw [e1] at hcut
  have HC := hid (cloneB_any _ k (l.drop p) h.drew hrd (by omega))
  have hn0 : (0 : Int) ≤ (n : Int) := Int.natCast_nonneg _
  have hk0 : (0 : Int) ≤ (k : Int) := Int.natCast_nonneg _
  have hkI : ¬ (k : Int) < 1 := by omega
  have hkn : (k : Int) ≤ (n : Int) := by omega
  have hpI : (n : Int) - (k : Int) = (p : Int) := by omega
  have hw0 : IntKind.i64.wrap (p : Int) = (p : Int) := IntWalk.i64_in _ (by omega)
  have hc : a = (k : Int) ∨ ((n : Int) < a ∧ n = k) := by omega
  clear h h3 hb hrd e1 e2 hp hn ha
  rcases hc with rfl | ⟨hc, hnk⟩
  · go_enter Try.func33, Try.ntmps33
    go_wp2_with fail
    refine HL.out.mono ?_
    rintro e w1 ⟨rfl, rfl⟩
    go_wp2
    go_still_tail 12, (by kernel_rfl)
    change wpList _ _ _ _ _ w.drew
    generalize w.drew = w2 at HC ⊢
    go_wp2_with fail
    refine HC.out.mono ?_
    rintro e w3 ⟨v', rfl, hh⟩
    have HE := hid hh
    clear hh HC
    go_wp2
    go_ret
    exact ⟨_, rfl, HE.out⟩
  · subst hnk
    go_enter Try.func33, Try.ntmps33
    go_wp2_with fail
    refine HL.out.mono ?_
    rintro e w1 ⟨rfl, rfl⟩
    go_wp2
    go_still_tail 12, (by kernel_rfl)
    change wpList _ _ _ _ _ w.drew
    generalize w.drew = w2 at HC ⊢
    go_wp2_with fail
    refine HC.out.mono ?_
    rintro e w3 ⟨v', rfl, hh⟩
    have HE := hid hh
    clear hh HC
    go_wp2
    go_ret
    exact ⟨_, rfl, HE.out⟩
set_option maxHeartbeats 1600000 in
theorem raw_add (l bs : List Nat) (B : Nat) (v : Value) (m : Nat) (h : Held w0 w (rawT l B :: Rs)) (hl : l.length < 40000) (hv : Rd w 1 v m (u8s bs)) (hm : m < 2000000000) :
    Calls Try.prog 30 #[.pointer (some ⟨B, 0, none⟩), v] w fun e w' => e = .returned (.tuple #[]) ∧ Held w0 w' (rawT (keep (l ++ keep bs)) B :: Rs) := by
  obtain ⟨i, hi, hz0, hz1, hz2⟩ := info_parts infoByteW
  have hmb : m = bs.length := by have := hv.1; rw [u8s_length] at this; omega
  obtain ⟨so, scap, rfl, hmc, hsm⟩ := hv.form
  obtain ⟨n, hn⟩ : ∃ n, n = l.length := ⟨_, rfl⟩
  obtain ⟨q, hq⟩ : ∃ q, q = m - 32768 := ⟨_, rfl⟩
  have hqm : q ≤ m := by omega
  have HO := hid (fun w => outside_any m hm w)
  rw [← hq] at HO
  obtain ⟨v, h3⟩ := unRaw h
  rw [← hn] at h3 hl
  obtain ⟨ao, cap, rfl, hnc, hcm⟩ := h3.swap.own.form
  have hb := h3.obj
  have HB := hid hb
  have HA := hid h3.apart
  have c0 := hb.cell (i := 0) rfl
  have hcut : ∀ wg, (Instr.sliceAt 32 (.slice so m scap) (some (.int .i64 (q : Int))) none none).run Try.prog wg = .ok (.slice (if scap = q then so else so.map fun (x : Addr) => x.add (q * 1)) (m - q) (scap - q)) wg := fun wg =>
    run_cut (P := Try.prog) 32 5 i 1 Try.underlying32 hi hz1 so m scap q m (some (.int .i64 (q : Int))) none ⟨_, rfl⟩ rfl hqm hmc
  have hrd := (hv.cut (L := q) (H := m) hqm (Nat.le_refl _)).drew
  unfold sliced at hrd
  generalize (if scap = q then so else so.map fun (x : Addr) => x.add (q * 1)) = a' at hcut hrd
  obtain ⟨k, hk⟩ : ∃ k, k = m - q := ⟨_, rfl⟩
  have e2 : ((u8s bs).drop (q * 1)).take ((m - q) * 1) = u8s (keep bs) := by
    rw [Nat.mul_one, Nat.mul_one, List.take_of_length_le (by rw [List.length_drop, u8s_length]; omega), keep, keepN, ← hmb, ← hq]
    simp [u8s, List.map_drop]
  rw [e2, ← hk] at hrd
  rw [← hk] at hcut
  have hk3 : k ≤ 32768 := by omega
  have hkl : k = (keep bs).length := by rw [keep, keepN_length]; omega
  have HR := hid hrd
  have HN := hid (And.intro hn hkl)
  have H3 := hid h3.swap
  clear h h3 hb hv hrd e2 hq hk hkl hn hmb
  go_enter Try.func30, Try.ntmps30
  go_wp2
  go_region_law ((first
    | (refine step_app _ (by rfl) (.tmp 10) (.tmp 15) 32 (by rfl) 5 i (.int .u8 0) 1 1 Try.underlying32 hi hz0 hz1 hz2 (by rfl) (by decide) (.slice ao n cap) n (u8s l) (by rfl) (by exact H3.out.own.drew) (.slice a' k (scap - q)) k (u8s (keep bs)) (by rfl) (by exact HR.out) (u8s_one _) (by unfold maxLen; omega) (by omega) ?_; intro ao1 cap1 w2 hown1 hgrow hat; have HB1 := hid (HB.out.drew.grown hgrow HA.out); have f1 := HB1.out.frozen 0; have c1 := HB1.out.cell (i := 0) rfl)
    | (go_simp; go_at_call 34; refine (HO.out _).mono ?_; rintro e w1 ⟨rfl, rfl⟩)))
  all_goals
    have h5 := (H3.out.drew.app hown1 hgrow hat).swap.setObj 0 (.slice ao1 (n + k) cap1)
    rw [← u8s_append] at h5
    have HS := hid (raw_slide (l ++ keep bs) B (mkRaw (by rw [List.length_append, ← HN.out.1, ← HN.out.2]) h5) (by rw [List.length_append, ← HN.out.1, ← HN.out.2]; omega))
    clear h5 hown1 hgrow hat f1 c1 HB1
    go_wp2_with fail
    refine HS.out.mono ?_
    rintro e w6 ⟨rfl, hh⟩
    have HE := hid hh
    clear hh HS
    go_wp2
    go_end0
    exact ⟨rfl, HE.out⟩
theorem raw_copyArg (l : List Nat) (B : Nat) (n d : Int) (_ : Held w0 w (rawT l B :: Rs)) (hn : n < 1 ∨ 258 < n) :
    Calls Try.prog 29 #[.pointer (some ⟨B, 0, none⟩), .int .i64 n, .int .i64 d] w fun e w' => e = .returned (.tuple #[.slice none 0 0, .int .i64 1]) ∧ w = w' := by
  rcases hn with hn | hn
  · go_enter Try.func29, Try.ntmps29
    go_wp2
    go_ret2
    exact ⟨rfl, rfl⟩
  · have hn1 : ¬ n < 1 := by omega
    go_enter Try.func29, Try.ntmps29
    go_wp2
    go_ret2
    exact ⟨rfl, rfl⟩
theorem raw_copyCode (l : List Nat) (B : Nat) (n d : Int) (h : Held w0 w (rawT l B :: Rs)) (hn : 1 ≤ n) (hn2 : n ≤ 258) (hd : d < 1 ∨ (l.length : Int) < d) :
    Calls Try.prog 29 #[.pointer (some ⟨B, 0, none⟩), .int .i64 n, .int .i64 d] w fun e w' => e = .returned (.tuple #[.slice none 0 0, .int .i64 3]) ∧ w = w' := by
  have hn1 : ¬ n < 1 := by omega
  have hn3 : ¬ 258 < n := by omega
  have HL := hid (raw_len l B l.length h rfl)
  rcases hd with hd | hd
  · go_enter Try.func29, Try.ntmps29
    go_wp2
    go_ret2
    exact ⟨rfl, rfl⟩
  · have hd1 : ¬ d < 1 := by omega
    go_enter Try.func29, Try.ntmps29
    go_wp2_with fail
    refine HL.out.mono ?_
    rintro e w1 ⟨rfl, rfl⟩
    go_wp2
    go_ret2
    exact ⟨rfl, rfl⟩
set_option maxHeartbeats 3200000 in
theorem raw_copy (l : List Nat) (B n d : Nat) (h : Held w0 w (rawT l B :: Rs)) (hl : l.length ≤ 32768) (hn1 : 1 ≤ n) (hn2 : n ≤ 258) (hd1 : 1 ≤ d) (hd2 : d ≤ l.length) :
    Calls Try.prog 29 #[.pointer (some ⟨B, 0, none⟩), .int .i64 (n : Int), .int .i64 (d : Int)] w fun e w' => ∃ v, e = .returned (.tuple #[v, .int .i64 0]) ∧ Held w0 w' (ownT 5 1 v n (u8s (out l d n)) :: rawT (keep (ext l d n)) B :: Rs) := by
  obtain ⟨i, hi, hz0, hz1, hz2⟩ := info_parts infoByteW
  obtain ⟨L, hL⟩ : ∃ L, L = l.length := ⟨_, rfl⟩
  have HLN := hid (raw_len l B L h hL)
  have HW := hid h
  have HL := hid hL
  rw [← hL] at hl hd2
  have hn3 : ¬ (n : Int) < 1 := by omega
  have hn4 : ¬ (258 : Int) < (n : Int) := by omega
  have hd3 : ¬ (d : Int) < 1 := by omega
  have hd4 : ¬ (L : Int) < (d : Int) := by omega
  have hd5 : ¬ L < d := by omega
  have hn0 : (0 : Int) ≤ (n : Int) := Int.natCast_nonneg _
  have hd0 : (0 : Int) ≤ (d : Int) := Int.natCast_nonneg _
  clear h hL
  go_enter Try.func29, Try.ntmps29
  go_wp2_with fail
  refine HLN.out.mono ?_
  rintro e w1 ⟨rfl, rfl⟩
  go_wp2
  go_loopg [27] (n + 2) (fun k t27 wr => ∃ j : Nat, j ≤ n ∧ n - j < k ∧ t27 = .int .i64 (j : Int) ∧ Hid (Held w0 wr (rawT (ext l d j) B :: Rs)))
  case atStart => exact ⟨0, by omega, by omega, rfl, HW⟩
  case round =>
    obtain ⟨j, hj, hk, rfl, HR⟩ := hrel
    have hj0 : (0 : Int) ≤ (j : Int) := Int.natCast_nonneg _
    by_cases hjn : j < n
    · have hjI : (j : Int) < (n : Int) := by omega
      obtain ⟨v, h3⟩ := unRaw HR.out
      obtain ⟨m, hm⟩ : ∃ m, m = L + j := ⟨_, rfl⟩
      have hel : (ext l d j).length = m := by rw [ext_length, ← HL.out, hm]
      rw [hel] at h3
      obtain ⟨ao, cap, rfl, hnc, hcm⟩ := h3.swap.own.form
      have hb := h3.obj
      have HB := hid hb
      have HA := hid h3.apart
      have H3 := hid h3.swap
      have c0 := hb.cell (i := 0) rfl
      have f0 := hb.frozen 0
      have fa : ∀ o, (wr.alloc o).frozen? ⟨B, 0, none⟩ = false := fun o => (hb.alloc o).frozen 0
      have ca0 : ∀ o, (wr.alloc o).cell? ⟨B, 0, none⟩ = some (.slice ao m cap) := fun o => (hb.alloc o).cell (i := 0) rfl
      obtain ⟨p, hp⟩ : ∃ p, p = m - d := ⟨_, rfl⟩
      obtain ⟨x, hx⟩ : ∃ x, (ext l d j)[p]? = some x := ⟨(ext l d j)[p]'(by omega), List.getElem?_eq_getElem _⟩
      have hES : u8s (ext l d j) ++ u8s [x] = u8s (ext l d (j + 1)) := by
        rw [← u8s_append, ext, ← HL.out, show L + j - d = p by omega, hx]; rfl
      obtain ⟨g, off, rfl, hcell, _, _⟩ := h3.swap.own.site (by omega)
      have e1 := hcell p (.int .u8 (x : Int)) (by rw [u8s_get, hx]; rfl)
      have e2 : ∀ o, (wr.alloc o).cell? ⟨g, off + p, none⟩ = some (.int .u8 (x : Int)) := fun o => (Mod.cell ((Mod.refl wr (fun _ => False)).alloc o) (World.block_lt_of_cell? wr _ e1) (fun h => h)).trans e1
      have hpI : (m : Int) - (d : Int) = (p : Int) := by omega
      have hp0 : (0 : Int) ≤ (p : Int) := Int.natCast_nonneg _
      have hm0 : (0 : Int) ≤ (m : Int) := Int.natCast_nonneg _
      have hpm : (p : Int) < (m : Int) := by omega
      have hw0 : IntKind.i64.wrap (p : Int) = (p : Int) := IntWalk.i64_in _ (by omega)
      have hmb : m ≤ 40000 := by omega
      have HES := hid hES
      have HM := hid (And.intro hm hel)
      clear h3 hb hcell hx hES hp hm hel
      go_wp2
      go_region_law
        ((refine step_app _ (by rfl) (.tmp 33) (.tmp 47) 32 (by rfl) 5 i (.int .u8 0) 1 1 Try.underlying32 hi hz0 hz1 hz2 (by rfl) (by decide) (.slice (some ⟨g, off, none⟩) m cap) m (u8s (ext l d j)) (by rfl) (by exact (H3.out.own.alloc _).drew) (.slice (some ⟨wr.heap.size, 0, none⟩) 1 1) 1 (u8s [x]) (by rfl) (by exact (Rd.lit _ [_] _ 1 1 (by decide) rfl).drew) (u8s_one _) (by unfold maxLen; omega) (by omega) ?_; intro ao1 cap1 w2 hown1 hgrow hat; have HB1 := hid ((HB.out.alloc _).drew.grown hgrow HA.out); have f1 := HB1.out.frozen 0; have c1 := HB1.out.cell (i := 0) rfl))
      all_goals
        have h5 := ((H3.out.alloc (.cells #[.int .u8 (x : Int)] 5)).drew.app hown1 hgrow hat).swap.setObj 0 (.slice ao1 (m + 1) cap1)
        rw [HES.out] at h5
        have H6 := hid (mkRaw (l := ext l d (j + 1)) (by rw [ext_length, ← HL.out, HM.out.1]; omega) h5)
        clear h5 hown1 hgrow hat f1 c1 HB1
        go_wp2
        go_roundg (gk - 1)
        case measure => omega
        case rel => exact ⟨j + 1, by omega, by omega, by go_num, H6⟩
    · obtain rfl : n = j := by omega
      have hjI : ¬ (n : Int) < (n : Int) := by omega
      have HS := hid (raw_slide (ext l d n) B HR.out (by rw [ext_length, ← HL.out]; omega))
      clear HR
      go_wp2_with fail
      refine HS.out.mono ?_
      rintro e w2 ⟨rfl, hh⟩
      have hkl : (keep (ext l d n)).length = min (L + n) 32768 := by rw [keep, keepN_length, ext_length, ← HL.out]
      have hdr : (keep (ext l d n)).drop ((keep (ext l d n)).length - n) = out l d n := by
        rw [keep, drop_keepN 32768 _ n (by rw [ext_length]; omega) (by omega), out_drop]
      have HT := raw_last (keep (ext l d n)) B n (n : Int) hh (by omega) hn1 (by omega) (.inl rfl)
      rw [hdr] at HT
      have HT := hid HT
      clear hh HS hkl hdr
      go_wp2_with fail
      refine HT.out.mono ?_
      rintro e w3 ⟨v', rfl, hh⟩
      have HE := hid hh
      clear hh HT
      go_wp2
      go_ret2
      exact ⟨_, rfl, HE.out⟩
/-! ### A window that is none -/
theorem none_add (v : Value) (w : World) :
    Calls Try.prog 30 #[.pointer none, v] w fun e w' => e = .returned (.tuple #[]) ∧ w = w' := by
  go_enter Try.func30, Try.ntmps30
  go_wp2
  refine bodyPost_ret (results_none rfl _ _ _) rfl ?_
  exact ⟨rfl, rfl⟩
theorem none_copy (n d : Int) (w : World) :
    Calls Try.prog 29 #[.pointer none, .int .i64 n, .int .i64 d] w fun e w' => e = .returned (.tuple #[.slice none 0 0, .int .i64 1]) ∧ w = w' := by
  go_enter Try.func29, Try.ntmps29
  go_wp2
  go_ret2
  exact ⟨rfl, rfl⟩
theorem none_len (w : World) :
    Calls Try.prog 31 #[.pointer none] w fun e w' => e = .returned (.int .i64 0) ∧ w = w' := by
  go_enter Try.func31, Try.ntmps31
  go_wp2
  go_ret
  exact ⟨rfl, rfl⟩
theorem none_last (n : Int) (w : World) :
    Calls Try.prog 33 #[.pointer none, .int .i64 n] w fun e w' => e = .returned (.slice none 0 0) ∧ w = w' := by
  have hn : 0 < n ∨ n ≤ 0 := by omega
  rcases hn with hn | hn
  · go_enter Try.func33, Try.ntmps33
    go_wp2_with fail
    refine (none_len _).mono ?_
    rintro e w' ⟨rfl, rfl⟩
    go_wp2
    go_ret
    exact ⟨rfl, rfl⟩
  · have hn1 : n < 1 := by omega
    go_enter Try.func33, Try.ntmps33
    go_wp2_with fail
    refine (none_len _).mono ?_
    rintro e w' ⟨rfl, rfl⟩
    go_wp2
    go_ret
    exact ⟨rfl, rfl⟩
end
end Go.Proofs.Ytgngkphdiaefcaa
