/-
  The reference's stream: symbol, fixed.
-/
import Derived.Test.YtmmfkppkmgjljaaDoorZE07
import Derived.Deep.RegionHeld3
namespace Go.Proofs.YtmmfkppkmgjljaaDoor
set_option maxRecDepth 5000
open Go.RowKit
section
variable {w0 w : World} {Rs : List Thing}
set_option maxHeartbeats 1600000 in
theorem symbol_any (B : Nat) (o : Value) (e : Nat) (r k s : Value) (bo : Option Addr) (bc m a : Nat) (M : Int) (li di lc dc tk : Value) (all : List Nat) (v u : Value) (l : List Int) (n : Nat)
    (h : Held w0 w (strT B o e r k s (.slice bo m bc) a M li di lc dc tk :: rdT 1 (.slice bo m bc) m (u8s all) :: Rs)) (hv : Rd w 1 v n (ints l)) (hu : Rd w 1 u n (nums .u32 (codesOf l))) (hn : n = l.length) (hl : ∀ y ∈ l, 0 ≤ y ∧ y ≤ 15) (hn2 : n ≤ 288) (hb : isBits all) (ha : a ≤ m) (hm2 : m < 1000000000) :
    Calls Tryd.prog 37 #[ptrV B, v, u] w fun e' w' =>
      ((symF l (all.drop a)).2.2 = 0 ∧ e' = .returned (.tuple #[.int .i64 (((symF l (all.drop a)).1 : Nat) : Int), .bool true]) ∧ Held w0 w' (strT B o e r k s (.slice bo m bc) (a + (symF l (all.drop a)).2.1) M li di lc dc tk :: rdT 1 (.slice bo m bc) m (u8s all) :: Rs)) ∨
      ((symF l (all.drop a)).2.2 ≠ 0 ∧ e' = .returned (.tuple #[.int .i64 0, .bool false]) ∧ Held w0 w' (strT B o (symF l (all.drop a)).2.2 r k s (.slice bo m bc) a M li di lc dc tk :: rdT 1 (.slice bo m bc) m (u8s all) :: Rs)) := by
  have hm : m = all.length := by have := h.drop.rdv.1; rw [u8s_length] at this; omega
  have HR := hid (fun w1 (hv : Rd w1 1 v n (ints l)) (hu : Rd w1 1 u n (nums .u32 (codesOf l))) (hx : Rd w1 1 (.slice bo m bc) m (u8s all)) => refread_any v u (.slice bo m bc) l all a n m w1 hv hu hx hn hm hl hn2 hb ha hm2)
  have HS := hid (fun (k q er : Nat) (hr : ReadIs l (all.drop a) k q er) => symF_of (isBits_drop hb a) hl hr)
  have HH := hid (fun (h : (symF l (all.drop a)).2.2 = 0) => symF_hit h)
  generalize symF l (all.drop a) = S at *
  unfold ptrV
  unfold strT at h ⊢
  have hb := h.obj
  have c1 := hb.cell (i := 1) rfl
  have c5 := hb.cell (i := 5) rfl
  have c6 := hb.cell (i := 6) rfl
  have ha0 : (0 : Int) ≤ (a : Int) := Int.natCast_nonneg _
  have H := hid h
  have HV := hid hv
  have HU := hid hu
  have HM := hid hm
  have hHR := hid (HR.out w.drew hv.drew hu.drew h.drop.rdv.drew)
  clear h hb hv hu HR hm hl hn
  go_enter Tryd.func37, Tryd.ntmps37
  go_wp2
  go_region_held3 (fun w' => w'.cell? ⟨B, 5, none⟩ = some (.slice bo m bc) ∧ w'.cell? ⟨B, 6, none⟩ = some (.int .i64 (a : Int))) (first | exact ⟨d5, d6⟩ | exact ⟨c5, c6⟩ | go_keep)
    ((go_at_call 47; go_must (refine hHR.out.mono ?_); rintro e' w2 ⟨kk, q, er, rfl, hmod, hr⟩; have hS := hid (HS.out kk q er hr.out); have h2 := H.out.drew.same hmod; have hb := h2.obj; have d1 := hb.cell (i := 1) rfl; have d5 := hb.cell (i := 5) rfl; have d6 := hb.cell (i := 6) rfl; have f1 := hb.frozen 1; have f6 := hb.frozen 6; have H2 := hid h2; clear hr hmod h2 hb))
  all_goals
    have HQ : Hid (er = 0 → q ≤ all.length - a) := hid (fun he => by
      have hq := (HH.out (by rw [hS.out]; exact he)).2.2.1
      rw [hS.out, List.length_drop] at hq
      exact hq)
    by_cases he : er = 0
    · have hq := HQ.out he
      rw [← HM.out] at hq
      have hqb : q ≤ 1000000000 := by omega
      subst he
      obtain ⟨z, hz⟩ : ∃ z, z = a + q := ⟨_, rfl⟩
      have hzI : (a : Int) + (q : Int) = (z : Int) := by omega
      have hz0 : (0 : Int) ≤ (z : Int) := Int.natCast_nonneg _
      have hq0 : (0 : Int) ≤ (q : Int) := Int.natCast_nonneg _
      have hzb : z ≤ 3000000000 := by omega
      have HZ := hid hz
      have HE : Hid (S.1 = kk ∧ (a : Int) + (S.2.1 : Int) = (z : Int) ∧ S.2.2 = 0) := hid (by rw [hS.out]; exact ⟨rfl, hzI, rfl⟩)
      clear hz hq
      go_wp2
      go_ret2
      exact .inl ⟨HE.out.2.2, by rw [HE.out.1]; rfl, by rw [HE.out.2.1]; exact H2.out.setObj 6 _⟩
    · have hne : ((er : Int) != 0) = true := by simp; exact he
      have HE : Hid (S.2.2 = er ∧ S.2.2 ≠ 0) := hid (by rw [hS.out]; exact ⟨rfl, he⟩)
      clear he
      go_wp2
      go_ret2
      exact .inr ⟨HE.out.2, rfl, by rw [HE.out.1]; exact H2.out.setObj 1 _⟩
def fixAt (i : Nat) : Int := if 144 ≤ i ∧ i < 256 then 9 else if 256 ≤ i ∧ i < 280 then 7 else 8
def fixLit : List Int := (List.range 288).map fixAt
def fixDist : List Int := List.replicate 32 5
theorem fix_snoc (i : Nat) : (List.range (i + 1)).map fixAt = (List.range i).map fixAt ++ [fixAt i] := by rw [List.range_succ, List.map_append]; rfl
theorem infoInt10 : (Tryd.prog.info? 3).map (fun i => (i.zero, i.size, i.bytes)) = some (some (.int .i64 0), 1, 8) := by kernel_rfl
theorem Held.toRd2 {e e2 : TypeId} {size n n2 : Nat} {v v2 : Value} {xs xs2 : List Value} (h : Held w0 w (ownT e size v n xs :: ownT e2 size v2 n2 xs2 :: Rs)) : Held w0 w (rd2T size v n xs v2 n2 xs2 :: Rs) := by
  obtain ⟨F, ⟨F1, F2, h1, h2, _, hF⟩, h3⟩ := h.pair
  exact ⟨F, ⟨⟨h1.1.rd, fun k hk => (hF k).2 (.inl ((h1.2 k).2 hk))⟩, ⟨h2.1.rd, fun k hk => (hF k).2 (.inr ((h2.2 k).2 hk))⟩⟩, h3⟩
set_option maxHeartbeats 3200000 in
theorem fixed_any (B : Nat) (o : Value) (e : Nat) (r k s b : Value) (a : Nat) (M : Int) (li di lc dc tk : Value) (h : Held w0 w (strT B o e r k s b a M li di lc dc tk :: Rs)) :
    Calls Tryd.prog 22 #[ptrV B] w fun e' w' => e' = .returned (.tuple #[]) ∧ ∃ li' di', Held w0 w' (strT B o e r k s b a M li' di' lc dc tk :: rd2T 1 li' 288 (ints fixLit) di' 32 (ints fixDist) :: Rs) := by
  obtain ⟨i0, hi0, hz0, hz1, hz2⟩ := info_parts infoInt10
  unfold ptrV
  unfold strT at h ⊢
  have hb := h.obj
  have c8 := hb.cell (i := 8) rfl
  have c9 := hb.cell (i := 9) rfl
  have f8 := hb.frozen 8
  have f9 := hb.frozen 9
  have h1 := ((h.setObj 8 (.slice none 0 0)).setObj 9 (.slice none 0 0))
  have H1 := hid ((h1.nil 3 1).swap)
  clear h hb h1
  go_enter Tryd.func22, Tryd.ntmps22
  go_wp2
  go_loopg [2] (290) (fun g t2 wr => ∃ (i : Nat) (lo : Option Addr) (lcap : Nat), i ≤ 288 ∧ 288 - i < g ∧ t2 = .int .i64 (i : Int) ∧ Hid (Held w0 wr (objT B [o, .int .i64 (e : Int), r, k, s, b, .int .i64 (a : Int), .int .i64 M, .slice lo i lcap, .slice none 0 0, lc, dc, tk] 32 :: ownT 3 1 (.slice lo i lcap) i (ints ((List.range i).map fixAt)) :: Rs)))
  case atStart => exact ⟨0, none, 0, by omega, by omega, rfl, H1⟩
  case round =>
    obtain ⟨i, lo, lcap, hi, hg, rfl, HH⟩ := hrel
    obtain ⟨gx, rfl⟩ : ∃ g, g = gk := ⟨gk, rfl⟩
    have hi0' : (0 : Int) ≤ (i : Int) := Int.natCast_nonneg _
    have hb := HH.out.obj
    have d8 := hb.cell (i := 8) rfl
    have d9 := hb.cell (i := 9) rfl
    clear hb
    by_cases hi288 : i < 288
    · have hiI : (i : Int) < 288 := by omega
      have hcase : (i < 144 ∧ fixAt i = 8) ∨ (144 ≤ i ∧ i < 256 ∧ fixAt i = 9) ∨ (256 ≤ i ∧ i < 280 ∧ fixAt i = 7) ∨ (280 ≤ i ∧ fixAt i = 8) := by
        unfold fixAt
        rcases (by omega : i < 144 ∨ (144 ≤ i ∧ i < 256) ∨ (256 ≤ i ∧ i < 280) ∨ 280 ≤ i) with h | h | h | h
        · exact .inl ⟨h, by rw [if_neg (by omega), if_neg (by omega)]⟩
        · exact .inr (.inl ⟨h.1, h.2, by rw [if_pos h]⟩)
        · exact .inr (.inr (.inl ⟨h.1, h.2, by rw [if_neg (by omega), if_pos h]⟩))
        · exact .inr (.inr (.inr ⟨h, by rw [if_neg (by omega), if_neg (by omega)]⟩))
      have HX : Hid (ints ((List.range (i + 1)).map fixAt) = ints ((List.range i).map fixAt) ++ ints [fixAt i]) := hid (by rw [fix_snoc, ints_append])
      rcases hcase with ⟨h1, hf⟩ | ⟨h1, h2, hf⟩ | ⟨h1, h2, hf⟩ | ⟨h1, hf⟩
      · have b1 : ¬ 144 ≤ (i : Int) := by omega
        have b2 : ¬ 256 ≤ (i : Int) := by omega
        have b3 : ¬ 144 ≤ i := by omega
        have b4 : ¬ 256 ≤ i := by omega
        rw [hf] at HX
        clear hf
        go_wp2_with (refine wpList_app_held rfl (.tmp 31) (.tmp 33) 28 rfl 3 i0 (.int .i64 0) 1 8 Tryd.underlying28 hi0 hz0 hz1 hz2 rfl (by decide) _ i _ rfl (HH.out.swap.alloc _) _ 1 (ints [8]) rfl (Rd.lit _ [_] _ 1 1 (by decide) rfl) (ints_one _) (i + 1) rfl (by unfold maxLen; omega) (by omega) ?_; intro lo' lcap' w4 h4; rw [← HX.out] at h4; have hb := h4.swap.obj; have e8 := hb.cell (i := 8) rfl; have g8 := hb.frozen 8; have H4 := hid (h4.swap.setObj 8 (.slice lo' (i + 1) lcap')); clear h4 hb)
        go_roundg (gx - 1)
        case measure => omega
        case rel => exact ⟨i + 1, _, _, by omega, by omega, by go_num, H4⟩
      · have b1 : decide (144 ≤ (i : Int)) = true := decide_eq_true (by omega)
        have b2 : decide ((i : Int) < 256) = true := decide_eq_true (by omega)
        have b3 : decide (256 ≤ (i : Int)) = false := decide_eq_false (by omega)
        have b4 : decide (144 ≤ i) = true := decide_eq_true (by omega)
        have b5 : decide (i < 256) = true := decide_eq_true (by omega)
        have b6 : decide (256 ≤ i) = false := decide_eq_false (by omega)
        rw [hf] at HX
        clear hf
        go_wp2_with (refine wpList_app_held rfl (.tmp 31) (.tmp 33) 28 rfl 3 i0 (.int .i64 0) 1 8 Tryd.underlying28 hi0 hz0 hz1 hz2 rfl (by decide) _ i _ rfl (HH.out.swap.alloc _) _ 1 (ints [9]) rfl (Rd.lit _ [_] _ 1 1 (by decide) rfl) (ints_one _) (i + 1) rfl (by unfold maxLen; omega) (by omega) ?_; intro lo' lcap' w4 h4; rw [← HX.out] at h4; have hb := h4.swap.obj; have e8 := hb.cell (i := 8) rfl; have g8 := hb.frozen 8; have H4 := hid (h4.swap.setObj 8 (.slice lo' (i + 1) lcap')); clear h4 hb)
        go_roundg (gx - 1)
        case measure => omega
        case rel => exact ⟨i + 1, _, _, by omega, by omega, by go_num, H4⟩
      · have b1 : decide (144 ≤ (i : Int)) = true := decide_eq_true (by omega)
        have b2 : decide ((i : Int) < 256) = false := decide_eq_false (by omega)
        have b3 : decide (256 ≤ (i : Int)) = true := decide_eq_true (by omega)
        have b4 : decide (144 ≤ i) = true := decide_eq_true (by omega)
        have b5 : decide (i < 256) = false := decide_eq_false (by omega)
        have b6 : decide (256 ≤ i) = true := decide_eq_true (by omega)
        have b7 : decide ((i : Int) < 280) = true := decide_eq_true (by omega)
        have b8 : decide (i < 280) = true := decide_eq_true (by omega)
        rw [hf] at HX
        clear hf
        go_wp2_with (refine wpList_app_held rfl (.tmp 31) (.tmp 33) 28 rfl 3 i0 (.int .i64 0) 1 8 Tryd.underlying28 hi0 hz0 hz1 hz2 rfl (by decide) _ i _ rfl (HH.out.swap.alloc _) _ 1 (ints [7]) rfl (Rd.lit _ [_] _ 1 1 (by decide) rfl) (ints_one _) (i + 1) rfl (by unfold maxLen; omega) (by omega) ?_; intro lo' lcap' w4 h4; rw [← HX.out] at h4; have hb := h4.swap.obj; have e8 := hb.cell (i := 8) rfl; have g8 := hb.frozen 8; have H4 := hid (h4.swap.setObj 8 (.slice lo' (i + 1) lcap')); clear h4 hb)
        go_roundg (gx - 1)
        case measure => omega
        case rel => exact ⟨i + 1, _, _, by omega, by omega, by go_num, H4⟩
      · have b1 : decide (144 ≤ (i : Int)) = true := decide_eq_true (by omega)
        have b2 : decide ((i : Int) < 256) = false := decide_eq_false (by omega)
        have b3 : decide (256 ≤ (i : Int)) = true := decide_eq_true (by omega)
        have b4 : decide (144 ≤ i) = true := decide_eq_true (by omega)
        have b5 : decide (i < 256) = false := decide_eq_false (by omega)
        have b6 : decide (256 ≤ i) = true := decide_eq_true (by omega)
        have b7 : decide ((i : Int) < 280) = false := decide_eq_false (by omega)
        have b8 : decide (i < 280) = false := decide_eq_false (by omega)
        rw [hf] at HX
        clear hf
        go_wp2_with (refine wpList_app_held rfl (.tmp 31) (.tmp 33) 28 rfl 3 i0 (.int .i64 0) 1 8 Tryd.underlying28 hi0 hz0 hz1 hz2 rfl (by decide) _ i _ rfl (HH.out.swap.alloc _) _ 1 (ints [8]) rfl (Rd.lit _ [_] _ 1 1 (by decide) rfl) (ints_one _) (i + 1) rfl (by unfold maxLen; omega) (by omega) ?_; intro lo' lcap' w4 h4; rw [← HX.out] at h4; have hb := h4.swap.obj; have e8 := hb.cell (i := 8) rfl; have g8 := hb.frozen 8; have H4 := hid (h4.swap.setObj 8 (.slice lo' (i + 1) lcap')); clear h4 hb)
        go_roundg (gx - 1)
        case measure => omega
        case rel => exact ⟨i + 1, _, _, by omega, by omega, by go_num, H4⟩
    · have hiI : ¬ (i : Int) < 288 := by omega
      obtain rfl : i = 288 := by omega
      have H2 := hid ((HH.out.nil 3 1).swap)
      clear HH
      go_wp2
      go_loopg [4] (34) (fun g t4 wq => ∃ (j : Nat) (dd : Option Addr) (dcap : Nat), j ≤ 32 ∧ 32 - j < g ∧ t4 = .int .i64 (j : Int) ∧ Hid (Held w0 wq (objT B [o, .int .i64 (e : Int), r, k, s, b, .int .i64 (a : Int), .int .i64 M, .slice lo 288 lcap, .slice dd j dcap, lc, dc, tk] 32 :: ownT 3 1 (.slice dd j dcap) j (ints (List.replicate j 5)) :: ownT 3 1 (.slice lo 288 lcap) 288 (ints fixLit) :: Rs)))
      case atStart => exact ⟨0, none, 0, by omega, by omega, rfl, H2⟩
      case round =>
        obtain ⟨j, dd, dcap, hj, hg2, rfl, HQ⟩ := hrel
        have hj0 : (0 : Int) ≤ (j : Int) := Int.natCast_nonneg _
        have hb := HQ.out.obj
        have d9 := hb.cell (i := 9) rfl
        clear hb
        by_cases hj32 : j < 32
        · have hjI : (j : Int) < 32 := by omega
          have HX : Hid (ints (List.replicate (j + 1) 5) = ints (List.replicate j 5) ++ ints [5]) := hid (by rw [List.replicate_succ', ints_append])
          go_wp2_with (refine wpList_app_held rfl (.tmp 45) (.tmp 46) 28 rfl 3 i0 (.int .i64 0) 1 8 Tryd.underlying28 hi0 hz0 hz1 hz2 rfl (by decide) _ j _ rfl (HQ.out.swap.alloc _) _ 1 (ints [5]) rfl (Rd.lit _ [_] _ 1 1 (by decide) rfl) (ints_one _) (j + 1) rfl (by unfold maxLen; omega) (by omega) ?_; intro dd' dcap' w4 h4; rw [← HX.out] at h4; have hb := h4.swap.obj; have e9 := hb.cell (i := 9) rfl; have g9 := hb.frozen 9; have H4 := hid (h4.swap.setObj 9 (.slice dd' (j + 1) dcap')); clear h4 hb)
          go_roundg (gk - 1)
          case measure => omega
          case rel => exact ⟨j + 1, _, _, by omega, by omega, by go_num, H4⟩
        · have hjI : ¬ (j : Int) < 32 := by omega
          obtain rfl : j = 32 := by omega
          go_wp2
          go_end0
          exact ⟨rfl, _, _, HQ.out.swap.third.toRd2.swap⟩
end
end Go.Proofs.YtmmfkppkmgjljaaDoor
/-
  The reference's stream: stored.
-/
namespace Go.Proofs.YtmmfkppkmgjljaaDoor
set_option maxRecDepth 5000
open Go.RowKit
section
variable {w0 w : World} {Rs : List Thing}
theorem num16_lt {all : List Nat} (hb : isBits all) (a n : Nat) : numOf ((all.drop a).take n) < 2 ^ n := by
  refine Nat.lt_of_lt_of_le (numOf_lt _ (isBits_take (isBits_drop hb a) n)) (Nat.pow_le_pow_right (by decide) (List.length_take_le _ _))
theorem take_at {all : List Nat} {a n : Nat} (h : a + n ≤ all.length) : takeM all a n = some (numOf ((all.drop a).take n)) := if_pos h
def StoEnd (w0 w' : World) (Rs : List Thing) (S : Nat × Nat × List Nat) (B : Nat) (r kk s : Value) (bo : Option Addr) (bc m M : Nat) (li di lc dc tk : Value) (all : List Nat) : Prop :=
  ∃ (oo' : Option Addr) (oc' k' a' : Nat), k' = S.2.2.length ∧ (S.1 = 0 → a' = S.2.1) ∧
    Held w0 w' (strT B (.slice oo' k' oc') S.1 r kk s (.slice bo m bc) a' (M : Int) li di lc dc tk :: rdT 1 (.slice bo m bc) m (u8s all) :: ownT 5 1 (.slice oo' k' oc') k' (u8s S.2.2) :: Rs)
set_option maxHeartbeats 3200000 in
theorem stored_any (B : Nat) (oo : Option Addr) (oc k : Nat) (r kk s : Value) (bo : Option Addr) (bc m a M : Nat) (li di lc dc tk : Value) (all out : List Nat)
    (h : Held w0 w (strT B (.slice oo k oc) 0 r kk s (.slice bo m bc) a (M : Int) li di lc dc tk :: rdT 1 (.slice bo m bc) m (u8s all) :: ownT 5 1 (.slice oo k oc) k (u8s out) :: Rs)) (hb : isBits all) (ha : a ≤ m) (hm2 : m < 1000000000) (hk : k + 70000 ≤ 1000000000) :
    Calls Tryd.prog 21 #[ptrV B] w fun e' w' => e' = .returned (.bool (decide ((storedF all M a out).1 = 0))) ∧ StoEnd w0 w' Rs (storedF all M a out) B r kk s bo bc m M li di lc dc tk all := by
  have hm : m = all.length := by have := h.drop.rdv.1; rw [u8s_length] at this; omega
  have hkl : k = out.length := by have := h.drop.drop.own.rd.1; rw [u8s_length] at this; omega
  have HML := hid (And.intro hm hkl)
  obtain ⟨A, hA⟩ : ∃ A, A = evenF a := ⟨_, rfl⟩
  have hA1 : a ≤ A ∧ A ≤ a + 7 ∧ A % 8 = 0 := by rw [hA]; unfold evenF; omega
  have HA := hid hA
  have H := hid h
  have HBT := hid hb
  have HR : Hid (storedF all M a out = storedF all M a out) := rfl
  generalize hS : storedF all M a out = S at *
  have HS := hid hS
  unfold ptrV
  clear h hb hm hkl hA hS HR
  go_enter Tryd.func21, Tryd.ntmps21
  go_wp2
  go_loopg [] (10) (fun g wr => ∃ x : Nat, a ≤ x ∧ x ≤ A ∧ A - x < g ∧ Hid (Held w0 wr (strT B (.slice oo k oc) 0 r kk s (.slice bo m bc) x (M : Int) li di lc dc tk :: rdT 1 (.slice bo m bc) m (u8s all) :: ownT 5 1 (.slice oo k oc) k (u8s out) :: Rs)))
  case atStart => exact ⟨a, by omega, by omega, by omega, H⟩
  case round =>
    obtain ⟨x, hx1, hx2, hg, HH⟩ := hrel
    have hx0 : (0 : Int) ≤ (x : Int) := Int.natCast_nonneg _
    obtain ⟨y, hy⟩ : ∃ y, y = x % 8 := ⟨_, rfl⟩
    have hyI : (x : Int) % 8 = (y : Int) := by omega
    have hyT : (x : Int).tmod 8 = (y : Int) := by rw [hy]; rfl
    have hb := HH.out.obj
    have c6 := hb.cell (i := 6) rfl
    have f6 := hb.frozen 6
    by_cases hx8 : y = 0
    · have hxA : x = A := by omega
      subst hxA
      have hyn : ¬ (0 : Int) < (y : Int) := by omega
      have c1 := hb.cell (i := 1) rfl
      have c5 := hb.cell (i := 5) rfl
      have f1 := hb.frozen 1
      obtain ⟨z, hz⟩ : ∃ z, z = x + 32 := ⟨_, rfl⟩
      have hzI : (x : Int) + 32 = (z : Int) := by omega
      have hz0 : (0 : Int) ≤ (z : Int) := Int.natCast_nonneg _
      have hzw : IntKind.i64.wrap ((x : Int) + 32) = (z : Int) := by rw [hzI]; exact IntWalk.i64_in _ (by omega)
      have HZ := hid hz
      clear hb hz hy
      by_cases hlong : m < z
      · have b1 : decide (m < z) = true := decide_eq_true hlong
        have b2 : decide ((m : Int) < (z : Int)) = true := decide_eq_true (by omega)
        have hSe : Hid (S = (5, x, out)) := hid (by rw [← HS.out]; unfold storedF; rw [← HA.out, if_pos (by rw [← HML.out.1, ← HZ.out]; exact hlong)])
        clear hlong hzw
        go_wp2
        go_quiet (fail)
        go_wp2
        go_ret
        refine ⟨by rw [hSe.out]; rfl, ⟨oo, oc, k, x, ?_, ?_, ?_⟩⟩
        · rw [hSe.out]; exact HML.out.2
        · rw [hSe.out]; intro h; cases h
        · rw [hSe.out]; exact (HH.out.drewN _).setObj 1 _
      · have b1 : decide (m < z) = false := decide_eq_false hlong
        have b2 : decide ((m : Int) < (z : Int)) = false := decide_eq_false (by omega)
        obtain ⟨n1, hn1⟩ : ∃ n1, n1 = numOf ((all.drop x).take 16) := ⟨_, rfl⟩
        obtain ⟨n2, hn2⟩ : ∃ n2, n2 = numOf ((all.drop (x + 16)).take 16) := ⟨_, rfl⟩
        have hn1b : n1 < 65536 := by rw [hn1]; exact num16_lt HBT.out x 16
        have hn2b : n2 < 65536 := by rw [hn2]; exact num16_lt HBT.out _ 16
        have ht1 : takeM all x 16 = some n1 := by rw [hn1]; exact take_at (by rw [← HML.out.1]; omega)
        have ht2 : takeM all (x + 16) 16 = some n2 := by rw [hn2]; exact take_at (by rw [← HML.out.1]; omega)
        have HT1 := hid (fun w1 (hh : Held w0 w1 (strT B (.slice oo k oc) 0 r kk s (.slice bo m bc) x (M : Int) li di lc dc tk :: rdT 1 (.slice bo m bc) m (u8s all) :: ownT 5 1 (.slice oo k oc) k (u8s out) :: Rs)) => take_yes B _ 0 r kk s bo bc m x 16 n1 M li di lc dc tk all hh ht1 HBT.out (by omega) (by decide))
        have HT2 := hid (fun w1 (hh : Held w0 w1 (strT B (.slice oo k oc) 0 r kk s (.slice bo m bc) (x + 16) (M : Int) li di lc dc tk :: rdT 1 (.slice bo m bc) m (u8s all) :: ownT 5 1 (.slice oo k oc) k (u8s out) :: Rs)) => take_yes B _ 0 r kk s bo bc m (x + 16) 16 n2 M li di lc dc tk all hh ht2 HBT.out (by omega) (by decide))
        have hSS : S = if n1 + n2 ≠ 65535 then (2, z, out) else copyF all M n1 z out := by
          rw [← HS.out]; unfold storedF
          rw [← HA.out, if_neg (by rw [← HML.out.1, ← HZ.out]; exact hlong), ← hn1, ← hn2, ← HZ.out]
        have HSS := hid hSS
        have hz16 : x + 16 + 16 = z := by have := HZ.out; omega
        have hzm : z ≤ m := by omega
        have h16 : ((16 : Nat) : Int) = 16 := rfl
        rw [h16] at HT1 HT2
        unfold ptrV at HT1 HT2
        rw [hz16] at HT2
        clear hn1 hn2 ht1 ht2 hSS hlong hz16 hzw
        go_wp2
        go_quiet (fail)
        have H1 := hid (HT1.out _ (HH.out.drewN nq))
        clear c1 c5 c6 f1 f6 HT1
        go_wp2_with fail
        refine H1.out.mono ?_
        rintro e' w2 ⟨rfl, hh⟩
        have H2 := hid (HT2.out _ hh)
        clear hh H1 HT2
        go_wp2_with fail
        refine H2.out.mono ?_
        rintro e' w3 ⟨rfl, hh⟩
        have H3 := hid hh
        clear hh H2
        obtain ⟨sm, hsm⟩ : ∃ sm, sm = n1 + n2 := ⟨_, rfl⟩
        have hsmI : (n1 : Int) + (n2 : Int) = (sm : Int) := by omega
        have hn10 : (0 : Int) ≤ (n1 : Int) := Int.natCast_nonneg _
        have hn20 : (0 : Int) ≤ (n2 : Int) := Int.natCast_nonneg _
        by_cases hne : sm = 65535
        · have b3 : ((sm : Int) != 65535) = false := by simp; omega
          have HC : Hid (S = copyF all M n1 z out) := hid (by rw [HSS.out, if_neg (by omega)])
          clear hsm hne HSS
          go_wp2
          go_loopg [7] (n1 + 2) (fun g t7 wq => ∃ (j p k1 : Nat) (O : List Nat) (o1 : Option Addr) (c1 : Nat), j ≤ n1 ∧ n1 - j < g ∧ t7 = .int .i64 (j : Int) ∧ p ≤ m ∧ k1 ≤ k + j ∧ Hid (k1 = O.length ∧ S = copyF all M (n1 - j) p O) ∧
            Hid (Held w0 wq (strT B (.slice o1 k1 c1) 0 r kk s (.slice bo m bc) p (M : Int) li di lc dc tk :: rdT 1 (.slice bo m bc) m (u8s all) :: ownT 5 1 (.slice o1 k1 c1) k1 (u8s O) :: Rs)))
          case atStart => exact ⟨0, z, k, out, oo, oc, by omega, by omega, rfl, hzm, by omega, hid ⟨HML.out.2, HC.out⟩, H3⟩
          case round =>
            obtain ⟨j, p, k1, O, o1, c1, hj, hg2, rfl, hp, hk1, HO, HQ⟩ := hrel
            have hj0 : (0 : Int) ≤ (j : Int) := Int.natCast_nonneg _
            by_cases hjn : j < n1
            · have hjI : (j : Int) < (n1 : Int) := by omega
              have hS2 : S = copyF all M (n1 - (j + 1) + 1) p O := by rw [show n1 - (j + 1) + 1 = n1 - j by omega]; exact HO.out.2
              have h8 : ((8 : Nat) : Int) = 8 := rfl
              cases ht : takeM all p 8 with
              | none =>
                have hT := take_no B _ 0 r kk s bo bc m p 8 M li di lc dc tk all HQ.out ht (by omega) (by decide)
                rw [h8] at hT
                unfold ptrV at hT
                have HT := hid hT
                have HSe : Hid (S = (5, p, O)) := hid (by rw [hS2, copyF, ht])
                clear hS2 ht hT
                go_wp2_with fail
                refine HT.out.mono ?_
                rintro e' w4 ⟨rfl, hh⟩
                have H4 := hid hh
                clear hh HT HQ
                go_wp2
                go_ret
                refine ⟨by rw [HSe.out]; rfl, ⟨o1, c1, k1, p, ?_, ?_, ?_⟩⟩
                · rw [HSe.out]; exact HO.out.1
                · rw [HSe.out]; intro h; cases h
                · rw [HSe.out]; exact H4.out
              | some c =>
                obtain ⟨hpl, hc⟩ := take_some ht
                have hc256 : c < 256 := by rw [hc]; exact num16_lt HBT.out p 8
                have hT := take_yes B _ 0 r kk s bo bc m p 8 c M li di lc dc tk all HQ.out ht HBT.out (by omega) (by decide)
                rw [h8] at hT
                unfold ptrV at hT
                have HT := hid hT
                have hpm : p + 8 ≤ m := by rw [HML.out.1]; exact hpl
                have hc0 : (0 : Int) ≤ (c : Int) := Int.natCast_nonneg _
                have hcw : (c : Int) % 256 = (c : Int) := by omega
                by_cases hM : M ≤ k1
                · have HSe : Hid (S = (6, p + 8, O)) := hid (by rw [hS2, copyF, ht]; simp only; rw [if_pos (by rw [← HO.out.1]; exact hM)])
                  clear hS2 ht hT hc hpl
                  go_wp2_with fail
                  refine HT.out.mono ?_
                  rintro e' w4 ⟨rfl, hh⟩
                  have hE := emit_no B o1 c1 k1 0 r kk s (.slice bo m bc) (p + 8) M (c : Int) li di lc dc tk O hh.third.swap (by omega)
                  unfold ptrV at hE
                  have HE := hid hE
                  clear hh hE HT HQ
                  go_wp2_with fail
                  refine HE.out.mono ?_
                  rintro e' w5 ⟨rfl, hh⟩
                  have H5 := hid hh
                  clear hh HE
                  go_wp2
                  go_ret
                  refine ⟨by rw [HSe.out]; rfl, ⟨o1, c1, k1, p + 8, ?_, ?_, ?_⟩⟩
                  · rw [HSe.out]; exact HO.out.1
                  · rw [HSe.out]; intro h; cases h
                  · rw [HSe.out]; exact H5.out.third.swap
                · have HSe : Hid (S = copyF all M (n1 - (j + 1)) (p + 8) (O ++ [c])) := hid (by rw [hS2, copyF, ht]; simp only; rw [if_neg (by rw [← HO.out.1]; exact hM)])
                  clear hS2 ht hT hc hpl
                  go_wp2_with fail
                  refine HT.out.mono ?_
                  rintro e' w4 ⟨rfl, hh⟩
                  have hE := emit_yes B o1 c1 k1 0 r kk s (.slice bo m bc) (p + 8) M c li di lc dc tk O hh.third.swap (by omega) (by omega)
                  unfold ptrV at hE
                  have HE := hid hE
                  clear hh hE HT HQ
                  go_wp2_with fail
                  refine HE.out.mono ?_
                  rintro e' w5 ⟨rfl, o2, c2, hh⟩
                  have H5 := hid hh
                  clear hh HE
                  go_wp2
                  go_roundg (gk - 1)
                  case measure => omega
                  case rel => exact ⟨j + 1, p + 8, k1 + 1, O ++ [c], o2, c2, by omega, by omega, by go_num, hpm, by omega, hid ⟨by rw [List.length_append, ← HO.out.1]; rfl, HSe.out⟩, hid H5.out.third.swap⟩
            · have hjI : ¬ (j : Int) < (n1 : Int) := by omega
              have HSe : Hid (S = (0, p, O)) := hid (by rw [HO.out.2, show n1 - j = 0 by omega]; rfl)
              go_wp2
              go_ret
              refine ⟨by rw [HSe.out]; rfl, ⟨o1, c1, k1, p, ?_, ?_, ?_⟩⟩
              · rw [HSe.out]; exact HO.out.1
              · rw [HSe.out]; intro _; rfl
              · rw [HSe.out]; exact HQ.out
        · have b3 : ((sm : Int) != 65535) = true := by simp; omega
          have HSe : Hid (S = (2, z, out)) := hid (by rw [HSS.out, if_pos (by omega)])
          have hb := H3.out.obj
          have d1 := hb.cell (i := 1) rfl
          have g1 := hb.frozen 1
          clear hb hsm hne HSS
          go_wp2
          go_ret
          refine ⟨by rw [HSe.out]; rfl, ⟨oo, oc, k, z, ?_, ?_, ?_⟩⟩
          · rw [HSe.out]; exact HML.out.2
          · rw [HSe.out]; intro h; cases h
          · rw [HSe.out]; exact H3.out.setObj 1 _
    · have hyn : (0 : Int) < (y : Int) := by omega
      have hxA : x < A := by omega
      have H2 := hid (HH.out.setObj 6 (.int .i64 ((x + 1 : Nat) : Int)))
      clear hb hy
      go_wp2
      go_roundg (gk - 1)
      case measure => omega
      case rel => exact ⟨x + 1, by omega, by omega, by omega, H2⟩
end
end Go.Proofs.YtmmfkppkmgjljaaDoor
