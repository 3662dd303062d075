/-
  The landed zlib decoder: readHeader, readSum.
-/
import Derived.Test.YtbkbkmgogbgofaaDoorZh21
namespace Go.Proofs.YtbkbkmgogbgofaaDoor
set_option maxRecDepth 5000
open Go.RowKit
section
variable {w0 w : World} {Rs : List Thing} {D : Nat} {l : List Nat} {iv : Value} {cl : Bool} {most er sm : Nat}
def ZhOut (w0 w' : World) (Rs : List Thing) (D : Nat) (l : List Nat) (iv : Value) (cl : Bool) (most er sm : Nat) (e : Ending) : Prop :=
  e = .returned (.int .i64 (zhd l : Nat)) ∧
    ((zhd l = 5 ∧ Held w0 w' (zdT D iv cl most 0 er none sm :: ownT 5 1 iv l.length (u8s l) :: Rs)) ∨
     (zhd l = 2 ∧ Held w0 w' (zdT D (.slice none 0 0) cl most 4 2 none sm :: Rs)) ∨
     (zhd l = 0 ∧ ∃ B, Held w0 w' (zdT D (.slice none 0 0) cl most 1 er (some ⟨B, 0, none⟩) 1 :: decT (strZ B) most (.run .hd (bits8 (l.drop 2)) []) :: Rs)))
set_option maxRecDepth 100000 in
set_option maxHeartbeats 6400000 in
theorem zhead_any (h : Held w0 w (zdT D iv cl most 0 er none sm :: ownT 5 1 iv l.length (u8s l) :: Rs)) (hb : ∀ b ∈ l, b < 256) (hl : l.length < 1000000) (hm : most < bigD) :
    Calls Tryd.prog 14 #[.pointer (some ⟨D, 0, none⟩)] w fun e w' => ZhOut w0 w' Rs D l iv cl most er sm e := by
  have hF := zfail_any 2 2 rfl h
  obtain ⟨ao, cap, rfl, hcap, _⟩ := h.drop.own.form
  have c0 := zd_cell h 0 _ rfl
  cases l with
  | nil =>
    have H := hid h
    clear h hF hb
    go_enter Tryd.func14, Tryd.ntmps14
    go_wp2
    go_ret
    exact ⟨rfl, .inl ⟨by trivial, H.out⟩⟩
  | cons a r =>
    obtain ⟨g, off, rfl, hcell⟩ := h.drop.own.siteZ (Nat.succ_pos _)
    have e0 : w.cell? ⟨g, off, none⟩ = some (.int .u8 (a : Int)) := hcell 0 _ rfl
    have ha : a < 256 := hb a (List.mem_cons_self ..)
    have HF := hid hF
    have H1 := fun w => hid (zfst_any (w := w) a ha)
    obtain ⟨n, hn⟩ : ∃ n, n = (a :: r).length := ⟨_, rfl⟩
    have hnr : n = r.length + 1 := hn
    have hn0 : (0 : Int) < (n : Int) := by omega
    rw [← hn] at h c0 hl hcap
    have hfb : fstB a = true ∨ fstB a = false := by cases fstB a <;> simp
    rcases hfb with hfb | hfb
    · rw [hfb] at H1
      cases r with
      | nil =>
        have hn1 : (n : Int) < 2 := by have : n = 1 := hnr; omega
        have HZ : Hid (zhd [a] = 5) := hid (by show (if fstB a = true then 5 else 2) = 5; rw [hfb]; rfl)
        have H := hid h
        have HN := hid hn
        unfold ZhOut
        rw [HZ.out, ← hn]
        clear h hF hb hfb hn hnr hcell hcap hl ha
        go_enter Tryd.func14, Tryd.ntmps14
        go_wp2_with fail
        with_reducible refine (H1 _).out.mono ?_
        rintro e w2 ⟨rfl, rfl⟩
        go_wp2
        go_ret
        exact ⟨rfl, .inl ⟨by trivial, H.out⟩⟩
      | cons b r =>
        have e1 : w.cell? ⟨g, off + 1, none⟩ = some (.int .u8 (b : Int)) := hcell 1 _ rfl
        have hb2 : b < 256 := hb b (List.mem_cons_of_mem _ (List.mem_cons_self ..))
        have hn1 : ¬ (n : Int) < 2 := by have : n = r.length + 1 + 1 := hnr; omega
        have hn2 : (1 : Int) < (n : Int) := by have : n = r.length + 1 + 1 := hnr; omega
        have H2 := fun w => hid (zsnd_any (w := w) a b ha hb2)
        have hsb : sndB a b = true ∨ sndB a b = false := by cases sndB a b <;> simp
        rcases hsb with hsb | hsb
        · rw [hsb] at H2
          have HZ : Hid (zhd (a :: b :: r) = 0) := hid (by show (if (fstB a && sndB a b) = true then 0 else 2) = _; rw [hfb, hsb]; rfl)
          have c2 := zd_cell h 2 _ rfl
          have HN := hid (fun k => inew_any (most : Int) hm (by omega) (h.drewN k))
          have hHX : (∀ x ∈ r, x < 256) ∧ n = (a :: b :: r).length ∧ r.length < 100000000 := ⟨fun x hx => hb x (List.mem_cons_of_mem _ (List.mem_cons_of_mem _ hx)), hn, by have : n = r.length + 1 + 1 := hnr; omega⟩
          have HX := hid hHX
          obtain ⟨m, hm2⟩ : ∃ m, m + 2 = n := ⟨n - 2, by omega⟩
          have hmr : m = r.length := by have : n = r.length + 1 + 1 := hnr; omega
          have HMR := hid hmr
          unfold ZhOut
          rw [HZ.out, ← hn]
          clear h hF hb hfb hsb hn hHX hnr hcell hl ha hb2 hmr
          go_enter Tryd.func14, Tryd.ntmps14
          go_wp2_with fail
          with_reducible refine (H1 _).out.mono ?_
          rintro e w2 ⟨rfl, rfl⟩
          go_wp2
          go_quiet ((go_at_call 20; exact (H2 _).out.mono fun _ _ h => ⟨h.1, _, h.2⟩))
          have HND := hid (HN.out nq)
          clear HN
          go_wp2_with fail
          with_reducible refine HND.out.mono ?_
          rintro e w3 ⟨B, rfl, h3⟩
          have h4 := h3.swap
          have d5 := zd_cell h4 5 _ rfl
          have f5 := zd_froz h4 5
          have h5 : Held w0 (w3.setCell ⟨D, 5, none⟩ (.pointer (some ⟨B, 0, none⟩))) (zdT D (.slice (some ⟨g, off, none⟩) n cap) cl most 0 er (some ⟨B, 0, none⟩) sm :: _) := zd_set h4 5 (.pointer (some ⟨B, 0, none⟩)) (zcells (.slice (some ⟨g, off, none⟩) n cap) cl most 0 er (some ⟨B, 0, none⟩) sm) rfl
          have k0 := zd_cell h5 0 _ rfl
          have k5 := zd_cell h5 5 _ rfl
          obtain ⟨a1, q1, hq1, hcut, hrd⟩ := zcut_from (w0 := w0) (Rs := zdT D (.slice (some ⟨g, off, none⟩) n cap) cl most 0 er (some ⟨B, 0, none⟩) sm :: ownT 5 1 (.slice (some ⟨g, off, none⟩) n cap) n (u8s (a :: b :: r)) :: Rs) (some ⟨g, off, none⟩) n cap 2 m 2 rfl (a :: b :: r) HX.out.2.1 hcap hm2 (fun wg hh => hh.drop.own.rd)
          have HF : Hid (Calls Tryd.prog 9 #[.pointer (some ⟨B, 0, none⟩), .slice a1 m q1] _ _) := hid (dfeed_any (p := strZ B) (.slice a1 m q1) m r .hd [] [] h5.swap.drew hrd HX.out.1 HMR.out (by rw [List.nil_append, bits8_length]; have := HX.out.2.2; unfold bigD; omega))
          clear h3 h4 h5 HND hrd hcap hq1
          go_wp2
          go_region_held3 (fun w' => w'.cell? ⟨D, 0, none⟩ = some (.slice (some ⟨g, off, none⟩) n cap) ∧ w'.cell? ⟨D, 5, none⟩ = some (.pointer (some ⟨B, 0, none⟩))) (first | exact ⟨k0, k5⟩ | exact ⟨j0, j5⟩ | go_keep)
            ((go_at_call 9; refine HF.out.mono ?_; rintro e w4 ⟨rfl, h6⟩; have j0 := zd_cell h6.swap 0 _ rfl; have j5 := zd_cell h6.swap 5 _ rfl; have H6 := hid h6.swap; clear h6))
          all_goals
            have q0 := zd_cell H6.out 0 _ rfl
            have g0 := zd_froz H6.out 0
            have h7 := zd_set H6.out 0 (.slice none 0 0) (zcells (.slice none 0 0) cl most 0 er (some ⟨B, 0, none⟩) sm) rfl
            have q6 := zd_cell h7 6 _ rfl
            have g6 := zd_froz h7 6
            have h8 := zd_set h7 6 (.int .u32 1) (zcells (.slice none 0 0) cl most 0 er (some ⟨B, 0, none⟩) 1) rfl
            have q3 := zd_cell h8 3 _ rfl
            have g3 := zd_froz h8 3
            have H9 := hid (zd_set h8 3 (.int .i64 1) (zcells (.slice none 0 0) cl most 1 er (some ⟨B, 0, none⟩) 1) rfl)
            clear h7 h8 H6
            go_wp2
            go_ret
            exact ⟨rfl, .inr (.inr ⟨by trivial, B, H9.out.third.drop⟩)⟩
        · rw [hsb] at H2
          have HZ : Hid (zhd (a :: b :: r) = 2) := hid (by show (if (fstB a && sndB a b) = true then 0 else 2) = _; rw [hfb, hsb]; rfl)
          unfold ZhOut
          rw [HZ.out, ← hn]
          have HFD := hid (fun k => zfail_any 2 2 rfl (h.drewN k))
          clear h hF hb hfb hsb hn hnr hcell hcap hl ha hb2 HF
          go_enter Tryd.func14, Tryd.ntmps14
          go_wp2_with fail
          with_reducible refine (H1 _).out.mono ?_
          rintro e w2 ⟨rfl, rfl⟩
          go_wp2
          go_quiet ((go_at_call 20; exact (H2 _).out.mono fun _ _ h => ⟨h.1, _, h.2⟩))
          have HF := hid (HFD.out nq)
          clear HFD
          go_wp2_with fail
          with_reducible refine HF.out.mono ?_
          rintro e w3 ⟨rfl, h2⟩
          have H3 := hid h2.swap.drop
          clear h2 HF
          go_wp2
          go_ret
          exact ⟨rfl, .inr (.inl ⟨by trivial, H3.out⟩)⟩
    · rw [hfb] at H1
      have HZ : Hid (zhd (a :: r) = 2) := hid (by cases r with | nil => (show (if fstB a = true then 5 else 2) = 2; rw [hfb]; rfl) | cons b r => (show (if (fstB a && sndB a b) = true then 0 else 2) = 2; rw [hfb]; rfl))
      unfold ZhOut
      rw [HZ.out, ← hn]
      clear h hb hfb hn hnr hcell hcap hl ha hF
      go_enter Tryd.func14, Tryd.ntmps14
      go_wp2_with fail
      with_reducible refine (H1 _).out.mono ?_
      rintro e w2 ⟨rfl, rfl⟩
      go_wp2_with fail
      with_reducible refine HF.out.mono ?_
      rintro e w2 ⟨rfl, h2⟩
      have H2 := hid h2.swap.drop
      clear h2 HF
      go_wp2
      go_ret
      exact ⟨rfl, .inr (.inl ⟨by trivial, H2.out⟩)⟩
end
end Go.Proofs.YtbkbkmgogbgofaaDoor
/-
  The landed zlib decoder: readSum, readStream, step.
-/
namespace Go.Proofs.YtbkbkmgogbgofaaDoor
set_option maxRecDepth 5000
open Go.RowKit
section
variable {w0 w : World} {Rs : List Thing} {D B M n : Nat} {o l : List Nat} {iv : Value} {cl : Bool} {most er sm : Nat} {s : DSt}
def ZsOut (w0 w' : World) (Rs : List Thing) (D : Nat) (o l : List Nat) (iv : Value) (cl : Bool) (most er : Nat) (e : Ending) : Prop :=
  (l.length < 4 ∧ e = .returned (.int .i64 5) ∧ Held w0 w' (zdT D iv cl most 2 er none (adlOf 1 o) :: ownT 5 1 iv l.length (u8s l) :: Rs)) ∨
  (4 ≤ l.length ∧ l.take 4 ≠ adB o ∧ e = .returned (.int .i64 4) ∧ Held w0 w' (zdT D (.slice none 0 0) cl most 4 4 none (adlOf 1 o) :: Rs)) ∨
  (4 ≤ l.length ∧ l.take 4 = adB o ∧ e = .returned (.int .i64 0) ∧ ∃ iv', Held w0 w' (zdT D iv' cl most 3 er none (adlOf 1 o) :: ownT 5 1 iv' (l.drop 4).length (u8s (l.drop 4)) :: Rs))
set_option maxRecDepth 20000 in
set_option maxHeartbeats 3200000 in
theorem zsumR_any (h : Held w0 w (zdT D iv cl most 2 er none (adlOf 1 o) :: ownT 5 1 iv l.length (u8s l) :: Rs)) (hb : ∀ b ∈ l, b < 256) (hl : l.length < 1000000000) :
    Calls Tryd.prog 16 #[.pointer (some ⟨D, 0, none⟩)] w fun e w' => ZsOut w0 w' Rs D o l iv cl most er e := by
  obtain ⟨i0, hi0, hz0, hz1, hz2⟩ := info_parts infoByte14
  have hown := h.drop.own
  obtain ⟨ao, cap, rfl, hcap, _⟩ := hown.form
  have hadb : adB o = beB (adlOf 1 o) := rfl
  unfold ZsOut
  generalize adlOf 1 o = q at h hadb ⊢
  have c0 := zd_cell h 0 _ rfl
  have c6 := zd_cell h 6 _ rfl
  obtain ⟨n, hn⟩ : ∃ n, n = l.length := ⟨_, rfl⟩
  rw [← hn] at h hown hcap c0 hl ⊢
  by_cases h8 : n < 4
  · have hI : (n : Int) < 4 := by omega
    have H := hid h
    have H8 := hid h8
    clear h hown hn h8
    go_enter Tryd.func16, Tryd.ntmps16
    go_wp2
    go_ret
    exact .inl ⟨H8.out, rfl, H.out⟩
  · have hI : ¬ (n : Int) < 4 := by omega
    have hc0 := fun wg => run_cut (P := Tryd.prog) (w := wg) 26 5 i0 1 Tryd.underlying26 hi0 hz1 ao n cap 0 4 none (some (.int .i64 4)) rfl ⟨_, rfl⟩ (Nat.zero_le _) (by omega)
    rw [sliced_front ao 4 cap 1 hown.spotless] at hc0
    have HP := hid (zsum_any (.slice none 0 0) 0 q [] (by decide) (h.drew.nil 5 1))
    have hEQ : ∀ y w3, Held w0 w3 (ownT 5 1 y (0 + 4) (u8s ([] ++ beB q)) :: zdT D (.slice ao n cap) cl most 2 er none q :: ownT 5 1 (.slice ao n cap) n (u8s l) :: Rs) → _ := fun y w3 h3 =>
      beq_any (.slice ao 4 cap) y (l.take 4) (beB q) 4 4 (by
        have hr := (h3.third.own.rd).front (H := 4) (by omega)
        rw [Nat.mul_one] at hr
        simp only [u8s, ← List.map_take] at hr ⊢
        exact hr) h3.own.rd (fun b hb' => hb b (List.mem_of_mem_take hb')) (beB_byt q)
    have HEQ := hid hEQ
    have hO2 := hown.cut (L := 4) (by omega) (Nat.le_refl n)
    have hblk := cut_block ao 4 n cap 1 n
    have hc4 := fun wg => run_cut (P := Tryd.prog) (w := wg) 26 5 i0 1 Tryd.underlying26 hi0 hz1 ao n cap 4 n (some (.int .i64 4)) none ⟨_, rfl⟩ rfl (by omega) hcap
    have H8 := hid (And.intro (show 4 ≤ n by omega) (And.intro hn hb))
    have hbl : ∃ a1 m, sliced ao 4 n cap 1 = .slice a1 m (cap - 4) ∧ m = (l.drop 4).length := by
      unfold sliced
      exact ⟨_, _, rfl, by rw [List.length_drop, ← hn]⟩
    obtain ⟨a1, m, hsl, hm⟩ := hbl
    rw [hsl] at hc4 hblk
    have HBK := hid hblk
    have HSL := hid hsl
    have HM := hid hm
    clear hEQ hown hn h8 hb hO2 hblk hsl hm
    rw [hadb]
    by_cases heq : l.take 4 = beB q
    · rw [decide_eq_true heq] at HEQ
      have HE := hid heq
      clear heq h
      go_enter Tryd.func16, Tryd.ntmps16
      go_wp2
      go_region_held3 (fun w' => w'.cell? ⟨D, 0, none⟩ = some (.slice ao n cap) ∧ w'.cell? ⟨D, 6, none⟩ = some (.int .u32 (q : Int))) (first | exact ⟨c0, c6⟩ | exact ⟨d0, d6⟩ | go_keep)
        ((first
          | (go_at_call 26; refine HP.out.mono ?_; rintro e w3 ⟨y, rfl, h3⟩; have d0 := zd_cell h3.drop 0 _ rfl; have d6 := zd_cell h3.drop 6 _ rfl; have H3 := hid h3; clear h3)
          | (go_at_call 25; refine (HEQ.out _ _ H3.out).mono ?_; rintro e w4 ⟨rfl, rfl⟩)))
      all_goals
        have h4 := H3.out.drop
        have hown4 := h4.drop.own
        have hO4 := hown4.cut (L := 4) H8.out.1 (Nat.le_refl n)
        rw [HSL.out, u8s_cutZ, List.take_of_length_le (by have := H8.out.2.1; rw [List.length_drop]; omega)] at hO4
        have h5 := (h4.swap.recut hO4 HBK.out).swap
        have k0 := zd_cell h5 0 _ rfl
        have m0 := zd_froz h5 0
        have h6 := zd_set h5 0 (.slice a1 m (cap - 4)) (zcells (.slice a1 m (cap - 4)) cl most 2 er none q) rfl
        have k3 := zd_cell h6 3 _ rfl
        have m3 := zd_froz h6 3
        have H7 := hid (zd_set h6 3 (.int .i64 3) (zcells (.slice a1 m (cap - 4)) cl most 3 er none q) rfl)
        clear h4 hown4 hO4 h5 h6 H3
        go_wp2
        go_ret
        refine .inr (.inr ⟨H8.out.1, HE.out, rfl, .slice a1 m (cap - 4), ?_⟩)
        have h8 := H7.out
        rw [show n - 4 = (l.drop 4).length by rw [List.length_drop, ← H8.out.2.1]] at h8
        exact h8
    · rw [decide_eq_false heq] at HEQ
      have HE := hid heq
      clear heq h hc4
      go_enter Tryd.func16, Tryd.ntmps16
      go_wp2
      go_region_held3 (fun w' => w'.cell? ⟨D, 0, none⟩ = some (.slice ao n cap) ∧ w'.cell? ⟨D, 6, none⟩ = some (.int .u32 (q : Int))) (first | exact ⟨c0, c6⟩ | exact ⟨d0, d6⟩ | go_keep)
        ((first
          | (go_at_call 26; refine HP.out.mono ?_; rintro e w3 ⟨y, rfl, h3⟩; have d0 := zd_cell h3.drop 0 _ rfl; have d6 := zd_cell h3.drop 6 _ rfl; have H3 := hid h3; clear h3)
          | (go_at_call 25; refine (HEQ.out _ _ H3.out).mono ?_; rintro e w4 ⟨rfl, rfl⟩)))
      all_goals
        have HF := hid (zfail_any 4 4 rfl H3.out.drop)
        clear H3
        go_wp2_with fail
        with_reducible refine HF.out.mono ?_
        rintro e w5 ⟨rfl, h5⟩
        have H5 := hid h5.swap.drop
        clear h5 HF
        go_wp2
        go_ret
        exact .inr (.inl ⟨H8.out.1, HE.out, rfl, H5.out⟩)
/-! ### readStream -/
def ZrOut (w0 w' : World) (Rs : List Thing) (D B M n : Nat) (o : List Nat) (cl : Bool) (most er : Nat) (s : DSt) (e : Ending) : Prop :=
  ∃ (t : List Nat) (e1 : Nat) (s' : DSt), TakeZ M n s t e1 s' ∧
    ((t ≠ [] ∧ ∃ x, e = .returned (.tuple #[x, .int .i64 0]) ∧ Held w0 w' (ownT 5 1 x t.length (u8s t) :: zdT D (.slice none 0 0) cl most 1 er (some ⟨B, 0, none⟩) (adlOf 1 (o ++ t)) :: decT (strZ B) M s' :: Rs)) ∨
     (t = [] ∧ e1 = 5 ∧ e = .returned (.tuple #[.slice none 0 0, .int .i64 5]) ∧ Held w0 w' (zdT D (.slice none 0 0) cl most 1 er (some ⟨B, 0, none⟩) (adlOf 1 o) :: decT (strZ B) M s' :: Rs)) ∨
     (t = [] ∧ (e1 ≠ 5 ∧ e1 ≠ 8 ∧ e1 ≠ 0) ∧ e = .returned (.tuple #[.slice none 0 0, .int .i64 (e1 : Int)]) ∧ Held w0 w' (zdT D (.slice none 0 0) cl most 4 e1 none (adlOf 1 o) :: Rs)) ∨
     (t = [] ∧ e1 = 8 ∧ ∃ l2 iv', s' = .fin 8 l2 ∧ (isBits l2 ∧ l2.length < bigD) ∧ e = .returned (.tuple #[.slice none 0 0, .int .i64 0]) ∧ Held w0 w' (zdT D iv' cl most 2 er none (adlOf 1 o) :: ownT 5 1 iv' (restOf l2).length (u8s (restOf l2)) :: Rs)))
set_option maxRecDepth 20000 in
set_option maxHeartbeats 6400000 in
theorem zstream_any (hn : 0 < n) (hn2 : n ≤ 9223372036854775807) (hGl : GlobI w0) (h : Held w0 w (zdT D (.slice none 0 0) cl most 1 er (some ⟨B, 0, none⟩) (adlOf 1 o) :: decT (strZ B) M s :: Rs))
    (hml : ∀ t er s', TakeZ M n s t er s' → (∀ b ∈ t, b < 256) ∧ t.length < 1000000000) :
    Calls Tryd.prog 15 #[.pointer (some ⟨D, 0, none⟩), .int .i64 (n : Int)] w fun e w' => ZrOut w0 w' Rs D B M n o cl most er s e := by
  have c5 := zd_cell h 5 _ rfl
  have HT : Hid (Calls Tryd.prog 22 #[.pointer (some ⟨B, 0, none⟩), .int .i64 (n : Int)] w _) := hid (takeZ_any (p := strZ B) hn hn2 hGl h.swap)
  have HF := hid (And.intro hn hml)
  have HQ := hid (fun t => (adlOf_append 1 o t).symm)
  have HQL := hid (adl_lt1 o)
  clear h hml
  unfold ZrOut
  obtain ⟨q, hq⟩ : ∃ q, q = adlOf 1 o := ⟨_, rfl⟩
  rw [← hq] at HT HQ HQL ⊢
  clear hq
  go_enter Tryd.func15, Tryd.ntmps15
  go_wp2_with fail
  with_reducible refine HT.out.mono ?_
  rintro e w2 ⟨x, t, e1, s', rfl, hT, h2⟩
  clear HT
  obtain ⟨ao, cap, rfl, hcap, _⟩ := h2.own.form
  obtain ⟨htb, htl⟩ := HF.out.2 t e1 s' hT
  by_cases ht : t = []
  · subst ht
    rw [List.length_nil] at h2 hcap
    have h3 : Held w0 w2 (zdT D (.slice none 0 0) cl most 1 er (some ⟨B, 0, none⟩) q :: decT (strZ B) M s' :: Rs) := h2.drop.swap
    rcases hT.none HF.out.1 with ⟨rfl, _⟩ | ⟨l2, rfl⟩
    · have HTT := hid hT
      have H3 := hid h3
      clear hT h2 h3 HF htb htl hcap
      go_wp2
      go_ret2
      exact ⟨[], 5, _, HTT.out, .inr (.inl ⟨rfl, rfl, rfl, H3.out⟩)⟩
    · obtain ⟨hk, hbt⟩ := dec_finZ h3.drop
      by_cases h8 : e1 = 8
      · subst h8
        have HR : Hid (Calls Tryd.prog 24 #[.pointer (some ⟨B, 0, none⟩)] w2 _) := hid (rest_fin (p := strZ B) 8 l2 h3.swap)
        have HTT := hid (And.intro hT hbt)
        have d5 := zd_cell h3 5 _ rfl
        clear hT h2 h3 HF htb htl hcap hk hbt
        go_wp2_with fail
        with_reducible refine HR.out.mono ?_
        rintro e w3 ⟨x3, rfl, h4⟩
        obtain ⟨xo, xc, rfl, _, _⟩ := h4.own.form
        have h5 : Held w0 w3 (zdT D (.slice none 0 0) cl most 1 er (some ⟨B, 0, none⟩) q :: ownT 5 1 (.slice xo (restOf l2).length xc) (restOf l2).length (u8s (restOf l2)) :: Rs) := h4.third.third.drop
        have k0 := zd_cell h5 0 _ rfl
        have m0 := zd_froz h5 0
        have h6 := zd_set h5 0 (.slice xo (restOf l2).length xc) (zcells (.slice xo (restOf l2).length xc) cl most 1 er (some ⟨B, 0, none⟩) q) rfl
        have k5 := zd_cell h6 5 _ rfl
        have m5 := zd_froz h6 5
        have h7 := zd_set h6 5 (.pointer none) (zcells (.slice xo (restOf l2).length xc) cl most 1 er none q) rfl
        have k3 := zd_cell h7 3 _ rfl
        have m3 := zd_froz h7 3
        have H8 := hid (zd_set h7 3 (.int .i64 2) (zcells (.slice xo (restOf l2).length xc) cl most 2 er none q) rfl)
        clear h4 h5 h6 h7 HR
        go_wp2
        go_ret2
        exact ⟨[], 8, _, HTT.out.1, .inr (.inr (.inr ⟨rfl, rfl, l2, _, rfl, HTT.out.2, rfl, H8.out⟩))⟩
      · have h5 : e1 ≠ 5 := by omega
        have h5I : ¬ (e1 : Int) = 5 := by omega
        have h8I : ¬ (e1 : Int) = 8 := by omega
        have HFL := hid (zfail_any e1 e1 rfl h3)
        have HTT := hid (And.intro hT (And.intro h5 (And.intro h8 (show e1 ≠ 0 by omega))))
        clear hT h2 h3 HF htb htl hcap h5 h8 hk hbt
        go_wp2_with fail
        with_reducible refine HFL.out.mono ?_
        rintro e w3 ⟨rfl, h4⟩
        have H4 := hid (h4.swap.drop)
        clear h4 HFL
        go_wp2
        go_ret2
        exact ⟨[], e1, _, HTT.out.1, .inr (.inr (.inl ⟨rfl, HTT.out.2, rfl, H4.out⟩))⟩
  · have ht0 : 0 < t.length := List.length_pos_iff.2 ht
    have HA := hid (adler_any q (.slice ao t.length cap) t w2 HQL.out h2.own.rd htb htl)
    have h3 : Held w0 w2 (zdT D (.slice none 0 0) cl most 1 er (some ⟨B, 0, none⟩) q :: decT (strZ B) M s' :: ownT 5 1 (.slice ao t.length cap) t.length (u8s t) :: Rs) := h2.third.mid
    have HTT := hid (And.intro hT ht)
    have d6 := zd_cell h3 6 _ rfl
    have f6 := zd_froz h3 6
    have H5 := hid (zd_set h3 6 (.int .u32 (adlOf q t : Nat)) (zcells (.slice none 0 0) cl most 1 er (some ⟨B, 0, none⟩) (adlOf 1 (o ++ t))) (by rw [← HQ.out t]; rfl))
    obtain ⟨T, hTl⟩ : ∃ T, T = t.length := ⟨_, rfl⟩
    rw [← hTl] at HA H5 ht0 ⊢
    have hTI : (0 : Int) < (T : Int) := by omega
    have HE := hid hTl
    clear hT h2 h3 HF htb htl hcap ht hTl ht0
    go_wp2_with fail
    with_reducible refine HA.out.mono ?_
    rintro e w3 ⟨rfl, rfl⟩
    clear HA
    go_wp2
    go_ret2
    refine ⟨t, e1, s', HTT.out.1, .inl ⟨HTT.out.2, _, rfl, ?_⟩⟩
    have h6 := H5.out
    rw [← HE.out]
    exact h6.third
end
/-! ### step -/
section
variable {w0 w : World} {Rs : List Thing} {D : Nat} {iv : Value} {cl : Bool} {most er sm : Nat} {sp : Option Addr} {R : Value → Int → World → Prop}
set_option maxRecDepth 20000 in
set_option maxHeartbeats 1600000 in
theorem zstep0_any (n : Int) (h : Held w0 w (zdT D iv cl most 0 er sp sm :: Rs)) (hc : Calls Tryd.prog 14 #[.pointer (some ⟨D, 0, none⟩)] w fun e w' => ∃ k, e = .returned (.int .i64 k) ∧ R (.slice none 0 0) k w') :
    Calls Tryd.prog 10 #[.pointer (some ⟨D, 0, none⟩), .int .i64 n] w fun e w' => ∃ x k, e = .returned (.tuple #[x, .int .i64 k]) ∧ R x k w' := by
  have c3 := zd_cell h 3 _ rfl
  have HC := hid hc
  clear h hc
  go_enter Tryd.func10, Tryd.ntmps10
  go_wp2_with fail
  with_reducible refine HC.out.mono ?_
  rintro e w2 ⟨k, rfl, h2⟩
  have H2 := hid h2
  clear h2 HC
  go_wp2
  go_ret2
  exact ⟨_, _, rfl, H2.out⟩
set_option maxRecDepth 20000 in
set_option maxHeartbeats 1600000 in
theorem zstep1_any (n : Int) (h : Held w0 w (zdT D iv cl most 1 er sp sm :: Rs)) (hc : Calls Tryd.prog 15 #[.pointer (some ⟨D, 0, none⟩), .int .i64 n] w fun e w' => ∃ x k, e = .returned (.tuple #[x, .int .i64 k]) ∧ R x k w') :
    Calls Tryd.prog 10 #[.pointer (some ⟨D, 0, none⟩), .int .i64 n] w fun e w' => ∃ x k, e = .returned (.tuple #[x, .int .i64 k]) ∧ R x k w' := by
  have c3 := zd_cell h 3 _ rfl
  have HC := hid hc
  clear h hc
  go_enter Tryd.func10, Tryd.ntmps10
  go_wp2_with fail
  with_reducible refine HC.out.mono ?_
  rintro e w2 ⟨x, k, rfl, h2⟩
  have H2 := hid h2
  clear h2 HC
  go_wp2
  go_ret2
  exact ⟨_, _, rfl, H2.out⟩
set_option maxRecDepth 20000 in
set_option maxHeartbeats 1600000 in
theorem zstep2_any (n : Int) (h : Held w0 w (zdT D iv cl most 2 er sp sm :: Rs)) (hc : Calls Tryd.prog 16 #[.pointer (some ⟨D, 0, none⟩)] w fun e w' => ∃ k, e = .returned (.int .i64 k) ∧ R (.slice none 0 0) k w') :
    Calls Tryd.prog 10 #[.pointer (some ⟨D, 0, none⟩), .int .i64 n] w fun e w' => ∃ x k, e = .returned (.tuple #[x, .int .i64 k]) ∧ R x k w' := by
  have c3 := zd_cell h 3 _ rfl
  have HC := hid hc
  clear h hc
  go_enter Tryd.func10, Tryd.ntmps10
  go_wp2_with fail
  with_reducible refine HC.out.mono ?_
  rintro e w2 ⟨k, rfl, h2⟩
  have H2 := hid h2
  clear h2 HC
  go_wp2
  go_ret2
  exact ⟨_, _, rfl, H2.out⟩
set_option maxRecDepth 20000 in
set_option maxHeartbeats 1600000 in
theorem zstep3_any (n : Int) (h : Held w0 w (zdT D iv cl most 3 er sp sm :: Rs)) (hc : Calls Tryd.prog 17 #[.pointer (some ⟨D, 0, none⟩)] w fun e w' => ∃ k, e = .returned (.int .i64 k) ∧ R (.slice none 0 0) k w') :
    Calls Tryd.prog 10 #[.pointer (some ⟨D, 0, none⟩), .int .i64 n] w fun e w' => ∃ x k, e = .returned (.tuple #[x, .int .i64 k]) ∧ R x k w' := by
  have c3 := zd_cell h 3 _ rfl
  have HC := hid hc
  clear h hc
  go_enter Tryd.func10, Tryd.ntmps10
  go_wp2_with fail
  with_reducible refine HC.out.mono ?_
  rintro e w2 ⟨k, rfl, h2⟩
  have H2 := hid h2
  clear h2 HC
  go_wp2
  go_ret2
  exact ⟨_, _, rfl, H2.out⟩
set_option maxRecDepth 20000 in
set_option maxHeartbeats 1600000 in
theorem zstep4_any (n : Int) (h : Held w0 w (zdT D iv cl most 4 er sp sm :: Rs)) :
    Calls Tryd.prog 10 #[.pointer (some ⟨D, 0, none⟩), .int .i64 n] w fun e w' => ∃ x k, e = .returned (.tuple #[x, .int .i64 k]) ∧ x = .slice none 0 0 ∧ k = (er : Int) ∧ Held w0 w' (zdT D iv cl most 4 er sp sm :: Rs) := by
  have c3 := zd_cell h 3 _ rfl
  have c4 := zd_cell h 4 _ rfl
  have H := hid h.drew
  clear h
  go_enter Tryd.func10, Tryd.ntmps10
  go_wp2
  go_region
  all_goals
    go_wp2
    go_ret2
    exact ⟨_, _, rfl, rfl, rfl, H.out⟩
end
end Go.Proofs.YtbkbkmgogbgofaaDoor
