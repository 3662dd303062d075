/-
  What a finder of matches is to do, as a statement that the program's own text must show ('MatchOK', for some states that a finder passes through); the laws' own example.
-/
import Derived.Test.YtjmdgcppllnkdaaDoorTokExpR
import Derived.Test.YtjmdgcppllnkdaaDoorRef1
import Derived.Test.YtjmdgcppllnkdaaDoorHeldApp
import Derived.Test.YtjmdgcppllnkdaaDoorSlices
import Derived.Test.YtjmdgcppllnkdaaDoorPut
import Derived.StillTailTactics
import Derived.Lib.SlBytesConst
namespace Go.Proofs.YtjmdgcppllnkdaaDoor
open Go.RowKit

/-- a finder's states, told without a program: what was written, what was told, how much waits -/
structure MatchM where
  St : Type
  start : Int → St
  write : St → List Nat → St
  toks : St → Bool → St × List Tok
  inp : St → List Nat
  outs : St → List Tok
  wait : St → Nat
  one : List Nat → Int → List Tok
  Ok : St → Prop
  Clean : Int → St → Prop
structure MatchLaws (M : MatchM) : Prop where
  ok_start : ∀ lev, M.Ok (M.start lev)
  ok_write : ∀ s bs, M.Ok s → (∀ b ∈ bs, b < 256) → (M.inp s).length + bs.length < 1000000000 → M.Ok (M.write s bs)
  ok_toks : ∀ s e, M.Ok s → M.Ok (M.toks s e).1
  inp_start : ∀ lev, M.inp (M.start lev) = []
  inp_write : ∀ s bs, M.inp (M.write s bs) = M.inp s ++ bs
  inp_toks : ∀ s e, M.inp (M.toks s e).1 = M.inp s
  outs_start : ∀ lev, M.outs (M.start lev) = []
  outs_write : ∀ s bs, M.outs (M.write s bs) = M.outs s
  outs_toks : ∀ s e, M.outs (M.toks s e).1 = M.outs s ++ (M.toks s e).2
  bytes : ∀ s, M.Ok s → byteOK (M.outs s)
  means : ∀ s, M.Ok s → (M.inp s).length ≤ most → M.wait s ≤ (M.inp s).length ∧ expT [] (M.outs s) = (0, (M.inp s).take ((M.inp s).length - M.wait s))
  wait_end : ∀ s, M.Ok s → M.wait (M.toks s true).1 = 0
  wait_some : ∀ s, M.Ok s → M.wait (M.toks s false).1 ≤ 261
  clean_start : ∀ lev, M.Clean lev (M.start lev)
  clean_write : ∀ lev s bs, M.Clean lev s → M.Clean lev (M.write s bs)
  clean_toks : ∀ lev s, M.Clean lev s → M.Clean lev (M.toks s false).1
  one_is : ∀ lev s, M.Ok s → M.Clean lev s → M.outs (M.toks s true).1 = M.one (M.inp s) lev
  level0 : ∀ bs lev, (∀ b ∈ bs, b < 256) → bs.length < 1000000000 → lev ≤ 0 → ∀ t ∈ M.one bs lev, t.2.1 = 0
  short : ∀ c n lev, c < 256 → 517 ≤ n → n ≤ 6000 → 1 ≤ lev → lev ≤ 9 → 10 * (M.one (List.replicate n c) lev).length < n
def tokT (v : Value) (l : List Tok) : Thing := ownT 32 3 v l.length (toksV l)
structure MatchOK (M : MatchM) (F : M.St → Nat → Thing) (Lv : World → Prop) : Prop where
  laws : MatchLaws M
  new : ∀ (lev : Int) (w0 w : World) (Rs : List Thing), Lv w0 → Held w0 w Rs →
    Calls Tryd.prog 13 #[.int .i64 lev] w fun e w' => ∃ B, e = .returned (.pointer (some ⟨B, 0, none⟩)) ∧ Held w0 w' (F (M.start lev) B :: Rs)
  write : ∀ (s : M.St) (B : Nat) (v : Value) (n : Nat) (bs : List Nat) (w0 w : World) (Rs : List Thing), Held w0 w (F s B :: Rs) → M.Ok s → Rd w 1 v n (u8s bs) → (∀ b ∈ bs, b < 256) → (M.inp s).length + n < 1000000000 →
    Calls Tryd.prog 14 #[.pointer (some ⟨B, 0, none⟩), v] w fun e w' => e = .returned (.tuple #[]) ∧ Held w0 w' (F (M.write s bs) B :: Rs)
  toks : ∀ (s : M.St) (B : Nat) (b : Bool) (w0 w : World) (Rs : List Thing), Held w0 w (F s B :: Rs) → M.Ok s → (M.inp s).length < 1000000000 →
    Calls Tryd.prog 15 #[.pointer (some ⟨B, 0, none⟩), .bool b] w fun e w' => ∃ v, e = .returned v ∧ Held w0 w' (tokT v (M.toks s b).2 :: F (M.toks s b).1 B :: Rs)
  waiting : ∀ (s : M.St) (B : Nat) (w0 w : World) (Rs : List Thing), Held w0 w (F s B :: Rs) → M.Ok s → (M.inp s).length < 1000000000 →
    Calls Tryd.prog 16 #[.pointer (some ⟨B, 0, none⟩)] w fun e w' => e = .returned (.int .i64 ((M.wait s : Nat) : Int)) ∧ Held w0 w' (F s B :: Rs)
  one : ∀ (v : Value) (n : Nat) (bs : List Nat) (lev : Int) (w0 w : World) (Rs : List Thing), Lv w0 → Held w0 w Rs → Rd w 1 v n (u8s bs) → (∀ b ∈ bs, b < 256) → n < 1000000000 →
    Calls Tryd.prog 10 #[v, .int .i64 lev] w fun e w' => ∃ u, e = .returned u ∧ Held w0 w' (tokT u (M.one bs lev) :: Rs)
  writeNil : ∀ (v : Value) (n : Nat) (bs : List Nat) (w0 w : World) (Rs : List Thing), Held w0 w Rs → Rd w 1 v n (u8s bs) →
    Calls Tryd.prog 14 #[.pointer none, v] w fun e w' => e = .returned (.tuple #[]) ∧ Held w0 w' Rs
  toksNil : ∀ (b : Bool) (w0 w : World) (Rs : List Thing), Held w0 w Rs →
    Calls Tryd.prog 15 #[.pointer none, .bool b] w fun e w' => ∃ v, e = .returned v ∧ Rd w' 3 v 0 [] ∧ Held w0 w' Rs
  waitNil : ∀ (w0 w : World) (Rs : List Thing), Held w0 w Rs →
    Calls Tryd.prog 16 #[.pointer none] w fun e w' => e = .returned (.int .i64 0) ∧ Held w0 w' Rs

/-! ### What follows of the laws -/
theorem MatchLaws.one_means {M : MatchM} (L : MatchLaws M) (bs : List Nat) (lev : Int) (hb : ∀ b ∈ bs, b < 256) (hl : bs.length ≤ most) : expT [] (M.one bs lev) = (0, bs) ∧ byteOK (M.one bs lev) := by
  have h0 := L.ok_write _ bs (L.ok_start lev) hb (by rw [L.inp_start]; unfold most at hl; simp; omega)
  have hi : M.inp (M.write (M.start lev) bs) = bs := by rw [L.inp_write, L.inp_start, List.nil_append]
  have h1 := L.one_is lev _ h0 (L.clean_write _ _ _ (L.clean_start lev))
  rw [hi] at h1
  rw [← h1]
  have h2 := L.ok_toks _ true h0
  have h3 := L.means _ h2 (by rw [L.inp_toks, hi]; exact hl)
  rw [L.inp_toks, hi, L.wait_end _ h0, Nat.sub_zero, List.take_of_length_le (Nat.le_refl _)] at h3
  exact ⟨h3.2, L.bytes _ h2⟩
theorem expT_grow : ∀ (l : List Tok) (acc o : List Nat), expT acc l = (0, o) → acc.length + l.length ≤ o.length
  | [], acc, o, h => by simp [expT] at h; subst h; simp
  | t :: r, acc, o, h => by
    rw [expT_cons] at h
    by_cases h0 : (stepT acc t).1 = 0
    · rw [if_pos h0] at h
      have ih := expT_grow r _ o h
      have h1 : acc.length + 1 ≤ (stepT acc t).2.length := by
        unfold stepT at h0 ⊢
        split <;> rename_i c1
        · rw [if_pos c1] at h0; simp at h0
        · rw [if_neg c1] at h0
          have hs : soundB t = true := by simpa using c1
          split <;> rename_i c2
          · rw [if_pos c2] at h0
            split <;> rename_i c3
            · rw [if_pos c3] at h0; simp at h0
            · simp
          · have := sound_match hs c2
            rw [if_neg c2] at h0
            split <;> rename_i c3
            · rw [if_pos c3] at h0; simp at h0
            · rw [if_neg c3] at h0
              split <;> rename_i c4
              · rw [if_pos c4] at h0; simp at h0
              · simp only [ext_length]; omega
      simp; omega
    · rw [if_neg h0] at h; simp at h; exact absurd h.1 h0
/-- fewer than three bytes are told by literals -/
theorem expT_first (l : List Tok) (a b : Nat) (h : expT [] l = (0, [a, b])) (hb : byteOK l) : ∃ t r, l = t :: r ∧ r.length = 1 ∧ t.1 = (a : Int) := by
  cases l with
  | nil => simp [expT] at h
  | cons t r =>
    have hb1 := hb t (List.mem_cons_self ..)
    rw [expT_cons] at h
    by_cases h0 : (stepT [] t).1 = 0
    · rw [if_pos h0] at h
      have hg := expT_grow r _ _ h
      by_cases hs : soundB t = true
      · by_cases hl : t.2.1 = 0
        · rw [stepT_lit hs hl (by simp [most])] at h hg
          refine ⟨t, r, rfl, ?_, ?_⟩
          · cases r with
            | nil => simp [expT] at h
            | cons t2 r2 => simp at hg ⊢; cases r2 with | nil => rfl | cons _ _ => exfalso; simp at hg; omega
          · have hp := expT_pre r _ (by rw [h])
            rw [h] at hp
            obtain ⟨Z, hz⟩ := hp
            simp at hz
            have := hz.1
            omega
        · have hm := sound_match hs hl
          exfalso
          have hz : ¬ most < ([] : List Nat).length + t.2.1.toNat := by
            show ¬ 16777216 < 0 + t.2.1.toNat
            omega
          have hd : ([] : List Nat).length < t.2.2.toNat := by
            show 0 < t.2.2.toNat
            omega
          rw [stepT_far hs hl hz hd] at h0
          exact absurd h0 (by decide)
      · rw [stepT_bad (by simpa using hs)] at h0; simp at h0
    · rw [if_neg h0] at h; simp at h
section
variable {w0 w : World} {Rs : List Thing}
theorem h_equal9 (h : Held w0 w Rs) (v u : Value) (a : List Nat) (n : Nat) (hv : Rd w 1 v n (u8s a)) (hu : Rd w 1 u n (u8s a)) (hal : n < 8000000000) :
    Calls Tryd.prog 12 #[v, u] w fun e w' => e = .returned (.bool true) ∧ Held w0 w' Rs := by
  have hn : n = a.length := by have := hv.1; rw [u8s_length] at this; omega
  subst hn
  exact (same_any v u a a w hv hu hal).mono fun _ _ ⟨h1, k, h2⟩ => ⟨by rw [h1]; simp, by rw [h2]; exact h.drewN k⟩
theorem Rd.marked9 (w : World) (cs : List Value) (n : Nat) (t : TypeId) (fr : Nat × Nat) (hn : cs.length = n) (hm : n ≤ maxLen) : Rd (w.alloc (.cells cs.toArray t fr)) 1 (.slice (some ⟨w.heap.size, 0, none⟩) n n) n cs := by
  refine ⟨by omega, _, _, rfl, Nat.le_refl _, hm, by simp, .inr ⟨_, _, rfl, fun j u hu => ?_⟩⟩
  have : (w.alloc (.cells cs.toArray t fr)).heap[w.heap.size]? = some (.cells cs.toArray t fr) := by
    show (w.heap.push _)[w.heap.size]? = _
    simp
  rw [Nat.zero_add, cell_of_row _ _ _ _ _ _ this]
  simpa using hu
set_option maxHeartbeats 1600000 in
theorem h_answers9 {M : MatchM} {F : M.St → Nat → Thing} {Lv : World → Prop} (HM : MatchOK M F Lv) (HLV : Lv w0) (h : Held w0 w Rs) :
    Calls Tryd.prog 8 #[] w fun e w' => e = .returned (.bool true) ∧ Held w0 w' Rs := by
  have H0 := hid h
  have hcv : (convert 22 22 (.slice (some ⟨w.heap.size, 0, none⟩) 2 2)).run Tryd.prog (w.alloc (.cells #[.int .u8 97, .int .u8 97] 5)) = .ok (.slice (some ⟨w.heap.size, 0, none⟩) 2 2) (w.alloc (.cells #[.int .u8 97, .int .u8 97] 5 (2, 3))) :=
    Lib.run_convert_bytes_const w _ 5 #[.int .u8 97, .int .u8 97] 2 2 Tryd.underlying22 Tryd.underlying5
  have HO := hid (HM.one (.slice (some ⟨w.heap.size, 0, none⟩) 2 2) 2 [97, 97] 6 w0 _ Rs HLV (h.alloc (.cells #[.int .u8 97, .int .u8 97] 5 (2, 3))) (Rd.marked9 w (u8s [97, 97]) 2 5 (2, 3) rfl (by decide)) (by decide) (by decide))
  obtain ⟨he, hbk⟩ := HM.laws.one_means [97, 97] 6 (by decide) (by decide)
  obtain ⟨t, r, hl, hr, ht⟩ := expT_first _ _ _ he hbk
  rw [hl] at HO
  have HT := hid (And.intro hr ht)
  clear h he hbk hl hr ht
  go_enter Tryd.func8, Tryd.ntmps8
  go_wp2_with fail
  refine HO.out.mono ?_
  rintro e w2 ⟨u, rfl, hh⟩
  unfold tokT at hh
  have hlen : (t :: r).length = 2 := by rw [List.length_cons, HT.out.1]
  rw [hlen] at hh
  obtain ⟨uo, uc, rfl, _, _⟩ := hh.own.form
  obtain ⟨g, off, rfl, c0, _, _⟩ := hh.own.rd.tok (i := 0) (t := t) rfl
  rw [HT.out.2, Nat.zero_mul, Nat.add_zero] at c0
  have HE := hid hh.drop
  clear hh HO hcv hlen
  go_wp2
  go_ret
  exact ⟨rfl, HE.out⟩
end
end Go.Proofs.YtjmdgcppllnkdaaDoor
