/-
  The landed decoder between calls; its Take.
-/
import Derived.Test.YtmmfkppkmgjljaaDoorZE24
namespace Go.Proofs.YtmmfkppkmgjljaaDoor
set_option maxRecDepth 5000
open Go.RowKit
inductive DSt where
  | run (ph : Ph) (l o : List Nat)
  | fin (e : Nat) (l : List Nat)
structure DPar where
  c : DC
  v : Value
  bs : List Nat
  ls : List Int
  Ts : List (List Int × Nat)
def DSt.l : DSt → List Nat
  | .run _ l _ => l
  | .fin _ l => l
def DSt.o : DSt → List Nat
  | .run _ _ o => o
  | .fin _ _ => []
def room0 (c : DC) : DC := { c with room := 0 }
def DecOK (M : Nat) (x : DPar) : DSt → Prop
  | .run ph l o => DInv M (room0 x.c) x.ls x.Ts ph l o []
  | .fin e l => FInv x.c e l ∧ x.ls = []
def decL (p : Place) (x : DPar) (s : DSt) : List Thing := decM p x.c x.v x.bs s.l s.o [] x.ls x.Ts []
def decT (p : Place) (M : Nat) (s : DSt) : Thing := exT fun x : DPar => factT (DecOK M x s) (allT (decL p x s))
section
variable {w0 w : World} {Rs : List Thing} {p : Place} {M : Nat}
theorem dec_open {s : DSt} (h : Held w0 w (decT p M s :: Rs)) : ∃ x : DPar, DecOK M x s ∧ Held w0 w (decM p x.c x.v x.bs s.l s.o [] x.ls x.Ts Rs) := by
  obtain ⟨x, h1⟩ := h.ex
  obtain ⟨hf, h2⟩ := h1.fact
  exact ⟨x, hf, h2.unall⟩
theorem dec_shut {s : DSt} (x : DPar) (hf : DecOK M x s) (h : Held w0 w (decM p x.c x.v x.bs s.l s.o [] x.ls x.Ts Rs)) : Held w0 w (decT p M s :: Rs) :=
  Held.mk (R := fun x : DPar => factT (DecOK M x s) (allT (decL p x s))) x (Held.mkFact hf (Held.all (L := decL p x s) h))
theorem phC_room {c : DC} {ls : List Int} {Ts : List (List Int × Nat)} {ph : Ph} {r : Int} (h : PhC c ls Ts ph) : PhC { c with room := r } ls Ts ph := by
  cases ph <;> exact h
theorem DInv.room2 {c : DC} {ls : List Int} {Ts : List (List Int × Nat)} {ph : Ph} {l o got : List Nat} {r : Int} (h : DInv M c ls Ts ph l o got) (h1 : 0 ≤ r) (h2 : r ≤ 9223372036854775807) : DInv M { c with room := r } ls Ts ph l o got :=
  ⟨phC_room h.cell, h.fx, h.ok, h.most, h.big, h.len, h.got, h1, h2⟩
theorem DInv.lv {c : DC} {ls : List Int} {Ts : List (List Int × Nat)} {ph : Ph} {l o got : List Nat} {u : Value} (h : DInv M c ls Ts ph l o got) : DInv M (room0 { c with lv := u }) ls Ts ph l o [] :=
  ⟨by have := h.cell; cases ph <;> exact this, h.fx, h.ok, h.most, h.big, h.len, Nat.zero_le _, (show (0 : Int) ≤ 0 by decide), (show (0 : Int) ≤ 9223372036854775807 by decide)⟩
/-! ### How far a step goes -/
theorem step_mu {ph ph' : Ph} {l o l' o' : List Nat} (h : MOk ph l o) (hs : stepM M l o ph = .go ph' l' o') : (mu ph' l' : Int) - 2 * o'.length < (mu ph l : Int) - 2 * o.length := by
  obtain ⟨⟨_, _, t, ht, _, _⟩, hm⟩ := stepM_ok h.bits h.byt h.ph hs
  have hl : o'.length = o.length + t.length := by rw [ht, List.length_append]
  rcases hm with hm | ⟨hm, he⟩ <;> omega
theorem reach_mu {ph ph' : Ph} {l o l' o' : List Nat} (h : MOk ph l o) (hr : Reach M ph l o ph' l' o') : (mu ph' l' : Int) - 2 * o'.length ≤ (mu ph l : Int) - 2 * o.length := by
  induction hr with
  | refl => exact Int.le_refl _
  | step hs _ ih =>
    have h1 := step_mu h hs
    have h2 := ih (h.step hs).1
    omega
inductive TakeOut (M : Nat) (ph : Ph) (l o : List Nat) (n : Int) : List Nat → Nat → DSt → Prop
  | full {ph' : Ph} {l' t : List Nat} (ht : (t.length : Int) = max n 0) (hr : Reach M ph l o ph' l' (o ++ t)) : TakeOut M ph l o n t 0 (.run ph' l' (o ++ t))
  | wait {ph' : Ph} {l' t : List Nat} (ht : (t.length : Int) < n) (hr : Reach M ph l o ph' l' (o ++ t)) (hs : stepM M l' (o ++ t) ph' = .err 5) : TakeOut M ph l o n t 5 (.run ph' l' (o ++ t))
  | fin {ph' : Ph} {l' l2 t : List Nat} {e er : Nat} (ht : (t.length : Int) < n) (hr : Reach M ph l o ph' l' (o ++ t)) (hs : stepM M l' (o ++ t) ph' = .done l2 ∧ e = 8 ∨ stepM M l' (o ++ t) ph' = .err e ∧ l2 = []) (h5 : e ≠ 5)
      (her : er = if t = [] then e else 5) : TakeOut M ph l o n t er (.fin e l2)
inductive TkSt (w0 wr : World) (p : Place) (M : Nat) (ph0 : Ph) (l0 o0 : List Nat) (n : Nat) (Rs : List Thing) (gg : Nat) : Nat → Prop
  | on {c : DC} {v : Value} {bs l t : List Nat} {ls : List Int} {Ts : List (List Int × Nat)} {ph : Ph} (H : Held w0 wr (decM p c v bs l (o0 ++ t) t ls Ts Rs)) (hi : DInv M c ls Ts ph l (o0 ++ t) t) (hr : Reach M ph0 l0 o0 ph l (o0 ++ t)) (hroom : c.room + t.length = n)
      (hg : mu ph l + 2 * c.room.toNat + 1 < gg) : TkSt w0 wr p M ph0 l0 o0 n Rs gg 0
  | wait {c : DC} {v : Value} {bs l t : List Nat} {ls : List Int} {Ts : List (List Int × Nat)} {ph : Ph} (H : Held w0 wr (decM p c v bs l (o0 ++ t) t ls Ts Rs)) (hi : DInv M c ls Ts ph l (o0 ++ t) t) (hr : Reach M ph0 l0 o0 ph l (o0 ++ t)) (hroom : c.room + t.length = n) (h0 : 0 < c.room)
      (hs : stepM M l (o0 ++ t) ph = .err 5) (hg : 0 < gg) : TkSt w0 wr p M ph0 l0 o0 n Rs gg 5
  | fin {c : DC} {v : Value} {bs l l2 t : List Nat} {Ts : List (List Int × Nat)} {ph : Ph} {e : Nat} (H : Held w0 wr (decM p c v bs l2 [] t [] Ts Rs)) (hf : FInv c e l2) (hr : Reach M ph0 l0 o0 ph l (o0 ++ t)) (ht : t.length < n)
      (hs : stepM M l (o0 ++ t) ph = .done l2 ∧ e = 8 ∨ stepM M l (o0 ++ t) ph = .err e ∧ l2 = []) (hg : 0 < gg) : TkSt w0 wr p M ph0 l0 o0 n Rs gg e
theorem take_own {c : DC} {v : Value} {bs l o got : List Nat} {ls : List Int} {Ts : List (List Int × Nat)} (h : Held w0 w (decM p c v bs l o got ls Ts Rs)) :
    Calls Tryd.prog 29 #[.pointer (some ⟨p.b, p.o + 3, none⟩)] w fun e w' => e = .returned c.lv ∧ Held w0 w' (ownT 5 1 c.lv got.length (u8s got) :: decM p { c with lv := .slice none 0 0 } v bs l o [] ls Ts Rs) := by
  refine (otake_any got got.length (h.perm (List.Perm.cons _ (List.Perm.swap _ _ _)))).mono ?_
  rintro e w' ⟨rfl, h2⟩
  refine ⟨rfl, ?_⟩
  have h3 := h2.swap.nil 5 1
  exact h3.perm (List.perm_middle (l₁ := [_, _, _]) (a := ownT 5 1 (.slice none 0 0) 0 [])).symm
theorem take_turn {R1 R2 R3 R4 R5 R6 : Thing} (h : Held w0 w (R6 :: R1 :: R2 :: R3 :: R4 :: R5 :: Rs)) : Held w0 w (R1 :: R2 :: R3 :: R4 :: R5 :: R6 :: Rs) := h.perm (List.perm_middle (l₁ := [_, _, _, _, _])).symm
theorem FInv.lv {c : DC} {e : Nat} {l : List Nat} {u : Value} (h : FInv c e l) : FInv { c with lv := u } e l := ⟨h.st, h.en, h.kind, h.bits, h.len, h.left⟩
set_option maxHeartbeats 6400000 in
theorem take_pos (ph0 : Ph) (l0 o0 : List Nat) (n : Nat) (hn : 0 < n) (hn2 : n ≤ 9223372036854775807) (hG : GlobI w0) (h : Held w0 w (decT p M (.run ph0 l0 o0) :: Rs)) :
    Calls Tryd.prog 12 #[.pointer (some ⟨p.b, p.o, none⟩), .int .i64 (n : Int)] w fun e w' => ∃ (x : Value) (t : List Nat) (er : Nat) (s' : DSt), e = .returned (.tuple #[x, .int .i64 (er : Int)]) ∧ TakeOut M ph0 l0 o0 n t er s' ∧
      Held w0 w' (ownT 5 1 x t.length (u8s t) :: decT p M s' :: Rs) := by
  obtain ⟨x, hok, h1⟩ := dec_open h
  obtain ⟨c, v, bs, ls, Ts⟩ := x
  have c5 : w.cell? ⟨p.b, p.o + 3 + 2, none⟩ = some (.int .i64 c.room) := dcell h1 5 _ rfl
  have f5 : w.frozen? ⟨p.b, p.o + 3 + 2, none⟩ = false := dfroz h1 5
  have h2 := dset h1 5 (.int .i64 (n : Int)) { c with room := (n : Int) } rfl
  have hi2 : DInv M { c with room := (n : Int) } ls Ts ph0 l0 o0 [] := (show DInv M (room0 c) ls Ts ph0 l0 o0 [] from hok).room2 (by omega) (by omega)
  have HST : Hid (TkSt w0 (w.setCell ⟨p.b, p.o + 3 + 2, none⟩ (.int .i64 (n : Int))) p M ph0 l0 o0 n Rs (mu ph0 l0 + 2 * n + 2) 0) := by
    refine hid (.on (c := { c with room := (n : Int) }) (v := v) (bs := bs) (l := l0) (t := []) (ls := ls) (Ts := Ts) (ph := ph0) ?_ ?_ ?_ ?_ ?_)
    · rw [List.append_nil]; exact h2
    · rw [List.append_nil]; exact hi2
    · rw [List.append_nil]; exact .refl
    · simp
    · show mu ph0 l0 + 2 * ((n : Int)).toNat + 1 < _
      omega
  clear h h1 h2 hi2 hok
  go_enter Tryd.func12, Tryd.ntmps12
  go_wp2
  go_loopg [6] (mu ph0 l0 + 2 * n + 2) (fun gg t6 wr => ∃ er : Nat, t6 = .int .i64 (er : Int) ∧ Hid (TkSt w0 wr p M ph0 l0 o0 n Rs gg er))
  case atStart => exact ⟨0, rfl, HST⟩
  case round =>
    obtain ⟨er, rfl, HT⟩ := hrel
    have hT := HT.out
    cases hT with
    | on H hi hr hroom hg =>
      rename_i c v bs l t ls Ts ph
      have c5 : wr.cell? ⟨p.b, p.o + 3 + 2, none⟩ = some (.int .i64 c.room) := dcell H 5 _ rfl
      by_cases h0 : 0 < c.room
      · have HS := hid (step_run ph hG H hi h0)
        clear H HT
        go_wp2_with fail
        with_reducible refine HS.out.mono ?_
        rintro e w3 ⟨er, rfl, ho⟩
        have HO := hid ho
        clear ho HS
        go_wp2
        go_roundg (gk - 1)
        case measure => omega
        case rel =>
          refine ⟨er, rfl, hid ?_⟩
          have ho := HO.out
          cases ho with
          | go H hi2 hs hr2 ho hroom2 =>
            subst ho
            have hm := step_mu hi.ok hs
            have hm2 := reach_mu (hi.ok.step hs).1 hr2
            have h0r := hi2.room
            rw [List.append_assoc] at H hi2 hr2 hm2
            refine .on H hi2 (hr.trans (.step hs hr2)) (by rw [List.length_append]; omega) ?_
            simp only [List.length_append] at hm hm2
            omega
          | wait H hs => exact .wait H hi hr hroom h0 hs (by omega)
          | fin H hf hs hroom2 => exact .fin H hf hr (by omega) hs (by omega)
      · have hz : c.room = 0 := by have := hi.room; omega
        obtain ⟨ao, cap, hlv, _, _⟩ := H.third.own.form
        have HK := hid (take_own H)
        rw [hlv] at HK
        have HI := hid (And.intro hi (And.intro hr hroom))
        clear H HT hi hr
        go_wp2_with fail
        with_reducible refine HK.out.mono ?_
        rintro e w3 ⟨rfl, h4⟩
        have H4 := hid h4
        clear h4 HK
        go_wp2
        go_ret2
        exact ⟨_, t, 0, .run ph l (o0 ++ t), rfl, .full (by have := HI.out.2.2; omega) HI.out.2.1, (dec_shut (s := .run ph l (o0 ++ t)) ⟨{ c with lv := .slice none 0 0 }, v, bs, ls, Ts⟩ HI.out.1.lv (take_turn H4.out)).swap⟩
    | wait H hi hr hroom h0 hs hg =>
      rename_i c v bs l t ls Ts ph
      obtain ⟨ao, cap, hlv, _, _⟩ := H.third.own.form
      have HK := hid (take_own H)
      rw [hlv] at HK
      have HI := hid (And.intro hi (And.intro hr (And.intro hs (And.intro hroom h0))))
      clear H HT hi hr hs
      have hfin : ∀ w3, Held w0 w3 (ownT 5 1 (.slice ao t.length cap) t.length (u8s t) :: decM p { c with lv := .slice none 0 0 } v bs l (o0 ++ t) [] ls Ts Rs) → ∃ (x : Value) (t' : List Nat) (er : Nat) (s' : DSt), (Ending.returned (.tuple #[.slice ao t.length cap, .int .i64 5])) = .returned (.tuple #[x, .int .i64 (er : Int)]) ∧ TakeOut M ph0 l0 o0 n t' er s' ∧ Held w0 w3 (ownT 5 1 x t'.length (u8s t') :: decT p M s' :: Rs) := fun w3 h4 =>
        ⟨_, t, 5, .run ph l (o0 ++ t), rfl, .wait (by have := HI.out.2.2.2; omega) HI.out.2.1 HI.out.2.2.1, (dec_shut (s := .run ph l (o0 ++ t)) ⟨{ c with lv := .slice none 0 0 }, v, bs, ls, Ts⟩ HI.out.1.lv (take_turn h4)).swap⟩
      have HF := hid hfin
      clear hfin
      by_cases hl : (0 : Int) < (t.length : Int)
      · go_wp2_with fail
        with_reducible refine HK.out.mono ?_
        rintro e w3 ⟨rfl, h4⟩
        have H4 := hid h4
        clear h4 HK
        go_wp2
        go_ret2
        exact HF.out _ H4.out
      · go_wp2_with fail
        with_reducible refine HK.out.mono ?_
        rintro e w3 ⟨rfl, h4⟩
        have H4 := hid h4
        clear h4 HK
        go_wp2
        go_ret2
        exact HF.out _ H4.out
    | fin H hf hr ht hs hg =>
      rename_i c v bs l l2 t Ts ph
      obtain ⟨ao, cap, hlv, _, _⟩ := H.third.own.form
      have HK := hid (take_own H)
      rw [hlv] at HK
      have hz : er ≠ 0 := by have := hf.kind; omega
      have h5 : er ≠ 5 := by have := hf.kind; omega
      have hB0 : ((er : Int) == 0) = false := by simp; omega
      have hI0 : ¬ (er : Int) = 0 := by omega
      have hN0 : ((er : Int) != 0) = true := by simp; omega
      have HI := hid (And.intro hf (And.intro hr (And.intro hs (And.intro ht h5))))
      clear H HT hf hr hs
      have hfin : ∀ w3 (er' : Nat), er' = (if t = [] then er else 5) → Held w0 w3 (ownT 5 1 (.slice ao t.length cap) t.length (u8s t) :: decM p { c with lv := .slice none 0 0 } v bs l2 [] [] [] Ts Rs) → ∃ (x : Value) (t' : List Nat) (er2 : Nat) (s' : DSt), (Ending.returned (.tuple #[.slice ao t.length cap, .int .i64 (er' : Int)])) = .returned (.tuple #[x, .int .i64 (er2 : Int)]) ∧ TakeOut M ph0 l0 o0 n t' er2 s' ∧ Held w0 w3 (ownT 5 1 x t'.length (u8s t') :: decT p M s' :: Rs) := fun w3 er' he h4 =>
        ⟨_, t, er', .fin er l2, rfl, .fin (by have := HI.out.2.2.2.1; omega) HI.out.2.1 HI.out.2.2.1 HI.out.2.2.2.2 he, (dec_shut (s := .fin er l2) ⟨{ c with lv := .slice none 0 0 }, v, bs, [], Ts⟩ ⟨HI.out.1.lv, rfl⟩ (take_turn h4)).swap⟩
      have HF := hid hfin
      clear hfin
      by_cases hn : t = []
      · have hl : ¬ (0 : Int) < (t.length : Int) := by rw [hn]; decide
        replace hn := hid hn
        go_wp2_with fail
        with_reducible refine HK.out.mono ?_
        rintro e w3 ⟨rfl, h4⟩
        have H4 := hid h4
        clear h4 HK
        go_wp2
        go_ret2
        exact HF.out _ er (by rw [if_pos hn.out]) H4.out
      · have hl : (0 : Int) < (t.length : Int) := by
          cases t with
          | nil => exact absurd rfl hn
          | cons a b => simp only [List.length_cons]; omega
        go_wp2_with fail
        with_reducible refine HK.out.mono ?_
        rintro e w3 ⟨rfl, h4⟩
        have H4 := hid h4
        clear h4 HK
        go_wp2
        go_ret2
        exact HF.out _ 5 (by rw [if_neg hn]) H4.out
end
end Go.Proofs.YtmmfkppkmgjljaaDoor
/-
  The landed decoder: New, Feed, Rest; what a whole stream comes to.
-/
namespace Go.Proofs.YtmmfkppkmgjljaaDoor
set_option maxRecDepth 5000
open Go.RowKit
section
variable {w0 w : World} {Rs : List Thing} {p : Place} {M : Nat}
/-! ### The reader, with no mark and with one -/
theorem rdm_rdr {q : Place} {v : Value} {bs l : List Nat} (h : Held w0 w (rdmT q v bs l :: Rs)) : Held w0 w (rdrP q l :: Rs) := by
  obtain ⟨ao, n, cap, s, c, h1⟩ := rdm_open h
  obtain ⟨bs1, hf, h2⟩ := rds_now h1.swap
  obtain ⟨F, ⟨F1, F2, h3, ⟨h4, h5⟩, hd, hF⟩, h6, h7⟩ := h2.swap.pair
  refine ⟨F, ⟨_, ⟨bs1, s, c, ⟨h3.1, h4, fun e => hd q.b ((h3.2 q.b).2 rfl) ((h5 q.b).2 e), hf.fits, hf.byt⟩, hf.few, hf.is⟩, fun k => ?_⟩, h6, h7⟩
  rw [hF, h3.2, h5]
  exact Iff.rfl
theorem rdr_rdm {q : Place} {l : List Nat} (h : Held w0 w (rdrP q l :: Rs)) : ∃ v bs, Held w0 w (rdmT q v bs l :: Rs) := by
  obtain ⟨F, ⟨d, ⟨bs, s, c, ⟨h1, h2, h3, h4, h5⟩, h6, h7⟩, hF⟩, back⟩ := h
  exact ⟨d, bs, F, ⟨d, ⟨bs, s, c, ⟨h1, h2, h3, h4, h5⟩, h6, h7⟩, h2, h3, .inl rfl, hF⟩, back⟩
/-! ### New -/
def newC (M : Nat) : DC := ⟨.slice none 0 0, M, 0, .slice none 0 0, 0, false, 0, 0, 0, 0, 0, none, .slice none 0 0, none, none, none, none, 0⟩
theorem newC_ok (hM : M < bigD) : DInv M (room0 (newC M)) [] [] .hd [] [] [] :=
  ⟨rfl, .inl ⟨rfl, rfl⟩, ⟨(fun b hb => by cases hb), (fun b hb => by cases hb), trivial⟩, rfl, hM, (by decide), Nat.le_refl _, (show (0 : Int) ≤ 0 by decide), (show (0 : Int) ≤ 9223372036854775807 by decide)⟩
theorem inew_held (hM : M < bigD) (h : Held w0 w Rs) : Held w0 (w.alloc (.cells #[.slice none 0 0, .int .u64 0, .int .i64 0, .slice none 0 0, .int .i64 (M : Int), .int .i64 0, .slice none 0 0, .int .i64 0, .bool false, .int .i64 0, .int .i64 0, .int .i64 0, .int .i64 0, .int .i64 0, .pointer none, .slice none 0 0, .pointer none, .pointer none, .pointer none, .pointer none, .int .i64 0] 67))
    (decT (.whole w.heap.size 67) M (.run .hd [] []) :: Rs) := by
  have h2 := h.newObjP [.slice none 0 0, .int .u64 0, .int .i64 0, .slice none 0 0, .int .i64 (M : Int), .int .i64 0, .slice none 0 0, .int .i64 0, .bool false, .int .i64 0, .int .i64 0, .int .i64 0, .int .i64 0, .int .i64 0, .pointer none, .slice none 0 0, .pointer none, .pointer none, .pointer none, .pointer none, .int .i64 0] 67
  have h3 : Held w0 _ (objP (decP (.whole w.heap.size 67) (newC M)) [.slice none 0 0, .int .u64 ((0 : Nat) : Int), .int .i64 ((0 : Nat) : Int)] :: Rs) := h2
  have hf : RdFact [] [] 0 0 := ⟨by decide, (fun b hb => by cases hb), by decide, rfl⟩
  have h4 := rds_mark (d := .slice none 0 0) hf (h3.nil 5 1)
  have h5 := rdm_close (s := 0) (c := 0) h4.swap
  refine dec_shut (s := .run .hd [] []) ⟨newC M, .slice none 0 0, [], [], []⟩ (newC_ok hM) ?_
  have h6 : Held w0 _ (tabsT [] :: rdmT _ _ _ _ :: Rs) := Held.all (L := []) h5
  have h7 := ((h6.nil 3 1).nil 5 1).nil 5 1
  exact h7.perm (List.perm_middle (l₁ := [_, _, _, _]))
set_option maxHeartbeats 1600000 in
theorem inew_any (most : Int) (hM : M < bigD) (hm : max most 0 = (M : Int)) (h : Held w0 w Rs) :
    Calls Tryd.prog 25 #[.int .i64 most] w fun e w' => ∃ B : Nat, e = .returned (.pointer (some ⟨B, 0, none⟩)) ∧ Held w0 w' (decT (.whole B 67) M (.run .hd [] []) :: Rs) := by
  have H2 := hid (inew_held hM h)
  clear h
  by_cases h0 : (0 : Int) < most
  · obtain rfl : most = (M : Int) := by omega
    clear hm
    go_enter Tryd.func25, Tryd.ntmps25
    go_wp2
    all_goals go_ret
    all_goals first | exact ⟨_, rfl, H2.out⟩ | omega
  · obtain rfl : M = 0 := by omega
    have h00 : most ≤ 0 := by omega
    have H3 : Hid (Held w0 (w.alloc (.cells #[.slice none 0 0, .int .u64 0, .int .i64 0, .slice none 0 0, .int .i64 0, .int .i64 0, .slice none 0 0, .int .i64 0, .bool false, .int .i64 0, .int .i64 0, .int .i64 0, .int .i64 0, .int .i64 0, .pointer none, .slice none 0 0, .pointer none, .pointer none, .pointer none, .pointer none, .int .i64 0] 67)) _) := hid H2.out
    clear hm H2
    go_enter Tryd.func25, Tryd.ntmps25
    go_wp2
    all_goals go_ret
    all_goals first | exact ⟨_, rfl, H3.out⟩ | (obtain rfl : most = 0 := (by omega); exact ⟨_, rfl, H3.out⟩) | omega
/-! ### Feed -/
theorem MOk.fed {ph : Ph} {l o : List Nat} (h : MOk ph l o) (news : List Nat) : MOk ph (l ++ bits8 news) o := by
  refine ⟨isBits_append h.bits (bits8_isBits _), h.byt, ?_⟩
  have := h.ph
  cases ph with
  | sto b n => exact ⟨by have := this.1; rw [List.length_append, bits8_length]; omega, this.2⟩
  | _ => exact this
theorem DInv.fed {c : DC} {ls : List Int} {Ts : List (List Int × Nat)} {ph : Ph} {l o got : List Nat} (h : DInv M c ls Ts ph l o got) (news : List Nat) (hl : (l ++ bits8 news).length < bigD) : DInv M c ls Ts ph (l ++ bits8 news) o got :=
  ⟨h.cell, h.fx, h.ok.fed news, h.most, h.big, hl, h.got, h.room, h.top⟩
set_option maxHeartbeats 1600000 in
theorem dfeed_any (b : Value) (n : Nat) (news : List Nat) (ph : Ph) (l o : List Nat) (h : Held w0 w (decT p M (.run ph l o) :: Rs)) (hv : ∀ w', Held w0 w' Rs → Rd w' 1 b n (u8s news)) (hb : ∀ x ∈ news, x < 256) (hn : n = news.length) (hl : (l ++ bits8 news).length < bigD) :
    Calls Tryd.prog 11 #[.pointer (some ⟨p.b, p.o, none⟩), b] w fun e w' => e = .returned (.tuple #[]) ∧ Held w0 w' (decT p M (.run ph (l ++ bits8 news) o) :: Rs) := by
  obtain ⟨x, hok, h1⟩ := dec_open h
  obtain ⟨c, v, bs, ls, Ts⟩ := x
  have h1 : Held w0 w (decM p c v bs l o [] ls Ts Rs) := h1
  have hok : DInv M (room0 c) ls Ts ph l o [] := hok
  have hF := failed_any h1
  have h8 : c.st ≠ 8 := reach_st (c := room0 c) hok.cell
  rw [show failB c = false by unfold failB; exact decide_eq_false (fun h => h8 h.1)] at hF
  have hll : l.length < 1099511600000 ∧ n < 1099511627776 := by rw [List.length_append, bits8_length] at hl; unfold bigD at hl; constructor <;> omega
  have hP : Calls Tryd.prog 27 #[.pointer (some ⟨p.b, p.o, none⟩), b] w _ := p_feed (B := decP p c) (rdm_rdr h1) b n news (hv w h.drop) hb hll.2 hll.1
  have HP := hid hP
  have HF := hid hF
  have HO := hid (And.intro hok hl)
  clear h h1 hF hok hv hl hll h8 hP
  go_enter Tryd.func11, Tryd.ntmps11
  go_wp2_with fail
  with_reducible refine HF.out.mono ?_
  rintro e w2 ⟨rfl, rfl⟩
  go_wp2_with fail
  with_reducible refine HP.out.mono ?_
  rintro e w2 ⟨rfl, h2⟩
  have H2 := hid h2
  clear h2 HP HF
  go_wp2
  go_end0
  refine ⟨rfl, ?_⟩
  obtain ⟨v', bs', h3⟩ := rdr_rdm H2.out
  exact dec_shut (s := .run ph (l ++ bits8 news) o) ⟨c, v', bs', ls, Ts⟩ (HO.out.1.fed news HO.out.2) h3
/-! ### Take, of a decoder that has ended -/
set_option maxHeartbeats 1600000 in
theorem take_fin (er : Nat) (l : List Nat) (n : Nat) (hn : 0 < n) (h : Held w0 w (decT p M (.fin er l) :: Rs)) :
    Calls Tryd.prog 12 #[.pointer (some ⟨p.b, p.o, none⟩), .int .i64 (n : Int)] w fun e w' => ∃ (x : Value), e = .returned (.tuple #[x, .int .i64 (er : Int)]) ∧
      Held w0 w' (ownT 5 1 x 0 (u8s []) :: decT p M (.fin er l) :: Rs) := by
  obtain ⟨x, hok, h1⟩ := dec_open h
  obtain ⟨c, v, bs, ls, Ts⟩ := x
  obtain ⟨hok, hls⟩ : FInv c er l ∧ ls = [] := hok
  subst hls
  have h1 : Held w0 w (decM p c v bs l [] [] [] Ts Rs) := h1
  have f5 : w.frozen? ⟨p.b, p.o + 3 + 2, none⟩ = false := dfroz h1 5
  have c5 : w.cell? ⟨p.b, p.o + 3 + 2, none⟩ = some (.int .i64 c.room) := dcell h1 5 _ rfl
  have h2 := dset h1 5 (.int .i64 (n : Int)) { c with room := (n : Int) } rfl
  have c5n : (w.setCell ⟨p.b, p.o + 3 + 2, none⟩ (.int .i64 (n : Int))).cell? ⟨p.b, p.o + 3 + 2, none⟩ = some (.int .i64 (n : Int)) := dcell h2 5 _ rfl
  have HS := hid (step_fin h2 er hok.st hok.en)
  have H3 : Held w0 _ (decM p { c with room := (n : Int) } v bs l [] [] [] Ts Rs) := h2
  obtain ⟨ao, cap, hlv, _, _⟩ := H3.third.own.form
  have HK := hid (take_own H3)
  rw [hlv] at HK
  have hz : er ≠ 0 := by have := hok.kind; omega
  have hB0 : ((er : Int) == 0) = false := by simp; omega
  have hI0 : ¬ (er : Int) = 0 := by omega
  have hN0 : ((er : Int) != 0) = true := by simp; omega
  have HO := hid hok
  clear h h1 h2 hok H3
  go_enter Tryd.func12, Tryd.ntmps12
  go_wp2
  go_loopg [6] 2 (fun gg t6 wr => ∃ k : Nat, t6 = .int .i64 (k : Int) ∧ Hid (wr = w.setCell ⟨p.b, p.o + 3 + 2, none⟩ (.int .i64 (n : Int)) ∧ (k = 0 ∧ 1 < gg ∨ k = er ∧ 0 < gg)))
  case atStart => exact ⟨0, rfl, hid ⟨rfl, .inl ⟨rfl, by decide⟩⟩⟩
  case round =>
    obtain ⟨k, rfl, hh⟩ := hrel
    obtain ⟨rfl, ⟨rfl, hg⟩ | ⟨rfl, hg⟩⟩ := hh.out
    · clear hh
      go_wp2_with fail
      with_reducible refine HS.out.mono ?_
      rintro e w3 ⟨rfl, rfl⟩
      go_wp2
      go_roundg (gk - 1)
      case measure => omega
      case rel => exact ⟨er, rfl, hid ⟨rfl, .inr ⟨rfl, by omega⟩⟩⟩
    · clear hh
      go_wp2_with fail
      with_reducible refine HK.out.mono ?_
      rintro e w3 ⟨rfl, h4⟩
      have H4 := hid h4
      clear h4 HK
      go_wp2
      go_ret2
      exact ⟨_, rfl, (dec_shut (s := .fin k l) ⟨{ c with room := (n : Int), lv := .slice none 0 0 }, v, bs, [], Ts⟩ ⟨⟨HO.out.st, HO.out.en, HO.out.kind, HO.out.bits, HO.out.len, HO.out.left⟩, rfl⟩ (take_turn H4.out)).swap⟩
/-! ### Rest -/
def restOf (l : List Nat) : List Nat := bytesOf (l.drop (l.length % 8))
theorem rest_all (l : List Nat) (h : l.length < bigD) : readN l 9223372036854775807 = (restOf l).length := by
  unfold readN restOf
  rw [bytesOf_length]
  unfold bigD at h
  have : (l.drop (l.length % 8)).length ≤ l.length := by rw [List.length_drop]; omega
  omega
set_option maxHeartbeats 1600000 in
theorem rest_fin (er : Nat) (l : List Nat) (h : Held w0 w (decT p M (.fin er l) :: Rs)) :
    Calls Tryd.prog 13 #[.pointer (some ⟨p.b, p.o, none⟩)] w fun e w' => ∃ (x : Value), e = .returned x ∧
      Held w0 w' (ownT 5 1 x (restOf l).length (u8s (restOf l)) :: decT p M (.fin er ((l.drop (l.length % 8)).drop (8 * (restOf l).length))) :: Rs) := by
  obtain ⟨x, hok, h1⟩ := dec_open h
  obtain ⟨c, v, bs, ls, Ts⟩ := x
  obtain ⟨hok, hls⟩ : FInv c er l ∧ ls = [] := hok
  subst hls
  have h1 : Held w0 w (decM p c v bs l [] [] [] Ts Rs) := h1
  have c7 : w.cell? ⟨p.b, p.o + 7, none⟩ = some (.int .i64 8) := by
    have := dcell h1 7 _ rfl
    rw [this, hok.st]; rfl
  have hR := dread h1 9223372036854775807 hok.len
  rw [rest_all l hok.len, show (bytesOf (l.drop (l.length % 8))) = restOf l from rfl, List.take_length] at hR
  have HR := hid hR
  have HO := hid hok
  clear h h1 hok hR
  go_enter Tryd.func13, Tryd.ntmps13
  go_wp2_with fail
  with_reducible refine HR.out.mono ?_
  rintro e w3 ⟨x, rfl, h4⟩
  have H4 := hid h4
  clear h4 HR
  go_wp2
  go_ret
  refine ⟨x, rfl, (dec_shut (s := .fin er _) ⟨c, v, bs, [], Ts⟩ ⟨⟨HO.out.st, HO.out.en, HO.out.kind, isBits_drop (isBits_drop HO.out.bits _) _, ?_, fun h => ?_⟩, rfl⟩ (take_turn H4.out)).swap⟩
  · have := HO.out.len
    simp only [List.length_drop]
    omega
  · rw [HO.out.left h]
    rfl
end
end Go.Proofs.YtmmfkppkmgjljaaDoor
/-
  The landed decoder: a whole stream; one that is none.
-/
namespace Go.Proofs.YtmmfkppkmgjljaaDoor
set_option maxRecDepth 5000
open Go.RowKit
section
variable {w0 w : World} {Rs : List Thing} {p : Place} {M : Nat}
theorem reach_stuck {ph ph' : Ph} {l o l' o' : List Nat} {e : Nat} (hr : Reach M ph l o ph' l' o') (hs : stepM M l o ph = .err e) : ph' = ph ∧ l' = l ∧ o' = o := by
  cases hr with
  | refl => exact ⟨rfl, rfl, rfl⟩
  | step h _ => rw [hs] at h; cases h
theorem take_again {ph : Ph} {l o t : List Nat} {er : Nat} {s : DSt} (h : TakeOut M ph l o 1 t er s) (hs : stepM M l o ph = .err 5) : er = 5 := by
  cases h with
  | full ht hr =>
    have h1 := (reach_stuck hr hs).2.2
    have h2 := congrArg List.length h1
    rw [List.length_append] at h2
    omega
  | wait => rfl
  | fin ht hr hs2 h5 her =>
    obtain ⟨rfl, rfl, h1⟩ := reach_stuck hr hs
    rw [h1, hs] at hs2
    rcases hs2 with ⟨h2, _⟩ | ⟨h2, _⟩
    · cases h2
    · cases h2; exact absurd rfl h5
theorem TakeOut.ends {ph : Ph} {l o t : List Nat} {n : Int} {er : Nat} {s : DSt} (h : TakeOut M ph l o n t er s) (ht : (t.length : Int) ≠ max n 0) :
    (∃ ph' l', s = .run ph' l' (o ++ t) ∧ stepM M l' (o ++ t) ph' = .err 5 ∧ Ends M ph l o 5 [] (o ++ t)) ∨ ∃ e l2, s = .fin e l2 ∧ e ≠ 5 ∧ Ends M ph l o e l2 (o ++ t) := by
  cases h with
  | full h1 => exact absurd h1 ht
  | wait _ hr hs => exact .inl ⟨_, _, rfl, hs, hr.ends (.err hs)⟩
  | fin _ hr hs h5 _ =>
    refine .inr ⟨_, _, rfl, h5, hr.ends ?_⟩
    rcases hs with ⟨hs, rfl⟩ | ⟨hs, rfl⟩
    · exact .done hs
    · exact .err hs
structure WholeIs (M : Nat) (news t r : List Nat) (er : Nat) : Prop where
  is : ∃ e0 l', Ends M .hd (bits8 news) [] e0 l' t ∧ er = (if e0 = 8 then 0 else e0) ∧ r = if e0 = 8 then restOf l' else []
set_option maxHeartbeats 6400000 in
theorem whole_any (b : Value) (n : Nat) (news : List Nat) (most : Int) (hG : GlobI w0) (hM : M < bigD) (hm : max most 0 = (M : Int)) (h : Held w0 w Rs) (hv : ∀ w', Held w0 w' Rs → Rd w' 1 b n (u8s news)) (hb : ∀ x ∈ news, x < 256) (hn : n = news.length) (hl : (bits8 news).length < bigD) :
    Calls Tryd.prog 9 #[b, .int .i64 most] w fun e w' => ∃ (x y : Value) (t r : List Nat) (er : Nat), e = .returned (.tuple #[x, y, .int .i64 (er : Int)]) ∧ WholeIs M news t r er ∧
      Held w0 w' (ownT 5 1 x t.length (u8s t) :: ownT 5 1 y r.length (u8s r) :: Rs) := by
  have HN := hid (inew_any most hM hm h)
  have HV := hid (And.intro hv (And.intro hb (And.intro hn hl)))
  clear h hv hb hn hl
  go_enter Tryd.func9, Tryd.ntmps9
  go_wp2_with fail
  with_reducible refine HN.out.mono ?_
  rintro e w1 ⟨B, rfl, h1⟩
  have hF : Calls Tryd.prog 11 #[.pointer (some ⟨B, 0, none⟩), b] w1 fun e w' => e = .returned (.tuple #[]) ∧ Held w0 w' (decT (.whole B 67) M (.run .hd (bits8 news) []) :: Rs) := dfeed_any (p := .whole B 67) b n news .hd [] [] h1 HV.out.1 HV.out.2.1 HV.out.2.2.1 HV.out.2.2.2
  have HF := hid hF
  clear h1 HN hF
  go_wp2_with fail
  with_reducible refine HF.out.mono ?_
  rintro e w2 ⟨rfl, h2⟩
  have hT : Calls Tryd.prog 12 #[.pointer (some ⟨B, 0, none⟩), .int .i64 9223372036854775807] w2 fun e w' => ∃ (x : Value) (t : List Nat) (er : Nat) (s' : DSt), e = .returned (.tuple #[x, .int .i64 (er : Int)]) ∧ TakeOut M .hd (bits8 news) [] 9223372036854775807 t er s' ∧
      Held w0 w' (ownT 5 1 x t.length (u8s t) :: decT (.whole B 67) M s' :: Rs) := take_pos (p := .whole B 67) .hd (bits8 news) [] 9223372036854775807 (by decide) (by decide) hG h2
  have HT := hid hT
  clear h2 HF hT
  go_wp2_with fail
  with_reducible refine HT.out.mono ?_
  rintro e w3 ⟨x, t, er, s1, rfl, ho, h3⟩
  have hlen : (t.length : Int) ≠ max 9223372036854775807 0 := by
    intro hlen
    obtain ⟨z, hok, _⟩ := dec_open h3.swap
    cases ho with
    | full _ _ =>
      have hok : DInv M (room0 z.c) z.ls z.Ts _ _ ([] ++ t) [] := hok
      have h5 := hok.most
      have h6 := hok.big
      rw [List.nil_append] at h5
      unfold bigD at h6
      omega
    | wait ht => omega
    | fin ht => omega
  have HX := hid (ho.ends hlen)
  have H3 := hid h3
  clear ho h3 hlen HT
  rcases HX.out with ⟨ph', l', rfl, hs, hE⟩ | ⟨e0, l2, rfl, h5, hE⟩
  · have hT : Calls Tryd.prog 12 #[.pointer (some ⟨B, 0, none⟩), .int .i64 1] w3 fun e w' => ∃ (x : Value) (t2 : List Nat) (er : Nat) (s' : DSt), e = .returned (.tuple #[x, .int .i64 (er : Int)]) ∧ TakeOut M ph' l' ([] ++ t) 1 t2 er s' ∧
        Held w0 w' (ownT 5 1 x t2.length (u8s t2) :: decT (.whole B 67) M s' :: _) := take_pos (p := .whole B 67) ph' l' ([] ++ t) 1 (by decide) (by decide) hG H3.out.swap
    have HT := hid hT
    have HE := hid (And.intro hs hE)
    clear hT hs hE HX H3
    go_wp2_with fail
    with_reducible refine HT.out.mono ?_
    rintro e w4 ⟨x2, t2, er2, s2, rfl, ho, h4⟩
    obtain rfl := take_again ho HE.out.1
    have H4 := hid h4
    clear ho h4 HT
    go_wp2
    go_ret3
    refine ⟨x, _, t, [], 5, rfl, ⟨5, [], HE.out.2, rfl, rfl⟩, ?_⟩
    exact (H4.out.drop.drop.nil 5 1).swap
  · have hk : e0 = 8 ∨ e0 ≠ 8 := by omega
    have hT : Calls Tryd.prog 12 #[.pointer (some ⟨B, 0, none⟩), .int .i64 1] w3 fun e w' => ∃ (x : Value), e = .returned (.tuple #[x, .int .i64 (e0 : Int)]) ∧
        Held w0 w' (ownT 5 1 x 0 (u8s []) :: decT (.whole B 67) M (.fin e0 l2) :: _) := take_fin (p := .whole B 67) e0 l2 1 (by decide) H3.out.swap
    have HT := hid hT
    have HE := hid hE
    clear hT hE HX H3
    rcases hk with rfl | hk
    · go_wp2_with fail
      with_reducible refine HT.out.mono ?_
      rintro e w4 ⟨x2, rfl, h4⟩
      have hR : Calls Tryd.prog 13 #[.pointer (some ⟨B, 0, none⟩)] w4 fun e w' => ∃ (x : Value), e = .returned x ∧
        Held w0 w' (ownT 5 1 x (restOf l2).length (u8s (restOf l2)) :: decT (.whole B 67) M (.fin 8 ((l2.drop (l2.length % 8)).drop (8 * (restOf l2).length))) :: _) := rest_fin (p := .whole B 67) 8 l2 h4.drop
      have HR := hid hR
      clear h4 hR HT
      go_wp2_with fail
      with_reducible refine HR.out.mono ?_
      rintro e w5 ⟨y, rfl, h6⟩
      have H6 := hid h6
      clear h6 HR
      go_wp2
      go_ret3
      exact ⟨x, y, t, restOf l2, 0, rfl, ⟨8, l2, HE.out, rfl, rfl⟩, H6.out.swap.drop.swap⟩
    · have hN : ((e0 : Int) != 8) = true := by simp; omega
      have hB : ((e0 : Int) == 8) = false := by simp; omega
      have hI : ¬ (e0 : Int) = 8 := by omega
      have HK := hid hk
      clear hk
      go_wp2_with fail
      with_reducible refine HT.out.mono ?_
      rintro e w4 ⟨x2, rfl, h4⟩
      have H4 := hid h4
      clear h4 HT
      go_wp2
      go_ret3
      refine ⟨x, _, t, [], e0, rfl, ⟨e0, l2, HE.out, by rw [if_neg HK.out], by rw [if_neg HK.out]⟩, ?_⟩
      exact (H4.out.drop.drop.nil 5 1).swap
/-! ### A decoder that is none -/
theorem ifeed_none (v : Value) (w : World) : Calls Tryd.prog 11 #[.pointer none, v] w fun e w' => e = .returned (.tuple #[]) ∧ w' = w := by
  go_enter Tryd.func11, Tryd.ntmps11
  go_wp2
  refine bodyPost_ret (results_none rfl _ _ _) rfl ?_
  exact ⟨rfl, rfl⟩
theorem itake_none (n : Int) (w : World) : Calls Tryd.prog 12 #[.pointer none, .int .i64 n] w fun e w' => e = .returned (.tuple #[.slice none 0 0, .int .i64 8]) ∧ w' = w := by
  go_enter Tryd.func12, Tryd.ntmps12
  go_wp2
  go_ret2
  exact ⟨rfl, rfl⟩
theorem irest_none (w : World) : Calls Tryd.prog 13 #[.pointer none] w fun e w' => e = .returned (.slice none 0 0) ∧ w' = w := by
  go_enter Tryd.func13, Tryd.ntmps13
  go_wp2
  go_ret
  exact ⟨rfl, rfl⟩
end
end Go.Proofs.YtmmfkppkmgjljaaDoor
