/-
  The landed decoder's step.
-/
import Derived.Test.YtbkbkmgogbgofaaDoorZh18
namespace Go.Proofs.YtbkbkmgogbgofaaDoor
set_option maxRecDepth 5000
open Go.RowKit
structure FInv (c : DC) (e : Nat) (l : List Nat) : Prop where
  st : c.st = 8
  en : c.en = e
  kind : e = 2 ∨ e = 3 ∨ e = 6 ∨ e = 8
  bits : isBits l
  len : l.length < bigD
  left : e ≠ 8 → l = []
inductive SOut (w0 w' : World) (p : Place) (M : Nat) (ph : Ph) (c : DC) (l o got : List Nat) (ls : List Int) (Ts : List (List Int × Nat)) (Rs : List Thing) : Nat → Prop
  | go {c' : DC} {v' : Value} {bs' l' o' t : List Nat} {ls' : List Int} {Ts' : List (List Int × Nat)} {ph' p1 : Ph} {l1 o1 : List Nat} (H : Held w0 w' (decM p c' v' bs' l' o' (got ++ t) ls' Ts' Rs)) (hi : DInv M c' ls' Ts' ph' l' o' (got ++ t))
      (hs : stepM M l o ph = .go p1 l1 o1) (hr : Reach M p1 l1 o1 ph' l' o') (ho : o' = o ++ t) (hroom : c'.room + t.length = c.room) : SOut w0 w' p M ph c l o got ls Ts Rs 0
  | wait {v' : Value} {bs' : List Nat} (H : Held w0 w' (decM p c v' bs' l o got ls Ts Rs)) (hs : stepM M l o ph = .err 5) : SOut w0 w' p M ph c l o got ls Ts Rs 5
  | fin {c' : DC} {v' : Value} {bs' l' : List Nat} {Ts' : List (List Int × Nat)} {e : Nat} (H : Held w0 w' (decM p c' v' bs' l' [] got [] Ts' Rs)) (hf : FInv c' e l') (hs : stepM M l o ph = .done l' ∧ e = 8 ∨ stepM M l o ph = .err e ∧ l' = []) (hroom : c'.room = c.room) : SOut w0 w' p M ph c l o got ls Ts Rs e
section
variable {w0 w : World} {Rs : List Thing} {p : Place} {c : DC} {v : Value} {bs l o got : List Nat} {ls : List Int} {Ts : List (List Int × Nat)} {M : Nat}
theorem step_fin (h : Held w0 w (decM p c v bs l o got ls Ts Rs)) (e : Nat) (hs : c.st = 8) (he : c.en = e) :
    Calls Tryd.prog 27 #[.pointer (some ⟨p.b, p.o, none⟩)] w fun e' w' => e' = .returned (.int .i64 (e : Int)) ∧ w' = w := by
  have c7 : w.cell? ⟨p.b, p.o + 7, none⟩ = some (.int .i64 8) := by
    have := dcell h 7 _ rfl
    rw [this, hs]; rfl
  have c20 : w.cell? ⟨p.b, p.o + 20, none⟩ = some (.int .i64 (e : Int)) := by
    rw [← he]; exact dcell h 20 _ rfl
  clear h hs he
  go_enter Tryd.func27, Tryd.ntmps27
  go_wp2
  go_ret
  exact ⟨rfl, rfl⟩
theorem endM_done {b : Bool} {l o l' : List Nat} (h : endM b l o = .done l') : l' = l := by
  unfold endM at h
  split at h
  · cases h; rfl
  · cases h
theorem done_bits {M : Nat} {ph : Ph} {l o l' : List Nat} (hb : isBits l) (h : stepM M l o ph = .done l') : isBits l' ∧ l'.length ≤ l.length := by
  have key : ∀ n, l' = l.drop n → isBits l' ∧ l'.length ≤ l.length := fun n e => by rw [e]; exact ⟨isBits_drop hb n, by rw [List.length_drop]; omega⟩
  cases ph with
  | hd =>
    have h' : hdM l o = .done l' := h
    unfold hdM at h'
    split at h'
    · cases h'
    · split at h'
      · cases h'
      · split at h'
        · cases h'
        · split at h' <;> cases h'
  | sz b =>
    have h' : szM b l o = .done l' := h
    unfold szM szR at h'
    split at h'
    · cases h'
    · split at h' <;> cases h'
  | sto b n =>
    have h' : stoM M b n l o = .done l' := h
    unfold stoM at h'
    split at h'
    · exact key 0 (by rw [endM_done h']; rfl)
    · split at h'
      · cases h'
      · split at h' <;> cases h'
  | cnt b =>
    have h' : cntM b l o = .done l' := h
    unfold cntM at h'
    split at h'
    · cases h'
    · split at h' <;> cases h'
  | thd b A B C =>
    have h' : thdM b A B C l o = .done l' := h
    unfold thdM at h'
    split at h'
    · cases h'
    · split at h' <;> cases h'
  | len b A B head ls =>
    have h' : lenM b A B head ls l o = .done l' := h
    unfold lenM lenR at h'
    split at h'
    · split at h' <;> cases h'
    · split at h' <;> cases h'
  | tok b lit dist =>
    have h' : tokR M b lit dist l o (symF lit l) = .done l' := h
    unfold tokR at h'
    split at h'
    · cases h'
    · split at h'
      · exact key _ (endM_done h')
      · split at h'
        · split at h' <;> cases h'
        · split at h'
          · cases h'
          · unfold matM at h'
            split at h'
            · cases h'
            · unfold matR at h'
              split at h'
              · cases h'
              · unfold farM at h'
                split at h'
                · cases h'
                · split at h'
                  · cases h'
                  · split at h' <;> cases h'
  | cop b lit dist n d =>
    have h' : copM M b lit dist n d l o = .done l' := h
    unfold copM at h'
    split at h'
    · cases h'
    · split at h' <;> cases h'
theorem fin_things {c' : DC} {v' : Value} {bs' l' : List Nat} {Ts' : List (List Int × Nat)} (hw : c'.wv = .slice none 0 0) (hh : c'.hv = .slice none 0 0) {wv hv : Value} {n m : Nat} {xs ys : List Value}
    (h : Held w0 w (rdmT (decP p c') v' bs' l' :: ownT 5 1 wv n xs :: ownT 5 1 c'.lv got.length (u8s got) :: ownT 3 1 hv m ys :: tabsT Ts' :: Rs)) : Held w0 w (decM p c' v' bs' l' [] got [] Ts' Rs) := by
  unfold decM
  rw [hw, hh]
  have h1 := dec_nils h
  have h2 := (h1.swap.drop.nil 5 1).swap
  exact h2
theorem reach_st {ph : Ph} (h : PhC c ls Ts ph) : c.st ≠ 8 := by
  cases ph with
  | hd => rw [show c.st = 0 from h]; decide
  | sz b => rw [show c.st = 1 from h.1]; decide
  | sto b n => rw [show c.st = 2 from h.1]; decide
  | cnt b => rw [show c.st = 3 from h.1]; decide
  | thd b A B C => rw [show c.st = 4 from h.1]; decide
  | len b A B head l => rw [show c.st = 5 from h.1]; decide
  | tok b lit dist => rw [show c.st = 6 from h.1]; decide
  | cop b lit dist n d => rw [show c.st = 7 from h.1]; decide
set_option maxHeartbeats 6400000 in
theorem step_run (ph : Ph) (hG : GlobI w0) (h : Held w0 w (decM p c v bs l o got ls Ts Rs)) (hi : DInv M c ls Ts ph l o got) (hr : 0 < c.room) :
    Calls Tryd.prog 27 #[.pointer (some ⟨p.b, p.o, none⟩)] w fun e w' => ∃ er : Nat, e = .returned (.int .i64 (er : Int)) ∧ SOut w0 w' p M ph c l o got ls Ts Rs er := by
  have h8 := reach_st hi.cell
  have hI8 : ¬ (c.st : Int) = 8 := by omega
  have hB8 : ((c.st : Int) == 8) = false := by simp; omega
  obtain ⟨ao, cap, s, cc, bs1, hf, hblk, h1⟩ := rdm_remark h
  obtain ⟨n1, hn1⟩ : ∃ n, n = bs1.length := ⟨_, rfl⟩
  rw [← hn1] at hblk h1
  have c0 := hblk.cell0 rfl
  have c1 := hblk.cell (i := 1) rfl
  have c2 := hblk.cell (i := 2) rfl
  unfold decP at c0 c1 c2
  dsimp only at c0 c1 c2
  have c7 : w.cell? ⟨p.b, p.o + 7, none⟩ = some (.int .i64 (c.st : Int)) := dcell h 7 _ rfl
  have h2 := h1.newObj [.slice ao n1 cap, .int .u64 (s : Int), .int .i64 (cc : Int)] 39
  have h3 : Held w0 (w.alloc (.cells #[.slice ao n1 cap, .int .u64 (s : Int), .int .i64 (cc : Int)] 39)) (decM p c (.slice ao n1 cap) bs1 l o got ls Ts (objT w.heap.size [.slice ao n1 cap, .int .u64 (s : Int), .int .i64 (cc : Int)] 39 :: Rs)) := by
    unfold decM
    exact h2.perm (List.perm_middle (l₁ := [_, _, _, _, _])).symm
  have HRD := hid (read_all ph hG h3 hi hr)
  have HF := hid hf
  have HI := hid hi
  have HN := hid hn1
  generalize c.st = st at *
  clear h h1 h2 h3 hi hf hblk hr h8 hn1
  go_enter Tryd.func27, Tryd.ntmps27
  go_wp2_with fail
  with_reducible refine HRD.out.mono ?_
  rintro e w2 ⟨er, rfl, hR⟩
  clear HRD c0 c1 c2 c7
  cases hR with
  | go H hi hs hr ho hroom =>
    rename_i c' l' o' t ls' Ts' ph' p1 l1 o1
    have HH := hid (And.intro H (And.intro hi (And.intro hs (And.intro hr (And.intro ho hroom)))))
    clear H hi hs hr ho hroom
    go_wp2
    go_ret
    obtain ⟨H, hi, hs, hr, ho, hroom⟩ := HH.out
    exact ⟨0, rfl, .go (H.perm (List.perm_middle (l₁ := [_, _, _, _, _]))).drop hi hs hr ho hroom⟩
  | over H hs hroom =>
    rename_i c' l'
    have HFI := finish_any 8 H
    rw [show (((8 : Nat)) : Int) = 8 from rfl, if_pos rfl] at HFI
    have HFI := hid HFI
    have HH := hid (And.intro hs hroom)
    clear H hs hroom
    go_wp2_with fail
    with_reducible refine HFI.out.mono ?_
    rintro e w3 ⟨rfl, v', bs', h3⟩
    have H3 := hid (fin_things (Rs := objT w.heap.size [.slice ao n1 cap, .int .u64 (s : Int), .int .i64 (cc : Int)] 39 :: Rs) (c' := finC c' 8) rfl rfl h3)
    clear h3 HFI
    go_wp2
    go_ret
    obtain ⟨hb, hl⟩ := done_bits HI.out.ok.bits HH.out.1
    exact ⟨8, rfl, .fin (c' := finC c' 8) (H3.out.perm (List.perm_middle (l₁ := [_, _, _, _, _]))).drop ⟨rfl, rfl, by decide, hb, Nat.lt_of_le_of_lt hl HI.out.len, fun h => absurd rfl h⟩ (.inl ⟨HH.out.1, rfl⟩) HH.out.2.1⟩
  | bad H hs h5 hroom =>
    rename_i c' l' ls' Ts'
    by_cases h : er = 5
    · subst h
      obtain ⟨rfl, rfl, rfl⟩ := h5 rfl
      have b0 := (H.at6 : Held w0 w2 (objT w.heap.size [.slice ao n1 cap, .int .u64 (s : Int), .int .i64 (cc : Int)] 39 :: _)).obj.cell (i := 0) rfl
      have b1 := (H.at6 : Held w0 w2 (objT w.heap.size [.slice ao n1 cap, .int .u64 (s : Int), .int .i64 (cc : Int)] 39 :: _)).obj.cell (i := 1) rfl
      have b2 := (H.at6 : Held w0 w2 (objT w.heap.size [.slice ao n1 cap, .int .u64 (s : Int), .int .i64 (cc : Int)] 39 :: _)).obj.cell (i := 2) rfl
      obtain ⟨a3, n3, cap3, s3, cc3, h6⟩ := rdm_open H
      have hblk := h6.objp
      have c0 := hblk.cell0 rfl
      have c1 := hblk.cell (i := 1) rfl
      have c2 := hblk.cell (i := 2) rfl
      have f0 := hblk.frozen0
      have f1 := hblk.frozen 1
      have f2 := hblk.frozen 2
      unfold decP at c0 c1 c2 f0 f1 f2
      dsimp only at c0 c1 c2 f0 f1 f2
      have H7 := hid (rdm_restore HF.out H)
      have HS := hid hs
      unfold decP at H7
      dsimp only at H7
      clear H hs h5 hroom h6 hblk
      go_wp2
      go_ret
      exact ⟨5, rfl, .wait (H7.out.perm (List.perm_middle (l₁ := [_, _, _, _, _]))).drop HS.out⟩
    · have hk := stepM_err hs
      have hz : er ≠ 0 := by omega
      have hB0 : ((er : Int) == 0) = false := by simp; omega
      have hB5 : ((er : Int) == 5) = false := by simp; omega
      have hI0 : ¬ (er : Int) = 0 := by omega
      have hI5 : ¬ (er : Int) = 5 := by omega
      have h88 : er ≠ 8 := by omega
      have HFI := finish_any er H
      rw [if_neg h88] at HFI
      have HFI := hid HFI
      have HH := hid (And.intro hs (And.intro hroom (And.intro hk h)))
      clear H hs h5 hroom h hk hz h88
      go_wp2_with fail
      with_reducible refine HFI.out.mono ?_
      rintro e w3 ⟨rfl, v', bs', h3⟩
      have H3 := hid (fin_things (Rs := objT w.heap.size [.slice ao n1 cap, .int .u64 (s : Int), .int .i64 (cc : Int)] 39 :: Rs) (c' := finC c' er) rfl rfl h3)
      clear h3 HFI
      go_wp2
      go_ret
      obtain ⟨hs, hroom, hk, h5⟩ := HH.out
      exact ⟨er, rfl, .fin (c' := finC c' er) (H3.out.perm (List.perm_middle (l₁ := [_, _, _, _, _]))).drop ⟨rfl, rfl, by omega, (fun b hb => by cases hb), by decide, (fun _ => rfl)⟩ (.inr ⟨hs, rfl⟩) hroom.1⟩
end
end Go.Proofs.YtbkbkmgogbgofaaDoor
/-
  The landed decoder between calls; its Take.
-/
namespace Go.Proofs.YtbkbkmgogbgofaaDoor
set_option maxRecDepth 5000
open Go.RowKit
inductive DSt where
  | run (ph : Ph) (l o : List Nat)
  | fin (e : Nat) (l : List Nat)
structure DPar where
  c : DC
  v : Value
  bs : List Nat
  ls : List Int
  Ts : List (List Int × Nat)
def DSt.l : DSt → List Nat
  | .run _ l _ => l
  | .fin _ l => l
def DSt.o : DSt → List Nat
  | .run _ _ o => o
  | .fin _ _ => []
def room0 (c : DC) : DC := { c with room := 0 }
def DecOK (M : Nat) (x : DPar) : DSt → Prop
  | .run ph l o => DInv M (room0 x.c) x.ls x.Ts ph l o []
  | .fin e l => FInv x.c e l ∧ x.ls = []
def decL (p : Place) (x : DPar) (s : DSt) : List Thing := decM p x.c x.v x.bs s.l s.o [] x.ls x.Ts []
def decT (p : Place) (M : Nat) (s : DSt) : Thing := exT fun x : DPar => factT (DecOK M x s) (allT (decL p x s))
section
variable {w0 w : World} {Rs : List Thing} {p : Place} {M : Nat}
theorem dec_open {s : DSt} (h : Held w0 w (decT p M s :: Rs)) : ∃ x : DPar, DecOK M x s ∧ Held w0 w (decM p x.c x.v x.bs s.l s.o [] x.ls x.Ts Rs) := by
  obtain ⟨x, h1⟩ := h.ex
  obtain ⟨hf, h2⟩ := h1.fact
  exact ⟨x, hf, h2.unall⟩
theorem dec_shut {s : DSt} (x : DPar) (hf : DecOK M x s) (h : Held w0 w (decM p x.c x.v x.bs s.l s.o [] x.ls x.Ts Rs)) : Held w0 w (decT p M s :: Rs) :=
  Held.mk (R := fun x : DPar => factT (DecOK M x s) (allT (decL p x s))) x (Held.mkFact hf (Held.all (L := decL p x s) h))
theorem phC_room {c : DC} {ls : List Int} {Ts : List (List Int × Nat)} {ph : Ph} {r : Int} (h : PhC c ls Ts ph) : PhC { c with room := r } ls Ts ph := by
  cases ph <;> exact h
theorem DInv.room2 {c : DC} {ls : List Int} {Ts : List (List Int × Nat)} {ph : Ph} {l o got : List Nat} {r : Int} (h : DInv M c ls Ts ph l o got) (h1 : 0 ≤ r) (h2 : r ≤ 9223372036854775807) : DInv M { c with room := r } ls Ts ph l o got :=
  ⟨phC_room h.cell, h.fx, h.ok, h.most, h.big, h.len, h.got, h1, h2⟩
theorem DInv.lv {c : DC} {ls : List Int} {Ts : List (List Int × Nat)} {ph : Ph} {l o got : List Nat} {u : Value} (h : DInv M c ls Ts ph l o got) : DInv M (room0 { c with lv := u }) ls Ts ph l o [] :=
  ⟨by have := h.cell; cases ph <;> exact this, h.fx, h.ok, h.most, h.big, h.len, Nat.zero_le _, (show (0 : Int) ≤ 0 by decide), (show (0 : Int) ≤ 9223372036854775807 by decide)⟩
/-! ### How far a step goes -/
theorem step_mu {ph ph' : Ph} {l o l' o' : List Nat} (h : MOk ph l o) (hs : stepM M l o ph = .go ph' l' o') : (mu ph' l' : Int) - 2 * o'.length < (mu ph l : Int) - 2 * o.length := by
  obtain ⟨⟨_, _, t, ht, _, _⟩, hm⟩ := stepM_ok h.bits h.byt h.ph hs
  have hl : o'.length = o.length + t.length := by rw [ht, List.length_append]
  rcases hm with hm | ⟨hm, he⟩ <;> omega
theorem reach_mu {ph ph' : Ph} {l o l' o' : List Nat} (h : MOk ph l o) (hr : Reach M ph l o ph' l' o') : (mu ph' l' : Int) - 2 * o'.length ≤ (mu ph l : Int) - 2 * o.length := by
  induction hr with
  | refl => exact Int.le_refl _
  | step hs _ ih =>
    have h1 := step_mu h hs
    have h2 := ih (h.step hs).1
    omega
inductive TakeOut (M : Nat) (ph : Ph) (l o : List Nat) (n : Int) : List Nat → Nat → DSt → Prop
  | full {ph' : Ph} {l' t : List Nat} (ht : (t.length : Int) = max n 0) (hr : Reach M ph l o ph' l' (o ++ t)) : TakeOut M ph l o n t 0 (.run ph' l' (o ++ t))
  | wait {ph' : Ph} {l' t : List Nat} (ht : (t.length : Int) < n) (hr : Reach M ph l o ph' l' (o ++ t)) (hs : stepM M l' (o ++ t) ph' = .err 5) : TakeOut M ph l o n t 5 (.run ph' l' (o ++ t))
  | fin {ph' : Ph} {l' l2 t : List Nat} {e er : Nat} (ht : (t.length : Int) < n) (hr : Reach M ph l o ph' l' (o ++ t)) (hs : stepM M l' (o ++ t) ph' = .done l2 ∧ e = 8 ∨ stepM M l' (o ++ t) ph' = .err e ∧ l2 = []) (h5 : e ≠ 5)
      (her : er = if t = [] then e else 5) : TakeOut M ph l o n t er (.fin e l2)
inductive TkSt (w0 wr : World) (p : Place) (M : Nat) (ph0 : Ph) (l0 o0 : List Nat) (n : Nat) (Rs : List Thing) (gg : Nat) : Nat → Prop
  | on {c : DC} {v : Value} {bs l t : List Nat} {ls : List Int} {Ts : List (List Int × Nat)} {ph : Ph} (H : Held w0 wr (decM p c v bs l (o0 ++ t) t ls Ts Rs)) (hi : DInv M c ls Ts ph l (o0 ++ t) t) (hr : Reach M ph0 l0 o0 ph l (o0 ++ t)) (hroom : c.room + t.length = n)
      (hg : mu ph l + 2 * c.room.toNat + 1 < gg) : TkSt w0 wr p M ph0 l0 o0 n Rs gg 0
  | wait {c : DC} {v : Value} {bs l t : List Nat} {ls : List Int} {Ts : List (List Int × Nat)} {ph : Ph} (H : Held w0 wr (decM p c v bs l (o0 ++ t) t ls Ts Rs)) (hi : DInv M c ls Ts ph l (o0 ++ t) t) (hr : Reach M ph0 l0 o0 ph l (o0 ++ t)) (hroom : c.room + t.length = n) (h0 : 0 < c.room)
      (hs : stepM M l (o0 ++ t) ph = .err 5) (hg : 0 < gg) : TkSt w0 wr p M ph0 l0 o0 n Rs gg 5
  | fin {c : DC} {v : Value} {bs l l2 t : List Nat} {Ts : List (List Int × Nat)} {ph : Ph} {e : Nat} (H : Held w0 wr (decM p c v bs l2 [] t [] Ts Rs)) (hf : FInv c e l2) (hr : Reach M ph0 l0 o0 ph l (o0 ++ t)) (ht : t.length < n)
      (hs : stepM M l (o0 ++ t) ph = .done l2 ∧ e = 8 ∨ stepM M l (o0 ++ t) ph = .err e ∧ l2 = []) (hg : 0 < gg) : TkSt w0 wr p M ph0 l0 o0 n Rs gg e
theorem take_own {c : DC} {v : Value} {bs l o got : List Nat} {ls : List Int} {Ts : List (List Int × Nat)} (h : Held w0 w (decM p c v bs l o got ls Ts Rs)) :
    Calls Tryd.prog 28 #[.pointer (some ⟨p.b, p.o + 3, none⟩)] w fun e w' => e = .returned c.lv ∧ Held w0 w' (ownT 5 1 c.lv got.length (u8s got) :: decM p { c with lv := .slice none 0 0 } v bs l o [] ls Ts Rs) := by
  refine (otake_any got got.length (h.perm (List.Perm.cons _ (List.Perm.swap _ _ _)))).mono ?_
  rintro e w' ⟨rfl, h2⟩
  refine ⟨rfl, ?_⟩
  have h3 := h2.swap.nil 5 1
  exact h3.perm (List.perm_middle (l₁ := [_, _, _]) (a := ownT 5 1 (.slice none 0 0) 0 [])).symm
theorem take_turn {R1 R2 R3 R4 R5 R6 : Thing} (h : Held w0 w (R6 :: R1 :: R2 :: R3 :: R4 :: R5 :: Rs)) : Held w0 w (R1 :: R2 :: R3 :: R4 :: R5 :: R6 :: Rs) := h.perm (List.perm_middle (l₁ := [_, _, _, _, _])).symm
theorem FInv.lv {c : DC} {e : Nat} {l : List Nat} {u : Value} (h : FInv c e l) : FInv { c with lv := u } e l := ⟨h.st, h.en, h.kind, h.bits, h.len, h.left⟩
set_option maxHeartbeats 6400000 in
theorem take_pos (ph0 : Ph) (l0 o0 : List Nat) (n : Nat) (hn : 0 < n) (hn2 : n ≤ 9223372036854775807) (hG : GlobI w0) (h : Held w0 w (decT p M (.run ph0 l0 o0) :: Rs)) :
    Calls Tryd.prog 22 #[.pointer (some ⟨p.b, p.o, none⟩), .int .i64 (n : Int)] w fun e w' => ∃ (x : Value) (t : List Nat) (er : Nat) (s' : DSt), e = .returned (.tuple #[x, .int .i64 (er : Int)]) ∧ TakeOut M ph0 l0 o0 n t er s' ∧
      Held w0 w' (ownT 5 1 x t.length (u8s t) :: decT p M s' :: Rs) := by
  obtain ⟨x, hok, h1⟩ := dec_open h
  obtain ⟨c, v, bs, ls, Ts⟩ := x
  have c5 : w.cell? ⟨p.b, p.o + 3 + 2, none⟩ = some (.int .i64 c.room) := dcell h1 5 _ rfl
  have f5 : w.frozen? ⟨p.b, p.o + 3 + 2, none⟩ = false := dfroz h1 5
  have h2 := dset h1 5 (.int .i64 (n : Int)) { c with room := (n : Int) } rfl
  have hi2 : DInv M { c with room := (n : Int) } ls Ts ph0 l0 o0 [] := (show DInv M (room0 c) ls Ts ph0 l0 o0 [] from hok).room2 (by omega) (by omega)
  have HST : Hid (TkSt w0 (w.setCell ⟨p.b, p.o + 3 + 2, none⟩ (.int .i64 (n : Int))) p M ph0 l0 o0 n Rs (mu ph0 l0 + 2 * n + 2) 0) := by
    refine hid (.on (c := { c with room := (n : Int) }) (v := v) (bs := bs) (l := l0) (t := []) (ls := ls) (Ts := Ts) (ph := ph0) ?_ ?_ ?_ ?_ ?_)
    · rw [List.append_nil]; exact h2
    · rw [List.append_nil]; exact hi2
    · rw [List.append_nil]; exact .refl
    · simp
    · show mu ph0 l0 + 2 * ((n : Int)).toNat + 1 < _
      omega
  clear h h1 h2 hi2 hok
  go_enter Tryd.func22, Tryd.ntmps22
  go_wp2
  go_loopg [6] (mu ph0 l0 + 2 * n + 2) (fun gg t6 wr => ∃ er : Nat, t6 = .int .i64 (er : Int) ∧ Hid (TkSt w0 wr p M ph0 l0 o0 n Rs gg er))
  case atStart => exact ⟨0, rfl, HST⟩
  case round =>
    obtain ⟨er, rfl, HT⟩ := hrel
    have hT := HT.out
    cases hT with
    | on H hi hr hroom hg =>
      rename_i c v bs l t ls Ts ph
      have c5 : wr.cell? ⟨p.b, p.o + 3 + 2, none⟩ = some (.int .i64 c.room) := dcell H 5 _ rfl
      by_cases h0 : 0 < c.room
      · have HS := hid (step_run ph hG H hi h0)
        clear H HT
        go_wp2_with fail
        with_reducible refine HS.out.mono ?_
        rintro e w3 ⟨er, rfl, ho⟩
        have HO := hid ho
        clear ho HS
        go_wp2
        go_roundg (gk - 1)
        case measure => omega
        case rel =>
          refine ⟨er, rfl, hid ?_⟩
          have ho := HO.out
          cases ho with
          | go H hi2 hs hr2 ho hroom2 =>
            subst ho
            have hm := step_mu hi.ok hs
            have hm2 := reach_mu (hi.ok.step hs).1 hr2
            have h0r := hi2.room
            rw [List.append_assoc] at H hi2 hr2 hm2
            refine .on H hi2 (hr.trans (.step hs hr2)) (by rw [List.length_append]; omega) ?_
            simp only [List.length_append] at hm hm2
            omega
          | wait H hs => exact .wait H hi hr hroom h0 hs (by omega)
          | fin H hf hs hroom2 => exact .fin H hf hr (by omega) hs (by omega)
      · have hz : c.room = 0 := by have := hi.room; omega
        obtain ⟨ao, cap, hlv, _, _⟩ := H.third.own.form
        have HK := hid (take_own H)
        rw [hlv] at HK
        have HI := hid (And.intro hi (And.intro hr hroom))
        clear H HT hi hr
        go_wp2_with fail
        with_reducible refine HK.out.mono ?_
        rintro e w3 ⟨rfl, h4⟩
        have H4 := hid h4
        clear h4 HK
        go_wp2
        go_ret2
        exact ⟨_, t, 0, .run ph l (o0 ++ t), rfl, .full (by have := HI.out.2.2; omega) HI.out.2.1, (dec_shut (s := .run ph l (o0 ++ t)) ⟨{ c with lv := .slice none 0 0 }, v, bs, ls, Ts⟩ HI.out.1.lv (take_turn H4.out)).swap⟩
    | wait H hi hr hroom h0 hs hg =>
      rename_i c v bs l t ls Ts ph
      obtain ⟨ao, cap, hlv, _, _⟩ := H.third.own.form
      have HK := hid (take_own H)
      rw [hlv] at HK
      have HI := hid (And.intro hi (And.intro hr (And.intro hs (And.intro hroom h0))))
      clear H HT hi hr hs
      have hfin : ∀ w3, Held w0 w3 (ownT 5 1 (.slice ao t.length cap) t.length (u8s t) :: decM p { c with lv := .slice none 0 0 } v bs l (o0 ++ t) [] ls Ts Rs) → ∃ (x : Value) (t' : List Nat) (er : Nat) (s' : DSt), (Ending.returned (.tuple #[.slice ao t.length cap, .int .i64 5])) = .returned (.tuple #[x, .int .i64 (er : Int)]) ∧ TakeOut M ph0 l0 o0 n t' er s' ∧ Held w0 w3 (ownT 5 1 x t'.length (u8s t') :: decT p M s' :: Rs) := fun w3 h4 =>
        ⟨_, t, 5, .run ph l (o0 ++ t), rfl, .wait (by have := HI.out.2.2.2; omega) HI.out.2.1 HI.out.2.2.1, (dec_shut (s := .run ph l (o0 ++ t)) ⟨{ c with lv := .slice none 0 0 }, v, bs, ls, Ts⟩ HI.out.1.lv (take_turn h4)).swap⟩
      have HF := hid hfin
      clear hfin
      by_cases hl : (0 : Int) < (t.length : Int)
      · go_wp2_with fail
        with_reducible refine HK.out.mono ?_
        rintro e w3 ⟨rfl, h4⟩
        have H4 := hid h4
        clear h4 HK
        go_wp2
        go_ret2
        exact HF.out _ H4.out
      · go_wp2_with fail
        with_reducible refine HK.out.mono ?_
        rintro e w3 ⟨rfl, h4⟩
        have H4 := hid h4
        clear h4 HK
        go_wp2
        go_ret2
        exact HF.out _ H4.out
    | fin H hf hr ht hs hg =>
      rename_i c v bs l l2 t Ts ph
      obtain ⟨ao, cap, hlv, _, _⟩ := H.third.own.form
      have HK := hid (take_own H)
      rw [hlv] at HK
      have hz : er ≠ 0 := by have := hf.kind; omega
      have h5 : er ≠ 5 := by have := hf.kind; omega
      have hB0 : ((er : Int) == 0) = false := by simp; omega
      have hI0 : ¬ (er : Int) = 0 := by omega
      have hN0 : ((er : Int) != 0) = true := by simp; omega
      have HI := hid (And.intro hf (And.intro hr (And.intro hs (And.intro ht h5))))
      clear H HT hf hr hs
      have hfin : ∀ w3 (er' : Nat), er' = (if t = [] then er else 5) → Held w0 w3 (ownT 5 1 (.slice ao t.length cap) t.length (u8s t) :: decM p { c with lv := .slice none 0 0 } v bs l2 [] [] [] Ts Rs) → ∃ (x : Value) (t' : List Nat) (er2 : Nat) (s' : DSt), (Ending.returned (.tuple #[.slice ao t.length cap, .int .i64 (er' : Int)])) = .returned (.tuple #[x, .int .i64 (er2 : Int)]) ∧ TakeOut M ph0 l0 o0 n t' er2 s' ∧ Held w0 w3 (ownT 5 1 x t'.length (u8s t') :: decT p M s' :: Rs) := fun w3 er' he h4 =>
        ⟨_, t, er', .fin er l2, rfl, .fin (by have := HI.out.2.2.2.1; omega) HI.out.2.1 HI.out.2.2.1 HI.out.2.2.2.2 he, (dec_shut (s := .fin er l2) ⟨{ c with lv := .slice none 0 0 }, v, bs, [], Ts⟩ ⟨HI.out.1.lv, rfl⟩ (take_turn h4)).swap⟩
      have HF := hid hfin
      clear hfin
      by_cases hn : t = []
      · have hl : ¬ (0 : Int) < (t.length : Int) := by rw [hn]; decide
        replace hn := hid hn
        go_wp2_with fail
        with_reducible refine HK.out.mono ?_
        rintro e w3 ⟨rfl, h4⟩
        have H4 := hid h4
        clear h4 HK
        go_wp2
        go_ret2
        exact HF.out _ er (by rw [if_pos hn.out]) H4.out
      · have hl : (0 : Int) < (t.length : Int) := by
          cases t with
          | nil => exact absurd rfl hn
          | cons a b => simp only [List.length_cons]; omega
        go_wp2_with fail
        with_reducible refine HK.out.mono ?_
        rintro e w3 ⟨rfl, h4⟩
        have H4 := hid h4
        clear h4 HK
        go_wp2
        go_ret2
        exact HF.out _ 5 (by rw [if_neg hn]) H4.out
end
end Go.Proofs.YtbkbkmgogbgofaaDoor
