/-
  What a call reads beside what it holds: 'Reads'. No program is named here.
-/
import Derived.Test.YtbkbkmgogbgofaaDoorZh04
import Derived.Test.YtbkbkmgogbgofaaDoorZh07
import Derived.Test.YtbkbkmgogbgofaaDoorZh11
import Derived.Handy
namespace Go.Proofs.YtbkbkmgogbgofaaDoor
set_option maxRecDepth 5000
open Go.RowKit
section
variable {w0 w : World} {S : Thing} {size : Nat} {v : Value} {n : Nat} {xs : List Value} {Rs : List Thing}
theorem Held.mid {A B C : Thing} (h : Held w0 w (A :: B :: C :: Rs)) : Held w0 w (A :: C :: B :: Rs) := h.perm ((List.Perm.swap C B Rs).cons A)
end
end Go.Proofs.YtbkbkmgogbgofaaDoor
/-
  The landed decoder as a thing in memory: its object with a reader in it and what that was at a mark, its window, its list, its lengths, its tables.
-/
namespace Go.Proofs.YtbkbkmgogbgofaaDoor
set_option maxRecDepth 5000
open Go.RowKit
/-! ### A reader's parts -/
structure RdFact (l bs : List Nat) (s c : Nat) : Prop where
  fits : s < 2 ^ c
  byt : ∀ b ∈ bs, b < 256
  few : c ≤ 39
  is : l = bitsOf c s ++ bits8 bs
def rdsT (v : Value) (bs : List Nat) (d : Value) (l : List Nat) (s c : Nat) : Thing where
  res := fun w F => ∃ bs1, RdFact l bs1 s c ∧ Own w 5 1 d bs1.length (u8s bs1) ∧ Own w 5 1 v bs.length (u8s bs) ∧ (d.ownBlock = v.ownBlock ∨ d.ownBlock = none) ∧ ∀ k, F k ↔ v.ownBlock = some k
  loc := fun _ _ _ _ ⟨bs1, h0, h1, h2, h3, h4⟩ hm hS => ⟨bs1, h0, h1.kept hm (fun k hk => hS k ((h4 k).2 (by
    rcases h3 with h3 | h3
    · rw [← h3]; exact hk
    · rw [h3] at hk; cases hk))), h2.kept hm (fun k hk => hS k ((h4 k).2 hk)), h3, h4⟩
section
variable {w0 w : World} {Rs : List Thing} {q : Place} {v : Value} {bs l : List Nat}
theorem rdm_open (h : Held w0 w (rdmT q v bs l :: Rs)) : ∃ (ao : Option Addr) (n cap s c : Nat), Held w0 w (objP q [.slice ao n cap, .int .u64 (s : Int), .int .i64 (c : Int)] :: rdsT v bs (.slice ao n cap) l s c :: Rs) := by
  obtain ⟨F, ⟨d, ⟨bs1, s, c, ⟨h1, h2, h3, h4, h5⟩, h6, h7⟩, h8, h9, h10, h11⟩, h12, h13⟩ := h
  obtain ⟨ao, cap, rfl, _, _⟩ := h2.form
  refine ⟨ao, _, cap, s, c, Held.unpair ⟨F, ⟨fun k => k = q.b, fun k => v.ownBlock = some k, ⟨h1, fun _ => Iff.rfl⟩, ⟨bs1, ⟨h4, h5, h6, h7⟩, h2, h8, h10, fun _ => Iff.rfl⟩, fun k hk e => h9 (by rw [← show k = q.b from hk]; exact e), fun k => h11 k⟩, h12, h13⟩⟩
theorem rdm_close {d : Value} {s c : Nat} (h : Held w0 w (objP q [d, .int .u64 (s : Int), .int .i64 (c : Int)] :: rdsT v bs d l s c :: Rs)) : Held w0 w (rdmT q v bs l :: Rs) := by
  obtain ⟨F, ⟨F1, F2, h1, ⟨bs1, h0, h2, h3, h4, h5⟩, hd, hF⟩, h6, h7⟩ := h.pair
  have hne : v.ownBlock ≠ some q.b := fun e => hd q.b ((h1.2 q.b).2 rfl) ((h5 q.b).2 e)
  refine ⟨F, ⟨d, ⟨bs1, s, c, ⟨h1.1, h2, ?_, h0.fits, h0.byt⟩, h0.few, h0.is⟩, h3, hne, h4, fun k => ?_⟩, h6, h7⟩
  · rcases h4 with h4 | h4
    · rw [h4]; exact hne
    · rw [h4]; intro e; cases e
  · rw [hF, h1.2, h5]
    exact Iff.rfl
theorem rds_now {d : Value} {s c : Nat} (h : Held w0 w (rdsT v bs d l s c :: Rs)) : ∃ bs1, RdFact l bs1 s c ∧ Held w0 w (ownT 5 1 d bs1.length (u8s bs1) :: Rs) := by
  obtain ⟨F, ⟨bs1, h0, h2, h3, h4, h5⟩, h6, h7⟩ := h
  refine ⟨bs1, h0, fun k => d.ownBlock = some k, ⟨h2, fun _ => Iff.rfl⟩, fun k hk => h6 k ((h5 k).2 ?_), h7.less fun k hk => ?_⟩
  · rcases h4 with h4 | h4
    · rw [← h4]; exact hk
    · rw [h4] at hk; cases hk
  · rcases hk with hk | hk
    · exact hk.elim
    · refine .inr ((h5 k).2 ?_)
      rcases h4 with h4 | h4
      · rw [← h4]; exact hk
      · rw [h4] at hk; cases hk
theorem rds_back {d : Value} {s c : Nat} (h : Held w0 w (rdsT v bs d l s c :: Rs)) : Held w0 w (ownT 5 1 v bs.length (u8s bs) :: Rs) := by
  obtain ⟨F, ⟨bs1, h0, h2, h3, h4, h5⟩, h6, h7⟩ := h
  exact ⟨F, ⟨h3, h5⟩, h6, h7⟩
theorem rds_mark {d : Value} {s c : Nat} (hf : RdFact l bs s c) (h : Held w0 w (ownT 5 1 d bs.length (u8s bs) :: Rs)) : Held w0 w (rdsT d bs d l s c :: Rs) := by
  obtain ⟨F, ⟨h1, h2⟩, h3, h4⟩ := h
  exact ⟨F, ⟨bs, hf, h1, h1, .inl rfl, h2⟩, h3, h4⟩
end
/-! ### The decoder's cells behind its reader -/
structure DC where
  wv : Value
  most : Nat
  room : Int
  lv : Value
  st : Nat
  last : Bool
  left : Nat
  dist : Nat
  hA : Nat
  hB : Nat
  hC : Nat
  ht : Option Addr
  hv : Value
  cl : Option Addr
  cd : Option Addr
  fl : Option Addr
  fd : Option Addr
  en : Nat
def DC.post (c : DC) : List Value := [c.wv, .int .i64 (c.most : Int), .int .i64 c.room, c.lv, .int .i64 (c.st : Int), .bool c.last, .int .i64 (c.left : Int), .int .i64 (c.dist : Int),
  .int .i64 (c.hA : Int), .int .i64 (c.hB : Int), .int .i64 (c.hC : Int), .pointer c.ht, c.hv, .pointer c.cl, .pointer c.cd, .pointer c.fl, .pointer c.fd, .int .i64 (c.en : Int)]
def decP (p : Place) (c : DC) : Place := ⟨p.b, p.o, p.pre, c.post ++ p.post, p.T, p.len⟩
section
variable {w0 w : World} {Rs : List Thing} {p : Place} {c : DC} {v : Value} {bs l : List Nat}
theorem dobj_cell {d e f : Value} (h : BlkP w (decP p c) [d, e, f]) (k : Nat) (u : Value) (hv : c.post[k - 3]? = some u) (hk : 3 ≤ k := by decide) : w.cell? ⟨p.b, p.o + k, none⟩ = some u := by
  have h1 : (p.pre ++ ([d, e, f] ++ (c.post ++ p.post)))[p.o + k]? = some u := by
    have hl := p.len
    have hi := (List.getElem?_eq_some_iff.1 hv).1
    rw [List.getElem?_append_right (by omega), show p.o + k - p.pre.length = k by omega, List.getElem?_append_right (by simp only [List.length_cons, List.length_nil]; omega)]
    rw [List.getElem?_append_left (by simpa using hi)]
    exact hv
  exact Blk.cell h h1
theorem dcell (h : Held w0 w (rdmT (decP p c) v bs l :: Rs)) (k : Nat) (u : Value) (hv : c.post[k - 3]? = some u) (hk : 3 ≤ k := by decide) : w.cell? ⟨p.b, p.o + k, none⟩ = some u := by
  obtain ⟨F, ⟨d, ⟨bs1, s, cc, ⟨h1, _⟩, _⟩, _⟩, _⟩ := h
  exact dobj_cell h1 k u hv hk
theorem dfroz (h : Held w0 w (rdmT (decP p c) v bs l :: Rs)) (k : Nat) : w.frozen? ⟨p.b, p.o + k, none⟩ = false := by
  obtain ⟨F, ⟨d, ⟨bs1, s, cc, ⟨h1, _⟩, _⟩, _⟩, _⟩ := h
  exact Blk.frozen h1 _
theorem dset_obj {d e f : Value} (h : Held w0 w (objP (decP p c) [d, e, f] :: Rs)) (k : Nat) (u : Value) (c' : DC) (hc : c'.post = c.post.set (k - 3) u) (hk : 3 ≤ k ∧ k ≤ 20 := by decide) : Held w0 (w.setCell ⟨p.b, p.o + k, none⟩ u) (objP (decP p c') [d, e, f] :: Rs) := by
  have h1 := Held.setObj h (p.o + k) u
  have h2 : (p.pre ++ ([d, e, f] ++ (c.post ++ p.post))).set (p.o + k) u = p.pre ++ ([d, e, f] ++ (c'.post ++ p.post)) := by
    have hl := p.len
    have h18 : c.post.length = 18 := rfl
    rw [List.set_append_right _ _ (by omega), show p.o + k - p.pre.length = k by omega, List.set_append_right _ _ (by simp only [List.length_cons, List.length_nil]; omega)]
    simp only [List.length_cons, List.length_nil]
    rw [List.set_append_left _ _ (by omega), hc]
  have h3 : Held w0 (w.setCell ⟨p.b, p.o + k, none⟩ u) (objT p.b ((p.pre ++ ([d, e, f] ++ (c.post ++ p.post))).set (p.o + k) u) p.T :: Rs) := h1
  rw [h2] at h3
  exact h3
theorem dset (h : Held w0 w (rdmT (decP p c) v bs l :: Rs)) (k : Nat) (u : Value) (c' : DC) (hc : c'.post = c.post.set (k - 3) u) (hk : 3 ≤ k ∧ k ≤ 20 := by decide) : Held w0 (w.setCell ⟨p.b, p.o + k, none⟩ u) (rdmT (decP p c') v bs l :: Rs) := by
  obtain ⟨ao, n, cap, s, cc, h1⟩ := rdm_open h
  exact rdm_close (dset_obj h1 k u c' hc hk)
def winP (p : Place) (c : DC) (d e f : Value) : Place := ⟨p.b, p.o + 3, p.pre ++ [d, e, f], c.post.drop 1 ++ p.post, p.T, by rw [List.length_append, p.len]; rfl⟩
theorem win_obj (p : Place) (c : DC) (d e f : Value) (wv : Value) : objP (winP p c d e f) [wv] = objP (decP p { c with wv := wv }) [d, e, f] := by
  unfold objP winP decP
  simp only [DC.post, List.append_assoc, List.cons_append, List.nil_append, List.drop_succ_cons, List.drop_zero]
theorem win_in {d e f : Value} {o : List Nat} (h : Held w0 w (objP (decP p c) [d, e, f] :: ownT 5 1 c.wv (keep o).length (u8s (keep o)) :: Rs)) : Held w0 w (winT o (winP p c d e f) :: Rs) := by
  refine mkRaw (v := c.wv) rfl ?_
  rw [win_obj]
  exact h
theorem win_out {d e f : Value} {o : List Nat} (h : Held w0 w (winT o (winP p c d e f) :: Rs)) : ∃ wv, Held w0 w (objP (decP p { c with wv := wv }) [d, e, f] :: ownT 5 1 wv (keep o).length (u8s (keep o)) :: Rs) := by
  obtain ⟨wv, h1⟩ := unRaw h
  rw [win_obj] at h1
  exact ⟨wv, h1⟩
end
/-! ### The output -/
section
variable {w0 w : World} {Rs : List Thing} {p : Place} {c : DC} {v : Value} {bs l : List Nat}
theorem share_no (b o : Nat) (n : Int) (h4 : w.cell? ⟨b, o + 1, none⟩ = some (.int .i64 0)) :
    Calls Tryd.prog 50 #[.pointer (some ⟨b, o, none⟩), .int .i64 n] w fun e w' => e = .returned (.tuple #[.int .i64 0, .int .i64 6]) ∧ ∃ k, w' = w.drewN k := by
  go_enter Tryd.func50, Tryd.ntmps50
  go_wp2
  go_ret2
  exact ⟨rfl, 0, rfl⟩
theorem share_yes (b o : Nat) (n most room : Nat) (hm : 0 < most) (h4 : w.cell? ⟨b, o + 1, none⟩ = some (.int .i64 (most : Int))) (h5 : w.cell? ⟨b, o + 2, none⟩ = some (.int .i64 (room : Int))) :
    Calls Tryd.prog 50 #[.pointer (some ⟨b, o, none⟩), .int .i64 (n : Int)] w fun e w' => e = .returned (.tuple #[.int .i64 ((min (min n most) room : Nat) : Int), .int .i64 0]) ∧ ∃ k, w' = w.drewN k := by
  have hm0 : ((most : Int) == 0) = false := by simp; omega
  have hm1 : ¬ (most : Int) = 0 := by omega
  obtain ⟨q1, hq1⟩ : ∃ q1, q1 = min n most := ⟨_, rfl⟩
  obtain ⟨q2, hq2⟩ : ∃ q2, q2 = min q1 room := ⟨_, rfl⟩
  have hi1 : (if most < n then (most : Int) else (n : Int)) = (q1 : Int) := by split <;> omega
  have hi2 : (if room < q1 then (room : Int) else (q1 : Int)) = (q2 : Int) := by split <;> omega
  rw [← hq1, ← hq2]
  have hmin : ∀ wg, (Builtin.min_ #[3, 3, 3] 3 #[.int .i64 (n : Int), .int .i64 (most : Int), .int .i64 (room : Int)]).run Tryd.prog wg = .ok (.int .i64 (q2 : Int)) wg := by
    intro wg
    simp [Builtin.min_, Builtin.min2]
    rw [hi1]
    split <;> omega
  clear hq1 hq2 hi1 hi2
  go_enter Tryd.func50, Tryd.ntmps50
  go_wp2
  go_quiet (fail)
  go_wp2
  go_ret2
  exact ⟨rfl, _, rfl⟩
set_option maxHeartbeats 1600000 in
theorem oput_any (got add : List Nat) (x : Value) (m n : Nat) (h : Held w0 w (rdmT (decP p c) v bs l :: ownT 5 1 c.lv n (u8s got) :: Rs)) (hx : Rd w 1 x m (u8s add)) (hn : n < 1000000000) (hm : m ≤ c.most) (hm2 : (m : Int) ≤ c.room) (hm3 : m < 1000000000) (hmo : c.most < 4000000000000) (hro : c.room ≤ 9223372036854775807) :
    Calls Tryd.prog 64 #[.pointer (some ⟨p.b, p.o + 3, none⟩), x] w fun e w' => e = .returned (.tuple #[]) ∧ ∃ lv, Held w0 w' (rdmT (decP p { c with lv := lv, most := c.most - m, room := c.room - m }) v bs l :: ownT 5 1 lv (n + m) (u8s (got ++ add)) :: Rs) := by
  obtain ⟨i, hi, hz0, hz1, hz2⟩ := info_parts infoByteW
  obtain ⟨wv, most, room, lv, st, last, left, dist, hA, hB, hC, ht, hv, cl, cd, fl, fd, en⟩ := c
  dsimp only at h hm hm2 hmo hro ⊢
  obtain ⟨xo, xcap, rfl, hxc, hxm⟩ := hx.form
  obtain ⟨ao, cap, rfl, hnc, hcm⟩ := h.swap.own.form
  have HX := hid hx
  have HH := hid h.swap
  have c6 : w.cell? ⟨p.b, p.o + 3 + 3, none⟩ = some (.slice ao n cap) := dcell h 6 _ rfl
  have hmI : (most : Int) - (m : Int) = ((most - m : Nat) : Int) := by omega
  clear h hx
  go_enter Tryd.func64, Tryd.ntmps64
  go_wp2_with (at_builtin; refine wpList_app_held rfl (.tmp 8) (.tmp 9) 26 rfl 5 i (.int .u8 0) 1 1 Tryd.underlying26 hi hz0 hz1 hz2 rfl (by decide) _ n (u8s got) rfl HH.out _ m (u8s add) rfl HX.out (u8s_one _) (n + m) rfl (by unfold maxLen; omega) (by omega) ?_; intro ao1 cap1 w2 h2; have H2 := hid h2.swap; have c6b : w2.cell? ⟨p.b, p.o + 3 + 3, none⟩ = some (.slice ao n cap) := dcell h2.swap 6 _ rfl; have c4 : w2.cell? ⟨p.b, p.o + 3 + 1, none⟩ = some (.int .i64 (most : Int)) := dcell h2.swap 4 _ rfl; have c5 : w2.cell? ⟨p.b, p.o + 3 + 2, none⟩ = some (.int .i64 room) := dcell h2.swap 5 _ rfl; have f4 : w2.frozen? ⟨p.b, p.o + 3 + 1, none⟩ = false := dfroz h2.swap 4; have f5 : w2.frozen? ⟨p.b, p.o + 3 + 2, none⟩ = false := dfroz h2.swap 5; have f6 : w2.frozen? ⟨p.b, p.o + 3 + 3, none⟩ = false := dfroz h2.swap 6)
  go_end0
  rw [u8s_append]
  have h3 := dset H2.out 6 (.slice ao1 (n + m) cap1) ⟨wv, most, room, .slice ao1 (n + m) cap1, st, last, left, dist, hA, hB, hC, ht, hv, cl, cd, fl, fd, en⟩ rfl
  have h4 := dset h3 4 (.int .i64 ((most - m : Nat) : Int)) ⟨wv, most - m, room, .slice ao1 (n + m) cap1, st, last, left, dist, hA, hB, hC, ht, hv, cl, cd, fl, fd, en⟩ rfl
  exact ⟨rfl, _, dset h4 5 (.int .i64 (room - (m : Int))) ⟨wv, most - m, room - m, .slice ao1 (n + m) cap1, st, last, left, dist, hA, hB, hC, ht, hv, cl, cd, fl, fd, en⟩ rfl⟩
theorem otake_any (got : List Nat) (n : Nat) (h : Held w0 w (rdmT (decP p c) v bs l :: ownT 5 1 c.lv n (u8s got) :: Rs)) :
    Calls Tryd.prog 28 #[.pointer (some ⟨p.b, p.o + 3, none⟩)] w fun e w' => e = .returned c.lv ∧ Held w0 w' (rdmT (decP p { c with lv := .slice none 0 0 }) v bs l :: ownT 5 1 c.lv n (u8s got) :: Rs) := by
  obtain ⟨wv, most, room, lv, st, last, left, dist, hA, hB, hC, ht, hv, cl, cd, fl, fd, en⟩ := c
  dsimp only at h ⊢
  obtain ⟨ao, cap, rfl, hnc, hcm⟩ := h.swap.own.form
  have HH := hid h
  have c6 : w.cell? ⟨p.b, p.o + 3 + 3, none⟩ = some (.slice ao n cap) := dcell h 6 _ rfl
  have f6 : w.frozen? ⟨p.b, p.o + 3 + 3, none⟩ = false := dfroz h 6
  clear h
  go_enter Tryd.func28, Tryd.ntmps28
  go_wp2
  go_ret
  exact ⟨rfl, dset HH.out 6 (.slice none 0 0) ⟨wv, most, room, .slice none 0 0, st, last, left, dist, hA, hB, hC, ht, hv, cl, cd, fl, fd, en⟩ rfl⟩
theorem oclose_any (h : Held w0 w (rdmT (decP p c) v bs l :: Rs)) :
    Calls Tryd.prog 46 #[.pointer (some ⟨p.b, p.o + 3, none⟩)] w fun e w' => e = .returned (.tuple #[]) ∧ Held w0 w' (rdmT (decP p { c with wv := .slice none 0 0 }) v bs l :: Rs) := by
  obtain ⟨wv, most, room, lv, st, last, left, dist, hA, hB, hC, ht, hv, cl, cd, fl, fd, en⟩ := c
  dsimp only at h ⊢
  have HH := hid h
  have f3 : w.frozen? ⟨p.b, p.o + 3, none⟩ = false := dfroz h 3
  have c3 : w.cell? ⟨p.b, p.o + 3, none⟩ = some wv := dcell h 3 _ rfl
  clear h
  go_enter Tryd.func46, Tryd.ntmps46
  go_wp2
  go_end0
  exact ⟨rfl, dset HH.out 3 (.slice none 0 0) ⟨.slice none 0 0, most, room, lv, st, last, left, dist, hA, hB, hC, ht, hv, cl, cd, fl, fd, en⟩ rfl⟩
theorem win_addP {d e f : Value} (o add : List Nat) (x : Value) (m : Nat) (h : Held w0 w (winT o (winP p c d e f) :: Rs)) (hx : Rd w 1 x m (u8s add)) (hm : m < 2000000000) :
    Calls Tryd.prog 63 #[.pointer (some ⟨p.b, p.o + 3, none⟩), x] w fun e' w' => e' = .returned (.tuple #[]) ∧ Held w0 w' (winT (o ++ add) (winP p c d e f) :: Rs) := win_add o add (winP p c d e f) x m h hx hm
theorem win_copyP {d e f : Value} (o : List Nat) (n far : Nat) (h : Held w0 w (winT o (winP p c d e f) :: Rs)) (hn1 : 1 ≤ n) (hn2 : n ≤ 258) (hd1 : 1 ≤ far) (hd2 : far ≤ o.length) (hd3 : far ≤ 32768) :
    Calls Tryd.prog 78 #[.pointer (some ⟨p.b, p.o + 3, none⟩), .int .i64 (n : Int), .int .i64 (far : Int)] w fun e' w' => ∃ x, e' = .returned (.tuple #[x, .int .i64 0]) ∧ Held w0 w' (ownT 5 1 x n (u8s (out o far n)) :: winT (ext o far n) (winP p c d e f) :: Rs) := win_copy o (winP p c d e f) n far h hn1 hn2 hd1 hd2 hd3
theorem win_lenP {d e f : Value} (o : List Nat) (m : Nat) (h : Held w0 w (winT o (winP p c d e f) :: Rs)) (hm : m = min o.length 32768) :
    Calls Tryd.prog 77 #[.pointer (some ⟨p.b, p.o + 3, none⟩)] w fun e' w' => e' = .returned (.int .i64 (m : Int)) ∧ w = w' := win_len o (winP p c d e f) m h hm
theorem oadd_any (o got add : List Nat) (x : Value) (m n : Nat) (h : Held w0 w (rdmT (decP p c) v bs l :: ownT 5 1 c.wv (keep o).length (u8s (keep o)) :: ownT 5 1 c.lv n (u8s got) :: ownT 5 1 x m (u8s add) :: Rs)) (hn : n < 1000000000) (hm : m ≤ c.most) (hm2 : (m : Int) ≤ c.room) (hm3 : m < 1000000000) (hmo : c.most < 4000000000000) (hro : c.room ≤ 9223372036854775807) :
    Calls Tryd.prog 51 #[.pointer (some ⟨p.b, p.o + 3, none⟩), x] w fun e w' => e = .returned (.tuple #[]) ∧ ∃ wv lv, Held w0 w' (rdmT (decP p { c with wv := wv, lv := lv, most := c.most - m, room := c.room - m }) v bs l :: ownT 5 1 wv (keep (o ++ add)).length (u8s (keep (o ++ add))) :: ownT 5 1 lv (n + m) (u8s (got ++ add)) :: Rs) := by
  obtain ⟨ao, nn, cap, s, cc, h1⟩ := rdm_open h
  have h2 : Held w0 w (winT o (winP p c (.slice ao nn cap) (.int .u64 (s : Int)) (.int .i64 (cc : Int))) :: rdsT v bs (.slice ao nn cap) l s cc :: ownT 5 1 c.lv n (u8s got) :: ownT 5 1 x m (u8s add) :: Rs) := win_in (h1.third.swap)
  have HA := hid (win_addP o add x m h2 h2.fourth.own.rd (by omega))
  obtain ⟨xo, xcap, rfl, hxc, hxm⟩ := h2.fourth.own.form
  have HP : Hid (∀ w2, Held w0 w2 (winT (o ++ add) (winP p c (.slice ao nn cap) (.int .u64 (s : Int)) (.int .i64 (cc : Int))) :: rdsT v bs (.slice ao nn cap) l s cc :: ownT 5 1 c.lv n (u8s got) :: ownT 5 1 (.slice xo m xcap) m (u8s add) :: Rs) →
      Calls Tryd.prog 64 #[.pointer (some ⟨p.b, p.o + 3, none⟩), .slice xo m xcap] w2 fun e w' => e = .returned (.tuple #[]) ∧ ∃ wv lv, Held w0 w' (rdmT (decP p { c with wv := wv, lv := lv, most := c.most - m, room := c.room - m }) v bs l :: ownT 5 1 wv (keep (o ++ add)).length (u8s (keep (o ++ add))) :: ownT 5 1 lv (n + m) (u8s (got ++ add)) :: Rs)) := by
    refine hid fun w2 h3 => ?_
    obtain ⟨wv, h4⟩ := win_out h3
    have h5 : Held w0 w2 (rdmT (decP p { c with wv := wv }) v bs l :: ownT 5 1 wv (keep (o ++ add)).length (u8s (keep (o ++ add))) :: ownT 5 1 c.lv n (u8s got) :: ownT 5 1 (.slice xo m xcap) m (u8s add) :: Rs) := rdm_close h4.mid
    have h6 := (h5.mid : Held w0 w2 (rdmT (decP p { c with wv := wv }) v bs l :: ownT 5 1 c.lv n (u8s got) :: ownT 5 1 wv (keep (o ++ add)).length (u8s (keep (o ++ add))) :: ownT 5 1 (.slice xo m xcap) m (u8s add) :: Rs))
    refine (oput_any (c := { c with wv := wv }) got add (.slice xo m xcap) m n h6 h5.fourth.own.rd hn hm hm2 hm3 hmo hro).mono ?_
    rintro e w3 ⟨h7, lv, h8⟩
    exact ⟨h7, wv, lv, h8.mid.fourth.drop⟩
  clear h h1 h2 hxc hxm
  go_enter Tryd.func51, Tryd.ntmps51
  go_wp2_with fail
  with_reducible refine HA.out.mono ?_
  rintro e w2 ⟨rfl, h3⟩
  have HQ := hid (HP.out w2 h3)
  clear h3 HA HP
  go_wp2_with fail
  with_reducible refine HQ.out.mono ?_
  rintro e w3 ⟨rfl, wv, lv, h4⟩
  have HE := hid h4
  clear h4 HQ
  go_wp2
  go_end0
  exact ⟨rfl, wv, lv, HE.out⟩
theorem orep_any (o got : List Nat) (n m far : Nat) (h : Held w0 w (rdmT (decP p c) v bs l :: ownT 5 1 c.wv (keep o).length (u8s (keep o)) :: ownT 5 1 c.lv n (u8s got) :: Rs)) (hn : n < 1000000000) (hm : m ≤ c.most) (hm2 : (m : Int) ≤ c.room) (h1 : 1 ≤ m) (h258 : m ≤ 258) (hd1 : 1 ≤ far) (hd2 : far ≤ o.length) (hd3 : far ≤ 32768) (hmo : c.most < 4000000000000) (hro : c.room ≤ 9223372036854775807) :
    Calls Tryd.prog 59 #[.pointer (some ⟨p.b, p.o + 3, none⟩), .int .i64 (m : Int), .int .i64 (far : Int)] w fun e w' => e = .returned (.tuple #[]) ∧ ∃ wv lv, Held w0 w' (rdmT (decP p { c with wv := wv, lv := lv, most := c.most - m, room := c.room - m }) v bs l :: ownT 5 1 wv (keep (ext o far m)).length (u8s (keep (ext o far m))) :: ownT 5 1 lv (n + m) (u8s (got ++ out o far m)) :: Rs) := by
  obtain ⟨ao, nn, cap, s, cc, h3⟩ := rdm_open h
  have h2 : Held w0 w (winT o (winP p c (.slice ao nn cap) (.int .u64 (s : Int)) (.int .i64 (cc : Int))) :: rdsT v bs (.slice ao nn cap) l s cc :: ownT 5 1 c.lv n (u8s got) :: Rs) := win_in (h3.third.swap)
  have HA := hid (win_copyP o m far h2 h1 h258 hd1 hd2 hd3)
  have HP : Hid (∀ w2 x, Held w0 w2 (ownT 5 1 x m (u8s (out o far m)) :: winT (ext o far m) (winP p c (.slice ao nn cap) (.int .u64 (s : Int)) (.int .i64 (cc : Int))) :: rdsT v bs (.slice ao nn cap) l s cc :: ownT 5 1 c.lv n (u8s got) :: Rs) →
      Calls Tryd.prog 64 #[.pointer (some ⟨p.b, p.o + 3, none⟩), x] w2 fun e w' => e = .returned (.tuple #[]) ∧ ∃ wv lv, Held w0 w' (rdmT (decP p { c with wv := wv, lv := lv, most := c.most - m, room := c.room - m }) v bs l :: ownT 5 1 wv (keep (ext o far m)).length (u8s (keep (ext o far m))) :: ownT 5 1 lv (n + m) (u8s (got ++ out o far m)) :: Rs)) := by
    refine hid fun w2 x h3 => ?_
    obtain ⟨wv, h4⟩ := win_out h3.swap
    have h4' : Held w0 w2 (objP (decP p { c with wv := wv }) [.slice ao nn cap, .int .u64 (s : Int), .int .i64 (cc : Int)] :: rdsT v bs (.slice ao nn cap) l s cc :: ownT 5 1 c.lv n (u8s got) :: ownT 5 1 wv (keep (ext o far m)).length (u8s (keep (ext o far m))) :: ownT 5 1 x m (u8s (out o far m)) :: Rs) :=
      h4.perm (List.Perm.cons _ ((List.perm_middle (l₁ := [_, _])).trans (List.Perm.cons _ ((List.perm_middle (l₁ := [_, _])).trans (List.Perm.cons _ (List.Perm.refl _))))))
    have h5 := rdm_close h4'
    refine (oput_any (c := { c with wv := wv }) got (out o far m) x m n h5 h5.fourth.own.rd hn hm hm2 (by omega) hmo hro).mono ?_
    rintro e w3 ⟨h7, lv, h8⟩
    exact ⟨h7, wv, lv, h8.mid.fourth.drop⟩
  clear h h3 h2
  go_enter Tryd.func59, Tryd.ntmps59
  go_wp2_with fail
  with_reducible refine HA.out.mono ?_
  rintro e w2 ⟨x, rfl, h3⟩
  obtain ⟨xo, xcap, rfl, _, _⟩ := h3.own.form
  have HQ := hid (HP.out w2 _ h3)
  clear h3 HA HP
  go_wp2_with fail
  with_reducible refine HQ.out.mono ?_
  rintro e w3 ⟨rfl, wv, lv, h4⟩
  have HE := hid h4
  clear h4 HQ
  go_wp2
  go_end0
  exact ⟨rfl, wv, lv, HE.out⟩
end
end Go.Proofs.YtbkbkmgogbgofaaDoor
/-
  Results that lie in a cell of the call's own: a struct alone, or with a second result. No program is named here.
-/
namespace Go.Proofs.YtbkbkmgogbgofaaDoor
set_option maxRecDepth 5000
open Go.RowKit
theorem ret_obj {P : Program} {w : World} {fn : Func} {p : Tmp} {t : TypeId} (hf : fn.results = #[.cell p t]) {R : Ending → World → Prop} {a : Act}
    (d : TypeDesc) (n : Nat) (ht : P.underlying t = some d) (hd : isArr d = true) (hi : (P.info? t).map (·.size) = some n)
    (B : Nat) (cs : List Value) (T : TypeId) (hp : a.tmps.getD p undef = .pointer (some ⟨B, 0, none⟩)) (hl : cs.length = n) (hB : Blk w B cs T)
    (hdf : a.defers = []) (h : R (.returned (.agg cs.toArray)) w) : bodyPost P fn R .ret a w :=
  bodyPost_ret (v := .agg cs.toArray) (results_cell_row hf a.tmps w B T cs.toArray (0, 0) d hp hB ht (by cases d <;> simp_all [isArr]) (by rw [hi]; simp [hl])) hdf h
theorem results_cell_tmp {P : Program} {fn : Func} {p q : Tmp} {ty : TypeId} (h : fn.results = #[.cell p ty, .tmp q]) (tmps : Array Value) (w : World) (g : Nat) (t : TypeId) (cs : Array Value) (fr : Nat × Nat) (d : TypeDesc)
    (hp : tmps.getD p undef = .pointer (some ⟨g, 0, none⟩)) (hg : w.heap[g]? = some (.cells cs t fr))
    (hu : P.underlying ty = some d) (hd : (match d with | .struct _ | .array _ _ => true | _ => false) = true) (hi : (P.info? ty).map (·.size) = some cs.size) :
    (results fn tmps).run P w = .ok (.tuple #[.agg cs, tmps.getD q undef]) w := by
  have hp' : tmps[p]?.getD undef = .pointer (some ⟨g, 0, none⟩) := by simpa using hp
  simp [results, h, hp', asAddr, run_loadVar_row w g t ty cs fr d hg hu hd hi]
theorem ret_cell_tmp {P : Program} {w : World} {fn : Func} {p q : Tmp} {t : TypeId} (hf : fn.results = #[.cell p t, .tmp q]) {R : Ending → World → Prop} {a : Act}
    (d : TypeDesc) (n : Nat) (ht : P.underlying t = some d) (hd : isArr d = true) (hi : (P.info? t).map (·.size) = some n)
    (B : Nat) (cs : List Value) (T : TypeId) (u : Value) (hp : a.tmps.getD p undef = .pointer (some ⟨B, 0, none⟩)) (hq : a.tmps.getD q undef = u) (hl : cs.length = n) (hB : Blk w B cs T)
    (hdf : a.defers = []) (h : R (.returned (.tuple #[.agg cs.toArray, u])) w) : bodyPost P fn R .ret a w :=
  bodyPost_ret (v := .tuple #[.agg cs.toArray, u]) (by rw [← hq]; exact results_cell_tmp hf a.tmps w B T cs.toArray (0, 0) d hp hB ht (by cases d <;> simp_all [isArr]) (by rw [hi]; simp [hl])) hdf h
theorem drew_add (w : World) (a b : Nat) : (w.drewN a).drewN b = w.drewN (a + b) := by
  simp only [World.drewN, Nat.add_assoc]
end Go.Proofs.YtbkbkmgogbgofaaDoor
