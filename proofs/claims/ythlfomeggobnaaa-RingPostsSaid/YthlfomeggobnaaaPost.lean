/-
  The contracts of a Post: its channel carries places of strings.
-/
import Derived.Test.YthlfomeggobnaaaLim
import Derived.Test.YthlfomeggobnaaaSep
import Derived.Conc.LoneSelect
import Derived.Conc.LoneSelectN
import Derived.KernelRfl
namespace Go.Proofs.Ythlfomeggobnaaa
open Go.RowKit Go.Conc

/-- the places as values -/
def ptrs (bs : List Nat) : Array Value := (bs.map fun b => Value.pointer (some ⟨b, 0, none⟩)).toArray

theorem box_chan {w : World} {C cap sn rn : Nat} {buf : Array Value} (hC : w.heap[C]? = some (.chan cap buf false sn rn false)) (o : Obj) : (w.alloc o).heap[C]? = some (.chan cap buf false sn rn false) :=
  (Below.heap_alloc _ _ _ (Array.getElem?_eq_some_iff.1 hC).1).trans hC

set_option maxRecDepth 100000 in
theorem send_room (B C cap sn rn : Nat) (buf : Array Value) (x : ByteArray) (w : World) (hB : Blk w B [.chan (some C)] 69) (hC : w.heap[C]? = some (.chan cap buf false sn rn false)) (hroom : buf.size < cap) :
    Calls Try.prog 16 #[.pointer (some ⟨B, 0, none⟩), .string x] w fun e w' => e = .returned (.bool true) ∧
      w' = (w.alloc (.cells #[.string x] 9)).setChan C cap (buf.push (.pointer (some ⟨w.heap.size, 0, none⟩))) false (sn + 1) rn false := by
  have c0 := (hB.alloc (.cells #[.string x] 9)).cell (i := 0) rfl
  refine calls_of_loneTo fun cs => ?_
  have e : Frame.enter Try.prog 16 #[.pointer (some ⟨B, 0, none⟩), .string x] .normal = (base 16).at ⟨#[.pointer (some ⟨B, 0, none⟩), .string x, undef, undef, undef, undef, undef, undef, undef, undef, undef, undef, undef, undef], []⟩ [.code (Try.f16.body.getD .skip)] := by
    simp [Frame.enter, Frame.at, Try.func16, base, Try.f16]
  rw [e]
  refine LoneTo.goes (n := 60) ?_
  simp only [Try.f16, Option.getD_some]
  s_c stepG_seq
  s_reg
  s_op
  s_op
  s_c stepG_region_end
  s_c stepG_seq
  s_c stepG_seq
  s_reg
  s_op
  s_op
  s_c stepG_region_end
  s_cond false
  s_c stepG_skip
  s_c stepG_seq
  s_reg
  s_op
  s_op
  s_op
  s_op
  s_c stepG_region_end
  s_c stepG_seq
  s_reg
  s_stop
  refine LoneTo.step (step_lone_select_send_room (c := C) (v := .pointer (some ⟨w.heap.size, 0, none⟩)) (z' := .pointer none) (stepG_comm (cases := #[scase C (.pointer (some ⟨w.heap.size, 0, none⟩)) (.pointer none)]) (blocking := false) (shape := .select) (w' := (w.alloc (.cells #[.string x] 9))) rfl rfl (by decide) (by simp [go_sem, execOp, scase, Act.eval])) (box_chan hC _) hroom) ?_
  rw [Frame.finish_at]
  walk_nrm
  refine LoneTo.goes (n := 30) ?_
  s_op
  s_op
  s_c stepG_region_end
  s_c stepG_block
  s_cond true
  s_c stepG_seq
  s_reg
  s_op
  s_c stepG_region_end
  s_c stepG_ret'
  s_stop
  exact LoneTo.done ⟨.returned (.bool true), _, rfl, ⟨rfl, rfl⟩, rfl, rfl, rfl, rfl, _, Try.func16, by simp [results, Try.f16, Frame.at]⟩

set_option maxRecDepth 100000 in
theorem send_full (B C cap sn rn : Nat) (buf : Array Value) (x : ByteArray) (w : World) (hB : Blk w B [.chan (some C)] 69) (hC : w.heap[C]? = some (.chan cap buf false sn rn false)) (hfull : cap ≤ buf.size) :
    Calls Try.prog 16 #[.pointer (some ⟨B, 0, none⟩), .string x] w fun e w' => e = .returned (.bool false) ∧ w' = w.alloc (.cells #[.string x] 9) := by
  have c0 := (hB.alloc (.cells #[.string x] 9)).cell (i := 0) rfl
  refine calls_of_loneTo fun cs => ?_
  have e : Frame.enter Try.prog 16 #[.pointer (some ⟨B, 0, none⟩), .string x] .normal = (base 16).at ⟨#[.pointer (some ⟨B, 0, none⟩), .string x, undef, undef, undef, undef, undef, undef, undef, undef, undef, undef, undef, undef], []⟩ [.code (Try.f16.body.getD .skip)] := by
    simp [Frame.enter, Frame.at, Try.func16, base, Try.f16]
  rw [e]
  refine LoneTo.goes (n := 60) ?_
  simp only [Try.f16, Option.getD_some]
  s_c stepG_seq
  s_reg
  s_op
  s_op
  s_c stepG_region_end
  s_c stepG_seq
  s_c stepG_seq
  s_reg
  s_op
  s_op
  s_c stepG_region_end
  s_cond false
  s_c stepG_skip
  s_c stepG_seq
  s_reg
  s_op
  s_op
  s_op
  s_op
  s_c stepG_region_end
  s_c stepG_seq
  s_reg
  s_stop
  refine LoneTo.step (step_lone_select_send_full (c := C) (v := .pointer (some ⟨w.heap.size, 0, none⟩)) (z' := .pointer none) (stepG_comm (cases := #[scase C (.pointer (some ⟨w.heap.size, 0, none⟩)) (.pointer none)]) (blocking := false) (shape := .select) (w' := (w.alloc (.cells #[.string x] 9))) rfl rfl (by decide) (by simp [go_sem, execOp, scase, Act.eval])) (box_chan hC _) hfull) ?_
  rw [Frame.finish_at]
  walk_nrm
  refine LoneTo.goes (n := 30) ?_
  s_op
  s_op
  s_c stepG_region_end
  s_c stepG_block
  s_cond false
  s_c stepG_seq
  s_reg
  s_op
  s_c stepG_region_end
  s_c stepG_ret'
  s_stop
  exact LoneTo.done ⟨.returned (.bool false), _, rfl, ⟨rfl, rfl⟩, rfl, rfl, rfl, rfl, _, Try.func16, by simp [results, Try.f16, Frame.at]⟩

theorem blk_setChan {w : World} {C cap s r b : Nat} {buf : Array Value} {cs : List Value} {T : TypeId} (h : Blk w b cs T) (hC : w.heap[C]? = some (.chan cap buf false s r false)) (cap' : Nat) (buf' : Array Value) (s' r' : Nat) :
    Blk (w.setChan C cap' buf' false s' r' false) b cs T := by
  have hne : b ≠ C := by
    rintro rfl
    unfold Blk at h
    rw [hC] at h
    cases h
  unfold Blk at h ⊢
  rw [← h]
  simp only [World.setChan]
  rw [Array.getElem?_setIfInBounds_ne (fun e => hne e.symm)]

set_option maxRecDepth 100000 in
theorem next_some (B C cap sn rn b : Nat) (buf : Array Value) (s : ByteArray) (w : World) (hB : Blk w B [.chan (some C)] 69) (hC : w.heap[C]? = some (.chan cap buf false sn rn false)) (hsome : 0 < buf.size)
    (hb : buf.getD 0 undef = .pointer (some ⟨b, 0, none⟩)) (hs : Blk w b [.string s] 9) :
    Calls Try.prog 18 #[.pointer (some ⟨B, 0, none⟩)] w fun e w' => e = .returned (.tuple #[.string s, .bool true]) ∧
      w' = w.setChan C cap (buf.extract 1 buf.size) false sn (rn + 1) false := by
  have c0 := hB.cell (i := 0) rfl
  have c1 := (blk_setChan hs hC cap (buf.extract 1 buf.size) sn (rn + 1)).cell (i := 0) rfl
  refine calls_of_loneTo fun cs => ?_
  have e : Frame.enter Try.prog 18 #[.pointer (some ⟨B, 0, none⟩)] .normal = (base 18).at ⟨#[.pointer (some ⟨B, 0, none⟩), undef, undef, undef, undef, undef, undef, undef, undef, undef, undef, undef, undef, undef, undef, undef, undef, undef, undef, undef, undef], []⟩ [.code (Try.f18.body.getD .skip)] := by
    simp [Frame.enter, Frame.at, Try.func18, base, Try.f18]
  rw [e]
  refine LoneTo.goes (n := 60) ?_
  simp only [Try.f18, Option.getD_some]
  s_c stepG_seq
  s_reg
  s_op
  s_op
  s_c stepG_region_end
  s_c stepG_seq
  s_reg
  s_op
  s_c stepG_region_end
  s_c stepG_seq
  s_c stepG_seq
  s_reg
  s_op
  s_op
  s_c stepG_region_end
  s_cond false
  s_c stepG_skip
  s_c stepG_seq
  s_reg
  s_op
  s_op
  s_op
  s_op
  s_c stepG_region_end
  s_c stepG_seq
  s_reg
  s_stop
  refine LoneTo.step (step_lone_select_recv_buf (c := C) (z := .pointer none) (stepG_comm (cases := #[rcase C (.pointer none)]) (blocking := false) (shape := .select) (w' := w) rfl rfl (by decide) (by simp [go_sem, execOp, rcase, Act.eval])) hC hsome) ?_
  rw [Frame.finish_at, hb]
  walk_nrm
  refine LoneTo.goes (n := 40) ?_
  s_op
  s_op
  s_c stepG_region_end
  s_c stepG_block
  s_cond true
  s_c stepG_seq
  s_reg
  s_op
  s_op
  s_c stepG_region_end
  s_c stepG_seq
  s_reg
  s_op
  s_op
  s_op
  s_op
  s_op
  s_c stepG_region_end
  s_c stepG_ret'
  s_stop
  exact LoneTo.done ⟨.returned (.tuple #[.string s, .bool true]), _, rfl, ⟨rfl, rfl⟩, rfl, rfl, rfl, rfl, _, Try.func18, by simp [results, Try.f18, Frame.at]⟩

set_option maxRecDepth 100000 in
theorem next_zero (B C cap sn rn : Nat) (w : World) (hB : Blk w B [.chan (some C)] 69) (hC : w.heap[C]? = some (.chan cap #[] false sn rn false)) :
    Calls Try.prog 18 #[.pointer (some ⟨B, 0, none⟩)] w fun e w' => e = .returned (.tuple #[.string ⟨#[]⟩, .bool false]) ∧ w' = w := by
  have c0 := hB.cell (i := 0) rfl
  refine calls_of_loneTo fun cs => ?_
  have e : Frame.enter Try.prog 18 #[.pointer (some ⟨B, 0, none⟩)] .normal = (base 18).at ⟨#[.pointer (some ⟨B, 0, none⟩), undef, undef, undef, undef, undef, undef, undef, undef, undef, undef, undef, undef, undef, undef, undef, undef, undef, undef, undef, undef], []⟩ [.code (Try.f18.body.getD .skip)] := by
    simp [Frame.enter, Frame.at, Try.func18, base, Try.f18]
  rw [e]
  refine LoneTo.goes (n := 60) ?_
  simp only [Try.f18, Option.getD_some]
  s_c stepG_seq
  s_reg
  s_op
  s_op
  s_c stepG_region_end
  s_c stepG_seq
  s_reg
  s_op
  s_c stepG_region_end
  s_c stepG_seq
  s_c stepG_seq
  s_reg
  s_op
  s_op
  s_c stepG_region_end
  s_cond false
  s_c stepG_skip
  s_c stepG_seq
  s_reg
  s_op
  s_op
  s_op
  s_op
  s_c stepG_region_end
  s_c stepG_seq
  s_reg
  s_stop
  refine LoneTo.step (step_lone_select_default (c := C) (z := .pointer none) (stepG_comm (cases := #[rcase C (.pointer none)]) (blocking := false) (shape := .select) (w' := w) rfl rfl (by decide) (by simp [go_sem, execOp, rcase, Act.eval])) hC) ?_
  rw [Frame.finish_at]
  walk_nrm
  refine LoneTo.goes (n := 40) ?_
  s_op
  s_op
  s_c stepG_region_end
  s_c stepG_block
  s_cond false
  s_c stepG_seq
  s_reg
  s_op
  s_op
  s_op
  s_c stepG_region_end
  s_c stepG_ret'
  s_stop
  exact LoneTo.done ⟨.returned (.tuple #[.string ⟨#[]⟩, .bool false]), _, rfl, ⟨rfl, rfl⟩, rfl, rfl, rfl, rfl, _, Try.func18, by simp [results, Try.f18, Frame.at]⟩

theorem post_len (B C cap sn rn : Nat) (buf : Array Value) (w : World) (hB : Blk w B [.chan (some C)] 69) (hC : w.heap[C]? = some (.chan cap buf false sn rn false)) :
    Calls Try.prog 19 #[.pointer (some ⟨B, 0, none⟩)] w fun e w' => e = .returned (.int .i64 (buf.size : Int)) ∧ w = w' := by
  have c0 := hB.cell (i := 0) rfl
  have hlen := fun ty => run_len_chan (P := Try.prog) 67 ty Try.underlying67 hC
  go_enter Try.func19, Try.ntmps19
  go_wp2
  go_ret
  exact ⟨rfl, rfl⟩
theorem mkC (w : World) (n : Nat) (hn : n ≤ 65536) : (Instr.makeChan 67 (.int .i64 (n : Int))).run Try.prog w = .ok (.chan (some w.heap.size)) (w.alloc (.chan n #[] false 0 0 false)) := by
  have h : (Try.prog.info? 70).map (·.bytes) = some 8 := by kernel_rfl
  obtain ⟨i, hi, hb⟩ := Option.map_eq_some_iff.1 h
  simpa using run_makeChan (P := Try.prog) (w := w) Try.underlying67 hi .i64 n (by omega) (by rw [hb]; omega)
theorem post_new (m : Int) (w : World) :
    Calls Try.prog 15 #[.int .i64 m] w fun e w' => e = .returned (.pointer (some ⟨w.heap.size + 1, 0, none⟩)) ∧
      w' = (w.alloc (.chan (lim m) #[] false 0 0 false)).alloc (.cells #[.chan (some w.heap.size)] 69) := by
  have hmc := mkC w (lim m) (lim_le m)
  go_enter Try.func15, Try.ntmps15
  go_wp2_with (go_at_call 32; refine (limited_any m w).mono ?_; rintro e w' ⟨rfl, rfl⟩)
  go_ret
  exact ⟨rfl, rfl⟩

/-! ### A Post among the things that a call holds -/
structure PIs (w : World) (B C cap sn rn : Nat) (bs : List Nat) (ss : List ByteArray) : Prop where
  obj : Blk w B [.chan (some C)] 69
  chan : w.heap[C]? = some (.chan cap (ptrs bs) false sn rn false)
  long : bs.length = ss.length
  box : ∀ (i b : Nat), bs[i]? = some b → ∃ s : ByteArray, ss[i]? = some s ∧ Blk w b [.string s] 9
def postT (B cap : Nat) (ss : List ByteArray) : Thing where
  res := fun w F => ∃ C sn rn bs, PIs w B C cap sn rn bs ss ∧ ∀ k, F k ↔ k = B ∨ k = C ∨ k ∈ bs
  loc := fun w w' F S ⟨C, sn, rn, bs, h, hF⟩ hm hS => ⟨C, sn, rn, bs, ⟨h.obj.kept hm (hS B ((hF B).2 (.inl rfl))),
    (hm.block C (Array.getElem?_eq_some_iff.1 h.chan).1 (hS C ((hF C).2 (.inr (.inl rfl))))).trans h.chan, h.long, fun i b hb => by
      obtain ⟨s, h1, h2⟩ := h.box i b hb
      exact ⟨s, h1, h2.kept hm (hS b ((hF b).2 (.inr (.inr (List.mem_of_getElem? hb)))))⟩⟩, hF⟩
theorem ptrs_size (bs : List Nat) : (ptrs bs).size = bs.length := by simp [ptrs]
theorem ptrs_push (bs : List Nat) (b : Nat) : (ptrs bs).push (.pointer (some ⟨b, 0, none⟩)) = ptrs (bs ++ [b]) := by simp [ptrs]
theorem ptrs_tail (b : Nat) (bs : List Nat) : (ptrs (b :: bs)).extract 1 (ptrs (b :: bs)).size = ptrs bs := by
  apply Array.toList_inj.1
  simp [ptrs]
  rw [List.take_of_length_le (by simp)]
theorem Mod.setChan {a w : World} {S : Nat → Prop} (h : Mod a w S) {C : Nat} (hC : a.heap.size ≤ C ∨ S C) (cap : Nat) (buf : Array Value) (s r : Nat) : Mod a (w.setChan C cap buf false s r false) S :=
  h.trans (T := fun k => k = C) ⟨rfl, rfl, rfl, by simp [World.setChan], fun k _ hne => by simp only [World.setChan]; rw [Array.getElem?_setIfInBounds_ne (fun e => hne e.symm)]⟩ (fun k hk e => by subst e; exact hC.resolve_left (by omega))

theorem h_newPost {w0 w : World} {Rs : List Thing} (h : Held w0 w Rs) (m : Int) :
    Calls Try.prog 15 #[.int .i64 m] w fun e w' => ∃ B, e = .returned (.pointer (some ⟨B, 0, none⟩)) ∧ Held w0 w' (postT B (lim m) [] :: Rs) := by
  refine (post_new m w).mono fun e w' ⟨h1, h2⟩ => ⟨_, h1, ?_⟩
  subst h2
  refine h.push _ (fun k => k = w.heap.size + 1 ∨ k = w.heap.size) ⟨w.heap.size, 0, 0, [], ⟨?_, ?_, rfl, fun i b hb => by simp at hb⟩, fun k => by simp⟩ (((Mod.refl w _).alloc _).alloc _) (fun k hk => ?_)
  · have := Blk.new (w.alloc (.chan (lim m) #[] false 0 0 false)) [.chan (some w.heap.size)] 69
    simpa using this
  · exact (Below.heap_alloc _ _ _ (by simp)).trans (heap_alloc_new w _)
  · simp; omega
theorem h_send_room {w0 w : World} {Rs : List Thing} {B cap : Nat} {ss : List ByteArray} (h : Held w0 w (postT B cap ss :: Rs)) (x : ByteArray) (hroom : ss.length < cap) :
    Calls Try.prog 16 #[.pointer (some ⟨B, 0, none⟩), .string x] w fun e w' => e = .returned (.bool true) ∧ Held w0 w' (postT B cap (ss ++ [x]) :: Rs) := by
  obtain ⟨F, ⟨C, sn, rn, bs, hP, hF⟩, hlt, back⟩ := h.take
  refine (send_room B C cap sn rn _ x w hP.obj hP.chan (by rw [ptrs_size, hP.long]; exact hroom)).mono fun e w' ⟨h1, h2⟩ => ⟨h1, ?_⟩
  subst h2
  have hCl := (Array.getElem?_eq_some_iff.1 hP.chan).1
  refine back _ _ (fun k => k = B ∨ k = C ∨ k ∈ bs ++ [w.heap.size]) ⟨C, sn + 1, rn, bs ++ [w.heap.size], ⟨?_, ?_, by simp [hP.long], ?_⟩, fun k => Iff.rfl⟩ (((Mod.refl w F).alloc _).setChan (.inr ((hF C).2 (.inr (.inl rfl)))) _ _ _ _) (fun k hk => ?_) (fun k hk => ?_)
  · exact blk_setChan (hP.obj.alloc _) (box_chan hP.chan _) _ _ _ _
  · rw [← ptrs_push]; exact heap_setChan _ _ _ _ _ _ _ _ (by simp; omega)
  · intro i b hb
    by_cases hi : i < bs.length
    · rw [List.getElem?_append_left hi] at hb
      obtain ⟨s, h3, h4⟩ := hP.box i b hb
      refine ⟨s, by rw [List.getElem?_append_left (by rw [← hP.long]; exact hi)]; exact h3, blk_setChan (h4.alloc _) (box_chan hP.chan _) _ _ _ _⟩
    · rw [List.getElem?_append_right (by omega)] at hb
      obtain rfl : i = bs.length := by
        have := (List.getElem?_eq_some_iff.1 hb).1
        simp at this; omega
      simp at hb
      subst hb
      refine ⟨x, by rw [hP.long]; simp, blk_setChan (Blk.new w [.string x] 9) (box_chan hP.chan _) _ _ _ _⟩
  · rcases hk with hk | hk | hk
    · exact .inl ((hF k).2 (.inl hk))
    · exact .inl ((hF k).2 (.inr (.inl hk)))
    · rcases List.mem_append.1 hk with hk | hk
      · exact .inl ((hF k).2 (.inr (.inr hk)))
      · simp at hk; exact .inr (by omega)
  · rw [size_setChan]
    simp only [World.size_alloc]
    rcases hk with hk | hk | hk
    · have := (hlt k ((hF k).2 (.inl hk))).2; omega
    · have := (hlt k ((hF k).2 (.inr (.inl hk)))).2; omega
    · rcases List.mem_append.1 hk with hk | hk
      · have := (hlt k ((hF k).2 (.inr (.inr hk)))).2; omega
      · simp at hk; omega
theorem h_send_full {w0 w : World} {Rs : List Thing} {B cap : Nat} {ss : List ByteArray} (h : Held w0 w (postT B cap ss :: Rs)) (x : ByteArray) (hfull : cap ≤ ss.length) :
    Calls Try.prog 16 #[.pointer (some ⟨B, 0, none⟩), .string x] w fun e w' => e = .returned (.bool false) ∧ Held w0 w' (postT B cap ss :: Rs) := by
  obtain ⟨F, ⟨C, sn, rn, bs, hP, hF⟩, hlt, back⟩ := h.take
  exact (send_full B C cap sn rn _ x w hP.obj hP.chan (by rw [ptrs_size, hP.long]; exact hfull)).mono fun e w' ⟨h1, h2⟩ => ⟨h1, by rw [h2]; exact h.alloc _⟩
theorem h_next_some {w0 w : World} {Rs : List Thing} {B cap : Nat} {s : ByteArray} {ss : List ByteArray} (h : Held w0 w (postT B cap (s :: ss) :: Rs)) :
    Calls Try.prog 18 #[.pointer (some ⟨B, 0, none⟩)] w fun e w' => e = .returned (.tuple #[.string s, .bool true]) ∧ Held w0 w' (postT B cap ss :: Rs) := by
  obtain ⟨F, ⟨C, sn, rn, bs, hP, hF⟩, hlt, back⟩ := h.take
  match bs, hP with
  | b :: bs, hP =>
    obtain ⟨s', h3, h4⟩ := hP.box 0 b rfl
    obtain rfl : s = s' := by simpa using h3
    refine (next_some B C cap sn rn b _ s w hP.obj hP.chan (by rw [ptrs_size]; simp) (by simp [ptrs]) h4).mono fun e w' ⟨h1, h2⟩ => ⟨h1, ?_⟩
    subst h2
    have hCl := (Array.getElem?_eq_some_iff.1 hP.chan).1
    refine back _ _ (fun k => k = B ∨ k = C ∨ k ∈ bs) ⟨C, sn, rn + 1, bs, ⟨blk_setChan hP.obj hP.chan _ _ _ _, ?_, by have := hP.long; simpa using this, fun i b' hb => ?_⟩, fun k => Iff.rfl⟩ ((Mod.refl w F).setChan (.inr ((hF C).2 (.inr (.inl rfl)))) _ _ _ _) (fun k hk => .inl ((hF k).2 ?_)) (fun k hk => ?_)
    · rw [ptrs_tail]; exact heap_setChan _ _ _ _ _ _ _ _ hCl
    · obtain ⟨s', h5, h6⟩ := hP.box (i + 1) b' (by simpa using hb)
      exact ⟨s', by simpa using h5, blk_setChan h6 hP.chan _ _ _ _⟩
    · rcases hk with hk | hk | hk
      · exact .inl hk
      · exact .inr (.inl hk)
      · exact .inr (.inr (List.mem_cons_of_mem _ hk))
    · rw [size_setChan]
      rcases hk with hk | hk | hk
      · exact (hlt k ((hF k).2 (.inl hk))).2
      · exact (hlt k ((hF k).2 (.inr (.inl hk)))).2
      · exact (hlt k ((hF k).2 (.inr (.inr (List.mem_cons_of_mem _ hk))))).2
  | [], hP => have := hP.long; simp at this
theorem h_next_zero {w0 w : World} {Rs : List Thing} {B cap : Nat} (h : Held w0 w (postT B cap [] :: Rs)) :
    Calls Try.prog 18 #[.pointer (some ⟨B, 0, none⟩)] w fun e w' => e = .returned (.tuple #[.string ⟨#[]⟩, .bool false]) ∧ Held w0 w' (postT B cap [] :: Rs) := by
  obtain ⟨F, ⟨C, sn, rn, bs, hP, hF⟩, hlt, back⟩ := h.take
  obtain rfl : bs = [] := List.eq_nil_of_length_eq_zero (by rw [hP.long]; rfl)
  exact (next_zero B C cap sn rn w hP.obj hP.chan).mono fun e w' ⟨h1, h2⟩ => ⟨h1, by rw [h2]; exact h⟩
theorem h_post_len {w0 w : World} {Rs : List Thing} {B cap : Nat} {ss : List ByteArray} (h : Held w0 w (postT B cap ss :: Rs)) :
    Calls Try.prog 19 #[.pointer (some ⟨B, 0, none⟩)] w fun e w' => e = .returned (.int .i64 (ss.length : Int)) ∧ w = w' := by
  obtain ⟨F, ⟨C, sn, rn, bs, hP, hF⟩, hlt, back⟩ := h.take
  exact (post_len B C cap sn rn _ w hP.obj hP.chan).mono fun e w' ⟨h1, h2⟩ => ⟨by rw [h1, ptrs_size, hP.long], h2⟩
end Go.Proofs.Ythlfomeggobnaaa
