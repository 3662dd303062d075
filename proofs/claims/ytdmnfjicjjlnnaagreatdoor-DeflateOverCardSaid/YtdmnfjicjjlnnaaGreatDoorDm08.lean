/-
  A stream of blocks that were written, block by block, as the model of reading has it; what a program that writes blocks is to do ('BlockOK'). The mathematics names no program.
-/
import Derived.Test.YtdmnfjicjjlnnaaGreatDoorDm07
import Derived.Test.YtdmnfjicjjlnnaaGreatDoorDm03
import Derived.Test.YtdmnfjicjjlnnaaGreatDoorProg
import Derived.Test.YtdmnfjicjjlnnaaGreatDoorDm01
import Derived.StillTailTactics
import Derived.Test.YtdmnfjicjjlnnaaGreatDoorDm04
namespace Go.Proofs.YtdmnfjicjjlnnaaGreatDoor
set_option maxRecDepth 5000
def outOf (kind : Nat) (raw out o : List Nat) : List Nat := if kind = 0 then out ++ raw else o
def tksOf (kind : Nat) (tk l : List Tok) : List Tok := if kind = 0 then tk else tk ++ l
section
variable {l : List Tok} {raw bs out o pre post : List Nat} {tk : List Tok} {kind M f : Nat} {ks ss : List Nat}
theorem blk_at (h : BlockBits l raw (pre.length + 3) kind bs) (hp : isBits post) (he : expT out l = (0, o)) (ho : o.length ≤ M) (hr : out.length + raw.length ≤ M) (v : Nat) (hv : v < 8) (hvk : v / 2 = kind) :
    takeM (pre ++ (bitsOf 3 v ++ (bs ++ post))) pre.length 3 = some v ∧ blockF (pre ++ (bitsOf 3 v ++ (bs ++ post))) M (v / 2) (pre.length + 3) out tk = (0, pre.length + 3 + bs.length, outOf kind raw out o, tksOf kind tk l) := by
  refine ⟨take_read pre (bs ++ post) 3 v hv, ?_⟩
  have e : pre ++ (bitsOf 3 v ++ (bs ++ post)) = (pre ++ bitsOf 3 v) ++ (bs ++ post) := by simp
  have hl : (pre ++ bitsOf 3 v).length = pre.length + 3 := by rw [List.length_append, bitsOf_length]
  have h2 := block_read (pre ++ bitsOf 3 v) (by rw [hl]; exact h) hp M out o tk he ho hr
  rw [hl, ← e] at h2
  rw [hvk]
  exact h2
theorem infl_more (h : BlockBits l raw (pre.length + 3) kind bs) (hk : kind < 3) (hp : isBits post) (he : expT out l = (0, o)) (ho : o.length ≤ M) (hr : out.length + raw.length ≤ M) :
    inflF (pre ++ (bitsOf 3 (2 * kind) ++ (bs ++ post))) M (f + 1) pre.length out tk ks ss = inflF (pre ++ (bitsOf 3 (2 * kind) ++ (bs ++ post))) M f (pre.length + 3 + bs.length) (outOf kind raw out o) (tksOf kind tk l) (ks ++ [kind]) (ss ++ [(outOf kind raw out o).length]) := by
  obtain ⟨h1, h2⟩ := blk_at (tk := tk) h hp he ho hr (2 * kind) (by omega) (by omega)
  have h3 := inflF_on (f := f) (round_more (ks := ks) (ss := ss) h1 h2 (by omega))
  rw [show 2 * kind / 2 = kind by omega] at h3
  exact h3
theorem infl_last (h : BlockBits l raw (pre.length + 3) kind bs) (hk : kind < 3) (hp : isBits post) (he : expT out l = (0, o)) (ho : o.length ≤ M) (hr : out.length + raw.length ≤ M) :
    inflF (pre ++ (bitsOf 3 (1 + 2 * kind) ++ (bs ++ post))) M (f + 1) pre.length out tk ks ss = ⟨0, pre.length + 3 + bs.length, outOf kind raw out o, tksOf kind tk l, ks ++ [kind], ss ++ [(outOf kind raw out o).length], (pre.length + 3 + bs.length + 7) / 8⟩ := by
  obtain ⟨h1, h2⟩ := blk_at (tk := tk) h hp he ho hr (1 + 2 * kind) (by omega) (by omega)
  have h3 := inflF_over (f := f) (round_last (ks := ks) (ss := ss) h1 h2 (by omega))
  rw [show (1 + 2 * kind) / 2 = kind by omega] at h3
  exact h3
end
def gapBits : List Nat := bitsOf 3 0 ++ storedBits 3 []
theorem storedBits_mod {a b : Nat} (h : a % 8 = b % 8) (raw : List Nat) : storedBits a raw = storedBits b raw := by
  unfold storedBits
  rw [show evenF a - a = evenF b - b by unfold evenF; omega]
def gaps : Nat → List Nat
  | 0 => []
  | n + 1 => gaps n ++ gapBits
end Go.Proofs.YtdmnfjicjjlnnaaGreatDoor
/-
  What a call reads beside what it holds: 'Reads'. No program is named here.
-/
namespace Go.Proofs.YtdmnfjicjjlnnaaGreatDoor
set_option maxRecDepth 5000
open Go.RowKit
def Reads (w0 : World) (S : Thing) (size : Nat) (v : Value) (n : Nat) (xs : List Value) : Prop :=
  ∀ w F, Mod w0 w (fun _ => False) → S.res w F → Rd w size v n xs ∧ (0 < n → ∀ k, v.ownBlock = some k → k < w0.heap.size ∨ F k)
section
variable {w0 w : World} {S : Thing} {size : Nat} {v : Value} {n : Nat} {xs : List Value} {Rs : List Thing}
theorem Reads.old (h : Rd w0 size v n xs) (hs : 0 < size) : Reads w0 S size v n xs := fun _ _ hm _ => ⟨h.kept hm (fun _ _ h => h), fun hn k hk => .inl (h.lt hs hn k hk)⟩
theorem Reads.own (w0 : World) (e : TypeId) (size : Nat) (v : Value) (n : Nat) (xs : List Value) : Reads w0 (ownT e size v n xs) size v n xs := fun _ _ _ h => ⟨h.1.rd, fun _ k hk => .inr ((h.2 k).2 hk)⟩
theorem Reads.rd (h : Reads w0 S size v n xs) (hh : Held w0 w (S :: Rs)) : Rd w size v n xs := by
  obtain ⟨F, h1, _⟩ := id hh
  exact (h w F hh.mod h1).1
def nonT : Thing where
  res := fun _ F => ∀ k, ¬ F k
  loc := fun _ _ _ _ h _ _ => h
theorem Held.addNon (h : Held w0 w Rs) : Held w0 w (nonT :: Rs) := h.push _ (fun _ => False) (fun _ h => h) (Mod.refl w _) (fun _ h => h.elim)
theorem Held.take2 {R : Thing} (h : Held w0 w (R :: S :: Rs)) : ∃ F F2 : Nat → Prop, R.res w F ∧ S.res w F2 ∧ (∀ k, F2 k → ¬ F k) ∧ (∀ k, F k → w0.heap.size ≤ k ∧ k < w.heap.size) ∧
    ∀ (w' : World) (R' : Thing) (F' : Nat → Prop), R'.res w' F' → Mod w w' F → (∀ k, F' k → F k ∨ w.heap.size ≤ k) → (∀ k, F' k → k < w'.heap.size) → Held w0 w' (R' :: S :: Rs) := by
  obtain ⟨F, h1, h2, h3⟩ := h
  obtain ⟨F2, h4, h5, h6⟩ := id h3
  refine ⟨F, F2, h1, h4, fun k hk hf => (h5 k hk).2.2 (.inr hf), fun k hk => ⟨(h2 k hk).1, (h2 k hk).2.1⟩, fun w' R' F' hR hm hF hlt => ⟨F', hR, fun k hk => ⟨?_, hlt k hk, fun h => h⟩, ?_⟩⟩
  · rcases hF k hk with hf | hf
    · exact (h2 k hf).1
    · exact Nat.le_trans (HeldU.mod h3).size hf
  · have h4 := (h3.more (V := fun k => (False ∨ F k) ∨ F' k) fun k hk => by
      rcases hk with hk | hk
      · exact .inl hk
      · rcases hF k hk with hf | hf
        · exact .inl (.inr hf)
        · exact .inr hf).step hm (fun k hk _ => (h2 k hk).1) (fun k hk _ => .inl (.inr hk))
    exact h4.less fun k hk => by
      rcases hk with hk | hk
      · exact hk.elim
      · exact .inr hk
theorem Held.mid {A B C : Thing} (h : Held w0 w (A :: B :: C :: Rs)) : Held w0 w (A :: C :: B :: Rs) := h.perm ((List.Perm.swap C B Rs).cons A)
theorem Held.mid2 {A B C D : Thing} (h : Held w0 w (A :: B :: C :: D :: Rs)) : Held w0 w (A :: D :: B :: C :: Rs) :=
  h.perm ((((List.Perm.swap D C Rs).cons B).trans (List.Perm.swap D B (C :: Rs))).cons A)
end
end Go.Proofs.YtdmnfjicjjlnnaaGreatDoor
/-
  A struct that lies somewhere in a whole object (Place): its cells, among those of the object; the object as a thing. No program is named here.
-/
namespace Go.Proofs.YtdmnfjicjjlnnaaGreatDoor
set_option maxRecDepth 5000
open Go.RowKit
structure Place where
  b : Nat
  o : Nat
  pre : List Value
  post : List Value
  T : TypeId
  len : pre.length = o
def Place.whole (b : Nat) (T : TypeId) : Place := ⟨b, 0, [], [], T, rfl⟩
theorem Blk.cell0 {w : World} {B : Nat} {cs : List Value} {T : TypeId} (h : Blk w B cs T) {v : Value} (hv : cs[0]? = some v) : w.cell? ⟨B, 0, none⟩ = some v := h.cell hv
theorem Blk.frozen0 {w : World} {B : Nat} {cs : List Value} {T : TypeId} (h : Blk w B cs T) : w.frozen? ⟨B, 0, none⟩ = false := h.frozen 0
def BlkP (w : World) (p : Place) (cs : List Value) : Prop := Blk w p.b (p.pre ++ (cs ++ p.post)) p.T
section
variable {w w' : World} {p : Place} {cs : List Value}
theorem BlkP.lt (h : BlkP w p cs) : p.b < w.heap.size := Blk.lt h
theorem BlkP.cell (h : BlkP w p cs) {i : Nat} {v : Value} (hv : cs[i]? = some v) : w.cell? ⟨p.b, p.o + i, none⟩ = some v := by
  refine Blk.cell h ?_
  have hi := (List.getElem?_eq_some_iff.1 hv).1
  rw [← p.len, List.getElem?_append_right (by omega), Nat.add_sub_cancel_left, List.getElem?_append_left hi]
  exact hv
theorem BlkP.cell0 (h : BlkP w p cs) {v : Value} (hv : cs[0]? = some v) : w.cell? ⟨p.b, p.o, none⟩ = some v := h.cell (i := 0) hv
theorem BlkP.frozen (h : BlkP w p cs) (i : Nat) : w.frozen? ⟨p.b, p.o + i, none⟩ = false := Blk.frozen h _
theorem BlkP.frozen0 (h : BlkP w p cs) : w.frozen? ⟨p.b, p.o, none⟩ = false := Blk.frozen h _
theorem place_set (p : Place) (cs : List Value) (i : Nat) (u : Value) (hi : i < cs.length) : (p.pre ++ (cs ++ p.post)).set (p.o + i) u = p.pre ++ (cs.set i u ++ p.post) := by
  rw [List.set_append_right _ _ (by have := p.len; omega), show p.o + i - p.pre.length = i by have := p.len; omega, List.set_append_left _ _ hi]
theorem BlkP.set (h : BlkP w p cs) (i : Nat) (u : Value) (hi : i < cs.length := by exact Nat.le_of_ble_eq_true rfl) : BlkP (w.setCell ⟨p.b, p.o + i, none⟩ u) p (cs.set i u) := by
  unfold BlkP
  rw [← place_set p cs i u hi]
  exact Blk.set h _ _
theorem BlkP.set0 (h : BlkP w p cs) (u : Value) (hi : 0 < cs.length := by exact Nat.le_of_ble_eq_true rfl) : BlkP (w.setCell ⟨p.b, p.o, none⟩ u) p (cs.set 0 u) := h.set 0 u hi
theorem BlkP.kept (h : BlkP w p cs) {S : Nat → Prop} (hm : Mod w w' S) (hs : ¬ S p.b) : BlkP w' p cs := Blk.kept h hm hs
theorem BlkP.alloc (h : BlkP w p cs) (o : Obj) : BlkP (w.alloc o) p cs := Blk.alloc h o
theorem BlkP.grown (h : BlkP w p cs) {row : Option Nat} (hg : w.grownBy w' row) (hr : row ≠ some p.b) : BlkP w' p cs := Blk.grown h hg hr
theorem BlkP.drew (h : BlkP w p cs) : BlkP w.drew p cs := h
end
def objP (p : Place) (cs : List Value) : Thing := objT p.b (p.pre ++ (cs ++ p.post)) p.T
theorem objP_whole (B : Nat) (cs : List Value) (T : TypeId) : objP (.whole B T) cs = objT B cs T := by
  show objT B ([] ++ (cs ++ [])) T = _
  rw [List.append_nil]; rfl
section
variable {w0 w : World} {p : Place} {cs : List Value} {Rs : List Thing}
theorem Held.objp (h : Held w0 w (objP p cs :: Rs)) : BlkP w p cs := Held.obj h
theorem Held.setObjP (h : Held w0 w (objP p cs :: Rs)) (i : Nat) (u : Value) (hi : i < cs.length := by exact Nat.le_of_ble_eq_true rfl) : Held w0 (w.setCell ⟨p.b, p.o + i, none⟩ u) (objP p (cs.set i u) :: Rs) := by
  unfold objP
  rw [← place_set p cs i u hi]
  exact Held.setObj h _ _
theorem Held.setObjP0 (h : Held w0 w (objP p cs :: Rs)) (u : Value) (hi : 0 < cs.length := by exact Nat.le_of_ble_eq_true rfl) : Held w0 (w.setCell ⟨p.b, p.o, none⟩ u) (objP p (cs.set 0 u) :: Rs) := h.setObjP 0 u hi
theorem Held.newObjP (h : Held w0 w Rs) (cs : List Value) (T : TypeId) : Held w0 (w.alloc (.cells cs.toArray T)) (objP (.whole w.heap.size T) cs :: Rs) := by
  rw [objP_whole]
  exact h.newObj cs T
theorem Held.apartP {e : TypeId} {size n : Nat} {v : Value} {xs : List Value} (h : Held w0 w (objP p cs :: ownT e size v n xs :: Rs)) : v.ownBlock ≠ some p.b := Held.apart h
end
end Go.Proofs.YtdmnfjicjjlnnaaGreatDoor
/-
  The contracts of the bit writer's functions: a writer holds a list of bits ('Wr'); each method turns that list as its text says, and leaves all other memory as it was.
-/
namespace Go.Proofs.YtdmnfjicjjlnnaaGreatDoor
set_option maxRecDepth 5000
open Go.RowKit
theorem fits_yes (n : Int) (w : World) (h : 0 ≤ n ∧ n ≤ 32) :
    Calls Tryz.prog 67 #[.int .i64 n] w fun e w' => e = .returned (.bool true) ∧ w = w' := by
  obtain ⟨h1, h2⟩ := h
  go_enter Tryz.func67, Tryz.ntmps67
  go_wp2
  go_ret
  exact ⟨rfl, rfl⟩
theorem low_val (v k : Nat) (hv : v < 18446744073709551616) (hk : k ≤ 32) :
    bits .and .u64 (v : Int) (IntKind.u64.wrap (IntKind.u64.wrap (2 ^ k) - 1)) = ((v % 2 ^ k : Nat) : Int) := by
  have h1 : (2 : Nat) ^ k ≤ 2 ^ 32 := Nat.pow_le_pow_right (by decide) hk
  have h2 : 0 < (2 : Nat) ^ k := Nat.two_pow_pos k
  have e1 : IntKind.u64.wrap (2 ^ k) = ((2 ^ k : Nat) : Int) := by
    rw [IntWalk.u64_in]
    · simp
    · rw [two_pow_int]; omega
  rw [e1]
  have e2 : IntKind.u64.wrap (((2 ^ k : Nat) : Int) - 1) = ((2 ^ k - 1 : Nat) : Int) := by
    rw [IntWalk.u64_in _ (by omega)]; omega
  rw [e2, bits_and_u64_nat v (2 ^ k - 1) hv (by omega), Nat.and_two_pow_sub_one_eq_mod]
theorem lowest_any (v k : Nat) (w : World) (hv : v < 18446744073709551616) (hk : k ≤ 32) :
    Calls Tryz.prog 68 #[.int .u64 (v : Int), .int .i64 (k : Int)] w fun e w' => e = .returned (.int .u64 ((v % 2 ^ k : Nat) : Int)) ∧ w' = w := by
  go_enter Tryz.func68, Tryz.ntmps68
  go_wp2
  go_ret
  exact ⟨ret_int (low_val v k hv hk), rfl⟩
/-! ### The writer -/
def WIs (w : World) (B : Place) (d : Value) (bs : List Nat) (s c : Nat) : Prop :=
  BlkP w B [d, .int .u64 (s : Int), .int .i64 (c : Int)] ∧ Own w 5 1 d bs.length (u8s bs) ∧ d.ownBlock ≠ some B.b ∧ s < 2 ^ c ∧ (∀ b ∈ bs, b < 256)
def Wr (w : World) (B : Place) (d : Value) (l : List Nat) : Prop := ∃ bs s c, WIs w B d bs s c ∧ c < 8 ∧ l = bits8 bs ++ bitsOf c s
def WSet (B : Nat) (d : Value) (k : Nat) : Prop := k = B ∨ d.ownBlock = some k
def Moved (w : World) (d d' : Value) : Prop := d'.ownBlock = d.ownBlock ∨ ∀ k, d'.ownBlock = some k → w.heap.size ≤ k
def WStep (w w' : World) (B : Place) (d : Value) (l' : List Nat) : Prop := ∃ d', Wr w' B d' l' ∧ Mod w w' (WSet B.b d) ∧ Moved w d d'
theorem WIs.kept {w w' : World} {B : Place} {d : Value} {bs : List Nat} {s c : Nat} (h : WIs w B d bs s c) {S : Nat → Prop} (hm : Mod w w' S) (hS : ∀ k, WSet B.b d k → ¬ S k) : WIs w' B d bs s c :=
  ⟨h.1.kept hm (hS B.b (.inl rfl)), h.2.1.kept hm (fun k hk => hS k (.inr hk)), h.2.2⟩
theorem Wr.kept {w w' : World} {B : Place} {d : Value} {l : List Nat} (h : Wr w B d l) {S : Nat → Prop} (hm : Mod w w' S) (hS : ∀ k, WSet B.b d k → ¬ S k) : Wr w' B d l := by
  obtain ⟨bs, s, c, hW, r⟩ := h
  exact ⟨bs, s, c, hW.kept hm hS, r⟩
theorem Wr.lt {w : World} {B : Place} {d : Value} {l : List Nat} (h : Wr w B d l) : ∀ k, WSet B.b d k → k < w.heap.size := by
  obtain ⟨bs, s, c, hW, _⟩ := h
  rintro k (rfl | hk)
  · exact hW.1.lt
  · exact hW.2.1.lt k hk
theorem Wr.ne {w : World} {B : Place} {d : Value} {l : List Nat} (h : Wr w B d l) : d.ownBlock ≠ some B.b := by
  obtain ⟨bs, s, c, hW, _⟩ := h
  exact hW.2.2.1
theorem WStep.next {w w1 w2 : World} {B : Place} {d d1 : Value} {l2 : List Nat} (_ : ∀ k, WSet B.b d k → k < w.heap.size) (hm : Mod w w1 (WSet B.b d)) (hv : Moved w d d1) (h2 : WStep w1 w2 B d1 l2) : WStep w w2 B d l2 := by
  obtain ⟨d2, hW, hm2, hv2⟩ := h2
  refine ⟨d2, hW, hm.trans hm2 ?_, ?_⟩
  · rintro k hk (rfl | hk2)
    · exact .inl rfl
    · rcases hv with hv | hv
      · exact .inr (hv ▸ hk2)
      · exact absurd (hv k hk2) (by omega)
  · rcases hv2 with hv2 | hv2
    · rcases hv with hv | hv
      · exact .inl (hv2.trans hv)
      · exact .inr fun k hk => hv k (hv2 ▸ hk)
    · exact .inr fun k hk => Nat.le_trans hm.size (hv2 k hk)
theorem WStep.stay {w : World} {B : Place} {d : Value} {l : List Nat} (h : Wr w B d l) : WStep w w B d l := ⟨d, h, Mod.refl _ _, .inl rfl⟩
theorem Tryz.infoByte : (Tryz.prog.info? 5).map (fun i => (i.zero, i.size, i.bytes)) = some (some (.int .u8 0), 1, 1) := by kernel_rfl
/-! ### flush -/
def FlRel (w : World) (B : Place) (d : Value) (L : List Nat) (k : Nat) (wr : World) : Prop :=
  ∃ ao cap bs s c, WIs wr B (.slice ao bs.length cap) bs s c ∧ bits8 bs ++ bitsOf c s = L ∧ c ≤ k ∧ Mod w wr (WSet B.b d) ∧ Moved w d (.slice ao bs.length cap)
theorem flush_round {w wr w1 : World} {B : Place} {d : Value} {L : List Nat} {ao ao1 : Option Addr} {cap cap1 : Nat} {bs : List Nat} {s c k : Nat} {o : Obj}
    (hb : BlkP wr B [.slice ao bs.length cap, .int .u64 (s : Int), .int .i64 (c : Int)]) (hne : Value.ownBlock (.slice ao bs.length cap) ≠ some B.b) (hs : s < 2 ^ c) (hb256 : ∀ b ∈ bs, b < 256)
    (hL : bits8 bs ++ bitsOf c s = L) (h8 : 8 ≤ c) (hk : c - 8 ≤ k) (hM : Mod w wr (WSet B.b d)) (hO : Moved w d (.slice ao bs.length cap)) (hBd : B.b < w.heap.size)
    (hown1 : Own w1 5 1 (.slice ao1 (bs.length + 1) cap1) (bs.length + 1) (u8s bs ++ [.int .u8 (IntKind.u8.wrap s)])) (hgrow : (wr.alloc o).drew.grownBy w1 (Value.ownBlock (.slice ao bs.length cap)))
    (hat : Value.ownBlock (.slice ao1 (bs.length + 1) cap1) = Value.ownBlock (.slice ao bs.length cap) ∨ Value.ownBlock (.slice ao1 (bs.length + 1) cap1) = some (wr.alloc o).drew.heap.size)
    (hb1 : BlkP w1 B [.slice ao bs.length cap, .int .u64 (s : Int), .int .i64 (c : Int)]) :
    FlRel w B d L k (((w1.setCell ⟨B.b, B.o, none⟩ (.slice ao1 (bs.length + 1) cap1)).setCell ⟨B.b, B.o + 1, none⟩ (.int .u64 ((s : Int) / 256))).setCell ⟨B.b, B.o + 2, none⟩ (.int .i64 ((c : Int) - 8))) := by
  have hlen : (bs ++ [s % 256]).length = bs.length + 1 := by simp
  have hsz : (wr.alloc o).drew.heap.size = wr.heap.size + 1 := by show (wr.heap.push o).size = _; simp
  have hMsz := hM.size
  have hne1 : Value.ownBlock (.slice ao1 (bs.length + 1) cap1) ≠ some B.b := by
    rcases hat with h | h
    · rw [h]; exact hne
    · rw [h, hsz]; intro e; injection e with e; have := hb.lt; omega
  have hM1 : Mod w w1 (WSet B.b d) := by
    refine ((hM.alloc o).drew).grown hgrow fun k hk => ?_
    rcases hO with hO | hO
    · exact .inr (.inr (hO ▸ hk))
    · exact .inl (hO k hk)
  have hset : ∀ (w0 : World) (i : Nat) (u : Value), Mod w w0 (WSet B.b d) → Mod w (w0.setCell ⟨B.b, i, none⟩ u) (WSet B.b d) := fun w0 i u h => h.setCell (.inr (.inl rfl)) u
  have hokept : ∀ (w0 : World) (i : Nat) (u : Value), Own w0 5 1 (.slice ao1 (bs.length + 1) cap1) (bs.length + 1) (u8s (bs ++ [s % 256])) → Own (w0.setCell ⟨B.b, i, none⟩ u) 5 1 (.slice ao1 (bs.length + 1) cap1) (bs.length + 1) (u8s (bs ++ [s % 256])) := fun w0 i u h =>
    h.kept (S := fun k => k = B.b) ((Mod.refl w0 (fun k => k = B.b)).setCell (p := ⟨B.b, i, none⟩) (.inr rfl) u) (fun k hk e => hne1 (by rw [hk, e]))
  refine ⟨ao1, cap1, bs ++ [s % 256], s / 256, c - 8, ⟨?_, ?_, by rw [hlen]; exact hne1, ?_, ?_⟩, ?_, hk, hset _ _ _ (hset _ _ _ (hset _ _ _ hM1)), ?_⟩
  · have := ((hb1.set0 (.slice ao1 (bs.length + 1) cap1)).set 1 (.int .u64 ((s : Int) / 256))).set 2 (.int .i64 ((c : Int) - 8))
    simp only [List.set_cons_zero, List.set_cons_succ] at this
    rw [hlen, show ((s / 256 : Nat) : Int) = (s : Int) / 256 by omega, show ((c - 8 : Nat) : Int) = (c : Int) - 8 by omega]
    exact this
  · rw [hlen]
    refine hokept _ _ _ (hokept _ _ _ (hokept _ _ _ ?_))
    have e : u8s bs ++ [Value.int .u8 (IntKind.u8.wrap s)] = u8s (bs ++ [s % 256]) := by
      rw [u8s_append, IntKind.wrap_u8]; simp [u8s]
    rw [← e]; exact hown1
  · have : 2 ^ c = 2 ^ (c - 8) * 256 := by rw [show (256 : Nat) = 2 ^ 8 from rfl, ← Nat.pow_add]; congr 1; omega
    omega
  · intro b hb'
    rcases List.mem_append.1 hb' with h | h
    · exact hb256 b h
    · simp at h; omega
  · rw [← hL, bits8_append, bits8_cons, bits8_nil, List.append_nil, List.append_assoc]
    congr 1
    have h1 := bitsOf_add 8 (c - 8) s
    rw [show 8 + (c - 8) = c by omega] at h1
    rw [h1, show s % 256 = s % 2 ^ 8 from rfl, bitsOf_mod]
  · rw [hlen]
    rcases hat with h | h
    · rcases hO with hO | hO
      · exact .inl (h.trans hO)
      · exact .inr fun k hk => hO k (h ▸ hk)
    · exact .inr fun k hk => by rw [h, hsz] at hk; injection hk with hk; omega
set_option maxHeartbeats 800000 in
theorem flush_any (B : Place) (d : Value) (bs : List Nat) (s c : Nat) (w : World) (h : WIs w B d bs s c) (hc : c < 64) (hbs : (bits8 bs ++ bitsOf c s).length < 1099511627776) :
    Calls Tryz.prog 46 #[.pointer (some ⟨B.b, B.o, none⟩)] w fun e w' => e = .returned (.tuple #[]) ∧ WStep w w' B d (bits8 bs ++ bitsOf c s) := by
  obtain ⟨i, hi, hz0, hz1, hz2⟩ := info_parts Tryz.infoByte
  have hrel0 : FlRel w B d (bits8 bs ++ bitsOf c s) c w := by
    obtain ⟨ao, cap, rfl, _, _⟩ := h.2.1.form
    exact ⟨ao, cap, bs, s, c, h, rfl, Nat.le_refl _, Mod.refl _ _, .inl rfl⟩
  have hBw := h.1.lt
  go_enter Tryz.func46, Tryz.ntmps46
  go_wp2
  go_loopg [] c (fun k wr => FlRel w B d (bits8 bs ++ bitsOf c s) k wr ∧ k < 64)
  case atStart => exact ⟨hrel0, hc⟩
  case round =>
    obtain ⟨⟨ao, cap, bs', s', c', hW, hL, hck, hM, hO⟩, hgk⟩ := hrel
    have hW' := hW
    obtain ⟨hb, hown, hne, hs, hb256⟩ := hW
    have c0 := hb.cell0 rfl
    have c1 := hb.cell (i := 1) rfl
    have c2 := hb.cell (i := 2) rfl
    have f0 := hb.frozen0
    have f1 := hb.frozen 1
    have f2 := hb.frozen 2
    have hlen : bs'.length < 1099511627776 := by have := congrArg List.length hL; simp only [List.length_append, bits8_length] at this hbs; omega
    have HL := hid hL
    clear hL
    have fa : ∀ o, (wr.alloc o).frozen? ⟨B.b, B.o, none⟩ = false := fun o => (hb.alloc o).frozen0
    have ca0 : ∀ o, (wr.alloc o).cell? ⟨B.b, B.o, none⟩ = some (.slice ao bs'.length cap) := fun o => (hb.alloc o).cell0 rfl
    by_cases h8 : 8 ≤ c'
    · go_wp2
      go_region_law
        ((refine step_app _ (by rfl) (.tmp 11) (.tmp 17) 22 (by rfl) 5 i (.int .u8 0) 1 1 Tryz.underlying22 hi hz0 hz1 hz2 (by rfl) (by decide) (.slice ao bs'.length cap) bs'.length (u8s bs') (by rfl) (by exact (hown.alloc _).drew) (.slice (some ⟨wr.heap.size, 0, none⟩) 1 1) 1 [.int .u8 (IntKind.u8.wrap s')] (by rfl) (by exact (Rd.lit _ [_] _ 1 1 (by decide) rfl).drew) (by simp [Value.oneCell']) (by unfold maxLen; omega) (by omega) ?_; intro ao1 cap1 w1 hown1 hgrow hat; have hb1 := (hb.alloc _).drew.grown hgrow hne; have e0 := hb1.cell0 rfl; have e1 := hb1.cell (i := 1) rfl; have e2 := hb1.cell (i := 2) rfl; have g0 := hb1.frozen0; have g1 := hb1.frozen 1; have g2 := hb1.frozen 2))
      all_goals
        go_wp2
        go_roundg (c' - 8)
        case measure => omega
        case rel => exact ⟨flush_round hb hne hs hb256 HL.out h8 (Nat.le_refl _) hM hO hBw hown1 hgrow hat hb1, by omega⟩
    · go_wp2
      go_end0
      exact ⟨rfl, _, ⟨bs', s', c', hW', by omega, HL.out.symm⟩, hM, hO⟩
end Go.Proofs.YtdmnfjicjjlnnaaGreatDoor
/-
  The contracts of the bit writer's methods over 'flush': Put, Align, Write, Take, Bits, NewWriter.
-/
namespace Go.Proofs.YtdmnfjicjjlnnaaGreatDoor
set_option maxRecDepth 5000
open Go.RowKit
theorem or_shift (s v c : Nat) (hs : s < 2 ^ c) (hc : c < 8) (hv : v < 4294967296) :
    bits .or .u64 (s : Int) (IntKind.u64.wrap ((v : Int) * 2 ^ c)) = ((s + 2 ^ c * v : Nat) : Int) := by
  have h1 : (2 : Nat) ^ c ≤ 2 ^ 7 := Nat.pow_le_pow_right (by decide) (by omega)
  have h2 : 2 ^ c * v < 2 ^ 7 * 4294967296 := Nat.lt_of_le_of_lt (Nat.mul_le_mul_right _ h1) (by omega)
  have e1 : IntKind.u64.wrap ((v : Int) * 2 ^ c) = ((2 ^ c * v : Nat) : Int) := by
    have : ((v : Int) * 2 ^ c) = ((2 ^ c * v : Nat) : Int) := by rw [two_pow_int, Nat.mul_comm]; simp
    rw [this, IntWalk.u64_in _ (by omega)]
  rw [e1, bits_or_u64_nat s _ (by omega) (by omega), Nat.or_comm, ← Nat.two_pow_add_eq_or_of_lt hs, Nat.add_comm]
theorem wsize {bs : List Nat} {s c : Nat} : (bits8 bs ++ bitsOf c s).length = 8 * bs.length + c := by rw [List.length_append, bits8_length, bitsOf_length]
theorem lowest_of (v k m : Nat) (w : World) (hv : v < 18446744073709551616) (hk : k ≤ 32) (hm : m = v % 2 ^ k) :
    Calls Tryz.prog 68 #[.int .u64 (v : Int), .int .i64 (k : Int)] w fun e w' => e = .returned (.int .u64 (m : Int)) ∧ w' = w := by
  rw [hm]; exact lowest_any v k w hv hk
theorem put_mid {w : World} {B : Place} {d : Value} {bs : List Nat} {s c n m q : Nat} (hb : BlkP w B [d, .int .u64 (s : Int), .int .i64 (c : Int)]) (hown : Own w 5 1 d bs.length (u8s bs)) (hne : d.ownBlock ≠ some B.b)
    (hs : s < 2 ^ c) (hb256 : ∀ b ∈ bs, b < 256) (hm : m < 2 ^ n) (hq : q = s + 2 ^ c * m) :
    WIs ((w.setCell ⟨B.b, B.o + 1, none⟩ (.int .u64 (q : Int))).setCell ⟨B.b, B.o + 2, none⟩ (.int .i64 ((c : Int) + (n : Int)))).drew B d bs q (c + n) ∧
      Mod w ((w.setCell ⟨B.b, B.o + 1, none⟩ (.int .u64 (q : Int))).setCell ⟨B.b, B.o + 2, none⟩ (.int .i64 ((c : Int) + (n : Int)))).drew (WSet B.b d) := by
  have hM : Mod w ((w.setCell ⟨B.b, B.o + 1, none⟩ (.int .u64 (q : Int))).setCell ⟨B.b, B.o + 2, none⟩ (.int .i64 ((c : Int) + (n : Int)))).drew (fun k => k = B.b) :=
    ((((Mod.refl w (fun k => k = B.b)).setCell (p := ⟨B.b, B.o + 1, none⟩) (.inr rfl) _).setCell (p := ⟨B.b, B.o + 2, none⟩) (.inr rfl) _)).drew
  refine ⟨⟨?_, hown.kept hM (fun k hk e => hne (by rw [hk, e])), hne, ?_, hb256⟩, hM.mono fun k _ e => .inl e⟩
  · have := (hb.set 1 (.int .u64 (q : Int))).set 2 (.int .i64 ((c : Int) + (n : Int)))
    simp only [List.set_cons_zero, List.set_cons_succ] at this
    exact this
  · rw [hq, Nat.pow_add]
    have h1 : 2 ^ c * m + 2 ^ c ≤ 2 ^ c * 2 ^ n := by
      rw [← Nat.mul_succ]; exact Nat.mul_le_mul_left _ hm
    omega
set_option maxHeartbeats 800000 in
theorem put_any (B : Place) (d : Value) (l : List Nat) (v n : Nat) (w : World) (h : Wr w B d l) (hv : v < 4294967296) (hn : n ≤ 32) (hl : l.length < 1099511627000) :
    Calls Tryz.prog 54 #[.pointer (some ⟨B.b, B.o, none⟩), .int .u32 (v : Int), .int .i64 (n : Int)] w fun e w' => e = .returned (.tuple #[]) ∧ WStep w w' B d (l ++ bitsOf n v) := by
  have hlt := hid h.lt
  obtain ⟨bs, s, c, ⟨hb, hown, hne, hs, hb256⟩, hc, hl'⟩ := h
  have c1 := hb.cell (i := 1) rfl
  have c2 := hb.cell (i := 2) rfl
  have f1 := hb.frozen 1
  have f2 := hb.frozen 2
  obtain ⟨m, hm⟩ : ∃ m, m = v % 2 ^ n := ⟨_, rfl⟩
  obtain ⟨q, hq⟩ : ∃ q, q = s + 2 ^ c * m := ⟨_, rfl⟩
  have hvm : m < 4294967296 := by rw [hm]; exact Nat.lt_of_le_of_lt (Nat.mod_le _ _) hv
  have hm2 : m < 2 ^ n := by rw [hm]; exact Nat.mod_lt _ (Nat.two_pow_pos n)
  have hos := or_shift s m c hs hc hvm
  rw [← hq] at hos
  have hmid := hid (put_mid hb hown hne hs hb256 hm2 hq)
  have hjoin : bits8 bs ++ bitsOf (c + n) q = l ++ bitsOf n v := by
    rw [hl', hq, bitsOf_join c n s m hs, hm, bitsOf_mod, List.append_assoc]
  have hlen : (bits8 bs ++ bitsOf (c + n) q).length < 1099511627776 := by rw [hjoin, List.length_append, bitsOf_length]; omega
  have Hos := hid hos
  have HM := hid hm
  have HJ := hid hjoin
  have HLen := hid hlen
  clear hs hm hl' hos hq hjoin hm2 hlen
  go_enter Tryz.func54, Tryz.ntmps54
  go_wp2_with (go_at_call 67; refine (fits_yes _ _ ⟨by omega, by omega⟩).mono ?_; rintro e w' ⟨rfl, rfl⟩)
  refine wp_region_still_tail 14 (by kernel_rfl) (by kernel_rfl) ?_
  simp only [List.take_succ_cons, List.take_zero, List.drop_succ_cons, List.drop_zero]
  change wpStill _ _ w.drew _ _ _
  iterate 7 still_step
  refine wpStill_step (fun K hK => ?_)
  go_simp
  rw [IntWalk.u64_in (v : Int) (by omega)]
  refine ⟨_, lowest_of v n m _ (by omega) hn HM.out, hK _ ?_⟩
  clear hK K
  iterate 6 still_step
  refine wpStill_nil ?_
  rw [Hos.out]
  go_wp2_with fail
  refine (flush_any B d bs q (c + n) _ hmid.out.1 (by omega) HLen.out).mono ?_
  rintro e w' ⟨rfl, hst⟩
  have hfin := hid (WStep.next hlt.out hmid.out.2 (Or.inl rfl) hst)
  clear hst
  go_wp2
  go_end0
  rw [HJ.out] at hfin
  exact ⟨rfl, hfin.out⟩
/-! ### Align -/
theorem align_list {bs : List Nat} {s c : Nat} (hs : s < 2 ^ c) (hc : c < 8) (h0 : c ≠ 0) : bits8 bs ++ bitsOf 8 s = evened (bits8 bs ++ bitsOf c s) := by
  have h1 := bitsOf_zero_pad c (8 - c) s hs
  rw [show c + (8 - c) = 8 by omega] at h1
  rw [h1, evened, wsize, List.append_assoc]
  congr 3
  omega
theorem even_done {bs : List Nat} : evened (bits8 bs) = bits8 bs := by
  rw [evened, bits8_length]
  have : (8 - 8 * bs.length % 8) % 8 = 0 := by omega
  rw [this]; simp
theorem walign_any (B : Place) (d : Value) (l : List Nat) (w : World) (h : Wr w B d l) (hl : l.length < 1099511627000) :
    Calls Tryz.prog 29 #[.pointer (some ⟨B.b, B.o, none⟩)] w fun e w' => e = .returned (.tuple #[]) ∧ WStep w w' B d (evened l) := by
  have hlt := hid h.lt
  have hstay := hid (WStep.stay h)
  obtain ⟨bs, s, c, ⟨hb, hown, hne, hs, hb256⟩, hc, hl'⟩ := h
  have c2 := hb.cell (i := 2) rfl
  have f2 := hb.frozen 2
  by_cases h0 : c = 0
  · subst h0
    have hev : evened l = l := by rw [hl', show bitsOf 0 s = [] from rfl, List.append_nil]; exact even_done
    have HE := hid hev
    clear hev hl' hs
    have hd : (((0 : Nat) : Int) == 0) = true := rfl
    go_enter Tryz.func29, Tryz.ntmps29
    go_wp2
    refine bodyPost_ret (results_none rfl _ _ _) rfl ?_
    rw [HE.out]
    exact ⟨rfl, hstay.out⟩
  · have hj := align_list (bs := bs) hs hc h0
    rw [← hl'] at hj
    have hlen : (bits8 bs ++ bitsOf 8 s).length < 1099511627776 := by
      have := congrArg List.length hl'; rw [wsize] at this; rw [wsize]; omega
    have hs8 : s < 2 ^ 8 := Nat.lt_of_lt_of_le hs (Nat.pow_le_pow_right (by decide) (by omega))
    have hM : Mod w (w.setCell ⟨B.b, B.o + 2, none⟩ (.int .i64 8)) (fun k => k = B.b) := (Mod.refl w (fun k => k = B.b)).setCell (p := ⟨B.b, B.o + 2, none⟩) (.inr rfl) _
    have hW : WIs (w.setCell ⟨B.b, B.o + 2, none⟩ (.int .i64 8)) B d bs s 8 := ⟨hb.set 2 _, hown.kept hM (fun k hk e => hne (by rw [hk, e])), hne, hs8, hb256⟩
    have HM := hid (hM.mono (T := WSet B.b d) fun k _ e => .inl e)
    have HW := hid hW
    have HJ := hid hj
    have HLen := hid hlen
    have hd : ((c : Int) == 0) = false := by simp; omega
    clear hM hW hj hlen hl' hs8 hs
    go_enter Tryz.func29, Tryz.ntmps29
    go_wp2_with fail
    refine (flush_any B d bs s 8 _ HW.out (by omega) HLen.out).mono ?_
    rintro e w' ⟨rfl, hst⟩
    have hfin := hid (WStep.next hlt.out HM.out (Or.inl rfl) hst)
    clear hst
    go_wp2
    go_end0
    rw [HJ.out] at hfin
    exact ⟨rfl, hfin.out⟩
/-! ### Take -/
theorem take_any (B : Place) (d : Value) (l : List Nat) (w : World) (h : Wr w B d l) :
    Calls Tryz.prog 28 #[.pointer (some ⟨B.b, B.o, none⟩)] w fun e w' => e = .returned d ∧ Own w' 5 1 d (bytesOf l).length (u8s (bytesOf l)) ∧
      Wr w' B (.slice none 0 0) (l.drop (8 * (bytesOf l).length)) ∧ Mod w w' (fun k => k = B.b) := by
  obtain ⟨bs, s, c, ⟨hb, hown, hne, hs, hb256⟩, hc, hl'⟩ := h
  have hbytes : bytesOf l = bs := by rw [hl']; exact bytesOf_bits8 bs _ hb256 (by rw [bitsOf_length]; exact hc)
  have hdrop : l.drop (8 * bs.length) = bits8 [] ++ bitsOf c s := by
    rw [hl', List.drop_append, bits8_length, Nat.sub_self, List.drop_eq_nil_of_le (by rw [bits8_length]; omega)]; rfl
  have hM : Mod w (w.setCell ⟨B.b, B.o, none⟩ (.slice none 0 0)) (fun k => k = B.b) := (Mod.refl w (fun k => k = B.b)).setCell (p := ⟨B.b, B.o, none⟩) (.inr rfl) _
  have HW : Hid (Own (w.setCell ⟨B.b, B.o, none⟩ (.slice none 0 0)) 5 1 d (bytesOf l).length (u8s (bytesOf l)) ∧
      Wr (w.setCell ⟨B.b, B.o, none⟩ (.slice none 0 0)) B (.slice none 0 0) (l.drop (8 * (bytesOf l).length)) ∧ Mod w (w.setCell ⟨B.b, B.o, none⟩ (.slice none 0 0)) (fun k => k = B.b)) := by
    rw [hbytes, hdrop]
    exact ⟨hown.kept hM (fun k hk e => hne (by rw [hk, e])), ⟨[], s, c, ⟨hb.set0 _, Own.nil _ _ _, by simp [Value.ownBlock], hs, by simp⟩, hc, rfl⟩, hM⟩
  have c0 := hb.cell0 rfl
  have f0 := hb.frozen0
  clear hM hdrop hbytes hl' hs
  go_enter Tryz.func28, Tryz.ntmps28
  go_wp2
  go_ret
  exact ⟨rfl, HW.out⟩
/-! ### Bits -/
/-! ### Write -/
theorem evened_bytes {bs : List Nat} {s c : Nat} {l : List Nat} (h : bits8 bs ++ bitsOf c s = evened l) (hc : c < 8) : c = 0 := by
  have h1 := congrArg List.length h
  have h2 := evened_length l
  rw [wsize] at h1
  omega
theorem write_mid {w w1 : World} {B : Place} {bs news : List Nat} {s : Nat} {ao ao1 : Option Addr} {cap cap1 n : Nat} (hb : BlkP w B [.slice ao bs.length cap, .int .u64 (s : Int), .int .i64 ((0 : Nat) : Int)]) (hne : Value.ownBlock (.slice ao bs.length cap) ≠ some B.b)
    (hs : s < 2 ^ 0) (hb256 : ∀ b ∈ bs, b < 256) (hn256 : ∀ b ∈ news, b < 256) (hn : n = news.length)
    (hown1 : Own w1 5 1 (.slice ao1 (bs.length + n) cap1) (bs.length + n) (u8s bs ++ u8s news)) (hgrow : w.grownBy w1 (Value.ownBlock (.slice ao bs.length cap)))
    (hat : Value.ownBlock (.slice ao1 (bs.length + n) cap1) = Value.ownBlock (.slice ao bs.length cap) ∨ Value.ownBlock (.slice ao1 (bs.length + n) cap1) = some w.heap.size) :
    WStep w (w1.setCell ⟨B.b, B.o, none⟩ (.slice ao1 (bs.length + n) cap1)) B (.slice ao bs.length cap) (bits8 bs ++ bits8 news) := by
  subst hn
  have hne1 : Value.ownBlock (.slice ao1 (bs.length + news.length) cap1) ≠ some B.b := by
    rcases hat with h | h
    · rw [h]; exact hne
    · rw [h]; intro e; injection e with e; have := hb.lt; omega
  have hb1 := hb.grown hgrow hne
  have hM1 : Mod w w1 (WSet B.b (.slice ao bs.length cap)) := (Mod.refl w _).grown hgrow fun k hk => .inr (.inr hk)
  refine ⟨.slice ao1 (bs.length + news.length) cap1, ⟨bs ++ news, s, 0, ⟨hb1.set0 _, ?_, hne1, hs, ?_⟩, by omega, ?_⟩, hM1.setCell (.inr (.inl rfl)) _, ?_⟩
  · rw [List.length_append, u8s_append]
    exact hown1.kept ((Mod.refl w1 (fun k => k = B.b)).setCell (p := ⟨B.b, B.o, none⟩) (.inr rfl) _) (fun k hk e => hne1 (by rw [hk, e]))
  · intro b hb'
    rcases List.mem_append.1 hb' with h | h
    · exact hb256 b h
    · exact hn256 b h
  · rw [bits8_append]; simp [bitsOf]
  · rcases hat with h | h
    · exact .inl h
    · exact .inr fun k hk => by rw [h] at hk; injection hk with hk; omega
theorem write_any (B : Place) (d v : Value) (l news : List Nat) (n : Nat) (w : World) (h : Wr w B d l) (hl : l.length < 1099511600000) (hv : Rd w 1 v n (u8s news)) (hvo : 0 < n → ∀ k, v.ownBlock = some k → ¬ WSet B.b d k)
    (hn256 : ∀ b ∈ news, b < 256) (hnl : n < 1099511627776) :
    Calls Tryz.prog 149 #[.pointer (some ⟨B.b, B.o, none⟩), v] w fun e w' => e = .returned (.tuple #[]) ∧ WStep w w' B d (evened l ++ bits8 news) := by
  obtain ⟨i, hi, hz0, hz1, hz2⟩ := info_parts Tryz.infoByte
  have hlt := hid h.lt
  have hn : n = news.length := by have := hv.1; rw [u8s_length] at this; omega
  have HN := hid hn
  clear hn
  go_enter Tryz.func149, Tryz.ntmps149
  go_wp2_with fail
  refine (walign_any B d l w h (by omega)).mono ?_
  rintro e w1 ⟨rfl, d1, ⟨bs, s, c, ⟨hb, hown, hne, hs, hb256⟩, hc, hl'⟩, hM, hmv⟩
  have hv1 := hv.kept0 hM hvo
  have hc0 := evened_bytes hl'.symm hc
  subst hc0
  obtain ⟨ao, cap, rfl, hcap, hmax⟩ := hown.form
  have hlen : bs.length < 1099511600007 := by
    have h1 := congrArg List.length hl'; rw [wsize] at h1; have := evened_le l; omega
  have c0 := hb.cell0 rfl
  have f0 := hb.frozen0
  have HL : Hid (evened l = bits8 bs) := by rw [hl']; simp [bitsOf, Hid]
  have HS := hid hs
  clear hl' hs
  go_wp2_with (at_builtin; refine wpList_app _ rfl (.tmp 12) (.tmp 13) 22 rfl 5 i (.int .u8 0) 1 1 Tryz.underlying22 hi hz0 hz1 hz2 rfl (by decide) (.slice ao bs.length cap) bs.length (u8s bs) rfl hown v n (u8s news) rfl hv1 (u8s_one _) (by unfold maxLen; omega) (by omega) ?_; intro ao1 cap1 w2 hown1 hgrow hat; have hb1 := hb.grown hgrow hne; have e0 := hb1.cell0 rfl; have g0 := hb1.frozen0)
  go_end0
  have hst := write_mid hb hne HS.out hb256 hn256 HN.out hown1 hgrow hat
  rw [HL.out]
  exact ⟨rfl, WStep.next hlt.out hM hmv hst⟩
end Go.Proofs.YtdmnfjicjjlnnaaGreatDoor
/-
  The bits of a number of 32 bits in reverse order: math/bits.Reverse32, ReverseBytes32, and the program's Reverse.
-/
namespace Go.Proofs.YtdmnfjicjjlnnaaGreatDoor
set_option maxRecDepth 5000
open Go.RowKit
/-! ### Plain numbers -/
def rv1 (x : Nat) : Nat := (x >>> 1 &&& 1431655765) ||| ((x &&& 1431655765) <<< 1 % 4294967296)
def rv2 (x : Nat) : Nat := (x >>> 2 &&& 858993459) ||| ((x &&& 858993459) <<< 2 % 4294967296)
def rv4 (x : Nat) : Nat := (x >>> 4 &&& 252645135) ||| ((x &&& 252645135) <<< 4 % 4294967296)
def rv8 (x : Nat) : Nat := (x >>> 8 &&& 16711935) ||| ((x &&& 16711935) <<< 8 % 4294967296)
def rv16 (x : Nat) : Nat := (x >>> 16) ||| (x <<< 16 % 4294967296)
def rev32 (x : Nat) : Nat := rv16 (rv8 (rv4 (rv2 (rv1 x))))
theorem or_lt {a b : Nat} (ha : a < 4294967296) (hb : b < 4294967296) : a ||| b < 4294967296 := Nat.or_lt_two_pow (n := 32) ha hb
theorem and_lt {a b : Nat} (hb : b < 4294967296) : a &&& b < 4294967296 := Nat.lt_of_le_of_lt Nat.and_le_right hb
theorem rv1_lt (x : Nat) : rv1 x < 4294967296 := or_lt (and_lt (by decide)) (Nat.mod_lt _ (by decide))
theorem rv2_lt (x : Nat) : rv2 x < 4294967296 := or_lt (and_lt (by decide)) (Nat.mod_lt _ (by decide))
theorem rv4_lt (x : Nat) : rv4 x < 4294967296 := or_lt (and_lt (by decide)) (Nat.mod_lt _ (by decide))
theorem rv8_lt (x : Nat) : rv8 x < 4294967296 := or_lt (and_lt (by decide)) (Nat.mod_lt _ (by decide))
theorem rv16_lt (x : Nat) (h : x < 4294967296) : rv16 x < 4294967296 := or_lt (by rw [Nat.shiftRight_eq_div_pow]; exact Nat.lt_of_le_of_lt (Nat.div_le_self _ _) h) (Nat.mod_lt _ (by decide))
theorem rev32_lt (x : Nat) : rev32 x < 4294967296 := rv16_lt _ (rv8_lt _)
theorem mod_bit (x i : Nat) (h : i < 32) : (x % 4294967296).testBit i = x.testBit i := by
  have := Nat.testBit_mod_two_pow x 32 i
  rw [show (2 : Nat) ^ 32 = 4294967296 from rfl] at this
  rw [this]; simp [h]
theorem stage_at (x s m i : Nat) (hi : i < 32) : ((x >>> s &&& m) ||| ((x &&& m) <<< s % 4294967296)).testBit i = ((x.testBit (s + i) && m.testBit i) || (decide (s ≤ i) && (x.testBit (i - s) && m.testBit (i - s)))) := by
  rw [Nat.testBit_or, mod_bit _ _ hi, Nat.testBit_and, Nat.testBit_shiftRight, Nat.testBit_shiftLeft, Nat.testBit_and]
theorem stage_lo {x s m i : Nat} (hi : i < 32) (h1 : m.testBit i = true) (h2 : (decide (s ≤ i) && m.testBit (i - s)) = false) : ((x >>> s &&& m) ||| ((x &&& m) <<< s % 4294967296)).testBit i = x.testBit (s + i) := by
  rw [stage_at _ _ _ _ hi, h1]
  cases hd : decide (s ≤ i) <;> simp_all
theorem stage_hi {x s m i : Nat} (hi : i < 32) (h1 : m.testBit i = false) (h2 : (decide (s ≤ i) && m.testBit (i - s)) = true) : ((x >>> s &&& m) ||| ((x &&& m) <<< s % 4294967296)).testBit i = x.testBit (i - s) := by
  rw [stage_at _ _ _ _ hi, h1]
  simp only [Bool.and_eq_true] at h2
  simp [h2.1, h2.2]
def fl (s i : Nat) : Nat := if i / s % 2 = 0 then i + s else i - s
theorem bits1 : ∀ i, i < 32 → ((1431655765 : Nat).testBit i = decide (i / 1 % 2 = 0)) ∧ (decide (1 ≤ i) && (1431655765 : Nat).testBit (i - 1)) = !decide (i / 1 % 2 = 0) := by decide
theorem bits2 : ∀ i, i < 32 → ((858993459 : Nat).testBit i = decide (i / 2 % 2 = 0)) ∧ (decide (2 ≤ i) && (858993459 : Nat).testBit (i - 2)) = !decide (i / 2 % 2 = 0) := by decide
theorem bits4 : ∀ i, i < 32 → ((252645135 : Nat).testBit i = decide (i / 4 % 2 = 0)) ∧ (decide (4 ≤ i) && (252645135 : Nat).testBit (i - 4)) = !decide (i / 4 % 2 = 0) := by decide
theorem bitsB : ∀ i, i < 32 → ((16711935 : Nat).testBit i = decide (i / 8 % 2 = 0)) ∧ (decide (8 ≤ i) && (16711935 : Nat).testBit (i - 8)) = !decide (i / 8 % 2 = 0) := by decide
theorem stage_fl (x s m i : Nat) (hi : i < 32) (h : (m.testBit i = decide (i / s % 2 = 0)) ∧ (decide (s ≤ i) && m.testBit (i - s)) = !decide (i / s % 2 = 0)) :
    ((x >>> s &&& m) ||| ((x &&& m) <<< s % 4294967296)).testBit i = x.testBit (fl s i) := by
  by_cases hd : i / s % 2 = 0
  · rw [stage_lo hi (by rw [h.1]; simp [hd]) (by rw [h.2]; simp [hd]), fl, if_pos hd, Nat.add_comm]
  · rw [stage_hi hi (by rw [h.1]; simp [hd]) (by rw [h.2]; simp [hd]), fl, if_neg hd]
theorem rv16_at (x i : Nat) (hx : x < 4294967296) (hi : i < 32) : (rv16 x).testBit i = x.testBit (fl 16 i) := by
  unfold rv16
  rw [Nat.testBit_or, mod_bit _ _ hi, Nat.testBit_shiftRight, Nat.testBit_shiftLeft]
  by_cases h : i < 16
  · have e : i / 16 % 2 = 0 := by omega
    rw [fl, if_pos e, Nat.add_comm]
    have : decide (i ≥ 16) = false := by simp; omega
    rw [this]; simp
  · have e : ¬ i / 16 % 2 = 0 := by omega
    have h0 : x.testBit (16 + i) = false := Nat.testBit_lt_two_pow (Nat.lt_of_lt_of_le hx (Nat.pow_le_pow_right (n := 2) (by decide) (show 32 ≤ 16 + i by omega)))
    rw [fl, if_neg e, h0]
    have : decide (i ≥ 16) = true := by simp; omega
    rw [this]; simp
theorem fl_all : ∀ i, i < 32 → fl 16 i < 32 ∧ fl 8 (fl 16 i) < 32 ∧ fl 4 (fl 8 (fl 16 i)) < 32 ∧ fl 2 (fl 4 (fl 8 (fl 16 i))) < 32 ∧ fl 1 (fl 2 (fl 4 (fl 8 (fl 16 i)))) = 31 - i := by decide
theorem rev_at (x i : Nat) (hi : i < 32) : (rev32 x).testBit i = x.testBit (31 - i) := by
  obtain ⟨h1, h2, h3, h4, h5⟩ := fl_all i hi
  rw [rev32, rv16_at _ _ (rv8_lt _) hi, rv8, stage_fl _ _ _ _ h1 (bitsB _ h1), rv4, stage_fl _ _ _ _ h2 (bits4 _ h2), rv2, stage_fl _ _ _ _ h3 (bits2 _ h3), rv1, stage_fl _ _ _ _ h4 (bits1 _ h4), h5]
theorem bit_of (x i : Nat) : x / 2 ^ i % 2 = (x.testBit i).toNat := by
  rw [← Nat.toNat_testBit]
def revN (v n : Nat) : Nat := rev32 v / 2 ^ (32 - n)
theorem revN_lt (v n : Nat) (hn : n ≤ 32) : revN v n < 2 ^ n := by
  rw [revN, Nat.div_lt_iff_lt_mul (Nat.two_pow_pos _), ← Nat.pow_add, show n + (32 - n) = 32 by omega]
  exact rev32_lt v
theorem revN_bit (v n i : Nat) (hn : n ≤ 32) (hi : i < n) : revN v n / 2 ^ (n - 1 - i) % 2 = v / 2 ^ i % 2 := by
  rw [revN, Nat.div_div_eq_div_mul, ← Nat.pow_add, bit_of, bit_of, rev_at _ _ (by omega)]
  congr 2
  omega
/-! ### The walks -/
theorem bits_and32 (a b : Nat) (ha : a < 4294967296) (hb : b < 4294967296) : bits .and .u32 (a : Int) (b : Int) = ((a &&& b : Nat) : Int) :=
  (bits_nat .u32 32 (by decide) (fun n h0 h1 => IntWalk.u32_in n (by omega)) a b ha hb).1
theorem bits_or32 (a b : Nat) (ha : a < 4294967296) (hb : b < 4294967296) : bits .or .u32 (a : Int) (b : Int) = ((a ||| b : Nat) : Int) :=
  (bits_nat .u32 32 (by decide) (fun n h0 h1 => IntWalk.u32_in n (by omega)) a b ha hb).2
theorem stage_val (x s m : Nat) (p : Int) (hp : p = ((2 ^ s : Nat) : Int)) (hx : x < 4294967296) (hm : m < 4294967296) :
    bits .or .u32 (bits .and .u32 ((x : Int) / p) (m : Int)) (bits .and .u32 (x : Int) (m : Int) * p % 4294967296) = (((x >>> s &&& m) ||| ((x &&& m) <<< s % 4294967296) : Nat) : Int) := by
  have e1 : (x : Int) / p = ((x >>> s : Nat) : Int) := by rw [hp, Nat.shiftRight_eq_div_pow]; exact (Int.natCast_ediv _ _).symm
  have h1 : x >>> s < 4294967296 := by rw [Nat.shiftRight_eq_div_pow]; exact Nat.lt_of_le_of_lt (Nat.div_le_self _ _) hx
  rw [e1, bits_and32 _ _ h1 hm, bits_and32 _ _ hx hm, hp]
  have e2 : (((x &&& m : Nat) : Int) * ((2 ^ s : Nat) : Int) % 4294967296) = ((((x &&& m) <<< s) % 4294967296 : Nat) : Int) := by
    rw [Nat.shiftLeft_eq]
    generalize (x &&& m) = t
    generalize 2 ^ s = q
    rw [← Int.natCast_mul]; omega
  rw [e2, bits_or32 _ _ (and_lt hm) (Nat.mod_lt _ (by decide))]
theorem last_val (x : Nat) (hx : x < 4294967296) : bits .or .u32 ((x : Int) / 65536) ((x : Int) * 65536 % 4294967296) = ((rv16 x : Nat) : Int) := by
  have e1 : (x : Int) / (65536 : Int) = ((x >>> 16 : Nat) : Int) := by rw [Nat.shiftRight_eq_div_pow]; omega
  have e2 : ((x : Int) * (65536 : Int) % (4294967296 : Int)) = ((x <<< 16 % 4294967296 : Nat) : Int) := by rw [Nat.shiftLeft_eq]; omega
  have h1 : x >>> 16 < 4294967296 := by rw [Nat.shiftRight_eq_div_pow]; exact Nat.lt_of_le_of_lt (Nat.div_le_self _ _) hx
  rw [e1, e2, bits_or32 _ _ h1 (Nat.mod_lt _ (by decide))]; rfl
theorem revbytes_any (x : Nat) (w : World) (hx : x < 4294967296) :
    Calls Tryz.prog 157 #[.int .u32 (x : Int)] w fun e w' => e = .returned (.int .u32 ((rv16 (rv8 x) : Nat) : Int)) ∧ w = w' := by
  have v1 : bits .or .u32 (bits .and .u32 ((x : Int) / 256) 16711935) (bits .and .u32 (x : Int) 16711935 * 256 % 4294967296) = ((rv8 x : Nat) : Int) := stage_val x 8 16711935 256 rfl hx (by decide)
  obtain ⟨y, hy⟩ : ∃ y, y = rv8 x := ⟨_, rfl⟩
  have hyb : y < 4294967296 := by rw [hy]; exact rv8_lt x
  rw [← hy] at v1 ⊢
  have v2 := last_val y hyb
  obtain ⟨z, hz⟩ : ∃ z, z = rv16 y := ⟨_, rfl⟩
  rw [← hz] at v2 ⊢
  clear hy hz
  go_enter Tryz.func157, Tryz.ntmps157
  go_wp2
  go_ret
  exact ⟨rfl, rfl⟩
theorem rev32_any (x : Nat) (w : World) (hx : x < 4294967296) :
    Calls Tryz.prog 156 #[.int .u32 (x : Int)] w fun e w' => e = .returned (.int .u32 ((rev32 x : Nat) : Int)) ∧ w = w' := by
  have v1 : bits .or .u32 (bits .and .u32 ((x : Int) / 2) 1431655765) (bits .and .u32 (x : Int) 1431655765 * 2 % 4294967296) = ((rv1 x : Nat) : Int) := stage_val x 1 1431655765 2 rfl hx (by decide)
  unfold rev32
  obtain ⟨y, hy⟩ : ∃ y, y = rv1 x := ⟨_, rfl⟩
  have hyb : y < 4294967296 := by rw [hy]; exact rv1_lt x
  rw [← hy] at v1 ⊢
  have v2 : bits .or .u32 (bits .and .u32 ((y : Int) / 4) 858993459) (bits .and .u32 (y : Int) 858993459 * 4 % 4294967296) = ((rv2 y : Nat) : Int) := stage_val y 2 858993459 4 rfl hyb (by decide)
  obtain ⟨z, hz⟩ : ∃ z, z = rv2 y := ⟨_, rfl⟩
  have hzb : z < 4294967296 := by rw [hz]; exact rv2_lt y
  rw [← hz] at v2 ⊢
  have v3 : bits .or .u32 (bits .and .u32 ((z : Int) / 16) 252645135) (bits .and .u32 (z : Int) 252645135 * 16 % 4294967296) = ((rv4 z : Nat) : Int) := stage_val z 4 252645135 16 rfl hzb (by decide)
  obtain ⟨u, hu⟩ : ∃ u, u = rv4 z := ⟨_, rfl⟩
  have hub : u < 4294967296 := by rw [hu]; exact rv4_lt z
  rw [← hu] at v3 ⊢
  clear hy hz hu
  go_enter Tryz.func156, Tryz.ntmps156
  go_wp2_with (go_at_call 157; refine (revbytes_any u _ hub).mono ?_; rintro e w' ⟨rfl, rfl⟩)
  go_ret
  exact ⟨rfl, rfl⟩
theorem reverse_any (v n : Nat) (w : World) (hv : v < 4294967296) (hn : n ≤ 32) :
    Calls Tryz.prog 155 #[.int .u32 (v : Int), .int .i64 (n : Int)] w fun e w' => e = .returned (.int .u32 ((revN v n : Nat) : Int)) ∧ w = w' := by
  obtain ⟨r, hr⟩ : ∃ r, r = rev32 v := ⟨_, rfl⟩
  have hval : (r : Int) / 2 ^ (32 - n) = ((revN v n : Nat) : Int) := by
    rw [revN, ← hr, two_pow_int]; exact (Int.natCast_ediv _ _).symm
  have HR := hid hr
  have HV := hid hval
  clear hr hval
  go_enter Tryz.func155, Tryz.ntmps155
  go_wp2_with (first | (go_at_call 67; refine (fits_yes _ _ ⟨by omega, by omega⟩).mono ?_; rintro e w' ⟨rfl, rfl⟩) | (go_at_call 156; refine (rev32_any v _ hv).mono ?_; rw [← HR.out]; rintro e w' ⟨rfl, rfl⟩))
  go_ret
  rw [← HV.out]
  exact ⟨rfl, rfl⟩
end Go.Proofs.YtdmnfjicjjlnnaaGreatDoor
