/-
  What any bytes are as a zlib file (ZEnds), and what is still to come when a part of it was read. No walk is in here.
-/
import Derived.Test.YtbkbkmgogbgofaaDoorZh07
import Derived.Test.YtbkbkmgogbgofaaDoorZh20
import Derived.Test.YtbkbkmgogbgofaaDoorZh02
import Derived.Test.YtbkbkmgogbgofaaDoorZh03
import Derived.Lib.AppendStr
import Derived.Lib.BytesEntry
import Derived.Laws.IdiomStrings
import Derived.Test.YtbkbkmgogbgofaaDoorZh06
import Derived.Deep.RegionHeld3
import Derived.Test.YtbkbkmgogbgofaaDoorZh16
namespace Go.Proofs.YtbkbkmgogbgofaaDoor
set_option maxRecDepth 5000
def beB (v : Nat) : List Nat := [v / 16777216 % 256, v / 65536 % 256, v / 256 % 256, v % 256]
def adB (o : List Nat) : List Nat := beB (adlOf 1 o)
theorem beB_byt (v : Nat) : ∀ b ∈ beB v, b < 256 := fun b hb => by
  simp only [beB, List.mem_cons, List.mem_nil_iff, or_false] at hb
  omega
theorem adl_lt1 (o : List Nat) : adlOf 1 o < 4294967296 := by
  unfold adlOf
  have h := adl_lt (p := (1 % 65536 % 65521, 1 / 65536 % 65521)) (Nat.mod_lt _ (by decide)) (Nat.mod_lt _ (by decide)) o
  omega
def fstB (a : Nat) : Bool := decide (a % 16 = 8 ∧ a / 16 ≤ 7)
def sndB (a b : Nat) : Bool := decide ((256 * a + b) % 31 = 0 ∧ b / 32 % 2 = 0)
def zhd : List Nat → Nat
  | [] => 5
  | [a] => if fstB a then 5 else 2
  | a :: b :: _ => if fstB a && sndB a b then 0 else 2
def zlast (cl : Bool) (l : List Nat) : Nat := if l = [] then (if cl then 8 else 5) else 2
def ztail (cl : Bool) (o r : List Nat) : Nat := if r.length < 4 then 5 else if r.take 4 = adB o then zlast cl (r.drop 4) else 4
def StrZ (cl : Bool) (M : Nat) (ph : Ph) (L o out : List Nat) (e : Nat) : Prop :=
  ∃ e0 l', Ends M ph L o e0 l' (o ++ out) ∧ (e0 ≠ 8 ∧ e = e0 ∨ e0 = 8 ∧ e = ztail cl (o ++ out) (restOf l'))
def FinZ (cl : Bool) (e0 : Nat) (L o out : List Nat) (e : Nat) : Prop := out = [] ∧ (e0 ≠ 8 ∧ e = e0 ∨ e0 = 8 ∧ e = ztail cl o (restOf L))
def ZEnds (cl : Bool) (M : Nat) (l out : List Nat) (e : Nat) : Prop := zhd l ≠ 0 ∧ e = zhd l ∧ out = [] ∨ zhd l = 0 ∧ StrZ cl M .hd (bits8 (l.drop 2)) [] out e
theorem Ends.growsZ {M : Nat} {p : Ph} {l l' o o' : List Nat} {e : Nat} (h : Ends M p l o e l' o') (hm : MOk p l o) : ∃ t, o' = o ++ t := (hm.ends h).2
section
variable {cl : Bool} {M e : Nat} {ph ph' : Ph} {l l' l2 o t out : List Nat}
theorem StrZ.on (h : StrZ cl M ph l o out e) (hm : MOk ph l o) (hr : Reach M ph l o ph' l' (o ++ t)) : ∃ out', out = t ++ out' ∧ StrZ cl M ph' l' (o ++ t) out' e := by
  obtain ⟨e0, lz, hE, hT⟩ := h
  have h1 := Ends.behind hr hE
  obtain ⟨t2, h2⟩ := h1.growsZ (hm.reach hr).1
  rw [h2] at h1 hT
  obtain rfl : out = t ++ t2 := List.append_cancel_left (by rw [h2, List.append_assoc])
  exact ⟨t2, rfl, e0, lz, h1, hT⟩
theorem StrZ.done (h : StrZ cl M ph l o out e) (hd : stepM M l o ph = .done l2) : FinZ cl 8 l2 o out e := by
  obtain ⟨e0, lz, hE, hT⟩ := h
  obtain ⟨rfl, rfl, h3⟩ := (Ends.done hd).det hE
  obtain rfl : out = [] := List.self_eq_append_right.1 h3
  rw [List.append_nil] at hT
  exact ⟨rfl, hT⟩
theorem StrZ.err {e1 : Nat} {L : List Nat} (h : StrZ cl M ph l o out e) (hd : stepM M l o ph = .err e1) : FinZ cl e1 L o out e ∧ out = [] ∧ e = e1 := by
  obtain ⟨e0, lz, hE, hT⟩ := h
  obtain ⟨rfl, rfl, h3⟩ := (Ends.err hd).det hE
  obtain rfl : out = [] := List.self_eq_append_right.1 h3
  have h8 : e1 ≠ 8 := by rcases stepM_err hd with h | h | h | h <;> omega
  rcases hT with ⟨_, rfl⟩ | ⟨h9, _⟩
  · exact ⟨⟨rfl, .inl ⟨h8, rfl⟩⟩, rfl, rfl⟩
  · exact absurd h9 h8
end
/-! ### Whole streams, whatever stands behind -/
end Go.Proofs.YtbkbkmgogbgofaaDoor
/-
  Headers of a gzip member: how bytes are read as one (headR), what is printed (printH), and that the one undoes the other. No program is named here.
-/
namespace Go.Proofs.YtbkbkmgogbgofaaDoor
set_option maxRecDepth 5000
/-! ### Numbers as bytes, the lowest first -/
/-! ### Readers -/
/-! ### A beginning of what is read -/
/-! ### What is printed is read -/
end Go.Proofs.YtbkbkmgogbgofaaDoor
/-
  Strings as lists of bytes: a conversion of read bytes, an append of a string's bytes to an own slice, where the first byte 0 stands. No program is named here.
-/
namespace Go.Proofs.YtbkbkmgogbgofaaDoor
set_option maxRecDepth 5000
open Go.RowKit
def strB (l : List Nat) : ByteArray := ⟨(l.map UInt8.ofNat).toArray⟩
def strV (l : List Nat) : Value := .string (strB l)
def natsOf (s : ByteArray) : List Nat := s.data.toList.map UInt8.toNat
section
variable {P : Program} {w : World}
/-! ### A conversion -/
theorem run_conv_str (src dst e : TypeId) (hs : P.underlying src = some (.slice e)) (he : P.underlying e = some (.int .u8)) (hd : P.underlying dst = some .string) (v : Value) (l : List Nat) (n : Nat) (hv : Rd w 1 v n (u8s l)) (hb : ∀ b ∈ l, b < 256) :
    (convert src dst v).run P w = .ok (strV l) w := by
  obtain ⟨hl, ao, cap, rfl, hn, hc, h0, hr⟩ := hv
  have hl' : l.length = n := by unfold u8s at hl; rw [List.length_map] at hl; omega
  rcases hr with rfl | ⟨b, off, rfl, hr⟩
  · obtain rfl : l = [] := List.eq_nil_of_length_eq_zero hl'
    cases ao with
    | none => rw [run_convert_bytes_string w src dst e none 0 cap hs he hd]; rfl
    | some a => exact run_convert_bytes_back w src dst e a cap [] hs he hd (fun j hj => absurd hj (Nat.not_lt_zero _))
  · have h1 := run_convert_bytes_back (P := P) w src dst e ⟨b, off, none⟩ cap (l.map UInt8.ofNat) hs he hd (fun j hj => by
      rw [List.length_map] at hj
      rw [Addr.add_lit]
      refine hr j _ ?_
      have hb' := hb l[j] (List.getElem_mem _)
      unfold u8s
      rw [List.getElem?_map, List.getElem?_eq_getElem hj, List.getElem_map, UInt8.toNat_ofNat', show l[j] % 2 ^ 8 = l[j] by omega]
      rfl)
    rw [List.length_map, hl'] at h1
    exact h1
theorem wpList_conv_str {ops : Array Oper} {rest : List Oper} {o : Oper} {ac : Act} {Q : Exit → Act → World → Prop} (hgd : o.guard = none) (src dst : TypeId) (x : Operand)
    (ho : o.op = .convert src dst x) (e : TypeId) (hs : P.underlying src = some (.slice e)) (he : P.underlying e = some (.int .u8)) (hd : P.underlying dst = some .string)
    (v : Value) (l : List Nat) (n : Nat) (hx : ac.eval x = v) (hv : Rd w 1 v n (u8s l)) (hb : ∀ b ∈ l, b < 256)
    (h : wpList P ops Q rest (ac.put o.dst (strV l)) w) : wpList P ops Q (o :: rest) ac w := by
  refine wpList_plain hgd fun K hK => ?_
  have hr := run_conv_str (P := P) src dst e hs he hd v l n hv hb
  unfold Oper.wp execOp
  simp only [ho, hx, hr, Sem.run_bind, Sem.run_pure, Result.andThen_ok]
  exact hK _ _ h
/-! ### An append -/
end
/-! ### Where the first 0 stands -/
end Go.Proofs.YtbkbkmgogbgofaaDoor
/-
  Two slices of bytes compared.
-/
namespace Go.Proofs.YtbkbkmgogbgofaaDoor
set_option maxRecDepth 5000
open Go.RowKit
theorem strB_inj {a b : List Nat} (ha : ∀ x ∈ a, x < 256) (hb : ∀ x ∈ b, x < 256) (h : strB a = strB b) : a = b := by
  have key : ∀ l : List Nat, (∀ x ∈ l, x < 256) → natsOf (strB l) = l := fun l hl => by
    unfold natsOf strB
    rw [List.map_map]
    conv => rhs; rw [← List.map_id l]
    refine List.map_congr_left fun x hx => ?_
    have := hl x hx
    simp only [Function.comp, UInt8.toNat_ofNat', id, show x % 2 ^ 8 = x by omega]
  rw [← key a ha, ← key b hb, h]
section
variable {w : World}
set_option maxRecDepth 20000 in
set_option maxHeartbeats 1600000 in
theorem beq_any (x y : Value) (a b : List Nat) (n m : Nat) (hx : Rd w 1 x n (u8s a)) (hy : Rd w 1 y m (u8s b)) (ha : ∀ x ∈ a, x < 256) (hb : ∀ x ∈ b, x < 256) :
    Calls Tryd.prog 25 #[x, y] w fun e w' => e = .returned (.bool (decide (a = b))) ∧ w' = w := by
  obtain ⟨ao, ac, rfl, _, _⟩ := hx.form
  obtain ⟨bo, bc, rfl, _, _⟩ := hy.form
  have HX := hid (And.intro hx ha)
  have HY := hid (And.intro hy hb)
  have HI := hid (@strB_inj a b ha hb)
  clear hx hy ha hb
  by_cases hab : a = b
  · subst hab
    rw [show decide (a = a) = true from decide_eq_true rfl]
    obtain ⟨s, hs⟩ : ∃ s, s = strB a := ⟨_, rfl⟩
    have HS := hid (show strV a = .string s by rw [hs]; rfl)
    clear hs
    go_enter Tryd.func25, Tryd.ntmps25
    go_wp2_with (first
      | (refine wpList_conv_str rfl 26 9 (.tmp 5) rfl 5 Tryd.underlying26 Tryd.underlying5 Tryd.underlying9 _ a n rfl HX.out.1 HX.out.2 ?_; rw [HS.out])
      | (refine wpList_conv_str rfl 26 9 (.tmp 7) rfl 5 Tryd.underlying26 Tryd.underlying5 Tryd.underlying9 _ a m rfl HY.out.1 HY.out.2 ?_; rw [HS.out]))
    go_ret
    simp
  · rw [show decide (a = b) = false from decide_eq_false hab]
    have hne : strB a ≠ strB b := fun h => hab (HI.out h)
    obtain ⟨s, hs⟩ : ∃ s, s = strB a := ⟨_, rfl⟩
    obtain ⟨s', hs'⟩ : ∃ s, s = strB b := ⟨_, rfl⟩
    have HS := hid (show strV a = .string s by rw [hs]; rfl)
    have HS' := hid (show strV b = .string s' by rw [hs']; rfl)
    rw [← hs, ← hs'] at hne
    have HB : Hid ((s.toList == s'.toList) = false) := by
      refine hid ?_
      rw [ByteArray.toList_eq, ByteArray.toList_eq, beq_eq_false_iff_ne]
      intro h
      refine hne ?_
      cases s; cases s'
      exact congrArg _ (Array.toList_inj.1 h)
    clear hs hs' hab hne
    go_enter Tryd.func25, Tryd.ntmps25
    go_wp2_with (first
      | (refine wpList_conv_str rfl 26 9 (.tmp 5) rfl 5 Tryd.underlying26 Tryd.underlying5 Tryd.underlying9 _ a n rfl HX.out.1 HX.out.2 ?_; rw [HS.out])
      | (refine wpList_conv_str rfl 26 9 (.tmp 7) rfl 5 Tryd.underlying26 Tryd.underlying5 Tryd.underlying9 _ b m rfl HY.out.1 HY.out.2 ?_; rw [HS'.out]))
    go_ret
    exact ⟨by show Ending.returned (.bool (s.toList == s'.toList)) = _; rw [HB.out], rfl⟩
end
end Go.Proofs.YtbkbkmgogbgofaaDoor
/-
  The landed zlib decoder: its object; the bytes of a checksum, the first two bytes, fail, readEnd.
-/
namespace Go.Proofs.YtbkbkmgogbgofaaDoor
set_option maxRecDepth 5000
open Go.RowKit
theorem infoByte14 : (Tryd.prog.info? 5).map (fun i => (i.zero, i.size, i.bytes)) = some (some (.int .u8 0), 1, 1) := by kernel_rfl
def zcells (iv : Value) (cl : Bool) (most st er : Nat) (sp : Option Addr) (sm : Nat) : List Value :=
  [iv, .bool cl, .int .i64 (most : Int), .int .i64 (st : Int), .int .i64 (er : Int), .pointer sp, .int .u32 (sm : Int)]
def zdT (D : Nat) (iv : Value) (cl : Bool) (most st er : Nat) (sp : Option Addr) (sm : Nat) : Thing := objT D (zcells iv cl most st er sp sm) 35
section
variable {w0 w : World} {Rs : List Thing} {D : Nat} {l : List Nat} {iv : Value} {cl : Bool} {most st er sm : Nat} {sp : Option Addr}
theorem zd_cell (h : Held w0 w (zdT D iv cl most st er sp sm :: Rs)) (k : Nat) (u : Value) (hu : (zcells iv cl most st er sp sm)[k]? = some u) : w.cell? ⟨D, k, none⟩ = some u := h.obj.cell hu
theorem zd_froz (h : Held w0 w (zdT D iv cl most st er sp sm :: Rs)) (k : Nat) : w.frozen? ⟨D, k, none⟩ = false := h.obj.frozen k
theorem zd_set (h : Held w0 w (zdT D iv cl most st er sp sm :: Rs)) (k : Nat) (u : Value) (cs : List Value) (hc : (zcells iv cl most st er sp sm).set k u = cs) :
    Held w0 (w.setCell ⟨D, k, none⟩ u) (objT D cs 35 :: Rs) := by
  rw [← hc]
  exact Held.setObj h k u
set_option maxRecDepth 20000 in
set_option maxHeartbeats 1600000 in
theorem zfail_any (e0 : Nat) (ki : Int) (hki : ki = (e0 : Int)) (h : Held w0 w (zdT D iv cl most st er sp sm :: Rs)) :
    Calls Tryd.prog 19 #[.pointer (some ⟨D, 0, none⟩), .int .i64 ki] w fun e w' => e = .returned (.int .i64 ki) ∧
      Held w0 w' (zdT D (.slice none 0 0) cl most 4 e0 none sm :: Rs) := by
  subst hki
  have c5 := zd_cell h 3 _ rfl
  have f5 := zd_froz h 3
  have h1 := zd_set h 3 (.int .i64 4) (zcells iv cl most 4 er sp sm) rfl
  have c6 := zd_cell h1 4 _ rfl
  have f6 := zd_froz h1 4
  have h2 := zd_set h1 4 (.int .i64 (e0 : Int)) (zcells iv cl most 4 e0 sp sm) rfl
  have c2 := zd_cell h2 0 _ rfl
  have f2 := zd_froz h2 0
  have h3 := zd_set h2 0 (.slice none 0 0) (zcells (.slice none 0 0) cl most 4 e0 sp sm) rfl
  have c7 := zd_cell h3 5 _ rfl
  have f7 := zd_froz h3 5
  have H4 := hid (zd_set h3 5 (.pointer none) (zcells (.slice none 0 0) cl most 4 e0 none sm) rfl)
  clear h h1 h2 h3
  go_enter Tryd.func19, Tryd.ntmps19
  go_wp2
  go_ret
  exact ⟨rfl, H4.out⟩
set_option maxRecDepth 20000 in
set_option maxHeartbeats 1600000 in
theorem zend_any (h : Held w0 w (zdT D iv cl most st er sp sm :: Rs)) :
    Calls Tryd.prog 8 #[.pointer (some ⟨D, 0, none⟩)] w fun e w' => e = .returned (.tuple #[]) ∧ Held w0 w' (zdT D iv true most st er sp sm :: Rs) := by
  have c1 := zd_cell h 1 _ rfl
  have f1 := zd_froz h 1
  have H := hid (zd_set h 1 (.bool true) (zcells iv true most st er sp sm) rfl)
  clear h
  go_enter Tryd.func8, Tryd.ntmps8
  go_wp2
  go_end0
  exact ⟨rfl, H.out⟩
/-! ### readEnd -/
set_option maxRecDepth 20000 in
set_option maxHeartbeats 1600000 in
theorem zlast_any (h : Held w0 w (zdT D iv cl most 3 er sp sm :: ownT 5 1 iv l.length (u8s l) :: Rs)) :
    Calls Tryd.prog 17 #[.pointer (some ⟨D, 0, none⟩)] w fun e w' => e = .returned (.int .i64 (zlast cl l : Nat)) ∧
      (l = [] ∧ Held w0 w' (zdT D iv cl most 3 er sp sm :: ownT 5 1 iv l.length (u8s l) :: Rs) ∨ l ≠ [] ∧ Held w0 w' (zdT D (.slice none 0 0) cl most 4 2 none sm :: Rs)) := by
  obtain ⟨ao, cap, rfl, _, _⟩ := h.drop.own.form
  have c0 := zd_cell h 0 _ rfl
  have c1 := zd_cell h 1 _ rfl
  obtain ⟨n, hn⟩ : ∃ n, n = l.length := ⟨_, rfl⟩
  rw [← hn] at h c0 ⊢
  by_cases hl : l = []
  · obtain rfl : n = 0 := by rw [hn, hl]; rfl
    rw [hl] at h ⊢
    have H := hid h
    clear h hn hl
    cases cl with
    | true =>
      go_enter Tryd.func17, Tryd.ntmps17
      go_wp2
      go_ret
      exact ⟨by rw [show zlast true [] = 8 by decide]; rfl, .inl ⟨by trivial, H.out⟩⟩
    | false =>
      go_enter Tryd.func17, Tryd.ntmps17
      go_wp2
      go_ret
      exact ⟨by rw [show zlast false [] = 5 by decide]; rfl, .inl ⟨by trivial, H.out⟩⟩
  · have h0 : (0 : Int) < (n : Int) := by have := List.length_pos_iff.2 hl; omega
    have HF := hid (zfail_any 2 2 rfl h)
    have HL := hid hl
    clear h hn hl
    go_enter Tryd.func17, Tryd.ntmps17
    go_wp2_with fail
    with_reducible refine HF.out.mono ?_
    rintro e w2 ⟨rfl, h2⟩
    have H2 := hid h2
    clear h2 HF
    go_wp2
    go_ret
    exact ⟨by unfold zlast; rw [if_neg HL.out]; rfl, .inr ⟨HL.out, H2.out.swap.drop⟩⟩
end
/-! ### The first two bytes -/
section
variable {w : World}
theorem u8_and15 (a : Nat) (h : a < 256) : bits .and .u8 (a : Int) 15 = ((a % 16 : Nat) : Int) := by
  have key : ∀ a < 256, bits .and .u8 ((a : Nat) : Int) 15 = ((a % 16 : Nat) : Int) := by decide +kernel
  exact key a h
theorem u8_and32 (b : Nat) (h : b < 256) : bits .and .u8 (b : Int) 32 = ((32 * (b / 32 % 2) : Nat) : Int) := by
  have key : ∀ b < 256, bits .and .u8 ((b : Nat) : Int) 32 = ((32 * (b / 32 % 2) : Nat) : Int) := by decide +kernel
  exact key b h
set_option maxRecDepth 20000 in
set_option maxHeartbeats 1600000 in
theorem zfst_any (a : Nat) (ha : a < 256) : Calls Tryd.prog 18 #[.int .u8 (a : Int)] w fun e w' => e = .returned (.bool (fstB a)) ∧ w' = w := by
  have h1 := u8_and15 a ha
  by_cases h8 : a % 16 = 8
  · rw [h8] at h1
    by_cases h7 : a / 16 ≤ 7
    · have hI : (a : Int) / 16 ≤ 7 := by omega
      have hB : fstB a = true := decide_eq_true ⟨h8, h7⟩
      rw [hB]
      clear h8 h7 hB ha
      go_enter Tryd.func18, Tryd.ntmps18
      go_wp2
      go_ret
      exact ⟨rfl, rfl⟩
    · have hI : ¬ (a : Int) / 16 ≤ 7 := by omega
      have hB : fstB a = false := decide_eq_false fun h => h7 h.2
      rw [hB]
      clear h8 h7 hB ha
      go_enter Tryd.func18, Tryd.ntmps18
      go_wp2
      go_ret
      exact ⟨rfl, rfl⟩
  · have hI : ¬ ((a % 16 : Nat) : Int) = 8 := by omega
    have hB : fstB a = false := decide_eq_false fun h => h8 h.1
    rw [hB]
    generalize ((a % 16 : Nat) : Int) = q at h1 hI
    clear h8 hB ha
    go_enter Tryd.func18, Tryd.ntmps18
    go_wp2
    go_ret
    exact ⟨rfl, rfl⟩
set_option maxRecDepth 20000 in
set_option maxHeartbeats 1600000 in
theorem zsnd_any (a b : Nat) (ha : a < 256) (hb : b < 256) : Calls Tryd.prog 20 #[.int .u8 (a : Int), .int .u8 (b : Int)] w fun e w' => e = .returned (.bool (sndB a b)) ∧ w' = w := by
  have h1 := u8_and32 b hb
  have hw1 : IntKind.i64.wrap (a : Int) = (a : Int) := IntWalk.i64_in _ (by omega)
  have hw2 : IntKind.i64.wrap (b : Int) = (b : Int) := IntWalk.i64_in _ (by omega)
  have hw3 : IntKind.i64.wrap ((a : Int) * 256) = (a : Int) * 256 := IntWalk.i64_in _ (by omega)
  have hw4 : IntKind.i64.wrap ((a : Int) * 256 + (b : Int)) = (a : Int) * 256 + (b : Int) := IntWalk.i64_in _ (by omega)
  have hw5 : ((a : Int) * 256 + (b : Int)).tmod 31 = (((256 * a + b) % 31 : Nat) : Int) := by
    rw [show (a : Int) * 256 + (b : Int) = ((256 * a + b : Nat) : Int) by push_cast; omega]
    rfl
  by_cases h8 : (256 * a + b) % 31 = 0
  · rw [h8] at hw5
    by_cases h7 : b / 32 % 2 = 0
    · rw [h7] at h1
      have hB : sndB a b = true := decide_eq_true ⟨h8, h7⟩
      rw [hB]
      clear h8 h7 hB ha hb
      go_enter Tryd.func20, Tryd.ntmps20
      go_wp2
      go_ret
      exact ⟨rfl, rfl⟩
    · have h71 : b / 32 % 2 = 1 := by omega
      rw [h71] at h1
      have hB : sndB a b = false := decide_eq_false fun h => h7 h.2
      rw [hB]
      clear h8 h7 hB ha hb h71
      go_enter Tryd.func20, Tryd.ntmps20
      go_wp2
      go_ret
      exact ⟨rfl, rfl⟩
  · have hI : ¬ (((256 * a + b) % 31 : Nat) : Int) = 0 := by omega
    have hB : sndB a b = false := decide_eq_false fun h => h8 h.1
    rw [hB]
    generalize (((256 * a + b) % 31 : Nat) : Int) = q at hw5 hI
    clear h8 hB ha hb
    go_enter Tryd.func20, Tryd.ntmps20
    go_wp2
    go_ret
    exact ⟨rfl, rfl⟩
end
/-! ### The bytes of a checksum -/
section
variable {w0 w : World} {Rs : List Thing}
theorem beB_cells (s : Nat) : ([.int .u8 ((s : Int) / 16777216 % 256), .int .u8 ((s : Int) / 65536 % 256), .int .u8 ((s : Int) / 256 % 256), .int .u8 ((s : Int) % 256)] : List Value) = u8s (beB s) := by
  have h1 : ((s / 16777216 % 256 : Nat) : Int) = (s : Int) / 16777216 % 256 := by omega
  have h2 : ((s / 65536 % 256 : Nat) : Int) = (s : Int) / 65536 % 256 := by omega
  have h3 : ((s / 256 % 256 : Nat) : Int) = (s : Int) / 256 % 256 := by omega
  have h4 : ((s % 256 : Nat) : Int) = (s : Int) % 256 := by omega
  rw [← h1, ← h2, ← h3, ← h4]
  rfl
set_option maxRecDepth 20000 in
set_option maxHeartbeats 1600000 in
theorem zsum_any (v : Value) (n s : Nat) (xs : List Nat) (hn2 : n < 100000000) (h : Held w0 w (ownT 5 1 v n (u8s xs) :: Rs)) :
    Calls Tryd.prog 26 #[v, .int .u32 (s : Int)] w fun e w' => ∃ d, e = .returned d ∧ Held w0 w' (ownT 5 1 d (n + 4) (u8s (xs ++ beB s)) :: Rs) := by
  obtain ⟨i0, hi0, hz0, hz1, hz2⟩ := info_parts infoByte14
  have hmx : 1000000000 ≤ maxLen := by decide
  obtain ⟨ao, cap, rfl, _, _⟩ := h.own.form
  have HC := hid (beB_cells s)
  have HR : Hid (Rd (w.alloc (.cells #[.int .u8 ((s : Int) / 16777216 % 256), .int .u8 ((s : Int) / 65536 % 256), .int .u8 ((s : Int) / 256 % 256), .int .u8 ((s : Int) % 256)] 5)) 1 (.slice (some ⟨w.heap.size, 0, none⟩) 4 4) 4 (u8s (beB s))) := hid (by rw [← HC.out]; exact Rd.lit w _ 5 1 4 (by decide) rfl)
  have H := hid h
  clear h
  go_enter Tryd.func26, Tryd.ntmps26
  go_wp2_with ((with_reducible show wpList _ _ _ (⟨some 18, _, _, _, _, _⟩ :: _) _ _); go_must (refine wpList_app_held rfl (.tmp 5) (.tmp 17) 26 rfl 5 i0 (.int .u8 0) 1 1 Tryd.underlying26 hi0 hz0 hz1 hz2 rfl (by decide) _ n (u8s xs) rfl (H.out.alloc _) _ 4 (u8s (beB s)) rfl HR.out (u8s_one _) (n + 4) rfl (by omega) (by omega) ?_); intro yo yc w2 h2; have H2 := hid h2; clear h2)
  go_ret
  have h3 := H2.out
  rw [← u8s_append] at h3
  exact ⟨_, rfl, h3⟩
end
end Go.Proofs.YtbkbkmgogbgofaaDoor
/-
  The landed zlib decoder: its stream's Take; slices cut; where an own slice lies.
-/
namespace Go.Proofs.YtbkbkmgogbgofaaDoor
set_option maxRecDepth 5000
open Go.RowKit
abbrev strZ (B : Nat) : Place := .whole B 54
def TakeZ (M n : Nat) : DSt → List Nat → Nat → DSt → Prop
  | .run ph l o, t, er, s' => TakeOut M ph l o (n : Int) t er s'
  | .fin e l, t, er, s' => t = [] ∧ er = e ∧ s' = .fin e l
section
variable {w0 w : World} {Rs : List Thing} {M n er : Nat} {s s' : DSt} {t : List Nat}
theorem dec_factsZ {p : Place} {ph : Ph} {l o : List Nat} (h : Held w0 w (decT p M (.run ph l o) :: Rs)) : o.length ≤ M ∧ MOk ph l o ∧ l.length < bigD := by
  obtain ⟨x, hok, _⟩ := dec_open h
  have hi : DInv M (room0 x.c) x.ls x.Ts ph l o [] := hok
  have := hi.most
  exact ⟨by omega, hi.ok, hi.len⟩
theorem dec_finZ {p : Place} {e : Nat} {l : List Nat} (h : Held w0 w (decT p M (.fin e l) :: Rs)) : (e = 2 ∨ e = 3 ∨ e = 6 ∨ e = 8) ∧ isBits l ∧ l.length < bigD := by
  obtain ⟨x, hok, _⟩ := dec_open h
  have hf := (show FInv x.c e l ∧ x.ls = [] from hok).1
  exact ⟨hf.kind, hf.bits, hf.len⟩
theorem takeZ_any {p : Place} (hn : 0 < n) (hn2 : n ≤ 9223372036854775807) (hG : GlobI w0) (h : Held w0 w (decT p M s :: Rs)) :
    Calls Tryd.prog 22 #[.pointer (some ⟨p.b, p.o, none⟩), .int .i64 (n : Int)] w fun e w' => ∃ (x : Value) (t : List Nat) (er : Nat) (s' : DSt), e = .returned (.tuple #[x, .int .i64 (er : Int)]) ∧ TakeZ M n s t er s' ∧
      Held w0 w' (ownT 5 1 x t.length (u8s t) :: decT p M s' :: Rs) := by
  cases s with
  | run ph l o => exact take_pos ph l o n hn hn2 hG h
  | fin e l =>
    refine (take_fin e l n hn h).mono ?_
    rintro e' w' ⟨x, rfl, h2⟩
    exact ⟨x, [], e, _, rfl, ⟨rfl, rfl, rfl⟩, h2⟩
theorem TakeZ.short (h : TakeZ M n s t er s') (hn : 0 < n) : t.length ≤ n := by
  cases s with
  | fin e l => rw [h.1]; exact Nat.zero_le _
  | run ph l o =>
    have h : TakeOut M ph l o (n : Int) t er s' := h
    cases h with
    | full h _ => omega
    | wait h _ _ => omega
    | fin h _ _ _ _ => omega
theorem TakeZ.none (h : TakeZ M n s [] er s') (hn : 0 < n) : (er = 5 ∧ ∃ ph l o, s' = .run ph l o ∧ stepM M l o ph = .err 5) ∨ ∃ l, s' = .fin er l := by
  cases s with
  | fin e l => obtain ⟨_, rfl, rfl⟩ := h; exact .inr ⟨l, rfl⟩
  | run ph l o =>
    have h : TakeOut M ph l o (n : Int) [] er s' := h
    cases h with
    | full ht _ =>
      have h0 : (([] : List Nat).length : Int) = 0 := rfl
      omega
    | wait _ hr hs => exact .inl ⟨rfl, _, _, _, rfl, hs⟩
    | fin _ _ _ _ her => rw [if_pos rfl] at her; subst her; exact .inr ⟨_, rfl⟩
def ComeZ (cl : Bool) (M : Nat) (o : List Nat) : DSt → List Nat → Nat → Prop
  | .run ph l ob, out, e => ob = o ∧ StrZ cl M ph l o out e
  | .fin e0 l, out, e => FinZ cl e0 l o out e
theorem TakeZ.come {cl : Bool} {o out : List Nat} {e : Nat} (h : TakeZ M n s t er s') (hc : ComeZ cl M o s out e) (hm : ∀ ph l ob, s = .run ph l ob → MOk ph l ob) : ∃ out', out = t ++ out' ∧ ComeZ cl M (o ++ t) s' out' e := by
  cases s with
  | fin e0 l =>
    obtain ⟨rfl, rfl, rfl⟩ := h
    refine ⟨out, rfl, ?_⟩
    rw [List.append_nil]
    exact hc
  | run ph l ob =>
    obtain ⟨rfl, hc⟩ := hc
    have h : TakeOut M ph l ob (n : Int) t er s' := h
    have hm := hm ph l ob rfl
    cases h with
    | full _ hr => obtain ⟨out', h1, h2⟩ := hc.on hm hr; exact ⟨out', h1, rfl, h2⟩
    | wait _ hr _ => obtain ⟨out', h1, h2⟩ := hc.on hm hr; exact ⟨out', h1, rfl, h2⟩
    | fin _ hr hs _ _ =>
      obtain ⟨out', h1, h2⟩ := hc.on hm hr
      refine ⟨out', h1, ?_⟩
      rcases hs with ⟨hs, rfl⟩ | ⟨hs, rfl⟩
      · exact h2.done hs
      · exact (h2.err hs).1
theorem u8s_cutZ (l : List Nat) (a b : Nat) : ((u8s l).drop (a * 1)).take (b * 1) = u8s ((l.drop a).take b) := by
  simp only [Nat.mul_one, u8s, List.map_drop, List.map_take]
theorem zcut_from (ao : Option Addr) (n cap a m : Nat) (ai : Int) (hai : ai = (a : Int)) (l : List Nat) (hn : n = l.length) (hnc : n ≤ cap) (hm : m + a = n) (hv : ∀ wg, Held w0 wg Rs → Rd wg 1 (.slice ao n cap) n (u8s l)) :
    ∃ a1 c1, m ≤ c1 ∧ (∀ wg, (Instr.sliceAt 26 (.slice ao n cap) (some (.int .i64 ai)) none none).run Tryd.prog wg = .ok (.slice a1 m c1) wg) ∧ ∀ wg, Held w0 wg Rs → Rd wg 1 (.slice a1 m c1) m (u8s (l.drop a)) := by
  obtain ⟨i0, hi0, hz0, hz1, hz2⟩ := info_parts infoByte14
  obtain ⟨a1, ha1⟩ : ∃ a1, sliced ao a n cap 1 = .slice a1 (n - a) (cap - a) := ⟨_, rfl⟩
  subst hai
  obtain rfl : m = n - a := by omega
  refine ⟨a1, cap - a, by omega, fun wg => ?_, fun wg h => ?_⟩
  · rw [← ha1]
    exact run_cut (P := Tryd.prog) (w := wg) 26 5 i0 1 Tryd.underlying26 hi0 hz1 ao n cap a n (some (.int .i64 (a : Int))) none ⟨_, rfl⟩ rfl (by omega) (by omega)
  · have h1 := (hv wg h).cut (L := a) (H := n) (by omega) (Nat.le_refl _)
    rw [u8s_cutZ, ha1, List.take_of_length_le (by rw [List.length_drop]; omega)] at h1
    exact h1
theorem Own.siteZ {e : TypeId} {ao : Option Addr} {cap k : Nat} {xs : List Value} (h : Own w e 1 (.slice ao k cap) k xs) (hk : 0 < k) :
    ∃ g off, ao = some ⟨g, off, none⟩ ∧ ∀ j u, xs[j]? = some u → w.cell? ⟨g, off + j, none⟩ = some u := by
  rcases h.2 with ⟨hv, h0⟩ | ⟨g, off, cap', cur, hv, hg, hnc, hc, hsz, hcur⟩
  · omega
  · simp only [Value.slice.injEq, true_and] at hv
    obtain ⟨rfl, rfl⟩ := hv
    exact ⟨g, off, rfl, fun j u hu => by rw [cell_of_row w g _ cur e (0, 0) hg]; exact hcur j u hu⟩
end
end Go.Proofs.YtbkbkmgogbgofaaDoor
