/-
  The landed decoder: New, Feed, Rest; what a whole stream comes to.
-/
import Derived.Test.YtbkbkmgogbgofaaDoorZh19
import Derived.Test.YtbkbkmgogbgofaaDoorProg
import Derived.Test.YtbkbkmgogbgofaaDoorZh01
import Derived.Test.YtbkbkmgogbgofaaDoorZh02
import Derived.Laws.BitsAllLaws
import Derived.Deep.LoopGhost
import Derived.Maps.RangeWalk
namespace Go.Proofs.YtbkbkmgogbgofaaDoor
set_option maxRecDepth 5000
open Go.RowKit
section
variable {w0 w : World} {Rs : List Thing} {p : Place} {M : Nat}
/-! ### The reader, with no mark and with one -/
theorem rdm_rdr {q : Place} {v : Value} {bs l : List Nat} (h : Held w0 w (rdmT q v bs l :: Rs)) : Held w0 w (rdrP q l :: Rs) := by
  obtain ⟨ao, n, cap, s, c, h1⟩ := rdm_open h
  obtain ⟨bs1, hf, h2⟩ := rds_now h1.swap
  obtain ⟨F, ⟨F1, F2, h3, ⟨h4, h5⟩, hd, hF⟩, h6, h7⟩ := h2.swap.pair
  refine ⟨F, ⟨_, ⟨bs1, s, c, ⟨h3.1, h4, fun e => hd q.b ((h3.2 q.b).2 rfl) ((h5 q.b).2 e), hf.fits, hf.byt⟩, hf.few, hf.is⟩, fun k => ?_⟩, h6, h7⟩
  rw [hF, h3.2, h5]
  exact Iff.rfl
theorem rdr_rdm {q : Place} {l : List Nat} (h : Held w0 w (rdrP q l :: Rs)) : ∃ v bs, Held w0 w (rdmT q v bs l :: Rs) := by
  obtain ⟨F, ⟨d, ⟨bs, s, c, ⟨h1, h2, h3, h4, h5⟩, h6, h7⟩, hF⟩, back⟩ := h
  exact ⟨d, bs, F, ⟨d, ⟨bs, s, c, ⟨h1, h2, h3, h4, h5⟩, h6, h7⟩, h2, h3, .inl rfl, hF⟩, back⟩
/-! ### New -/
def newC (M : Nat) : DC := ⟨.slice none 0 0, M, 0, .slice none 0 0, 0, false, 0, 0, 0, 0, 0, none, .slice none 0 0, none, none, none, none, 0⟩
theorem newC_ok (hM : M < bigD) : DInv M (room0 (newC M)) [] [] .hd [] [] [] :=
  ⟨rfl, .inl ⟨rfl, rfl⟩, ⟨(fun b hb => by cases hb), (fun b hb => by cases hb), trivial⟩, rfl, hM, (by decide), Nat.le_refl _, (show (0 : Int) ≤ 0 by decide), (show (0 : Int) ≤ 9223372036854775807 by decide)⟩
theorem inew_held (hM : M < bigD) (h : Held w0 w Rs) : Held w0 (w.alloc (.cells #[.slice none 0 0, .int .u64 0, .int .i64 0, .slice none 0 0, .int .i64 (M : Int), .int .i64 0, .slice none 0 0, .int .i64 0, .bool false, .int .i64 0, .int .i64 0, .int .i64 0, .int .i64 0, .int .i64 0, .pointer none, .slice none 0 0, .pointer none, .pointer none, .pointer none, .pointer none, .int .i64 0] 54))
    (decT (.whole w.heap.size 54) M (.run .hd [] []) :: Rs) := by
  have h2 := h.newObjP [.slice none 0 0, .int .u64 0, .int .i64 0, .slice none 0 0, .int .i64 (M : Int), .int .i64 0, .slice none 0 0, .int .i64 0, .bool false, .int .i64 0, .int .i64 0, .int .i64 0, .int .i64 0, .int .i64 0, .pointer none, .slice none 0 0, .pointer none, .pointer none, .pointer none, .pointer none, .int .i64 0] 54
  have h3 : Held w0 _ (objP (decP (.whole w.heap.size 54) (newC M)) [.slice none 0 0, .int .u64 ((0 : Nat) : Int), .int .i64 ((0 : Nat) : Int)] :: Rs) := h2
  have hf : RdFact [] [] 0 0 := ⟨by decide, (fun b hb => by cases hb), by decide, rfl⟩
  have h4 := rds_mark (d := .slice none 0 0) hf (h3.nil 5 1)
  have h5 := rdm_close (s := 0) (c := 0) h4.swap
  refine dec_shut (s := .run .hd [] []) ⟨newC M, .slice none 0 0, [], [], []⟩ (newC_ok hM) ?_
  have h6 : Held w0 _ (tabsT [] :: rdmT _ _ _ _ :: Rs) := Held.all (L := []) h5
  have h7 := ((h6.nil 3 1).nil 5 1).nil 5 1
  exact h7.perm (List.perm_middle (l₁ := [_, _, _, _]))
set_option maxHeartbeats 1600000 in
theorem inew_any (most : Int) (hM : M < bigD) (hm : max most 0 = (M : Int)) (h : Held w0 w Rs) :
    Calls Tryd.prog 21 #[.int .i64 most] w fun e w' => ∃ B : Nat, e = .returned (.pointer (some ⟨B, 0, none⟩)) ∧ Held w0 w' (decT (.whole B 54) M (.run .hd [] []) :: Rs) := by
  have H2 := hid (inew_held hM h)
  clear h
  by_cases h0 : (0 : Int) < most
  · obtain rfl : most = (M : Int) := by omega
    clear hm
    go_enter Tryd.func21, Tryd.ntmps21
    go_wp2
    all_goals go_ret
    all_goals first | exact ⟨_, rfl, H2.out⟩ | omega
  · obtain rfl : M = 0 := by omega
    have h00 : most ≤ 0 := by omega
    have H3 : Hid (Held w0 (w.alloc (.cells #[.slice none 0 0, .int .u64 0, .int .i64 0, .slice none 0 0, .int .i64 0, .int .i64 0, .slice none 0 0, .int .i64 0, .bool false, .int .i64 0, .int .i64 0, .int .i64 0, .int .i64 0, .int .i64 0, .pointer none, .slice none 0 0, .pointer none, .pointer none, .pointer none, .pointer none, .int .i64 0] 54)) _) := hid H2.out
    clear hm H2
    go_enter Tryd.func21, Tryd.ntmps21
    go_wp2
    all_goals go_ret
    all_goals first | exact ⟨_, rfl, H3.out⟩ | (obtain rfl : most = 0 := (by omega); exact ⟨_, rfl, H3.out⟩) | omega
/-! ### Feed -/
theorem MOk.fed {ph : Ph} {l o : List Nat} (h : MOk ph l o) (news : List Nat) : MOk ph (l ++ bits8 news) o := by
  refine ⟨isBits_append h.bits (bits8_isBits _), h.byt, ?_⟩
  have := h.ph
  cases ph with
  | sto b n => exact ⟨by have := this.1; rw [List.length_append, bits8_length]; omega, this.2⟩
  | _ => exact this
theorem DInv.fed {c : DC} {ls : List Int} {Ts : List (List Int × Nat)} {ph : Ph} {l o got : List Nat} (h : DInv M c ls Ts ph l o got) (news : List Nat) (hl : (l ++ bits8 news).length < bigD) : DInv M c ls Ts ph (l ++ bits8 news) o got :=
  ⟨h.cell, h.fx, h.ok.fed news, h.most, h.big, hl, h.got, h.room, h.top⟩
set_option maxHeartbeats 1600000 in
theorem dfeed_any (b : Value) (n : Nat) (news : List Nat) (ph : Ph) (l o : List Nat) (h : Held w0 w (decT p M (.run ph l o) :: Rs)) (hv : ∀ w', Held w0 w' Rs → Rd w' 1 b n (u8s news)) (hb : ∀ x ∈ news, x < 256) (hn : n = news.length) (hl : (l ++ bits8 news).length < bigD) :
    Calls Tryd.prog 9 #[.pointer (some ⟨p.b, p.o, none⟩), b] w fun e w' => e = .returned (.tuple #[]) ∧ Held w0 w' (decT p M (.run ph (l ++ bits8 news) o) :: Rs) := by
  obtain ⟨x, hok, h1⟩ := dec_open h
  obtain ⟨c, v, bs, ls, Ts⟩ := x
  have h1 : Held w0 w (decM p c v bs l o [] ls Ts Rs) := h1
  have hok : DInv M (room0 c) ls Ts ph l o [] := hok
  have hF := failed_any h1
  have h8 : c.st ≠ 8 := reach_st (c := room0 c) hok.cell
  rw [show failB c = false by unfold failB; exact decide_eq_false (fun h => h8 h.1)] at hF
  have hll : l.length < 1099511600000 ∧ n < 1099511627776 := by rw [List.length_append, bits8_length] at hl; unfold bigD at hl; constructor <;> omega
  have hP : Calls Tryd.prog 13 #[.pointer (some ⟨p.b, p.o, none⟩), b] w _ := p_feed (B := decP p c) (rdm_rdr h1) b n news (hv w h.drop) hb hll.2 hll.1
  have HP := hid hP
  have HF := hid hF
  have HO := hid (And.intro hok hl)
  clear h h1 hF hok hv hl hll h8 hP
  go_enter Tryd.func9, Tryd.ntmps9
  go_wp2_with fail
  with_reducible refine HF.out.mono ?_
  rintro e w2 ⟨rfl, rfl⟩
  go_wp2_with fail
  with_reducible refine HP.out.mono ?_
  rintro e w2 ⟨rfl, h2⟩
  have H2 := hid h2
  clear h2 HP HF
  go_wp2
  go_end0
  refine ⟨rfl, ?_⟩
  obtain ⟨v', bs', h3⟩ := rdr_rdm H2.out
  exact dec_shut (s := .run ph (l ++ bits8 news) o) ⟨c, v', bs', ls, Ts⟩ (HO.out.1.fed news HO.out.2) h3
/-! ### Take, of a decoder that has ended -/
set_option maxHeartbeats 1600000 in
theorem take_fin (er : Nat) (l : List Nat) (n : Nat) (hn : 0 < n) (h : Held w0 w (decT p M (.fin er l) :: Rs)) :
    Calls Tryd.prog 22 #[.pointer (some ⟨p.b, p.o, none⟩), .int .i64 (n : Int)] w fun e w' => ∃ (x : Value), e = .returned (.tuple #[x, .int .i64 (er : Int)]) ∧
      Held w0 w' (ownT 5 1 x 0 (u8s []) :: decT p M (.fin er l) :: Rs) := by
  obtain ⟨x, hok, h1⟩ := dec_open h
  obtain ⟨c, v, bs, ls, Ts⟩ := x
  obtain ⟨hok, hls⟩ : FInv c er l ∧ ls = [] := hok
  subst hls
  have h1 : Held w0 w (decM p c v bs l [] [] [] Ts Rs) := h1
  have f5 : w.frozen? ⟨p.b, p.o + 3 + 2, none⟩ = false := dfroz h1 5
  have c5 : w.cell? ⟨p.b, p.o + 3 + 2, none⟩ = some (.int .i64 c.room) := dcell h1 5 _ rfl
  have h2 := dset h1 5 (.int .i64 (n : Int)) { c with room := (n : Int) } rfl
  have c5n : (w.setCell ⟨p.b, p.o + 3 + 2, none⟩ (.int .i64 (n : Int))).cell? ⟨p.b, p.o + 3 + 2, none⟩ = some (.int .i64 (n : Int)) := dcell h2 5 _ rfl
  have HS := hid (step_fin h2 er hok.st hok.en)
  have H3 : Held w0 _ (decM p { c with room := (n : Int) } v bs l [] [] [] Ts Rs) := h2
  obtain ⟨ao, cap, hlv, _, _⟩ := H3.third.own.form
  have HK := hid (take_own H3)
  rw [hlv] at HK
  have hz : er ≠ 0 := by have := hok.kind; omega
  have hB0 : ((er : Int) == 0) = false := by simp; omega
  have hI0 : ¬ (er : Int) = 0 := by omega
  have hN0 : ((er : Int) != 0) = true := by simp; omega
  have HO := hid hok
  clear h h1 h2 hok H3
  go_enter Tryd.func22, Tryd.ntmps22
  go_wp2
  go_loopg [6] 2 (fun gg t6 wr => ∃ k : Nat, t6 = .int .i64 (k : Int) ∧ Hid (wr = w.setCell ⟨p.b, p.o + 3 + 2, none⟩ (.int .i64 (n : Int)) ∧ (k = 0 ∧ 1 < gg ∨ k = er ∧ 0 < gg)))
  case atStart => exact ⟨0, rfl, hid ⟨rfl, .inl ⟨rfl, by decide⟩⟩⟩
  case round =>
    obtain ⟨k, rfl, hh⟩ := hrel
    obtain ⟨rfl, ⟨rfl, hg⟩ | ⟨rfl, hg⟩⟩ := hh.out
    · clear hh
      go_wp2_with fail
      with_reducible refine HS.out.mono ?_
      rintro e w3 ⟨rfl, rfl⟩
      go_wp2
      go_roundg (gk - 1)
      case measure => omega
      case rel => exact ⟨er, rfl, hid ⟨rfl, .inr ⟨rfl, by omega⟩⟩⟩
    · clear hh
      go_wp2_with fail
      with_reducible refine HK.out.mono ?_
      rintro e w3 ⟨rfl, h4⟩
      have H4 := hid h4
      clear h4 HK
      go_wp2
      go_ret2
      exact ⟨_, rfl, (dec_shut (s := .fin k l) ⟨{ c with room := (n : Int), lv := .slice none 0 0 }, v, bs, [], Ts⟩ ⟨⟨HO.out.st, HO.out.en, HO.out.kind, HO.out.bits, HO.out.len, HO.out.left⟩, rfl⟩ (take_turn H4.out)).swap⟩
/-! ### Rest -/
def restOf (l : List Nat) : List Nat := bytesOf (l.drop (l.length % 8))
theorem rest_all (l : List Nat) (h : l.length < bigD) : readN l 9223372036854775807 = (restOf l).length := by
  unfold readN restOf
  rw [bytesOf_length]
  unfold bigD at h
  have : (l.drop (l.length % 8)).length ≤ l.length := by rw [List.length_drop]; omega
  omega
set_option maxHeartbeats 1600000 in
theorem rest_fin (er : Nat) (l : List Nat) (h : Held w0 w (decT p M (.fin er l) :: Rs)) :
    Calls Tryd.prog 24 #[.pointer (some ⟨p.b, p.o, none⟩)] w fun e w' => ∃ (x : Value), e = .returned x ∧
      Held w0 w' (ownT 5 1 x (restOf l).length (u8s (restOf l)) :: decT p M (.fin er ((l.drop (l.length % 8)).drop (8 * (restOf l).length))) :: Rs) := by
  obtain ⟨x, hok, h1⟩ := dec_open h
  obtain ⟨c, v, bs, ls, Ts⟩ := x
  obtain ⟨hok, hls⟩ : FInv c er l ∧ ls = [] := hok
  subst hls
  have h1 : Held w0 w (decM p c v bs l [] [] [] Ts Rs) := h1
  have c7 : w.cell? ⟨p.b, p.o + 7, none⟩ = some (.int .i64 8) := by
    have := dcell h1 7 _ rfl
    rw [this, hok.st]; rfl
  have hR := dread h1 9223372036854775807 hok.len
  rw [rest_all l hok.len, show (bytesOf (l.drop (l.length % 8))) = restOf l from rfl, List.take_length] at hR
  have HR := hid hR
  have HO := hid hok
  clear h h1 hok hR
  go_enter Tryd.func24, Tryd.ntmps24
  go_wp2_with fail
  with_reducible refine HR.out.mono ?_
  rintro e w3 ⟨x, rfl, h4⟩
  have H4 := hid h4
  clear h4 HR
  go_wp2
  go_ret
  refine ⟨x, rfl, (dec_shut (s := .fin er _) ⟨c, v, bs, [], Ts⟩ ⟨⟨HO.out.st, HO.out.en, HO.out.kind, isBits_drop (isBits_drop HO.out.bits _) _, ?_, fun h => ?_⟩, rfl⟩ (take_turn H4.out)).swap⟩
  · have := HO.out.len
    simp only [List.length_drop]
    omega
  · rw [HO.out.left h]
    rfl
end
end Go.Proofs.YtbkbkmgogbgofaaDoor
/-
  Checksums as plain numbers: one step, many steps, bytes; both are linear over exclusive or, a step loses nothing. No program is named here.
-/
namespace Go.Proofs.YtbkbkmgogbgofaaDoor
set_option maxRecDepth 5000
/-! ### Linear maps as matrices -/
/-! ### Adler-32: both halves by sums -/
def adl (p : Nat × Nat) (l : List Nat) : Nat × Nat := l.foldl (fun p b => ((p.1 + b) % 65521, (p.2 + (p.1 + b) % 65521) % 65521)) p
theorem adl_cons (p : Nat × Nat) (b : Nat) (l : List Nat) : adl p (b :: l) = adl ((p.1 + b) % 65521, (p.2 + (p.1 + b) % 65521) % 65521) l := rfl
theorem adl_append (p : Nat × Nat) (l m : List Nat) : adl p (l ++ m) = adl (adl p l) m := by simp [adl]
theorem adl_lt {p : Nat × Nat} (h1 : p.1 < 65521) (h2 : p.2 < 65521) (l : List Nat) : (adl p l).1 < 65521 ∧ (adl p l).2 < 65521 := by
  induction l generalizing p with
  | nil => exact ⟨h1, h2⟩
  | cons b l ih => exact ih (Nat.mod_lt _ (by decide)) (Nat.mod_lt _ (by decide))
end Go.Proofs.YtbkbkmgogbgofaaDoor
/-
  What the reference's checksums answer: step, CRC and Adler, for any bytes that are read.
-/
namespace Go.Proofs.YtbkbkmgogbgofaaDoor
set_option maxRecDepth 5000
open Go.RowKit
theorem ret_intS {k : IntKind} {a b : Int} (h : a = b) : Ending.returned (.int k a) = .returned (.int k b) := by rw [h]
theorem take_snoc'' (l : List Nat) (k b : Nat) (h : l[k]? = some b) : l.take (k + 1) = l.take k ++ [b] := by
  rw [List.take_add_one, h]; rfl
end Go.Proofs.YtbkbkmgogbgofaaDoor
/-
  The program's step and its eight steps of a byte.
-/
namespace Go.Proofs.YtbkbkmgogbgofaaDoor
set_option maxRecDepth 5000
open Go.RowKit
theorem halves_any (x : Nat) (w : World) (hx : x < 4294967296) :
    Calls Tryd.prog 29 #[.int .u32 (x : Int)] w fun e w' => e = .returned (.tuple #[.int .u64 ((x % 65536 % 65521 : Nat) : Int), .int .u64 ((x / 65536 % 65521 : Nat) : Int)]) ∧ w = w' := by
  have ha := u32_and_nat x 65535 hx (by decide)
  rw [nat_mask16] at ha
  obtain ⟨a, ha2⟩ : ∃ a, a = x % 65536 := ⟨_, rfl⟩
  have ha3 : bits .and .u32 (x : Int) 65535 = (a : Int) := by rw [ha2]; exact ha
  obtain ⟨y, hy⟩ : ∃ y, y = x / 65536 := ⟨_, rfl⟩
  have hyI : (x : Int) / 65536 = (y : Int) := by omega
  have ha4 : a < 65536 := by omega
  have hy4 : y < 65536 := by omega
  rw [← ha2, ← hy]
  clear ha ha2 hy
  go_enter Tryd.func29, Tryd.ntmps29
  go_wp2
  go_ret2
  exact ⟨rfl, rfl⟩
theorem joined_any (x y : Nat) (w : World) (hx : x < 65536) (hy : y < 65536) :
    Calls Tryd.prog 30 #[.int .u64 (x : Int), .int .u64 (y : Int)] w fun e w' => e = .returned (.int .u32 ((y * 65536 + x : Nat) : Int)) ∧ w = w' := by
  have h1 : bits .or .u64 ((y * 65536 : Nat) : Int) (x : Int) = ((y * 65536 + x : Nat) : Int) := by
    rw [u64_or_nat _ _ (by omega) (by omega), nat_join 16 (y * 65536) x (by omega) (by omega)]
  have H1 := hid h1
  clear h1
  go_enter Tryd.func30, Tryd.ntmps30
  go_wp2
  go_ret
  exact ⟨ret_intS (by have h2 := H1.out; rw [Int.natCast_mul] at h2; show bits .or .u64 ((y : Int) * ((65536 : Nat) : Int)) (x : Int) % 4294967296 = _; rw [h2]; omega), rfl⟩
end Go.Proofs.YtbkbkmgogbgofaaDoor
/-
  Adler-32 with halves that are reduced only now and then.
-/
namespace Go.Proofs.YtbkbkmgogbgofaaDoor
set_option maxRecDepth 5000
def raw (p : Nat × Nat) (l : List Nat) : Nat × Nat := l.foldl (fun p b => (p.1 + b, p.2 + (p.1 + b))) p
theorem raw_snoc (p : Nat × Nat) (l : List Nat) (b : Nat) : raw p (l ++ [b]) = ((raw p l).1 + b, (raw p l).2 + ((raw p l).1 + b)) := by simp [raw]
theorem raw_mod (l : List Nat) : ∀ x y : Nat, ((raw (x, y) l).1 % 65521, (raw (x, y) l).2 % 65521) = adl (x % 65521, y % 65521) l := by
  induction l with
  | nil => intro x y; rfl
  | cons b l ih =>
    intro x y
    rw [adl_cons]
    have h := ih (x + b) (y + (x + b))
    show ((raw (x + b, y + (x + b)) l).1 % 65521, (raw (x + b, y + (x + b)) l).2 % 65521) = _
    rw [h]
    congr 2
    · show (x + b) % 65521 = (x % 65521 + b) % 65521
      omega
    · show (y + (x + b)) % 65521 = (y % 65521 + (x % 65521 + b) % 65521) % 65521
      omega
theorem raw_le (l : List Nat) (hb : ∀ b ∈ l, b < 256) : ∀ x y : Nat, (raw (x, y) l).1 ≤ x + 255 * l.length ∧ (raw (x, y) l).2 ≤ y + l.length * (x + 255 * l.length) := by
  induction l with
  | nil => intro x y; simp [raw]
  | cons b l ih =>
    intro x y
    have h := ih (fun c hc => hb c (by simp [hc])) (x + b) (y + (x + b))
    have h1 := hb b (by simp)
    show (raw (x + b, y + (x + b)) l).1 ≤ _ ∧ (raw (x + b, y + (x + b)) l).2 ≤ _
    rw [List.length_cons]
    refine ⟨by omega, ?_⟩
    have h2 : l.length * (x + b + 255 * l.length) ≤ l.length * (x + 255 * (l.length + 1)) := Nat.mul_le_mul_left _ (by omega)
    have h3 : (l.length + 1) * (x + 255 * (l.length + 1)) = l.length * (x + 255 * (l.length + 1)) + (x + 255 * (l.length + 1)) := by rw [Nat.add_mul, Nat.one_mul]
    omega
theorem raw_lt (l : List Nat) (hb : ∀ b ∈ l, b < 256) (hl : l.length ≤ 1048576) (x y : Nat) (hx : x < 65521) (hy : y < 65521) : (raw (x, y) l).1 < 300000000 ∧ (raw (x, y) l).2 < 300000000000000 := by
  have h := raw_le l hb x y
  have h2 : l.length * (x + 255 * l.length) ≤ 1048576 * 267452401 := Nat.mul_le_mul hl (by omega)
  omega
theorem adl_mod (x y : Nat) (l : List Nat) (hx : x < 65521) (hy : y < 65521) : adl (x, y) l = ((raw (x, y) l).1 % 65521, (raw (x, y) l).2 % 65521) := by
  rw [raw_mod, Nat.mod_eq_of_lt hx, Nat.mod_eq_of_lt hy]
end Go.Proofs.YtbkbkmgogbgofaaDoor
/-
  The program's Adler-32.
-/
namespace Go.Proofs.YtbkbkmgogbgofaaDoor
set_option maxRecDepth 5000
open Go.RowKit
theorem infoByteS : (Tryd.prog.info? 5).map (fun i => (i.zero, i.size, i.bytes)) = some (some (.int .u8 0), 1, 1) := by kernel_rfl
def adlOf (c : Nat) (l : List Nat) : Nat := (adl (c % 65536 % 65521, c / 65536 % 65521) l).2 * 65536 + (adl (c % 65536 % 65521, c / 65536 % 65521) l).1
set_option maxRecDepth 20000 in
set_option maxHeartbeats 1600000 in
theorem adler_any (c : Nat) (v : Value) (l : List Nat) (w : World) (hc : c < 4294967296) (hv : Rd w 1 v l.length (u8s l)) (hb : ∀ b ∈ l, b < 256) (hl : l.length < 1000000000) :
    Calls Tryd.prog 23 #[.int .u32 (c : Int), v] w fun e w' => e = .returned (.int .u32 ((adlOf c l : Nat) : Int)) ∧ w = w' := by
  obtain ⟨ao, cap, rfl, _, _⟩ := hv.form
  obtain ⟨n, hn⟩ : ∃ n, n = l.length := ⟨_, rfl⟩
  obtain ⟨x0, hx0⟩ : ∃ x0, x0 = c % 65536 % 65521 := ⟨_, rfl⟩
  obtain ⟨y0, hy0⟩ : ∃ y0, y0 = c / 65536 % 65521 := ⟨_, rfl⟩
  have hx1 : x0 < 65521 := by omega
  have hy1 : y0 < 65521 := by omega
  unfold adlOf
  rw [← hx0, ← hy0]
  have HX0 := hid hx0
  have HY0 := hid hy0
  have HV : Hid (Rd w 1 (.slice ao n cap) n (u8s l)) := by unfold Hid; rw [hn]; exact hv
  rw [← hn] at hl ⊢
  have HN := hid hn
  clear hn hv hx0 hy0
  obtain ⟨i, hi, hz0, hz1, hz2⟩ := info_parts infoByteS
  have HC := hid (halves_any c w hc)
  rw [← HX0.out, ← HY0.out] at HC
  go_enter Tryd.func23, Tryd.ntmps23
  go_wp2_with fail
  refine HC.out.mono ?_
  rintro e w' ⟨rfl, rfl⟩
  go_wp2
  clear HC
  go_loopg [1, 5, 6] (n + 1) (fun k t1 t5 t6 wr => ∃ (o m x y : Nat) (a' : Option Addr) (cap' : Nat), o + m = n ∧ m < k ∧ t1 = .slice a' m cap' ∧ t5 = .int .u64 (x : Int) ∧ t6 = .int .u64 (y : Int) ∧ x < 65521 ∧ y < 65521 ∧ Hid (Rd w 1 (.slice a' m cap') m (u8s (l.drop o))) ∧ Hid (adl (x0, y0) (l.take o) = (x, y)) ∧ wr = w)
  case atStart => exact ⟨0, n, x0, y0, ao, cap, by omega, by omega, rfl, rfl, rfl, hx1, hy1, HV, rfl, rfl⟩
  case round =>
    obtain ⟨o, m, x, y, a', cap', hom, hmk, rfl, rfl, rfl, hx, hy, HR, HA, rfl⟩ := hrel
    have hm0 : (0 : Int) ≤ (m : Int) := Int.natCast_nonneg _
    by_cases hpos : 0 < m
    · have hpos1 : (0 : Int) < (m : Int) := by omega
      obtain ⟨q, hq⟩ : ∃ q, q = min m 1048576 := ⟨_, rfl⟩
      have hqI : (if (1048576 : Int) < (m : Int) then (1048576 : Int) else (m : Int)) = (q : Int) := by
        by_cases h : (1048576 : Int) < (m : Int)
        · rw [if_pos h]; omega
        · rw [if_neg h]; omega
      have hqm : q ≤ m := by omega
      have hq20 : q ≤ 1048576 := by omega
      have hq1 : 0 < q := by omega
      have HQ := hid hq
      have HOM := hid hom
      clear hq hom
      have hm9 : m < 1000000000 := by have := HOM.out; omega
      obtain ⟨wo, rfl⟩ : ∃ wo : World, wo = wr := ⟨_, rfl⟩
      obtain ⟨gx, rfl⟩ : ∃ g, g = gk := ⟨gk, rfl⟩
      go_wp2_with ((with_reducible show wpList _ _ _ (⟨some 23, _, _, _, _, _⟩ :: _) _ _); refine wpList_cut_rd (w := wo) rfl 26 (.tmp 21) none (some (.tmp 22)) rfl 5 i 1 Tryd.underlying26 hi hz1 a' m cap' 0 q (u8s (l.drop o)) rfl HR.out rfl ⟨_, rfl⟩ (Nat.zero_le _) hqm ?_; simp only [Nat.sub_zero, Nat.mul_one, List.drop_zero]; intro a2 hrd2 _)
      obtain ⟨L, hL⟩ : ∃ L, L = (l.drop o).take q := ⟨_, rfl⟩
      have hLl : L.length = q := by have h1 := HOM.out; have h2 := HN.out; rw [hL, List.length_take, List.length_drop]; omega
      have hLb : ∀ b ∈ L, b < 256 := fun b hb' => hb b (List.mem_of_mem_drop (List.mem_of_mem_take (hL ▸ hb')))
      have HR2 : Hid (Rd wo 1 (.slice a2 q cap') q (u8s L)) := by
        unfold Hid; rw [hL]; simpa [u8s, List.map_take] using hrd2
      have HL := hid hL
      have HLL := hid hLl
      have HLB := hid hLb
      clear hL hLl hLb hrd2
      go_loopg [5, 6, 25] (q + 1) (fun k t5 t6 t25 wr => ∃ (j X Y : Nat), j ≤ q ∧ q - j < k ∧ t25 = .int .i64 (j : Int) ∧ t5 = .int .u64 (X : Int) ∧ t6 = .int .u64 (Y : Int) ∧ X < 300000000 ∧ Y < 300000000000000 ∧ Hid (raw (x, y) (L.take j) = (X, Y)) ∧ wr = wo)
      case atStart => exact ⟨0, x, y, by omega, by omega, rfl, rfl, rfl, by omega, by omega, rfl, rfl⟩
      case round =>
        obtain ⟨j, X, Y, hj, hk2, rfl, rfl, rfl, hX, hY, HP, rfl⟩ := hrel
        have hj0 : (0 : Int) ≤ (j : Int) := Int.natCast_nonneg _
        by_cases hjq : j < q
        · obtain ⟨g, off, rfl, hcell⟩ := HR2.out.spot (by omega)
          obtain ⟨b, hbi⟩ : ∃ b, L[j]? = some b := ⟨L[j]'(by have := HLL.out; omega), List.getElem?_eq_getElem _⟩
          have hb256 := HLB.out b (List.mem_of_getElem? hbi)
          have hc1 := hcell j _ (by rw [u8s_get, hbi]; rfl)
          have hj1 : (j : Int) < (q : Int) := by omega
          obtain ⟨X2, hX2⟩ : ∃ X2, X2 = X + b := ⟨_, rfl⟩
          obtain ⟨Y2, hY2⟩ : ∃ Y2, Y2 = Y + X2 := ⟨_, rfl⟩
          have hX2I : (X : Int) + (b : Int) = (X2 : Int) := by omega
          have hY2I : (Y : Int) + (X2 : Int) = (Y2 : Int) := by omega
          have HT := hid (take_snoc'' L j b hbi)
          have hP2 : raw (x, y) (L.take (j + 1)) = (X2, Y2) := by rw [HT.out, raw_snoc, HP.out, ← hX2, hY2]
          have hlt := raw_lt (L.take (j + 1)) (fun c hc => HLB.out c (List.mem_of_mem_take hc)) (by have := HLL.out; rw [List.length_take]; omega) x y hx hy
          rw [hP2] at hlt
          have hX3 : X2 < 300000000 := hlt.1
          have hY3 : Y2 < 300000000000000 := hlt.2
          have HP2 := hid hP2
          clear hcell hbi hX2 hY2 hP2 hlt
          go_wp2
          go_roundg (gk - 1)
          case measure => omega
          case rel => exact ⟨j + 1, X2, Y2, by omega, by omega, by go_num, by first | rfl | rw [hX2I], by first | rfl | rw [hX2I, hY2I] | rw [hY2I], hX3, hY3, HP2, rfl⟩
        · obtain rfl : j = q := by omega
          have hj1 : ¬ (j : Int) < (j : Int) := by omega
          obtain ⟨X2, hX2⟩ : ∃ X2, X2 = X % 65521 := ⟨_, rfl⟩
          obtain ⟨Y2, hY2⟩ : ∃ Y2, Y2 = Y % 65521 := ⟨_, rfl⟩
          have hX2I : (X : Int) % 65521 = (X2 : Int) := by omega
          have hY2I : (Y : Int) % 65521 = (Y2 : Int) := by omega
          have hX3 : X2 < 65521 := by omega
          have hY3 : Y2 < 65521 := by omega
          have HP2 : Hid (adl (x0, y0) (l.take (o + j)) = (X2, Y2)) := by
            unfold Hid
            have h1 : l.take (o + j) = l.take o ++ L := by rw [HL.out, List.take_add]
            have h2 := HP.out
            rw [List.take_of_length_le (by have := HLL.out; omega)] at h2
            rw [h1, adl_append, HA.out, adl_mod x y L hx hy, h2, hX2, hY2]
          clear hX2 hY2
          go_wp2_with ((with_reducible show wpList _ _ _ (⟨some 43, _, _, _, _, _⟩ :: _) _ _); refine wpList_cut_rd rfl 26 (.tmp 41) (some (.tmp 42)) none rfl 5 i 1 Tryd.underlying26 hi hz1 a' m cap' j m (u8s (l.drop o)) rfl HR.out ⟨_, rfl⟩ rfl hqm (Nat.le_refl _) ?_; intro a3 hrd3 _)
          have HR3 : Hid (Rd wr 1 (.slice a3 (m - j) (cap' - j)) (m - j) (u8s (l.drop (o + j)))) := by
            unfold Hid
            have e : u8s (l.drop (o + j)) = ((u8s (l.drop o)).drop (j * 1)).take ((m - j) * 1) := by
              have h1 := HOM.out
              have h2 := HN.out
              rw [Nat.mul_one, Nat.mul_one]
              unfold u8s
              rw [← List.map_drop, List.drop_drop, List.take_of_length_le (by simp; omega)]
            rw [e]; exact hrd3
          clear hrd3
          go_roundg (gx - 1)
          case measure => omega
          case rel => exact ⟨o + j, m - j, X2, Y2, a3, cap' - j, by have := HOM.out; omega, by omega, rfl, by first | rfl | rw [hX2I], by first | rfl | rw [hY2I], hX3, hY3, HR3, HP2, rfl⟩
    · have hpos1 : ¬ (0 : Int) < (m : Int) := by omega
      have HM : Hid (n ≤ o) := by unfold Hid; omega
      have HC2 := hid (joined_any x y wr (by omega) (by omega))
      go_wp2_with fail
      refine HC2.out.mono ?_
      rintro e w' ⟨rfl, rfl⟩
      go_wp2
      go_ret
      refine ⟨ret_intS ?_, rfl⟩
      have h1 := HA.out
      rw [List.take_of_length_le (by have h1 := HN.out; have h2 := HM.out; omega)] at h1
      rw [h1]
      simp
theorem adlOf_append (c : Nat) (l m : List Nat) : adlOf c (l ++ m) = adlOf (adlOf c l) m := by
  unfold adlOf
  have h := adl_lt (p := (c % 65536 % 65521, c / 65536 % 65521)) (Nat.mod_lt _ (by decide)) (Nat.mod_lt _ (by decide)) l
  rw [adl_append]
  obtain ⟨p, hp⟩ : ∃ p, p = adl (c % 65536 % 65521, c / 65536 % 65521) l := ⟨_, rfl⟩
  rw [← hp] at h ⊢
  obtain ⟨x, y⟩ := p
  simp only at h ⊢
  have e1 : (y * 65536 + x) % 65536 % 65521 = x := by omega
  have e2 : (y * 65536 + x) / 65536 % 65521 = y := by omega
  rw [e1, e2]
end Go.Proofs.YtbkbkmgogbgofaaDoor
