/-
  Headers of a gzip member: how bytes are read as one (headR), what is printed (printH), and that the one undoes the other. No program is named here.
-/
import Derived.Test.YtkdmdbojcdonpaaGreatDoorBitsMath
import Derived.Test.YtkdmdbojcdonpaaGreatDoorSumsMath
namespace Go.Proofs.YtkdmdbojcdonpaaGreatDoor
set_option maxRecDepth 5000

/-! ### Numbers as bytes, the lowest first -/
def leN : List Nat → Nat
  | [] => 0
  | b :: r => b + 256 * leN r
def leB : Nat → Nat → List Nat
  | 0, _ => []
  | k + 1, v => v % 256 :: leB k (v / 256)
theorem leB_length : ∀ (k v : Nat), (leB k v).length = k
  | 0, _ => rfl
  | k + 1, v => by rw [leB, List.length_cons, leB_length k]
theorem leB_byte : ∀ (k v : Nat), ∀ b ∈ leB k v, b < 256
  | 0, _, b, h => by cases h
  | k + 1, v, b, h => by
    rw [leB] at h
    rcases List.mem_cons.1 h with rfl | h
    · exact Nat.mod_lt _ (by decide)
    · exact leB_byte k _ b h
theorem leN_leB : ∀ (k v : Nat), leN (leB k v) = v % 256 ^ k
  | 0, v => by rw [leB, leN, Nat.pow_zero, Nat.mod_one]
  | k + 1, v => by
    rw [leB, leN, leN_leB k, Nat.pow_succ, Nat.mul_comm (256 ^ k) 256, Nat.mod_mul]
theorem leN_lt : ∀ (l : List Nat), (∀ b ∈ l, b < 256) → leN l < 256 ^ l.length
  | [], _ => by decide
  | b :: r, h => by
    have h1 := h b (List.mem_cons_self ..)
    have h2 := leN_lt r fun x hx => h x (List.mem_cons_of_mem _ hx)
    rw [leN, List.length_cons, Nat.pow_succ]
    omega

/-! ### Readers -/
/-- reads from a place of a list on: what, and up to which place; or the error -/
def Rdr (α : Type) := List Nat → Nat → Except Nat (α × Nat)
def Rdr.bind {α β : Type} (p : Rdr α) (f : α → Rdr β) : Rdr β := fun l n => match p l n with
  | .error e => .error e
  | .ok (a, m) => f a l m
def Rdr.pure {α : Type} (a : α) : Rdr α := fun _ n => .ok (a, n)
def Rdr.fault {α : Type} (e : Nat) : Rdr α := fun _ _ => .error e
def takeR (k : Nat) : Rdr (List Nat) := fun l n => if k ≤ l.length - n then .ok ((l.drop n).take k, n + k) else .error 5
def numR (k : Nat) : Rdr Nat := (takeR k).bind fun b => .pure (leN b)
def byteIs (b : Nat) : Rdr Unit := (numR 1).bind fun x => if x = b then .pure () else .fault 2
/-- where the first 0 stands -/
def zeroAt : List Nat → Option Nat
  | [] => none
  | b :: r => if b = 0 then some 0 else (zeroAt r).map (· + 1)
def textR : Rdr (List Nat) := fun l n => match zeroAt ((l.drop n).take 4097) with
  | some i => .ok ((l.drop n).take i, n + i + 1)
  | none => if 4096 < l.length - n then .error 2 else .error 5
def sumR : Rdr Unit := fun l n => match numR 2 l n with
  | .error e => .error e
  | .ok (v, m) => if v = crcOf 0 (l.take n) % 65536 then .ok ((), m) else .error 4
def whenR {α : Type} (c : Bool) (p : Rdr α) (d : α) : Rdr α := if c = true then p else .pure d
def bitB (f i : Nat) : Bool := decide (f / 2 ^ i % 2 = 1)

structure Hdr where
  text : Bool
  sum : Bool
  time : Nat
  flags : Nat
  sys : Nat
  extra : List Nat
  hasExtra : Bool
  name : List Nat
  note : List Nat
  hasName : Bool
  hasNote : Bool

def restR (f : Nat) : Rdr Hdr :=
  (numR 4).bind fun t => (numR 1).bind fun fl => (numR 1).bind fun sy =>
  (whenR (bitB f 2) ((numR 2).bind takeR) []).bind fun ex =>
  (whenR (bitB f 3) textR []).bind fun nm =>
  (whenR (bitB f 4) textR []).bind fun nt =>
  (whenR (bitB f 1) sumR ()).bind fun _ =>
  .pure ⟨bitB f 0, bitB f 1, t, fl, sy, ex, bitB f 2, nm, nt, bitB f 3, bitB f 4⟩
def flagR : Rdr Nat := (numR 1).bind fun f => if f < 32 then .pure f else .fault 2
def beginR : Rdr Unit := (byteIs 31).bind fun _ => (byteIs 139).bind fun _ => byteIs 8
def headR : Rdr Hdr := beginR.bind fun _ => flagR.bind restR

/-! ### A beginning of what is read -/
structure Rdr.Mono {α : Type} (p : Rdr α) : Prop where
  up : ∀ l n a m, n ≤ l.length → p l n = .ok (a, m) → n ≤ m ∧ m ≤ l.length
  cut : ∀ l more n a m, n ≤ l.length → p (l ++ more) n = .ok (a, m) → (m ≤ l.length → p l n = .ok (a, m)) ∧ (l.length < m → p l n = .error 5)
theorem Rdr.Mono.bind {α β : Type} {p : Rdr α} {f : α → Rdr β} (hp : p.Mono) (hf : ∀ a, (f a).Mono) : (p.bind f).Mono := by
  refine ⟨fun l n b m hn h => ?_, fun l more n b m hn h => ?_⟩
  · unfold Rdr.bind at h
    split at h
    · cases h
    · rename_i a k hk
      have h1 := hp.up l n a k hn hk
      have h2 := (hf a).up l k b m h1.2 h
      omega
  · unfold Rdr.bind at h ⊢
    split at h
    · cases h
    · rename_i a k hk
      have h0 := hp.up (l ++ more) n a k (by rw [List.length_append]; omega) hk
      have h1 := hp.cut l more n a k hn hk
      have h3 := (hf a).up (l ++ more) k b m h0.2 h
      by_cases hkl : k ≤ l.length
      · rw [h1.1 hkl]
        exact (hf a).cut l more k b m hkl h
      · rw [h1.2 (by omega)]
        exact ⟨fun h => absurd h (by omega), fun _ => rfl⟩
theorem Rdr.Mono.pure {α : Type} (a : α) : (Rdr.pure a).Mono := by
  refine ⟨fun l n b m hn h => ?_, fun l more n b m hn h => ?_⟩
  · cases h; exact ⟨Nat.le_refl _, hn⟩
  · cases h; exact ⟨fun _ => rfl, fun h => absurd h (by omega)⟩
theorem Rdr.Mono.fault {α : Type} (e : Nat) : (Rdr.fault (α := α) e).Mono := by
  refine ⟨fun l n b m hn h => ?_, fun l more n b m hn h => ?_⟩ <;> cases h
theorem takeR_mono (k : Nat) : (takeR k).Mono := by
  refine ⟨fun l n b m hn h => ?_, fun l more n b m hn h => ?_⟩
  · unfold takeR at h
    split at h
    · cases h; omega
    · cases h
  · unfold takeR at h ⊢
    rw [List.length_append] at h
    split at h
    · cases h
      refine ⟨fun h => ?_, fun h => ?_⟩
      · rw [if_pos (by omega), List.drop_append_of_le_length hn, List.take_append_of_le_length (by rw [List.length_drop]; omega)]
      · rw [if_neg (by omega)]
    · cases h
theorem numR_mono (k : Nat) : (numR k).Mono := (takeR_mono k).bind fun _ => .pure _
theorem zeroAt_lt : ∀ {l : List Nat} {i : Nat}, zeroAt l = some i → i < l.length ∧ (∀ j, j < i → l[j]? ≠ some 0) ∧ l[i]? = some 0
  | [], _, h => by cases h
  | b :: r, i, h => by
    rw [zeroAt] at h
    split at h
    · cases h
      rename_i hb
      exact ⟨Nat.succ_pos _, fun j hj => absurd hj (by omega), by rw [hb]; rfl⟩
    · rename_i hb
      rw [Option.map_eq_some_iff] at h
      obtain ⟨k, hk, rfl⟩ := h
      obtain ⟨h1, h2, h3⟩ := zeroAt_lt hk
      refine ⟨by rw [List.length_cons]; omega, fun j hj => ?_, h3⟩
      cases j with
      | zero => intro h; exact hb (by simpa using h)
      | succ j => exact h2 j (by omega)
theorem zeroAt_none : ∀ {l : List Nat}, zeroAt l = none ↔ ∀ b ∈ l, b ≠ 0
  | [] => ⟨fun _ b h => (by cases h), fun _ => rfl⟩
  | b :: r => by
    rw [zeroAt]
    by_cases hb : b = 0
    · rw [if_pos hb]
      exact ⟨fun h => (by cases h), fun h => absurd hb (h b (List.mem_cons_self ..))⟩
    · rw [if_neg hb, Option.map_eq_none_iff, zeroAt_none]
      exact ⟨fun h x hx => (List.mem_cons.1 hx).elim (fun e => (by rw [e]; exact hb)) (h x), fun h x hx => h x (List.mem_cons_of_mem _ hx)⟩
theorem zeroAt_app {l : List Nat} (h : ∀ b ∈ l, b ≠ 0) (r : List Nat) : zeroAt (l ++ 0 :: r) = some l.length := by
  induction l with
  | nil => rfl
  | cons b t ih => rw [List.cons_append, zeroAt, if_neg (h b (List.mem_cons_self ..)), ih fun x hx => h x (List.mem_cons_of_mem _ hx)]; rfl
theorem zeroAt_cut {l r : List Nat} {i : Nat} (h : zeroAt (l ++ r) = some i) : (i < l.length → zeroAt l = some i) ∧ (l.length ≤ i → zeroAt l = none) := by
  induction l generalizing i with
  | nil => exact ⟨fun h => absurd h (Nat.not_lt_zero _), fun _ => rfl⟩
  | cons b t ih =>
    rw [List.cons_append, zeroAt] at h
    rw [zeroAt]
    split at h
    · cases h
      rename_i hb
      exact ⟨fun _ => if_pos hb, fun h => absurd h (by rw [List.length_cons]; omega)⟩
    · rename_i hb
      rw [Option.map_eq_some_iff] at h
      obtain ⟨k, hk, rfl⟩ := h
      have h2 := ih hk
      rw [if_neg hb]
      exact ⟨fun h => by rw [h2.1 (by rw [List.length_cons] at h; omega)]; rfl, fun h => by rw [h2.2 (by rw [List.length_cons] at h; omega)]; rfl⟩
theorem textR_mono : textR.Mono := by
  refine ⟨fun l n b m hn h => ?_, fun l more n b m hn h => ?_⟩
  · unfold textR at h
    split at h
    · rename_i i hi
      cases h
      have := (zeroAt_lt hi).1
      rw [List.length_take, List.length_drop] at this
      omega
    · split at h <;> cases h
  · unfold textR at h ⊢
    split at h
    · rename_i i hi
      cases h
      have hlt := (zeroAt_lt hi).1
      rw [List.length_take, List.length_drop, List.length_append] at hlt
      rw [List.drop_append_of_le_length hn] at hi ⊢
      rw [List.take_append] at hi
      have h2 := zeroAt_cut hi
      rw [List.length_take, List.length_drop] at h2
      refine ⟨fun h => ?_, fun h => ?_⟩
      · rw [h2.1 (by omega)]
        show Except.ok ((l.drop n).take i, n + i + 1) = _
        rw [List.take_append_of_le_length (by rw [List.length_drop]; omega)]
      · rw [h2.2 (by omega)]
        show (if 4096 < l.length - n then Except.error 2 else Except.error 5) = _
        rw [if_neg (by omega)]
    · split at h <;> cases h
theorem sumR_mono : sumR.Mono := by
  refine ⟨fun l n b m hn h => ?_, fun l more n b m hn h => ?_⟩
  · unfold sumR at h
    split at h
    · cases h
    · rename_i v k hk
      split at h
      · cases h; exact (numR_mono 2).up l n v _ hn hk
      · cases h
  · unfold sumR at h ⊢
    split at h
    · cases h
    · rename_i v k hk
      rw [List.take_append_of_le_length hn] at h
      split at h
      · rename_i hv
        cases h
        have h1 := (numR_mono 2).cut l more n v _ hn hk
        refine ⟨fun h => ?_, fun h => ?_⟩
        · rw [h1.1 h]
          exact if_pos hv
        · rw [h1.2 h]
      · cases h
theorem whenR_mono {α : Type} {p : Rdr α} (c : Bool) (d : α) (h : p.Mono) : (whenR c p d).Mono := by
  cases c
  · exact .pure d
  · exact h
theorem byteIs_mono (b : Nat) : (byteIs b).Mono := (numR_mono 1).bind fun x => by
  split
  · exact .pure _
  · exact .fault _
theorem restR_mono (f : Nat) : (restR f).Mono :=
  (numR_mono 4).bind fun _ => (numR_mono 1).bind fun _ => (numR_mono 1).bind fun _ =>
  (whenR_mono _ _ ((numR_mono 2).bind takeR_mono)).bind fun _ => (whenR_mono _ _ textR_mono).bind fun _ => (whenR_mono _ _ textR_mono).bind fun _ =>
  (whenR_mono _ _ sumR_mono).bind fun _ => .pure _
theorem flagR_mono : flagR.Mono := (numR_mono 1).bind fun f => by
  split
  · exact .pure _
  · exact .fault _
theorem beginR_mono : beginR.Mono := (byteIs_mono 31).bind fun _ => (byteIs_mono 139).bind fun _ => byteIs_mono 8
theorem headR_mono : headR.Mono := beginR_mono.bind fun _ => flagR_mono.bind restR_mono

/-! ### What is printed is read -/
def Rdr.At {α : Type} (p : Rdr α) (pre x : List Nat) (a : α) : Prop := ∀ post, p (pre ++ (x ++ post)) pre.length = .ok (a, pre.length + x.length)
theorem Rdr.At.bind {α β : Type} {p : Rdr α} {f : α → Rdr β} {pre x y : List Nat} {a : α} {b : β} (hp : p.At pre x a) (hf : (f a).At (pre ++ x) y b) : (p.bind f).At pre (x ++ y) b := by
  intro post
  unfold Rdr.bind
  rw [List.append_assoc, hp (y ++ post)]
  have := hf post
  rw [List.length_append, List.append_assoc] at this
  show f a _ _ = _
  rw [this, List.length_append, Nat.add_assoc]
theorem Rdr.At.pure {α : Type} (pre : List Nat) (a : α) : (Rdr.pure a).At pre [] a := fun _ => rfl
theorem takeR_at (pre x : List Nat) (k : Nat) (h : x.length = k) : (takeR k).At pre x x := by
  intro post
  unfold takeR
  rw [List.length_append, List.length_append, if_pos (by omega), List.drop_left, List.take_append_of_le_length (by omega), List.take_of_length_le (by omega), h]
theorem numR_at (pre : List Nat) (k v : Nat) (h : v < 256 ^ k) : (numR k).At pre (leB k v) v := by
  have h1 := Rdr.At.bind (takeR_at pre (leB k v) k (leB_length k v)) (f := fun b => .pure (leN b)) (.pure _ _)
  rw [List.append_nil, leN_leB, Nat.mod_eq_of_lt h] at h1
  exact h1
theorem numR1_at (pre : List Nat) (v : Nat) (h : v < 256) : (numR 1).At pre [v] v := by
  have h1 := numR_at pre 1 v h
  rw [leB, Nat.mod_eq_of_lt h, leB] at h1
  exact h1
theorem byteIs_at (pre : List Nat) (b : Nat) (h : b < 256) : (byteIs b).At pre [b] () := by
  have h1 := Rdr.At.bind (numR1_at pre b h) (f := fun x => if x = b then .pure () else .fault 2) (b := ()) (y := []) (by rw [if_pos rfl]; exact .pure _ _)
  exact h1
theorem textR_at (pre x : List Nat) (hx : ∀ b ∈ x, b ≠ 0) (hl : x.length ≤ 4096) : textR.At pre (x ++ [0]) x := by
  intro post
  unfold textR
  rw [List.drop_left]
  have h1 : (x ++ [0] ++ post).take 4097 = x ++ 0 :: post.take (4096 - x.length) := by
    rw [List.append_assoc, List.take_append, List.take_of_length_le (by omega)]
    show x ++ List.take (4097 - x.length) (0 :: post) = _
    rw [show 4097 - x.length = (4096 - x.length) + 1 by omega, List.take_succ_cons]
  rw [h1, zeroAt_app hx, List.append_assoc, List.length_append]
  show Except.ok (List.take x.length (x ++ ([0] ++ post)), pre.length + x.length + 1) = _
  rw [List.take_append_of_le_length (by omega), List.take_of_length_le (by omega), List.length_append, Nat.add_assoc]
  rfl
theorem sumR_at (pre : List Nat) : sumR.At pre (leB 2 (crcOf 0 pre)) () := by
  intro post
  have h2 : leB 2 (crcOf 0 pre) = leB 2 (crcOf 0 pre % 65536) := by
    unfold leB leB leB
    rw [show crcOf 0 pre % 65536 % 256 = crcOf 0 pre % 256 by omega, show crcOf 0 pre % 65536 / 256 % 256 = crcOf 0 pre / 256 % 256 by omega]
  have h1 := numR_at pre 2 (crcOf 0 pre % 65536) (Nat.mod_lt _ (by decide)) post
  unfold sumR
  rw [h2, h1]
  show (if crcOf 0 pre % 65536 = crcOf 0 (List.take pre.length (pre ++ _)) % 65536 then _ else _) = _
  rw [List.take_left, if_pos rfl]
theorem whenR_at {α : Type} {p : Rdr α} {pre x : List Nat} {a : α} (c : Bool) (d : α) (h : c = true → p.At pre x a) (h0 : c = false → a = d) : (whenR c p d).At pre (if c = true then x else []) a := by
  cases c
  · rw [h0 rfl]
    exact .pure _ _
  · exact h rfl
def b2n (b : Bool) : Nat := if b = true then 1 else 0
def flagsOf (h : Hdr) : Nat := b2n h.text + 2 * b2n h.sum + 4 * b2n h.hasExtra + 8 * b2n h.hasName + 16 * b2n h.hasNote
theorem flagsOf_lt (h : Hdr) : flagsOf h < 32 := by
  have hb : ∀ b : Bool, b2n b ≤ 1 := by decide
  have h1 := hb h.text; have h2 := hb h.sum; have h3 := hb h.hasExtra; have h4 := hb h.hasName; have h5 := hb h.hasNote
  unfold flagsOf
  omega
theorem flagsOf_bits (h : Hdr) : bitB (flagsOf h) 0 = h.text ∧ bitB (flagsOf h) 1 = h.sum ∧ bitB (flagsOf h) 2 = h.hasExtra ∧ bitB (flagsOf h) 3 = h.hasName ∧ bitB (flagsOf h) 4 = h.hasNote := by
  obtain ⟨a, b, t, f, s, e, c, n, m, d, g⟩ := h
  unfold flagsOf
  dsimp only
  revert a b c d g
  decide
def bodyH (h : Hdr) : List Nat :=
  [31] ++ ([139] ++ [8]) ++ ([flagsOf h] ++ (leB 4 h.time ++ ([h.flags] ++ ([h.sys] ++ ((if h.hasExtra = true then leB 2 h.extra.length ++ h.extra else []) ++
    ((if h.hasName = true then h.name ++ [0] else []) ++ (if h.hasNote = true then h.note ++ [0] else [])))))))
def printH (h : Hdr) : List Nat := bodyH h ++ (if h.sum = true then leB 2 (crcOf 0 (bodyH h)) else [])
/-- a header that may be printed -/
def goodText (x : List Nat) (has : Bool) : Prop := x.length ≤ 4096 ∧ (has = true ∨ x = []) ∧ ∀ b ∈ x, b ≠ 0
structure GoodH (h : Hdr) : Prop where
  extra : h.extra.length ≤ 65535 ∧ (h.hasExtra = true ∨ h.extra = [])
  name : goodText h.name h.hasName
  note : goodText h.note h.hasNote
/-- a header whose numbers fit -/
structure OkH (h : Hdr) : Prop where
  time : h.time < 4294967296
  flags : h.flags < 256
  sys : h.sys < 256
  extra : ∀ b ∈ h.extra, b < 256
  name : ∀ b ∈ h.name, b < 256
  note : ∀ b ∈ h.note, b < 256
theorem headR_at (h : Hdr) (hg : GoodH h) (ho : OkH h) : headR.At [] (printH h) h := by
  obtain ⟨f0, f1, f2, f3, f4⟩ := flagsOf_bits h
  have hN : ∀ c : Bool, ∀ x : List Nat, (c = true ∨ x = []) → c = false → x = [] := fun c x h hc => h.resolve_left (by rw [hc]; decide)
  have e1 : printH h = ([31] ++ ([139] ++ [8])) ++ ([flagsOf h] ++ (leB 4 h.time ++ ([h.flags] ++ ([h.sys] ++ ((if h.hasExtra = true then leB 2 h.extra.length ++ h.extra else []) ++
    ((if h.hasName = true then h.name ++ [0] else []) ++ ((if h.hasNote = true then h.note ++ [0] else []) ++ ((if h.sum = true then leB 2 (crcOf 0 (bodyH h)) else []) ++ [])))))))) := by
    unfold printH
    rw [List.append_nil]
    conv => lhs; arg 1; unfold bodyH
    simp only [List.append_assoc]
  rw [e1]
  refine Rdr.At.bind (Rdr.At.bind (byteIs_at _ 31 (by decide)) (Rdr.At.bind (byteIs_at _ 139 (by decide)) (byteIs_at _ 8 (by decide)))) ?_
  refine Rdr.At.bind (a := flagsOf h) ?_ ?_
  · have h1 := Rdr.At.bind (numR1_at ([] ++ ([31] ++ ([139] ++ [8]))) (flagsOf h) (by have := flagsOf_lt h; omega)) (f := fun f => if f < 32 then .pure f else .fault 2) (b := flagsOf h) (y := []) (by rw [if_pos (flagsOf_lt h)]; exact .pure _ _)
    exact h1
  · unfold restR
    rw [f0, f1, f2, f3, f4]
    refine Rdr.At.bind (numR_at _ 4 h.time ho.time) (Rdr.At.bind (numR1_at _ h.flags ho.flags) (Rdr.At.bind (numR1_at _ h.sys ho.sys) ?_))
    refine Rdr.At.bind (whenR_at h.hasExtra [] (fun _ => Rdr.At.bind (numR_at _ 2 h.extra.length (by have := hg.extra.1; omega)) (takeR_at _ h.extra _ rfl)) (hN _ _ hg.extra.2)) ?_
    refine Rdr.At.bind (whenR_at h.hasName [] (fun _ => textR_at _ h.name hg.name.2.2 hg.name.1) (hN _ _ hg.name.2.1)) ?_
    refine Rdr.At.bind (whenR_at h.hasNote [] (fun _ => textR_at _ h.note hg.note.2.2 hg.note.1) (hN _ _ hg.note.2.1)) ?_
    refine Rdr.At.bind (whenR_at h.sum () (fun _ => ?_) (fun _ => rfl)) (.pure _ _)
    have hb : bodyH h = [] ++ ([31] ++ ([139] ++ [8])) ++ [flagsOf h] ++ leB 4 h.time ++ [h.flags] ++ [h.sys] ++ (if h.hasExtra = true then leB 2 h.extra.length ++ h.extra else []) ++ (if h.hasName = true then h.name ++ [0] else []) ++ (if h.hasNote = true then h.note ++ [0] else []) := by
      unfold bodyH
      simp only [List.append_assoc, List.nil_append]
    rw [← hb]
    exact sumR_at (bodyH h)
/-- what is printed is read, whatever stands behind it -/
theorem headR_print (h : Hdr) (hg : GoodH h) (ho : OkH h) (post : List Nat) : headR (printH h ++ post) 0 = .ok (h, (printH h).length) := by
  have := headR_at h hg ho post
  rw [List.nil_append, List.length_nil, Nat.zero_add] at this
  exact this
/-- cut off it is the beginning of one -/
theorem headR_short (h : Hdr) (hg : GoodH h) (ho : OkH h) (k : Nat) (hk : k < (printH h).length) : headR ((printH h).take k) 0 = .error 5 := by
  have h1 := headR_print h hg ho []
  rw [List.append_nil, ← List.take_append_drop k (printH h)] at h1
  refine (headR_mono.cut _ _ 0 _ _ (Nat.zero_le _) h1).2 ?_
  rw [List.take_append_drop, List.length_take]
  omega
end Go.Proofs.YtkdmdbojcdonpaaGreatDoor
