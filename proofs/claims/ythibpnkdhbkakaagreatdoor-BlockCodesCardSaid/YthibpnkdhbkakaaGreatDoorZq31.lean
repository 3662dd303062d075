/-
  What a program that writes blocks is to do, as a statement that the program's own text must show ('BlockOK', for some bits of a block behind its first three); the laws' own example.
-/
import Derived.Test.YthibpnkdhbkakaaGreatDoorZq15
import Derived.Test.YthibpnkdhbkakaaGreatDoorZq16
import Derived.Test.YthibpnkdhbkakaaGreatDoorZq18
import Derived.Test.YthibpnkdhbkakaaGreatDoorZq08
import Derived.Test.YthibpnkdhbkakaaGreatDoorZq03
import Derived.StillTailTactics
import Derived.Lib.SlBytesConst
import Derived.Test.YthibpnkdhbkakaaGreatDoorZq30
namespace Go.Proofs.YthibpnkdhbkakaaGreatDoor
set_option maxRecDepth 5000
open Go.RowKit

def allSound (l : List Tok) : Prop := ∀ t ∈ l, soundB t = true
/-- what may be written as a block of that kind -/
def mayK (kind : Int) (l : List Tok) (raw : List Nat) : Prop := kind = 0 ∧ raw.length ≤ 65535 ∨ (kind = 1 ∨ kind = 2) ∧ allSound l ∧ l.length < 1048576
instance (l : List Tok) : Decidable (allSound l) := by unfold allSound; infer_instance
instance (kind : Int) (l : List Tok) (raw : List Nat) : Decidable (mayK kind l raw) := by unfold mayK; infer_instance
section
variable (F : Nat → List Tok → List Nat → Nat → List Nat)
/-- a block that begins at a place -/
def blkBits (kind : Nat) (l : List Tok) (raw : List Nat) (last : Bool) (a : Nat) : List Nat := bitsOf 3 ((if last then 1 else 0) + 2 * kind) ++ F kind l raw (a + 3)
def costK (kind : Int) (l : List Tok) (raw : List Nat) : Int := if mayK kind l raw then ((3 + (F kind.toNat l raw 3).length : Nat) : Int) else -1
/-- the kind of the lowest cost, the first of equal ones; -1 if there is none -/
def bestStep (b : Int × Int) (k c : Int) : Int × Int := if 0 ≤ c ∧ (b.1 < 0 ∨ c < b.2) then (k, c) else b
def bestK (l : List Tok) (raw : List Nat) : Int × Int :=
  bestStep (bestStep (bestStep (-1, 0) 0 (costK F 0 l raw)) 1 (costK F 1 l raw)) 2 (costK F 2 l raw)
structure BlockOK (Lv : World → Prop) : Prop where
  good : ∀ (kind : Nat) (l : List Tok) (raw : List Nat) (a : Nat), mayK kind l raw → byteOK l → (∀ b ∈ raw, b < 256) → BlockBits l raw a kind (F kind l raw a)
  place : ∀ (kind : Nat) (l : List Tok) (raw : List Nat) (a b : Nat), a % 8 = b % 8 → F kind l raw a = F kind l raw b
  short : ∀ (kind : Nat) (l : List Tok) (raw : List Nat) (a : Nat), mayK kind l raw → (F kind l raw a).length < 1000000 + 100 * l.length
  write : ∀ (kind : Nat) (l : List Tok) (raw acc : List Nat) (last : Bool) (v u : Value) (n m B : Nat) (w0 w : World) (S : Thing) (Rs : List Thing), Lv w0 → Held w0 w (wrT B acc :: S :: Rs) → Reads w0 S 3 v n (toksV l) → Reads w0 S 1 u m (u8s raw) → byteOK l → (∀ b ∈ raw, b < 256) → n < 1000000000 → m < 1000000000 → acc.length < 900000000 → mayK kind l raw →
    Calls Tryz.prog 9 #[.pointer (some ⟨B, 0, none⟩), .int .i64 (kind : Int), v, u, .bool last] w fun e w' => e = .returned (.bool true) ∧ Held w0 w' (wrT B (acc ++ blkBits F kind l raw last acc.length) :: S :: Rs)
  writeNo : ∀ (kind : Int) (l : List Tok) (raw acc : List Nat) (last : Bool) (v u : Value) (n m B : Nat) (w0 w : World) (Rs : List Thing), Lv w0 → Held w0 w (wrT B acc :: Rs) → Rd w 3 v n (toksV l) → Rd w 1 u m (u8s raw) → byteOK l → (∀ b ∈ raw, b < 256) → n < 1000000000 → m < 1000000000 → acc.length < 1000000000 → ¬ mayK kind l raw →
    Calls Tryz.prog 9 #[.pointer (some ⟨B, 0, none⟩), .int .i64 kind, v, u, .bool last] w fun e w' => e = .returned (.bool false) ∧ Held w0 w' (wrT B acc :: Rs)
  cost : ∀ (kind : Int) (l : List Tok) (raw : List Nat) (v u : Value) (n m : Nat) (w0 w : World) (Rs : List Thing), Lv w0 → Held w0 w Rs → Rd w 3 v n (toksV l) → Rd w 1 u m (u8s raw) → byteOK l → (∀ b ∈ raw, b < 256) → n < 1000000000 → m < 1000000000 →
    Calls Tryz.prog 11 #[.int .i64 kind, v, u] w fun e w' => e = .returned (.int .i64 (costK F kind l raw)) ∧ Held w0 w' Rs
  best : ∀ (l : List Tok) (raw acc : List Nat) (last : Bool) (v u : Value) (n m B : Nat) (w0 w : World) (S : Thing) (Rs : List Thing), Lv w0 → Held w0 w (wrT B acc :: S :: Rs) → Reads w0 S 3 v n (toksV l) → Reads w0 S 1 u m (u8s raw) → byteOK l → (∀ b ∈ raw, b < 256) → n < 1000000000 → m < 1000000000 → acc.length < 900000000 →
    Calls Tryz.prog 18 #[.pointer (some ⟨B, 0, none⟩), v, u, .bool last] w fun e w' => e = .returned (.int .i64 (bestK F l raw).1) ∧ Held w0 w' (wrT B (if (bestK F l raw).1 < 0 then acc else acc ++ blkBits F (bestK F l raw).1.toNat l raw last acc.length) :: S :: Rs)
  fixed : ∀ (w0 w : World) (Rs : List Thing), Held w0 w Rs →
    Calls Tryz.prog 22 #[] w fun e w' => ∃ v u, e = .returned (.tuple #[v, u]) ∧ Held w0 w' (ownT 3 1 v 288 (ints fixLit) :: ownT 3 1 u 32 (ints fixDist) :: Rs)
end
section
variable {F : Nat → List Tok → List Nat → Nat → List Nat} {Lv : World → Prop} {w0 w : World} {Rs : List Thing}
theorem BlockBits.fixed_nil {raw bs : List Nat} {a : Nat} (h : BlockBits [] raw a 1 bs) : bs = [0, 0, 0, 0, 0, 0, 0] := by
  generalize hk : 1 = k at h
  cases h with
  | stored => omega
  | fixed bs h =>
    cases h
    decide +kernel
  | dynamic => omega
theorem mayK_fix : mayK 1 [] [] := by decide
theorem BlockOK.empty (H : BlockOK F Lv) (a : Nat) : F 1 [] [] a = [0, 0, 0, 0, 0, 0, 0] :=
  (H.good 1 [] [] a mayK_fix (fun _ h => by cases h) (fun _ h => by cases h)).fixed_nil
theorem BlockOK.empty_last (H : BlockOK F Lv) (a : Nat) : blkBits F 1 [] [] true a = [1, 1, 0, 0, 0, 0, 0, 0, 0, 0] := by
  unfold blkBits
  rw [H.empty]
  decide
/-- what is read is older than all -/
theorem BlockOK.write_old (H : BlockOK F Lv) (kind : Nat) (l : List Tok) (raw acc : List Nat) (last : Bool) (v u : Value) (n m B : Nat) (w0 w : World) (Rs : List Thing) (hL : Lv w0) (h : Held w0 w (wrT B acc :: Rs)) (hv : Rd w0 3 v n (toksV l)) (hu : Rd w0 1 u m (u8s raw)) (hb : byteOK l) (hr : ∀ b ∈ raw, b < 256) (hn : n < 1000000000) (hm : m < 1000000000) (ha : acc.length < 900000000) (hk : mayK kind l raw) :
    Calls Tryz.prog 9 #[.pointer (some ⟨B, 0, none⟩), .int .i64 (kind : Int), v, u, .bool last] w fun e w' => e = .returned (.bool true) ∧ Held w0 w' (wrT B (acc ++ blkBits F kind l raw last acc.length) :: Rs) :=
  (H.write kind l raw acc last v u n m B w0 w nonT Rs hL h.addNon.swap (Reads.old hv (by decide)) (Reads.old hu (by decide)) hb hr hn hm ha hk).mono fun _ _ ⟨h1, h2⟩ => ⟨h1, h2.swap.drop⟩
theorem eg_bytes : bytesOf (evened ([] ++ [1, 1, 0, 0, 0, 0, 0, 0, 0, 0])) = [3, 0] := by decide
theorem h_equal10 (h : Held w0 w Rs) (v u : Value) (a : List Nat) (n : Nat) (hv : Rd w 1 v n (u8s a)) (hu : Rd w 1 u n (u8s a)) (hal : n < 8000000000) :
    Calls Tryz.prog 16 #[v, u] w fun e w' => e = .returned (.bool true) ∧ Held w0 w' Rs := by
  have hn : n = a.length := by have := hv.1; rw [u8s_length] at this; omega
  subst hn
  exact (same_any v u a a w hv hu hal).mono fun _ _ ⟨h1, k, h2⟩ => ⟨by rw [h1]; simp, by rw [h2]; exact h.drewN k⟩
set_option maxHeartbeats 1600000 in
theorem h_answers10 (HB : BlockOK F Lv) (HLV : Lv w0) (h : Held w0 w Rs) :
    Calls Tryz.prog 7 #[] w fun e w' => e = .returned (.bool true) ∧ Held w0 w' Rs := by
  have HN := hid (h_newW h)
  clear h
  go_enter Tryz.func7, Tryz.ntmps7
  go_wp2_with fail
  refine HN.out.mono ?_
  rintro e w1 ⟨B, rfl, hh⟩
  have HW := hid (HB.write_old 1 [] [] [] true (.slice none 0 0) (.slice none 0 0) 0 0 B w0 w1 Rs HLV hh ⟨rfl, none, 0, rfl, Nat.le_refl _, by decide, fun _ => rfl, .inl rfl⟩ ⟨rfl, none, 0, rfl, Nat.le_refl _, by decide, fun _ => rfl, .inl rfl⟩ (fun _ h => by cases h) (fun _ h => by cases h) (by decide) (by decide) (by decide) mayK_fix)
  rw [HB.empty_last] at HW
  clear HN hh
  go_wp2_with fail
  refine HW.out.mono ?_
  rintro e w2 ⟨rfl, hh⟩
  have HA := hid (h_walign hh (by decide))
  clear HW hh
  go_wp2_with fail
  refine HA.out.mono ?_
  rintro e w3 ⟨rfl, hh⟩
  have HT := hid (h_take hh)
  rw [eg_bytes] at HT
  clear HA hh
  go_wp2_with fail
  refine HT.out.mono ?_
  rintro e w4 ⟨d, rfl, hh⟩
  obtain ⟨ao, cap, rfl, _, _⟩ := hh.own.form
  clear HT
  have HE := hid (h_equal10 (hh.lit 5 1 (u8s [3, 0]) 2 (by decide) rfl) (.slice ao 2 cap) (.slice (some ⟨w4.heap.size, 0, none⟩) 2 2) [3, 0] 2 (hh.lit 5 1 (u8s [3, 0]) 2 (by decide) rfl).drop.own.rd (hh.lit 5 1 (u8s [3, 0]) 2 (by decide) rfl).own.rd (by decide))
  clear hh
  go_wp2_with fail
  refine HE.out.mono ?_
  rintro e w5 ⟨rfl, hh⟩
  have HF := hid hh.drop.drop.drop
  clear hh HE
  go_wp2
  go_ret
  exact ⟨rfl, HF.out⟩
end
end Go.Proofs.YthibpnkdhbkakaaGreatDoor
/-
  The contents of a block chosen by kind (contentsOf), and through the interface: how many bits they are, and written.
-/
namespace Go.Proofs.YthibpnkdhbkakaaGreatDoor
set_option maxRecDepth 5000
open Go.RowKit

/-- what contents a block of that kind has, and what they lie in -/
def ContIs (kind : Nat) (l : List Tok) (lv uv c : Value) (Ts : List Thing) : Prop :=
  (kind = 0 ∧ c = .iface 72 uv ∧ Ts = []) ∨
  (kind = 1 ∧ ∃ B1 B2, c = .iface 75 (codV lv B1 B2 (toksB fixLit fixDist l).length) ∧ Ts = [tabT fixLit B1, tabT fixDist B2]) ∨
  (kind = 2 ∧ ∃ Bh Bt B1 B2 iv hv, c = .iface 79 (dynV Bh lv B1 B2 (toksB (litC lensF l) (dstL lensF l) l).length) ∧ Ts = dynTs l Bh Bt B1 B2 iv hv)
section
variable {w : World}
theorem wrB_may {l : List Tok} : wrB l = true ↔ allSound l ∧ l.length < 1048576 := by
  rw [wrB_iff]
  exact ⟨fun h => ⟨h.2, h.1⟩, fun h => ⟨h.2, h.1⟩⟩
set_option maxHeartbeats 1600000 in
theorem contents_may (kind : Nat) (lo uo : Option Addr) (n lc m uc : Nat) (l : List Tok) (raw : List Nat) (hv : Rd w 3 (.slice lo n lc) n (toksV l)) (hu : Rd w 1 (.slice uo m uc) m (u8s raw)) (hO : Ordr w) (hb : byteOK l) (hn : n < 1000000000) (hmy : mayK kind l raw) :
    Calls Tryz.prog 24 #[.int .i64 (kind : Int), .slice lo n lc, .slice uo m uc] w fun e w' => ∃ c Ts, e = .returned (.tuple #[c, .bool true]) ∧ ContIs kind l (.slice lo n lc) (.slice uo m uc) c Ts ∧ Held w w' Ts := by
  have hml : m = raw.length := by have := hu.1; rw [u8s_length] at this; omega
  have hnl := hv.toks_len
  rcases hmy with ⟨hk, hr⟩ | ⟨hk, hs, hl⟩
  · have hk0 : kind = 0 := by omega
    subst hk0
    have hb1 : decide ((m : Int) ≤ 65535) = true := by simp; omega
    clear hnl hml hv hu hO
    go_enter Tryz.func24, Tryz.ntmps24
    go_wp2
    go_ret2
    exact ⟨_, [], rfl, .inl ⟨rfl, rfl, rfl⟩, Held.start w⟩
  · have HW := hid (writable_any (.slice lo n lc) n l w hv hn)
    rw [wrB_may.2 ⟨hs, hl⟩] at HW
    have HV := hid (And.intro hv (And.intro hO (And.intro hl (And.intro hs hb))))
    have hk2 : kind = 1 ∨ kind = 2 := by omega
    clear hnl hml hv hu hO hs hl hb
    rcases hk2 with rfl | rfl
    · go_enter Tryz.func24, Tryz.ntmps24
      go_wp2_with fail
      with_reducible refine HW.out.mono ?_
      rintro e w1 ⟨rfl, hm⟩
      have HN := hid (newFixed_any (w := w1) lo n lc l (HV.out.1.kept hm (fun _ _ h => h)) HV.out.2.2.1 HV.out.2.2.2.1 HV.out.2.2.2.2)
      have HM := hid hm
      clear hm HW
      go_wp2_with fail
      with_reducible refine HN.out.mono ?_
      rintro e w2 ⟨B1, B2, rfl, hh⟩
      have HH := hid (((Held.start w).same HM.out).frame hh)
      clear hh HN
      go_wp2
      go_ret2
      exact ⟨_, _, rfl, .inr (.inl ⟨rfl, B1, B2, rfl, rfl⟩), HH.out⟩
    · go_enter Tryz.func24, Tryz.ntmps24
      go_wp2_with fail
      with_reducible refine HW.out.mono ?_
      rintro e w1 ⟨rfl, hm⟩
      have HN := hid (newDynamic_any (w := w1) lo n lc l (HV.out.1.kept hm (fun _ _ h => h)) (HV.out.2.1.kept hm) HV.out.2.2.1 HV.out.2.2.2.1 HV.out.2.2.2.2)
      have HM := hid hm
      clear hm HW
      go_wp2_with fail
      with_reducible refine HN.out.mono ?_
      rintro e w2 ⟨Bh, Bt, B1, B2, iv, hv, rfl, hh⟩
      have HH := hid (((Held.start w).same HM.out).frame hh)
      clear hh HN
      go_wp2
      go_ret2
      exact ⟨_, _, rfl, .inr (.inr ⟨rfl, Bh, Bt, B1, B2, iv, hv, rfl, rfl⟩), HH.out⟩
set_option maxHeartbeats 1600000 in
theorem contents_not (kind : Int) (lo uo : Option Addr) (n lc m uc : Nat) (l : List Tok) (raw : List Nat) (hv : Rd w 3 (.slice lo n lc) n (toksV l)) (hu : Rd w 1 (.slice uo m uc) m (u8s raw)) (hn : n < 1000000000) (hmy : ¬ mayK kind l raw) :
    Calls Tryz.prog 24 #[.int .i64 kind, .slice lo n lc, .slice uo m uc] w fun e w' => e = .returned (.tuple #[.nilIface, .bool false]) ∧ Mod w w' (fun _ => False) := by
  have hml : m = raw.length := by have := hu.1; rw [u8s_length] at this; omega
  have HW := hid (writable_any (.slice lo n lc) n l w hv hn)
  have h3 : (kind = 0 ∧ ¬ m ≤ 65535) ∨ (kind = 1 ∧ wrB l = false) ∨ (kind = 2 ∧ wrB l = false) ∨ (kind ≠ 0 ∧ kind ≠ 1 ∧ kind ≠ 2) := by
    unfold mayK at hmy
    by_cases c0 : kind = 0
    · exact .inl ⟨c0, fun h => hmy (.inl ⟨c0, by omega⟩)⟩
    · by_cases c1 : kind = 1
      · refine .inr (.inl ⟨c1, ?_⟩)
        cases hw : wrB l with
        | false => rfl
        | true => exact absurd (.inr ⟨.inl c1, wrB_may.1 hw⟩) hmy
      · by_cases c2 : kind = 2
        · refine .inr (.inr (.inl ⟨c2, ?_⟩))
          cases hw : wrB l with
          | false => rfl
          | true => exact absurd (.inr ⟨.inr c2, wrB_may.1 hw⟩) hmy
        · exact .inr (.inr (.inr ⟨c0, c1, c2⟩))
  clear hv hu hmy hml
  rcases h3 with ⟨rfl, h⟩ | ⟨rfl, h⟩ | ⟨rfl, h⟩ | ⟨h0, h1, h2⟩
  · have hb1 : decide ((m : Int) ≤ 65535) = false := by simp; omega
    go_enter Tryz.func24, Tryz.ntmps24
    go_wp2
    go_ret2
    exact ⟨rfl, Mod.refl _ _⟩
  · rw [h] at HW
    go_enter Tryz.func24, Tryz.ntmps24
    go_wp2_with fail
    with_reducible refine HW.out.mono ?_
    rintro e w1 ⟨rfl, hm⟩
    have HM := hid hm
    clear hm
    go_wp2
    go_ret2
    exact ⟨rfl, HM.out⟩
  · rw [h] at HW
    go_enter Tryz.func24, Tryz.ntmps24
    go_wp2_with fail
    with_reducible refine HW.out.mono ?_
    rintro e w1 ⟨rfl, hm⟩
    have HM := hid hm
    clear hm
    go_wp2
    go_ret2
    exact ⟨rfl, HM.out⟩
  · have b0 : (kind == 0) = false := by simp [h0]
    have b1 : (kind == 1) = false := by simp [h1]
    have b2 : (kind == 2) = false := by simp [h2]
    go_enter Tryz.func24, Tryz.ntmps24
    go_wp2
    go_ret2
    exact ⟨rfl, Mod.refl _ _⟩
end
end Go.Proofs.YthibpnkdhbkakaaGreatDoor
/-
  A block written (writeBlock), through the interface.
-/
namespace Go.Proofs.YthibpnkdhbkakaaGreatDoor
set_option maxRecDepth 5000
open Go.RowKit

theorem blk_bits (F : Nat → List Tok → List Nat → Nat → List Nat) (kind : Nat) (l : List Tok) (raw acc : List Nat) (last : Bool) : acc ++ bitsOf 1 (if last then 1 else 0) ++ bitsOf 2 kind ++ F kind l raw (acc.length + 3) = acc ++ blkBits F kind l raw last acc.length := by
  unfold blkBits
  have h := bitsOf_join 1 2 (if last then 1 else 0) kind (by cases last <;> decide)
  rw [show 1 + 2 = 3 by rfl, show 2 ^ 1 = 2 by rfl] at h
  rw [h]
  simp
section
variable {w0 w : World} {Rs : List Thing}
set_option maxHeartbeats 3200000 in
theorem writeBlock_any {Bw n m kind : Nat} {acc raw : List Nat} {l : List Tok} {S : Thing} {Ts : List Thing} {c : Value} (lo uo : Option Addr) (lc uc : Nat) (last : Bool) (hc : ContIs kind l (.slice lo n lc) (.slice uo m uc) c Ts) (h : Held w0 w (wrT Bw acc :: S :: (Ts ++ Rs))) (hr : Reads w0 S 3 (.slice lo n lc) n (toksV l)) (hu : Reads w0 S 1 (.slice uo m uc) m (u8s raw)) (hmy : mayK kind l raw) (hb : byteOK l) (hrb : ∀ b ∈ raw, b < 256) (hacc : acc.length < 900000000) :
    Calls Tryz.prog 25 #[.pointer (some ⟨Bw, 0, none⟩), .int .i64 (kind : Int), c, .bool last] w fun e w' => e = .returned (.tuple #[]) ∧ Held w0 w' (wrT Bw (acc ++ blkBits (blkF lensF) kind l raw last acc.length) :: S :: (Ts ++ Rs)) := by
  have hk3 : kind < 3 := by rcases hc with ⟨h, _⟩ | ⟨h, _⟩ | ⟨h, _⟩ <;> omega
  have hE := blk_bits (blkF lensF) kind l raw acc last
  have hml : m = raw.length := by have := (hu.rd h.swap).1; rw [u8s_length] at this; omega
  have hnl := (hr.rd h.swap).toks_len
  have hw : IntKind.u32.wrap (kind : Int) = (kind : Int) := u32_of _ (by omega)
  have hk0 : (0 : Int) ≤ (kind : Int) := Int.natCast_nonneg _
  have HM := hid (And.intro hmy (And.intro hb hrb))
  have hfor : ∀ t ∈ l, kind ≠ 0 → soundB t = true := fun t ht h0 => by
    rcases hmy with ⟨h, _⟩ | ⟨_, h, _⟩
    · omega
    · exact h t ht
  have hl20 : kind ≠ 0 → l.length < 1048576 := fun h0 => by
    rcases hmy with ⟨h, _⟩ | ⟨_, _, h⟩
    · omega
    · exact h
  have hm16 : kind = 0 → m ≤ 65535 := fun h0 => by
    rcases hmy with ⟨_, h⟩ | ⟨h, _⟩
    · omega
    · omega
  obtain ⟨mk, hmk⟩ : ∃ mk : Nat, mk = if last then 1 else 0 := ⟨_, rfl⟩
  rw [← hmk] at hE
  have hmk1 : mk ≤ 1 := by rw [hmk]; cases last <;> decide
  have HP1 := hid (h_put h mk 1 (by omega) (by omega) (by omega))
  rw [show ((1 : Nat) : Int) = 1 from rfl] at HP1
  have HP2 := hid (fun (w2 : World) (h2 : Held w0 w2 (wrT Bw (acc ++ bitsOf 1 mk) :: S :: (Ts ++ Rs))) => h_put h2 kind 2 (by omega) (by omega) (by rw [List.length_append, bitsOf_length]; omega))
  rw [show ((2 : Nat) : Int) = 2 from rfl] at HP2
  have hal : (acc ++ bitsOf 1 mk ++ bitsOf 2 kind).length = acc.length + 3 := by simp only [List.length_append, bitsOf_length]
  have HW : Hid (∀ w3 : World, Held w0 w3 (wrT Bw (acc ++ bitsOf 1 mk ++ bitsOf 2 kind) :: S :: (Ts ++ Rs)) → (kind = 0 → Calls Tryz.prog 123 #[.slice uo m uc, .pointer (some ⟨Bw, 0, none⟩)] w3 fun e w' => e = .returned (.tuple #[]) ∧ Held w0 w' (wrT Bw (acc ++ blkBits (blkF lensF) kind l raw last acc.length) :: S :: (Ts ++ Rs))) ∧
      (∀ B1 B2, kind = 1 → Ts = [tabT fixLit B1, tabT fixDist B2] → Calls Tryz.prog 127 #[codV (.slice lo n lc) B1 B2 (toksB fixLit fixDist l).length, .pointer (some ⟨Bw, 0, none⟩)] w3 fun e w' => e = .returned (.tuple #[]) ∧ Held w0 w' (wrT Bw (acc ++ blkBits (blkF lensF) kind l raw last acc.length) :: S :: (Ts ++ Rs))) ∧
      (∀ Bh Bt B1 B2 iv hv, kind = 2 → Ts = dynTs l Bh Bt B1 B2 iv hv → Calls Tryz.prog 135 #[dynV Bh (.slice lo n lc) B1 B2 (toksB (litC lensF l) (dstL lensF l) l).length, .pointer (some ⟨Bw, 0, none⟩)] w3 fun e w' => e = .returned (.tuple #[]) ∧ Held w0 w' (wrT Bw (acc ++ blkBits (blkF lensF) kind l raw last acc.length) :: S :: (Ts ++ Rs)))) := by
    refine hid fun w3 h3 => ⟨fun h0 => ?_, fun B1 B2 h1 hT => ?_, fun Bh Bt B1 B2 iv hv h2 hT => ?_⟩
    · have g := stored_write uo uc h3 hu hrb (hm16 h0) (by omega)
      rw [hal] at g
      subst h0
      rw [show storedBits (acc.length + 3) raw = blkF lensF 0 l raw (acc.length + 3) from rfl, hE] at g
      exact g
    · subst hT
      have g := cwrite_any (bits := (toksB fixLit fixDist l).length) (.slice lo n lc) l (h3.perm (List.Perm.cons _ ((List.perm_append_comm (l₁ := [_]) (l₂ := [_, _])).append_right Rs))) hr (fine_of fix_check.1) (fine_of fix_check.2) (fun t ht => hfor t ht (by omega)) hb (covers_fix (fun t ht => hfor t ht (by omega)) hb) (by have := hl20 (by omega); omega) (by omega)
      subst h1
      rw [show toksB fixLit fixDist l = blkF lensF 1 l raw (acc.length + 3) from rfl, hE] at g
      exact g.mono fun _ _ ⟨e1, e2⟩ => ⟨e1, e2.perm (List.Perm.cons _ ((List.perm_append_comm (l₁ := [_, _]) (l₂ := [_])).append_right Rs))⟩
    · subst hT
      have g := dyn_write (bits := (toksB (litC lensF l) (dstL lensF l) l).length) lo lc Bh Bt B1 B2 iv hv h3 hr (fun t ht => hfor t ht (by omega)) hb (by have := hl20 (by omega); omega) (by omega)
      subst h2
      rw [show blkF lensF 2 l [] 0 = blkF lensF 2 l raw (acc.length + 3) from rfl, hE] at g
      exact g
  clear hE hml hnl HM hfor hl20 hm16 hmy hb hrb hr hu h hal
  rcases hc with ⟨hk, rfl, hT⟩ | ⟨hk, B1, B2, rfl, hT⟩ | ⟨hk, Bh, Bt, B1, B2, iv, hv, rfl, hT⟩
  · cases last
    · -- last: False
      simp only [Bool.false_eq_true, if_false] at hmk
      subst hmk
      have HK := hid hk
      clear hk
      rw [show ((0 : Nat) : Int) = 0 from rfl] at HP1
      go_enter Tryz.func25, Tryz.ntmps25
      go_wp2_with fail
      with_reducible refine HP1.out.mono ?_
      rintro e w2 ⟨rfl, h2⟩
      have HP := hid (HP2.out w2 h2)
      clear h2 HP1 HP2
      go_wp2_with fail
      with_reducible refine HP.out.mono ?_
      rintro e w3 ⟨rfl, h3⟩
      have HX := hid ((HW.out w3 h3).1 HK.out)
      clear h3 HP HW
      go_wp2_with fail
      with_reducible refine HX.out.mono ?_
      rintro e w4 ⟨rfl, h4⟩
      have H9 := hid h4
      clear h4 HX
      go_wp2
      go_end0
      exact ⟨rfl, H9.out⟩
    · -- last: True
      simp only [if_true] at hmk
      subst hmk
      have HK := hid hk
      clear hk
      rw [show ((1 : Nat) : Int) = 1 from rfl] at HP1
      go_enter Tryz.func25, Tryz.ntmps25
      go_wp2_with fail
      with_reducible refine HP1.out.mono ?_
      rintro e w2 ⟨rfl, h2⟩
      have HP := hid (HP2.out w2 h2)
      clear h2 HP1 HP2
      go_wp2_with fail
      with_reducible refine HP.out.mono ?_
      rintro e w3 ⟨rfl, h3⟩
      have HX := hid ((HW.out w3 h3).1 HK.out)
      clear h3 HP HW
      go_wp2_with fail
      with_reducible refine HX.out.mono ?_
      rintro e w4 ⟨rfl, h4⟩
      have H9 := hid h4
      clear h4 HX
      go_wp2
      go_end0
      exact ⟨rfl, H9.out⟩
  · cases last
    · -- last: False
      simp only [Bool.false_eq_true, if_false] at hmk
      subst hmk
      have HK := hid hk
      clear hk
      rw [show ((0 : Nat) : Int) = 0 from rfl] at HP1
      unfold codV
      go_enter Tryz.func25, Tryz.ntmps25
      go_wp2_with fail
      with_reducible refine HP1.out.mono ?_
      rintro e w2 ⟨rfl, h2⟩
      have HP := hid (HP2.out w2 h2)
      clear h2 HP1 HP2
      go_wp2_with fail
      with_reducible refine HP.out.mono ?_
      rintro e w3 ⟨rfl, h3⟩
      have HX := hid ((HW.out w3 h3).2.1 B1 B2 HK.out hT)
      unfold codV at HX
      clear h3 HP HW
      go_wp2_with fail
      with_reducible refine HX.out.mono ?_
      rintro e w4 ⟨rfl, h4⟩
      have H9 := hid h4
      clear h4 HX
      go_wp2
      go_end0
      exact ⟨rfl, H9.out⟩
    · -- last: True
      simp only [if_true] at hmk
      subst hmk
      have HK := hid hk
      clear hk
      rw [show ((1 : Nat) : Int) = 1 from rfl] at HP1
      unfold codV
      go_enter Tryz.func25, Tryz.ntmps25
      go_wp2_with fail
      with_reducible refine HP1.out.mono ?_
      rintro e w2 ⟨rfl, h2⟩
      have HP := hid (HP2.out w2 h2)
      clear h2 HP1 HP2
      go_wp2_with fail
      with_reducible refine HP.out.mono ?_
      rintro e w3 ⟨rfl, h3⟩
      have HX := hid ((HW.out w3 h3).2.1 B1 B2 HK.out hT)
      unfold codV at HX
      clear h3 HP HW
      go_wp2_with fail
      with_reducible refine HX.out.mono ?_
      rintro e w4 ⟨rfl, h4⟩
      have H9 := hid h4
      clear h4 HX
      go_wp2
      go_end0
      exact ⟨rfl, H9.out⟩
  · cases last
    · -- last: False
      simp only [Bool.false_eq_true, if_false] at hmk
      subst hmk
      have HK := hid hk
      clear hk
      rw [show ((0 : Nat) : Int) = 0 from rfl] at HP1
      unfold dynV
      go_enter Tryz.func25, Tryz.ntmps25
      go_wp2_with fail
      with_reducible refine HP1.out.mono ?_
      rintro e w2 ⟨rfl, h2⟩
      have HP := hid (HP2.out w2 h2)
      clear h2 HP1 HP2
      go_wp2_with fail
      with_reducible refine HP.out.mono ?_
      rintro e w3 ⟨rfl, h3⟩
      have HX := hid ((HW.out w3 h3).2.2 Bh Bt B1 B2 iv hv HK.out hT)
      unfold dynV at HX
      clear h3 HP HW
      go_wp2_with fail
      with_reducible refine HX.out.mono ?_
      rintro e w4 ⟨rfl, h4⟩
      have H9 := hid h4
      clear h4 HX
      go_wp2
      go_end0
      exact ⟨rfl, H9.out⟩
    · -- last: True
      simp only [if_true] at hmk
      subst hmk
      have HK := hid hk
      clear hk
      rw [show ((1 : Nat) : Int) = 1 from rfl] at HP1
      unfold dynV
      go_enter Tryz.func25, Tryz.ntmps25
      go_wp2_with fail
      with_reducible refine HP1.out.mono ?_
      rintro e w2 ⟨rfl, h2⟩
      have HP := hid (HP2.out w2 h2)
      clear h2 HP1 HP2
      go_wp2_with fail
      with_reducible refine HP.out.mono ?_
      rintro e w3 ⟨rfl, h3⟩
      have HX := hid ((HW.out w3 h3).2.2 Bh Bt B1 B2 iv hv HK.out hT)
      unfold dynV at HX
      clear h3 HP HW
      go_wp2_with fail
      with_reducible refine HX.out.mono ?_
      rintro e w4 ⟨rfl, h4⟩
      have H9 := hid h4
      clear h4 HX
      go_wp2
      go_end0
      exact ⟨rfl, H9.out⟩
end
end Go.Proofs.YthibpnkdhbkakaaGreatDoor
/-
  The program keeps what a writer of blocks is to do: WriteKind, Cost, Write (BlockOK).
-/
namespace Go.Proofs.YthibpnkdhbkakaaGreatDoor
set_option maxRecDepth 5000
open Go.RowKit

/-- the size of contents, the three bits ahead left out -/
def sizeK (kind : Nat) (l : List Tok) (raw : List Nat) : Nat := (blkF lensF kind l raw 3).length
theorem sizeK_zero (l : List Tok) (raw : List Nat) : sizeK 0 l raw = 37 + 8 * raw.length := by
  show (storedBits 3 raw).length = _
  rw [storedBits_length]
  have : evenF 3 = 8 := by decide
  omega
theorem sizeK_le {kind : Nat} {l : List Tok} {raw : List Nat} (hm : mayK kind l raw) : sizeK kind l raw < 1000000 + 100 * 1048576 := by
  rcases hm with ⟨h, h2⟩ | ⟨h, h2, h3⟩
  · have := blkF_short lensF_LensOK kind [] raw 3 (.inl ⟨by omega, h2⟩)
    have e : sizeK kind l raw = (blkF lensF kind [] raw 3).length := by
      have h0 : kind = 0 := by omega
      subst h0; rfl
    rw [e]
    simp at this
    omega
  · have := blkF_short lensF_LensOK kind l raw 3 (.inr ⟨by omega, h2⟩)
    unfold sizeK
    omega
section
variable {w0 w : World} {Rs : List Thing}
theorem Held.dropAll : ∀ {Ts : List Thing}, Held w0 w (Ts ++ Rs) → Held w0 w Rs
  | [], h => h
  | _ :: _, h => Held.dropAll (Held.drop h)
/-- the three methods 'size' -/
structure Sizes (kind : Nat) (l : List Tok) (raw : List Nat) (lo uo : Option Addr) (n lc m uc : Nat) (Ts : List Thing) (w1 : World) : Prop where
  s0 : kind = 0 → Calls Tryz.prog 122 #[.slice uo m uc] w1 fun e w' => e = .returned (.int .i64 (sizeK kind l raw : Int)) ∧ Mod w1 w' (fun _ => False)
  s1 : ∀ B1 B2, kind = 1 → Calls Tryz.prog 126 #[codV (.slice lo n lc) B1 B2 (toksB fixLit fixDist l).length] w1 fun e w' => e = .returned (.int .i64 (sizeK kind l raw : Int)) ∧ Mod w1 w' (fun _ => False)
  s2 : ∀ Bh Bt B1 B2 iv hv, kind = 2 → Ts = dynTs l Bh Bt B1 B2 iv hv → Calls Tryz.prog 134 #[dynV Bh (.slice lo n lc) B1 B2 (toksB (litC lensF l) (dstL lensF l) l).length] w1 fun e w' => e = .returned (.int .i64 (sizeK kind l raw : Int)) ∧ Mod w1 w' (fun _ => False)
theorem sizes_of {kind : Nat} {l : List Tok} {raw : List Nat} {Ts : List Thing} {w1 : World} (lo uo : Option Addr) (n lc m uc : Nat) (hm : m = raw.length) (hmy : mayK kind l raw) (h : Held w0 w1 (Ts ++ Rs)) : Sizes kind l raw lo uo n lc m uc Ts w1 := by
  have hsz := sizeK_le hmy
  refine ⟨fun hk => ?_, fun B1 B2 hk => ?_, fun Bh Bt B1 B2 iv hv hk hT => ?_⟩
  · subst hk
    have h16 : m ≤ 65535 := by
      rcases hmy with ⟨_, h2⟩ | ⟨h2, _⟩
      · omega
      · omega
    refine (stored_size (w := w1) uo m uc (by omega)).mono fun e w' ⟨h1, h2⟩ => ⟨?_, by rw [h2]; exact Mod.refl _ _⟩
    rw [h1, sizeK_zero, hm]
  · subst hk
    exact coded_size lo n lc B1 B2 _
  · subst hT
    subst hk
    have hc : w1.cell? ⟨Bh, 5, none⟩ = some (.int .i64 ((headB (litC lensF l) (dstL lensF l) (headC lensF (itemsOf (litC lensF l) (dstL lensF l))) (itemsOf (litC lensF l) (dstL lensF l))).length : Int)) := h.drop.drop.obj.cell (i := 5) rfl
    have e : sizeK 2 l raw = (headB (litC lensF l) (dstL lensF l) (headC lensF (itemsOf (litC lensF l) (dstL lensF l))) (itemsOf (litC lensF l) (dstL lensF l))).length + (toksB (litC lensF l) (dstL lensF l) l).length := by
      show (headB _ _ _ _ ++ toksB _ _ _).length = _
      rw [List.length_append]
    rw [e] at hsz ⊢
    exact dyn_size lo n lc Bh B1 B2 _ _ hc (by omega) (by omega)
theorem costK_may {kind : Nat} {l : List Tok} {raw : List Nat} (hm : mayK kind l raw) : costK (blkF lensF) kind l raw = ((3 + sizeK kind l raw : Nat) : Int) := by
  unfold costK
  rw [if_pos hm]; rfl
theorem costK_not {kind : Int} {l : List Tok} {raw : List Nat} (hm : ¬ mayK kind l raw) : costK (blkF lensF) kind l raw = -1 := by
  unfold costK
  rw [if_neg hm]
set_option maxHeartbeats 3200000 in
theorem cost_blk (kind : Int) (l : List Tok) (raw : List Nat) (v u : Value) (n m : Nat) (hO : Ordr w0) (h : Held w0 w Rs) (hv : Rd w 3 v n (toksV l)) (hu : Rd w 1 u m (u8s raw)) (hb : byteOK l) (hn : n < 1000000000) :
    Calls Tryz.prog 11 #[.int .i64 kind, v, u] w fun e w' => e = .returned (.int .i64 (costK (blkF lensF) kind l raw)) ∧ Held w0 w' Rs := by
  obtain ⟨lo, lc, rfl, _, _⟩ := hv.form
  obtain ⟨uo, uc, rfl, _, _⟩ := hu.form
  have hml : m = raw.length := by have := hu.1; rw [u8s_length] at this; omega
  have HH := hid h
  by_cases hmy : mayK kind l raw
  · obtain ⟨k, rfl⟩ : ∃ k : Nat, kind = (k : Int) := ⟨kind.toNat, by rcases hmy with ⟨h, _⟩ | ⟨h | h, _⟩ <;> omega⟩
    have HC := hid (contents_may k lo uo n lc m uc l raw hv hu (hO.kept h.mod) hb hn hmy)
    rw [costK_may hmy]
    have HM := hid (And.intro hmy hml)
    have hsz := sizeK_le hmy
    clear hmy hml hv hu hO h hb
    generalize hz : sizeK k l raw = z at hsz ⊢
    have HZ := hid hz
    clear hz
    go_enter Tryz.func11, Tryz.ntmps11
    go_wp2_with fail
    with_reducible refine HC.out.mono ?_
    rintro e w1 ⟨c, Ts, rfl, hc, hh⟩
    have HS := hid (sizes_of (w0 := w) (Rs := []) lo uo n lc m uc HM.out.2 HM.out.1 (by rw [List.append_nil]; exact hh))
    have H1 := hid (HH.out.same (hh.mod))
    clear hh HC
    rcases hc with ⟨hk, rfl, hT⟩ | ⟨hk, B1, B2, rfl, hT⟩ | ⟨hk, Bh, Bt, B1, B2, iv, hv, rfl, hT⟩
    · have HX := hid (HS.out.s0 hk)
      rw [HZ.out] at HX
      clear HS hk hT
      go_wp2_with fail
      with_reducible refine HX.out.mono ?_
      rintro e w2 ⟨rfl, hm⟩
      have H2 := hid (H1.out.same hm)
      clear hm HX
      go_wp2
      go_ret
      exact ⟨ret_int (by first | go_num | omega), H2.out⟩
    · have HX := hid (HS.out.s1 B1 B2 hk)
      rw [HZ.out] at HX
      unfold codV at HX ⊢
      clear HS hk hT
      go_wp2_with fail
      with_reducible refine HX.out.mono ?_
      rintro e w2 ⟨rfl, hm⟩
      have H2 := hid (H1.out.same hm)
      clear hm HX
      go_wp2
      go_ret
      exact ⟨ret_int (by first | go_num | omega), H2.out⟩
    · have HX := hid (HS.out.s2 Bh Bt B1 B2 iv hv hk hT)
      rw [HZ.out] at HX
      unfold dynV at HX ⊢
      clear HS hk hT
      go_wp2_with fail
      with_reducible refine HX.out.mono ?_
      rintro e w2 ⟨rfl, hm⟩
      have H2 := hid (H1.out.same hm)
      clear hm HX
      go_wp2
      go_ret
      exact ⟨ret_int (by first | go_num | omega), H2.out⟩
  · have HC := hid (contents_not kind lo uo n lc m uc l raw hv hu hn hmy)
    rw [costK_not hmy]
    clear hmy hml hv hu hO h hb
    go_enter Tryz.func11, Tryz.ntmps11
    go_wp2_with fail
    with_reducible refine HC.out.mono ?_
    rintro e w1 ⟨rfl, hm⟩
    have H1 := hid (HH.out.same hm)
    clear hm HC
    go_wp2
    go_ret
    exact ⟨rfl, H1.out⟩
set_option maxHeartbeats 3200000 in
theorem write_blk (kind : Nat) (l : List Tok) (raw acc : List Nat) (last : Bool) (v u : Value) (n m B : Nat) (S : Thing) (hO : Ordr w0) (h : Held w0 w (wrT B acc :: S :: Rs)) (hv : Reads w0 S 3 v n (toksV l)) (hu : Reads w0 S 1 u m (u8s raw)) (hb : byteOK l) (hr : ∀ b ∈ raw, b < 256) (hn : n < 1000000000) (hacc : acc.length < 900000000) (hmy : mayK kind l raw) :
    Calls Tryz.prog 9 #[.pointer (some ⟨B, 0, none⟩), .int .i64 (kind : Int), v, u, .bool last] w fun e w' => e = .returned (.bool true) ∧ Held w0 w' (wrT B (acc ++ blkBits (blkF lensF) kind l raw last acc.length) :: S :: Rs) := by
  have hvr := hv.rd h.swap
  have hur := hu.rd h.swap
  obtain ⟨lo, lc, rfl, _, _⟩ := hvr.form
  obtain ⟨uo, uc, rfl, _, _⟩ := hur.form
  have HC := hid (contents_may kind lo uo n lc m uc l raw hvr hur (hO.kept h.mod) hb hn hmy)
  have HH := hid (And.intro h (And.intro hv (And.intro hu (And.intro hb (And.intro hr hmy)))))
  clear hvr hur h hv hu hO hb hr hmy
  go_enter Tryz.func9, Tryz.ntmps9
  go_wp2_with fail
  with_reducible refine HC.out.mono ?_
  rintro e w1 ⟨c, Ts, rfl, hc, hh⟩
  have h1 : Held w0 w1 (wrT B acc :: S :: (Ts ++ Rs)) := (HH.out.1.frame hh).perm (by
    have h2 := (List.perm_append_comm (l₁ := Ts) (l₂ := [wrT B acc, S])).append_right Rs
    simpa using h2)
  have HW := hid (writeBlock_any lo uo lc uc last hc h1 HH.out.2.1 HH.out.2.2.1 HH.out.2.2.2.2.2 HH.out.2.2.2.1 HH.out.2.2.2.2.1 hacc)
  clear hc hh h1 HC
  go_wp2_with fail
  with_reducible refine HW.out.mono ?_
  rintro e w2 ⟨rfl, h2⟩
  have H2 : Hid (Held w0 w2 (wrT B (acc ++ blkBits (blkF lensF) kind l raw last acc.length) :: S :: Rs)) := by
    have h3 : Held w0 w2 (Ts ++ (wrT B (acc ++ blkBits (blkF lensF) kind l raw last acc.length) :: S :: Rs)) := h2.perm (by
      have h4 := (List.perm_append_comm (l₁ := [wrT B (acc ++ blkBits (blkF lensF) kind l raw last acc.length), S]) (l₂ := Ts)).append_right Rs
      simpa using h4)
    exact hid h3.dropAll
  clear h2 HW
  go_wp2
  go_ret
  exact ⟨rfl, H2.out⟩
set_option maxHeartbeats 3200000 in
theorem writeNo_blk (kind : Int) (l : List Tok) (raw acc : List Nat) (last : Bool) (v u : Value) (n m B : Nat) (h : Held w0 w (wrT B acc :: Rs)) (hv : Rd w 3 v n (toksV l)) (hu : Rd w 1 u m (u8s raw)) (hn : n < 1000000000) (hmy : ¬ mayK kind l raw) :
    Calls Tryz.prog 9 #[.pointer (some ⟨B, 0, none⟩), .int .i64 kind, v, u, .bool last] w fun e w' => e = .returned (.bool false) ∧ Held w0 w' (wrT B acc :: Rs) := by
  obtain ⟨lo, lc, rfl, _, _⟩ := hv.form
  obtain ⟨uo, uc, rfl, _, _⟩ := hu.form
  have HC := hid (contents_not kind lo uo n lc m uc l raw hv hu hn hmy)
  have HH := hid h
  clear hmy hv hu h
  go_enter Tryz.func9, Tryz.ntmps9
  go_wp2_with fail
  with_reducible refine HC.out.mono ?_
  rintro e w1 ⟨rfl, hm⟩
  have H1 := hid (HH.out.same hm)
  clear hm HC
  go_wp2
  go_ret
  exact ⟨rfl, H1.out⟩
end
end Go.Proofs.YthibpnkdhbkakaaGreatDoor
