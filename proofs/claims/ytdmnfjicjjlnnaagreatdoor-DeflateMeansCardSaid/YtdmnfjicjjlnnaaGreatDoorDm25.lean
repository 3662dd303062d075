/-
  The contents of a block chosen by kind (contentsOf), and through the interface: how many bits they are, and written.
-/
import Derived.Test.YtdmnfjicjjlnnaaGreatDoorDm24
import Derived.Test.YtdmnfjicjjlnnaaGreatDoorDm09
namespace Go.Proofs.YtdmnfjicjjlnnaaGreatDoor
set_option maxRecDepth 5000
open Go.RowKit
def ContIs (kind : Nat) (l : List Tok) (lv uv c : Value) (Ts : List Thing) : Prop :=
  (kind = 0 ∧ c = .iface 104 uv ∧ Ts = []) ∨
  (kind = 1 ∧ ∃ B1 B2, c = .iface 108 (codV lv B1 B2 (toksB fixLit fixDist l).length) ∧ Ts = [tabT fixLit B1, tabT fixDist B2]) ∨
  (kind = 2 ∧ ∃ Bh Bt B1 B2 iv hv, c = .iface 112 (dynV Bh lv B1 B2 (toksB (litC lensF l) (dstL lensF l) l).length) ∧ Ts = dynTs l Bh Bt B1 B2 iv hv)
section
variable {w : World}
theorem wrB_may {l : List Tok} : wrB l = true ↔ allSound l ∧ l.length < 1048576 := by
  rw [wrB_iff]
  exact ⟨fun h => ⟨h.2, h.1⟩, fun h => ⟨h.2, h.1⟩⟩
set_option maxHeartbeats 1600000 in
theorem contents_may (kind : Nat) (lo uo : Option Addr) (n lc m uc : Nat) (l : List Tok) (raw : List Nat) (hv : Rd w 3 (.slice lo n lc) n (toksV l)) (hu : Rd w 1 (.slice uo m uc) m (u8s raw)) (hO : Ordr w) (hb : byteOK l) (hn : n < 1000000000) (hmy : mayK kind l raw) :
    Calls Tryz.prog 44 #[.int .i64 (kind : Int), .slice lo n lc, .slice uo m uc] w fun e w' => ∃ c Ts, e = .returned (.tuple #[c, .bool true]) ∧ ContIs kind l (.slice lo n lc) (.slice uo m uc) c Ts ∧ Held w w' Ts := by
  have hml : m = raw.length := by have := hu.1; rw [u8s_length] at this; omega
  have hnl := hv.toks_len
  rcases hmy with ⟨hk, hr⟩ | ⟨hk, hs, hl⟩
  · have hk0 : kind = 0 := by omega
    subst hk0
    have hb1 : decide ((m : Int) ≤ 65535) = true := by simp; omega
    clear hnl hml hv hu hO
    go_enter Tryz.func44, Tryz.ntmps44
    go_wp2
    go_ret2
    exact ⟨_, [], rfl, .inl ⟨rfl, rfl, rfl⟩, Held.start w⟩
  · have HW := hid (writable_any (.slice lo n lc) n l w hv hn)
    rw [wrB_may.2 ⟨hs, hl⟩] at HW
    have HV := hid (And.intro hv (And.intro hO (And.intro hl (And.intro hs hb))))
    have hk2 : kind = 1 ∨ kind = 2 := by omega
    clear hnl hml hv hu hO hs hl hb
    rcases hk2 with rfl | rfl
    · go_enter Tryz.func44, Tryz.ntmps44
      go_wp2_with fail
      with_reducible refine HW.out.mono ?_
      rintro e w1 ⟨rfl, hm⟩
      have HN := hid (newFixed_any (w := w1) lo n lc l (HV.out.1.kept hm (fun _ _ h => h)) HV.out.2.2.1 HV.out.2.2.2.1 HV.out.2.2.2.2)
      have HM := hid hm
      clear hm HW
      go_wp2_with fail
      with_reducible refine HN.out.mono ?_
      rintro e w2 ⟨B1, B2, rfl, hh⟩
      have HH := hid (((Held.start w).same HM.out).frame hh)
      clear hh HN
      go_wp2
      go_ret2
      exact ⟨_, _, rfl, .inr (.inl ⟨rfl, B1, B2, rfl, rfl⟩), HH.out⟩
    · go_enter Tryz.func44, Tryz.ntmps44
      go_wp2_with fail
      with_reducible refine HW.out.mono ?_
      rintro e w1 ⟨rfl, hm⟩
      have HN := hid (newDynamic_any (w := w1) lo n lc l (HV.out.1.kept hm (fun _ _ h => h)) (HV.out.2.1.kept hm) HV.out.2.2.1 HV.out.2.2.2.1 HV.out.2.2.2.2)
      have HM := hid hm
      clear hm HW
      go_wp2_with fail
      with_reducible refine HN.out.mono ?_
      rintro e w2 ⟨Bh, Bt, B1, B2, iv, hv, rfl, hh⟩
      have HH := hid (((Held.start w).same HM.out).frame hh)
      clear hh HN
      go_wp2
      go_ret2
      exact ⟨_, _, rfl, .inr (.inr ⟨rfl, Bh, Bt, B1, B2, iv, hv, rfl, rfl⟩), HH.out⟩
set_option maxHeartbeats 1600000 in
theorem contents_not (kind : Int) (lo uo : Option Addr) (n lc m uc : Nat) (l : List Tok) (raw : List Nat) (hv : Rd w 3 (.slice lo n lc) n (toksV l)) (hu : Rd w 1 (.slice uo m uc) m (u8s raw)) (hn : n < 1000000000) (hmy : ¬ mayK kind l raw) :
    Calls Tryz.prog 44 #[.int .i64 kind, .slice lo n lc, .slice uo m uc] w fun e w' => e = .returned (.tuple #[.nilIface, .bool false]) ∧ Mod w w' (fun _ => False) := by
  have hml : m = raw.length := by have := hu.1; rw [u8s_length] at this; omega
  have HW := hid (writable_any (.slice lo n lc) n l w hv hn)
  have h3 : (kind = 0 ∧ ¬ m ≤ 65535) ∨ (kind = 1 ∧ wrB l = false) ∨ (kind = 2 ∧ wrB l = false) ∨ (kind ≠ 0 ∧ kind ≠ 1 ∧ kind ≠ 2) := by
    unfold mayK at hmy
    by_cases c0 : kind = 0
    · exact .inl ⟨c0, fun h => hmy (.inl ⟨c0, by omega⟩)⟩
    · by_cases c1 : kind = 1
      · refine .inr (.inl ⟨c1, ?_⟩)
        cases hw : wrB l with
        | false => rfl
        | true => exact absurd (.inr ⟨.inl c1, wrB_may.1 hw⟩) hmy
      · by_cases c2 : kind = 2
        · refine .inr (.inr (.inl ⟨c2, ?_⟩))
          cases hw : wrB l with
          | false => rfl
          | true => exact absurd (.inr ⟨.inr c2, wrB_may.1 hw⟩) hmy
        · exact .inr (.inr (.inr ⟨c0, c1, c2⟩))
  clear hv hu hmy hml
  rcases h3 with ⟨rfl, h⟩ | ⟨rfl, h⟩ | ⟨rfl, h⟩ | ⟨h0, h1, h2⟩
  · have hb1 : decide ((m : Int) ≤ 65535) = false := by simp; omega
    go_enter Tryz.func44, Tryz.ntmps44
    go_wp2
    go_ret2
    exact ⟨rfl, Mod.refl _ _⟩
  · rw [h] at HW
    go_enter Tryz.func44, Tryz.ntmps44
    go_wp2_with fail
    with_reducible refine HW.out.mono ?_
    rintro e w1 ⟨rfl, hm⟩
    have HM := hid hm
    clear hm
    go_wp2
    go_ret2
    exact ⟨rfl, HM.out⟩
  · rw [h] at HW
    go_enter Tryz.func44, Tryz.ntmps44
    go_wp2_with fail
    with_reducible refine HW.out.mono ?_
    rintro e w1 ⟨rfl, hm⟩
    have HM := hid hm
    clear hm
    go_wp2
    go_ret2
    exact ⟨rfl, HM.out⟩
  · have b0 : (kind == 0) = false := by simp [h0]
    have b1 : (kind == 1) = false := by simp [h1]
    have b2 : (kind == 2) = false := by simp [h2]
    go_enter Tryz.func44, Tryz.ntmps44
    go_wp2
    go_ret2
    exact ⟨rfl, Mod.refl _ _⟩
end
end Go.Proofs.YtdmnfjicjjlnnaaGreatDoor
/-
  A block written (writeBlock), through the interface.
-/
namespace Go.Proofs.YtdmnfjicjjlnnaaGreatDoor
set_option maxRecDepth 5000
open Go.RowKit
theorem blk_bits (F : Nat → List Tok → List Nat → Nat → List Nat) (kind : Nat) (l : List Tok) (raw acc : List Nat) (last : Bool) : acc ++ bitsOf 1 (if last then 1 else 0) ++ bitsOf 2 kind ++ F kind l raw (acc.length + 3) = acc ++ blkBits F kind l raw last acc.length := by
  unfold blkBits
  have h := bitsOf_join 1 2 (if last then 1 else 0) kind (by cases last <;> decide)
  rw [show 1 + 2 = 3 by rfl, show 2 ^ 1 = 2 by rfl] at h
  rw [h]
  simp
section
variable {w0 w : World} {Rs : List Thing}
set_option maxHeartbeats 3200000 in
theorem writeBlock_any {n m kind : Nat} {Bw : Place} {acc raw : List Nat} {l : List Tok} {S : Thing} {Ts : List Thing} {c : Value} (lo uo : Option Addr) (lc uc : Nat) (last : Bool) (hc : ContIs kind l (.slice lo n lc) (.slice uo m uc) c Ts) (h : Held w0 w (wrT Bw acc :: S :: (Ts ++ Rs))) (hr : Reads w0 S 3 (.slice lo n lc) n (toksV l)) (hu : Reads w0 S 1 (.slice uo m uc) m (u8s raw)) (hmy : mayK kind l raw) (hb : byteOK l) (hrb : ∀ b ∈ raw, b < 256) (hacc : acc.length < 900000000) :
    Calls Tryz.prog 45 #[.pointer (some ⟨Bw.b, Bw.o, none⟩), .int .i64 (kind : Int), c, .bool last] w fun e w' => e = .returned (.tuple #[]) ∧ Held w0 w' (wrT Bw (acc ++ blkBits (blkF lensF) kind l raw last acc.length) :: S :: (Ts ++ Rs)) := by
  have hk3 : kind < 3 := by rcases hc with ⟨h, _⟩ | ⟨h, _⟩ | ⟨h, _⟩ <;> omega
  have hE := blk_bits (blkF lensF) kind l raw acc last
  have hml : m = raw.length := by have := (hu.rd h.swap).1; rw [u8s_length] at this; omega
  have hnl := (hr.rd h.swap).toks_len
  have hw : IntKind.u32.wrap (kind : Int) = (kind : Int) := u32_of _ (by omega)
  have hk0 : (0 : Int) ≤ (kind : Int) := Int.natCast_nonneg _
  have HM := hid (And.intro hmy (And.intro hb hrb))
  have hfor : ∀ t ∈ l, kind ≠ 0 → soundB t = true := fun t ht h0 => by
    rcases hmy with ⟨h, _⟩ | ⟨_, h, _⟩
    · omega
    · exact h t ht
  have hl20 : kind ≠ 0 → l.length < 1048576 := fun h0 => by
    rcases hmy with ⟨h, _⟩ | ⟨_, _, h⟩
    · omega
    · exact h
  have hm16 : kind = 0 → m ≤ 65535 := fun h0 => by
    rcases hmy with ⟨_, h⟩ | ⟨h, _⟩
    · omega
    · omega
  obtain ⟨mk, hmk⟩ : ∃ mk : Nat, mk = if last then 1 else 0 := ⟨_, rfl⟩
  rw [← hmk] at hE
  have hmk1 : mk ≤ 1 := by rw [hmk]; cases last <;> decide
  have HP1 := hid (h_put h mk 1 (by omega) (by omega) (by omega))
  rw [show ((1 : Nat) : Int) = 1 from rfl] at HP1
  have HP2 := hid (fun (w2 : World) (h2 : Held w0 w2 (wrT Bw (acc ++ bitsOf 1 mk) :: S :: (Ts ++ Rs))) => h_put h2 kind 2 (by omega) (by omega) (by rw [List.length_append, bitsOf_length]; omega))
  rw [show ((2 : Nat) : Int) = 2 from rfl] at HP2
  have hal : (acc ++ bitsOf 1 mk ++ bitsOf 2 kind).length = acc.length + 3 := by simp only [List.length_append, bitsOf_length]
  have HW : Hid (∀ w3 : World, Held w0 w3 (wrT Bw (acc ++ bitsOf 1 mk ++ bitsOf 2 kind) :: S :: (Ts ++ Rs)) → (kind = 0 → Calls Tryz.prog 148 #[.slice uo m uc, .pointer (some ⟨Bw.b, Bw.o, none⟩)] w3 fun e w' => e = .returned (.tuple #[]) ∧ Held w0 w' (wrT Bw (acc ++ blkBits (blkF lensF) kind l raw last acc.length) :: S :: (Ts ++ Rs))) ∧
      (∀ B1 B2, kind = 1 → Ts = [tabT fixLit B1, tabT fixDist B2] → Calls Tryz.prog 152 #[codV (.slice lo n lc) B1 B2 (toksB fixLit fixDist l).length, .pointer (some ⟨Bw.b, Bw.o, none⟩)] w3 fun e w' => e = .returned (.tuple #[]) ∧ Held w0 w' (wrT Bw (acc ++ blkBits (blkF lensF) kind l raw last acc.length) :: S :: (Ts ++ Rs))) ∧
      (∀ Bh Bt B1 B2 iv hv, kind = 2 → Ts = dynTs l Bh Bt B1 B2 iv hv → Calls Tryz.prog 160 #[dynV Bh (.slice lo n lc) B1 B2 (toksB (litC lensF l) (dstL lensF l) l).length, .pointer (some ⟨Bw.b, Bw.o, none⟩)] w3 fun e w' => e = .returned (.tuple #[]) ∧ Held w0 w' (wrT Bw (acc ++ blkBits (blkF lensF) kind l raw last acc.length) :: S :: (Ts ++ Rs)))) := by
    refine hid fun w3 h3 => ⟨fun h0 => ?_, fun B1 B2 h1 hT => ?_, fun Bh Bt B1 B2 iv hv h2 hT => ?_⟩
    · have g := stored_write uo uc h3 hu hrb (hm16 h0) (by omega)
      rw [hal] at g
      subst h0
      rw [show storedBits (acc.length + 3) raw = blkF lensF 0 l raw (acc.length + 3) from rfl, hE] at g
      exact g
    · subst hT
      have g := cwrite_any (bits := (toksB fixLit fixDist l).length) (.slice lo n lc) l (h3.perm (List.Perm.cons _ ((List.perm_append_comm (l₁ := [_]) (l₂ := [_, _])).append_right Rs))) hr (fine_of fix_check.1) (fine_of fix_check.2) (fun t ht => hfor t ht (by omega)) hb (covers_fix (fun t ht => hfor t ht (by omega)) hb) (by have := hl20 (by omega); omega) (by omega)
      subst h1
      rw [show toksB fixLit fixDist l = blkF lensF 1 l raw (acc.length + 3) from rfl, hE] at g
      exact g.mono fun _ _ ⟨e1, e2⟩ => ⟨e1, e2.perm (List.Perm.cons _ ((List.perm_append_comm (l₁ := [_, _]) (l₂ := [_])).append_right Rs))⟩
    · subst hT
      have g := dyn_write (bits := (toksB (litC lensF l) (dstL lensF l) l).length) lo lc Bh Bt B1 B2 iv hv h3 hr (fun t ht => hfor t ht (by omega)) hb (by have := hl20 (by omega); omega) (by omega)
      subst h2
      rw [show blkF lensF 2 l [] 0 = blkF lensF 2 l raw (acc.length + 3) from rfl, hE] at g
      exact g
  clear hE hml hnl HM hfor hl20 hm16 hmy hb hrb hr hu h hal
  rcases hc with ⟨hk, rfl, hT⟩ | ⟨hk, B1, B2, rfl, hT⟩ | ⟨hk, Bh, Bt, B1, B2, iv, hv, rfl, hT⟩
  · cases last
    · -- last: False
      simp only [Bool.false_eq_true, if_false] at hmk
      subst hmk
      have HK := hid hk
      clear hk
      rw [show ((0 : Nat) : Int) = 0 from rfl] at HP1
      go_enter Tryz.func45, Tryz.ntmps45
      go_wp2_with fail
      with_reducible refine HP1.out.mono ?_
      rintro e w2 ⟨rfl, h2⟩
      have HP := hid (HP2.out w2 h2)
      clear h2 HP1 HP2
      go_wp2_with fail
      with_reducible refine HP.out.mono ?_
      rintro e w3 ⟨rfl, h3⟩
      have HX := hid ((HW.out w3 h3).1 HK.out)
      clear h3 HP HW
      go_wp2_with fail
      with_reducible refine HX.out.mono ?_
      rintro e w4 ⟨rfl, h4⟩
      have H9 := hid h4
      clear h4 HX
      go_wp2
      go_end0
      exact ⟨rfl, H9.out⟩
    · -- last: True
      simp only [if_true] at hmk
      subst hmk
      have HK := hid hk
      clear hk
      rw [show ((1 : Nat) : Int) = 1 from rfl] at HP1
      go_enter Tryz.func45, Tryz.ntmps45
      go_wp2_with fail
      with_reducible refine HP1.out.mono ?_
      rintro e w2 ⟨rfl, h2⟩
      have HP := hid (HP2.out w2 h2)
      clear h2 HP1 HP2
      go_wp2_with fail
      with_reducible refine HP.out.mono ?_
      rintro e w3 ⟨rfl, h3⟩
      have HX := hid ((HW.out w3 h3).1 HK.out)
      clear h3 HP HW
      go_wp2_with fail
      with_reducible refine HX.out.mono ?_
      rintro e w4 ⟨rfl, h4⟩
      have H9 := hid h4
      clear h4 HX
      go_wp2
      go_end0
      exact ⟨rfl, H9.out⟩
  · cases last
    · -- last: False
      simp only [Bool.false_eq_true, if_false] at hmk
      subst hmk
      have HK := hid hk
      clear hk
      rw [show ((0 : Nat) : Int) = 0 from rfl] at HP1
      unfold codV
      go_enter Tryz.func45, Tryz.ntmps45
      go_wp2_with fail
      with_reducible refine HP1.out.mono ?_
      rintro e w2 ⟨rfl, h2⟩
      have HP := hid (HP2.out w2 h2)
      clear h2 HP1 HP2
      go_wp2_with fail
      with_reducible refine HP.out.mono ?_
      rintro e w3 ⟨rfl, h3⟩
      have HX := hid ((HW.out w3 h3).2.1 B1 B2 HK.out hT)
      unfold codV at HX
      clear h3 HP HW
      go_wp2_with fail
      with_reducible refine HX.out.mono ?_
      rintro e w4 ⟨rfl, h4⟩
      have H9 := hid h4
      clear h4 HX
      go_wp2
      go_end0
      exact ⟨rfl, H9.out⟩
    · -- last: True
      simp only [if_true] at hmk
      subst hmk
      have HK := hid hk
      clear hk
      rw [show ((1 : Nat) : Int) = 1 from rfl] at HP1
      unfold codV
      go_enter Tryz.func45, Tryz.ntmps45
      go_wp2_with fail
      with_reducible refine HP1.out.mono ?_
      rintro e w2 ⟨rfl, h2⟩
      have HP := hid (HP2.out w2 h2)
      clear h2 HP1 HP2
      go_wp2_with fail
      with_reducible refine HP.out.mono ?_
      rintro e w3 ⟨rfl, h3⟩
      have HX := hid ((HW.out w3 h3).2.1 B1 B2 HK.out hT)
      unfold codV at HX
      clear h3 HP HW
      go_wp2_with fail
      with_reducible refine HX.out.mono ?_
      rintro e w4 ⟨rfl, h4⟩
      have H9 := hid h4
      clear h4 HX
      go_wp2
      go_end0
      exact ⟨rfl, H9.out⟩
  · cases last
    · -- last: False
      simp only [Bool.false_eq_true, if_false] at hmk
      subst hmk
      have HK := hid hk
      clear hk
      rw [show ((0 : Nat) : Int) = 0 from rfl] at HP1
      unfold dynV
      go_enter Tryz.func45, Tryz.ntmps45
      go_wp2_with fail
      with_reducible refine HP1.out.mono ?_
      rintro e w2 ⟨rfl, h2⟩
      have HP := hid (HP2.out w2 h2)
      clear h2 HP1 HP2
      go_wp2_with fail
      with_reducible refine HP.out.mono ?_
      rintro e w3 ⟨rfl, h3⟩
      have HX := hid ((HW.out w3 h3).2.2 Bh Bt B1 B2 iv hv HK.out hT)
      unfold dynV at HX
      clear h3 HP HW
      go_wp2_with fail
      with_reducible refine HX.out.mono ?_
      rintro e w4 ⟨rfl, h4⟩
      have H9 := hid h4
      clear h4 HX
      go_wp2
      go_end0
      exact ⟨rfl, H9.out⟩
    · -- last: True
      simp only [if_true] at hmk
      subst hmk
      have HK := hid hk
      clear hk
      rw [show ((1 : Nat) : Int) = 1 from rfl] at HP1
      unfold dynV
      go_enter Tryz.func45, Tryz.ntmps45
      go_wp2_with fail
      with_reducible refine HP1.out.mono ?_
      rintro e w2 ⟨rfl, h2⟩
      have HP := hid (HP2.out w2 h2)
      clear h2 HP1 HP2
      go_wp2_with fail
      with_reducible refine HP.out.mono ?_
      rintro e w3 ⟨rfl, h3⟩
      have HX := hid ((HW.out w3 h3).2.2 Bh Bt B1 B2 iv hv HK.out hT)
      unfold dynV at HX
      clear h3 HP HW
      go_wp2_with fail
      with_reducible refine HX.out.mono ?_
      rintro e w4 ⟨rfl, h4⟩
      have H9 := hid h4
      clear h4 HX
      go_wp2
      go_end0
      exact ⟨rfl, H9.out⟩
end
end Go.Proofs.YtdmnfjicjjlnnaaGreatDoor
/-
  The program keeps what a writer of blocks is to do: WriteKind, Cost, Write (BlockOK).
-/
namespace Go.Proofs.YtdmnfjicjjlnnaaGreatDoor
set_option maxRecDepth 5000
open Go.RowKit
def sizeK (kind : Nat) (l : List Tok) (raw : List Nat) : Nat := (blkF lensF kind l raw 3).length
theorem sizeK_zero (l : List Tok) (raw : List Nat) : sizeK 0 l raw = 37 + 8 * raw.length := by
  show (storedBits 3 raw).length = _
  rw [storedBits_length]
  have : evenF 3 = 8 := by decide
  omega
theorem sizeK_le {kind : Nat} {l : List Tok} {raw : List Nat} (hm : mayK kind l raw) : sizeK kind l raw < 1000000 + 100 * 1048576 := by
  rcases hm with ⟨h, h2⟩ | ⟨h, h2, h3⟩
  · have := blkF_short lensF_LensOK kind [] raw 3 (.inl ⟨by omega, h2⟩)
    have e : sizeK kind l raw = (blkF lensF kind [] raw 3).length := by
      have h0 : kind = 0 := by omega
      subst h0; rfl
    rw [e]
    simp at this
    omega
  · have := blkF_short lensF_LensOK kind l raw 3 (.inr ⟨by omega, h2⟩)
    unfold sizeK
    omega
section
variable {w0 w : World} {Rs : List Thing}
theorem Held.dropAll : ∀ {Ts : List Thing}, Held w0 w (Ts ++ Rs) → Held w0 w Rs
  | [], h => h
  | _ :: _, h => Held.dropAll (Held.drop h)
structure Sizes (kind : Nat) (l : List Tok) (raw : List Nat) (lo uo : Option Addr) (n lc m uc : Nat) (Ts : List Thing) (w1 : World) : Prop where
  s0 : kind = 0 → Calls Tryz.prog 147 #[.slice uo m uc] w1 fun e w' => e = .returned (.int .i64 (sizeK kind l raw : Int)) ∧ Mod w1 w' (fun _ => False)
  s1 : ∀ B1 B2, kind = 1 → Calls Tryz.prog 151 #[codV (.slice lo n lc) B1 B2 (toksB fixLit fixDist l).length] w1 fun e w' => e = .returned (.int .i64 (sizeK kind l raw : Int)) ∧ Mod w1 w' (fun _ => False)
  s2 : ∀ Bh Bt B1 B2 iv hv, kind = 2 → Ts = dynTs l Bh Bt B1 B2 iv hv → Calls Tryz.prog 159 #[dynV Bh (.slice lo n lc) B1 B2 (toksB (litC lensF l) (dstL lensF l) l).length] w1 fun e w' => e = .returned (.int .i64 (sizeK kind l raw : Int)) ∧ Mod w1 w' (fun _ => False)
theorem sizes_of {kind : Nat} {l : List Tok} {raw : List Nat} {Ts : List Thing} {w1 : World} (lo uo : Option Addr) (n lc m uc : Nat) (hm : m = raw.length) (hmy : mayK kind l raw) (h : Held w0 w1 (Ts ++ Rs)) : Sizes kind l raw lo uo n lc m uc Ts w1 := by
  have hsz := sizeK_le hmy
  refine ⟨fun hk => ?_, fun B1 B2 hk => ?_, fun Bh Bt B1 B2 iv hv hk hT => ?_⟩
  · subst hk
    have h16 : m ≤ 65535 := by
      rcases hmy with ⟨_, h2⟩ | ⟨h2, _⟩
      · omega
      · omega
    refine (stored_size (w := w1) uo m uc (by omega)).mono fun e w' ⟨h1, h2⟩ => ⟨?_, by rw [h2]; exact Mod.refl _ _⟩
    rw [h1, sizeK_zero, hm]
  · subst hk
    exact coded_size lo n lc B1 B2 _
  · subst hT
    subst hk
    have hc : w1.cell? ⟨Bh, 5, none⟩ = some (.int .i64 ((headB (litC lensF l) (dstL lensF l) (headC lensF (itemsOf (litC lensF l) (dstL lensF l))) (itemsOf (litC lensF l) (dstL lensF l))).length : Int)) := h.drop.drop.obj.cell (i := 5) rfl
    have e : sizeK 2 l raw = (headB (litC lensF l) (dstL lensF l) (headC lensF (itemsOf (litC lensF l) (dstL lensF l))) (itemsOf (litC lensF l) (dstL lensF l))).length + (toksB (litC lensF l) (dstL lensF l) l).length := by
      show (headB _ _ _ _ ++ toksB _ _ _).length = _
      rw [List.length_append]
    rw [e] at hsz ⊢
    exact dyn_size lo n lc Bh B1 B2 _ _ hc (by omega) (by omega)
theorem costK_may {kind : Nat} {l : List Tok} {raw : List Nat} (hm : mayK kind l raw) : costK (blkF lensF) kind l raw = ((3 + sizeK kind l raw : Nat) : Int) := by
  unfold costK
  rw [if_pos hm]; rfl
theorem costK_not {kind : Int} {l : List Tok} {raw : List Nat} (hm : ¬ mayK kind l raw) : costK (blkF lensF) kind l raw = -1 := by
  unfold costK
  rw [if_neg hm]
set_option maxHeartbeats 3200000 in
theorem write_blk (kind : Nat) (l : List Tok) (raw acc : List Nat) (last : Bool) (v u : Value) (n m : Nat) (B : Place) (S : Thing) (hO : Ordr w0) (h : Held w0 w (wrT B acc :: S :: Rs)) (hv : Reads w0 S 3 v n (toksV l)) (hu : Reads w0 S 1 u m (u8s raw)) (hb : byteOK l) (hr : ∀ b ∈ raw, b < 256) (hn : n < 1000000000) (hacc : acc.length < 900000000) (hmy : mayK kind l raw) :
    Calls Tryz.prog 27 #[.pointer (some ⟨B.b, B.o, none⟩), .int .i64 (kind : Int), v, u, .bool last] w fun e w' => e = .returned (.bool true) ∧ Held w0 w' (wrT B (acc ++ blkBits (blkF lensF) kind l raw last acc.length) :: S :: Rs) := by
  have hvr := hv.rd h.swap
  have hur := hu.rd h.swap
  obtain ⟨lo, lc, rfl, _, _⟩ := hvr.form
  obtain ⟨uo, uc, rfl, _, _⟩ := hur.form
  have HC := hid (contents_may kind lo uo n lc m uc l raw hvr hur (hO.kept h.mod) hb hn hmy)
  have HH := hid (And.intro h (And.intro hv (And.intro hu (And.intro hb (And.intro hr hmy)))))
  clear hvr hur h hv hu hO hb hr hmy
  go_enter Tryz.func27, Tryz.ntmps27
  go_wp2_with fail
  with_reducible refine HC.out.mono ?_
  rintro e w1 ⟨c, Ts, rfl, hc, hh⟩
  have h1 : Held w0 w1 (wrT B acc :: S :: (Ts ++ Rs)) := (HH.out.1.frame hh).perm (by
    have h2 := (List.perm_append_comm (l₁ := Ts) (l₂ := [wrT B acc, S])).append_right Rs
    simpa using h2)
  have HW := hid (writeBlock_any lo uo lc uc last hc h1 HH.out.2.1 HH.out.2.2.1 HH.out.2.2.2.2.2 HH.out.2.2.2.1 HH.out.2.2.2.2.1 hacc)
  clear hc hh h1 HC
  go_wp2_with fail
  with_reducible refine HW.out.mono ?_
  rintro e w2 ⟨rfl, h2⟩
  have H2 : Hid (Held w0 w2 (wrT B (acc ++ blkBits (blkF lensF) kind l raw last acc.length) :: S :: Rs)) := by
    have h3 : Held w0 w2 (Ts ++ (wrT B (acc ++ blkBits (blkF lensF) kind l raw last acc.length) :: S :: Rs)) := h2.perm (by
      have h4 := (List.perm_append_comm (l₁ := [wrT B (acc ++ blkBits (blkF lensF) kind l raw last acc.length), S]) (l₂ := Ts)).append_right Rs
      simpa using h4)
    exact hid h3.dropAll
  clear h2 HW
  go_wp2
  go_ret
  exact ⟨rfl, H2.out⟩
end
end Go.Proofs.YtdmnfjicjjlnnaaGreatDoor
/-
  The program's Write chooses the kind of the lowest cost; the landed package keeps BlockOK.
-/
namespace Go.Proofs.YtdmnfjicjjlnnaaGreatDoor
set_option maxRecDepth 5000
open Go.RowKit
def bestUp (l : List Tok) (raw : List Nat) : Nat → Int × Int
  | 0 => (-1, 0)
  | i + 1 => bestStep (bestUp l raw i) i (costK (blkF lensF) i l raw)
theorem bestUp_three (l : List Tok) (raw : List Nat) : bestUp l raw 3 = bestK (blkF lensF) l raw := rfl
theorem bestUp_not {l : List Tok} {raw : List Nat} {i : Nat} (h : ¬ mayK i l raw) : bestUp l raw (i + 1) = bestUp l raw i := by
  rw [bestUp, costK_not h, bestStep, if_neg (by omega)]
theorem bestUp_first {l : List Tok} {raw : List Nat} {i : Nat} (h : mayK i l raw) (hb : (bestUp l raw i).1 < 0) : bestUp l raw (i + 1) = ((i : Int), ((3 + sizeK i l raw : Nat) : Int)) := by
  rw [bestUp, costK_may h, bestStep, if_pos ⟨by omega, .inl hb⟩]
theorem bestUp_less {l : List Tok} {raw : List Nat} {i k : Nat} (h : mayK i l raw) (hb : (bestUp l raw i).2 = ((3 + sizeK k l raw : Nat) : Int)) (hl : sizeK i l raw < sizeK k l raw) : bestUp l raw (i + 1) = ((i : Int), ((3 + sizeK i l raw : Nat) : Int)) := by
  rw [bestUp, costK_may h, bestStep, if_pos ⟨by omega, .inr (by rw [hb]; omega)⟩]
theorem bestUp_more {l : List Tok} {raw : List Nat} {i k : Nat} (h : mayK i l raw) (h1 : (bestUp l raw i).1 = (k : Int)) (hb : (bestUp l raw i).2 = ((3 + sizeK k l raw : Nat) : Int)) (hl : ¬ sizeK i l raw < sizeK k l raw) : bestUp l raw (i + 1) = bestUp l raw i := by
  rw [bestUp, costK_may h, bestStep, if_neg]
  rintro ⟨_, h2 | h2⟩
  · omega
  · rw [hb] at h2; omega
section
variable {w0 w : World} {Rs : List Thing}
def FoundIs (w0 : World) (B : Place) (acc : List Nat) (S : Thing) (Rs : List Thing) (l : List Tok) (raw : List Nat) (lv uv : Value) (i : Nat) (c : Value) (wr : World) : Prop :=
  ((bestUp l raw i).1 < 0 ∧ c = .nilIface ∧ Held w0 wr (wrT B acc :: S :: Rs)) ∨
  ∃ (k : Nat) (Ts : List Thing), k < i ∧ (bestUp l raw i).1 = (k : Int) ∧ (bestUp l raw i).2 = ((3 + sizeK k l raw : Nat) : Int) ∧ mayK k l raw ∧ ContIs k l lv uv c Ts ∧ Held w0 wr (Ts ++ (wrT B acc :: S :: Rs))
set_option maxHeartbeats 6400000 in
theorem best_blk (l : List Tok) (raw acc : List Nat) (last : Bool) (v u : Value) (n m : Nat) (B : Place) (S : Thing) (hO : Ordr w0) (h : Held w0 w (wrT B acc :: S :: Rs)) (hv : Reads w0 S 3 v n (toksV l)) (hu : Reads w0 S 1 u m (u8s raw)) (hb : byteOK l) (hr : ∀ b ∈ raw, b < 256) (hn : n < 1000000000) (hacc : acc.length < 900000000) :
    Calls Tryz.prog 43 #[.pointer (some ⟨B.b, B.o, none⟩), v, u, .bool last] w fun e w' => e = .returned (.int .i64 (bestK (blkF lensF) l raw).1) ∧ Held w0 w' (wrT B (if (bestK (blkF lensF) l raw).1 < 0 then acc else acc ++ blkBits (blkF lensF) (bestK (blkF lensF) l raw).1.toNat l raw last acc.length) :: S :: Rs) := by
  have hvr := hv.rd h.swap
  have hur := hu.rd h.swap
  obtain ⟨lo, lc, rfl, _, _⟩ := hvr.form
  obtain ⟨uo, uc, rfl, _, _⟩ := hur.form
  have hml : m = raw.length := by have := hur.1; rw [u8s_length] at this; omega
  have HP := hid (And.intro hv (And.intro hu (And.intro hO (And.intro hb (And.intro hr hml)))))
  have H0 := hid h
  rw [← bestUp_three]
  obtain ⟨out, hout⟩ : ∃ out, out = if (bestUp l raw 3).1 < 0 then acc else acc ++ blkBits (blkF lensF) (bestUp l raw 3).1.toNat l raw last acc.length := ⟨_, rfl⟩
  rw [← hout]
  have HOUT := hid hout
  clear hout
  clear hvr hur h hv hu hO hb hr hml
  go_enter Tryz.func43, Tryz.ntmps43
  go_wp2
  go_loopg [9, 10, 11] 4 (fun k t9 t10 t11 wr => ∃ (i : Nat) (c0 : Value), i ≤ 3 ∧ 3 - i < k ∧ t11 = .int .i64 (i : Int) ∧ t9 = .int .i64 (bestUp l raw i).1 ∧ t10 = c0 ∧ Hid (FoundIs w0 B acc S Rs l raw (.slice lo n lc) (.slice uo m uc) i c0 wr))
  case atStart => exact ⟨0, _, by omega, by omega, rfl, rfl, rfl, hid (.inl ⟨by show ((-1 : Int) < 0); decide, rfl, H0.out⟩)⟩
  case round =>
    obtain ⟨i, c0, hi, hk, rfl, rfl, hc0, HF⟩ := hrel
    obtain rfl := hc0.symm
    have hi0 : (0 : Int) ≤ (i : Int) := Int.natCast_nonneg _
    obtain ⟨b1, hb1⟩ : ∃ b1, b1 = (bestUp l raw i).1 := ⟨_, rfl⟩
    have hall : ∃ Q : List Thing, Held w0 wr (Q ++ (wrT B acc :: S :: Rs)) := by
      rcases HF.out with ⟨_, _, h⟩ | ⟨_, Ts, _, _, _, _, _, h⟩
      · exact ⟨[], h⟩
      · exact ⟨Ts, h⟩
    obtain ⟨Q, hQ⟩ := hall
    have hW := hQ.dropAll
    have hvr := HP.out.1.rd hW.swap
    have hur := HP.out.2.1.rd hW.swap
    by_cases hin : i < 3
    · have hiI : (i : Int) ≤ 2 := by omega
      by_cases hmy : mayK i l raw
      · have HC := hid (contents_may i lo uo n lc m uc l raw hvr hur (HP.out.2.2.1.kept hW.mod) HP.out.2.2.2.1 hn hmy)
        have HM := hid hmy
        have HB1 := hid hb1
        rw [← hb1]
        clear hmy hvr hur hW hQ hb1
        by_cases hneg : b1 < 0
        · have hd1 : decide (b1 < 0) = true := by simp; omega
          have hN : Hid (bestUp l raw (i + 1) = ((i : Int), ((3 + sizeK i l raw : Nat) : Int))) := hid (bestUp_first HM.out (by rw [← HB1.out]; exact hneg))
          have hT : Hid (Held w0 wr (wrT B acc :: S :: Rs)) := by
            rcases HF.out with ⟨_, _, h⟩ | ⟨k, _, _, h1, _⟩
            · exact hid h
            · have := HB1.out
              omega
          go_wp2_with fail
          with_reducible refine HC.out.mono ?_
          rintro e w1 ⟨c, Ts, rfl, hc, hh⟩
          have H1 := hid (hT.out.frame hh)
          have HCC := hid hc
          clear hh hc HC hT
          go_wp2
          go_roundg (gk - 1)
          case measure => omega
          case rel => exact ⟨i + 1, _, by omega, by omega, by go_num, by rw [hN.out], rfl, hid (.inr ⟨i, Ts, by omega, by rw [hN.out], by rw [hN.out], HM.out, HCC.out, H1.out⟩)⟩
        · have hd1 : decide (b1 < 0) = false := by simp; omega
          rcases HF.out with ⟨h1, _, _⟩ | ⟨k, Tk, hki, hk1, hk2, hkm, hf, hT⟩
          · have := HB1.out
            omega
          · have HK := hid (And.intro hk1 (And.intro hk2 (And.intro hkm hf)))
            have HT := hid hT
            have hsi := sizeK_le HM.out
            have hsk := sizeK_le hkm
            obtain ⟨x, hx⟩ : ∃ x, x = sizeK i l raw := ⟨_, rfl⟩
            obtain ⟨y, hy⟩ : ∃ y, y = sizeK k l raw := ⟨_, rfl⟩
            rw [← hx] at hsi
            rw [← hy] at hsk
            have HXY := hid (And.intro hx hy)
            have hkv : k = 0 ∨ k = 1 := by omega
            clear hk1 hk2 hkm hT hx hy hneg HF
            rcases hf with ⟨hcf, rfl, hTf⟩ | ⟨hcf, C1, C2, rfl, hTf⟩ | ⟨hcf, _⟩
            · have HCF := hid hcf
              clear hcf
              go_wp2_with fail
              with_reducible refine HC.out.mono ?_
              rintro e w1 ⟨c, Ti, rfl, hc, hh⟩
              have H1 := hid (HT.out.frame hh)
              have HCC := hid hc
              have HS1 := hid (sizes_of (w0 := wr) (Rs := []) lo uo n lc m uc HP.out.2.2.2.2.2 HM.out (by rw [List.append_nil]; exact hh))
              clear hh HC
              rcases hc with ⟨hci, rfl, hTi⟩ | ⟨hci, B1, B2, rfl, hTi⟩ | ⟨hci, Bh, Bt, B1, B2, iv, hv, rfl, hTi⟩
              · have := HCF.out
                omega
              · have HX1 := hid (HS1.out.s1 B1 B2 hci)
                rw [← HXY.out.1] at HX1
                unfold codV at HX1 ⊢
                clear HS1 hci
                go_wp2_with fail
                with_reducible refine HX1.out.mono ?_
                rintro e w2 ⟨rfl, hm⟩
                have H2 := hid (H1.out.same hm)
                have HS2 := hid (sizes_of (w0 := w0) (Rs := wrT B acc :: S :: Rs) lo uo n lc m uc HP.out.2.2.2.2.2 HK.out.2.2.1 H2.out.dropAll)
                have HX2 := hid (HS2.out.s0 HCF.out)
                rw [← HXY.out.2] at HX2
                clear hm HX1 H1 HS2
                go_wp2_with fail
                with_reducible refine HX2.out.mono ?_
                rintro e w3 ⟨rfl, hm⟩
                have H3 := hid (H2.out.same hm)
                clear hm HX2 H2
                by_cases hxy : x < y
                · have hxyI : decide ((x : Int) < (y : Int)) = true := by simp; omega
                  have hN : Hid (bestUp l raw (i + 1) = ((i : Int), ((3 + sizeK i l raw : Nat) : Int))) := hid (bestUp_less HM.out HK.out.2.1 (by rw [← HXY.out.1, ← HXY.out.2]; exact hxy))
                  have HNT : Hid (Held w0 w3 (Ti ++ (wrT B acc :: S :: Rs))) := by
                    have h4 : Held w0 w3 (Tk ++ (Ti ++ (wrT B acc :: S :: Rs))) := H3.out.perm (by
                      have h5 := (List.perm_append_comm (l₁ := Ti) (l₂ := Tk)).append_right (wrT B acc :: S :: Rs)
                      simpa using h5)
                    exact hid h4.dropAll
                  go_wp2
                  go_roundg (gk - 1)
                  case measure => omega
                  case rel => exact ⟨i + 1, _, by omega, by omega, by go_num, by rw [hN.out], rfl, hid (.inr ⟨i, Ti, by omega, by rw [hN.out], by rw [hN.out], HM.out, HCC.out, HNT.out⟩)⟩
                · have hxyI : decide ((x : Int) < (y : Int)) = false := by simp; omega
                  have hN : Hid (bestUp l raw (i + 1) = bestUp l raw i) := hid (bestUp_more HM.out HK.out.1 HK.out.2.1 (by rw [← HXY.out.1, ← HXY.out.2]; exact hxy))
                  go_wp2
                  go_roundg (gk - 1)
                  case measure => omega
                  case rel => exact ⟨i + 1, _, by omega, by omega, by go_num, by rw [hN.out, ← HB1.out], rfl, hid (.inr ⟨k, Tk, by omega, by rw [hN.out]; exact HK.out.1, by rw [hN.out]; exact HK.out.2.1, HK.out.2.2.1, HK.out.2.2.2, H3.out.dropAll⟩)⟩
              · have HX1 := hid (HS1.out.s2 Bh Bt B1 B2 iv hv hci hTi)
                rw [← HXY.out.1] at HX1
                unfold dynV at HX1 ⊢
                clear HS1 hci
                go_wp2_with fail
                with_reducible refine HX1.out.mono ?_
                rintro e w2 ⟨rfl, hm⟩
                have H2 := hid (H1.out.same hm)
                have HS2 := hid (sizes_of (w0 := w0) (Rs := wrT B acc :: S :: Rs) lo uo n lc m uc HP.out.2.2.2.2.2 HK.out.2.2.1 H2.out.dropAll)
                have HX2 := hid (HS2.out.s0 HCF.out)
                rw [← HXY.out.2] at HX2
                clear hm HX1 H1 HS2
                go_wp2_with fail
                with_reducible refine HX2.out.mono ?_
                rintro e w3 ⟨rfl, hm⟩
                have H3 := hid (H2.out.same hm)
                clear hm HX2 H2
                by_cases hxy : x < y
                · have hxyI : decide ((x : Int) < (y : Int)) = true := by simp; omega
                  have hN : Hid (bestUp l raw (i + 1) = ((i : Int), ((3 + sizeK i l raw : Nat) : Int))) := hid (bestUp_less HM.out HK.out.2.1 (by rw [← HXY.out.1, ← HXY.out.2]; exact hxy))
                  have HNT : Hid (Held w0 w3 (Ti ++ (wrT B acc :: S :: Rs))) := by
                    have h4 : Held w0 w3 (Tk ++ (Ti ++ (wrT B acc :: S :: Rs))) := H3.out.perm (by
                      have h5 := (List.perm_append_comm (l₁ := Ti) (l₂ := Tk)).append_right (wrT B acc :: S :: Rs)
                      simpa using h5)
                    exact hid h4.dropAll
                  go_wp2
                  go_roundg (gk - 1)
                  case measure => omega
                  case rel => exact ⟨i + 1, _, by omega, by omega, by go_num, by rw [hN.out], rfl, hid (.inr ⟨i, Ti, by omega, by rw [hN.out], by rw [hN.out], HM.out, HCC.out, HNT.out⟩)⟩
                · have hxyI : decide ((x : Int) < (y : Int)) = false := by simp; omega
                  have hN : Hid (bestUp l raw (i + 1) = bestUp l raw i) := hid (bestUp_more HM.out HK.out.1 HK.out.2.1 (by rw [← HXY.out.1, ← HXY.out.2]; exact hxy))
                  go_wp2
                  go_roundg (gk - 1)
                  case measure => omega
                  case rel => exact ⟨i + 1, _, by omega, by omega, by go_num, by rw [hN.out, ← HB1.out], rfl, hid (.inr ⟨k, Tk, by omega, by rw [hN.out]; exact HK.out.1, by rw [hN.out]; exact HK.out.2.1, HK.out.2.2.1, HK.out.2.2.2, H3.out.dropAll⟩)⟩
            · have HCF := hid hcf
              clear hcf
              unfold codV
              go_wp2_with fail
              with_reducible refine HC.out.mono ?_
              rintro e w1 ⟨c, Ti, rfl, hc, hh⟩
              have H1 := hid (HT.out.frame hh)
              have HCC := hid hc
              have HS1 := hid (sizes_of (w0 := wr) (Rs := []) lo uo n lc m uc HP.out.2.2.2.2.2 HM.out (by rw [List.append_nil]; exact hh))
              clear hh HC
              rcases hc with ⟨hci, rfl, hTi⟩ | ⟨hci, B1, B2, rfl, hTi⟩ | ⟨hci, Bh, Bt, B1, B2, iv, hv, rfl, hTi⟩
              · have := HCF.out
                omega
              · have := HCF.out
                omega
              · have HX1 := hid (HS1.out.s2 Bh Bt B1 B2 iv hv hci hTi)
                rw [← HXY.out.1] at HX1
                unfold dynV at HX1 ⊢
                clear HS1 hci
                go_wp2_with fail
                with_reducible refine HX1.out.mono ?_
                rintro e w2 ⟨rfl, hm⟩
                have H2 := hid (H1.out.same hm)
                have HS2 := hid (sizes_of (w0 := w0) (Rs := wrT B acc :: S :: Rs) lo uo n lc m uc HP.out.2.2.2.2.2 HK.out.2.2.1 H2.out.dropAll)
                have HX2 := hid (HS2.out.s1 C1 C2 HCF.out)
                rw [← HXY.out.2] at HX2
                unfold codV at HX2
                clear hm HX1 H1 HS2
                go_wp2_with fail
                with_reducible refine HX2.out.mono ?_
                rintro e w3 ⟨rfl, hm⟩
                have H3 := hid (H2.out.same hm)
                clear hm HX2 H2
                by_cases hxy : x < y
                · have hxyI : decide ((x : Int) < (y : Int)) = true := by simp; omega
                  have hN : Hid (bestUp l raw (i + 1) = ((i : Int), ((3 + sizeK i l raw : Nat) : Int))) := hid (bestUp_less HM.out HK.out.2.1 (by rw [← HXY.out.1, ← HXY.out.2]; exact hxy))
                  have HNT : Hid (Held w0 w3 (Ti ++ (wrT B acc :: S :: Rs))) := by
                    have h4 : Held w0 w3 (Tk ++ (Ti ++ (wrT B acc :: S :: Rs))) := H3.out.perm (by
                      have h5 := (List.perm_append_comm (l₁ := Ti) (l₂ := Tk)).append_right (wrT B acc :: S :: Rs)
                      simpa using h5)
                    exact hid h4.dropAll
                  go_wp2
                  go_roundg (gk - 1)
                  case measure => omega
                  case rel => exact ⟨i + 1, _, by omega, by omega, by go_num, by rw [hN.out], rfl, hid (.inr ⟨i, Ti, by omega, by rw [hN.out], by rw [hN.out], HM.out, HCC.out, HNT.out⟩)⟩
                · have hxyI : decide ((x : Int) < (y : Int)) = false := by simp; omega
                  have hN : Hid (bestUp l raw (i + 1) = bestUp l raw i) := hid (bestUp_more HM.out HK.out.1 HK.out.2.1 (by rw [← HXY.out.1, ← HXY.out.2]; exact hxy))
                  go_wp2
                  go_roundg (gk - 1)
                  case measure => omega
                  case rel => exact ⟨i + 1, _, by omega, by omega, by go_num, by rw [hN.out, ← HB1.out], rfl, hid (.inr ⟨k, Tk, by omega, by rw [hN.out]; exact HK.out.1, by rw [hN.out]; exact HK.out.2.1, HK.out.2.2.1, HK.out.2.2.2, H3.out.dropAll⟩)⟩
            · omega
      · have HC := hid (contents_not (i : Int) lo uo n lc m uc l raw hvr hur hn hmy)
        have hN : Hid (bestUp l raw (i + 1) = bestUp l raw i) := hid (bestUp_not hmy)
        rw [← hb1]
        have HB1 := hid hb1
        clear hmy hvr hur hW hQ hb1
        go_wp2_with fail
        with_reducible refine HC.out.mono ?_
        rintro e w1 ⟨rfl, hm⟩
        have HF1 : Hid (FoundIs w0 B acc S Rs l raw (.slice lo n lc) (.slice uo m uc) (i + 1) c0 w1) := by
          unfold FoundIs
          rw [hN.out]
          rcases HF.out with ⟨h1, h2, h3⟩ | ⟨k, Ts, h1, h2, h3, h4, h5, h6⟩
          · exact hid (.inl ⟨h1, h2, h3.same hm⟩)
          · exact hid (.inr ⟨k, Ts, by omega, h2, h3, h4, h5, h6.same hm⟩)
        clear hm HC
        go_wp2
        go_roundg (gk - 1)
        case measure => omega
        case rel => exact ⟨i + 1, _, by omega, by omega, by go_num, by rw [hN.out, ← HB1.out], rfl, HF1⟩
    · have hiI : ¬ (i : Int) ≤ 2 := by omega
      have hi3 : i = 3 := by omega
      subst hi3
      rw [← hb1]
      have HB1 := hid hb1
      rcases HF.out with ⟨h1, h2, h3⟩ | ⟨k, Ts, h1, h2, h3, h4, h5, h6⟩
      · have hd1 : decide ((0 : Int) ≤ b1) = false := by simp; omega
        have H3 := hid h3
        have hE : Hid (b1 < 0) := hid (by omega)
        clear h1 h2 h3 hvr hur hW hQ HF hb1
        go_wp2
        go_ret
        rw [← HB1.out]
        refine ⟨rfl, ?_⟩
        rw [HOUT.out, ← HB1.out, if_pos hE.out]
        exact H3.out
      · have hkb : b1 = (k : Int) := hb1.trans h2
        subst hkb
        have hd1 : decide ((0 : Int) ≤ (k : Int)) = true := by simp
        have hk0 : (0 : Int) ≤ (k : Int) := Int.natCast_nonneg _
        have h7 : Held w0 wr (wrT B acc :: S :: (Ts ++ Rs)) := h6.perm (by
          have h2 := (List.perm_append_comm (l₁ := Ts) (l₂ := [wrT B acc, S])).append_right Rs
          simpa using h2)
        have HW := hid (writeBlock_any lo uo lc uc last h5 h7 HP.out.1 HP.out.2.1 h4 HP.out.2.2.2.1 HP.out.2.2.2.2.1 hacc)
        clear h1 h2 h3 h4 h5 h6 h7 hvr hur hW hQ HF hb1
        go_wp2_with fail
        with_reducible refine HW.out.mono ?_
        rintro e w2 ⟨rfl, h2⟩
        have H2 : Hid (Held w0 w2 (wrT B (acc ++ blkBits (blkF lensF) k l raw last acc.length) :: S :: Rs)) := by
          have h3 : Held w0 w2 (Ts ++ (wrT B (acc ++ blkBits (blkF lensF) k l raw last acc.length) :: S :: Rs)) := h2.perm (by
            have h4 := (List.perm_append_comm (l₁ := [wrT B (acc ++ blkBits (blkF lensF) k l raw last acc.length), S]) (l₂ := Ts)).append_right Rs
            simpa using h4)
          exact hid h3.dropAll
        clear h2 HW
        go_wp2
        go_ret
        rw [← HB1.out]
        refine ⟨rfl, ?_⟩
        rw [HOUT.out, ← HB1.out, if_neg (by omega), Int.toNat_natCast]
        exact H2.out
end
end Go.Proofs.YtdmnfjicjjlnnaaGreatDoor
