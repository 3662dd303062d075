/-
  A token written by two codes; the contents of a block of tokens written (coded.write). What a call reads beside what it holds: 'Reads'.
-/
import Derived.Test.YthibpnkdhbkakaaGreatDoorZq16
import Derived.Test.YthibpnkdhbkakaaGreatDoorZq19
import Derived.Test.YthibpnkdhbkakaaGreatDoorZq05
import Derived.Test.YthibpnkdhbkakaaGreatDoorZq07
import Derived.StillTailTactics
namespace Go.Proofs.YthibpnkdhbkakaaGreatDoor
set_option maxRecDepth 5000
open Go.RowKit

section
variable {w0 w : World} {S : Thing} {size : Nat} {v : Value} {n : Nat} {xs : List Value} {Rs : List Thing}
/-- the bytes of such a slice written -/
theorem h_write_reads {B : Nat} {l news : List Nat} (h : Held w0 w (wrT B l :: S :: Rs)) (hr : Reads w0 S 1 v n (u8s news)) (hn256 : ∀ b ∈ news, b < 256) (hnl : n < 1099511627776) (hl : l.length < 1099511600000) :
    Calls Tryz.prog 124 #[.pointer (some ⟨B, 0, none⟩), v] w fun e w' => e = .returned (.tuple #[]) ∧ Held w0 w' (wrT B (evened l ++ bits8 news) :: S :: Rs) := by
  have hrd := hr.rd h.swap
  have hmod := h.mod
  obtain ⟨F, F2, ⟨d, hW, h2⟩, h3, hdis, hF, back⟩ := h.take2
  have hap : 0 < n → ∀ k, v.ownBlock = some k → ¬ WSet B d k := fun hn k hk hs => by
    rcases (hr w F2 hmod h3).2 hn k hk with h4 | h4
    · have := (hF k ((h2 k).2 hs)).1; omega
    · exact hdis k h4 ((h2 k).2 hs)
  exact (write_any B d v l news n w hW hl hrd hap hn256 hnl).mono fun _ w' ⟨h5, d', hW', hm, hmv⟩ => ⟨h5, back w' _ _ ⟨d', hW', fun _ => Iff.rfl⟩ (hm.mono fun k _ hk => (h2 k).2 hk) (moved_sub h2 hmv) hW'.lt⟩
end
section
variable {w0 w : World} {Rs : List Thing}
/-- a symbol that has a code -/
theorem h_sym {l : List Int} {B Bw : Nat} {bs : List Nat} (k : Nat) (h : Held w0 w (wrT Bw bs :: tabT l B :: Rs)) (hF : Fine l) (hk : HasSym l k) (hlen : bs.length < 1000000000000) :
    Calls Tryz.prog 129 #[.pointer (some ⟨B, 0, none⟩), .pointer (some ⟨Bw, 0, none⟩), .int .i64 (k : Int)] w fun e w' => e = .returned (.bool true) ∧ Held w0 w' (wrT Bw (bs ++ symBits l k) :: tabT l B :: Rs) :=
  (write_tab l B Bw bs (k : Int) h hF hlen).mono fun e w' h2 => by
    obtain ⟨a, ha, ha0⟩ := hk
    rcases h2 with ⟨i, p, hi, hp, hp0, he, hh⟩ | ⟨hno, _, _⟩
    · obtain rfl : k = i := by omega
      refine ⟨he, ?_⟩
      unfold symBits
      rw [hp]
      exact hh
    · have := hno k a.toNat rfl (by rw [ha]; congr 1; omega)
      omega
theorem Fine.of (l : List Int) (h : checkOf l 15 = 0) : Fine l := fine_of h
theorem allocSz (w : World) (o : Obj) : (w.alloc o).heap.size = w.heap.size + 1 := by
  show (w.heap.push o).size = _
  simp
/-- the contents of a block of tokens, as a value -/
def codV (lv : Value) (B1 B2 bits : Nat) : Value := .agg #[lv, .pointer (some ⟨B1, 0, none⟩), .pointer (some ⟨B2, 0, none⟩), .int .i64 (bits : Int)]
set_option maxHeartbeats 1600000 in
theorem wtok_any {lit dist : List Int} {B1 B2 Bw bits : Nat} {acc : List Nat} (lv : Value) (t : Tok) (h : Held w0 w (wrT Bw acc :: tabT lit B1 :: tabT dist B2 :: Rs)) (hF1 : Fine lit) (hF2 : Fine dist) (hs : soundB t = true) (hb : 0 ≤ t.1 ∧ t.1 ≤ 255) (h1 : HasSym lit (symOf t)) (h2 : t.2.1 ≠ 0 → HasSym dist (dstC t)) (hacc : acc.length < 100000000000) (hlit : ∀ a ∈ lit, 0 ≤ a ∧ a ≤ 15) (hdist : ∀ a ∈ dist, 0 ≤ a ∧ a ≤ 15) :
    Calls Tryz.prog 128 #[codV lv B1 B2 bits, .pointer (some ⟨Bw, 0, none⟩), tokV t] w fun e w' => e = .returned (.tuple #[]) ∧ Held w0 w' (wrT Bw (acc ++ tokB lit dist t) :: tabT lit B1 :: tabT dist B2 :: Rs) := by
  obtain ⟨a, n, d⟩ := t
  by_cases hn0 : n = 0
  · subst hn0
    have ha0 : 0 ≤ a := hb.1
    have ha1 : a ≤ 255 := hb.2
    obtain ⟨z, rfl⟩ := Int.eq_ofNat_of_zero_le ha0
    have hz : z ≤ 255 := by omega
    have h1' : HasSym lit z := h1
    have HH := hid (h_sym z ((h.alloc (.cells #[lv, .pointer (some ⟨B1, 0, none⟩), .pointer (some ⟨B2, 0, none⟩), .int .i64 (bits : Int)] 75)).alloc (.cells #[.int .u8 (z : Int), .int .i64 0, .int .i64 d] 47)) hF1 h1' (by omega))
    have hw : IntKind.i64.wrap (z : Int) = (z : Int) := wrap_nat z (by omega)
    have hE : Hid (symBits lit z = tokB lit dist ((z : Int), 0, d)) := by
      unfold Hid tokB
      rw [if_pos rfl]; rfl
    clear h h1 h2 h1' hs hb
    unfold codV tokV
    simp only
    go_enter Tryz.func128, Tryz.ntmps128
    go_wp2_with fail
    refine HH.out.mono ?_
    rintro e w3 ⟨rfl, hh⟩
    rw [hE.out] at hh
    have H3 := hid hh
    clear hh HH
    go_wp2
    refine bodyPost_ret (results_none rfl _ _ _) rfl ?_
    exact ⟨rfl, H3.out⟩
  · obtain ⟨ha, ⟨hn1, hn2⟩, hd1, hd2⟩ := sound_match hs hn0
    have ha : a = 0 := ha
    have hn1 : 3 ≤ n := hn1
    have hn2 : n ≤ 258 := hn2
    have hd1 : 1 ≤ d := hd1
    have hd2 : d ≤ 32768 := hd2
    subst ha
    have HLC := lenC_is hs hn0
    have HDC := dstC_is hs hn0
    have h1' : HasSym lit (257 + lenC (0, n, d)) := by
      unfold symOf at h1
      rw [if_neg hn0] at h1
      exact h1
    have h2' := h2 hn0
    have hE : Hid (tokB lit dist (0, n, d) = symBits lit (257 + lenC (0, n, d)) ++ (bitsOf (lX (lenC (0, n, d))) (n.toNat - lB (lenC (0, n, d))) ++ (symBits dist (dstC (0, n, d)) ++ bitsOf (dX (dstC (0, n, d))) (d.toNat - dB (dstC (0, n, d)))))) := by
      unfold Hid tokB
      rw [if_neg hn0]
    generalize lenC (0, n, d) = c at HLC h1' hE
    generalize dstC (0, n, d) = q at HDC h2' hE
    obtain ⟨n, rfl⟩ := Int.eq_ofNat_of_zero_le (show 0 ≤ n by omega)
    obtain ⟨d, rfl⟩ := Int.eq_ofNat_of_zero_le (show 0 ≤ d by omega)
    simp only [Int.toNat_natCast] at HLC HDC hE
    have hlx := lX_le c HLC.1
    have hdx := dX_le q HDC.1
    have hlf := len_fits HLC (by omega)
    have hdf := dist_fits HDC (by omega)
    have hl5 : 2 ^ lX c ≤ 2 ^ 5 := Nat.pow_le_pow_right (by decide) hlx
    have hd13 : 2 ^ dX q ≤ 2 ^ 13 := Nat.pow_le_pow_right (by decide) hdx
    obtain ⟨x, hx⟩ : ∃ x, x = n - lB c := ⟨_, rfl⟩
    obtain ⟨y, hy⟩ : ∃ y, y = d - dB q := ⟨_, rfl⟩
    obtain ⟨lx, hlx2⟩ : ∃ lx, lx = lX c := ⟨_, rfl⟩
    obtain ⟨dx, hdx2⟩ : ∃ dx, dx = dX q := ⟨_, rfl⟩
    rw [← hx] at hlf hE
    rw [← hy] at hdf hE
    rw [← hlx2] at hlf hE hl5 hlx
    rw [← hdx2] at hdf hE hd13 hdx
    have hx32 : x < 32 := by omega
    have hy32 : y < 8192 := by omega
    have HL := hid (lenCode_any ((n : Nat) : Int))
    have HD := hid (distCode_any ((d : Nat) : Int))
    have hwx : IntKind.u32.wrap (x : Int) = (x : Int) := by
      unfold IntKind.wrap; simp [IntKind.bits, IntKind.signed]; omega
    have hwy : IntKind.u32.wrap (y : Int) = (y : Int) := by
      unfold IntKind.wrap; simp [IntKind.bits, IntKind.signed]; omega
    have hL1 : Hid (∀ v, IsLenCode ((n : Nat) : Int) v → v = .tuple #[.int .i64 ((257 + c : Nat) : Int), .int .i64 (lx : Int), .int .i64 (x : Int)]) := hid fun v hv => by
      rcases hv with ⟨h, _⟩ | ⟨k, c2, q2, x2, z2, e1, _, _, e2, rfl, rfl, rfl, rfl⟩
      · omega
      · obtain rfl : n = k := by omega
        obtain rfl := e2.same HLC
        rw [hlx2, hx]
    have hD1 : Hid (∀ v, IsDistCode ((d : Nat) : Int) v → v = .tuple #[.int .i64 (q : Int), .int .i64 (dx : Int), .int .i64 (y : Int)]) := hid fun v hv => by
      rcases hv with ⟨h, _⟩ | ⟨k, c2, q2, x2, z2, e1, _, _, e2, rfl, rfl, rfl, rfl⟩
      · omega
      · obtain rfl : d = k := by omega
        obtain rfl := e2.same HDC
        rw [hdx2, hy, Nat.zero_add]
    have hsl : (symBits lit (257 + c)).length ≤ 15 := by rw [symBits_length]; exact lenAt_le (m := 15) hlit _
    have hsd : (symBits dist q).length ≤ 15 := by rw [symBits_length]; exact lenAt_le (m := 15) hdist _
    have HA := hid ((h.newObj [lv, .pointer (some ⟨B1, 0, none⟩), .pointer (some ⟨B2, 0, none⟩), .int .i64 (bits : Int)] 75).newObj [.int .u8 0, .int .i64 ((n : Nat) : Int), .int .i64 ((d : Nat) : Int)] 47)
    rw [allocSz] at HA
    have HA2 := hid (HA.out.perm ((List.perm_append_comm (l₁ := [_, _]) (l₂ := [_, _, _])).append_right Rs))
    have HC := hid (And.intro HLC.1 (And.intro HDC.1 (And.intro h1' h2')))
    clear h h1 h2 h1' h2' hs hb HLC HDC hx hy hlx2 hdx2 hlit hdist
    have hcI : (257 + c : Nat) < 288 := by have := HC.out.1; omega
    unfold codV tokV
    simp only
    go_enter Tryz.func128, Tryz.ntmps128
    go_wp2_with fail
    refine (HL.out _).mono ?_
    rintro e w1 ⟨⟨v, rfl, hv⟩, rfl⟩
    obtain rfl := hL1.out v hv
    clear hv HL
    have HW1 := hid (h_sym (257 + c) HA2.out hF1 HC.out.2.2.1 (by omega))
    go_wp2_with fail
    refine HW1.out.mono ?_
    rintro e w2 ⟨rfl, hh⟩
    have k0 := hh.drop.drop.drop.obj.cell (i := 2) rfl
    have k1 := hh.drop.drop.drop.drop.obj.cell (i := 1) rfl
    have k2 := hh.drop.drop.drop.drop.obj.cell (i := 2) rfl
    have HW2 := hid (h_put hh x lx (by omega) (by omega) (by rw [List.length_append]; omega))
    clear hh HW1
    go_wp2_with fail
    refine HW2.out.mono ?_
    rintro e w3 ⟨rfl, hh⟩
    have j0 := hh.drop.drop.drop.obj.cell (i := 2) rfl
    have j1 := hh.drop.drop.drop.drop.obj.cell (i := 1) rfl
    have j2 := hh.drop.drop.drop.drop.obj.cell (i := 2) rfl
    have HW3 := hid (h_sym q hh.mid hF2 HC.out.2.2.2 (by simp only [List.length_append, bitsOf_length]; omega))
    clear hh HW2 k0 k1 k2
    go_wp2_with fail
    refine (HD.out _).mono ?_
    rintro e w1 ⟨⟨v, rfl, hv⟩, rfl⟩
    obtain rfl := hD1.out v hv
    clear hv HD
    go_wp2_with fail
    refine HW3.out.mono ?_
    rintro e w4 ⟨rfl, hh⟩
    have HW4 := hid (h_put hh.mid y dx (by omega) (by omega) (by simp only [List.length_append, bitsOf_length]; omega))
    clear hh HW3 j0 j1 j2
    go_wp2_with fail
    refine HW4.out.mono ?_
    rintro e w5 ⟨rfl, hh⟩
    have hE2 : acc ++ symBits lit (257 + c) ++ bitsOf lx x ++ symBits dist q ++ bitsOf dx y = acc ++ tokB lit dist (0, (n : Int), (d : Int)) := by rw [hE.out]; simp
    rw [hE2] at hh
    have H9 := hid (hh.perm ((List.perm_append_comm (l₁ := [_, _, _]) (l₂ := [_, _])).append_right Rs)).drop.drop
    clear hh hE2 HW4
    go_wp2
    go_end0
    exact ⟨rfl, H9.out⟩
theorem flat_tok (lit dist : List Int) (l : List Tok) (i : Nat) (t : Tok) (h : l[i]? = some t) : (l.take (i + 1)).flatMap (tokB lit dist) = (l.take i).flatMap (tokB lit dist) ++ tokB lit dist t := by
  rw [List.take_add_one, h]; simp
set_option maxHeartbeats 1600000 in
theorem cwrite_any {lit dist : List Int} {B1 B2 Bw bits n : Nat} {acc : List Nat} {S : Thing} (lv : Value) (l : List Tok) (h : Held w0 w (wrT Bw acc :: tabT lit B1 :: tabT dist B2 :: S :: Rs)) (hr : Reads w0 S 3 lv n (toksV l)) (hF1 : Fine lit) (hF2 : Fine dist) (hs : ∀ t ∈ l, soundB t = true) (hb : byteOK l) (hc : Covers lit dist l) (hn : n < 1048576) (hacc : acc.length < 10000000000) :
    Calls Tryz.prog 127 #[codV lv B1 B2 bits, .pointer (some ⟨Bw, 0, none⟩)] w fun e w' => e = .returned (.tuple #[]) ∧ Held w0 w' (wrT Bw (acc ++ toksB lit dist l) :: tabT lit B1 :: tabT dist B2 :: S :: Rs) := by
  have hrd := hr.rd h.drop.drop.drop
  obtain ⟨ao, cap, rfl, _, _⟩ := hrd.form
  have HL := hid hrd.toks_len
  have HR := hid hr
  have HP := hid (And.intro hs (And.intro hb hc))
  have hn0 : (0 : Int) ≤ (n : Int) := Int.natCast_nonneg _
  have H0 := hid ((h.newObj [.slice ao n cap, .pointer (some ⟨B1, 0, none⟩), .pointer (some ⟨B2, 0, none⟩), .int .i64 (bits : Int)] 75).perm ((List.perm_append_comm (l₁ := [_]) (l₂ := [_, _, _, _])).append_right Rs))
  obtain ⟨C, hC⟩ : ∃ C, C = w.heap.size := ⟨_, rfl⟩
  have HAC := hid hacc
  have k0 := H0.out.drop.drop.drop.drop.obj.cell (i := 0) rfl
  clear hrd hr h hs hb hc hC hacc
  unfold codV
  go_enter Tryz.func127, Tryz.ntmps127
  go_wp2
  clear k0
  go_loopg [9] (n + 1) (fun k t9 wr => ∃ i : Nat, i ≤ n ∧ n - i < k ∧ t9 = .int .i64 (i : Int) ∧
    Hid (Held w0 wr (wrT Bw (acc ++ (l.take i).flatMap (tokB lit dist)) :: tabT lit B1 :: tabT dist B2 :: S :: objT w.heap.size [.slice ao n cap, .pointer (some ⟨B1, 0, none⟩), .pointer (some ⟨B2, 0, none⟩), .int .i64 (bits : Int)] 75 :: Rs)))
  case atStart =>
    refine ⟨0, by omega, by omega, rfl, ?_⟩
    rw [List.take_zero, List.flatMap_nil, List.append_nil]
    exact H0
  case round =>
    obtain ⟨i, hi, hk, rfl, HH⟩ := hrel
    have hi0 : (0 : Int) ≤ (i : Int) := Int.natCast_nonneg _
    have hlen : Hid ((acc ++ (l.take i).flatMap (tokB lit dist)).length < 100000000000) := by
      have h1 := toksB_short hF1.1 hF2.1 (l := l.take i) fun t ht => HP.out.1 t (List.mem_of_mem_take ht)
      unfold toksB at h1
      rw [List.length_append] at h1
      rw [List.length_append]
      have h2 : (l.take i).length ≤ i := by simp; omega
      have h3 := HAC.out
      exact hid (by omega)
    by_cases hin : i < n
    · have hiI : (i : Int) < (n : Int) := by omega
      obtain ⟨⟨ta, tl, td⟩, ht⟩ : ∃ t, l[i]? = some t := ⟨l[i]'(by have := HL.out; omega), List.getElem?_eq_getElem _⟩
      obtain ⟨g, off, rfl, c0, c1, c2⟩ := (HR.out.rd HH.out.drop.drop.drop).tok ht
      have htm := List.mem_of_getElem? ht
      have HA := HH.out.alloc (.cells #[.int .u8 ta, .int .i64 tl, .int .i64 td] 47)
      have k0 := HA.drop.drop.drop.drop.obj.cell (i := 0) rfl
      have k1 := HA.drop.drop.drop.drop.obj.cell (i := 1) rfl
      have k2 := HA.drop.drop.drop.drop.obj.cell (i := 2) rfl
      have k3 := HA.drop.drop.drop.drop.obj.cell (i := 3) rfl
      have HW := hid (wtok_any (bits := bits) (.slice (some ⟨g, off, none⟩) n cap) (ta, tl, td) HA hF1 hF2 (HP.out.1 _ htm) (HP.out.2.1 _ htm) (HP.out.2.2.2 _ htm).1 (HP.out.2.2.2 _ htm).2 hlen.out hF1.1 hF2.1)
      rw [List.append_assoc, ← flat_tok lit dist l i _ ht] at HW
      unfold codV tokV at HW
      simp only at HW
      clear HA ht htm
      go_wp2_with fail
      refine HW.out.mono ?_
      rintro e w2 ⟨rfl, hh⟩
      have H2 := hid hh
      clear hh HW c0 c1 c2 k0 k1 k2 k3
      go_wp2
      go_roundg (gk - 1)
      case measure => omega
      case rel => exact ⟨i + 1, by omega, by omega, by go_num, H2⟩
    · have hiI : ¬ (i : Int) < (n : Int) := by omega
      have hE : Hid (acc ++ (l.take i).flatMap (tokB lit dist) ++ symBits lit 256 = acc ++ toksB lit dist l) := by
        rw [List.take_of_length_le (by have := HL.out; omega), toksB, List.append_assoc]
        exact hid rfl
      have k1 := HH.out.drop.drop.drop.drop.obj.cell (i := 1) rfl
      have HW := hid (h_sym 256 HH.out hF1 HP.out.2.2.1 (by have := hlen.out; omega))
      rw [hE.out] at HW
      clear HH
      go_wp2_with fail
      refine HW.out.mono ?_
      rintro e w2 ⟨rfl, hh⟩
      have H2 := hid (hh.perm ((List.perm_append_comm (l₁ := [_, _, _, _]) (l₂ := [_])).append_right Rs)).drop
      clear hh HW k1
      go_wp2
      go_end0
      exact ⟨rfl, H2.out⟩
end
end Go.Proofs.YthibpnkdhbkakaaGreatDoor
/-
  How often the symbols of tokens come, counted by the program.
-/
namespace Go.Proofs.YthibpnkdhbkakaaGreatDoor
set_option maxRecDepth 5000
open Go.RowKit

/-- what the counts hold -/
def cntC (l : List Tok) : List Nat := (List.range 286).map (litN l) ++ (dstF l ++ [extN l])
def cntE (l : List Tok) : List Nat := litF l ++ (dstF l ++ [extN l])
theorem cntC_length (l : List Tok) : (cntC l).length = 317 := by simp [cntC, dstF]
theorem cntE_length (l : List Tok) : (cntE l).length = 317 := by simp [cntE, dstF, litF]
theorem cntC_lit (l : List Tok) {k : Nat} (h : k < 286) : (cntC l)[k]? = some (litN l k) := by
  unfold cntC
  rw [List.getElem?_append_left (by simpa using h), List.getElem?_map, List.getElem?_range h]; rfl
theorem cntC_dst (l : List Tok) {k : Nat} (h : k < 30) : (cntC l)[286 + k]? = some (dstN l k) := by
  unfold cntC
  rw [List.getElem?_append_right (by simp), List.length_map, List.length_range, Nat.add_sub_cancel_left, List.getElem?_append_left (by rw [dstF_length]; exact h), dstF_get l h]
theorem cntC_ext (l : List Tok) : (cntC l)[316]? = some (extN l) := by
  unfold cntC
  rw [List.getElem?_append_right (by simp), List.length_map, List.length_range, List.getElem?_append_right (by rw [dstF_length]; decide), dstF_length]; rfl
theorem get_eq_of {a b : List Nat} (hl : a.length = b.length) (h : ∀ k, k < b.length → a[k]? = b[k]?) : a = b := by
  refine List.ext_getElem? fun k => ?_
  by_cases hk : k < b.length
  · exact h k hk
  · rw [List.getElem?_eq_none (by omega), List.getElem?_eq_none (by omega)]
theorem cntC_cases {P : Nat → Prop} (h1 : ∀ k, k < 286 → P k) (h2 : ∀ k, k < 30 → P (286 + k)) (h3 : P 316) : ∀ k, k < 317 → P k := fun k hk => by
  by_cases c : k < 286
  · exact h1 k c
  · by_cases c2 : k < 316
    · have := h2 (k - 286) (by omega)
      rwa [show 286 + (k - 286) = k by omega] at this
    · obtain rfl : k = 316 := by omega
      exact h3
theorem cntC_one (l : List Tok) (t : Tok) (h0 : t.2.1 = 0) (hs : symOf t < 286) : (cntC l).set (symOf t) (litN l (symOf t) + 1) = cntC (l ++ [t]) := by
  refine get_eq_of (by simp [cntC_length]) ?_
  rw [cntC_length]
  refine cntC_cases (fun k hk => ?_) (fun k hk => ?_) ?_
  · rw [List.getElem?_set, cntC_lit _ hk, cntC_lit _ hk, litN_snoc, cntC_length]
    by_cases c : symOf t = k
    · subst c
      rw [if_pos rfl, if_pos (by omega), if_pos rfl]
    · rw [if_neg c, if_neg c, Nat.add_zero]
  · rw [List.getElem?_set, if_neg (by omega), cntC_dst _ hk, cntC_dst _ hk, dstN_snoc, if_neg (fun h => h.1 h0), Nat.add_zero]
  · rw [List.getElem?_set, if_neg (by omega), cntC_ext, cntC_ext, extN_snoc, xtra, if_pos h0, Nat.add_zero]
theorem cntC_match (l : List Tok) (t : Tok) (h0 : t.2.1 ≠ 0) (hs : symOf t < 286) (hq : dstC t < 30) :
    (((cntC l).set (symOf t) (litN l (symOf t) + 1)).set (286 + dstC t) (dstN l (dstC t) + 1)).set 316 (extN l + xtra t) = cntC (l ++ [t]) := by
  refine get_eq_of (by simp [cntC_length]) ?_
  rw [cntC_length]
  refine cntC_cases (fun k hk => ?_) (fun k hk => ?_) ?_
  · rw [List.getElem?_set, if_neg (by omega), List.getElem?_set, if_neg (by omega), List.getElem?_set, cntC_lit _ hk, cntC_lit _ hk, litN_snoc, cntC_length]
    by_cases c : symOf t = k
    · subst c
      rw [if_pos rfl, if_pos (by omega), if_pos rfl]
    · rw [if_neg c, if_neg c, Nat.add_zero]
  · rw [List.getElem?_set, if_neg (by omega), List.getElem?_set, dstN_snoc l t k |> fun e => cntC_dst (l ++ [t]) hk |>.trans (congrArg some e)]
    rw [List.length_set, cntC_length]
    by_cases c : dstC t = k
    · subst c
      rw [if_pos rfl, if_pos (by omega), if_pos ⟨h0, rfl⟩]
    · rw [if_neg (by omega), List.getElem?_set, if_neg (by omega), cntC_dst _ hk, if_neg (fun h => c h.2), Nat.add_zero]
  · rw [List.getElem?_set, if_pos rfl, if_pos (by simp [cntC_length]), cntC_ext, extN_snoc]
theorem cntC_end (l : List Tok) : (cntC l).set 256 (litN l 256 + 1) = cntE l := by
  refine get_eq_of (by simp [cntC_length, cntE_length]) ?_
  rw [cntE_length]
  have hr : ∀ k, 286 ≤ k → (cntE l)[k]? = (cntC l)[k]? := fun k hk => by
    have e : ∀ a b : List Nat, a.length = 286 → (a ++ b)[k]? = b[k - 286]? := fun a b ha => by rw [List.getElem?_append_right (by omega), ha]
    unfold cntE cntC
    rw [e _ _ (litF_length l), e _ _ (by simp)]
  refine cntC_cases (fun k hk => ?_) (fun k hk => ?_) ?_
  · have e : (cntE l)[k]? = some (litE l k) := by
      unfold cntE
      rw [List.getElem?_append_left (by rw [litF_length]; exact hk), litF_get l hk]
    rw [e, List.getElem?_set, cntC_lit _ hk, cntC_length]
    unfold litE
    by_cases c : 256 = k
    · subst c; rfl
    · rw [if_neg c, if_neg c, Nat.add_zero]
  · rw [hr _ (by omega), List.getElem?_set, if_neg (by omega)]
  · rw [hr _ (by omega), List.getElem?_set, if_neg (by omega)]

/-! ### A struct of zeros -/
section
variable {P : Program} {w : World}
theorem run_build_zero (t : TypeId) (z : Array Value) (fields : Array Field) (hz : (P.info? t).map (·.zero) = some (some (.agg z))) (ht : P.underlying t = some (.struct fields))
    (ps : Array (Nat × Nat)) (hp : (fields.mapM (m := Sem) fun f => do pure (f.offset, ← sizeOf f.type)).run P w = .ok ps w) : (Instr.build t #[]).run P w = .ok (.agg z) w := by
  cases hq : P.info? t with
  | none => simp [hq] at hz
  | some i =>
    have hi : i.zero = some (.agg z) := by simpa [hq] using hz
    have hz2 : (zeroValue t).run P w = .ok (.agg z) w := by
      unfold zeroValue
      simp [typeInfo, hq, hi]
    unfold Instr.build
    simp only [Sem.run_bind, hz2, Result.andThen_ok, run_underlying ht w, hp, Instr.fill, Value.cells, Sem.run_pure]
theorem wpList_build_zero {ops : Array Oper} {rest : List Oper} {o : Oper} {ac : Act} {Q : Exit → Act → World → Prop} (hgd : o.guard = none) (t : TypeId) (ho : o.op = .build t #[])
    (z : Array Value) (fields : Array Field) (hz : (P.info? t).map (·.zero) = some (some (.agg z))) (ht : P.underlying t = some (.struct fields))
    (ps : Array (Nat × Nat)) (hp : (fields.mapM (m := Sem) fun f => do pure (f.offset, ← sizeOf f.type)).run P w = .ok ps w)
    (h : wpList P ops Q rest (ac.put o.dst (.agg z)) w) : wpList P ops Q (o :: rest) ac w :=
  wpList_plain hgd fun _ hK => by
    have hr := run_build_zero (P := P) (w := w) t z fields hz ht ps hp
    unfold Oper.wp execOp
    simp only [ho, Sem.run_bind, Sem.run_pure, List.map_toArray, List.map_nil, hr, Result.andThen_ok]
    exact hK _ _ h
end
theorem cntZero : (Tryz.prog.info? 99).map (·.zero) = some (some (.agg (nums .i64 (cntC [])).toArray)) := by kernel_rfl
set_option maxHeartbeats 3200000 in
theorem count_blk (v : Value) (n : Nat) (l : List Tok) (w : World) (hv : Rd w 3 v n (toksV l)) (hn : n < 1048576) (hs : ∀ t ∈ l, soundB t = true) (hb : byteOK l) :
    Calls Tryz.prog 51 #[v] w fun e w' => ∃ B, e = .returned (.pointer (some ⟨B, 0, none⟩)) ∧ Held w w' [objT B (nums .i64 (cntE l)) 99] := by
  obtain ⟨ao, cap, rfl, _, _⟩ := hv.form
  have HL := hid hv.toks_len
  have HV := hid hv
  have HP := hid (And.intro hs hb)
  have hn0 : (0 : Int) ≤ (n : Int) := Int.natCast_nonneg _
  clear hv hs hb
  go_enter Tryz.func51, Tryz.ntmps51
  go_wp2_with first
    | ((with_reducible show wpList _ _ _ (⟨some 12, _, _, _, _, _⟩ :: _) _ _); refine wpList_build_zero rfl 99 rfl (nums .i64 (cntC [])).toArray _ cntZero Tryz.underlying99 _ (by kernel_rfl) ?_)
    | ((with_reducible show wpList _ _ _ (⟨some 13, _, _, _, _, _⟩ :: _) _ _); refine wpList_box_arr rfl 99 (.tmp 12) rfl .i64 (cntC []) rfl ?_)
    | fail
  have H0 : Hid (Held w (w.alloc (.cells (nums .i64 (cntC [])).toArray 99)) [objT w.heap.size (nums .i64 (cntC [])) 99]) := hid ((Held.start w).newObj _ _)
  go_loopg [16] (n + 1) (fun k t16 wr => ∃ i : Nat, i ≤ n ∧ n - i < k ∧ t16 = .int .i64 (i : Int) ∧ Hid (Held w wr [objT w.heap.size (nums .i64 (cntC (l.take i))) 99]))
  case atStart => exact ⟨0, by omega, by omega, rfl, H0⟩
  case round =>
    obtain ⟨i, hi, hk, rfl, HH⟩ := hrel
    have hi0 : (0 : Int) ≤ (i : Int) := Int.natCast_nonneg _
    by_cases hin : i < n
    · have hiI : (i : Int) < (n : Int) := by omega
      obtain ⟨⟨ta, tl, td⟩, ht⟩ : ∃ t, l[i]? = some t := ⟨l[i]'(by have := HL.out; omega), List.getElem?_eq_getElem _⟩
      obtain ⟨g, off, rfl, c0, c1, c2⟩ := (HH.out.old HV.out).tok ht
      have htm := List.mem_of_getElem? ht
      have hs1 := HP.out.1 _ htm
      have hb1 := HP.out.2 _ htm
      have htk : l.take (i + 1) = l.take i ++ [(ta, tl, td)] := by rw [List.take_add_one, ht]; rfl
      have hin2 : (l.take i).length ≤ 1048576 := by simp; omega
      have hsy := symOf_lt hs1 hb1
      have HA := hid (HH.out.newObj [.int .u8 ta, .int .i64 tl, .int .i64 td] 47)
      obtain ⟨K, hK⟩ : ∃ K, K = l.take i := ⟨_, rfl⟩
      rw [← hK] at HA htk hin2
      have hcI : ∀ k, litN K k ≤ 1048576 := fun k => Nat.le_trans (litN_le K k) hin2
      have hdI : ∀ k, dstN K k ≤ 1048576 := fun k => Nat.le_trans (dstN_le K k) hin2
      by_cases hl0 : tl = 0
      · subst hl0
        obtain ⟨z, rfl⟩ := Int.eq_ofNat_of_zero_le hb1.1
        have hz : z ≤ 255 := by have : (z : Int) ≤ 255 := hb1.2; omega
        have hsz : symOf ((z : Int), 0, td) = z := by unfold symOf; rw [if_pos rfl]; rfl
        have hone := cntC_one K ((z : Int), 0, td) rfl hsy
        rw [hsz, ← htk] at hone
        obtain ⟨x, hx⟩ : ∃ x, x = litN K z := ⟨_, rfl⟩
        have hxI := hcI z
        have hcx := cntC_lit K (k := z) (by omega)
        rw [← hx] at hone hxI hcx
        have kx := HA.out.swap.obj.cell (i := z) (v := .int .i64 (x : Int)) (by simp [nums, hcx])
        have fx := HA.out.swap.obj.frozen z
        have t0 := HA.out.obj.cell (i := 0) rfl
        have hz2 : (z : Int) < 286 := by omega
        have hz0 : (0 : Int) ≤ (z : Int) := Int.natCast_nonneg _
        have H9 : Hid (Held w (((wr.alloc (.cells #[.int .u8 (z : Int), .int .i64 0, .int .i64 td] 47)).drew).setCell ⟨w.heap.size, z, none⟩ (.int .i64 ((x + 1 : Nat) : Int))) [objT w.heap.size (nums .i64 (cntC (l.take (i + 1)))) 99]) := by
          have h := (HA.out.swap.drew.setObj z (.int .i64 ((x + 1 : Nat) : Int))).one
          rw [nums_set, hone] at h
          exact hid h
        clear HA hone hcx hx hK htk ht htm hs1 hb1 hsy hsz hcI hdI
        go_wp2
        generalize wr.alloc (.cells #[.int .u8 (z : Int), .int .i64 0, .int .i64 td] 47) = w2 at kx fx t0 H9 ⊢
        go_still_tail 11, (by kernel_rfl)
        change wpList _ _ _ _ _ (World.drew _)
        go_wp2
        go_roundg (gk - 1)
        case measure => omega
        case rel => exact ⟨i + 1, by omega, by omega, by go_num, H9⟩
      · obtain ⟨hx0, ⟨hn1, hn2⟩, hd1, hd2⟩ := sound_match hs1 hl0
        have hx0 : ta = 0 := hx0
        have hn1 : 3 ≤ tl := hn1
        have hn2 : tl ≤ 258 := hn2
        have hd1 : 1 ≤ td := hd1
        have hd2 : td ≤ 32768 := hd2
        subst hx0
        have HLC := lenC_is hs1 hl0
        have HDC := dstC_is hs1 hl0
        have hmt := cntC_match K (0, tl, td) hl0 hsy HDC.1
        have hsz : symOf (0, tl, td) = 257 + lenC (0, tl, td) := by unfold symOf; rw [if_neg hl0]
        have hxt : xtra (0, tl, td) = lX (lenC (0, tl, td)) + dX (dstC (0, tl, td)) := by unfold xtra; rw [if_neg hl0]
        rw [hsz, hxt, ← htk] at hmt
        generalize lenC (0, tl, td) = c at HLC hmt hsz hxt
        generalize dstC (0, tl, td) = q at HDC hmt hxt
        obtain ⟨tl, rfl⟩ := Int.eq_ofNat_of_zero_le (show 0 ≤ tl by omega)
        obtain ⟨td, rfl⟩ := Int.eq_ofNat_of_zero_le (show 0 ≤ td by omega)
        simp only [Int.toNat_natCast] at HLC HDC
        have hlx := lX_le c HLC.1
        have hdx := dX_le q HDC.1
        have hc29 := HLC.1
        have hq30 := HDC.1
        have hL := hid (lenCode_any ((tl : Nat) : Int))
        have hD := hid (distCode_any ((td : Nat) : Int))
        obtain ⟨lx, hlx2⟩ : ∃ lx, lx = lX c := ⟨_, rfl⟩
        obtain ⟨dx, hdx2⟩ : ∃ dx, dx = dX q := ⟨_, rfl⟩
        obtain ⟨x, hx⟩ : ∃ x, x = litN K (257 + c) := ⟨_, rfl⟩
        obtain ⟨y, hy⟩ : ∃ y, y = dstN K q := ⟨_, rfl⟩
        obtain ⟨u, hu⟩ : ∃ u, u = extN K := ⟨_, rfl⟩
        rw [← hx, ← hy, ← hu, ← hlx2, ← hdx2] at hmt
        rw [← hlx2] at hlx
        rw [← hdx2] at hdx
        have hxI := hcI (257 + c)
        have hyI := hdI q
        have huI : u ≤ 18 * K.length := by
          rw [hu]
          have : ∀ L : List Tok, (∀ t ∈ L, soundB t = true) → extN L ≤ 18 * L.length := by
            intro L
            induction L with
            | nil => intro _; exact Nat.le_refl _
            | cons t L ih =>
              intro h
              have h1 := ih fun s hs => h s (List.mem_cons_of_mem _ hs)
              have h2 := xtra_le (h t (List.mem_cons_self ..))
              simp only [extN, List.map_cons, List.sum_cons, List.length_cons] at h1 ⊢
              omega
          refine this K fun t ht2 => HP.out.1 t ?_
          rw [hK] at ht2
          exact List.mem_of_mem_take ht2
        rw [← hx] at hxI
        rw [← hy] at hyI
        have g1 := cntC_lit K (k := 257 + c) (by omega)
        have g2 := cntC_dst K (k := q) hq30
        have g3 := cntC_ext K
        rw [← hx] at g1
        rw [← hy] at g2
        rw [← hu] at g3
        have hL1 : Hid (∀ v, IsLenCode ((tl : Nat) : Int) v → v = .tuple #[.int .i64 ((257 + c : Nat) : Int), .int .i64 (lx : Int), .int .i64 ((tl - lB c : Nat) : Int)]) := hid fun v hv => by
          rcases hv with ⟨h, _⟩ | ⟨k, c2, q2, x2, z2, e1, _, _, e2, rfl, rfl, rfl, rfl⟩
          · omega
          · obtain rfl : tl = k := by omega
            obtain rfl := e2.same HLC
            rw [hlx2]
        have hD1 : Hid (∀ v, IsDistCode ((td : Nat) : Int) v → v = .tuple #[.int .i64 (q : Int), .int .i64 (dx : Int), .int .i64 ((td - dB q : Nat) : Int)]) := hid fun v hv => by
          rcases hv with ⟨h, _⟩ | ⟨k, c2, q2, x2, z2, e1, _, _, e2, rfl, rfl, rfl, rfl⟩
          · omega
          · obtain rfl : td = k := by omega
            obtain rfl := e2.same HDC
            rw [hdx2, Nat.zero_add]
        obtain ⟨s, hs⟩ : ∃ s, s = 257 + c := ⟨_, rfl⟩
        rw [← hs] at hmt g1 hL1
        have hsI : (s : Int) < 286 := by omega
        have hqI : (q : Int) < 30 := by omega
        have hs0 : (0 : Int) ≤ (s : Int) := Int.natCast_nonneg _
        have hq0 : (0 : Int) ≤ (q : Int) := Int.natCast_nonneg _
        have hsn : s < 286 := by omega
        have HB := HA.out.swap
        have t1 := HA.out.obj.cell (i := 1) rfl
        have t2 := HA.out.obj.cell (i := 2) rfl
        have k1 := HB.obj.cell (i := s) (v := .int .i64 (x : Int)) (by simp [nums, g1])
        have k2 := HB.obj.cell (i := 286 + q) (v := .int .i64 (y : Int)) (by simp [nums, g2])
        have k3 := HB.obj.cell (i := 316) (v := .int .i64 (u : Int)) (by simp [nums, g3])
        have f1 := HB.obj.frozen s
        have f2 := HB.obj.frozen (286 + q)
        have f3 := HB.obj.frozen 316
        have hkb : u ≤ 18 * 1048576 := by omega
        have HBB := hid HB
        have HMT := hid hmt
        have G2 : Hid ((nums .i64 (cntC K))[286 + q]? = some (.int .i64 (y : Int)) ∧ (nums .i64 (cntC K))[316]? = some (.int .i64 (u : Int))) := hid ⟨by simp [nums, g2], by simp [nums, g3]⟩
        clear k2 k3 f2 f3
        clear HA HB hmt g1 g2 g3 hx hy hu hK htk ht htm hs1 hb1 hsy hsz hcI hdI HLC HDC hlx2 hdx2 hxt huI hs
        go_wp2_with fail
        refine (hL.out _).mono ?_
        rintro e w3 ⟨⟨v, rfl, hv⟩, rfl⟩
        obtain rfl := hL1.out v hv
        clear hv hL
        go_wp2_with fail
        refine (hD.out _).mono ?_
        rintro e w3 ⟨⟨v, rfl, hv⟩, rfl⟩
        obtain rfl := hD1.out v hv
        clear hv hD
        go_wp2
        generalize wr.alloc (.cells #[.int .u8 0, .int .i64 ((tl : Nat) : Int), .int .i64 ((td : Nat) : Int)] 47) = w2 at k1 f1 t1 t2 HBB ⊢
        go_still_tail 10, (by kernel_rfl)
        change wpList _ _ _ _ _ (World.drew _)
        go_wp2
        have h4 := (HBB.out.setObj s (.int .i64 ((x : Int) + 1))).drew
        generalize (w2.setCell ⟨w.heap.size, s, none⟩ (.int .i64 ((x : Int) + 1))).drew = w4 at h4 ⊢
        have k2 := h4.obj.cell (i := 286 + q) (v := .int .i64 (y : Int)) (by rw [List.getElem?_set, if_neg (by omega)]; exact G2.out.1)
        have f2 := h4.obj.frozen (286 + q)
        have H4 := hid h4
        clear h4 HBB k1 f1 t1 t2
        go_still_tail 10, (by kernel_rfl)
        change wpList _ _ _ _ _ (World.drew _)
        have h5 := (H4.out.setObj (286 + q) (.int .i64 ((y : Int) + 1))).drew
        have k3 := h5.obj.cell (i := 316) (v := .int .i64 (u : Int)) (by rw [List.getElem?_set, if_neg (by omega), List.getElem?_set, if_neg (by omega)]; exact G2.out.2)
        have f3 := h5.obj.frozen 316
        have h6 := h5.setObj 316 (.int .i64 ((u : Int) + ((lx : Int) + (dx : Int))))
        have H6 : Hid (Held w (((w4.setCell ⟨w.heap.size, 286 + q, none⟩ (.int .i64 ((y : Int) + 1))).drew).setCell ⟨w.heap.size, 316, none⟩ (.int .i64 ((u : Int) + ((lx : Int) + (dx : Int))))) [objT w.heap.size (nums .i64 (cntC (l.take (i + 1)))) 99]) := by
          have h7 : Held w _ [objT w.heap.size ((((nums .i64 (cntC K)).set s (.int .i64 ((x + 1 : Nat) : Int))).set (286 + q) (.int .i64 ((y + 1 : Nat) : Int))).set 316 (.int .i64 ((u + (lx + dx) : Nat) : Int))) 99] := h6.one
          rw [nums_set, nums_set, nums_set, HMT.out] at h7
          exact hid h7
        clear h5 h6
        go_wp2
        go_roundg (gk - 1)
        case measure => omega
        case rel => exact ⟨i + 1, by omega, by omega, by go_num, H6⟩
    · have hiI : ¬ (i : Int) < (n : Int) := by omega
      have hK : l.take i = l := List.take_of_length_le (by have := HL.out; omega)
      rw [hK] at HH
      have hxI : litN l 256 ≤ 1048576 := by have h1 := litN_le l 256; have := HL.out; omega
      have hg := cntC_lit l (k := 256) (by decide)
      have HEE := hid (cntC_end l)
      obtain ⟨x, hx⟩ : ∃ x, x = litN l 256 := ⟨_, rfl⟩
      rw [← hx] at hg HEE hxI
      have k1 := HH.out.obj.cell (i := 256) (v := .int .i64 (x : Int)) (by simp [nums, hg])
      have f1 := HH.out.obj.frozen 256
      clear hg hx hK
      go_wp2_with fail
      go_still_tail 9, (by kernel_rfl)
      change wpList _ _ _ _ _ (World.drew _)
      have h4 := HH.out.drew.setObj 256 (.int .i64 ((x : Int) + 1))
      have H4 : Hid (Held w (wr.drew.setCell ⟨w.heap.size, 256, none⟩ (.int .i64 ((x : Int) + 1))) [objT w.heap.size (nums .i64 (cntE l)) 99]) := by
        have h7 : Held w _ [objT w.heap.size ((nums .i64 (cntC l)).set 256 (.int .i64 ((x + 1 : Nat) : Int))) 99] := h4
        rw [nums_set, HEE.out] at h7
        exact hid h7
      clear h4
      go_wp2
      go_ret
      exact ⟨_, rfl, H4.out⟩
end Go.Proofs.YthibpnkdhbkakaaGreatDoor
