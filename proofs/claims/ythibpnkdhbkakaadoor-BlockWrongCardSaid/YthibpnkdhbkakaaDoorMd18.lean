/-
  Codes, their highest bit first, and the numbers that writers and readers take, their lowest bit first.
-/
import Derived.Test.YthibpnkdhbkakaaDoorMd16
import Derived.Test.YthibpnkdhbkakaaDoorMd05
import Derived.Test.YthibpnkdhbkakaaDoorMd17
import Derived.Test.YthibpnkdhbkakaaDoorMd13
import Derived.Test.YthibpnkdhbkakaaDoorMd14
namespace Go.Proofs.YthibpnkdhbkakaaDoor
set_option maxRecDepth 5000

theorem bitsOf_revN (c n : Nat) (hn : n ≤ 32) : bitsOf n (revN c n) = hiBits n c := by
  refine List.ext_getElem? fun k => ?_
  by_cases hk : k < n
  · rw [bitsOf_get _ _ _ hk]
    have h := revN_bit c n (n - 1 - k) hn (by omega)
    rw [show n - 1 - (n - 1 - k) = k by omega] at h
    simp [hiBits, hk, h]
  · rw [List.getElem?_eq_none (by rw [bitsOf_length]; omega), List.getElem?_eq_none (by rw [hiBits_length]; omega)]
theorem bitsOf_hiBits (c n : Nat) (hn : n ≤ 32) : bitsOf n c = hiBits n (revN c n) := by
  rw [← bitsOf_revN _ _ hn, revN_twice _ _ hn, bitsOf_mod]
theorem hiN_bitsOf (c n : Nat) (hn : n ≤ 32) : hiN (bitsOf n c) = revN c n := by
  have h := hiN_hiBits n (revN c n) n (Nat.le_refl _)
  rw [List.take_of_length_le (by rw [hiBits_length]; exact Nat.le_refl _), Nat.sub_self, Nat.pow_zero, Nat.div_one, Nat.mod_eq_of_lt (revN_lt _ _ hn)] at h
  rw [bitsOf_hiBits _ _ hn, h]
theorem revN_numOf (bs : List Nat) (hb : isBits bs) (z : Nat) (hz : z ≤ 32) (hzb : z ≤ bs.length) : revN (numOf (bs.take z)) z = hiN (bs.take z) := by
  have hl : (bs.take z).length = z := by rw [List.length_take]; omega
  have h := bitsOf_numOf (bs.take z) (isBits_take hb z)
  rw [hl] at h
  have h2 := hiN_bitsOf (numOf (bs.take z)) z hz
  rw [h] at h2
  exact h2.symm
end Go.Proofs.YthibpnkdhbkakaaDoor
/-
  find: the symbol whose code 15 bits begin with.
-/
namespace Go.Proofs.YthibpnkdhbkakaaDoor
set_option maxRecDepth 5000
open Go.RowKit

section
variable {w0 w : World} {Rs : List Thing}
theorem hit15 {l : List Int} {x i n : Nat} (h : Hit l (hiBits 15 x) i n) : n ≤ 15 := by have := h.2.2.1; rwa [hiBits_length] at this
theorem hiN15 (x n : Nat) (hx : x < 32768) (hn : n ≤ 15) : hiN ((hiBits 15 x).take n) = x / 2 ^ (15 - n) := by
  rw [hiN_hiBits 15 x n hn, Nat.mod_eq_of_lt]
  rw [Nat.div_lt_iff_lt_mul (Nat.pow_pos (by decide)), ← Nat.pow_add, show n + (15 - n) = 15 by omega]
  exact hx
end
end Go.Proofs.YthibpnkdhbkakaaDoor
/-
  Next: the symbol whose code is next, or an error.
-/
namespace Go.Proofs.YthibpnkdhbkakaaDoor
set_option maxRecDepth 5000
open Go.RowKit

theorem hit_same {l : List Int} {bs cs : List Nat} {L i q : Nat} (ht : cs.take L = bs.take L) (hq : q ≤ L) (h1 : L ≤ bs.length) (h : Hit l cs i q) : Hit l bs i q := by
  refine ⟨h.1, h.2.1, by omega, ?_⟩
  have h3 := h.2.2.2
  have e : cs.take q = bs.take q := by
    have := congrArg (List.take q) ht
    rwa [List.take_take, List.take_take, Nat.min_eq_left hq] at this
  rw [e] at h3; exact h3
theorem ahead_bits (bs : List Nat) (hb : isBits bs) (L : Nat) (hL : L ≤ bs.length) (h15 : L ≤ 15) : (hiBits 15 (revN (numOf (bs.take L)) 15)).take L = bs.take L := by
  rw [← bitsOf_hiBits _ 15 (by decide)]
  have hl : (bs.take L).length = L := by rw [List.length_take]; omega
  have h := bitsOf_numOf (bs.take L) (isBits_take hb L)
  rw [hl] at h
  refine Eq.trans ?_ h
  refine List.ext_getElem? fun k => ?_
  by_cases hk : k < L
  · rw [List.getElem?_take_of_lt hk, bitsOf_get _ _ _ (by omega), bitsOf_get _ _ _ hk]
  · rw [List.getElem?_eq_none (by rw [List.length_take]; omega), List.getElem?_eq_none (by rw [bitsOf_length]; omega)]
theorem next_far {l : List Int} {bs cs : List Nat} {L k n : Nat} (hl : ∀ a ∈ l, 0 ≤ a ∧ a ≤ 15) (hc : isBits cs) (h15 : cs.length = 15) (ht : cs.take L = bs.take L) (hL : L = min bs.length 15) (hh : Hit l cs k n) (hn : L < n) : ReadIs l bs 0 0 5 := by
  have hlng := hh.long
  have hn15 := hh.2.2.1
  refine .inr ⟨rfl, rfl, fun i m h => ?_, ?_⟩
  · have hm : m ≤ 15 := by have := hl _ (List.mem_of_getElem? h.1); omega
    have hmb := h.2.2.1
    have h2 := hit_same (bs := cs) ht.symm (by omega) (by omega) h
    have := (Hit.one hc hl hh h2).2
    omega
  · rw [if_pos (.inl (by omega))]
theorem next_none {l : List Int} {bs cs : List Nat} {L : Nat} (hF : Fine l) (hc : isBits cs) (h15 : cs.length = 15) (ht : cs.take L = bs.take L) (hL : L = min bs.length 15) (h0 : 0 < L) (hh : ∀ i m, ¬ Hit l cs i m) : ReadIs l bs 0 0 3 := by
  have hlng : lng l ≤ 15 := lng_top l 15 fun a ha => by have := hF.1 a ha; omega
  refine .inr ⟨rfl, rfl, fun i m h => ?_, ?_⟩
  · have hm : m ≤ 15 := by have := hF.1 _ (List.mem_of_getElem? h.1); omega
    have hmb := h.2.2.1
    exact hh i m (hit_same (bs := cs) ht.symm (by omega) (by omega) h)
  · rw [if_neg]
    rintro (h | h)
    · rcases hF.2.2 with h2 | h2 | h2
      · have := lng_small l hF.1 (.inl h2); omega
      · obtain ⟨i, m, h3⟩ := Hit.whole hF.1 h2 hc (by omega)
        exact hh i m h3
      · have := lng_small l hF.1 (.inr h2); omega
    · subst h; simp at hL; omega
section
variable {w0 w : World} {Rs : List Thing}
end
end Go.Proofs.YthibpnkdhbkakaaDoor
/-
  Write: a symbol's code, its highest bit first; a table that is none.
-/
namespace Go.Proofs.YthibpnkdhbkakaaDoor
set_option maxRecDepth 5000
open Go.RowKit

section
variable {w0 w : World} {Rs : List Thing}
set_option maxRecDepth 20000 in
set_option maxHeartbeats 1600000 in
theorem write_tab (l : List Int) (B Bw : Nat) (bs : List Nat) (s : Int) (h : Held w0 w (wrT Bw bs :: tabT l B :: Rs)) (hF : Fine l) (hlen : bs.length < 1000000000000) :
    Calls Tryd.prog 105 #[.pointer (some ⟨B, 0, none⟩), .pointer (some ⟨Bw, 0, none⟩), .int .i64 s] w fun e w' =>
      (∃ i p : Nat, s = (i : Int) ∧ l[i]? = some (p : Int) ∧ 0 < p ∧ e = .returned (.bool true) ∧ Held w0 w' (wrT Bw (bs ++ hiBits p (codeAt l i)) :: tabT l B :: Rs)) ∨
      ((∀ i p : Nat, s = (i : Int) → l[i]? = some (p : Int) → p = 0) ∧ e = .returned (.bool false) ∧ Held w0 w' (wrT Bw bs :: tabT l B :: Rs)) := by
  obtain ⟨⟨lv, cv, S⟩, h1⟩ := h.swap.ex
  have h2 : Held w0 w (tabK l l.length B lv cv S :: wrT Bw bs :: Rs) := h1
  have hu := unK h2
  obtain ⟨n, hn⟩ : ∃ n, n = l.length := ⟨_, rfl⟩
  have hol := hu.swap.own
  have hoc := hu.third.own
  rw [← hn] at hol hoc
  obtain ⟨lo, lcap, rfl, _, _⟩ := hol.form
  obtain ⟨co, ccap, rfl, _, _⟩ := hoc.form
  have hc0 := hu.obj.cell (i := 0) (tabL_0 _ _ _ _)
  have hc1 := hu.obj.cell (i := 1) (tabL_1 _ _ _ _)
  have H0 := hid h
  have HN := hid hn
  have HF := hid hF
  have hn288 : n ≤ 288 := by have := hF.2.1; omega
  clear h h1 h2 hu hn hF
  have hn0 : (0 : Int) ≤ (n : Int) := Int.natCast_nonneg _
  have h3 : s < 0 ∨ 0 ≤ s ∧ (n : Int) ≤ s ∨ 0 ≤ s ∧ s < (n : Int) := by omega
  rcases h3 with h3 | ⟨h3, h4⟩ | ⟨h3, h4⟩
  · have hB1 : decide (s < 0) = true := by simp; omega
    have HR : Hid (∀ i p : Nat, s = (i : Int) → l[i]? = some (p : Int) → p = 0) := fun i p h => by omega
    clear hol hoc hc0 hc1
    go_enter Tryd.func105, Tryd.ntmps105
    go_wp2
    go_ret
    exact .inr ⟨HR.out, rfl, H0.out⟩
  · have hB1 : decide (s < 0) = false := by simp; omega
    have hB2 : decide ((n : Int) ≤ s) = true := by simp; omega
    have HR : Hid (∀ i p : Nat, s = (i : Int) → l[i]? = some (p : Int) → p = 0) := fun i p h h2 => by
      have := (List.getElem?_eq_some_iff.1 h2).1
      have := HN.out
      omega
    clear hol hoc
    go_enter Tryd.func105, Tryd.ntmps105
    go_wp2
    go_ret
    exact .inr ⟨HR.out, rfl, H0.out⟩
  · obtain ⟨i, rfl⟩ := Int.eq_ofNat_of_zero_le h3
    have hin : i < n := by omega
    obtain ⟨a, hai⟩ : ∃ a, l[i]? = some a := ⟨l[i]'(by have := HN.out; omega), List.getElem?_eq_getElem _⟩
    have ha := HF.out.1 a (List.mem_of_getElem? hai)
    obtain ⟨p, rfl⟩ := Int.eq_ofNat_of_zero_le ha.1
    have hB1 : decide ((i : Int) < 0) = false := by simp
    have hB2 : decide ((n : Int) ≤ (i : Int)) = false := by simp; omega
    have hB3 : decide (n ≤ i) = false := by simp; omega
    obtain ⟨g, off, rfl, hcell, _, _⟩ := hol.site (by omega)
    have hc2 := hcell i _ (by rw [ints_get, hai]; rfl)
    obtain ⟨g2, off2, rfl, hcell2, _, _⟩ := hoc.site (by omega)
    have hc3 := hcell2 i _ (codes_get l i (by have := HN.out; omega))
    have hcl := codeAt_le l i
    obtain ⟨x, hx⟩ : ∃ x, x = codeAt l i := ⟨_, rfl⟩
    rw [← hx] at hc3 hcl
    have HX := hid hx
    have hx32 : x < 4294967296 := by have := HN.out; omega
    have HAI := hid hai
    clear hcell hcell2 hol hoc hai hx hcl
    by_cases hp : p = 0
    · subst hp
      have HR : Hid (∀ j p : Nat, (i : Int) = (j : Int) → l[j]? = some (p : Int) → p = 0) := fun j p h h2 => by
        obtain rfl : i = j := by omega
        have := HAI.out.symm.trans h2
        simp only [Option.some.injEq] at this
        omega
      go_enter Tryd.func105, Tryd.ntmps105
      go_wp2
      go_ret
      exact .inr ⟨HR.out, rfl, H0.out⟩
    · have hB4 : ((p : Int) == 0) = false := by simp; omega
      have hp0 : 0 < p := by omega
      have hpI : (0 : Int) ≤ (p : Int) := Int.natCast_nonneg _
      have hp15 : p ≤ 15 := by omega
      have HP := hid (h_put H0.out (revN x p) p (by have := revN_lt x p (by omega); have h2 : 2 ^ p ≤ 2 ^ 15 := Nat.pow_le_pow_right (by decide) hp15; omega) (by omega) (by omega))
      have HE : Hid (bitsOf p (revN x p) = hiBits p (codeAt l i)) := by unfold Hid; rw [HX.out]; exact bitsOf_revN _ _ (by omega)
      have HRV := hid (reverse_any x p w hx32 (by omega))
      obtain ⟨y, hy⟩ : ∃ y, y = revN x p := ⟨_, rfl⟩
      rw [← hy] at HP HE HRV
      clear hp hy
      go_enter Tryd.func105, Tryd.ntmps105
      go_wp2_with fail
      refine HRV.out.mono ?_
      rintro e w3 ⟨rfl, rfl⟩
      go_wp2_with fail
      refine HP.out.mono ?_
      rintro e w4 ⟨rfl, hh⟩
      rw [HE.out] at hh
      have H4 := hid hh
      clear hh HP
      go_wp2
      go_ret
      exact .inl ⟨i, p, rfl, HAI.out, hp0, rfl, H4.out⟩
theorem tab_write_nil (Bw : Nat) (bs : List Nat) (s : Int) (h : Held w0 w (wrT Bw bs :: Rs)) :
    Calls Tryd.prog 105 #[.pointer none, .pointer (some ⟨Bw, 0, none⟩), .int .i64 s] w fun e w' => e = .returned (.bool false) ∧ Held w0 w' (wrT Bw bs :: Rs) := by
  have H0 := hid h
  clear h
  go_enter Tryd.func105, Tryd.ntmps105
  go_wp2
  go_ret
  exact ⟨rfl, H0.out⟩
end
end Go.Proofs.YthibpnkdhbkakaaDoor
/-
  A token written by two codes; the contents of a block of tokens written (coded.write). What a call reads beside what it holds: 'Reads'.
-/
namespace Go.Proofs.YthibpnkdhbkakaaDoor
set_option maxRecDepth 5000
open Go.RowKit

section
variable {w0 w : World} {S : Thing} {size : Nat} {v : Value} {n : Nat} {xs : List Value} {Rs : List Thing}
/-- the bytes of such a slice written -/
theorem h_write_reads {B : Nat} {l news : List Nat} (h : Held w0 w (wrT B l :: S :: Rs)) (hr : Reads w0 S 1 v n (u8s news)) (hn256 : ∀ b ∈ news, b < 256) (hnl : n < 1099511627776) (hl : l.length < 1099511600000) :
    Calls Tryd.prog 100 #[.pointer (some ⟨B, 0, none⟩), v] w fun e w' => e = .returned (.tuple #[]) ∧ Held w0 w' (wrT B (evened l ++ bits8 news) :: S :: Rs) := by
  have hrd := hr.rd h.swap
  have hmod := h.mod
  obtain ⟨F, F2, ⟨d, hW, h2⟩, h3, hdis, hF, back⟩ := h.take2
  have hap : 0 < n → ∀ k, v.ownBlock = some k → ¬ WSet B d k := fun hn k hk hs => by
    rcases (hr w F2 hmod h3).2 hn k hk with h4 | h4
    · have := (hF k ((h2 k).2 hs)).1; omega
    · exact hdis k h4 ((h2 k).2 hs)
  exact (write_any B d v l news n w hW hl hrd hap hn256 hnl).mono fun _ w' ⟨h5, d', hW', hm, hmv⟩ => ⟨h5, back w' _ _ ⟨d', hW', fun _ => Iff.rfl⟩ (hm.mono fun k _ hk => (h2 k).2 hk) (moved_sub h2 hmv) hW'.lt⟩
end
section
variable {w0 w : World} {Rs : List Thing}
/-- a symbol that has a code -/
theorem h_sym {l : List Int} {B Bw : Nat} {bs : List Nat} (k : Nat) (h : Held w0 w (wrT Bw bs :: tabT l B :: Rs)) (hF : Fine l) (hk : HasSym l k) (hlen : bs.length < 1000000000000) :
    Calls Tryd.prog 105 #[.pointer (some ⟨B, 0, none⟩), .pointer (some ⟨Bw, 0, none⟩), .int .i64 (k : Int)] w fun e w' => e = .returned (.bool true) ∧ Held w0 w' (wrT Bw (bs ++ symBits l k) :: tabT l B :: Rs) :=
  (write_tab l B Bw bs (k : Int) h hF hlen).mono fun e w' h2 => by
    obtain ⟨a, ha, ha0⟩ := hk
    rcases h2 with ⟨i, p, hi, hp, hp0, he, hh⟩ | ⟨hno, _, _⟩
    · obtain rfl : k = i := by omega
      refine ⟨he, ?_⟩
      unfold symBits
      rw [hp]
      exact hh
    · have := hno k a.toNat rfl (by rw [ha]; congr 1; omega)
      omega
theorem Fine.of (l : List Int) (h : checkOf l 15 = 0) : Fine l := fine_of h
theorem allocSz (w : World) (o : Obj) : (w.alloc o).heap.size = w.heap.size + 1 := by
  show (w.heap.push o).size = _
  simp
/-- the contents of a block of tokens, as a value -/
def codV (lv : Value) (B1 B2 bits : Nat) : Value := .agg #[lv, .pointer (some ⟨B1, 0, none⟩), .pointer (some ⟨B2, 0, none⟩), .int .i64 (bits : Int)]
set_option maxHeartbeats 1600000 in
theorem wtok_any {lit dist : List Int} {B1 B2 Bw bits : Nat} {acc : List Nat} (lv : Value) (t : Tok) (h : Held w0 w (wrT Bw acc :: tabT lit B1 :: tabT dist B2 :: Rs)) (hF1 : Fine lit) (hF2 : Fine dist) (hs : soundB t = true) (hb : 0 ≤ t.1 ∧ t.1 ≤ 255) (h1 : HasSym lit (symOf t)) (h2 : t.2.1 ≠ 0 → HasSym dist (dstC t)) (hacc : acc.length < 100000000000) (hlit : ∀ a ∈ lit, 0 ≤ a ∧ a ≤ 15) (hdist : ∀ a ∈ dist, 0 ≤ a ∧ a ≤ 15) :
    Calls Tryd.prog 104 #[codV lv B1 B2 bits, .pointer (some ⟨Bw, 0, none⟩), tokV t] w fun e w' => e = .returned (.tuple #[]) ∧ Held w0 w' (wrT Bw (acc ++ tokB lit dist t) :: tabT lit B1 :: tabT dist B2 :: Rs) := by
  obtain ⟨a, n, d⟩ := t
  by_cases hn0 : n = 0
  · subst hn0
    have ha0 : 0 ≤ a := hb.1
    have ha1 : a ≤ 255 := hb.2
    obtain ⟨z, rfl⟩ := Int.eq_ofNat_of_zero_le ha0
    have hz : z ≤ 255 := by omega
    have h1' : HasSym lit z := h1
    have HH := hid (h_sym z ((h.alloc (.cells #[lv, .pointer (some ⟨B1, 0, none⟩), .pointer (some ⟨B2, 0, none⟩), .int .i64 (bits : Int)] 50)).alloc (.cells #[.int .u8 (z : Int), .int .i64 0, .int .i64 d] 27)) hF1 h1' (by omega))
    have hw : IntKind.i64.wrap (z : Int) = (z : Int) := wrap_nat z (by omega)
    have hE : Hid (symBits lit z = tokB lit dist ((z : Int), 0, d)) := by
      unfold Hid tokB
      rw [if_pos rfl]; rfl
    clear h h1 h2 h1' hs hb
    unfold codV tokV
    simp only
    go_enter Tryd.func104, Tryd.ntmps104
    go_wp2_with fail
    refine HH.out.mono ?_
    rintro e w3 ⟨rfl, hh⟩
    rw [hE.out] at hh
    have H3 := hid hh
    clear hh HH
    go_wp2
    refine bodyPost_ret (results_none rfl _ _ _) rfl ?_
    exact ⟨rfl, H3.out⟩
  · obtain ⟨ha, ⟨hn1, hn2⟩, hd1, hd2⟩ := sound_match hs hn0
    have ha : a = 0 := ha
    have hn1 : 3 ≤ n := hn1
    have hn2 : n ≤ 258 := hn2
    have hd1 : 1 ≤ d := hd1
    have hd2 : d ≤ 32768 := hd2
    subst ha
    have HLC := lenC_is hs hn0
    have HDC := dstC_is hs hn0
    have h1' : HasSym lit (257 + lenC (0, n, d)) := by
      unfold symOf at h1
      rw [if_neg hn0] at h1
      exact h1
    have h2' := h2 hn0
    have hE : Hid (tokB lit dist (0, n, d) = symBits lit (257 + lenC (0, n, d)) ++ (bitsOf (lX (lenC (0, n, d))) (n.toNat - lB (lenC (0, n, d))) ++ (symBits dist (dstC (0, n, d)) ++ bitsOf (dX (dstC (0, n, d))) (d.toNat - dB (dstC (0, n, d)))))) := by
      unfold Hid tokB
      rw [if_neg hn0]
    generalize lenC (0, n, d) = c at HLC h1' hE
    generalize dstC (0, n, d) = q at HDC h2' hE
    obtain ⟨n, rfl⟩ := Int.eq_ofNat_of_zero_le (show 0 ≤ n by omega)
    obtain ⟨d, rfl⟩ := Int.eq_ofNat_of_zero_le (show 0 ≤ d by omega)
    simp only [Int.toNat_natCast] at HLC HDC hE
    have hlx := lX_le c HLC.1
    have hdx := dX_le q HDC.1
    have hlf := len_fits HLC (by omega)
    have hdf := dist_fits HDC (by omega)
    have hl5 : 2 ^ lX c ≤ 2 ^ 5 := Nat.pow_le_pow_right (by decide) hlx
    have hd13 : 2 ^ dX q ≤ 2 ^ 13 := Nat.pow_le_pow_right (by decide) hdx
    obtain ⟨x, hx⟩ : ∃ x, x = n - lB c := ⟨_, rfl⟩
    obtain ⟨y, hy⟩ : ∃ y, y = d - dB q := ⟨_, rfl⟩
    obtain ⟨lx, hlx2⟩ : ∃ lx, lx = lX c := ⟨_, rfl⟩
    obtain ⟨dx, hdx2⟩ : ∃ dx, dx = dX q := ⟨_, rfl⟩
    rw [← hx] at hlf hE
    rw [← hy] at hdf hE
    rw [← hlx2] at hlf hE hl5 hlx
    rw [← hdx2] at hdf hE hd13 hdx
    have hx32 : x < 32 := by omega
    have hy32 : y < 8192 := by omega
    have HL := hid (lenCode_any ((n : Nat) : Int))
    have HD := hid (distCode_any ((d : Nat) : Int))
    have hwx : IntKind.u32.wrap (x : Int) = (x : Int) := by
      unfold IntKind.wrap; simp [IntKind.bits, IntKind.signed]; omega
    have hwy : IntKind.u32.wrap (y : Int) = (y : Int) := by
      unfold IntKind.wrap; simp [IntKind.bits, IntKind.signed]; omega
    have hL1 : Hid (∀ v, IsLenCode ((n : Nat) : Int) v → v = .tuple #[.int .i64 ((257 + c : Nat) : Int), .int .i64 (lx : Int), .int .i64 (x : Int)]) := hid fun v hv => by
      rcases hv with ⟨h, _⟩ | ⟨k, c2, q2, x2, z2, e1, _, _, e2, rfl, rfl, rfl, rfl⟩
      · omega
      · obtain rfl : n = k := by omega
        obtain rfl := e2.same HLC
        rw [hlx2, hx]
    have hD1 : Hid (∀ v, IsDistCode ((d : Nat) : Int) v → v = .tuple #[.int .i64 (q : Int), .int .i64 (dx : Int), .int .i64 (y : Int)]) := hid fun v hv => by
      rcases hv with ⟨h, _⟩ | ⟨k, c2, q2, x2, z2, e1, _, _, e2, rfl, rfl, rfl, rfl⟩
      · omega
      · obtain rfl : d = k := by omega
        obtain rfl := e2.same HDC
        rw [hdx2, hy, Nat.zero_add]
    have hsl : (symBits lit (257 + c)).length ≤ 15 := by rw [symBits_length]; exact lenAt_le (m := 15) hlit _
    have hsd : (symBits dist q).length ≤ 15 := by rw [symBits_length]; exact lenAt_le (m := 15) hdist _
    have HA := hid ((h.newObj [lv, .pointer (some ⟨B1, 0, none⟩), .pointer (some ⟨B2, 0, none⟩), .int .i64 (bits : Int)] 50).newObj [.int .u8 0, .int .i64 ((n : Nat) : Int), .int .i64 ((d : Nat) : Int)] 27)
    rw [allocSz] at HA
    have HA2 := hid (HA.out.perm ((List.perm_append_comm (l₁ := [_, _]) (l₂ := [_, _, _])).append_right Rs))
    have HC := hid (And.intro HLC.1 (And.intro HDC.1 (And.intro h1' h2')))
    clear h h1 h2 h1' h2' hs hb HLC HDC hx hy hlx2 hdx2 hlit hdist
    have hcI : (257 + c : Nat) < 288 := by have := HC.out.1; omega
    unfold codV tokV
    simp only
    go_enter Tryd.func104, Tryd.ntmps104
    go_wp2_with fail
    refine (HL.out _).mono ?_
    rintro e w1 ⟨⟨v, rfl, hv⟩, rfl⟩
    obtain rfl := hL1.out v hv
    clear hv HL
    have HW1 := hid (h_sym (257 + c) HA2.out hF1 HC.out.2.2.1 (by omega))
    go_wp2_with fail
    refine HW1.out.mono ?_
    rintro e w2 ⟨rfl, hh⟩
    have k0 := hh.drop.drop.drop.obj.cell (i := 2) rfl
    have k1 := hh.drop.drop.drop.drop.obj.cell (i := 1) rfl
    have k2 := hh.drop.drop.drop.drop.obj.cell (i := 2) rfl
    have HW2 := hid (h_put hh x lx (by omega) (by omega) (by rw [List.length_append]; omega))
    clear hh HW1
    go_wp2_with fail
    refine HW2.out.mono ?_
    rintro e w3 ⟨rfl, hh⟩
    have j0 := hh.drop.drop.drop.obj.cell (i := 2) rfl
    have j1 := hh.drop.drop.drop.drop.obj.cell (i := 1) rfl
    have j2 := hh.drop.drop.drop.drop.obj.cell (i := 2) rfl
    have HW3 := hid (h_sym q hh.mid hF2 HC.out.2.2.2 (by simp only [List.length_append, bitsOf_length]; omega))
    clear hh HW2 k0 k1 k2
    go_wp2_with fail
    refine (HD.out _).mono ?_
    rintro e w1 ⟨⟨v, rfl, hv⟩, rfl⟩
    obtain rfl := hD1.out v hv
    clear hv HD
    go_wp2_with fail
    refine HW3.out.mono ?_
    rintro e w4 ⟨rfl, hh⟩
    have HW4 := hid (h_put hh.mid y dx (by omega) (by omega) (by simp only [List.length_append, bitsOf_length]; omega))
    clear hh HW3 j0 j1 j2
    go_wp2_with fail
    refine HW4.out.mono ?_
    rintro e w5 ⟨rfl, hh⟩
    have hE2 : acc ++ symBits lit (257 + c) ++ bitsOf lx x ++ symBits dist q ++ bitsOf dx y = acc ++ tokB lit dist (0, (n : Int), (d : Int)) := by rw [hE.out]; simp
    rw [hE2] at hh
    have H9 := hid (hh.perm ((List.perm_append_comm (l₁ := [_, _, _]) (l₂ := [_, _])).append_right Rs)).drop.drop
    clear hh hE2 HW4
    go_wp2
    go_end0
    exact ⟨rfl, H9.out⟩
theorem flat_tok (lit dist : List Int) (l : List Tok) (i : Nat) (t : Tok) (h : l[i]? = some t) : (l.take (i + 1)).flatMap (tokB lit dist) = (l.take i).flatMap (tokB lit dist) ++ tokB lit dist t := by
  rw [List.take_add_one, h]; simp
set_option maxHeartbeats 1600000 in
theorem cwrite_any {lit dist : List Int} {B1 B2 Bw bits n : Nat} {acc : List Nat} {S : Thing} (lv : Value) (l : List Tok) (h : Held w0 w (wrT Bw acc :: tabT lit B1 :: tabT dist B2 :: S :: Rs)) (hr : Reads w0 S 3 lv n (toksV l)) (hF1 : Fine lit) (hF2 : Fine dist) (hs : ∀ t ∈ l, soundB t = true) (hb : byteOK l) (hc : Covers lit dist l) (hn : n < 1048576) (hacc : acc.length < 10000000000) :
    Calls Tryd.prog 103 #[codV lv B1 B2 bits, .pointer (some ⟨Bw, 0, none⟩)] w fun e w' => e = .returned (.tuple #[]) ∧ Held w0 w' (wrT Bw (acc ++ toksB lit dist l) :: tabT lit B1 :: tabT dist B2 :: S :: Rs) := by
  have hrd := hr.rd h.drop.drop.drop
  obtain ⟨ao, cap, rfl, _, _⟩ := hrd.form
  have HL := hid hrd.toks_len
  have HR := hid hr
  have HP := hid (And.intro hs (And.intro hb hc))
  have hn0 : (0 : Int) ≤ (n : Int) := Int.natCast_nonneg _
  have H0 := hid ((h.newObj [.slice ao n cap, .pointer (some ⟨B1, 0, none⟩), .pointer (some ⟨B2, 0, none⟩), .int .i64 (bits : Int)] 50).perm ((List.perm_append_comm (l₁ := [_]) (l₂ := [_, _, _, _])).append_right Rs))
  obtain ⟨C, hC⟩ : ∃ C, C = w.heap.size := ⟨_, rfl⟩
  have HAC := hid hacc
  have k0 := H0.out.drop.drop.drop.drop.obj.cell (i := 0) rfl
  clear hrd hr h hs hb hc hC hacc
  unfold codV
  go_enter Tryd.func103, Tryd.ntmps103
  go_wp2
  clear k0
  go_loopg [9] (n + 1) (fun k t9 wr => ∃ i : Nat, i ≤ n ∧ n - i < k ∧ t9 = .int .i64 (i : Int) ∧
    Hid (Held w0 wr (wrT Bw (acc ++ (l.take i).flatMap (tokB lit dist)) :: tabT lit B1 :: tabT dist B2 :: S :: objT w.heap.size [.slice ao n cap, .pointer (some ⟨B1, 0, none⟩), .pointer (some ⟨B2, 0, none⟩), .int .i64 (bits : Int)] 50 :: Rs)))
  case atStart =>
    refine ⟨0, by omega, by omega, rfl, ?_⟩
    rw [List.take_zero, List.flatMap_nil, List.append_nil]
    exact H0
  case round =>
    obtain ⟨i, hi, hk, rfl, HH⟩ := hrel
    have hi0 : (0 : Int) ≤ (i : Int) := Int.natCast_nonneg _
    have hlen : Hid ((acc ++ (l.take i).flatMap (tokB lit dist)).length < 100000000000) := by
      have h1 := toksB_short hF1.1 hF2.1 (l := l.take i) fun t ht => HP.out.1 t (List.mem_of_mem_take ht)
      unfold toksB at h1
      rw [List.length_append] at h1
      rw [List.length_append]
      have h2 : (l.take i).length ≤ i := by simp; omega
      have h3 := HAC.out
      exact hid (by omega)
    by_cases hin : i < n
    · have hiI : (i : Int) < (n : Int) := by omega
      obtain ⟨⟨ta, tl, td⟩, ht⟩ : ∃ t, l[i]? = some t := ⟨l[i]'(by have := HL.out; omega), List.getElem?_eq_getElem _⟩
      obtain ⟨g, off, rfl, c0, c1, c2⟩ := (HR.out.rd HH.out.drop.drop.drop).tok ht
      have htm := List.mem_of_getElem? ht
      have HA := HH.out.alloc (.cells #[.int .u8 ta, .int .i64 tl, .int .i64 td] 27)
      have k0 := HA.drop.drop.drop.drop.obj.cell (i := 0) rfl
      have k1 := HA.drop.drop.drop.drop.obj.cell (i := 1) rfl
      have k2 := HA.drop.drop.drop.drop.obj.cell (i := 2) rfl
      have k3 := HA.drop.drop.drop.drop.obj.cell (i := 3) rfl
      have HW := hid (wtok_any (bits := bits) (.slice (some ⟨g, off, none⟩) n cap) (ta, tl, td) HA hF1 hF2 (HP.out.1 _ htm) (HP.out.2.1 _ htm) (HP.out.2.2.2 _ htm).1 (HP.out.2.2.2 _ htm).2 hlen.out hF1.1 hF2.1)
      rw [List.append_assoc, ← flat_tok lit dist l i _ ht] at HW
      unfold codV tokV at HW
      simp only at HW
      clear HA ht htm
      go_wp2_with fail
      refine HW.out.mono ?_
      rintro e w2 ⟨rfl, hh⟩
      have H2 := hid hh
      clear hh HW c0 c1 c2 k0 k1 k2 k3
      go_wp2
      go_roundg (gk - 1)
      case measure => omega
      case rel => exact ⟨i + 1, by omega, by omega, by go_num, H2⟩
    · have hiI : ¬ (i : Int) < (n : Int) := by omega
      have hE : Hid (acc ++ (l.take i).flatMap (tokB lit dist) ++ symBits lit 256 = acc ++ toksB lit dist l) := by
        rw [List.take_of_length_le (by have := HL.out; omega), toksB, List.append_assoc]
        exact hid rfl
      have k1 := HH.out.drop.drop.drop.drop.obj.cell (i := 1) rfl
      have HW := hid (h_sym 256 HH.out hF1 HP.out.2.2.1 (by have := hlen.out; omega))
      rw [hE.out] at HW
      clear HH
      go_wp2_with fail
      refine HW.out.mono ?_
      rintro e w2 ⟨rfl, hh⟩
      have H2 := hid (hh.perm ((List.perm_append_comm (l₁ := [_, _, _, _]) (l₂ := [_])).append_right Rs)).drop
      clear hh HW k1
      go_wp2
      go_end0
      exact ⟨rfl, H2.out⟩
end
end Go.Proofs.YthibpnkdhbkakaaDoor
