/-
  The walk of the law SumsTell.
-/
import Derived.Test.YtolapfhajbldiaaAns2
import Derived.Test.YtolapfhajbldiaaPut
namespace Go.Proofs.Ytolapfhajbldiaa
open Go.RowKit

theorem bytesN_get (k x i : Nat) (h : i < k) : (bytesN k x)[i]? = some (x / 256 ^ i % 256) := by
  induction k generalizing x i with
  | zero => omega
  | succ k ih =>
    cases i with
    | zero => simp [bytesN]
    | succ i =>
      simp only [bytesN, List.getElem?_cons_succ]
      rw [ih (x / 256) i (by omega), Nat.div_div_eq_div_mul, Nat.pow_succ, Nat.mul_comm 256]
/-- m is l, of which i bytes from k on are turned -/
def Bent (l m : List Nat) (k x i : Nat) : Prop := m.length = l.length ∧ ∀ j b, l[j]? = some b → m[j]? = some (if k ≤ j ∧ j < k + i then b ^^^ (x / 256 ^ (j - k) % 256) else b)
theorem Bent.start (l : List Nat) (k x : Nat) : Bent l l k x 0 := ⟨rfl, fun j b h => by rw [if_neg (by omega)]; exact h⟩
theorem Bent.step {l m : List Nat} {k x i b : Nat} (h : Bent l m k x i) (hb : l[k + i]? = some b) : Bent l (m.set (k + i) (b ^^^ (x / 256 ^ i % 256))) k x (i + 1) := by
  have hlt := (List.getElem?_eq_some_iff.1 hb).1
  refine ⟨by rw [List.length_set]; exact h.1, fun j c hc => ?_⟩
  by_cases hj : k + i = j
  · subst hj
    obtain rfl : b = c := by rw [hb] at hc; injection hc
    rw [List.getElem?_set_self (by rw [h.1]; exact hlt), if_pos ⟨by omega, by omega⟩, show k + i - k = i by omega]
  · rw [List.getElem?_set_ne hj, h.2 j c hc]
    congr 1
    by_cases hk : k ≤ j ∧ j < k + i
    · rw [if_pos hk, if_pos ⟨hk.1, by omega⟩]
    · rw [if_neg hk, if_neg (by omega)]
theorem Bent.here {l m : List Nat} {k x i b : Nat} (h : Bent l m k x i) (hb : l[k + i]? = some b) : m[k + i]? = some b := by
  rw [h.2 _ b hb, if_neg (by omega)]
theorem Bent.whole {l m : List Nat} {k x : Nat} (h : Bent l m k x 5) (hk : k + 5 ≤ l.length) :
    m = l.take k ++ List.zipWith (· ^^^ ·) ((l.drop k).take 5) (bytesN 5 x) ++ l.drop (k + 5) := by
  apply List.ext_getElem?
  intro j
  have hz : (List.zipWith (· ^^^ ·) ((l.drop k).take 5) (bytesN 5 x)).length = 5 := by
    rw [List.length_zipWith, bytesN_length, List.length_take, List.length_drop]; omega
  have hp : (l.take k).length = k := by rw [List.length_take]; omega
  by_cases hj : j < l.length
  · have hjb : l[j]? = some l[j] := List.getElem?_eq_getElem hj
    rw [h.2 j _ hjb]
    by_cases h1 : j < k
    · rw [if_neg (by omega), List.append_assoc, List.getElem?_append_left (by omega), List.getElem?_take_of_lt h1, hjb]
    · by_cases h2 : j < k + 5
      · rw [if_pos ⟨by omega, h2⟩, List.getElem?_append_left (by rw [List.length_append]; omega), List.getElem?_append_right (by omega), hp, List.getElem?_zipWith,
          List.getElem?_take_of_lt (by omega), List.getElem?_drop, show k + (j - k) = j by omega, hjb, bytesN_get 5 x (j - k) (by omega)]
      · rw [if_neg (by omega), List.getElem?_append_right (by rw [List.length_append]; omega), List.getElem?_drop, List.length_append, hp, hz, show k + 5 + (j - (k + 5)) = j by omega, hjb]
  · rw [List.getElem?_eq_none (by rw [h.1]; omega), List.getElem?_eq_none (by simp only [List.length_append, hp, hz, List.length_drop]; omega)]
theorem Bent.tell {l m : List Nat} {k bend sh : Nat} (h : Bent l m k (bend * 2 ^ sh) 5) (hk : k + 5 ≤ l.length) (hb : bend < 2 ^ 32) (hb0 : bend ≠ 0) (hs : sh < 8) : crcOf 0 l ≠ crcOf 0 m := by
  have h2 := crcOf_tell (l.take k) (l.drop (k + 5)) ((l.drop k).take 5) bend sh hb hb0 hs (by rw [List.length_take, List.length_drop]; omega) 0
  rw [Nat.mul_comm] at h
  rw [← h.whole hk] at h2
  have e : l.take k ++ (l.drop k).take 5 ++ l.drop (k + 5) = l := by
    rw [List.append_assoc, ← List.drop_drop, List.take_append_drop, List.take_append_drop]
  rw [e] at h2
  exact h2

set_option maxRecDepth 20000 in
set_option maxHeartbeats 1600000 in
theorem tell_plain (v : Value) (l : List Nat) (at_ bend shift : Nat) (w : World) (hv : Rd w 1 v l.length (u8s l)) (hp : 5000 < l.length ∨ l.length < 5 ∨ bend = 0) :
    Calls Try.prog 6 #[v, .int .u16 (at_ : Int), .int .u32 (bend : Int), .int .u8 (shift : Int)] w fun e w' => e = .returned (.bool true) ∧ Below w.heap.size w w' := by
  obtain ⟨ao, cap, rfl, hcap, hmax⟩ := hv.form
  obtain ⟨n, hn⟩ : ∃ n, n = l.length := ⟨_, rfl⟩
  have hn63 : n ≤ 9223372036854775807 := by unfold maxLen at hmax; omega
  rw [← hn] at hp ⊢
  clear hn hv hcap hmax
  have hn0 : (0 : Int) ≤ (n : Int) := Int.natCast_nonneg _
  by_cases h1 : 5000 < n
  · have h1I : (5000 : Int) < (n : Int) := by omega
    clear hp
    go_enter Try.func6, Try.ntmps6
    go_wp2_with fail
    refine (answers_any w).mono ?_
    rintro e w1 ⟨rfl, hM1⟩
    go_wp2
    go_ret
    exact ⟨rfl, hM1.toBelow⟩
  · have h1I : ¬ (5000 : Int) < (n : Int) := by omega
    by_cases h2 : n < 5
    · have h2I : (n : Int) < 5 := by omega
      clear hp
      go_enter Try.func6, Try.ntmps6
      go_wp2_with fail
      refine (answers_any w).mono ?_
      rintro e w1 ⟨rfl, hM1⟩
      go_wp2
      go_ret
      exact ⟨rfl, hM1.toBelow⟩
    · have h2I : ¬ (n : Int) < 5 := by omega
      obtain rfl : bend = 0 := by omega
      clear hp
      go_enter Try.func6, Try.ntmps6
      go_wp2_with fail
      refine (answers_any w).mono ?_
      rintro e w1 ⟨rfl, hM1⟩
      go_wp2
      go_ret
      exact ⟨rfl, hM1.toBelow⟩

set_option maxRecDepth 20000 in
set_option maxHeartbeats 1600000 in
theorem tell_far (v : Value) (l : List Nat) (at_ bend shift : Nat) (w : World) (hv : Rd w 1 v l.length (u8s l)) (hb256 : ∀ b ∈ l, b < 256) (h5000 : l.length ≤ 5000) (h5 : 5 ≤ l.length) (hbend : bend ≠ 0)
    (hb32 : bend < 4294967296) (ha16 : at_ < 65536) (hs8 : shift < 256) :
    Calls Try.prog 6 #[v, .int .u16 (at_ : Int), .int .u32 (bend : Int), .int .u8 (shift : Int)] w fun e w' => e = .returned (.bool true) ∧ Below w.heap.size w w' := by
  obtain ⟨ao, cap, rfl, hcap, hmax⟩ := hv.form
  obtain ⟨n, hn⟩ : ∃ n, n = l.length := ⟨_, rfl⟩
  have HV : Hid (Rd w 1 (.slice ao n cap) l.length (u8s l)) := by unfold Hid; rw [hn]; exact hv
  have HB := hid hb256
  have HN := hid hn
  rw [← hn] at h5000 h5 ⊢
  clear hn hv hcap hmax hb256
  have hn0 : (0 : Int) ≤ (n : Int) := Int.natCast_nonneg _
  have h1I : ¬ (5000 : Int) < (n : Int) := by omega
  have h2I : ¬ (n : Int) < 5 := by omega
  have h3I : ((bend : Int) == 0) = false := by simp; omega
  obtain ⟨k, hk⟩ : ∃ k, k = at_ % (n - 4) := ⟨_, rfl⟩
  have hkI : (at_ : Int) % ((n : Int) - 4) = (k : Int) := by rw [hk, Int.natCast_emod, Int.natCast_sub (by omega)]; rfl
  have hk5 : k + 5 ≤ n := by have := Nat.mod_lt at_ (show 0 < n - 4 by omega); omega
  obtain ⟨sh, hsh⟩ : ∃ sh, sh = shift % 8 := ⟨_, rfl⟩
  have hshI : (shift : Int) % 8 = (sh : Int) := by omega
  have hsh8 : sh < 8 := by omega
  obtain ⟨x, hx⟩ : ∃ x, x = bend * 2 ^ sh := ⟨_, rfl⟩
  have hx64 : x < 549755813888 := by
    rw [hx]
    have h1 : 2 ^ sh ≤ 2 ^ 7 := Nat.pow_le_pow_right (by decide) (by omega)
    exact Nat.lt_of_lt_of_le (Nat.mul_lt_mul_of_lt_of_le hb32 h1 (by decide)) (by decide)
  have hxI : IntKind.u64.wrap ((bend : Int) * 2 ^ sh) = (x : Int) := by
    have e : (bend : Int) * 2 ^ sh = (x : Int) := by rw [hx]; simp
    rw [e, IntWalk.u64_in _ (by omega)]
  have HX := hid hx
  clear hk hsh hx
  obtain ⟨i0, hi, hz0, hz1, hz2⟩ := info_parts Try.infoByte
  have HVA : Hid (Rd (w.alloc (.cells #[] 5)) 1 (.slice ao n cap) n (u8s l)) := by
    have h := HV.out.kept ((Mod.refl w (fun _ => False)).alloc (.cells #[] 5)) (fun _ _ h => h)
    unfold Hid; rw [← HN.out] at h; exact h
  go_enter Try.func6, Try.ntmps6
  go_wp2_with (at_builtin; refine wpList_app _ rfl (.tmp 32) (.tmp 33) 23 rfl 5 i0 (.int .u8 0) 1 1 Try.underlying23 hi hz0 hz1 hz2 rfl (by decide) (.slice (some ⟨w.heap.size, 0, none⟩) 0 0) 0 [] rfl (Own.lit w [] 0 (by decide) rfl) (.slice ao n cap) n (u8s l) rfl HVA.out (u8s_one _) (by unfold maxLen; omega) (by omega) ?_; intro ao1 cap1 w1 hown1 hgrow hat)
  simp only [Nat.zero_add, List.nil_append] at hown1 hat
  have HH0 := hid (((Held.start w).lit 5 1 [] 0 (by decide) rfl).app hown1 hgrow hat)
  clear hown1 hgrow hat
  go_loopg [12] 6 (fun kk t12 wr => ∃ (i : Nat) (m : List Nat), i ≤ 5 ∧ 5 - i < kk ∧ t12 = .int .i64 (i : Int) ∧ Hid (Bent l m k x i) ∧ Hid (∀ b ∈ m, b < 256) ∧ Hid (Held w wr [ownT 5 1 (.slice ao1 n cap1) n (u8s m)]))
  case atStart => exact ⟨0, l, by omega, by omega, rfl, Bent.start l k x, HB.out, HH0⟩
  case round =>
    obtain ⟨i, m, hi5, hk2, rfl, HBT, HMB, HH⟩ := hrel
    by_cases hi1 : i < 5
    · have hi2 : (i : Int) < 5 := by omega
      have hi3 : (0 : Int) ≤ (i : Int) := Int.natCast_nonneg _
      obtain ⟨g, off, rfl, hcell, hfr, hput⟩ := HH.out.own.spot (by omega)
      obtain ⟨p, hp⟩ : ∃ p, p = k + i := ⟨_, rfl⟩
      have hpI : (k : Int) + (i : Int) = (p : Int) := by omega
      have hpn : (p : Int) < (n : Int) := by omega
      have hpn' : p < n := by omega
      have hp0 : (0 : Int) ≤ (p : Int) := Int.natCast_nonneg _
      obtain ⟨q, hq⟩ : ∃ q, q = 8 * i := ⟨_, rfl⟩
      have hqI : 8 * (i : Int) = (q : Int) := by omega
      have hq64 : (q : Int) < 64 := by omega
      have hq0 : (0 : Int) ≤ (q : Int) := Int.natCast_nonneg _
      obtain ⟨y, hy⟩ : ∃ y, y = x / 2 ^ q := ⟨_, rfl⟩
      have hyI : (x : Int) / 2 ^ q = (y : Int) := by rw [hy]; simp
      obtain ⟨c, hc⟩ : ∃ c, c = y % 256 := ⟨_, rfl⟩
      have hcI : (y : Int) % 256 = (c : Int) := by omega
      have hc256 : c < 256 := by omega
      have hcE : Hid (c = x / 256 ^ i % 256) := by unfold Hid; rw [hc, hy, hq, Nat.pow_mul]
      obtain ⟨b, hb⟩ : ∃ b, l[k + i]? = some b := ⟨l[k + i]'(by have := HN.out; omega), List.getElem?_eq_getElem _⟩
      have hb256 : b < 256 := HB.out b (List.mem_of_getElem? hb)
      have hcell1 : wr.cell? ⟨g, off + p, none⟩ = some (.int .u8 (b : Int)) := hcell p _ (by rw [u8s_get, hp, HBT.out.here hb]; rfl)
      have hfr1 := hfr p
      obtain ⟨z, hz⟩ : ∃ z, z = b ^^^ c := ⟨_, rfl⟩
      have hz8 : z < 256 := by rw [hz]; exact Nat.xor_lt_two_pow (n := 8) hb256 hc256
      have hzI : bits .xor .u8 (b : Int) (c : Int) = (z : Int) := by rw [hz]; exact u8_xor_nat b c hb256 hc256
      have HH2 := hid (HH.out.putOwn (hput p (.int .u8 (z : Int)) hpn') (Mod.set wr g (off + p) _))
      have HS : Hid ((u8s m).set p (.int .u8 (z : Int)) = u8s (m.set (k + i) (b ^^^ (x / 256 ^ i % 256)))) := by
        unfold Hid; rw [hz, hcE.out, hp]; exact nums_set .u8 m (k + i) _
      have HBT2 := hid (HBT.out.step hb)
      have HMB2 : Hid (∀ b' ∈ m.set (k + i) (b ^^^ (x / 256 ^ i % 256)), b' < 256) := by
        intro b' hb'
        rcases List.mem_or_eq_of_mem_set hb' with h | h
        · exact HMB.out b' h
        · rw [h, ← hcE.out, ← hz]; exact hz8
      clear hcell hfr hput hb hz hq hy hc hp
      go_wp2
      go_roundg (gk - 1)
      case measure => omega
      case rel => exact ⟨i + 1, _, by omega, by omega, by go_num, HBT2, HMB2, by have h := HH2.out; rw [HS.out] at h; exact h⟩
    · obtain rfl : i = 5 := by omega
      have hi2 : ¬ ((5 : Nat) : Int) < 5 := by omega
      have hml : Hid (m.length = n) := by unfold Hid; rw [HBT.out.1, HN.out]
      obtain ⟨a, ha⟩ : ∃ a, a = crcOf 0 l := ⟨_, rfl⟩
      obtain ⟨b, hb⟩ : ∃ b, b = crcOf 0 m := ⟨_, rfl⟩
      have hne : a ≠ b := by
        rw [ha, hb]
        have h := HBT.out
        rw [HX.out] at h
        exact h.tell (by have := HN.out; omega) hb32 hbend hsh8
      have hneI : ((a : Int) != (b : Int)) = true := by simp; omega
      have hneJ : ((a : Int) == (b : Int)) = false := by simp; omega
      have HA := hid ha
      have HBB := hid hb
      have HNE := hid hne
      have HLT : Hid (l.length < 1000000000) := by unfold Hid; rw [← HN.out]; omega
      have HML : Hid (m.length < 1000000000) := by unfold Hid; rw [hml.out]; omega
      clear ha hb hne
      go_wp2_with fail
      refine (answers_any wr).mono ?_
      rintro e w3 ⟨rfl, hM3⟩
      have H3 := hid (HH.out.same hM3)
      clear hM3
      go_wp2_with fail
      have HV3 : Hid (Rd w3 1 (.slice ao n cap) l.length (u8s l)) := by
        have h := H3.out.old HV.out
        unfold Hid; exact h
      have HC := hid (crc_any 0 _ l w3 (by decide) HV3.out HB.out HLT.out)
      rw [← HA.out] at HC
      refine HC.out.mono ?_
      rintro e w4 ⟨rfl, hM4⟩
      have H4 := hid (H3.out.same hM4)
      clear hM4 HC
      go_wp2_with fail
      have HV4 : Hid (Rd w4 1 (.slice ao1 n cap1) m.length (u8s m)) := by
        have h := H4.out.own.rd
        unfold Hid; rw [hml.out]; exact h
      have HC := hid (crc_any 0 _ m w4 (by decide) HV4.out HMB.out HML.out)
      rw [← HBB.out] at HC
      refine HC.out.mono ?_
      rintro e w5 ⟨rfl, hM5⟩
      have H5 := hid (H4.out.same hM5)
      clear hM5 HC
      go_wp2
      go_ret
      exact ⟨rfl, H5.out.below⟩
end Go.Proofs.Ytolapfhajbldiaa
