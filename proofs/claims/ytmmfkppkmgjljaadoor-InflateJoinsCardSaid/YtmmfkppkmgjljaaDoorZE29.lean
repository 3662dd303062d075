/-
  A stored block, a fixed one with one match, a stored one: what they mean.
-/
import Derived.Test.YtmmfkppkmgjljaaDoorZE28
namespace Go.Proofs.YtmmfkppkmgjljaaDoor
set_option maxRecDepth 5000
open Go.RowKit
def joinA (a : List Nat) (k d c q : Nat) : List Nat :=
  [0, 0, 0] ++ [0, 0, 0, 0, 0] ++ bitsOf 16 a.length ++ bitsOf 16 (65535 - a.length) ++ bits8 a ++ [0, 1, 0] ++ lenBits k c ++ distBits d q ++ [0, 0, 0, 0, 0, 0, 0]
def joinL (a b : List Nat) (k d c q : Nat) : List Nat := evened (joinA a k d c q ++ [1, 0, 0]) ++ bitsOf 16 b.length ++ bitsOf 16 (65535 - b.length) ++ bits8 b
theorem joinA_is (a : List Nat) (k d c q : Nat) : joinA a k d c q = (bitsOf 3 0 ++ storedBits 3 a) ++ (bitsOf 3 2 ++ (lenBits k c ++ distBits d q ++ symBits fixLit 256)) := by
  have h1 : bitsOf 3 0 = [0, 0, 0] := by decide
  have h2 : bitsOf 3 2 = [0, 1, 0] := by decide
  have h3 : symBits fixLit 256 = [0, 0, 0, 0, 0, 0, 0] := by decide +kernel
  have h4 : List.replicate (evenF 3 - 3) 0 = [0, 0, 0, 0, 0] := by decide
  unfold joinA storedBits
  rw [h1, h2, h3, h4]
  simp only [List.append_assoc]
theorem evened_stored (X b : List Nat) : evened (X ++ [1, 0, 0]) ++ bitsOf 16 b.length ++ bitsOf 16 (65535 - b.length) ++ bits8 b = X ++ (bitsOf 3 1 ++ (storedBits (X.length + 3) b ++ [])) := by
  have h1 : bitsOf 3 1 = [1, 0, 0] := by decide
  have h2 : (8 - (X ++ [1, 0, 0]).length % 8) % 8 = evenF (X.length + 3) - (X.length + 3) := by
    rw [List.length_append]
    show (8 - (X.length + 3) % 8) % 8 = _
    unfold evenF
    omega
  unfold evened storedBits
  rw [h1, h2]
  simp only [List.append_assoc, List.append_nil]
theorem joinL_is (a b : List Nat) (k d c q : Nat) : joinL a b k d c q = joinA a k d c q ++ (bitsOf 3 1 ++ (storedBits ((joinA a k d c q).length + 3) b ++ [])) := evened_stored _ b
theorem tok_join {a : List Nat} {k d : Nat} (h1 : 3 ≤ k) (h2 : k ≤ 258) (h3 : 1 ≤ d) (h4 : d ≤ a.length) (ha : a.length ≤ 400) : expT a [(0, (k : Int), (d : Int))] = (0, ext a d k) := by
  have hs : soundB (0, (k : Int), (d : Int)) = true := by
    unfold soundB
    rw [Bool.or_eq_true]
    exact .inr (decide_eq_true ⟨rfl, ⟨(by show (3 : Int) ≤ (k : Int); omega), (by show (k : Int) ≤ 258; omega)⟩, (by show (1 : Int) ≤ (d : Int); omega), (by show (d : Int) ≤ 32768; omega)⟩)
  have hm := stepT_match (acc := a) hs (show ((k : Int)) ≠ 0 by omega) (by show ¬ most < a.length + (k : Int).toNat; have : most = 16777216 := rfl; omega) (by show ¬ a.length < (d : Int).toNat; omega)
  rw [expT_cons, hm, if_pos rfl]
  rfl
theorem toks_join {k d c q : Nat} (h1 : 3 ≤ k) (h2 : k ≤ 258) (h3 : 1 ≤ d) (h4 : d ≤ 32768) (hc : CodeIs lB 29 k c) (hq : CodeIs dB 30 d q) : ToksBits fixLit fixDist [(0, (k : Int), (d : Int))] (lenBits k c ++ distBits d q ++ symBits fixLit 256) := by
  have e : lenBits k c ++ distBits d q = symBits fixLit (257 + c) ++ (bitsOf (lX c) (k - lB c) ++ (symBits fixDist q ++ bitsOf (dX q) (d - dB q))) := by
    unfold lenBits distBits
    simp only [List.append_assoc]
  rw [e]
  exact .cons _ _ [] _ (.ref k d c q hc h2 h1 hq h4 h3 (fix_has.1 c hc.1) (fix_has.2.1 q hq.1)) (.nil fix_has.2.2)
theorem storedBits_isBits (p : Nat) (raw : List Nat) : isBits (storedBits p raw) := by
  unfold storedBits
  refine isBits_append ?_ (isBits_append (bitsOf_isBits _ _) (isBits_append (bitsOf_isBits _ _) (bits8_isBits _)))
  intro b hb
  rw [(List.mem_replicate.1 hb).2]
  decide
theorem joinL_isBits (a b : List Nat) (k d c q : Nat) : isBits (joinL a b k d c q) := by
  rw [joinL_is, joinA_is]
  refine isBits_append (isBits_append (isBits_append (bitsOf_isBits _ _) (storedBits_isBits _ _)) (isBits_append (bitsOf_isBits _ _) (isBits_append (isBits_append (isBits_append (symBits_isBits _ _) (bitsOf_isBits _ _)) (isBits_append (symBits_isBits _ _) (bitsOf_isBits _ _))) (symBits_isBits _ _)))) (isBits_append (bitsOf_isBits _ _) (isBits_append (storedBits_isBits _ _) ?_))
  intro b hb
  cases hb
theorem joinL_mod (a b : List Nat) (k d c q : Nat) : (joinL a b k d c q).length % 8 = 0 := by
  unfold joinL
  have := evened_length (joinA a k d c q ++ [1, 0, 0])
  simp only [List.length_append, bitsOf_length, bits8_length] at this ⊢
  omega
theorem join_ref {a b : List Nat} {k d c q M : Nat} (ha : ∀ x ∈ a, x < 256) (hb : ∀ x ∈ b, x < 256) (hal : a.length ≤ 400) (hbl : b.length ≤ 400) (h1 : 3 ≤ k) (h2 : k ≤ 258) (h3 : 1 ≤ d) (h4 : d ≤ a.length) (hc : CodeIs lB 29 k c) (hq : CodeIs dB 30 d q) (hM : 2000 ≤ M) (f : Nat) :
    inflF (joinL a b k d c q) M (f + 3) 0 [] [] [] [] = ⟨0, (joinL a b k d c q).length, ext a d k ++ b, [(0, (k : Int), (d : Int))], [0, 1, 0], [a.length, a.length + k, a.length + k + b.length], ((joinL a b k d c q).length + 7) / 8⟩ := by
  have hx : (ext a d k).length = a.length + k := ext_length a d k
  have hT := toks_join h1 h2 h3 (by omega) hc hq
  have htok := tok_join h1 h2 h3 h4 hal
  have hA := joinA_is a k d c q
  have hL := joinL_is a b k d c q
  have hlast : isBits (bitsOf 3 1 ++ (storedBits ((joinA a k d c q).length + 3) b ++ [])) := isBits_append (bitsOf_isBits _ _) (isBits_append (storedBits_isBits _ _) (fun x hx => by cases hx))
  generalize lenBits k c ++ distBits d q ++ symBits fixLit 256 = T at hT hA
  have b0 := infl_more (l := []) (raw := a) (bs := storedBits 3 a) (out := []) (o := []) (pre := []) (post := bitsOf 3 2 ++ (T ++ (bitsOf 3 1 ++ (storedBits ((joinA a k d c q).length + 3) b ++ [])))) (tk := []) (kind := 0) (M := M) (f := f + 2) (ks := []) (ss := [])
    (.stored ha (by omega)) (by decide) (isBits_append (bitsOf_isBits _ _) (isBits_append hT.isBits hlast)) rfl (Nat.zero_le _) (by simp only [List.length_nil]; omega)
  have b1 := infl_more (l := [(0, (k : Int), (d : Int))]) (raw := []) (bs := T) (out := a) (o := ext a d k) (pre := bitsOf 3 0 ++ storedBits 3 a) (post := bitsOf 3 1 ++ (storedBits ((joinA a k d c q).length + 3) b ++ [])) (tk := []) (kind := 1) (M := M) (f := f + 1) (ks := [0]) (ss := [a.length])
    (.fixed T hT) (by decide) hlast htok (by omega) (by simp only [List.length_nil]; omega)
  have b2 := infl_last (l := []) (raw := b) (bs := storedBits ((joinA a k d c q).length + 3) b) (out := ext a d k) (o := ext a d k) (pre := joinA a k d c q) (post := []) (tk := [(0, (k : Int), (d : Int))]) (kind := 0) (M := M) (f := f) (ks := [0, 1]) (ss := [a.length, a.length + k])
    (.stored hb (by omega)) (by decide) (fun x hx => by cases hx) rfl (by omega) (by omega)
  have e0 : joinL a b k d c q = [] ++ (bitsOf 3 (2 * 0) ++ (storedBits 3 a ++ (bitsOf 3 2 ++ (T ++ (bitsOf 3 1 ++ (storedBits ((joinA a k d c q).length + 3) b ++ [])))))) := by
    rw [hL]
    conv => lhs; arg 1; rw [hA]
    simp only [List.append_assoc, List.nil_append, Nat.mul_zero]
  have e1 : joinL a b k d c q = (bitsOf 3 0 ++ storedBits 3 a) ++ (bitsOf 3 (2 * 1) ++ (T ++ (bitsOf 3 1 ++ (storedBits ((joinA a k d c q).length + 3) b ++ [])))) := by
    rw [hL]
    conv => lhs; arg 1; rw [hA]
    simp only [List.append_assoc]
  have e2 : joinL a b k d c q = joinA a k d c q ++ (bitsOf 3 (1 + 2 * 0) ++ (storedBits ((joinA a k d c q).length + 3) b ++ [])) := hL
  rw [← e0] at b0
  rw [← e1] at b1
  rw [← e2] at b2
  have l0 : ([] : List Nat).length + 3 + (storedBits 3 a).length = (bitsOf 3 0 ++ storedBits 3 a).length := by rw [List.length_append, bitsOf_length, List.length_nil, Nat.zero_add]
  have l1 : (bitsOf 3 0 ++ storedBits 3 a).length + 3 + T.length = (joinA a k d c q).length := by rw [hA]; simp only [List.length_append, bitsOf_length]; omega
  have l2 : (joinA a k d c q).length + 3 + (storedBits ((joinA a k d c q).length + 3) b).length = (joinL a b k d c q).length := by
    rw [hL]
    simp only [List.length_append, bitsOf_length, List.length_nil]
    omega
  rw [l0] at b0
  rw [l1] at b1
  rw [l2] at b2
  have o0 : outOf 0 a [] [] = a := by simp [outOf]
  have o1 : outOf 1 ([] : List Nat) a (ext a d k) = ext a d k := rfl
  have o2 : outOf 0 b (ext a d k) (ext a d k) = ext a d k ++ b := rfl
  have t0 : tksOf 0 [] ([] : List Tok) = [] := rfl
  have t1 : tksOf 1 [] [((0 : Int), (k : Int), (d : Int))] = [(0, (k : Int), (d : Int))] := rfl
  have t2 : tksOf 0 [((0 : Int), (k : Int), (d : Int))] [] = [(0, (k : Int), (d : Int))] := rfl
  rw [o0, t0] at b0
  rw [o1, t1, hx] at b1
  rw [o2, t2] at b2
  refine b0.trans (b1.trans (b2.trans ?_))
  rw [List.length_append, hx]
  rfl
theorem join_whole {a b : List Nat} {k d c q M : Nat} {t r : List Nat} {er : Nat} (ha : ∀ x ∈ a, x < 256) (hb : ∀ x ∈ b, x < 256) (hal : a.length ≤ 400) (hbl : b.length ≤ 400) (h1 : 3 ≤ k) (h2 : k ≤ 258) (h3 : 1 ≤ d) (h4 : d ≤ a.length) (hc : CodeIs lB 29 k c) (hq : CodeIs dB 30 d q) (hM : 2000 ≤ M)
    (hw : WholeIs M (bytesOf (joinL a b k d c q)) t r er) : er = 0 ∧ t = ext a d k ++ b ∧ r = [] := by
  have hB := bits8_bytesOf (joinL a b k d c q) (joinL_isBits a b k d c q) (joinL_mod a b k d c q)
  obtain ⟨f, hf⟩ : ∃ f, (joinL a b k d c q).length + 1 = f + 3 := by
    refine ⟨(joinL a b k d c q).length - 2, ?_⟩
    rw [joinL_is]
    simp only [List.length_append, bitsOf_length]
    omega
  have hi := join_ref (M := M) ha hb hal hbl h1 h2 h3 h4 hc hq hM f
  have hR : RefIs M (bytesOf (joinL a b k d c q)) 0 (((joinL a b k d c q).length + 7) / 8) (ext a d k ++ b) := by
    constructor <;> rw [hB, hf, hi]
  rcases inflF_ends (M := M) (joinL_isBits a b k d c q) (joinL_mod a b k d c q) ((joinL a b k d c q).length + 1) 0 [] [] [] [] (by omega) (Nat.zero_le _) (Nat.zero_le _) with ⟨g1, g2⟩ | ⟨g1, g2, g3, g4, g5, g6⟩
  · rw [hf, hi] at g1
    rcases g1 with g1 | g1 | g1 | g1 <;> cases g1
  · rw [hf, hi] at g6
    dsimp only at g6
    rw [List.drop_zero, List.drop_length, ← hB] at g6
    have g7 : Ends M .hd (bits8 (bytesOf (joinL a b k d c q))) [] 8 [] (ext a d k ++ b) := by rw [hB]; rw [hB] at g6; exact g6
    obtain ⟨w1, w2, w3⟩ := hw.of g7
    exact ⟨w2, w1, w3⟩
end Go.Proofs.YtmmfkppkmgjljaaDoor
/-
  The law InflateJoins.
-/
namespace Go.Proofs.YtmmfkppkmgjljaaDoor
set_option maxRecDepth 5000
open Go.RowKit
theorem lenBits_le {k c : Nat} (hc : CodeIs lB 29 k c) : (lenBits k c).length ≤ 20 := by
  have h1 := hc.1
  have h2 := lX_le c h1
  unfold lenBits
  rw [List.length_append, bitsOf_length]
  by_cases h : c < 23
  · rw [fix_low c h, hiBits_length]; omega
  · rw [fix_high c h1 (by omega), hiBits_length]; omega
theorem distBits_le {d c : Nat} (hc : CodeIs dB 30 d c) : (distBits d c).length ≤ 20 := by
  have h1 := hc.1
  have h2 := dX_le c h1
  unfold distBits
  rw [List.length_append, bitsOf_length, fix_dist c h1, hiBits_length]
  omega
section
variable {w0 w : World} {Rs : List Thing}
theorem own_len12 {v : Value} {n : Nat} {l : List Nat} (h : Held w0 w (ownT 5 1 v n (u8s l) :: Rs)) : n = l.length := by
  have := h.own.rd.1
  rw [u8s_length] at this
  omega
theorem h_even12 {v : Value} {n : Nat} {l : List Nat} (h : Held w0 w (ownT 5 1 v n (u8s l) :: Rs)) (hl : n < 100000) :
    Calls Tryd.prog 18 #[v] w fun e w' => ∃ (ao : Option Addr) (E cap : Nat), e = .returned (.slice ao E cap) ∧ E ≤ n + 7 ∧ Held w0 w' (ownT 5 1 (.slice ao E cap) E (u8s (evened l)) :: ownT 5 1 v n (u8s l) :: Rs) := by
  have hn := own_len12 h
  refine (h_even h v l (by rw [← hn]; exact h.own.rd) (by omega)).mono ?_
  rintro e w' ⟨u, rfl, hu⟩
  obtain ⟨ao, cap, rfl, _, _⟩ := hu.own.form
  exact ⟨ao, _, cap, rfl, by rw [hn]; exact evened_le l, hu⟩
theorem h_bytes12 {v : Value} {n : Nat} {l : List Nat} (h : Held w0 w (ownT 5 1 v n (u8s l) :: Rs)) (hb : isBits l) (hl : n < 100000) :
    Calls Tryd.prog 19 #[v] w fun e w' => ∃ (u : Value) (N : Nat), e = .returned u ∧ N = (bytesOf l).length ∧ N ≤ n ∧ Held w0 w' (ownT 5 1 u N (u8s (bytesOf l)) :: ownT 5 1 v n (u8s l) :: Rs) := by
  have hn := own_len12 h
  refine (h_bytes h v l (by rw [← hn]; exact h.own.rd) hb (by omega)).mono ?_
  rintro e w' ⟨u, rfl, hu⟩
  exact ⟨u, _, rfl, rfl, by rw [bytesOf_length, hn]; omega, hu⟩
end
set_option maxRecDepth 100000 in
set_option maxHeartbeats 12800000 in
theorem inflateJoins_at (v : Value) (a : List Int) (v2 : Value) (b : List Int) (dz nz : Int) (w : World) (hG : GlobI w) (hg : shIBs.good w [v] a) (hg2 : shIBs.good w [v2] b) (hdz : (Lit.int .u8 dz).wf = true) (hnz : (Lit.int .u8 nz).wf = true) :
    Calls Tryd.prog 6 #[v, v2, .int .u8 dz, .int .u8 nz] w fun e w' => e = .returned (.bool true) ∧ Below w.heap.size w w' := by
  obtain ⟨bs, hb, hv⟩ := ibs_of hg
  obtain ⟨cs, hcs, hv2⟩ := ibs_of hg2
  have hdb := Go.bounds_u8 hdz
  have hnb := Go.bounds_u8 hnz
  obtain ⟨dn, rfl⟩ := Int.eq_ofNat_of_zero_le hdb.1
  obtain ⟨nn, rfl⟩ := Int.eq_ofNat_of_zero_le hnb.1
  obtain ⟨i0, hi0, hz0, hz1, hz2⟩ := info_parts infoByte10
  clear hg hg2 hdz hnz
  obtain ⟨n, hn⟩ : ∃ n, n = bs.length := ⟨_, rfl⟩
  obtain ⟨m, hm⟩ : ∃ m, m = cs.length := ⟨_, rfl⟩
  rw [← hn] at hv
  rw [← hm] at hv2
  obtain ⟨ao, cap, rfl, _, _⟩ := hv.form
  obtain ⟨bo, bcap, rfl, _, _⟩ := hv2.form
  have hn0 : (0 : Int) ≤ (n : Int) := Int.natCast_nonneg _
  have hm0 : (0 : Int) ≤ (m : Int) := Int.natCast_nonneg _
  have HA := hid (fun (w' : World) (Rs : List Thing) (h : Held w w' Rs) => h_answers12 hG h)
  by_cases h1 : 400 < n ∨ 400 < m ∨ n = 0
  · have HA0 := hid (HA.out _ _ (Held.start w))
    have h2 : (400 : Int) < (n : Int) ∨ ((¬ (400 : Int) < (n : Int)) ∧ (400 : Int) < (m : Int)) ∨ ((¬ (400 : Int) < (n : Int)) ∧ (¬ (400 : Int) < (m : Int)) ∧ n = 0) := by omega
    clear hv hv2 hn hm HA h1
    rcases h2 with h2 | ⟨h2, h3⟩ | ⟨h2, h3, rfl⟩
    all_goals
      go_enter Tryd.func6, Tryd.ntmps6
      go_wp2_with fail
      with_reducible refine HA0.out.mono ?_
      rintro e w1 ⟨rfl, hh⟩
      have H1 := hid hh.mod.toBelow
      clear hh
      go_wp2
      go_ret
      exact ⟨rfl, H1.out⟩
  · have h2 : ¬ (400 : Int) < (n : Int) := by omega
    have h3 : ¬ (400 : Int) < (m : Int) := by omega
    have hnB : ((n : Int) == 0) = false := by simp; omega
    have hnI : ¬ (n : Int) = 0 := by omega
    have hn4 : n ≤ 400 := by omega
    have hm4 : m ≤ 400 := by omega
    obtain ⟨d0, hd0⟩ : ∃ d0, d0 = dn % n := ⟨_, rfl⟩
    have hd0n : d0 < n := by rw [hd0]; exact Nat.mod_lt _ (by omega)
    have hdI : (dn : Int) % (n : Int) = (d0 : Int) := by rw [hd0]; rfl
    have hdT : (dn : Int).tmod (n : Int) = (d0 : Int) := by rw [hd0]; rfl
    obtain ⟨d, hd⟩ : ∃ d, d = d0 + 1 := ⟨_, rfl⟩
    have hd1I : (d0 : Int) + 1 = (d : Int) := by omega
    have hkI : (nn : Int) % 256 = (nn : Int) := by omega
    have hkT : (nn : Int).tmod 256 = (nn : Int) := by rw [Int.tmod_eq_emod_of_nonneg (by omega)]; exact hkI
    obtain ⟨k, hk⟩ : ∃ k, k = nn + 3 := ⟨_, rfl⟩
    have hk3I : (nn : Int) + 3 = (k : Int) := by omega
    have hk258 : ¬ (258 : Int) < (k : Int) := by omega
    have hkb : 3 ≤ k ∧ k ≤ 258 := by omega
    have hdb2 : 1 ≤ d ∧ d ≤ n := by omega
    obtain ⟨n2, hn2⟩ : ∃ n2, n2 = 65535 - n := ⟨_, rfl⟩
    have hn2I : (65535 : Int) - (n : Int) = (n2 : Int) := by omega
    obtain ⟨m2, hm2⟩ : ∃ m2, m2 = 65535 - m := ⟨_, rfl⟩
    have hm2I : (65535 : Int) - (m : Int) = (m2 : Int) := by omega
    have hwn : IntKind.u32.wrap (n : Int) = (n : Int) := by rw [IntKind.wrap_u32]; omega
    have hwm : IntKind.u32.wrap (m : Int) = (m : Int) := by rw [IntKind.wrap_u32]; omega
    have hwn2 : IntKind.u32.wrap (n2 : Int) = (n2 : Int) := by rw [IntKind.wrap_u32]; omega
    have hwm2 : IntKind.u32.wrap (m2 : Int) = (m2 : Int) := by rw [IntKind.wrap_u32]; omega
    have hn2b : n2 ≤ 65535 := by omega
    have hm2b : m2 ≤ 65535 := by omega
    have hd00 : (0 : Int) ≤ (d0 : Int) := Int.natCast_nonneg _
    have hdn0 : (0 : Int) ≤ (dn : Int) := Int.natCast_nonneg _
    have HV := hid (And.intro hv hv2)
    have HB := hid (And.intro hn (And.intro hm (And.intro hn2 (And.intro hm2 (And.intro hb hcs)))))
    have HO1 := hid (show ∀ (w' : World) (Rs : List Thing), Held w w' Rs → Calls Tryd.prog 14 #[.int .u32 (n : Int), .int .i64 16] w' fun e w'' => ∃ v, e = .returned v ∧ Held w w'' (ownT 5 1 v 16 (u8s (bitsOf 16 bs.length)) :: Rs) from fun w' Rs h => by rw [← hn]; exact h_of h n 16 (by omega) (by decide))
    have HO2 := hid (show ∀ (w' : World) (Rs : List Thing), Held w w' Rs → Calls Tryd.prog 14 #[.int .u32 (n2 : Int), .int .i64 16] w' fun e w'' => ∃ v, e = .returned v ∧ Held w w'' (ownT 5 1 v 16 (u8s (bitsOf 16 (65535 - bs.length))) :: Rs) from fun w' Rs h => by rw [← hn, ← hn2]; exact h_of h n2 16 (by omega) (by decide))
    have HO3 := hid (show ∀ (w' : World) (Rs : List Thing), Held w w' Rs → Calls Tryd.prog 14 #[.int .u32 (m : Int), .int .i64 16] w' fun e w'' => ∃ v, e = .returned v ∧ Held w w'' (ownT 5 1 v 16 (u8s (bitsOf 16 cs.length)) :: Rs) from fun w' Rs h => by rw [← hm]; exact h_of h m 16 (by omega) (by decide))
    have HO4 := hid (show ∀ (w' : World) (Rs : List Thing), Held w w' Rs → Calls Tryd.prog 14 #[.int .u32 (m2 : Int), .int .i64 16] w' fun e w'' => ∃ v, e = .returned v ∧ Held w w'' (ownT 5 1 v 16 (u8s (bitsOf 16 (65535 - cs.length))) :: Rs) from fun w' Rs h => by rw [← hm, ← hm2]; exact h_of h m2 16 (by omega) (by decide))
    have HC1 := hid (show ∀ (w' : World) (Rs : List Thing), Held w w' Rs → Calls Tryd.prog 15 #[.slice ao n cap] w' fun e w'' => ∃ v, e = .returned v ∧ Held w w'' (ownT 5 1 v (8 * n) (u8s (bits8 bs)) :: Rs) from fun w' Rs h => by
      have h1 := h_bits h (.slice ao n cap) bs (by rw [← hn]; exact h.old hv) hb (by omega)
      rw [← hn] at h1
      exact h1)
    have HC2 := hid (show ∀ (w' : World) (Rs : List Thing), Held w w' Rs → Calls Tryd.prog 15 #[.slice bo m bcap] w' fun e w'' => ∃ v, e = .returned v ∧ Held w w'' (ownT 5 1 v (8 * m) (u8s (bits8 cs)) :: Rs) from fun w' Rs h => by
      have h1 := h_bits h (.slice bo m bcap) cs (by rw [← hm]; exact h.old hv2) hcs (by omega)
      rw [← hm] at h1
      exact h1)
    have HG := hid hG
    have HL0 : Hid (Held w ((w.alloc (.cells #[.int .u8 0, .int .u8 0, .int .u8 0] 5)).alloc (.cells #[.int .u8 0, .int .u8 0, .int .u8 0, .int .u8 0, .int .u8 0] 5)) (ownT 5 1 (.slice (some ⟨w.heap.size + 1, 0, none⟩) 5 5) 5 (u8s [0, 0, 0, 0, 0]) :: ownT 5 1 (.slice (some ⟨w.heap.size, 0, none⟩) 3 3) 3 (u8s [0, 0, 0]) :: [])) := by
      have h := (Held.start w).lit 5 1 (u8s [0, 0, 0]) 3 (by decide) rfl
      have e : (w.alloc (.cells (u8s [0, 0, 0]).toArray 5)).heap.size = w.heap.size + 1 := by simp
      have h2 := h.lit 5 1 (u8s [0, 0, 0, 0, 0]) 5 (by decide) rfl
      rw [e] at h2
      exact hid h2
    clear hv hv2 hn hm hn2 hm2 hb hcs h1 hd hk hd0 hG
    go_enter Tryd.func6, Tryd.ntmps6
    go_wp2_with (at_builtin; refine wpList_app_held rfl (.tmp 43) (.tmp 44) 22 rfl 5 i0 (.int .u8 0) 1 1 Tryd.underlying22 hi0 hz0 hz1 hz2 rfl (by decide) (.slice (some ⟨w.heap.size, 0, none⟩) 3 3) 3 (u8s [0, 0, 0]) rfl HL0.out.swap (.slice (some ⟨w.heap.size + 1, 0, none⟩) 5 5) 5 (u8s [0, 0, 0, 0, 0]) rfl HL0.out.own.rd (u8s_one _) 8 rfl (by unfold maxLen; decide) (by decide) ?_; intro a1 c1 w1 h1; rw [← u8s_append] at h1; have H1 := hid h1.swap.drop; clear h1)
    have HO := hid (HO1.out _ _ H1.out)
    go_wp2_with fail
    with_reducible refine HO.out.mono ?_
    rintro e wy1 ⟨y, rfl, hy⟩
    have HY := hid hy
    clear hy HO H1
    obtain ⟨L2, hL2⟩ : ∃ L, L = 8 + 16 := ⟨_, rfl⟩
    have hB2 : L2 ≤ 24 := by omega
    have HL2 := hid hL2
    clear hL2
    go_wp2_with (at_builtin; refine wpList_app_held rfl (.tmp 46) (.tmp 50) 22 rfl 5 i0 (.int .u8 0) 1 1 Tryd.underlying22 hi0 hz0 hz1 hz2 rfl (by decide) (.slice a1 8 c1) 8 _ rfl HY.out.swap y (16) _ rfl HY.out.own.rd (u8s_one _) L2 HL2.out (by unfold maxLen; omega) (by omega) ?_; intro a2 c2 w2 h2; rw [← u8s_append] at h2; have H2 := hid h2.swap.drop; clear h2)
    clear HY
    have HO := hid (HO2.out _ _ H2.out)
    go_wp2_with fail
    with_reducible refine HO.out.mono ?_
    rintro e wy2 ⟨y, rfl, hy⟩
    have HY := hid hy
    clear hy HO H2
    obtain ⟨L3, hL3⟩ : ∃ L, L = L2 + 16 := ⟨_, rfl⟩
    have hB3 : L3 ≤ 40 := by omega
    have HL3 := hid hL3
    clear hL3
    go_wp2_with (at_builtin; refine wpList_app_held rfl (.tmp 52) (.tmp 57) 22 rfl 5 i0 (.int .u8 0) 1 1 Tryd.underlying22 hi0 hz0 hz1 hz2 rfl (by decide) (.slice a2 L2 c2) L2 _ rfl HY.out.swap y (16) _ rfl HY.out.own.rd (u8s_one _) L3 HL3.out (by unfold maxLen; omega) (by omega) ?_; intro a3 c3 w3 h3; rw [← u8s_append] at h3; have H3 := hid h3.swap.drop; clear h3)
    clear HY
    have HO := hid (HC1.out _ _ H3.out)
    go_wp2_with fail
    with_reducible refine HO.out.mono ?_
    rintro e wy3 ⟨y, rfl, hy⟩
    have HY := hid hy
    clear hy HO H3
    obtain ⟨L4, hL4⟩ : ∃ L, L = L3 + 8 * n := ⟨_, rfl⟩
    have hB4 : L4 ≤ 3240 := by omega
    have HL4 := hid hL4
    clear hL4
    obtain ⟨L5, hL5⟩ : ∃ L, L = L4 + 3 := ⟨_, rfl⟩
    have hB5 : L5 ≤ 3243 := by omega
    have HL5 := hid hL5
    clear hL5
    go_wp2_with (first | (at_builtin; refine wpList_app_held rfl (.tmp 59) (.tmp 61) 22 rfl 5 i0 (.int .u8 0) 1 1 Tryd.underlying22 hi0 hz0 hz1 hz2 rfl (by decide) (.slice a3 L3 c3) L3 _ rfl HY.out.swap y (8 * n) _ rfl HY.out.own.rd (u8s_one _) L4 HL4.out (by unfold maxLen; omega) (by omega) ?_; intro a4 c4 w4 h4; rw [← u8s_append] at h4; have H4 := hid h4.swap.drop; clear h4; have HZ4 : Hid (Held w (w4.alloc (.cells #[.int .u8 0, .int .u8 1, .int .u8 0] 5)) (ownT 5 1 (.slice (some ⟨w4.heap.size, 0, none⟩) 3 3) 3 (u8s [0, 1, 0]) :: _)) := hid (H4.out.lit 5 1 (u8s [0, 1, 0]) 3 (by decide) rfl); clear H4) | (at_builtin; refine wpList_app_held rfl (.tmp 63) (.tmp 64) 22 rfl 5 i0 (.int .u8 0) 1 1 Tryd.underlying22 hi0 hz0 hz1 hz2 rfl (by decide) (.slice a4 L4 c4) L4 _ rfl HZ4.out.swap (.slice (some ⟨w4.heap.size, 0, none⟩) 3 3) (3) _ rfl HZ4.out.own.rd (u8s_one _) L5 HL5.out (by unfold maxLen; omega) (by omega) ?_; intro a5 c5 w5 h5; rw [← u8s_append] at h5; have H5 := hid h5.swap.drop; clear h5; clear HZ4))
    try clear HY
    have HO := hid (length_any k H5.out hkb.1 hkb.2)
    go_wp2_with fail
    with_reducible refine HO.out.mono ?_
    rintro e wy5 ⟨y, nl, c, rfl, hc, hnl, hy⟩
    have hnl20 : nl ≤ 20 := by rw [hnl]; exact lenBits_le hc
    have HCC := hid hc
    clear hc hnl
    have HY := hid hy
    clear hy HO H5
    obtain ⟨L6, hL6⟩ : ∃ L, L = L5 + nl := ⟨_, rfl⟩
    have hB6 : L6 ≤ 3263 := by omega
    have HL6 := hid hL6
    clear hL6
    go_wp2_with (at_builtin; refine wpList_app_held rfl (.tmp 66) (.tmp 68) 22 rfl 5 i0 (.int .u8 0) 1 1 Tryd.underlying22 hi0 hz0 hz1 hz2 rfl (by decide) (.slice a5 L5 c5) L5 _ rfl HY.out.swap y (nl) _ rfl HY.out.own.rd (u8s_one _) L6 HL6.out (by unfold maxLen; omega) (by omega) ?_; intro a6 c6 w6 h6; rw [← u8s_append] at h6; have H6 := hid h6.swap.drop; clear h6)
    clear HY
    have HO := hid (distance_any d H6.out hdb2.1 (by omega))
    go_wp2_with fail
    with_reducible refine HO.out.mono ?_
    rintro e wy6 ⟨y, nd, q, rfl, hq, hnd, hy⟩
    have hnd20 : nd ≤ 20 := by rw [hnd]; exact distBits_le hq
    have HCQ := hid hq
    clear hq hnd
    have HY := hid hy
    clear hy HO H6
    obtain ⟨L7, hL7⟩ : ∃ L, L = L6 + nd := ⟨_, rfl⟩
    have hB7 : L7 ≤ 3283 := by omega
    have HL7 := hid hL7
    clear hL7
    obtain ⟨L8, hL8⟩ : ∃ L, L = L7 + 7 := ⟨_, rfl⟩
    have hB8 : L8 ≤ 3290 := by omega
    have HL8 := hid hL8
    clear hL8
    obtain ⟨L9, hL9⟩ : ∃ L, L = L8 + 3 := ⟨_, rfl⟩
    have hB9 : L9 ≤ 3293 := by omega
    have HL9 := hid hL9
    clear hL9
    go_wp2_with (first | (at_builtin; refine wpList_app_held rfl (.tmp 70) (.tmp 72) 22 rfl 5 i0 (.int .u8 0) 1 1 Tryd.underlying22 hi0 hz0 hz1 hz2 rfl (by decide) (.slice a6 L6 c6) L6 _ rfl HY.out.swap y (nd) _ rfl HY.out.own.rd (u8s_one _) L7 HL7.out (by unfold maxLen; omega) (by omega) ?_; intro a7 c7 w7 h7; rw [← u8s_append] at h7; have H7 := hid h7.swap.drop; clear h7; have HZ7 : Hid (Held w (w7.alloc (.cells #[.int .u8 0, .int .u8 0, .int .u8 0, .int .u8 0, .int .u8 0, .int .u8 0, .int .u8 0] 5)) (ownT 5 1 (.slice (some ⟨w7.heap.size, 0, none⟩) 7 7) 7 (u8s [0, 0, 0, 0, 0, 0, 0]) :: _)) := hid (H7.out.lit 5 1 (u8s [0, 0, 0, 0, 0, 0, 0]) 7 (by decide) rfl); clear H7) | (at_builtin; refine wpList_app_held rfl (.tmp 74) (.tmp 75) 22 rfl 5 i0 (.int .u8 0) 1 1 Tryd.underlying22 hi0 hz0 hz1 hz2 rfl (by decide) (.slice a7 L7 c7) L7 _ rfl HZ7.out.swap (.slice (some ⟨w7.heap.size, 0, none⟩) 7 7) (7) _ rfl HZ7.out.own.rd (u8s_one _) L8 HL8.out (by unfold maxLen; omega) (by omega) ?_; intro a8 c8 w8 h8; rw [← u8s_append] at h8; have H8 := hid h8.swap.drop; clear h8; clear HZ7; have HZ8 : Hid (Held w (w8.alloc (.cells #[.int .u8 1, .int .u8 0, .int .u8 0] 5)) (ownT 5 1 (.slice (some ⟨w8.heap.size, 0, none⟩) 3 3) 3 (u8s [1, 0, 0]) :: _)) := hid (H8.out.lit 5 1 (u8s [1, 0, 0]) 3 (by decide) rfl); clear H8) | (at_builtin; refine wpList_app_held rfl (.tmp 77) (.tmp 78) 22 rfl 5 i0 (.int .u8 0) 1 1 Tryd.underlying22 hi0 hz0 hz1 hz2 rfl (by decide) (.slice a8 L8 c8) L8 _ rfl HZ8.out.swap (.slice (some ⟨w8.heap.size, 0, none⟩) 3 3) (3) _ rfl HZ8.out.own.rd (u8s_one _) L9 HL9.out (by unfold maxLen; omega) (by omega) ?_; intro a9 c9 w9 h9; rw [← u8s_append] at h9; have H9 := hid h9.swap.drop; clear h9; clear HZ8))
    try clear HY
    have HO := hid (h_even12 H9.out (by omega))
    go_wp2_with fail
    with_reducible refine HO.out.mono ?_
    rintro e w10 ⟨a10, L10, c10, rfl, hE, hy⟩
    have hB10 : L10 ≤ 3300 := by omega
    have H10 := hid hy.swap.drop
    clear hy HO H9
    have HO := hid (HO3.out _ _ H10.out)
    go_wp2_with fail
    with_reducible refine HO.out.mono ?_
    rintro e wy10 ⟨y, rfl, hy⟩
    have HY := hid hy
    clear hy HO H10
    obtain ⟨L11, hL11⟩ : ∃ L, L = L10 + 16 := ⟨_, rfl⟩
    have hB11 : L11 ≤ 3316 := by omega
    have HL11 := hid hL11
    clear hL11
    go_wp2_with (at_builtin; refine wpList_app_held rfl (.tmp 81) (.tmp 85) 22 rfl 5 i0 (.int .u8 0) 1 1 Tryd.underlying22 hi0 hz0 hz1 hz2 rfl (by decide) (.slice a10 L10 c10) L10 _ rfl HY.out.swap y (16) _ rfl HY.out.own.rd (u8s_one _) L11 HL11.out (by unfold maxLen; omega) (by omega) ?_; intro a11 c11 w11 h11; rw [← u8s_append] at h11; have H11 := hid h11.swap.drop; clear h11)
    clear HY
    have HO := hid (HO4.out _ _ H11.out)
    go_wp2_with fail
    with_reducible refine HO.out.mono ?_
    rintro e wy11 ⟨y, rfl, hy⟩
    have HY := hid hy
    clear hy HO H11
    obtain ⟨L12, hL12⟩ : ∃ L, L = L11 + 16 := ⟨_, rfl⟩
    have hB12 : L12 ≤ 3332 := by omega
    have HL12 := hid hL12
    clear hL12
    go_wp2_with (at_builtin; refine wpList_app_held rfl (.tmp 87) (.tmp 92) 22 rfl 5 i0 (.int .u8 0) 1 1 Tryd.underlying22 hi0 hz0 hz1 hz2 rfl (by decide) (.slice a11 L11 c11) L11 _ rfl HY.out.swap y (16) _ rfl HY.out.own.rd (u8s_one _) L12 HL12.out (by unfold maxLen; omega) (by omega) ?_; intro a12 c12 w12 h12; rw [← u8s_append] at h12; have H12 := hid h12.swap.drop; clear h12)
    clear HY
    have HO := hid (HC2.out _ _ H12.out)
    go_wp2_with fail
    with_reducible refine HO.out.mono ?_
    rintro e wy12 ⟨y, rfl, hy⟩
    have HY := hid hy
    clear hy HO H12
    obtain ⟨L13, hL13⟩ : ∃ L, L = L12 + 8 * m := ⟨_, rfl⟩
    have hB13 : L13 ≤ 6532 := by omega
    have HL13 := hid hL13
    clear hL13
    go_wp2_with (first | (at_builtin; refine wpList_app_held rfl (.tmp 94) (.tmp 96) 22 rfl 5 i0 (.int .u8 0) 1 1 Tryd.underlying22 hi0 hz0 hz1 hz2 rfl (by decide) (.slice a12 L12 c12) L12 _ rfl HY.out.swap y (8 * m) _ rfl HY.out.own.rd (u8s_one _) L13 HL13.out (by unfold maxLen; omega) (by omega) ?_; intro a13 c13 w13 h13; rw [← u8s_append] at h13; have H13 := hid h13.swap.drop; clear h13; have HX : Hid (Held w w13 (ownT 5 1 (.slice a13 L13 c13) L13 (u8s (joinL bs cs k d c q)) :: [])) := H13; have HZ13 : Hid (Held w (w13.alloc (.cells #[] 5)) (ownT 5 1 (.slice (some ⟨w13.heap.size, 0, none⟩) 0 0) 0 (u8s []) :: _)) := hid (HX.out.lit 5 1 [] 0 (by decide) rfl); clear H13) | (at_builtin; refine wpList_app_held rfl (.tmp 98) (.tmp 99) 22 rfl 5 i0 (.int .u8 0) 1 1 Tryd.underlying22 hi0 hz0 hz1 hz2 rfl (by decide) (.slice (some ⟨w13.heap.size, 0, none⟩) 0 0) 0 _ rfl HZ13.out (.slice ao n cap) n _ rfl (HZ13.out.old HV.out.1) (u8s_one _) n (Nat.zero_add n).symm (by unfold maxLen; omega) (by omega) ?_; intro a14 c14 w14 h14; rw [← u8s_append, List.nil_append] at h14; have H14 := hid h14; clear h14 HZ13))
    try clear HY
    clear HX HO1 HO2 HO3 HO4 HC1 HC2 HL2 HL3 HL4 HL5 HL6 HL7 HL8 HL9 HL11 HL12 HL13
    clear hB2 hB3 hB4 hB5 hB6 hB7 hB8 hB9 hB10 hB11 hB12
    go_loopg [12, 13] (k + 2) (fun g t12 t13 wr => ∃ (i L : Nat) (al : Option Addr) (cl : Nat), i ≤ k ∧ k - i < g ∧ t13 = .int .i64 (i : Int) ∧ Hid (L = n + i) ∧ L ≤ 700 ∧ t12 = .slice al L cl ∧ Hid (Held w wr (ownT 5 1 (.slice al L cl) L (u8s (ext bs d i)) :: ownT 5 1 (.slice a13 L13 c13) L13 (u8s (joinL bs cs k d c q)) :: [])))
    case atStart => exact ⟨0, n, a14, c14, by omega, by omega, rfl, hid rfl, by omega, rfl, H14⟩
    case round =>
      obtain ⟨i, L, al, cl, hik, hgk, rfl, HLE, hL7, rfl, HH⟩ := hrel
      clear H14
      have hi0' : (0 : Int) ≤ (i : Int) := Int.natCast_nonneg _
      by_cases hi : i < k
      · have hiI : (i : Int) < (k : Int) := by omega
        obtain ⟨j, hj⟩ : ∃ j, j = L - d := ⟨_, rfl⟩
        have hLn := HLE.out
        have hjI : (L : Int) - (d : Int) = (j : Int) := by omega
        have hjL : j < L := by omega
        have hjLI : (j : Int) < (L : Int) := by omega
        have hj0 : (0 : Int) ≤ (j : Int) := Int.natCast_nonneg _
        have hel : (ext bs d i).length = L := by rw [ext_length, ← HB.out.1]; omega
        obtain ⟨x, hx⟩ : ∃ x, (ext bs d i)[j]? = some x := ⟨_, List.getElem?_eq_getElem (by rw [hel]; exact hjL)⟩
        have hnext : ext bs d (i + 1) = ext bs d i ++ [x] := by
          rw [ext, ← HB.out.1, show n + i - d = j by omega, hx]
          rfl
        have HNX := hid hnext
        obtain ⟨g1, off, rfl, hcell, _, _⟩ := HH.out.own.site (by omega)
        have c1 := hcell j (.int .u8 (x : Int)) (by rw [u8s_get, hx]; rfl)
        have HZ : Hid (Held w (wr.alloc (.cells #[.int .u8 (x : Int)] 5)) (ownT 5 1 (.slice (some ⟨wr.heap.size, 0, none⟩) 1 1) 1 (u8s [x]) :: _)) := hid (HH.out.lit 5 1 (u8s [x]) 1 (by decide) rfl)
        have HJ := hid (And.intro hj (And.intro hLn hel))
        clear hj hLn hel hx hnext hcell
        go_wp2_with (at_builtin; refine wpList_app_held rfl (.tmp 106) (.tmp 114) 22 rfl 5 i0 (.int .u8 0) 1 1 Tryd.underlying22 hi0 hz0 hz1 hz2 rfl (by decide) (.slice (some ⟨g1, off, none⟩) L cl) L _ rfl HZ.out.swap (.slice (some ⟨wr.heap.size, 0, none⟩) 1 1) 1 _ rfl HZ.out.own.rd (u8s_one _) (L + 1) rfl (by unfold maxLen; omega) (by omega) ?_; intro a2 c2 w2 h2; rw [← u8s_append, ← HNX.out] at h2; have H2 := hid h2.swap.drop; clear h2)
        go_roundg (gk - 1)
        case measure => omega
        case rel => exact ⟨i + 1, L + 1, a2, c2, by omega, by omega, by go_num, hid (by have := HJ.out.2.1; omega), by have := HJ.out.2.1; omega, rfl, H2⟩
      · obtain rfl : i = k := by omega
        have hiI : ¬ (i : Int) < (i : Int) := by omega
        obtain ⟨Z, hZ⟩ : ∃ Z, Z = L + m := ⟨_, rfl⟩
        have hZ2 : Z ≤ 1100 := by omega
        have HZE := hid hZ
        clear hZ
        go_wp2_with (at_builtin; refine wpList_app_held rfl (.tmp 116) (.tmp 117) 22 rfl 5 i0 (.int .u8 0) 1 1 Tryd.underlying22 hi0 hz0 hz1 hz2 rfl (by decide) (.slice al L cl) L _ rfl HH.out (.slice bo m bcap) m _ rfl (HH.out.old HV.out.2) (u8s_one _) Z HZE.out (by unfold maxLen; omega) (by omega) ?_; intro a2 c2 w2 h2; rw [← u8s_append] at h2; have H2 := hid h2; clear h2)
        have HO := hid (h_bytes12 H2.out.swap (joinL_isBits bs cs i d c q) (by omega))
        go_wp2_with fail
        with_reducible refine HO.out.mono ?_
        rintro e w3 ⟨u, N, rfl, hN, hNL, hy⟩
        have HW := hid (whole_any (M := 1048576) u N (bytesOf (joinL bs cs i d c q)) 1048576 HG.out (by decide) (by decide) hy (fun w' h => h.own.rd) (bytesOf_lt _ (joinL_isBits bs cs i d c q)) hN (by rw [bits8_length, ← hN]; unfold bigD; omega))
        clear hy HO hN
        go_wp2_with fail
        with_reducible refine HW.out.mono ?_
        rintro e w4 ⟨x, y, t, r, er, rfl, hw, h4⟩
        obtain ⟨rfl, ht, hr⟩ := join_whole HB.out.2.2.2.2.1 HB.out.2.2.2.2.2 (by rw [← HB.out.1]; exact hn4) (by rw [← HB.out.2.1]; exact hm4) hkb.1 hkb.2 hdb2.1 (by rw [← HB.out.1]; exact hdb2.2) HCC.out HCQ.out (by decide) hw
        subst hr
        obtain ⟨ay, cy, rfl, _, _⟩ : ∃ ay cy, y = .slice ay 0 cy ∧ _ ∧ _ := h4.swap.own.form
        obtain ⟨ax, nx, cx, rfl⟩ : ∃ ax nx cx, x = .slice ax nx cx := by obtain ⟨ax, cx, h, _⟩ := h4.own.form; exact ⟨_, _, _, h⟩
        have HT := hid ht
        have HA4 := hid (HA.out _ _ h4)
        clear h4 HW hw ht
        go_wp2_with fail
        with_reducible refine HA4.out.mono ?_
        rintro e w5 ⟨rfl, h5⟩
        have hlt := own_len12 h5.drop.drop.drop.drop
        have hS : Calls Tryd.prog 10 #[.slice ax nx cx, .slice a2 Z c2] w5 _ := h_same_eq h5 (.slice ax nx cx) (.slice a2 Z c2) t (ext bs d i ++ cs) HT.out h5.own.rd (by rw [← hlt]; exact h5.drop.drop.drop.drop.own.rd) (by rw [HT.out, ← hlt]; omega)
        have HS := hid hS
        clear h5 HA4 hlt hS
        go_wp2_with fail
        with_reducible refine HS.out.mono ?_
        rintro e w6 ⟨rfl, h6⟩
        have H6 := hid h6.mod.toBelow
        clear h6 HS
        go_wp2
        go_ret
        exact ⟨rfl, H6.out⟩
end Go.Proofs.YtmmfkppkmgjljaaDoor
