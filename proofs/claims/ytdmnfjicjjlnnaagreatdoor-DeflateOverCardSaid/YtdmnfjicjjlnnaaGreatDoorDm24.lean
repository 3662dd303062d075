/-
  The head of a dynamic block made: items, the third code, how many bits.
-/
import Derived.Test.YtdmnfjicjjlnnaaGreatDoorDm18
import Derived.Test.YtdmnfjicjjlnnaaGreatDoorDm23
import Derived.Test.YtdmnfjicjjlnnaaGreatDoorDm04
import Derived.Handy
namespace Go.Proofs.YtdmnfjicjjlnnaaGreatDoor
set_option maxRecDepth 5000
open Go.RowKit
theorem frqN_snoc (xs : List Item) (x : Item) (k : Nat) : frqN (xs ++ [x]) k = frqN xs k + (if x.1 = k then 1 else 0) := by
  simp only [frqN, List.countP_append, List.countP_cons, List.countP_nil, decide_eq_true_eq]; omega
theorem frqF_set (xs : List Item) (x : Item) : (frqF xs).set x.1 (frqN xs x.1 + 1) = frqF (xs ++ [x]) := by
  refine get_eq_of (by simp [frqF]) fun k hk => ?_
  have hk : k < 19 := by rw [frqF_length] at hk; exact hk
  rw [List.getElem?_set, frqF_get _ hk, frqF_get _ hk, frqN_snoc, frqF_length]
  by_cases c : x.1 = k
  · subst c
    rw [if_pos rfl, if_pos (by omega), if_pos rfl]
  · rw [if_neg c, if_neg c, Nat.add_zero]
def extI (xs : List Item) : Nat := (xs.map fun x => x.2.1).sum
theorem extI_snoc (xs : List Item) (x : Item) : extI (xs ++ [x]) = extI xs + x.2.1 := by simp [extI]
theorem extI_le : ∀ xs : List Item, (∀ x ∈ xs, x.2.1 ≤ 7) → extI xs ≤ 7 * xs.length
  | [], _ => Nat.le_refl _
  | x :: xs, h => by
    have h1 := extI_le xs fun y hy => h y (List.mem_cons_of_mem _ hy)
    have h2 := h x (List.mem_cons_self ..)
    simp only [extI, List.map_cons, List.sum_cons, List.length_cons] at h1 ⊢
    omega
theorem itemsB_length (hd : List Int) : ∀ xs : List Item, (∀ x ∈ xs, x.1 < 19) → (itemsB hd xs).length = csum hd (frqN xs) 19 + extI xs
  | [], _ => by
    rw [csum_zero hd (frqN []) 19 (fun _ _ => rfl)]; rfl
  | x :: xs, h => by
    have ih := itemsB_length hd xs fun y hy => h y (List.mem_cons_of_mem _ hy)
    have e1 : frqN (x :: xs) = fun k => frqN xs k + (if x.1 = k then 1 else 0) := by
      funext k
      simp only [frqN, List.countP_cons, decide_eq_true_eq]
    have e2 : extI (x :: xs) = x.2.1 + extI xs := by simp [extI]
    have e3 : itemsB hd (x :: xs) = itemB hd x ++ itemsB hd xs := by simp [itemsB]
    rw [e3, List.length_append, itemB_length, ih, e1, e2, csum_add, csum_one _ _ _ (h x (List.mem_cons_self ..))]
    omega
theorem lensF_LensOK : LensOK lensF := fun f m h1 h2 h3 h4 => lensF_ok f m h1 h2 h3 h4
theorem frqZero : (Tryz.prog.info? 157).map (·.zero) = some (some (arrV .i64 (frqF []))) := by kernel_rfl
theorem pairI {A B : List Int} : [A, B].flatten = A ++ B := by simp
theorem Blk.whole {w : World} {C : Nat} {B : List Value} {T : TypeId} (h : Blk w C B T) (hB : B.length ≤ maxLen) : Rd w 1 (.slice (some ⟨C, 0, none⟩) B.length B.length) B.length B := by
  have h2 : Blk w C ([] ++ (B ++ [])) T := by simpa using h
  exact h2.part hB
theorem natI_nat (f : List Nat) : (natI f).map Int.toNat = f := by
  unfold natI
  rw [List.map_map]
  conv => rhs; rw [← List.map_id f]
  rfl
theorem frqIn_natI {f : List Nat} (h : ∀ a ∈ f, a ≤ 1048576) : frqIn (natI f) = true := (frqIn_iff _).2 fun a ha => by
  obtain ⟨n, hn, rfl⟩ := List.mem_map.1 ha
  have := h n hn
  exact ⟨Int.natCast_nonneg _, by omega⟩
theorem coded_natI (f : List Nat) : coded (natI f) ≤ f.length := by
  unfold coded
  have := List.countP_le_length (p := fun a : Int => decide (0 < a)) (l := natI f)
  rwa [natI_length] at this
theorem cut_own {w : World} {ao : Option Addr} {n cap N : Nat} {l : List Int} (h : Own w 3 1 (.slice ao n cap) n (ints l)) (hN : N ≤ n) : Own w 3 1 (.slice ao N cap) N (ints (l.take N)) := by
  have h2 := h.cut (L := 0) (H := N) (Nat.zero_le _) hN
  rw [sliced_front _ _ _ _ h.spotless, Nat.sub_zero, Nat.zero_mul, List.drop_zero, Nat.mul_one] at h2
  rw [show (ints l).take N = ints (l.take N) by simp [ints, List.map_take]] at h2
  exact h2
theorem wrap_bits (y x N b : Nat) (h : b = 14 + 3 * N + (x + y)) (hb : b ≤ 100000) : IntKind.i64.wrap ((y : Int) + IntKind.i64.wrap (IntKind.i64.wrap (14 + IntKind.i64.wrap (3 * (N : Int))) + (x : Int))) = (b : Int) := by
  simp only [wrapEq]
  unfold wrap64
  omega
theorem setSz (w : World) (a : Addr) (v : Value) : (w.setCell a v).heap.size = w.heap.size := by simp [World.setCell]
def headL (n1 n2 : Nat) (iv hv : Value) (tv : Value) (bits : Nat) : List Value := [.int .i64 (n1 : Int), .int .i64 (n2 : Int), iv, hv, tv, .int .i64 (bits : Int)]
set_option maxHeartbeats 6400000 in
theorem newHead_any {w : World} (litv dv : Value) (n1 n2 : Nat) (lit dist : List Int) (h1 : Rd w 1 litv n1 (ints lit)) (h2 : Rd w 1 dv n2 (ints dist)) (c1 : checkOf lit 15 = 0) (c2 : checkOf dist 15 = 0) (hl1 : 257 ≤ n1) (hl2 : n1 ≤ 286) (hd1 : 1 ≤ n2) (hd2 : n2 ≤ 30) (hO : Ordr w) :
    Calls Tryz.prog 66 #[litv, dv] w fun e w' => ∃ (B Bt : Nat) (iv hv : Value), e = .returned (.pointer (some ⟨B, 0, none⟩)) ∧
      Held w w' [objT B (headL n1 n2 iv hv (.pointer (some ⟨Bt, 0, none⟩)) (headB lit dist (headC lensF (itemsOf lit dist)) (itemsOf lit dist)).length) 155, ownT 159 3 iv (itemsOf lit dist).length (itemsV (itemsOf lit dist)),
        ownT 3 1 hv (headN (headC lensF (itemsOf lit dist))) (ints ((inOrd (headC lensF (itemsOf lit dist))).take (headN (headC lensF (itemsOf lit dist))))), tabT (headC lensF (itemsOf lit dist)) Bt] := by
  obtain ⟨ao, cap, rfl, _, _⟩ := h1.form
  obtain ⟨bo, cap2, rfl, _, _⟩ := h2.form
  have k1 := check_is (m := 15) c1
  have k2 := check_is (m := 15) c2
  have hn1 : n1 = lit.length := by have := h1.1; rw [ints_length] at this; omega
  have hn2 : n2 = dist.length := by have := h2.1; rw [ints_length] at this; omega
  have hA := all_app k1.2.1 k2.2.1
  have hal : (lit ++ dist).length = n1 + n2 := by rw [List.length_append]; omega
  obtain ⟨xs, hxs⟩ : ∃ xs, xs = itemsOf lit dist := ⟨_, rfl⟩
  rw [← hxs]
  obtain ⟨hd, hhd⟩ : ∃ hd, hd = headC lensF xs := ⟨_, rfl⟩
  rw [← hhd]
  obtain ⟨N, hN⟩ : ∃ N, N = headN hd := ⟨_, rfl⟩
  rw [← hN]
  obtain ⟨K, hK⟩ : ∃ K, K = inOrd hd := ⟨_, rfl⟩
  rw [← hK]
  obtain ⟨b, hb⟩ : ∃ b, b = (headB lit dist hd xs).length := ⟨_, rfl⟩
  rw [← hb]
  obtain ⟨m, hm⟩ : ∃ m, m = xs.length := ⟨_, rfl⟩
  rw [← hm]
  have HD := hid (And.intro hxs (And.intro hhd (And.intro hN (And.intro hK (And.intro hb hm)))))
  clear hxs hhd hN hK hb hm
  have HP := ((Held.start w).newObj [.int .i64 (n1 : Int), .int .i64 (n2 : Int), .slice none 0 0, .slice none 0 0, .pointer none, .int .i64 0] 155).lit 32 1 [.slice ao n1 cap, .slice bo n2 cap2] 2 (by decide) rfl
  rw [allocSz] at HP
  have HCC := hid (concatI_any [.slice ao n1 cap, .slice bo n2 cap2] [lit, dist] _ 2 _ HP.own.rd rfl rfl (fun i v l hv hl => by
    match i, hv, hl with
    | 0, hv, hl => simp at hv hl; subst hv; subst hl; rw [← hn1]; exact HP.old h1
    | 1, hv, hl => simp at hv hl; subst hv; subst hl; rw [← hn2]; exact HP.old h2
    | i + 2, hv, hl => simp at hv) (by rw [pairI, hal]; omega) (by rw [pairI, hal]; omega) (by decide))
  rw [pairI, hal] at HCC
  have HP2 := hid HP.drop
  have HA := hid (And.intro hA (And.intro hal hO))
  have hn10 : (0 : Int) ≤ (n1 : Int) := Int.natCast_nonneg _
  have hn20 : (0 : Int) ≤ (n2 : Int) := Int.natCast_nonneg _
  clear HP h1 h2 c1 c2 k1 k2 hA hal hO hn1 hn2
  go_enter Tryz.func66, Tryz.ntmps66
  go_wp2_with fail
  refine HCC.out.mono ?_
  rintro e w1 ⟨v1, rfl, hh⟩
  have H1 := hid (HP2.out.frame hh)
  have hrd1 : Rd w1 1 v1 (n1 + n2) (ints (lit ++ dist)) := hh.own.rd
  have HIT := hid (itemsOf_any v1 (n1 + n2) (lit ++ dist) w1 hrd1 (by omega) HA.out.1)
  have hxe : itemsF (lit ++ dist) (n1 + n2) 0 = xs := by
    have h := HD.out.1
    rw [itemsOf, HA.out.2.1] at h
    exact h.symm
  rw [hxe, ← HD.out.2.2.2.2.2] at HIT
  clear hh hrd1 HCC hxe
  go_wp2_with fail
  refine HIT.out.mono ?_
  rintro e w2 ⟨iv, rfl, hh⟩
  obtain ⟨io, ic, rfl, _, _⟩ := hh.own.form
  have h2 : Held w w2 (objT w.heap.size [.int .i64 (n1 : Int), .int .i64 (n2 : Int), .slice none 0 0, .slice none 0 0, .pointer none, .int .i64 0] 155 :: [ownT 159 3 (.slice io m ic) m (itemsV xs)]) := (H1.out.frame hh).third.two
  have f2 := h2.obj.frozen 2
  have k2 := h2.obj.cell (i := 2) rfl
  have H3 := hid (h2.setObj 2 (.slice io m ic))
  clear h2 hh HIT H1
  go_wp2_with first
    | ((with_reducible show wpList _ _ _ (⟨some 6, _, _, _, _, _⟩ :: _) _ _); refine wpList_alloc_arr rfl 157 rfl .i64 (frqF []) frqZero ?_; have h4 := H3.out.newObj (nums .i64 (frqF [])) 157; rw [setSz] at h4; have c2 := h4.drop.obj.cell (i := 2) rfl; have H4 := hid h4; clear h4)
    | fail
  have HSM : Hid (∀ x ∈ xs, x.1 < 19 ∧ x.2.1 ≤ 7 ∧ x.2.2 < 2 ^ x.2.1) := by
    rw [HD.out.1]
    exact hid (itemsF_sym HA.out.1 _ 0)
  have hmm : m ≤ 316 := by
    have h := itemsF_length (all := lit ++ dist) (lit ++ dist).length 0
    have h2 := HD.out.2.2.2.2.2
    have h3 := HA.out.2.1
    rw [HD.out.1] at h2
    unfold itemsOf at h2
    omega
  have hm0 : (0 : Int) ≤ (m : Int) := Int.natCast_nonneg _
  clear c2
  go_loopg [30] (m + 1) (fun k t30 wr => ∃ i : Nat, i ≤ m ∧ m - i < k ∧ t30 = .int .i64 (i : Int) ∧ Hid (Held w wr (objT w2.heap.size (nums .i64 (frqF (xs.take i))) 157 :: objT w.heap.size [.int .i64 (n1 : Int), .int .i64 (n2 : Int), .slice io m ic, .slice none 0 0, .pointer none, .int .i64 ((extI (xs.take i) : Nat) : Int)] 155 :: [ownT 159 3 (.slice io m ic) m (itemsV xs)])))
  case atStart => exact ⟨0, by omega, by omega, rfl, H4⟩
  case round =>
    obtain ⟨i, hi, hk, rfl, HH⟩ := hrel
    have hi0 : (0 : Int) ≤ (i : Int) := Int.natCast_nonneg _
    by_cases hin : i < m
    · have hiI : (i : Int) < (m : Int) := by omega
      obtain ⟨⟨sy, ex, va⟩, ht⟩ : ∃ t, xs[i]? = some t := ⟨xs[i]'(by have := HD.out.2.2.2.2.2; omega), List.getElem?_eq_getElem _⟩
      obtain ⟨g, off, rfl, c0, c1, c2⟩ := HH.out.third.own.rd.item ht
      have hsm := HSM.out _ (List.mem_of_getElem? ht)
      simp only at hsm
      have htk : xs.take (i + 1) = xs.take i ++ [(sy, ex, va)] := by rw [List.take_add_one, ht]; rfl
      have hset := frqF_set (xs.take i) (sy, ex, va)
      have hext := extI_snoc (xs.take i) (sy, ex, va)
      rw [← htk] at hset hext
      simp only at hset hext
      have hfl : frqN (xs.take i) sy ≤ 316 := Nat.le_trans (frqN_le _ _) (by simp; omega)
      have hel : extI (xs.take i) ≤ 7 * 316 := by
        have h := extI_le (xs.take i) fun x hx => (HSM.out x (List.mem_of_mem_take hx)).2.1
        have h2 : (xs.take i).length ≤ i := by simp; omega
        omega
      have hg := frqF_get (xs.take i) hsm.1
      obtain ⟨x, hx⟩ : ∃ x, x = frqN (xs.take i) sy := ⟨_, rfl⟩
      obtain ⟨y, hy⟩ : ∃ y, y = extI (xs.take i) := ⟨_, rfl⟩
      rw [← hx] at hset hfl hg
      rw [← hy] at hext hel
      have h5 := HH.out.newObj [.int .i64 (sy : Int), .int .i64 (ex : Int), .int .i64 (va : Int)] 159
      rw [← hy] at h5
      have HS := hid (And.intro hset hext)
      have H5 := hid h5
      have t0 := h5.obj.cell (i := 0) rfl
      have t1 := h5.obj.cell (i := 1) rfl
      have k1 := h5.swap.obj.cell (i := sy) (v := .int .i64 (x : Int)) (by simp [nums, hg])
      have f1 := h5.swap.obj.frozen sy
      have hsI : (sy : Int) < 19 := by omega
      have hs0 : (0 : Int) ≤ (sy : Int) := Int.natCast_nonneg _
      have hex : ex ≤ 7 := hsm.2.1
      clear h5 hset hext hx hy hg htk ht hsm
      go_wp2
      have h6 := H5.out.swap.setObj sy (.int .i64 ((x : Int) + 1))
      generalize (wr.alloc (.cells #[.int .i64 (sy : Int), .int .i64 (ex : Int), .int .i64 (va : Int)] 159)).setCell ⟨w2.heap.size, sy, none⟩ (.int .i64 ((x : Int) + 1)) = w5 at h6 ⊢
      have u1 := h6.swap.obj.cell (i := 1) rfl
      have k5 := h6.third.obj.cell (i := 5) rfl
      have f5 := h6.third.obj.frozen 5
      have H6 := hid h6
      clear h6 t0 t1 k1 f1 H5
      go_still_tail 9, (by kernel_rfl)
      change wpList _ _ _ _ _ (World.drew _)
      have h7 := H6.out.third.drew.setObj 5 (.int .i64 ((y : Int) + (ex : Int)))
      have H7 : Hid (Held w (w5.drew.setCell ⟨w.heap.size, 5, none⟩ (.int .i64 ((y : Int) + (ex : Int)))) (objT w2.heap.size (nums .i64 (frqF (xs.take (i + 1)))) 157 :: objT w.heap.size [.int .i64 (n1 : Int), .int .i64 (n2 : Int), .slice (some ⟨g, off, none⟩) m ic, .slice none 0 0, .pointer none, .int .i64 ((extI (xs.take (i + 1)) : Nat) : Int)] 155 :: [ownT 159 3 (.slice (some ⟨g, off, none⟩) m ic) m (itemsV xs)])) := by
        have h8 : Held w _ (objT w.heap.size [.int .i64 (n1 : Int), .int .i64 (n2 : Int), .slice (some ⟨g, off, none⟩) m ic, .slice none 0 0, .pointer none, .int .i64 ((y + ex : Nat) : Int)] 155 :: objT w2.heap.size ((nums .i64 (frqF (xs.take i))).set sy (.int .i64 ((x + 1 : Nat) : Int))) 157 :: _ :: [ownT 159 3 (.slice (some ⟨g, off, none⟩) m ic) m (itemsV xs)]) := h7
        rw [nums_set, HS.out.1, ← HS.out.2] at h8
        exact hid h8.mid.swap.drop.swap
      clear h7 H6
      go_wp2
      go_roundg (gk - 1)
      case measure => omega
      case rel => exact ⟨i + 1, by omega, by omega, by go_num, H7⟩
    · have hiI : ¬ (i : Int) < (m : Int) := by omega
      have hti : xs.take i = xs := List.take_of_length_le (by have := HD.out.2.2.2.2.2; omega)
      rw [hti] at HH
      have hF := HH.out.obj.whole (by simp [nums, frqF]; decide)
      have hfl : (nums .i64 (frqF xs)).length = 19 := by simp [nums, frqF]
      rw [hfl, nums_natI] at hF
      have hfq : ∀ a ∈ frqF xs, a ≤ 1048576 := fun a ha => by
        obtain ⟨k, _, rfl⟩ := List.mem_map.1 ha
        have h1 := frqN_le xs k
        have h2 := HD.out.2.2.2.2.2
        omega
      have HLD := hid (lengths_det HH.out (.slice (some ⟨w2.heap.size, 0, none⟩) 19 19) 19 7 (natI (frqF xs)) hF (by rw [natI_length, frqF_length]) (by omega) (by omega) (by omega) (frqIn_natI hfq) (Nat.le_trans (coded_natI _) (by rw [frqF_length]; decide)))
      rw [natI_nat, nums_natI, show natI (lensF (frqF xs) 7) = hd from HD.out.2.1.symm, show ((7 : Nat) : Int) = 7 from rfl] at HLD
      clear hF hfl hfq hti
      go_wp2_with fail
      with_reducible refine HLD.out.mono ?_
      rintro e w3 ⟨lv, rfl, h3⟩
      obtain ⟨la, lc, rfl, _, _⟩ := h3.own.form
      have H3 := hid h3
      have hck : checkOf hd 7 = 0 := by rw [HD.out.2.1]; exact headC_check lensF_LensOK xs
      have HBD := hid (build_any (.slice la 19 lc) 19 hd 7 w3 h3.own.rd (by omega))
      rw [hck] at HBD
      clear h3 HLD hck
      go_wp2_with fail
      with_reducible refine HBD.out.mono ?_
      rintro e w4 (⟨h0, _⟩ | ⟨_, Bt, rfl, hh⟩)
      · exact absurd rfl h0
      have h4 : Held w w4 (objT w.heap.size [.int .i64 (n1 : Int), .int .i64 (n2 : Int), .slice io m ic, .slice none 0 0, .pointer none, .int .i64 ((extI xs : Nat) : Int)] 155 :: tabT hd Bt :: ownT 3 1 (.slice la 19 lc) 19 (ints hd) :: objT w2.heap.size (nums .i64 (frqF xs)) 157 :: [ownT 159 3 (.slice io m ic) m (itemsV xs)]) := (H3.out.frame hh).fourth
      have f4 := h4.obj.frozen 4
      have k4 := h4.obj.cell (i := 4) rfl
      have h5 := h4.setObj 4 (.pointer (some ⟨Bt, 0, none⟩))
      have H5 := hid h5
      have HIO := hid (inOrder_any (.slice la 19 lc) hd _ h5.third.own.rd (HA.out.2.2.kept h5.mod))
      rw [← HD.out.2.2.2.1] at HIO
      clear h4 h5 hh HBD H3
      go_wp2_with fail
      with_reducible refine HIO.out.mono ?_
      rintro e w5 ⟨oa, oc, rfl, hh⟩
      have H6 := hid (H5.out.frame hh)
      have HCU := hid (cut_any oa 19 oc 4 K w5 hh.own.rd (by omega) (by omega) hh.own.spotless)
      rw [HD.out.2.2.2.1, show cutN (inOrd hd) 4 19 = N from HD.out.2.2.1.symm, show ((4 : Nat) : Int) = 4 from rfl] at HCU
      have hN19 : N ≤ 19 := by rw [HD.out.2.2.1]; exact cutN_le _
      clear hh HIO H5
      go_wp2_with fail
      with_reducible refine HCU.out.mono ?_
      rintro e w6 ⟨rfl, d6, rfl⟩
      have h7 : Held w (w5.drewN d6) (objT w.heap.size [.int .i64 (n1 : Int), .int .i64 (n2 : Int), .slice io m ic, .slice none 0 0, .pointer (some ⟨Bt, 0, none⟩), .int .i64 ((extI xs : Nat) : Int)] 155 :: ownT 3 1 (.slice oa N oc) N (ints (K.take N)) :: tabT hd Bt :: ownT 3 1 (.slice la 19 lc) 19 (ints hd) :: objT w2.heap.size (nums .i64 (frqF xs)) 157 :: [ownT 159 3 (.slice io m ic) m (itemsV xs)]) := by
        have h : Held w (w5.drewN d6) (ownT 3 1 (.slice oa 19 oc) 19 (ints K) :: _ :: _) := H6.out.drewN d6
        exact (h.recut (cut_own h.own hN19) (by cases oa <;> rfl)).swap
      generalize w5.drewN d6 = w7 at h7 ⊢
      have f3 := h7.obj.frozen 3
      have k3 := h7.obj.cell (i := 3) rfl
      have h8 := h7.setObj 3 (.slice oa N oc)
      have H8 := hid h8
      clear h7 HCU H6
      go_wp2_with fail
      generalize w7.setCell ⟨w.heap.size, 3, none⟩ (.slice oa N oc) = w8 at h8 H8 ⊢
      have j3 := h8.obj.cell (i := 3) rfl
      have j5 := h8.obj.cell (i := 5) rfl
      have g5 := h8.obj.frozen 5
      have hF := h8.drop.drop.drop.drop.obj.whole (by simp [nums, frqF]; decide)
      have hfl : (nums .i64 (frqF xs)).length = 19 := by simp [nums, frqF]
      rw [hfl, nums_natI] at hF
      have hRL := h8.drop.drop.drop.own.rd
      have hdl : hd.length = 19 := by rw [HD.out.2.1]; exact headC_len lensF_LensOK xs
      have hnl : (natI (frqF xs)).length = 19 := by rw [natI_length, frqF_length]
      have hco : costTo hd (natI (frqF xs)) (min hd.length (natI (frqF xs)).length) = csum hd (frqN xs) 19 := by
        have h := cost_csum (l := hd) (g := frqN xs) (N := 19) (fun a ha => by
          rw [HD.out.2.1] at ha
          have := headC_all lensF_LensOK xs a ha
          omega) (fun k _ => by have h1 := frqN_le xs k; have h2 := HD.out.2.2.2.2.2; omega)
        unfold natI frqF
        exact h
      have HC := hid (fun k => cost_any (.slice la hd.length lc) (.slice (some ⟨w2.heap.size, 0, none⟩) (natI (frqF xs)).length 19) hd (natI (frqF xs)) (w8.drewN k) (by rw [hdl]; exact hRL.drewTo rfl) (by rw [hnl]; exact hF.drewTo rfl) (by omega))
      rw [hco, hdl, hnl] at HC
      have hbl : b = 14 + 3 * N + (csum hd (frqN xs) 19 + extI xs) := by
        have h1 := headB_length lit dist hd xs
        rw [itemsB_length hd xs (fun x hx => (HSM.out x hx).1), ← HD.out.2.2.1, ← HD.out.2.2.2.2.1] at h1
        exact h1
      have hbs : b ≤ 100000 := by
        have h1 := headB_length lit dist hd xs
        have h2 := itemsB_short (hd := hd) (by rw [HD.out.2.1]; exact headC_all lensF_LensOK xs) (xs := xs) (fun x hx => (HSM.out x hx).2.1)
        rw [← HD.out.2.2.1, ← HD.out.2.2.2.2.1] at h1
        have h3 := HD.out.2.2.2.2.2
        omega
      obtain ⟨x, hx⟩ : ∃ x, x = csum hd (frqN xs) 19 := ⟨_, rfl⟩
      obtain ⟨y, hy⟩ : ∃ y, y = extI xs := ⟨_, rfl⟩
      rw [← hx] at hbl HC
      rw [← hy] at hbl j5
      have HB := hid (wrap_bits y x N b hbl hbs)
      have hxs : x ≤ 100000 := by omega
      have hys : y ≤ 100000 := by omega
      clear hF hfl hRL hdl hnl hco hbl hbs hx hy h8
      go_region_law ((first
        | (go_simp; go_at_call 76; refine (HC.out _).mono ?_; rintro e w9 ⟨rfl, d9, rfl⟩)))
      all_goals
        rw [HB.out]
        have H9 := hid ((H8.out.drewN (1 + d9)).setObj 5 (.int .i64 (b : Int)))
        go_wp2
        go_ret
        exact ⟨w.heap.size, Bt, .slice io m ic, .slice oa N oc, rfl, H9.out.fourth.drop.fourth.drop.mid2⟩
end Go.Proofs.YtdmnfjicjjlnnaaGreatDoor
/-
  The contents of fixed and of dynamic blocks made.
-/
namespace Go.Proofs.YtdmnfjicjjlnnaaGreatDoor
set_option maxRecDepth 5000
open Go.RowKit
theorem Held.pre {w0 w : World} {A B C D E F : Thing} {Rs : List Thing} (h : Held w0 w (A :: B :: C :: D :: E :: F :: Rs)) : Held w0 w [A, B, C, D, E, F] := by
  obtain ⟨F1, a1, b1, F2, a2, b2, F3, a3, b3, F4, a4, b4, F5, a5, b5, F6, a6, b6, r⟩ := h
  exact ⟨F1, a1, b1, F2, a2, b2, F3, a3, b3, F4, a4, b4, F5, a5, b5, F6, a6, b6, HeldU.mod r⟩
section
variable {w : World}
set_option maxHeartbeats 1600000 in
theorem newFixed_any (lo : Option Addr) (ln lc : Nat) (l : List Tok) (hv : Rd w 3 (.slice lo ln lc) ln (toksV l)) (hl : l.length < 1048576) (hs : ∀ t ∈ l, soundB t = true) (hb : byteOK l) :
    Calls Tryz.prog 52 #[.slice lo ln lc] w fun e w' => ∃ B1 B2, e = .returned (codV (.slice lo ln lc) B1 B2 (toksB fixLit fixDist l).length) ∧ Held w w' [tabT fixLit B1, tabT fixDist B2] := by
  have HA := (Held.start w).newObj [.slice none 0 0, .pointer none, .pointer none, .int .i64 0] 108
  have HX := hid (fixedL_any HA)
  have hlen := hv.toks_len
  have HV := hid (And.intro hv (And.intro hl (And.intro hs hb)))
  have hln : ln < 1048576 := by omega
  clear HA hv hl hs hb hlen
  go_enter Tryz.func52, Tryz.ntmps52
  go_wp2_with fail
  with_reducible refine HX.out.mono ?_
  rintro e w1 ⟨ao, cap, bo, cap2, rfl, h1⟩
  have H1 := hid h1
  have HC := hid (count_blk (.slice lo ln lc) ln l w1 (h1.old HV.out.1) hln HV.out.2.2.1 HV.out.2.2.2)
  clear h1 HX
  go_wp2_with fail
  with_reducible refine HC.out.mono ?_
  rintro e w2 ⟨C, rfl, hh⟩
  have h2 := H1.out.frame hh
  have H2 := hid h2
  have HN := hid (newCoded_any lo ln lc (.slice ao 288 cap) (.slice bo 32 cap2) l 288 32 C fixLit fixDist h2.obj h2.drop.own.rd h2.drop.drop.own.rd fix_check.1 fix_check.2 HV.out.2.1 HV.out.2.2.1 HV.out.2.2.2)
  unfold codV at HN
  clear h2 hh HC H1
  go_wp2_with fail
  with_reducible refine HN.out.mono ?_
  rintro e w3 ⟨B1, B2, rfl, hh⟩
  have h3 : Held w w3 (objT w.heap.size [.slice none 0 0, .pointer none, .pointer none, .int .i64 0] 108 :: tabT fixLit B1 :: tabT fixDist B2 :: _) := (H2.out.frame hh).perm (List.perm_append_comm (l₁ := [_, _, _, _, _]) (l₂ := [_]))
  have f0 := h3.obj.frozen 0
  have f1 := h3.obj.frozen 1
  have f2 := h3.obj.frozen 2
  have f3 := h3.obj.frozen 3
  have k0 := h3.obj.cell (i := 0) rfl
  have k1 := h3.obj.cell (i := 1) rfl
  have k2 := h3.obj.cell (i := 2) rfl
  have k3 := h3.obj.cell (i := 3) rfl
  have H5 := hid ((((h3.setObj 0 (.slice lo ln lc)).setObj 1 (.pointer (some ⟨B1, 0, none⟩))).setObj 2 (.pointer (some ⟨B2, 0, none⟩))).setObj 3 (.int .i64 ((toksB fixLit fixDist l).length : Int)))
  clear h3 hh H2 HN
  go_wp2
  try simp only [Exit.inBlock, Exit.then]
  refine ret_cell1 rfl _ 4 Tryz.underlying108 rfl (by kernel_rfl) w.heap.size [.slice lo ln lc, .pointer (some ⟨B1, 0, none⟩), .pointer (some ⟨B2, 0, none⟩), .int .i64 ((toksB fixLit fixDist l).length : Int)] 108 rfl rfl H5.out.obj rfl ?_
  exact ⟨B1, B2, rfl, H5.out.drop.two⟩
abbrev zDyn : List Value := [.pointer none, .slice none 0 0, .pointer none, .pointer none, .int .i64 0]
def dynV (Bh : Nat) (lv : Value) (B1 B2 bits : Nat) : Value := .agg #[.pointer (some ⟨Bh, 0, none⟩), lv, .pointer (some ⟨B1, 0, none⟩), .pointer (some ⟨B2, 0, none⟩), .int .i64 (bits : Int)]
def dynTs (l : List Tok) (Bh Bt B1 B2 : Nat) (iv hv : Value) : List Thing :=
  [tabT (litC lensF l) B1, tabT (dstL lensF l) B2,
   objT Bh (headL (litC lensF l).length (dstL lensF l).length iv hv (.pointer (some ⟨Bt, 0, none⟩)) (headB (litC lensF l) (dstL lensF l) (headC lensF (itemsOf (litC lensF l) (dstL lensF l))) (itemsOf (litC lensF l) (dstL lensF l))).length) 155,
   ownT 159 3 iv (itemsOf (litC lensF l) (dstL lensF l)).length (itemsV (itemsOf (litC lensF l) (dstL lensF l))),
   ownT 3 1 hv (headN (headC lensF (itemsOf (litC lensF l) (dstL lensF l)))) (ints ((inOrd (headC lensF (itemsOf (litC lensF l) (dstL lensF l)))).take (headN (headC lensF (itemsOf (litC lensF l) (dstL lensF l)))))),
   tabT (headC lensF (itemsOf (litC lensF l) (dstL lensF l))) Bt]
set_option maxHeartbeats 3200000 in
theorem newDynamic_any (lo : Option Addr) (ln lc0 : Nat) (l : List Tok) (hv : Rd w 3 (.slice lo ln lc0) ln (toksV l)) (hO : Ordr w) (hl : l.length < 1048576) (hs : ∀ t ∈ l, soundB t = true) (hb : byteOK l) :
    Calls Tryz.prog 53 #[.slice lo ln lc0] w fun e w' => ∃ Bh Bt B1 B2 iv hv, e = .returned (dynV Bh (.slice lo ln lc0) B1 B2 (toksB (litC lensF l) (dstL lensF l) l).length) ∧ Held w w' (dynTs l Bh Bt B1 B2 iv hv) := by
  have HA := (Held.start w).newObj zDyn 112
  have hlen := hv.toks_len
  have HC := hid (count_blk (.slice lo ln lc0) ln l _ (hv.kept HA.mod (fun _ _ h => h)) (by omega) hs hb)
  have HA2 := hid HA
  obtain ⟨L0, hL0⟩ : ∃ L0, L0 = natI (lensF (litF l) 15) := ⟨_, rfl⟩
  obtain ⟨D0, hD0⟩ : ∃ D0, D0 = natI (lensF (dstF l) 15) := ⟨_, rfl⟩
  obtain ⟨D1, hD1⟩ : ∃ D1, D1 = fixD D0 := ⟨_, rfl⟩
  have g1 := lit_len0 lensF_LensOK l
  have g2 := dst_len0 lensF_LensOK l
  have g3 := dst_len1 lensF_LensOK l
  rw [← hL0] at g1
  rw [← hD0] at g2 g3
  rw [← hD1] at g3
  have gl := lit_len lensF_LensOK l
  have gd := dst_len lensF_LensOK l
  obtain ⟨n1, hn1⟩ : ∃ n1, n1 = (litC lensF l).length := ⟨_, rfl⟩
  obtain ⟨n2, hn2⟩ : ∃ n2, n2 = (dstL lensF l).length := ⟨_, rfl⟩
  have e1 : n1 = cutN L0 257 286 := by rw [hn1, litC, ← hL0, cutL_length, g1]
  have e2 : n2 = cutN D1 1 30 := by rw [hn2, dstL, ← hD0, ← hD1, cutL_length, g3]
  have HN : Hid (n1 = cutN L0 257 286 ∧ n2 = cutN D1 1 30 ∧ n1 ≤ 286 ∧ n2 ≤ 30) := hid ⟨e1, e2, by omega, by omega⟩
  have HLD : Hid (D1.take n2 = dstL lensF l ∧ L0.take n1 = litC lensF l) := hid ⟨by rw [dstL, ← hD0, ← hD1, cutL, g3, e2], by rw [litC, ← hL0, cutL, g1, e1]⟩
  have HB : Hid (257 ≤ n1 ∧ n1 ≤ 286 ∧ 1 ≤ n2 ∧ n2 ≤ 30) := hid ⟨by omega, by omega, by omega, by omega⟩
  have HV := hid (And.intro hv (And.intro hO (And.intro hl (And.intro hs hb))))
  unfold dynTs
  rw [← hn1, ← hn2]
  have HQ := hid (And.intro hL0 (And.intro hD0 (And.intro hD1 (And.intro g1 (And.intro g2 g3)))))
  clear HA hv hO hl hs hb hlen hL0 hD0 hD1 g1 g2 g3 gl gd hn1 hn2 e1 e2
  unfold dynV
  go_enter Tryz.func53, Tryz.ntmps53
  go_wp2_with fail
  with_reducible refine HC.out.mono ?_
  rintro e w1 ⟨C, rfl, hh⟩
  have h1 := HA2.out.frame hh
  have H1 := hid h1
  have HL1 := hid (lengths_det h1 (.slice (some ⟨C, 0, none⟩) 286 286) 286 15 (natI (litF l)) (cnt_lit h1.obj) (by rw [natI_length, litF_length]) (by omega) (by omega) (by omega) (frqIn_natI (litF_le HV.out.2.2.1)) (Nat.le_trans (coded_natI _) (by rw [litF_length]; decide)))
  rw [natI_nat, nums_natI, ← HQ.out.1, show ((15 : Nat) : Int) = 15 from rfl] at HL1
  clear h1 hh HC HA2
  go_wp2_with fail
  with_reducible refine HL1.out.mono ?_
  rintro e w2 ⟨lv, rfl, h2⟩
  obtain ⟨la, lc, rfl, _, _⟩ := h2.own.form
  have HL2 := hid (lengths_det h2 (.slice (some ⟨C, 286, none⟩) 30 30) 30 15 (natI (dstF l)) (cnt_dst h2.swap.obj) (by rw [natI_length, dstF_length]) (by omega) (by omega) (by omega) (frqIn_natI (dstF_le HV.out.2.2.1)) (Nat.le_trans (coded_natI _) (by rw [dstF_length]; decide)))
  rw [natI_nat, nums_natI, ← HQ.out.2.1, show ((15 : Nat) : Int) = 15 from rfl] at HL2
  clear h2 HL1 H1
  go_wp2_with fail
  with_reducible refine HL2.out.mono ?_
  rintro e w3 ⟨dv, rfl, h3⟩
  obtain ⟨da, dc, rfl, _, _⟩ := h3.own.form
  have HSU := hid (sum_any (.slice da D0.length dc) D0 w3 (by rw [HQ.out.2.2.2.2.1]; exact h3.own.rd) (by rw [HQ.out.2.2.2.2.1]; decide))
  rw [HQ.out.2.2.2.2.1] at HSU
  have H3 := hid h3.mid
  clear h3 HL2
  go_wp2_with fail
  with_reducible refine HSU.out.mono ?_
  rintro e w4 ⟨rfl, hm⟩
  have H4 : Hid (Held w w4 (ownT 3 1 (.slice da 30 dc) 30 (ints D0) :: objT C (nums .i64 (cntE l)) 130 :: ownT 3 1 (.slice la 286 lc) 286 (ints L0) :: [objT w.heap.size zDyn 112])) := hid (H3.out.same hm)
  clear hm HSU H3
  obtain ⟨su, hsu⟩ : ∃ su, su = sumOf D0 := ⟨_, rfl⟩
  rw [← hsu]
  by_cases h0 : su = 0
  · have hb1 : ((su : Int) == 0) = true := by simp [h0]
    have hF : D1 = D0.set 0 1 := by rw [HQ.out.2.2.1, fixD, if_pos (by omega)]
    obtain ⟨g, off, rfl, hcell, hfr, hput⟩ := H4.out.own.site (by omega)
    obtain ⟨z, hz⟩ : ∃ z, D0[0]? = some z := ⟨D0[0]'(by have := HQ.out.2.2.2.2.1; omega), List.getElem?_eq_getElem _⟩
    have c0 := hcell 0 _ (by rw [ints_get, hz]; rfl)
    have f0 := hfr 0
    have h5 := H4.out.putOwn (hput 0 (.int .i64 1) (by omega)) (Mod.set w4 g (off + 0) _)
    rw [show (ints D0).set 0 (.int .i64 1) = ints D1 by rw [hF]; simp [ints, List.map_set]] at h5
    rw [Nat.add_zero] at c0 f0 h5
    have H5 := hid h5
    clear hcell hfr hput hz h5 hF HQ H4
    go_wp2_with fail
    generalize w4.setCell ⟨g, off, none⟩ (.int .i64 1) = w5 at H5 ⊢
    have HX4 := H5.out

    -- both codes cut, the head, the tokens
    have HCU1 := hid (cut_any la 286 lc 257 L0 w5 (HX4.third.own.rd) (by omega) (by omega) HX4.third.own.spotless)
    rw [show cutN L0 257 286 = n1 from HN.out.1.symm, show ((257 : Nat) : Int) = 257 from rfl] at HCU1
    with_reducible refine HCU1.out.mono ?_
    rintro e wa ⟨rfl, d1, rfl⟩
    have HD1 := hid (HX4.drewN d1)
    have HCU2 := hid (cut_any (some ⟨g, off, none⟩) 30 dc 1 D1 (w5.drewN d1) HD1.out.own.rd (by omega) (by omega) HD1.out.own.spotless)
    rw [show cutN D1 1 30 = n2 from HN.out.2.1.symm, show ((1 : Nat) : Int) = 1 from rfl] at HCU2
    go_wp2_with fail
    with_reducible refine HCU2.out.mono ?_
    rintro e wa ⟨rfl, d2, rfl⟩
    have h5 := HD1.out.drewN d2
    have h6 : Held w ((w5.drewN d1).drewN d2) (ownT 3 1 (.slice la n1 lc) n1 (ints (litC lensF l)) :: ownT 3 1 (.slice (some ⟨g, off, none⟩) n2 dc) n2 (ints (dstL lensF l)) :: objT C (nums .i64 (cntE l)) 130 :: [objT w.heap.size zDyn 112]) := by
      have h := h5.recut (cut_own h5.own HN.out.2.2.2) rfl
      have h7 := h.third.recut (cut_own h.third.own HN.out.2.2.1) (by cases la <;> rfl)
      rw [HLD.out.1, HLD.out.2] at h7
      exact h7
    generalize (w5.drewN d1).drewN d2 = wb at h6 ⊢
    have HNH := hid (newHead_any (.slice la n1 lc) (.slice (some ⟨g, off, none⟩) n2 dc) n1 n2 (litC lensF l) (dstL lensF l) h6.own.rd h6.swap.own.rd (lit_check lensF_LensOK l) (dst_check lensF_LensOK l) HB.out.1 HB.out.2.1 HB.out.2.2.1 HB.out.2.2.2 (HV.out.2.1.kept h6.mod))
    have H6 := hid h6
    clear h5 h6 HD1 HCU1 HCU2
    go_wp2_with fail
    with_reducible refine HNH.out.mono ?_
    rintro e wc ⟨Bh, Bt, iv, hv, rfl, hh⟩
    have h7 := H6.out.frame hh
    have H7 := hid h7
    have HNC := hid (newCoded_any lo ln lc0 (.slice la n1 lc) (.slice (some ⟨g, off, none⟩) n2 dc) l n1 n2 C (litC lensF l) (dstL lensF l) h7.drop.drop.drop.drop.drop.drop.obj h7.drop.drop.drop.drop.own.rd h7.drop.drop.drop.drop.drop.own.rd (lit_check lensF_LensOK l) (dst_check lensF_LensOK l) HV.out.2.2.1 HV.out.2.2.2.1 HV.out.2.2.2.2)
    unfold codV at HNC
    clear h7 hh HNH H6
    go_wp2_with fail
    with_reducible refine HNC.out.mono ?_
    rintro e wd ⟨B1, B2, rfl, hh⟩
    have h8 : Held w wd (objT w.heap.size zDyn 112 :: _) := (H7.out.frame hh).perm (List.perm_append_comm (l₁ := [_, _, _, _, _, _, _, _, _]) (l₂ := [_]))
    have f0 := h8.obj.frozen 0
    have f1 := h8.obj.frozen 1
    have f2 := h8.obj.frozen 2
    have f3 := h8.obj.frozen 3
    have f4 := h8.obj.frozen 4
    have k0 := h8.obj.cell (i := 0) rfl
    have k1 := h8.obj.cell (i := 1) rfl
    have k2 := h8.obj.cell (i := 2) rfl
    have k3 := h8.obj.cell (i := 3) rfl
    have k4 := h8.obj.cell (i := 4) rfl
    have H9 := hid (((((h8.setObj 0 (.pointer (some ⟨Bh, 0, none⟩))).setObj 1 (.slice lo ln lc0)).setObj 2 (.pointer (some ⟨B1, 0, none⟩))).setObj 3 (.pointer (some ⟨B2, 0, none⟩))).setObj 4 (.int .i64 ((toksB (litC lensF l) (dstL lensF l) l).length : Int)))
    clear h8 hh H7 HNC
    go_wp2
    try simp only [Exit.inBlock, Exit.then]
    refine ret_cell1 rfl _ 5 Tryz.underlying112 rfl (by kernel_rfl) w.heap.size [.pointer (some ⟨Bh, 0, none⟩), .slice lo ln lc0, .pointer (some ⟨B1, 0, none⟩), .pointer (some ⟨B2, 0, none⟩), .int .i64 ((toksB (litC lensF l) (dstL lensF l) l).length : Int)] 112 rfl rfl H9.out.obj rfl ?_
    exact ⟨Bh, Bt, B1, B2, iv, hv, rfl, H9.out.drop.pre⟩
  · have hb1 : ((su : Int) == 0) = false := by simp; omega
    have hF : D1 = D0 := by rw [HQ.out.2.2.1, fixD, if_neg (by omega)]
    rw [← hF] at H4
    have HX4 := H4.out
    clear hF HQ

    -- both codes cut, the head, the tokens
    have HCU1 := hid (cut_any la 286 lc 257 L0 w4 (HX4.third.own.rd) (by omega) (by omega) HX4.third.own.spotless)
    rw [show cutN L0 257 286 = n1 from HN.out.1.symm, show ((257 : Nat) : Int) = 257 from rfl] at HCU1
    go_wp2_with fail
    with_reducible refine HCU1.out.mono ?_
    rintro e wa ⟨rfl, d1, rfl⟩
    have HD1 := hid (HX4.drewN d1)
    have HCU2 := hid (cut_any da 30 dc 1 D1 (w4.drewN d1) HD1.out.own.rd (by omega) (by omega) HD1.out.own.spotless)
    rw [show cutN D1 1 30 = n2 from HN.out.2.1.symm, show ((1 : Nat) : Int) = 1 from rfl] at HCU2
    go_wp2_with fail
    with_reducible refine HCU2.out.mono ?_
    rintro e wa ⟨rfl, d2, rfl⟩
    have h5 := HD1.out.drewN d2
    have h6 : Held w ((w4.drewN d1).drewN d2) (ownT 3 1 (.slice la n1 lc) n1 (ints (litC lensF l)) :: ownT 3 1 (.slice da n2 dc) n2 (ints (dstL lensF l)) :: objT C (nums .i64 (cntE l)) 130 :: [objT w.heap.size zDyn 112]) := by
      have h := h5.recut (cut_own h5.own HN.out.2.2.2) (by cases da <;> rfl)
      have h7 := h.third.recut (cut_own h.third.own HN.out.2.2.1) (by cases la <;> rfl)
      rw [HLD.out.1, HLD.out.2] at h7
      exact h7
    generalize (w4.drewN d1).drewN d2 = wb at h6 ⊢
    have HNH := hid (newHead_any (.slice la n1 lc) (.slice da n2 dc) n1 n2 (litC lensF l) (dstL lensF l) h6.own.rd h6.swap.own.rd (lit_check lensF_LensOK l) (dst_check lensF_LensOK l) HB.out.1 HB.out.2.1 HB.out.2.2.1 HB.out.2.2.2 (HV.out.2.1.kept h6.mod))
    have H6 := hid h6
    clear h5 h6 HD1 HCU1 HCU2
    go_wp2_with fail
    with_reducible refine HNH.out.mono ?_
    rintro e wc ⟨Bh, Bt, iv, hv, rfl, hh⟩
    have h7 := H6.out.frame hh
    have H7 := hid h7
    have HNC := hid (newCoded_any lo ln lc0 (.slice la n1 lc) (.slice da n2 dc) l n1 n2 C (litC lensF l) (dstL lensF l) h7.drop.drop.drop.drop.drop.drop.obj h7.drop.drop.drop.drop.own.rd h7.drop.drop.drop.drop.drop.own.rd (lit_check lensF_LensOK l) (dst_check lensF_LensOK l) HV.out.2.2.1 HV.out.2.2.2.1 HV.out.2.2.2.2)
    unfold codV at HNC
    clear h7 hh HNH H6
    go_wp2_with fail
    with_reducible refine HNC.out.mono ?_
    rintro e wd ⟨B1, B2, rfl, hh⟩
    have h8 : Held w wd (objT w.heap.size zDyn 112 :: _) := (H7.out.frame hh).perm (List.perm_append_comm (l₁ := [_, _, _, _, _, _, _, _, _]) (l₂ := [_]))
    have f0 := h8.obj.frozen 0
    have f1 := h8.obj.frozen 1
    have f2 := h8.obj.frozen 2
    have f3 := h8.obj.frozen 3
    have f4 := h8.obj.frozen 4
    have k0 := h8.obj.cell (i := 0) rfl
    have k1 := h8.obj.cell (i := 1) rfl
    have k2 := h8.obj.cell (i := 2) rfl
    have k3 := h8.obj.cell (i := 3) rfl
    have k4 := h8.obj.cell (i := 4) rfl
    have H9 := hid (((((h8.setObj 0 (.pointer (some ⟨Bh, 0, none⟩))).setObj 1 (.slice lo ln lc0)).setObj 2 (.pointer (some ⟨B1, 0, none⟩))).setObj 3 (.pointer (some ⟨B2, 0, none⟩))).setObj 4 (.int .i64 ((toksB (litC lensF l) (dstL lensF l) l).length : Int)))
    clear h8 hh H7 HNC
    go_wp2
    try simp only [Exit.inBlock, Exit.then]
    refine ret_cell1 rfl _ 5 Tryz.underlying112 rfl (by kernel_rfl) w.heap.size [.pointer (some ⟨Bh, 0, none⟩), .slice lo ln lc0, .pointer (some ⟨B1, 0, none⟩), .pointer (some ⟨B2, 0, none⟩), .int .i64 ((toksB (litC lensF l) (dstL lensF l) l).length : Int)] 112 rfl rfl H9.out.obj rfl ?_
    exact ⟨Bh, Bt, B1, B2, iv, hv, rfl, H9.out.drop.pre⟩
end
end Go.Proofs.YtdmnfjicjjlnnaaGreatDoor
/-
  Contents written: stored bytes, the head of a dynamic block; how many bits they are.
-/
namespace Go.Proofs.YtdmnfjicjjlnnaaGreatDoor
set_option maxRecDepth 5000
open Go.RowKit
theorem evened_pad (l : List Nat) : evened l = l ++ List.replicate (evenF l.length - l.length) 0 := by
  unfold evened
  congr 2
  unfold evenF
  omega
theorem evened_even {l : List Nat} (h : l.length % 8 = 0) : evened l = l := by
  unfold evened
  rw [h]
  simp
theorem u32_of (z : Nat) (h : z < 4294967296) : IntKind.u32.wrap (z : Int) = (z : Int) := by
  unfold IntKind.wrap; simp [IntKind.bits, IntKind.signed]; omega
theorem inv_bits (n : Nat) (h : n ≤ 65535) : bitsOf 16 (4294967295 - n) = bitsOf 16 (65535 - n) := by
  rw [← bitsOf_mod 16 (4294967295 - n), ← bitsOf_mod 16 (65535 - n)]
  congr 1
  omega
theorem xor_all (n : Nat) (h : n ≤ 65535) : bits .xor .u32 IntKind.u32.max (n : Int) = ((4294967295 - n : Nat) : Int) := by
  have h1 := u32_xor_nat 4294967295 n (by decide) (by omega)
  rw [show IntKind.u32.max = ((4294967295 : Nat) : Int) from rfl, h1]
  congr 1
  refine Nat.eq_of_testBit_eq fun i => ?_
  rw [show 4294967295 - n = 2 ^ 32 - (n + 1) by omega, Nat.testBit_two_pow_sub_succ (by omega : n < 2 ^ 32), Nat.testBit_xor, show 4294967295 = 2 ^ 32 - 1 by rfl, Nat.testBit_two_pow_sub_one]
  by_cases hi : i < 32
  · simp [hi]
  · have : n.testBit i = false := Nat.testBit_lt_two_pow (Nat.lt_of_lt_of_le (by omega : n < 2 ^ 32) (Nat.pow_le_pow_right (by decide) (by omega)))
    simp [hi, this]
section
variable {w0 w : World} {Rs : List Thing}
theorem stored_size (u : Option Addr) (n cap : Nat) (hn : n < 1000000000) :
    Calls Tryz.prog 147 #[.slice u n cap] w fun e w' => e = .returned (.int .i64 ((37 + 8 * n : Nat) : Int)) ∧ w' = w := by
  have h0 : (0 : Int) ≤ (n : Int) := Int.natCast_nonneg _
  go_enter Tryz.func147, Tryz.ntmps147
  go_wp2
  go_ret
  exact ⟨ret_int (by go_num), rfl⟩
theorem coded_size (lo : Option Addr) (ln lc B1 B2 bits : Nat) :
    Calls Tryz.prog 151 #[codV (.slice lo ln lc) B1 B2 bits] w fun e w' => e = .returned (.int .i64 (bits : Int)) ∧ Mod w w' (fun _ => False) := by
  unfold codV
  go_enter Tryz.func151, Tryz.ntmps151
  go_wp2
  go_ret
  exact ⟨rfl, (Mod.refl _ _).alloc _⟩
set_option maxHeartbeats 1600000 in
theorem stored_write {n : Nat} {Bw : Place} {acc raw : List Nat} {S : Thing} (u : Option Addr) (cap : Nat) (h : Held w0 w (wrT Bw acc :: S :: Rs)) (hr : Reads w0 S 1 (.slice u n cap) n (u8s raw)) (hb : ∀ b ∈ raw, b < 256) (hn : n ≤ 65535) (hacc : acc.length < 10000000000) :
    Calls Tryz.prog 148 #[.slice u n cap, .pointer (some ⟨Bw.b, Bw.o, none⟩)] w fun e w' => e = .returned (.tuple #[]) ∧ Held w0 w' (wrT Bw (acc ++ storedBits acc.length raw) :: S :: Rs) := by
  have hrl : n = raw.length := by have := (hr.rd h.swap).1; rw [u8s_length] at this; omega
  have HR := hid hr
  have HB := hid hb
  have hE1 : evened acc = acc ++ List.replicate (evenF acc.length - acc.length) 0 := evened_pad acc
  have hle := evened_le acc
  have hev := evened_length acc
  have HAL := hid (h_walign h (by omega))
  have hw1 : IntKind.u32.wrap (n : Int) = (n : Int) := u32_of n (by omega)
  have HF : Hid (evened (evened acc ++ bitsOf 16 n ++ bitsOf 16 (4294967295 - n)) ++ bits8 raw = acc ++ storedBits acc.length raw) := by
    rw [evened_even (by simp only [List.length_append, bitsOf_length]; omega), inv_bits n hn, hE1, storedBits, ← hrl]
    exact hid (by simp)
  have HL := hid hle
  have HX : bits .xor .u32 IntKind.u32.max (n : Int) = ((4294967295 - n : Nat) : Int) := xor_all n hn
  clear hr h hb hE1 hle hev hrl
  go_enter Tryz.func148, Tryz.ntmps148
  go_wp2_with fail
  with_reducible refine HAL.out.mono ?_
  rintro e w1 ⟨rfl, h1⟩
  have HP1 := hid (h_put h1 n 16 (by omega) (by omega) (by have := HL.out; omega))
  rw [show ((16 : Nat) : Int) = 16 from rfl] at HP1
  clear h1 HAL
  go_wp2_with fail
  with_reducible refine HP1.out.mono ?_
  rintro e w2 ⟨rfl, h2⟩
  have HP2 := hid (h_put h2 (4294967295 - n) 16 (by omega) (by omega) (by have := HL.out; rw [List.length_append, bitsOf_length]; omega))
  rw [show ((16 : Nat) : Int) = 16 from rfl] at HP2
  clear h2 HP1
  go_wp2_with fail
  with_reducible refine HP2.out.mono ?_
  rintro e w3 ⟨rfl, h3⟩
  have HW := hid (h_write_reads h3 HR.out HB.out (by omega) (by have := HL.out; simp only [List.length_append, bitsOf_length]; omega))
  rw [HF.out] at HW
  clear h3 HP2
  go_wp2_with fail
  with_reducible refine HW.out.mono ?_
  rintro e w4 ⟨rfl, h4⟩
  have HE := hid h4
  clear h4 HW
  go_wp2
  go_end0
  exact ⟨rfl, HE.out⟩
set_option maxHeartbeats 3200000 in
theorem head_write {B n1 n2 N m Bt bits : Nat} {Bw : Place} {acc : List Nat} {hd : List Int} {xs : List Item} (io ha : Option Addr) (ic hc : Nat) (h : Held w0 w (wrT Bw acc :: objT B (headL n1 n2 (.slice io m ic) (.slice ha N hc) (.pointer (some ⟨Bt, 0, none⟩)) bits) 155 :: ownT 159 3 (.slice io m ic) m (itemsV xs) :: ownT 3 1 (.slice ha N hc) N (ints ((inOrd hd).take N)) :: tabT hd Bt :: Rs))
    (hl : hd.length = 19) (hA : ∀ a ∈ hd, 0 ≤ a ∧ a ≤ 7) (hF : Fine hd) (hx : ∀ x ∈ xs, HasSym hd x.1 ∧ x.1 < 19 ∧ x.2.1 ≤ 7 ∧ x.2.2 < 2 ^ x.2.1) (hn1 : 257 ≤ n1 ∧ n1 ≤ 286) (hn2 : 1 ≤ n2 ∧ n2 ≤ 30) (hN : 4 ≤ N ∧ N ≤ 19) (hm : m ≤ 1000) (hml : m = xs.length) (hacc : acc.length < 10000000000) :
    Calls Tryz.prog 158 #[.pointer (some ⟨B, 0, none⟩), .pointer (some ⟨Bw.b, Bw.o, none⟩)] w fun e w' => e = .returned (.tuple #[]) ∧
      Held w0 w' (wrT Bw (acc ++ (bitsOf 5 (n1 - 257) ++ (bitsOf 5 (n2 - 1) ++ (bitsOf 4 (N - 4) ++ (headBits hd N ++ itemsB hd xs))))) :: objT B (headL n1 n2 (.slice io m ic) (.slice ha N hc) (.pointer (some ⟨Bt, 0, none⟩)) bits) 155 :: ownT 159 3 (.slice io m ic) m (itemsV xs) :: ownT 3 1 (.slice ha N hc) N (ints ((inOrd hd).take N)) :: tabT hd Bt :: Rs) := by
  unfold headL at h ⊢
  have HH := hid (And.intro hl (And.intro hA (And.intro hF (And.intro hx hml))))
  have i1 : (n1 : Int) - 257 = ((n1 - 257 : Nat) : Int) := by omega
  have i2 : (n2 : Int) - 1 = ((n2 - 1 : Nat) : Int) := by omega
  have i3 : (N : Int) - 4 = ((N - 4 : Nat) : Int) := by omega
  have u1 : IntKind.u32.wrap ((n1 - 257 : Nat) : Int) = ((n1 - 257 : Nat) : Int) := u32_of _ (by omega)
  have u2 : IntKind.u32.wrap ((n2 - 1 : Nat) : Int) = ((n2 - 1 : Nat) : Int) := u32_of _ (by omega)
  have u3 : IntKind.u32.wrap ((N - 4 : Nat) : Int) = ((N - 4 : Nat) : Int) := u32_of _ (by omega)
  have k0 := h.drop.obj.cell (i := 0) rfl
  have HP1 := hid (h_put h (n1 - 257) 5 (by omega) (by omega) (by omega))
  rw [show ((5 : Nat) : Int) = 5 from rfl] at HP1
  clear h hl hA hF hx hml
  go_enter Tryz.func158, Tryz.ntmps158
  go_wp2_with fail
  with_reducible refine HP1.out.mono ?_
  rintro e w1 ⟨rfl, h1⟩
  have k1 := h1.drop.obj.cell (i := 1) rfl
  have HP2 := hid (h_put h1 (n2 - 1) 5 (by omega) (by omega) (by rw [List.length_append, bitsOf_length]; omega))
  rw [show ((5 : Nat) : Int) = 5 from rfl] at HP2
  clear h1 HP1 k0
  go_wp2_with fail
  with_reducible refine HP2.out.mono ?_
  rintro e w2 ⟨rfl, h2⟩
  have k3 := h2.drop.obj.cell (i := 3) rfl
  have HP3 := hid (h_put h2 (N - 4) 4 (by omega) (by omega) (by simp only [List.length_append, bitsOf_length]; omega))
  rw [show ((4 : Nat) : Int) = 4 from rfl] at HP3
  clear h2 HP2 k1
  go_wp2_with fail
  with_reducible refine HP3.out.mono ?_
  rintro e w3 ⟨rfl, h3⟩
  obtain ⟨A, hAd⟩ : ∃ A, A = acc ++ bitsOf 5 (n1 - 257) ++ bitsOf 5 (n2 - 1) ++ bitsOf 4 (N - 4) := ⟨_, rfl⟩
  rw [← hAd] at h3
  have hAl : A.length ≤ acc.length + 14 := by rw [hAd]; simp only [List.length_append, bitsOf_length]; omega
  have HAD := hid hAd
  have j3 := h3.drop.obj.cell (i := 3) rfl
  have H3 := hid h3
  clear h3 HP3 k3 hAd i1 i2 i3 u1 u2 u3
  have hN0 : (0 : Int) ≤ (N : Int) := Int.natCast_nonneg _
  go_wp2
  clear j3
  go_loopg [38] (N + 1) (fun k t38 wr => ∃ i : Nat, i ≤ N ∧ N - i < k ∧ t38 = .int .i64 (i : Int) ∧ Hid (Held w0 wr (wrT Bw (A ++ headBits hd i) :: objT B [.int .i64 (n1 : Int), .int .i64 (n2 : Int), .slice io m ic, .slice ha N hc, .pointer (some ⟨Bt, 0, none⟩), .int .i64 (bits : Int)] 155 :: ownT 159 3 (.slice io m ic) m (itemsV xs) :: ownT 3 1 (.slice ha N hc) N (ints ((inOrd hd).take N)) :: tabT hd Bt :: Rs)))
  case atStart =>
    refine ⟨0, by omega, by omega, rfl, ?_⟩
    rw [headBits, List.append_nil]
    exact H3
  case round =>
    obtain ⟨i, hi, hk, rfl, HI⟩ := hrel
    have hi0 : (0 : Int) ≤ (i : Int) := Int.natCast_nonneg _
    by_cases hin : i < N
    · have hiI : (i : Int) < (N : Int) := by omega
      obtain ⟨v, hv⟩ : ∃ v, hd[orderAt i]? = some v := ⟨hd[orderAt i]'(by have := orderAt_lt i (by omega); have := HH.out.1; omega), List.getElem?_eq_getElem _⟩
      have hva := HH.out.2.1 v (List.mem_of_getElem? hv)
      obtain ⟨z, rfl⟩ := Int.eq_ofNat_of_zero_le hva.1
      have hz : z ≤ 7 := by omega
      have hio : ((inOrd hd).take N)[i]? = some (z : Int) := by rw [List.getElem?_take, if_pos hin, inOrd_get hd (by omega), hv]; rfl
      obtain ⟨g, off, rfl, hcell⟩ := HI.out.drop.drop.drop.own.rd.spot (by omega)
      have c1 := hcell i _ (by rw [ints_get, hio]; rfl)
      have hw : IntKind.u32.wrap (z : Int) = (z : Int) := u32_of _ (by omega)
      have HP := hid (h_put HI.out z 3 (by omega) (by omega) (by rw [List.length_append, headBits_length]; omega))
      have hE : A ++ headBits hd i ++ bitsOf 3 z = A ++ headBits hd (i + 1) := by
        rw [headBits, hv]
        simp
      rw [hE, show ((3 : Nat) : Int) = 3 from rfl] at HP
      clear hcell hio hv hva hE
      go_wp2_with fail
      with_reducible refine HP.out.mono ?_
      rintro e w5 ⟨rfl, hh⟩
      have H5 := hid hh
      clear hh HP c1
      go_wp2
      go_roundg (gk - 1)
      case measure => omega
      case rel => exact ⟨i + 1, by omega, by omega, by go_num, H5⟩
    · have hiI : ¬ (i : Int) < (N : Int) := by omega
      obtain rfl : i = N := by omega
      have k2 := HI.out.drop.obj.cell (i := 2) rfl
      have hm0 : (0 : Int) ≤ (m : Int) := Int.natCast_nonneg _
      have hAl2 : (A ++ headBits hd i).length ≤ acc.length + 100 := by rw [List.length_append, headBits_length]; omega
      obtain ⟨A2, hA2⟩ : ∃ A2, A2 = A ++ headBits hd i := ⟨_, rfl⟩
      rw [← hA2] at HI hAl2
      have HA2 := hid hA2
      clear hA2
      go_wp2
      clear k2
      go_loopg [52] (m + 1) (fun k t52 wr => ∃ j : Nat, j ≤ m ∧ m - j < k ∧ t52 = .int .i64 (j : Int) ∧ Hid (Held w0 wr (wrT Bw (A2 ++ itemsB hd (xs.take j)) :: objT B [.int .i64 (n1 : Int), .int .i64 (n2 : Int), .slice io m ic, .slice ha i hc, .pointer (some ⟨Bt, 0, none⟩), .int .i64 (bits : Int)] 155 :: ownT 159 3 (.slice io m ic) m (itemsV xs) :: ownT 3 1 (.slice ha i hc) i (ints ((inOrd hd).take i)) :: tabT hd Bt :: Rs)))
      case atStart =>
        refine ⟨0, by omega, by omega, rfl, ?_⟩
        rw [List.take_zero, itemsB, List.flatMap_nil, List.append_nil]
        exact HI
      case round =>
        obtain ⟨j, hj, hk2, rfl, HJ⟩ := hrel
        have hj0 : (0 : Int) ≤ (j : Int) := Int.natCast_nonneg _
        have hsl : Hid ((A2 ++ itemsB hd (xs.take j)).length < 100000000000) := by
          have h1 := itemsB_short (hd := hd) HH.out.2.1 (xs := xs.take j) fun x hx => (HH.out.2.2.2.1 x (List.mem_of_mem_take hx)).2.2.1
          have h2 : (xs.take j).length ≤ j := by simp; omega
          rw [List.length_append]
          exact hid (by omega)
        by_cases hjn : j < m
        · have hjI : (j : Int) < (m : Int) := by omega
          obtain ⟨⟨sy, ex, va⟩, ht⟩ : ∃ t, xs[j]? = some t := ⟨xs[j]'(by have := HH.out.2.2.2.2; omega), List.getElem?_eq_getElem _⟩
          obtain ⟨hsy, hs19, hex, hva⟩ := HH.out.2.2.2.1 _ (List.mem_of_getElem? ht)
          simp only at hsy hs19 hex hva
          have hv7 : 2 ^ ex ≤ 2 ^ 7 := Nat.pow_le_pow_right (by decide) hex
          obtain ⟨g, off, rfl, c0, c1, c2⟩ := HJ.out.drop.drop.own.rd.item ht
          have h5 := HJ.out.newObj [.int .i64 (sy : Int), .int .i64 (ex : Int), .int .i64 (va : Int)] 159
          have t0 := h5.obj.cell (i := 0) rfl
          have k4 := h5.drop.drop.obj.cell (i := 4) rfl
          have hw : IntKind.u32.wrap (va : Int) = (va : Int) := u32_of _ (by omega)
          have hE : Hid (A2 ++ itemsB hd (xs.take j) ++ symBits hd sy ++ bitsOf ex va = A2 ++ itemsB hd (xs.take (j + 1))) := by
            rw [List.take_add_one, ht]
            unfold itemsB
            simp only [Option.toList_some, List.flatMap_append, List.flatMap_cons, List.flatMap_nil, List.append_nil, List.append_assoc]
            exact hid rfl
          have H5 := hid h5
          have HSY := hid hsy
          clear h5 ht hsy
          go_wp2
          generalize wr.alloc (.cells #[.int .i64 (sy : Int), .int .i64 (ex : Int), .int .i64 (va : Int)] 159) = w5 at t0 k4 H5 ⊢
          go_still_tail 7, (by kernel_rfl)
          change wpList _ _ _ _ _ (World.drew _)
          have h6 := H5.out.drew.swap.perm (List.Perm.cons _ ((List.perm_append_comm (l₁ := [_, _, _, _]) (l₂ := [_])).append_right Rs))
          have HW := hid (h_sym sy h6 HH.out.2.2.1 HSY.out (by have := hsl.out; omega))
          clear h6 t0 k4 H5
          go_wp2_with fail
          with_reducible refine HW.out.mono ?_
          rintro e w6 ⟨rfl, h7⟩
          have t1 := h7.third.obj.cell (i := 1) rfl
          have t2 := h7.third.obj.cell (i := 2) rfl
          have HP := hid (h_put h7 va ex (by omega) (by omega) (by have := hsl.out; have := lenAt_le (m := 7) HH.out.2.1 sy; rw [List.length_append, symBits_length]; omega))
          rw [hE.out] at HP
          clear h7 HW
          go_wp2_with fail
          with_reducible refine HP.out.mono ?_
          rintro e w7 ⟨rfl, h8⟩
          have H8 := hid (h8.third.drop.perm (List.Perm.cons _ ((List.perm_append_comm (l₁ := [_]) (l₂ := [_, _, _])).append_right Rs)))
          clear h8 HP t1 t2 c0 c1 c2
          go_wp2
          go_roundg (gk - 1)
          case measure => omega
          case rel => exact ⟨j + 1, by omega, by omega, by go_num, H8⟩
        · have hjI : ¬ (j : Int) < (m : Int) := by omega
          have hE : Hid (A2 ++ itemsB hd (xs.take j) = acc ++ (bitsOf 5 (n1 - 257) ++ (bitsOf 5 (n2 - 1) ++ (bitsOf 4 (i - 4) ++ (headBits hd i ++ itemsB hd xs))))) := by
            rw [List.take_of_length_le (by have := HH.out.2.2.2.2; omega), HA2.out, HAD.out]
            exact hid (by simp)
          have HJ2 := HJ.out
          rw [hE.out] at HJ2
          have HK := hid HJ2
          clear HJ2 hE
          go_wp2
          go_end0
          exact ⟨rfl, HK.out⟩
set_option maxHeartbeats 3200000 in
theorem dyn_size (lo : Option Addr) (ln lc Bh B1 B2 bits hb : Nat) (hc : w.cell? ⟨Bh, 5, none⟩ = some (.int .i64 (hb : Int))) (h1 : bits < 1000000000000) (h2 : hb < 1000000000000) :
    Calls Tryz.prog 159 #[dynV Bh (.slice lo ln lc) B1 B2 bits] w fun e w' => e = .returned (.int .i64 ((hb + bits : Nat) : Int)) ∧ Mod w w' (fun _ => False) := by
  have hA := (Held.start w).newObj [.pointer (some ⟨Bh, 0, none⟩), .slice lo ln lc, .pointer (some ⟨B1, 0, none⟩), .pointer (some ⟨B2, 0, none⟩), .int .i64 (bits : Int)] 112
  have c5 : (w.alloc (.cells #[.pointer (some ⟨Bh, 0, none⟩), .slice lo ln lc, .pointer (some ⟨B1, 0, none⟩), .pointer (some ⟨B2, 0, none⟩), .int .i64 (bits : Int)] 112)).cell? ⟨Bh, 5, none⟩ = some (.int .i64 (hb : Int)) := by
    rw [hA.mod.cell (World.block_lt_of_cell? w _ hc) (fun h => h)]; exact hc
  have HA := hid hA
  unfold dynV
  go_enter Tryz.func159, Tryz.ntmps159
  go_wp2
  generalize w.alloc (.cells #[.pointer (some ⟨Bh, 0, none⟩), .slice lo ln lc, .pointer (some ⟨B1, 0, none⟩), .pointer (some ⟨B2, 0, none⟩), .int .i64 (bits : Int)] 112) = w1 at c5 HA ⊢
  have k0 := HA.out.obj.cell (i := 0) rfl
  have k1 := HA.out.obj.cell (i := 1) rfl
  have k2 := HA.out.obj.cell (i := 2) rfl
  have k3 := HA.out.obj.cell (i := 3) rfl
  have k4 := HA.out.obj.cell (i := 4) rfl
  have HC := hid (fun k => coded_size (w := w1.drewN k) lo ln lc B1 B2 bits)
  unfold codV at HC
  clear hA hc
  go_region_held3 (fun w' => w'.cell? ⟨Bh, 5, none⟩ = some (.int .i64 (hb : Int)) ∧ w'.cell? ⟨w.heap.size, 0, none⟩ = some (.pointer (some ⟨Bh, 0, none⟩)) ∧ w'.cell? ⟨w.heap.size, 1, none⟩ = some (.slice lo ln lc) ∧ w'.cell? ⟨w.heap.size, 2, none⟩ = some (.pointer (some ⟨B1, 0, none⟩)) ∧ w'.cell? ⟨w.heap.size, 3, none⟩ = some (.pointer (some ⟨B2, 0, none⟩)) ∧ w'.cell? ⟨w.heap.size, 4, none⟩ = some (.int .i64 (bits : Int)))
    (first | exact ⟨d5, e0, e1, e2, e3, e4⟩ | exact ⟨c5, k0, k1, k2, k3, k4⟩ | go_keep)
    ((first
      | (go_at_call 151; refine (HC.out 1).mono ?_; rintro e w5 ⟨rfl, hm⟩; have HA5 := hid (HA.out.drewN 1 |>.same hm); have e0 := HA5.out.obj.cell (i := 0) rfl; have e1 := HA5.out.obj.cell (i := 1) rfl; have e2 := HA5.out.obj.cell (i := 2) rfl; have e3 := HA5.out.obj.cell (i := 3) rfl; have e4 := HA5.out.obj.cell (i := 4) rfl; have d5 : w5.cell? ⟨Bh, 5, none⟩ = some (.int .i64 (hb : Int)) := by (rw [hm.cell (World.block_lt_of_cell? w1 _ c5) (fun h => h)]; exact c5))))
  all_goals
    go_wp2
    go_ret
    exact ⟨ret_int (by rw [← Int.natCast_add]; exact wrap_nat _ (by omega)), HA5.out.mod⟩
set_option maxHeartbeats 1600000 in
theorem dyn_write {n : Nat} {Bw : Place} {acc : List Nat} {l : List Tok} {S : Thing} (lo : Option Addr) (lc Bh Bt B1 B2 bits : Nat) (iv hv : Value) (h : Held w0 w (wrT Bw acc :: S :: (dynTs l Bh Bt B1 B2 iv hv ++ Rs))) (hr : Reads w0 S 3 (.slice lo n lc) n (toksV l)) (hs : ∀ t ∈ l, soundB t = true) (hb : byteOK l) (hn : n < 1048576) (hacc : acc.length < 1000000000) :
    Calls Tryz.prog 160 #[dynV Bh (.slice lo n lc) B1 B2 bits, .pointer (some ⟨Bw.b, Bw.o, none⟩)] w fun e w' => e = .returned (.tuple #[]) ∧ Held w0 w' (wrT Bw (acc ++ blkF lensF 2 l [] 0) :: S :: (dynTs l Bh Bt B1 B2 iv hv ++ Rs)) := by
  obtain ⟨lit, hlit⟩ : ∃ lit, lit = litC lensF l := ⟨_, rfl⟩
  obtain ⟨dist, hdist⟩ : ∃ dist, dist = dstL lensF l := ⟨_, rfl⟩
  obtain ⟨xs, hxs⟩ : ∃ xs, xs = itemsOf lit dist := ⟨_, rfl⟩
  obtain ⟨hd, hhd⟩ : ∃ hd, hd = headC lensF xs := ⟨_, rfl⟩
  have a1 := lit_len lensF_LensOK l
  have a2 := dst_len lensF_LensOK l
  have a3 := lit_check lensF_LensOK l
  have a4 := dst_check lensF_LensOK l
  have a5 := covers_dyn lensF_LensOK hs hb
  have a6 := all_app (lit_all lensF_LensOK l) (dst_all lensF_LensOK l)
  have a7 : (blkF lensF 2 l [] 0) = headB (litC lensF l) (dstL lensF l) (headC lensF (itemsOf (litC lensF l) (dstL lensF l))) (itemsOf (litC lensF l) (dstL lensF l)) ++ toksB (litC lensF l) (dstL lensF l) l := rfl
  have b1 := headC_len lensF_LensOK xs
  have b2 := headC_all lensF_LensOK xs
  have b3 := headC_check lensF_LensOK xs
  have b4 : 4 ≤ headN hd := cutN_ge _ (by decide)
  have b5 : headN hd ≤ 19 := cutN_le _
  unfold dynTs at h ⊢
  rw [a7]
  rw [← hlit, ← hdist] at a6 a5 h ⊢
  rw [← hlit] at a1 a3
  rw [← hdist] at a2 a4
  rw [← hxs] at h ⊢
  rw [← hhd] at b1 b2 b3 h ⊢
  have b6 : ∀ x ∈ xs, HasSym hd x.1 ∧ x.1 < 19 ∧ x.2.1 ≤ 7 ∧ x.2.2 < 2 ^ x.2.1 := fun x hx => by
    have h1 := itemsF_sym a6 (lit ++ dist).length 0 x (by rw [hxs] at hx; exact hx)
    exact ⟨by rw [hhd]; exact headC_has lensF_LensOK hx h1.1, h1⟩
  have b7 : xs.length ≤ 1000 := by
    have h1 := itemsF_length (all := lit ++ dist) (lit ++ dist).length 0
    have h2 : xs.length ≤ (lit ++ dist).length := by rw [hxs]; exact h1
    rw [List.length_append] at h2
    omega
  have hE : Hid (headB lit dist hd xs = bitsOf 5 (lit.length - 257) ++ (bitsOf 5 (dist.length - 1) ++ (bitsOf 4 (headN hd - 4) ++ (headBits hd (headN hd) ++ itemsB hd xs)))) := hid rfl
  obtain ⟨N, hN⟩ : ∃ N, N = headN hd := ⟨_, rfl⟩
  rw [← hN] at b4 b5 h hE ⊢
  have hsh : (headB lit dist hd xs).length ≤ 20000 := by
    have h1 := headB_length lit dist hd xs
    have h2 := itemsB_short (hd := hd) b2 (xs := xs) fun x hx => (b6 x hx).2.2.1
    rw [← hN] at h1
    omega
  have HH := hid (And.intro a3 (And.intro a4 (And.intro a5 (And.intro hr (And.intro hs hb)))))
  obtain ⟨io, ic, rfl, _, _⟩ := (h.drop.drop.drop.drop.drop.own).form
  obtain ⟨ha, hc, rfl, _, _⟩ := (h.drop.drop.drop.drop.drop.drop.own).form
  have h1 := (h.newObj [.pointer (some ⟨Bh, 0, none⟩), .slice lo n lc, .pointer (some ⟨B1, 0, none⟩), .pointer (some ⟨B2, 0, none⟩), .int .i64 (bits : Int)] 112).swap.perm (List.Perm.cons _ ((List.perm_append_comm (l₁ := [_, _, _, _]) (l₂ := [_, _, _, _])).append_right Rs))
  have k0 := h1.drop.drop.drop.drop.drop.obj.cell (i := 0) rfl
  have HW := hid (head_write io ha ic hc h1 b1 b2 (fine_of b3) b6 ⟨a1.1, a1.2⟩ ⟨a2.1, a2.2⟩ ⟨b4, b5⟩ b7 rfl (by omega))
  rw [← hE.out] at HW
  clear h h1 hr hs hb a1 a2 a3 a4 a5 a6 a7 b1 b2 b3 b4 b5 b6 b7 hE hN hlit hdist hxs hhd
  have HSH := hid hsh
  clear hsh
  unfold dynV
  go_enter Tryz.func160, Tryz.ntmps160
  go_wp2_with fail
  with_reducible refine HW.out.mono ?_
  rintro e w2 ⟨rfl, h2⟩
  have j1 := h2.drop.drop.drop.drop.drop.obj.cell (i := 1) rfl
  have j2 := h2.drop.drop.drop.drop.drop.obj.cell (i := 2) rfl
  have j3 := h2.drop.drop.drop.drop.drop.obj.cell (i := 3) rfl
  have j4 := h2.drop.drop.drop.drop.drop.obj.cell (i := 4) rfl
  have h3 := (h2.perm (List.Perm.cons _ ((List.perm_append_comm (l₁ := [_, _, _, _, _, _]) (l₂ := [_, _])).append_right Rs))).perm (List.Perm.cons _ (List.Perm.cons _ (List.Perm.cons _ ((List.perm_append_comm (l₁ := [_, _, _, _, _]) (l₂ := [_])).append_right Rs))))
  have HC := hid (cwrite_any (bits := bits) (.slice lo n lc) l h3 HH.out.2.2.2.1 (fine_of HH.out.1) (fine_of HH.out.2.1) HH.out.2.2.2.2.1 HH.out.2.2.2.2.2 HH.out.2.2.1 hn (by have := HSH.out; rw [List.length_append]; omega))
  unfold codV at HC
  clear h2 h3 HW k0
  go_wp2_with fail
  with_reducible refine HC.out.mono ?_
  rintro e w3 ⟨rfl, h4⟩
  rw [List.append_assoc] at h4
  have H5 := hid ((h4.perm ((List.perm_append_comm (l₁ := [_, _, _, _, _, _, _, _]) (l₂ := [_])).append_right Rs)).drop.perm (List.Perm.cons _ ((List.perm_append_comm (l₁ := [_, _]) (l₂ := [_])).append_right _)))
  clear h4 HC j1 j2 j3 j4
  go_wp2
  go_end0
  exact ⟨rfl, H5.out⟩
end
end Go.Proofs.YtdmnfjicjjlnnaaGreatDoor
