/-
  The landed finder as a thing in memory; where a start was last (nearest), and the one before it (farther).
-/
import Derived.Test.YtjmdgcppllnkdaaDoorMatIn
namespace Go.Proofs.YtjmdgcppllnkdaaDoor
open Go.RowKit

def finV (tr en la : Nat) (lv : Value) (gone : Nat) (lm om bv : Value) (at' : Nat) : List Value :=
  [.int .i64 (tr : Int), .int .i64 (en : Int), .int .i64 (la : Int), lv, .int .i64 (gone : Int), lm, om, bv, .int .i64 (at' : Int)]
def mapS (v : Value) (g : List Nat → Option Nat) (n : Nat) : Thing := mapT (arrV .u8) goodS (fun p : Nat => .int .i64 (p : Int)) v g n
def finL (tr en la at' gone : Nat) (bs bk : List Nat) (g h : List Nat → Option Nat) (n B : Nat) (lv bv : Value) (m1 m2 : Nat) : List Thing :=
  [objT B (finV tr en la lv gone (.map (some m1)) (.map (some m2)) bv at') 58, ownT 5 1 lv bs.length (u8s bs), ownT 42 1 bv bk.length (nums .u16 bk), mapS (.map (some m1)) g n, mapS (.map (some m2)) h n]
def rawF (tr en la at' gone : Nat) (bs bk : List Nat) (g h : List Nat → Option Nat) (n B : Nat) : Thing :=
  exT fun q : Value × Value × Nat × Nat => allT (finL tr en la at' gone bs bk g h n B q.1 q.2.1 q.2.2.1 q.2.2.2)
section
variable {w0 w : World} {Rs : List Thing} {tr en la at' gone n B : Nat} {bs bk : List Nat} {g h : List Nat → Option Nat}
theorem unFin (H : Held w0 w (rawF tr en la at' gone bs bk g h n B :: Rs)) : ∃ (lv bv : Value) (m1 m2 : Nat), Held w0 w (finL tr en la at' gone bs bk g h n B lv bv m1 m2 ++ Rs) := by
  obtain ⟨⟨lv, bv, m1, m2⟩, h1⟩ := H.ex
  exact ⟨lv, bv, m1, m2, h1.unall⟩
theorem mkFin (lv bv : Value) (m1 m2 : Nat) (H : Held w0 w (finL tr en la at' gone bs bk g h n B lv bv m1 m2 ++ Rs)) : Held w0 w (rawF tr en la at' gone bs bk g h n B :: Rs) :=
  Held.mk (R := fun q : Value × Value × Nat × Nat => allT (finL tr en la at' gone bs bk g h n B q.1 q.2.1 q.2.2.1 q.2.2.2)) (lv, bv, m1, m2) H.all
theorem Held.at2 {R1 R2 : Thing} (H : Held w0 w (R1 :: R2 :: Rs)) : Held w0 w (R2 :: R1 :: Rs) := H.swap
/-- what a finder's object and things say, all at once -/
theorem finAll {lv bv : Value} {m1 m2 : Nat} (H : Held w0 w (finL tr en la at' gone bs bk g h n B lv bv m1 m2 ++ Rs)) :
    Blk w B (finV tr en la lv gone (.map (some m1)) (.map (some m2)) bv at') 58 ∧ Own w 5 1 lv bs.length (u8s bs) ∧ Own w 42 1 bv bk.length (nums .u16 bk) ∧
      MapIs (arrV .u8) goodS (fun p : Nat => .int .i64 (p : Int)) w m1 g n ∧ MapIs (arrV .u8) goodS (fun p : Nat => .int .i64 (p : Int)) w m2 h n := by
  have H1 : Held w0 w (objT B (finV tr en la lv gone (.map (some m1)) (.map (some m2)) bv at') 58 :: ownT 5 1 lv bs.length (u8s bs) :: ownT 42 1 bv bk.length (nums .u16 bk) :: mapS (.map (some m1)) g n :: mapS (.map (some m2)) h n :: Rs) := H
  have h1 := H1.obj
  have h2 := H1.drop.own
  have h3 := H1.drop.drop.own
  obtain ⟨b4, e4, h4⟩ := H1.drop.drop.drop.map
  obtain ⟨b5, e5, h5⟩ := H1.drop.drop.drop.drop.map
  simp only [Value.map.injEq, Option.some.injEq] at e4 e5
  subst e4; subst e5
  exact ⟨h1, h2, h3, h4, h5⟩
end
theorem zeroInt (w : World) : (zeroValue 3).run Tryd.prog w = .ok (.int .i64 0) w := by kernel_rfl
theorem at3_good {x : List Nat} {P : Nat} (h : P + 3 ≤ x.length) (hb : ∀ b ∈ x, b < 256) : ∃ a b c : Nat, at3 x P = [a, b, c] ∧ goodS (at3 x P) := by
  have hl : (at3 x P).length = 3 := by unfold at3; rw [List.length_take, List.length_drop]; omega
  have hg : goodS (at3 x P) := ⟨hl, fun b h => hb b (List.mem_of_mem_drop (List.mem_of_mem_take h))⟩
  match e : at3 x P, hl with
  | [a, b, c], _ => exact ⟨a, b, c, rfl, by rw [← e]; exact hg⟩
section
variable {w0 w : World} {Rs : List Thing} {tr en la at' cut n B a P : Nat} {x bk : List Nat}
set_option maxHeartbeats 1600000 in
theorem nearest_any (H : Held w0 w (rawF tr en la at' cut (x.drop cut) bk (mLast x a P) (mOlder 32768 x a) n B :: Rs)) (hcut : cut ≤ P) (hx : P + 3 ≤ x.length) (hlen : x.length < 1000000000) (ha : a ≤ P) (hb : ∀ b ∈ x, b < 256) :
    Calls Tryd.prog 26 #[.pointer (some ⟨B, 3, none⟩), .int .i64 ((P - cut : Nat) : Int)] w fun e w' => e = .returned (.int .i64 ((near 32768 x P : Nat) : Int)) ∧ Mod w w' (fun _ => False) := by
  obtain ⟨i0, hi0, hz0, hz1, hz2⟩ := info_parts infoByteM
  obtain ⟨lv, bv, m1, m2, HF⟩ := unFin H
  obtain ⟨hB, hO, _, hM1, hM2⟩ := finAll HF
  obtain ⟨L, hL⟩ : ∃ L, L = (x.drop cut).length := ⟨_, rfl⟩
  obtain ⟨i, hi⟩ : ∃ i, i = P - cut := ⟨_, rfl⟩
  have hLx : L = x.length - cut := by rw [hL, List.length_drop]
  rw [← hL] at hO
  rw [← hi]
  have hiL : i ≤ L := by omega
  obtain ⟨ao, cap, rfl, hnc, hcm⟩ := hO.form
  have c3 := hB.cell (i := 3) rfl
  have hcutE : ∀ wg, (Instr.sliceAt 22 (.slice ao L cap) (some (.int .i64 (i : Int))) none none).run Tryd.prog wg = .ok (.slice (if cap = i then ao else ao.map fun (x : Addr) => x.add (i * 1)) (L - i) (cap - i)) wg := fun wg =>
    run_cut (P := Tryd.prog) 22 5 i0 1 Tryd.underlying22 hi0 hz1 ao L cap i L (some (.int .i64 (i : Int))) none ⟨_, rfl⟩ rfl hiL hnc
  have hrd := hO.rd.cut (L := i) (H := L) hiL (Nat.le_refl _)
  unfold sliced at hrd
  generalize (if cap = i then ao else ao.map fun (x : Addr) => x.add (i * 1)) = a' at hcutE hrd
  have e2 : ((u8s (x.drop cut)).drop (i * 1)).take ((L - i) * 1) = u8s (x.drop P) := by
    rw [Nat.mul_one, Nat.mul_one, List.take_of_length_le (by rw [List.length_drop, u8s_length, ← hL]; omega)]
    simp only [u8s, ← List.map_drop, List.drop_drop]
    rw [show cut + i = P by omega]
  rw [e2] at hrd
  obtain ⟨K, hK⟩ : ∃ K, K = L - i := ⟨_, rfl⟩
  rw [← hK] at hrd hcutE
  have HS := hid (startOf_any _ K (x.drop P) w hrd (by omega))
  obtain ⟨s0, s1, s2, hs, hg⟩ := at3_good hx hb
  have hs3 : (x.drop P).take 3 = [s0, s1, s2] := hs
  rw [hs3] at HS
  have HS : Hid (Calls Tryd.prog 32 _ w fun e w' => e = .returned (.agg #[.int .u8 (s0 : Int), .int .u8 (s1 : Int), .int .u8 (s2 : Int)]) ∧ Mod w w' (fun _ => False)) := HS
  have hnear := near_maps 32768 x a P ha
  unfold nearM at hnear
  rw [hs] at hnear hg
  have HB := hid hB
  have H1 := hid hM1
  have H2 := hid hM2
  have hi0' : (0 : Int) ≤ (i : Int) := Int.natCast_nonneg _
  clear hB hM1 hM2 HF H hO hrd e2 hK hs3
  rcases e1 : mLast x a P [s0, s1, s2] with _ | k
  · rcases e3 : mOlder 32768 x a [s0, s1, s2] with _ | k
    · rw [e1, e3] at hnear
      have HN : Hid (0 = near 32768 x P) := hid hnear
      clear hnear hi hL hLx
      go_enter Tryd.func26, Tryd.ntmps26
      go_wp2_with fail
      refine HS.out.mono ?_
      rintro e w1 ⟨rfl, m1'⟩
      have HB1 := hid (HB.out.kept m1' (fun h => h))
      have H11 := hid (H1.out.kept m1' (fun h => h))
      have HM := hid m1'
      clear HS m1'
      have HA := hid (Blk.new w1 (nums .u8 [0, 0, 0]) 71)
      have HB2 := hid (HB1.out.alloc (.cells (nums .u8 [0, 0, 0]).toArray 71))
      have H21 := hid (H2.out.kept HM.out (fun h => h))
      have H12 := hid (H11.out.kept ((Mod.refl w1 (fun _ => False)).alloc (.cells (nums .u8 [0, 0, 0]).toArray 71)) (fun h => h))
      go_wp2_with (first
        | (refine wpList_alloc_arr rfl _ rfl .u8 _ infoStz ?_)
        | (refine wpList_store_arr rfl 71 _ _ rfl 3 infoSts w1.heap.size .u8 [0, 0, 0] [s0, s1, s2] 71 rfl rfl rfl rfl HA.out ?_; intro w4 b4 m4; have H4 := hid b4; have M4 := hid m4; clear b4 m4))
      have hm14 : Mod w1 w4 (fun _ => False) := ((Mod.refl w1 (fun _ => False)).alloc _).trans M4.out (fun k hk e => by omega)
      have HM4 := hid (HM.out.same hm14)
      have HB4 := hid (HB1.out.kept hm14 (fun h => h))
      have hM4 := H11.out.kept hm14 (fun h => h)
      have hq := fun k => (show MapIs (arrV .u8) goodS (fun p : Nat => .int .i64 (p : Int)) (w4.drewN k) m1 (mLast x a P) n from hM4.kept ((Mod.refl w4 (fun _ => False)).drewN k) (fun h => h)).look startKey (t := 52) Tryd.underlying52 (zeroInt _) [s0, s1, s2] hg
      rw [e1] at hq
      have hq : ∀ k', (Instr.lookup 52 (.map (some m1)) (.agg #[.int .u8 (s0 : Int), .int .u8 (s1 : Int), .int .u8 (s2 : Int)]) true).run Tryd.prog (w4.drewN k') = .ok (.tuple #[.int .i64 0, .bool false]) (w4.drewN k') := hq
      have hM42 := H21.out.kept hm14 (fun h => h)
      have hq2 := fun k => (show MapIs (arrV .u8) goodS (fun p : Nat => .int .i64 (p : Int)) (w4.drewN k) m2 (mOlder 32768 x a) n from hM42.kept ((Mod.refl w4 (fun _ => False)).drewN k) (fun h => h)).look startKey (t := 52) Tryd.underlying52 (zeroInt _) [s0, s1, s2] hg
      rw [e3] at hq2
      have hq2 : ∀ k', (Instr.lookup 52 (.map (some m2)) (.agg #[.int .u8 (s0 : Int), .int .u8 (s1 : Int), .int .u8 (s2 : Int)]) true).run Tryd.prog (w4.drewN k') = .ok (.tuple #[.int .i64 0, .bool false]) (w4.drewN k') := hq2
      have d6 := HB4.out.cell (i := 6) rfl
      have q0 := H4.out.cell (i := 0) rfl
      have q1 := H4.out.cell (i := 1) rfl
      have q2 := H4.out.cell (i := 2) rfl
      have d5 := HB4.out.cell (i := 5) rfl
      have d4 := HB4.out.cell (i := 4) rfl
      clear hM4 hm14 hM42
      go_quiet (fail)
      go_wp2
      go_quiet (fail)
      go_wp2
      go_ret
      exact ⟨by rw [← HN.out]; rfl, HM4.out.drewN _⟩
    · rw [e1, e3] at hnear
      have hnear : reach 32768 (P - k) = near 32768 x P := hnear
      have hk : k < P := by
        unfold mOlder at e3
        have := Option.filter_eq_some_iff.1 e3
        have := (lastAt_some this.1).1
        omega
      have hd : ((cut : Int) + (i : Int)) - (k : Int) = ((P - k : Nat) : Int) := by omega
      have HR := hid (reached_any (P - k) (by omega))
      have HN := hid hnear
      obtain ⟨D, hD⟩ : ∃ D, D = P - k := ⟨_, rfl⟩
      rw [← hD] at hd HR HN
      have hsum : (cut : Int) + (i : Int) = (P : Int) := by omega
      have hPb : P < 1000000000 := by omega
      have hd2 : (P : Int) - (k : Int) = (D : Int) := by omega
      clear hnear hi hL hLx hD hd
      go_enter Tryd.func26, Tryd.ntmps26
      go_wp2_with fail
      refine HS.out.mono ?_
      rintro e w1 ⟨rfl, m1'⟩
      have HB1 := hid (HB.out.kept m1' (fun h => h))
      have H11 := hid (H1.out.kept m1' (fun h => h))
      have HM := hid m1'
      clear HS m1'
      have HA := hid (Blk.new w1 (nums .u8 [0, 0, 0]) 71)
      have HB2 := hid (HB1.out.alloc (.cells (nums .u8 [0, 0, 0]).toArray 71))
      have H21 := hid (H2.out.kept HM.out (fun h => h))
      have H12 := hid (H11.out.kept ((Mod.refl w1 (fun _ => False)).alloc (.cells (nums .u8 [0, 0, 0]).toArray 71)) (fun h => h))
      go_wp2_with (first
        | (refine wpList_alloc_arr rfl _ rfl .u8 _ infoStz ?_)
        | (refine wpList_store_arr rfl 71 _ _ rfl 3 infoSts w1.heap.size .u8 [0, 0, 0] [s0, s1, s2] 71 rfl rfl rfl rfl HA.out ?_; intro w4 b4 m4; have H4 := hid b4; have M4 := hid m4; clear b4 m4))
      have hm14 : Mod w1 w4 (fun _ => False) := ((Mod.refl w1 (fun _ => False)).alloc _).trans M4.out (fun k hk e => by omega)
      have HM4 := hid (HM.out.same hm14)
      have HB4 := hid (HB1.out.kept hm14 (fun h => h))
      have hM4 := H11.out.kept hm14 (fun h => h)
      have hq := fun k => (show MapIs (arrV .u8) goodS (fun p : Nat => .int .i64 (p : Int)) (w4.drewN k) m1 (mLast x a P) n from hM4.kept ((Mod.refl w4 (fun _ => False)).drewN k) (fun h => h)).look startKey (t := 52) Tryd.underlying52 (zeroInt _) [s0, s1, s2] hg
      rw [e1] at hq
      have hq : ∀ k', (Instr.lookup 52 (.map (some m1)) (.agg #[.int .u8 (s0 : Int), .int .u8 (s1 : Int), .int .u8 (s2 : Int)]) true).run Tryd.prog (w4.drewN k') = .ok (.tuple #[.int .i64 0, .bool false]) (w4.drewN k') := hq
      have hM42 := H21.out.kept hm14 (fun h => h)
      have hq2 := fun k => (show MapIs (arrV .u8) goodS (fun p : Nat => .int .i64 (p : Int)) (w4.drewN k) m2 (mOlder 32768 x a) n from hM42.kept ((Mod.refl w4 (fun _ => False)).drewN k) (fun h => h)).look startKey (t := 52) Tryd.underlying52 (zeroInt _) [s0, s1, s2] hg
      rw [e3] at hq2
      have hq2 : ∀ k', (Instr.lookup 52 (.map (some m2)) (.agg #[.int .u8 (s0 : Int), .int .u8 (s1 : Int), .int .u8 (s2 : Int)]) true).run Tryd.prog (w4.drewN k') = .ok (.tuple #[.int .i64 (k : Int), .bool true]) (w4.drewN k') := hq2
      have d6 := HB4.out.cell (i := 6) rfl
      have q0 := H4.out.cell (i := 0) rfl
      have q1 := H4.out.cell (i := 1) rfl
      have q2 := H4.out.cell (i := 2) rfl
      have d5 := HB4.out.cell (i := 5) rfl
      have d4 := HB4.out.cell (i := 4) rfl
      clear hM4 hm14 hM42
      go_quiet (fail)
      go_wp2
      go_quiet (fail)
      go_wp2_with fail
      refine (HR.out _).mono ?_
      rintro e w5 ⟨rfl, rfl⟩
      go_wp2
      go_ret
      exact ⟨by rw [← HN.out]; rfl, HM4.out.drewN _⟩
  · rw [e1] at hnear
    have hnear : reach 32768 (P - k) = near 32768 x P := hnear
    have hk : k < P := by
      unfold mLast at e1
      have := Option.filter_eq_some_iff.1 e1
      exact (lastAt_some this.1).1
    have hd : ((cut : Int) + (i : Int)) - (k : Int) = ((P - k : Nat) : Int) := by omega
    have HR := hid (reached_any (P - k) (by omega))
    have HN := hid hnear
    obtain ⟨D, hD⟩ : ∃ D, D = P - k := ⟨_, rfl⟩
    rw [← hD] at hd HR HN
    have hsum : (cut : Int) + (i : Int) = (P : Int) := by omega
    have hPb : P < 1000000000 := by omega
    have hd2 : (P : Int) - (k : Int) = (D : Int) := by omega
    clear hnear hi hL hLx hD hd
    go_enter Tryd.func26, Tryd.ntmps26
    go_wp2_with fail
    refine HS.out.mono ?_
    rintro e w1 ⟨rfl, m1'⟩
    have HB1 := hid (HB.out.kept m1' (fun h => h))
    have H11 := hid (H1.out.kept m1' (fun h => h))
    have HM := hid m1'
    clear HS m1'
    have HA := hid (Blk.new w1 (nums .u8 [0, 0, 0]) 71)
    have HB2 := hid (HB1.out.alloc (.cells (nums .u8 [0, 0, 0]).toArray 71))
    have H12 := hid (H11.out.kept ((Mod.refl w1 (fun _ => False)).alloc (.cells (nums .u8 [0, 0, 0]).toArray 71)) (fun h => h))
    go_wp2_with (first
      | (refine wpList_alloc_arr rfl _ rfl .u8 _ infoStz ?_)
      | (refine wpList_store_arr rfl 71 _ _ rfl 3 infoSts w1.heap.size .u8 [0, 0, 0] [s0, s1, s2] 71 rfl rfl rfl rfl HA.out ?_; intro w4 b4 m4; have H4 := hid b4; have M4 := hid m4; clear b4 m4))
    have hm14 : Mod w1 w4 (fun _ => False) := ((Mod.refl w1 (fun _ => False)).alloc _).trans M4.out (fun k hk e => by omega)
    have HM4 := hid (HM.out.same hm14)
    have HB4 := hid (HB1.out.kept hm14 (fun h => h))
    have hM4 := H11.out.kept hm14 (fun h => h)
    have hq := fun k => (show MapIs (arrV .u8) goodS (fun p : Nat => .int .i64 (p : Int)) (w4.drewN k) m1 (mLast x a P) n from hM4.kept ((Mod.refl w4 (fun _ => False)).drewN k) (fun h => h)).look startKey (t := 52) Tryd.underlying52 (zeroInt _) [s0, s1, s2] hg
    rw [e1] at hq
    have hq : ∀ k', (Instr.lookup 52 (.map (some m1)) (.agg #[.int .u8 (s0 : Int), .int .u8 (s1 : Int), .int .u8 (s2 : Int)]) true).run Tryd.prog (w4.drewN k') = .ok (.tuple #[.int .i64 (k : Int), .bool true]) (w4.drewN k') := hq
    have q0 := H4.out.cell (i := 0) rfl
    have q1 := H4.out.cell (i := 1) rfl
    have q2 := H4.out.cell (i := 2) rfl
    have d5 := HB4.out.cell (i := 5) rfl
    have d4 := HB4.out.cell (i := 4) rfl
    clear hM4 hm14
    go_quiet (fail)
    go_wp2_with fail
    refine (HR.out _).mono ?_
    rintro e w5 ⟨rfl, rfl⟩
    go_wp2
    go_ret
    exact ⟨by rw [← HN.out]; rfl, HM4.out.drewN _⟩
end
end Go.Proofs.YtjmdgcppllnkdaaDoor
