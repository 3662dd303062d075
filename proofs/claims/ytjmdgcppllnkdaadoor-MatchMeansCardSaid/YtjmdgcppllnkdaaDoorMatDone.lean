/-
  The landed finder keeps MatchOK.
-/
import Derived.Test.YtjmdgcppllnkdaaDoorMatFin4
namespace Go.Proofs.YtjmdgcppllnkdaaDoor
open Go.RowKit

structure FinS where
  tr : Nat
  en : Nat
  la : Nat
  x : List Nat
  outs : List Tok
  at_ : Nat
def told (s : FinS) (e : Bool) : List Tok × Nat :=
  if s.tr = 0 then (litsT (s.x.drop s.at_), s.x.length) else parse 32768 258 s.x s.tr s.en s.la (if e then 0 else 261) s.at_
structure FinOk (s : FinS) : Prop where
  le : s.at_ ≤ s.x.length
  bytes : ∀ b ∈ s.x, b < 256
  len : s.x.length < 1000000000
  tries : s.tr ≤ 1024
  outs : byteOK s.outs
  means : s.x.length ≤ most → expT [] s.outs = (0, s.x.take s.at_)
structure FinClean (lev : Int) (s : FinS) : Prop where
  lv : (s.tr, s.en, s.la) = lvl lev
  le : s.at_ ≤ s.x.length
  lits : s.tr = 0 → s.outs = litsT (s.x.take s.at_)
  toks : s.tr ≠ 0 → ∀ y, s.outs ++ (parse 32768 258 (s.x ++ y) s.tr s.en s.la 0 s.at_).1 = (parse 32768 258 (s.x ++ y) s.tr s.en s.la 0 0).1
def finM : MatchM where
  St := FinS
  start lev := ⟨(lvl lev).1, (lvl lev).2.1, (lvl lev).2.2, [], [], 0⟩
  write s bs := { s with x := s.x ++ bs }
  toks s e := ({ s with outs := s.outs ++ (told s e).1, at_ := (told s e).2 }, (told s e).1)
  inp s := s.x
  outs s := s.outs
  wait s := s.x.length - s.at_
  one x lev := if (lvl lev).1 = 0 then litsT x else (parse 32768 258 x (lvl lev).1 (lvl lev).2.1 (lvl lev).2.2 0 0).1
  Ok := FinOk
  Clean := FinClean
theorem litsT_app (a b : List Nat) : litsT (a ++ b) = litsT a ++ litsT b := by simp [litsT]
theorem litsT_means : ∀ (l acc : List Nat), acc.length + l.length ≤ most → expT acc (litsT l) = (0, acc ++ l)
  | [], acc, _ => by simp [litsT, expT]
  | b :: r, acc, h => by
    show expT acc (((b : Int), 0, 0) :: litsT r) = _
    rw [expT_cons, stepT_lit (by simp [soundB]) rfl (by simp at h; omega), if_pos rfl]
    show expT (acc ++ [((b : Int)).toNat]) (litsT r) = _
    rw [litsT_means r _ (by simp at h ⊢; omega)]
    simp
theorem litsT_bytes (l : List Nat) (h : ∀ b ∈ l, b < 256) : byteOK (litsT l) := by
  intro t ht
  obtain ⟨b, hb, rfl⟩ := List.mem_map.1 ht
  have := h b hb
  show (0 : Int) ≤ (b : Int) ∧ (b : Int) ≤ 255
  omega
theorem told_le (s : FinS) (e : Bool) (h : s.at_ ≤ s.x.length) : (told s e).2 ≤ s.x.length := by
  unfold told
  split
  · exact Nat.le_refl _
  · exact (parse_le (by omega) _ h).1
theorem told_end (s : FinS) (e : Bool) : s.x.length - (told s e).2 ≤ (if e then 0 else 261) := by
  unfold told
  split
  · simp
  · exact parse_stay _
theorem told_bytes (s : FinS) (e : Bool) (hb : ∀ b ∈ s.x, b < 256) : byteOK (told s e).1 := by
  unfold told
  split
  · exact litsT_bytes _ fun b h => hb b (List.mem_of_mem_drop h)
  · exact parse_bytes (by omega) hb _ _ (Nat.le_refl _)
theorem told_means (s : FinS) (e : Bool) (h : s.at_ ≤ s.x.length) (hm : s.x.length ≤ most) : expT (s.x.take s.at_) (told s e).1 = (0, s.x.take (told s e).2) := by
  unfold told
  split
  · rw [litsT_means _ _ (by rw [List.length_take, List.length_drop]; omega), List.take_append_drop, List.take_length]
  · exact parse_means (by omega) rfl rfl hm _ _ (Nat.le_refl _) h
theorem finLaws : MatchLaws finM where
  ok_start lev := ⟨Nat.le_refl _, (fun b h => by cases h), (by show 0 < 1000000000; omega), (lvl_le lev).1, (fun t h => by cases h), fun _ => rfl⟩
  ok_write s bs h hb hl := by
    have hl : s.x.length + bs.length < 1000000000 := hl
    refine ⟨?_, ?_, ?_, h.tries, h.outs, ?_⟩
    · show s.at_ ≤ (s.x ++ bs).length
      rw [List.length_append]; have := h.le; omega
    · intro b hm
      exact (List.mem_append.1 hm).elim (h.bytes b) (hb b)
    · show (s.x ++ bs).length < _
      rw [List.length_append]; exact hl
    · intro hm
      have hm : (s.x ++ bs).length ≤ most := hm
      rw [List.length_append] at hm
      show expT [] s.outs = (0, (s.x ++ bs).take s.at_)
      rw [List.take_append_of_le_length h.le]
      exact h.means (by omega)
  ok_toks s e h := by
    refine ⟨told_le s e h.le, h.bytes, h.len, h.tries, ?_, ?_⟩
    · intro t ht
      exact (List.mem_append.1 ht).elim (h.outs t) (told_bytes s e h.bytes t)
    · intro hm
      show expT [] (s.outs ++ (told s e).1) = (0, s.x.take (told s e).2)
      rw [expT_app, h.means hm, if_pos rfl]
      exact told_means s e h.le hm
  inp_start _ := rfl
  inp_write _ _ := rfl
  inp_toks _ _ := rfl
  outs_start _ := rfl
  outs_write _ _ := rfl
  outs_toks _ _ := rfl
  bytes s h := h.outs
  means s h hm := by
    have h1 := h.le
    refine ⟨Nat.sub_le _ _, ?_⟩
    show expT [] s.outs = (0, s.x.take (s.x.length - (s.x.length - s.at_)))
    rw [show s.x.length - (s.x.length - s.at_) = s.at_ by omega]
    exact h.means hm
  wait_end s _ := by
    have h := told_end s true
    show s.x.length - (told s true).2 = 0
    rw [if_pos rfl] at h
    omega
  wait_some s _ := told_end s false
  clean_start lev := ⟨rfl, Nat.le_refl _, fun _ => rfl, fun _ y => rfl⟩
  clean_write lev s bs h := ⟨h.lv, by show s.at_ ≤ (s.x ++ bs).length; rw [List.length_append]; have := h.le; omega, fun h0 => by
      show s.outs = litsT ((s.x ++ bs).take s.at_)
      rw [List.take_append_of_le_length h.le]
      exact h.lits h0, fun h0 y => by
      show s.outs ++ (parse 32768 258 (s.x ++ bs ++ y) s.tr s.en s.la 0 s.at_).1 = (parse 32768 258 (s.x ++ bs ++ y) s.tr s.en s.la 0 0).1
      rw [List.append_assoc s.x bs y]
      exact h.toks h0 (bs ++ y)⟩
  clean_toks lev s h := ⟨h.lv, told_le s false h.le, fun h0 => by
      have h0 : s.tr = 0 := h0
      show s.outs ++ (told s false).1 = litsT (s.x.take (told s false).2)
      unfold told
      rw [if_pos h0, h.lits h0, ← litsT_app, List.take_append_drop, List.take_length], fun h0 y => by
      have h0 : s.tr ≠ 0 := h0
      show s.outs ++ (told s false).1 ++ (parse 32768 258 (s.x ++ y) s.tr s.en s.la 0 (told s false).2).1 = (parse 32768 258 (s.x ++ y) s.tr s.en s.la 0 0).1
      have e : told s false = parse 32768 258 s.x s.tr s.en s.la 261 s.at_ := by unfold told; rw [if_neg h0]; rfl
      rw [e, List.append_assoc, parse_join y (by omega) (by omega) _ _ (Nat.le_refl _)]
      exact h.toks h0 y⟩
  one_is lev s h hc := by
    show s.outs ++ (told s true).1 = if (lvl lev).1 = 0 then litsT s.x else (parse 32768 258 s.x (lvl lev).1 (lvl lev).2.1 (lvl lev).2.2 0 0).1
    rw [← hc.lv]
    show s.outs ++ (told s true).1 = if s.tr = 0 then litsT s.x else (parse 32768 258 s.x s.tr s.en s.la 0 0).1
    unfold told
    by_cases h0 : s.tr = 0
    · rw [if_pos h0, if_pos h0, hc.lits h0, ← litsT_app, List.take_append_drop]
    · rw [if_neg h0, if_neg h0]
      have h1 := hc.toks h0 []
      rw [List.append_nil] at h1
      exact h1
  level0 bs lev _ _ h := by
    intro t ht
    have ht : t ∈ if (lvl lev).1 = 0 then litsT bs else (parse 32768 258 bs (lvl lev).1 (lvl lev).2.1 (lvl lev).2.2 0 0).1 := ht
    rw [lvl_low lev h, if_pos rfl] at ht
    obtain ⟨b, _, rfl⟩ := List.mem_map.1 ht
    rfl
  short c n lev _ h1 _ h3 _ := by
    have hh := lvl_high lev h3
    show 10 * (if (lvl lev).1 = 0 then litsT (List.replicate n c) else (parse 32768 258 (List.replicate n c) (lvl lev).1 (lvl lev).2.1 (lvl lev).2.2 0 0).1).length < n
    rw [if_neg (by omega)]
    exact short_rep (by omega) rfl hh.1 hh.2 h1
end Go.Proofs.YtjmdgcppllnkdaaDoor
