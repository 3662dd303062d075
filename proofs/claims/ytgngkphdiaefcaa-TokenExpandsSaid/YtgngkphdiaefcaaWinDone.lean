/-
  The landed window keeps the contracts of windows.
-/
import Derived.Test.YtgngkphdiaefcaaWinWalk
namespace Go.Proofs.Ytgngkphdiaefcaa
open Go.RowKit

theorem keep_le (l : List Nat) : (keep l).length ≤ 32768 := by rw [keep, keepN_length]; omega
theorem keep_len (l : List Nat) : (keep l).length = min l.length 32768 := keepN_length _ _
theorem rd_none (w : World) : Rd w 1 (.slice none 0 0) 0 [] := Rd.nil w 1
theorem windowOK : WindowOK winT where
  new := fun _ _ _ h => win_new h
  add := fun all B v n bs w0 w Rs h hv _ _ hl => by
    have h1 := raw_add (keep all) bs B v n h (by have := keep_le all; omega) hv (by omega)
    have e : keep (keep all ++ keep bs) = keep (all ++ bs) := keepN_app _ _ _
    rw [e] at h1
    exact h1
  copyArg := fun all B n d w0 w Rs h _ hn => (raw_copyArg (keep all) B n d h hn).mono fun _ _ ⟨h1, h2⟩ => ⟨_, h1, rd_none _, h2 ▸ h⟩
  copyCode := fun all B n d w0 w Rs h _ hn1 hn2 hd => (raw_copyCode (keep all) B n d h hn1 hn2 (by rw [keep_len]; exact hd)).mono fun _ _ ⟨h1, h2⟩ => ⟨_, h1, rd_none _, h2 ▸ h⟩
  copy := fun all B n d w0 w Rs h _ _ hn1 hn2 hd1 hd2 hd3 => by
    have hd : d ≤ (keep all).length := by rw [keep_len]; omega
    have h1 := raw_copy (keep all) B n d h (keep_le all) hn1 hn2 hd1 hd
    have e1 : keep (ext (keep all) d n) = keep (ext all d n) := keepN_ext _ _ _ _ hd
    have e2 : out (keep all) d n = out all d n := out_keepN _ _ _ _ hd
    rw [e1, e2] at h1
    exact h1
  len := fun all B m w0 w Rs h _ hm => (raw_len (keep all) B m h (by rw [keep_len, hm])).mono fun _ _ ⟨h1, h2⟩ => ⟨h1, h2 ▸ h⟩
  last := fun all B n w0 w Rs h _ hl hn1 hn2 => by
    have hk := keep_len all
    have e : (keep all).drop ((keep all).length - n) = all.drop (all.length - n) := drop_keepN _ _ _ hn1 hn2
    by_cases h0 : n = 0
    · subst h0
      refine (raw_last_none (keep all) B _ h (by omega) (.inl (by omega))).mono fun _ _ ⟨h1, h2⟩ => ⟨_, h1, ?_, h2 ▸ h⟩
      rw [Nat.sub_zero, List.drop_length]
      exact rd_none _
    · refine (raw_last (keep all) B n (n : Int) h (by omega) (by omega) (by omega) (.inl rfl)).mono fun _ _ ⟨v, h1, h2⟩ => ⟨v, h1, ?_, h2.drop⟩
      rw [← e]
      exact h2.own.rd
  addNil := fun v _ _ w0 w Rs h _ => (none_add v w).mono fun _ _ ⟨h1, h2⟩ => ⟨h1, h2 ▸ h⟩
  copyNil := fun n d w0 w Rs h => (none_copy n d w).mono fun _ _ ⟨h1, h2⟩ => ⟨_, h1, rd_none _, h2 ▸ h⟩
  lenNil := fun w0 w Rs h => (none_len w).mono fun _ _ ⟨h1, h2⟩ => ⟨h1, h2 ▸ h⟩
  lastNil := fun n w0 w Rs h => (none_last n w).mono fun _ _ ⟨h1, h2⟩ => ⟨_, h1, rd_none _, h2 ▸ h⟩
end Go.Proofs.Ytgngkphdiaefcaa
