/-
  What a header that is read holds: numbers that fit, bytes of the list. No program is named here.
-/
import Derived.Test.YtkdmdbojcdonpaaGreatDoorHdrMath
namespace Go.Proofs.YtkdmdbojcdonpaaGreatDoor
set_option maxRecDepth 5000

theorem bind_inv {α β : Type} {p : Rdr α} {f : α → Rdr β} {l : List Nat} {n m : Nat} {b : β} (h : (p.bind f) l n = .ok (b, m)) : ∃ a k, p l n = .ok (a, k) ∧ f a l k = .ok (b, m) := by
  unfold Rdr.bind at h
  split at h
  · cases h
  · rename_i a k hk
    exact ⟨a, k, hk, h⟩
theorem take_inv {l : List Nat} {k n m : Nat} {x : List Nat} (h : takeR k l n = .ok (x, m)) : x = (l.drop n).take k ∧ m = n + k ∧ k ≤ l.length - n := by
  unfold takeR at h
  split at h
  · cases h
    rename_i hk
    exact ⟨rfl, rfl, hk⟩
  · cases h
theorem num_inv {l : List Nat} {k n m v : Nat} (h : numR k l n = .ok (v, m)) : v = leN ((l.drop n).take k) ∧ m = n + k ∧ k ≤ l.length - n := by
  obtain ⟨x, j, h1, h2⟩ := bind_inv h
  obtain ⟨rfl, rfl, h3⟩ := take_inv h1
  cases h2
  exact ⟨rfl, rfl, h3⟩
theorem text_inv {l : List Nat} {n m : Nat} {x : List Nat} (h : textR l n = .ok (x, m)) : ∃ i, zeroAt ((l.drop n).take 4097) = some i ∧ x = (l.drop n).take i ∧ m = n + i + 1 := by
  unfold textR at h
  split at h
  · rename_i i hi
    cases h
    exact ⟨i, hi, rfl, rfl⟩
  · split at h <;> cases h
theorem when_inv {α : Type} {c : Bool} {p : Rdr α} {d a : α} {l : List Nat} {n m : Nat} (h : whenR c p d l n = .ok (a, m)) : (c = true ∧ p l n = .ok (a, m)) ∨ (c = false ∧ a = d ∧ m = n) := by
  cases c with
  | true => exact .inl ⟨rfl, h⟩
  | false => cases h; exact .inr ⟨rfl, rfl, rfl⟩
theorem hnum_lt {l : List Nat} (hb : ∀ b ∈ l, b < 256) (n k : Nat) (hk : k ≤ l.length - n) : leN ((l.drop n).take k) < 256 ^ k := by
  have := leN_lt ((l.drop n).take k) fun x hx => hb x (List.mem_of_mem_drop (List.mem_of_mem_take hx))
  rwa [List.length_take, List.length_drop, Nat.min_eq_left hk] at this
/-- a header that was read fits, and is no longer than what it was read from -/
theorem headR_inv {l : List Nat} (hb : ∀ b ∈ l, b < 256) {h : Hdr} {m : Nat} (hh : headR l 0 = .ok (h, m)) : OkH h ∧ h.extra.length ≤ l.length ∧ h.name.length ≤ 4096 ∧ h.note.length ≤ 4096 ∧ 10 ≤ m ∧ m ≤ l.length := by
  have hup := headR_mono.up l 0 _ _ (Nat.zero_le _) hh
  unfold headR at hh
  obtain ⟨u, k1, h1, h2⟩ := bind_inv hh
  obtain ⟨f, k2, h3, h4⟩ := bind_inv h2
  unfold restR at h4
  obtain ⟨t, k3, h5, h6⟩ := bind_inv h4
  obtain ⟨fl, k4, h7, h8⟩ := bind_inv h6
  obtain ⟨sy, k5, h9, h10⟩ := bind_inv h8
  obtain ⟨ex, k6, h11, h12⟩ := bind_inv h10
  obtain ⟨nm, k7, h13, h14⟩ := bind_inv h12
  obtain ⟨nt, k8, h15, h16⟩ := bind_inv h14
  obtain ⟨u2, k9, h17, h18⟩ := bind_inv h16
  cases h18
  obtain ⟨rfl, e3, l3⟩ := num_inv h5
  obtain ⟨rfl, e4, l4⟩ := num_inv h7
  obtain ⟨rfl, e5, l5⟩ := num_inv h9
  have hex : (∀ b ∈ ex, b < 256) ∧ ex.length ≤ l.length := by
    rcases when_inv h11 with ⟨_, h⟩ | ⟨_, rfl, _⟩
    · obtain ⟨k, j, _, h20⟩ := bind_inv h
      obtain ⟨rfl, _, _⟩ := take_inv h20
      refine ⟨fun b hx => hb b (List.mem_of_mem_drop (List.mem_of_mem_take hx)), ?_⟩
      rw [List.length_take, List.length_drop]; omega
    · exact ⟨fun b h => (by cases h), Nat.zero_le _⟩
  have htx : ∀ {c : Bool} {x : List Nat} {a b : Nat}, whenR c textR [] l a = .ok (x, b) → (∀ b ∈ x, b < 256) ∧ x.length ≤ 4096 := fun h => by
    rcases when_inv h with ⟨_, h⟩ | ⟨_, rfl, _⟩
    · obtain ⟨i, hi, rfl, _⟩ := text_inv h
      have h1 := (zeroAt_lt hi).1
      rw [List.length_take] at h1
      refine ⟨fun b hx => hb b (List.mem_of_mem_drop (List.mem_of_mem_take hx)), ?_⟩
      rw [List.length_take]; omega
    · exact ⟨fun b h => (by cases h), Nat.zero_le _⟩
  have u1 := beginR_mono.up l 0 _ _ (Nat.zero_le _) h1
  have hk1 : 3 ≤ k1 := by
    unfold beginR byteIs at h1
    obtain ⟨_, q1, b1, c1⟩ := bind_inv h1
    obtain ⟨_, q2, b2, c2⟩ := bind_inv c1
    obtain ⟨x1, r1, b3, c3⟩ := bind_inv b1
    obtain ⟨x2, r2, b4, c4⟩ := bind_inv b2
    obtain ⟨x3, r3, b5, c5⟩ := bind_inv c2
    have g1 := (num_inv b3).2.1
    have g2 := (num_inv b4).2.1
    have g3 := (num_inv b5).2.1
    have s : ∀ {c : Prop} [Decidable c] {e j m : Nat}, (if c then Rdr.pure () else Rdr.fault e) l j = .ok ((), m) → m = j := fun h => by
      split at h
      · cases h; rfl
      · cases h
    have s1 := s c3
    have s2 := s c4
    have s3 := s c5
    omega
  have hk2 : k2 = k1 + 1 := by
    unfold flagR at h3
    obtain ⟨_, q1, b1, c1⟩ := bind_inv h3
    have g1 := (num_inv b1).2.1
    split at c1
    · cases c1; exact g1
    · cases c1
  have m6 := (whenR_mono (bitB f 2) [] ((numR_mono 2).bind takeR_mono)).up l k5 _ _ (by omega) h11
  have m7 := (whenR_mono (bitB f 3) [] textR_mono).up l k6 _ _ m6.2 h13
  have m8 := (whenR_mono (bitB f 4) [] textR_mono).up l k7 _ _ m7.2 h15
  have m9 := (whenR_mono (bitB f 1) () sumR_mono).up l k8 _ _ m8.2 h17
  refine ⟨⟨hnum_lt hb _ 4 l3, hnum_lt hb _ 1 l4, hnum_lt hb _ 1 l5, hex.1, (htx h13).1, (htx h15).1⟩, hex.2, (htx h13).2, (htx h15).2, by omega, hup.2⟩
end Go.Proofs.YtkdmdbojcdonpaaGreatDoor
