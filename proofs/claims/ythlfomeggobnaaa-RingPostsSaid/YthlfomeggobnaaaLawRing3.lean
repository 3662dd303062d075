/-
  The walk of the law RingPosts.
-/
import Derived.Test.YthlfomeggobnaaaPost
import Derived.Test.YthlfomeggobnaaaDec
import Derived.Test.YthlfomeggobnaaaRingAns
import Derived.Test.YthlfomeggobnaaaOpen
import Derived.Deep.DeepCutAuto
namespace Go.Proofs.Ythlfomeggobnaaa
open Go.RowKit

def shBools : Shape Try.prog (List Bool) := shSlice (shBool 4 Try.underlying4 (by kernel_rfl)) 35 Try.underlying35 (by kernel_rfl) (by decide)

/-- the numbers' digits from f on, up to f + k -/
def sent (f : Nat) : Nat → List ByteArray
  | 0 => []
  | k + 1 => decS f :: sent (f + 1) k
theorem sent_length (f k : Nat) : (sent f k).length = k := by
  induction k generalizing f with
  | zero => rfl
  | succ k ih => simp [sent, ih]
theorem sent_snoc (f k : Nat) : sent f k ++ [decS (f + k)] = sent f (k + 1) := by
  induction k generalizing f with
  | zero => rfl
  | succ k ih =>
    show decS f :: (sent (f + 1) k ++ [decS (f + (k + 1))]) = _
    rw [show f + (k + 1) = f + 1 + k by omega, ih]; rfl

set_option maxRecDepth 100000 in
set_option maxHeartbeats 3200000 in
theorem ringPosts_walk (m : Int) (v : Value) (L : List Bool) (w : World) (_ : (Lit.int .i64 m).wf = true) (ha : shBools.good w [v] L) :
    Calls Try.prog 4 #[.int .i64 m, v] w fun e w' => e = .returned (.bool true) ∧ Below w.heap.size w w' := by
  obtain ⟨v', hv, ha⟩ := ha
  obtain rfl : v = v' := by simpa using hv
  clear hv
  have hrd : Rd w 1 v L.length (L.map .bool) := ha.rd .bool (fun _ _ _ h => h) rfl
  obtain ⟨ao, cap, rfl, hac, hcm⟩ := hrd.form
  obtain ⟨n, hn⟩ : ∃ n, n = L.length := ⟨_, rfl⟩
  rw [← hn] at hrd hac ⊢
  have HN := hid hn
  have HRD := hid hrd
  unfold maxLen at hcm
  clear hn ha hrd
  by_cases h5 : 5000 < m
  · go_enter Try.func4, Try.ntmps4
    go_wp2_with fail
    refine (answers_any w w [] (Held.start w)).mono ?_
    rintro e w1 ⟨rfl, h1⟩
    have HB := hid h1.below
    clear h1
    go_wp2
    go_ret
    exact ⟨rfl, HB.out⟩
  · obtain ⟨M, hM⟩ : ∃ M, M = lim m := ⟨_, rfl⟩
    have hM6 : M ≤ 65536 := by rw [hM]; exact lim_le m
    have HNew := hid (h_newPost (Held.start w) m)
    have HBd : Hid (∀ w, _) := hid (bound_any m)
    rw [← hM] at HNew HBd
    clear hM
    go_enter Try.func4, Try.ntmps4
    go_wp2_with fail
    refine HNew.out.mono ?_
    rintro e w1 ⟨B, rfl, h1⟩
    have H1 := hid h1
    clear h1
    go_wp2_with fail
    refine (answers_any w w1 _ H1.out).mono ?_
    rintro e w2 ⟨rfl, h2⟩
    have H2 := hid h2
    clear h2
    go_wp2_with fail
    refine (HBd.out w2).mono ?_
    rintro e w' ⟨rfl, rfl⟩
    go_wp2
    go_loopg [6, 7, 8] 301 (fun k t6 t7 t8 wr => ∃ (i f c : Nat), i ≤ 300 ∧ 300 - i < k ∧ t8 = .int .i64 (i : Int) ∧ t6 = .int .i64 (f : Int) ∧ t7 = .int .i64 ((f + c : Nat) : Int) ∧ f + c ≤ i ∧ c ≤ M ∧
      Hid (Held w wr [postT B M (sent f c)]))
    case atStart => exact ⟨0, 0, 0, by omega, by omega, rfl, rfl, rfl, by omega, by omega, H2.out⟩
    case round =>
      obtain ⟨i, f, c, hi, hk, rfl, rfl, rfl, hfc, hcM, HW⟩ := hrel
      obtain ⟨x, hx⟩ : ∃ x, x = f + c := ⟨_, rfl⟩
      have hcI : (x : Int) - (f : Int) = (c : Int) := by omega
      have HX := hid hx
      have hxi : x ≤ i := by omega
      rw [← hx]
      clear hx
      have hi0 : (0 : Int) ≤ (i : Int) := Int.natCast_nonneg _
      by_cases hgo : i < n ∧ i < 300
      · obtain ⟨hin, hi300⟩ := hgo
        have hi1 : (i : Int) < (n : Int) := by omega
        have hi2 : (i : Int) < 300 := by omega
        obtain ⟨g, off, rfl, hcell⟩ := HRD.out.spot (by omega)
        obtain ⟨b, hb⟩ : ∃ b, L[i]? = some b := ⟨L[i]'(by have := HN.out; omega), List.getElem?_eq_getElem _⟩
        have hc0 := hcell i (.bool b) (by rw [List.getElem?_map, hb]; rfl)
        have hgl := World.block_lt_of_cell? w _ hc0
        have hc1 := (HW.out.mod.cell (p := ⟨g, off + i, none⟩) hgl (fun h => h)).trans hc0
        clear hcell hb hc0
        cases b with
        | true =>
          go_wp2_with fail
          refine (h_dec HW.out x (by omega)).mono ?_
          rintro e w3 ⟨rfl, h3⟩
          by_cases hroom : c < M
          · have hrI : (c : Int) < (M : Int) := by omega
            have HS := hid (h_send_room h3 (decS x) (by rw [sent_length]; exact hroom))
            clear h3
            go_wp2_with fail
            refine HS.out.mono ?_
            rintro e w4 ⟨rfl, h4⟩
            rw [HX.out, sent_snoc] at h4
            have HL := hid (h_post_len h4)
            rw [sent_length] at HL
            have H4 := hid h4
            clear h4
            have hcI2 : ((x : Int) + 1) - (f : Int) = ((c + 1 : Nat) : Int) := by omega
            have hne : (((c + 1 : Nat) : Int) != ((c + 1 : Nat) : Int)) = false := by simp
            go_wp2_with fail
            refine HL.out.mono ?_
            rintro e w5 ⟨rfl, rfl⟩
            go_wp2
            go_roundg (gk - 1)
            case measure => omega
            case rel => exact ⟨i + 1, f, c + 1, by omega, by omega, by go_num, rfl, by rw [← Nat.add_assoc, ← HX.out]; go_num, by have := HX.out; omega, by omega, H4.out⟩
          · have hrI : ¬ (c : Int) < (M : Int) := by omega
            have HS := hid (h_send_full h3 (decS x) (by rw [sent_length]; omega))
            clear h3
            go_wp2_with fail
            refine HS.out.mono ?_
            rintro e w4 ⟨rfl, h4⟩
            have HL := hid (h_post_len h4)
            rw [sent_length] at HL
            have H4 := hid h4
            clear h4
            have hne : ((c : Int) != (c : Int)) = false := by simp
            go_wp2_with fail
            refine HL.out.mono ?_
            rintro e w5 ⟨rfl, rfl⟩
            go_wp2
            go_roundg (gk - 1)
            case measure => omega
            case rel => exact ⟨i + 1, f, c, by omega, by omega, by go_num, rfl, by rw [HX.out], by have := HX.out; omega, by omega, H4.out⟩
        | false =>
          cases c with
          | zero =>
            have hfx : ¬ (f : Int) < (x : Int) := by have := HX.out; omega
            have HNx := hid (h_next_zero HW.out)
            have hx0 : (x : Int) - (f : Int) = 0 := by have := HX.out; omega
            go_wp2_with fail
            refine HNx.out.mono ?_
            rintro e w4 ⟨rfl, h4⟩
            have HL := hid (h_post_len h4)
            have H4 := hid h4
            clear h4
            go_wp2_with fail
            refine HL.out.mono ?_
            rintro e w5 ⟨rfl, rfl⟩
            go_wp2
            go_roundg (gk - 1)
            case measure => omega
            case rel => exact ⟨i + 1, f, 0, by omega, by omega, by go_num, rfl, by rw [HX.out], by have := HX.out; omega, by omega, H4.out⟩
          | succ c =>
            have hfx : (f : Int) < (x : Int) := by have := HX.out; omega
            have HNx := hid (h_next_some (s := decS f) (ss := sent (f + 1) c) HW.out)
            have hx0 : (x : Int) - ((f : Int) + 1) = (c : Int) := by have := HX.out; omega
            have hne : ((c : Int) != (c : Int)) = false := by simp
            go_wp2_with fail
            refine HNx.out.mono ?_
            rintro e w4 ⟨rfl, h4⟩
            have HD := hid (h_dec h4 f (by omega))
            clear h4
            go_wp2_with fail
            refine HD.out.mono ?_
            rintro e w5 ⟨rfl, h5⟩
            have HL := hid (h_post_len h5)
            rw [sent_length] at HL
            have H5 := hid h5
            clear h5
            go_wp2_with fail
            refine HL.out.mono ?_
            rintro e w6 ⟨rfl, rfl⟩
            go_wp2
            go_roundg (gk - 1)
            case measure => omega
            case rel => exact ⟨i + 1, f + 1, c, by omega, by omega, by go_num, by go_num, by rw [show f + 1 + c = x by have := HX.out; omega], by have := HX.out; omega, by omega, H5.out⟩
      · have hex : ¬ (i : Int) < (n : Int) ∨ (i : Int) < (n : Int) ∧ ¬ (i : Int) < 300 := by omega
        have HE := hid HW.out.below
        rcases hex with hex | ⟨hex, hex2⟩
        all_goals
          go_wp2
          go_ret
          exact ⟨rfl, HE.out⟩
end Go.Proofs.Ythlfomeggobnaaa
