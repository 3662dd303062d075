/-
  The landed parser of headers: fail, take, number, begin, flags.
-/
import Derived.Test.YtkdmdbojcdonpaaGreatDoorProg
import Derived.Test.YtkdmdbojcdonpaaGreatDoorHdrMath
import Derived.Test.YtkdmdbojcdonpaaGreatDoorSep
import Derived.Test.YtkdmdbojcdonpaaGreatDoorBlkRd
import Derived.Test.YtkdmdbojcdonpaaGreatDoorStrs
import Derived.WalkSpells
import Derived.StillTailTactics
import Derived.Deep.DeepCutAuto
namespace Go.Proofs.YtkdmdbojcdonpaaGreatDoor
set_option maxRecDepth 5000
open Go.RowKit

/-! ### A reader run from a state: a place, or the first error -/
def runS {α : Type} (p : Rdr α) (l : List Nat) (r : Except Nat Nat) : Except Nat Nat := match r with
  | .error x => .error x
  | .ok m => match p l m with
    | .error x => .error x
    | .ok (_, k) => .ok k
def runV {α : Type} (p : Rdr α) (l : List Nat) (r : Except Nat Nat) (d : α) : α := match r with
  | .error _ => d
  | .ok m => match p l m with
    | .error _ => d
    | .ok (a, _) => a
theorem runS_bind {α β : Type} (p : Rdr α) (f : α → Rdr β) (l : List Nat) (r : Except Nat Nat) (d : α) : runS (p.bind f) l r = runS (f (runV p l r d)) l (runS p l r) := by
  cases r with
  | error x => rfl
  | ok m =>
    show (match Rdr.bind p f l m with | .error x => (Except.error x : Except Nat Nat) | .ok (_, k) => .ok k) = _
    unfold Rdr.bind runV runS
    dsimp only
    cases h : p l m with
    | error x => rfl
    | ok a => rfl
theorem runV_bind {α β : Type} (p : Rdr α) (f : α → Rdr β) (l : List Nat) (r : Except Nat Nat) (d : α) (d' : β) : runV (p.bind f) l r d' = runV (f (runV p l r d)) l (runS p l r) d' := by
  cases r with
  | error x => rfl
  | ok m =>
    show (match Rdr.bind p f l m with | .error x => d' | .ok (a, k) => a) = _
    unfold Rdr.bind runV runS
    dsimp only
    cases h : p l m with
    | error x => rfl
    | ok a => rfl
theorem runS_when {α : Type} (c : Bool) (p : Rdr α) (d : α) (l : List Nat) (r : Except Nat Nat) : runS (whenR c p d) l r = if c = true then runS p l r else r := by
  cases c with
  | true => rfl
  | false => cases r <;> rfl
theorem runV_when {α : Type} (c : Bool) (p : Rdr α) (d : α) (l : List Nat) (r : Except Nat Nat) : runV (whenR c p d) l r d = if c = true then runV p l r d else d := by
  cases c with
  | true => rfl
  | false => cases r <;> rfl
/-- a state of the parser: where it stands, or its error -/
def PSt (l : List Nat) (r : Except Nat Nat) (p e : Nat) : Prop := p ≤ l.length ∧ match r with
  | .ok m => p = m ∧ e = 0
  | .error x => e = x ∧ x ≠ 0
/-- a parser over a slice, in an object of its own -/
def parT (B : Nat) (v : Value) (l : List Nat) (r : Except Nat Nat) : Thing := exT fun q : Nat × Nat => factT (PSt l r q.1 q.2) (objT B [v, .int .i64 (q.1 : Int), .int .i64 (q.2 : Int)] 142)
theorem infoByte13 : (Tryz.prog.info? 5).map (fun i => (i.zero, i.size, i.bytes)) = some (some (.int .u8 0), 1, 1) := by kernel_rfl
section
variable {w0 w : World} {Rs : List Thing} {S : Thing} {B : Nat} {v : Value} {l : List Nat} {r : Except Nat Nat}
theorem par_open (h : Held w0 w (parT B v l r :: Rs)) : ∃ p e, PSt l r p e ∧ Held w0 w (objT B [v, .int .i64 (p : Int), .int .i64 (e : Int)] 142 :: Rs) := by
  obtain ⟨q, h1⟩ := h.ex
  obtain ⟨h2, h3⟩ := h1.fact
  exact ⟨q.1, q.2, h2, h3⟩
theorem par_shut {p e : Nat} (hq : PSt l r p e) (h : Held w0 w (objT B [v, .int .i64 (p : Int), .int .i64 (e : Int)] 142 :: Rs)) : Held w0 w (parT B v l r :: Rs) :=
  Held.mk (p, e) (Held.mkFact hq h)
theorem fail_at {p e : Nat} (x : Nat) (xi : Int) (hx : xi = (x : Int)) (h : Held w0 w (objT B [v, .int .i64 (p : Int), .int .i64 (e : Int)] 142 :: Rs)) :
    Calls Tryz.prog 113 #[.pointer (some ⟨B, 0, none⟩), .int .i64 xi] w fun en w' => en = .returned (.tuple #[]) ∧ Held w0 w' (objT B [v, .int .i64 (p : Int), .int .i64 ((if e = 0 then x else e : Nat) : Int)] 142 :: Rs) := by
  subst hx
  have c2 := h.obj.cell (i := 2) rfl
  have f2 := h.obj.frozen 2
  have h2 := h.setObj 2 (.int .i64 (x : Int))
  have H := hid h
  have H2 := hid h2
  clear h h2
  by_cases he : e = 0
  · subst he
    go_enter Tryz.func113, Tryz.ntmps113
    go_wp2
    go_end0
    exact ⟨rfl, H2.out⟩
  · have hB : ((e : Int) == 0) = false := by simp; omega
    have hI : ¬ (e : Int) = 0 := by omega
    rw [if_neg he]
    clear he
    go_enter Tryz.func113, Tryz.ntmps113
    go_wp2
    go_end0
    exact ⟨rfl, H.out⟩
theorem reads_cut {size n cap L H : Nat} {a : Option Addr} {xs : List Value} (h : Reads w0 S size (.slice a n cap) n xs) (h1 : L ≤ H) (h2 : H ≤ n) :
    Reads w0 S size (sliced a L H cap size) (H - L) ((xs.drop (L * size)).take ((H - L) * size)) := fun w F hm hs => by
  obtain ⟨g1, g2⟩ := h w F hm hs
  exact ⟨g1.cut h1 h2, fun hn k hk => g2 (by omega) k (by rw [cut_block a L H cap size n] at hk; exact hk)⟩
theorem reads_nil (size : Nat) : Reads w0 S size (.slice none 0 0) 0 [] := fun _ _ _ _ => ⟨Rd.nil _ _, fun h => absurd h (Nat.lt_irrefl _)⟩
theorem u8s_cut (l : List Nat) (a b : Nat) : ((u8s l).drop (a * 1)).take (b * 1) = u8s ((l.drop a).take b) := by
  unfold u8s
  rw [Nat.mul_one, Nat.mul_one, List.map_take, List.map_drop]
def TakeO (w0 : World) (Rs : List Thing) (S : Thing) (B : Nat) (v : Value) (l : List Nat) (r : Except Nat Nat) (k : Nat) (en : Ending) (w' : World) : Prop :=
  ∃ (u : Value) (bs : List Nat), en = .returned u ∧ bs = runV (takeR k) l r [] ∧ Reads w0 S 1 u bs.length (u8s bs) ∧ Held w0 w' (parT B v l (runS (takeR k) l r) :: S :: Rs)
set_option maxHeartbeats 1600000 in
theorem htake_any (k : Nat) (h : Held w0 w (parT B v l r :: S :: Rs)) (hv : Reads w0 S 1 v l.length (u8s l)) (hl : l.length < 1000000000) (hk : k < 1000000000) :
    Calls Tryz.prog 101 #[.pointer (some ⟨B, 0, none⟩), .int .i64 (k : Int)] w fun en w' => TakeO w0 Rs S B v l r k en w' := by
  obtain ⟨p, e, hq, h1⟩ := par_open h
  obtain ⟨ao, cap, rfl, _, _⟩ := (hv.rd h.drop).form
  obtain ⟨n, hn⟩ : ∃ n, n = l.length := ⟨_, rfl⟩
  rw [← hn] at hv hl ⊢
  rw [← hn] at h1
  have hpn : p ≤ n := by rw [hn]; exact hq.1
  have c0 := h1.obj.cell (i := 0) rfl
  have c1 := h1.obj.cell (i := 1) rfl
  have c2 := h1.obj.cell (i := 2) rfl
  have HF : ∀ k, Hid _ := fun k => hid (fail_at 5 5 rfl (h1.drewN k))
  have hp0 : (0 : Int) ≤ (p : Int) := Int.natCast_nonneg _
  have hk0 : (0 : Int) ≤ (k : Int) := Int.natCast_nonneg _
  have hn0 : (0 : Int) ≤ (n : Int) := Int.natCast_nonneg _
  have hpI : (p : Int) ≤ (n : Int) := by omega
  have HN := hid hn
  have HQ := hid hq
  have HV := hid hv
  have H1 := hid h1
  clear h h1 hv hq hn
  by_cases hgt : n - p < k
  · have hg : (n : Int) - (p : Int) < (k : Int) := by omega
    go_enter Tryz.func101, Tryz.ntmps101
    go_wp2
    go_quiet (fail)
    go_wp2_with fail
    with_reducible refine (HF _).out.mono ?_
    rintro en w2 ⟨rfl, h2⟩
    have c2' := h2.obj.cell (i := 2) rfl
    obtain ⟨e2, he2⟩ : ∃ e2, e2 = (if e = 0 then 5 else e) := ⟨_, rfl⟩
    rw [← he2] at c2' h2
    have he0 : e2 ≠ 0 := by rw [he2]; split <;> omega
    have hB : ((e2 : Int) != 0) = true := by simp; omega
    have hI : ¬ (e2 : Int) = 0 := by omega
    have H2 := hid h2
    have HE := hid (And.intro he2 he0)
    have HG := hid hgt
    clear h2 he2 he0 HF c2 hgt hg
    go_wp2
    go_ret
    have hr : runS (takeR k) l r = .error e2 ∧ runV (takeR k) l r [] = [] := by
      have hq := HQ.out
      cases r with
      | error x =>
        obtain ⟨_, rfl, hx⟩ := hq
        have := HE.out.1
        rw [if_neg hx] at this
        rw [this]
        exact ⟨rfl, rfl⟩
      | ok m =>
        obtain ⟨_, rfl, rfl⟩ := hq
        have h5 := HE.out.1
        rw [if_pos rfl] at h5
        have ht : takeR k l p = .error 5 := by unfold takeR; rw [if_neg (by have := HG.out; have := HN.out; omega)]
        unfold runS runV
        dsimp only
        rw [ht, h5]
        exact ⟨rfl, rfl⟩
    refine ⟨_, [], rfl, hr.2.symm, reads_nil 1, ?_⟩
    rw [hr.1]
    exact par_shut ⟨by have := HN.out; omega, rfl, HE.out.2⟩ H2.out
  · have hg : ¬ (n : Int) - (p : Int) < (k : Int) := by omega
    cases r with
    | error x =>
      obtain ⟨_, rfl, hx⟩ := HQ.out
      have hB : ((e : Int) != 0) = true := by simp; omega
      have hI : ¬ (e : Int) = 0 := by omega
      have HX := hid hx
      clear hx hgt HF
      go_enter Tryz.func101, Tryz.ntmps101
      go_wp2
      go_quiet (fail)
      go_wp2
      go_ret
      exact ⟨_, [], rfl, rfl, reads_nil 1, par_shut ⟨by have := HN.out; omega, rfl, HX.out⟩ (H1.out.drewN _)⟩
    | ok m =>
      obtain ⟨_, rfl, rfl⟩ := HQ.out
      have hpk : p + k ≤ n := by omega
      obtain ⟨i0, hi0, hz0, hz1, hz2⟩ := info_parts infoByte13
      obtain ⟨q, hq⟩ : ∃ q, q = p + k := ⟨_, rfl⟩
      have hqI : (p : Int) + (k : Int) = (q : Int) := by omega
      have hsub : (q : Int) - (k : Int) = (p : Int) := by omega
      have hqn : q ≤ n := by omega
      have hncap : n ≤ cap := by
        obtain ⟨_, a', c', hv', hn', _⟩ := HV.out.rd H1.out.drop
        simp only [Value.slice.injEq, true_and] at hv'
        rw [hv'.2]; exact hn'
      have HC : ∀ wg, (Instr.sliceAt 25 (.slice ao n cap) (some (.int .i64 (p : Int))) (some (.int .i64 (q : Int))) none).run Tryz.prog wg = .ok (sliced ao p q cap 1) wg := fun wg =>
        run_cut (P := Tryz.prog) (w := wg) 25 5 i0 1 Tryz.underlying25 hi0 hz1 ao n cap p q (some (.int .i64 (p : Int))) (some (.int .i64 (q : Int))) ⟨_, rfl⟩ ⟨_, rfl⟩ (by omega) (by omega)
      obtain ⟨a', ha'⟩ : ∃ a', sliced ao p q cap 1 = .slice a' (q - p) (cap - p) := ⟨_, rfl⟩
      rw [ha'] at HC
      have f1 : ∀ j, (w.drewN j).frozen? ⟨B, 1, none⟩ = false := fun j => (H1.out.drewN j).obj.frozen 1
      have HS : ∀ j, Hid _ := fun j => hid ((H1.out.drewN j).setObj 1 (.int .i64 (q : Int)))
      have HQ2 := hid (And.intro hq hpk)
      have HA := hid ha'
      clear HF hgt hg hq hpk hncap ha'
      go_enter Tryz.func101, Tryz.ntmps101
      go_wp2
      go_quiet (fail)
      go_wp2
      have H3 := hid (HS nq).out
      generalize (w.drewN nq).setCell ⟨B, 1, none⟩ (.int .i64 (q : Int)) = w3 at H3 ⊢
      have d0 := H3.out.obj.cell (i := 0) rfl
      have d1 := H3.out.obj.cell (i := 1) rfl
      clear c0 c1 c2 f1 HS
      go_quiet (fail)
      go_wp2
      go_ret
      have hk2 : (l.drop p).take k = (l.drop p).take (q - p) := by rw [show q - p = k by have := HQ2.out.1; omega]
      have ht : takeR k l p = .ok ((l.drop p).take k, p + k) := by unfold takeR; rw [if_pos (by have := HQ2.out; have := HN.out; omega)]
      have hrd := reads_cut (L := p) (H := q) HV.out (by have := HQ2.out; omega) hqn
      rw [u8s_cut, ← hk2, HA.out] at hrd
      have hlen : ((l.drop p).take k).length = q - p := by rw [List.length_take, List.length_drop]; have := HQ2.out; have := HN.out; omega
      refine ⟨_, (l.drop p).take k, rfl, ?_, ?_, ?_⟩
      · unfold runV; dsimp only; rw [ht]
      · rw [hlen]; exact hrd
      · have hS : runS (takeR k) l (.ok p) = .ok q := by unfold runS; dsimp only; rw [ht, ← HQ2.out.1]
        rw [hS]
        exact par_shut ⟨by have := HN.out; omega, rfl, rfl⟩ (H3.out.drewN _)
theorem leN_take_lt (bs : List Nat) (hb : ∀ b ∈ bs, b < 256) (i : Nat) (hi : i ≤ bs.length) : leN (bs.take i) < 256 ^ i := by
  have := leN_lt (bs.take i) fun b hx => hb b (List.mem_of_mem_take hx)
  rwa [List.length_take, Nat.min_eq_left hi] at this
theorem leN_snoc : ∀ (l : List Nat) (x : Nat), leN (l ++ [x]) = leN l + x * 256 ^ l.length
  | [], x => by simp [leN]
  | b :: r, x => by
    rw [List.cons_append, leN, leN_snoc r x, leN, List.length_cons, Nat.pow_succ]
    have : 256 * (x * 256 ^ r.length) = x * (256 ^ r.length * 256) := by rw [Nat.mul_comm 256, Nat.mul_assoc]
    omega
theorem or_next (A x i : Nat) (hx : x < 256) (hi : i < 4) (hA : A < 256 ^ i) : bits .or .u32 (A : Int) ((x : Int) * 2 ^ (8 * i) % 4294967296) = ((A + x * 256 ^ i : Nat) : Int) := by
  have h256 : 256 ^ i = 2 ^ (8 * i) := by rw [Nat.pow_mul]
  have hlt : x * 256 ^ i < 4294967296 ∧ A < 4294967296 := by
    rcases (show i = 0 ∨ i = 1 ∨ i = 2 ∨ i = 3 by omega) with rfl | rfl | rfl | rfl
    all_goals omega
  have h1 : ((x : Int) * 2 ^ (8 * i)) = ((x * 256 ^ i : Nat) : Int) := by rw [h256, Int.natCast_mul, Int.natCast_pow]; rfl
  have h2 : ((x * 256 ^ i : Nat) : Int) % 4294967296 = ((x * 256 ^ i : Nat) : Int) := Int.emod_eq_of_lt (Int.natCast_nonneg _) (by omega)
  rw [h1, h2]
  have h3 : bits .or .u32 (A : Int) ((x * 256 ^ i : Nat) : Int) = ((A ||| x * 256 ^ i : Nat) : Int) := (bits_nat .u32 32 (by decide) (fun n h0 h1 => IntWalk.u32_in n (by omega)) A (x * 256 ^ i) (by omega) (by omega)).2
  rw [h3]
  have h4 := Nat.two_pow_add_eq_or_of_lt (i := 8 * i) (b := A) (by rw [← h256]; exact hA) x
  rw [Nat.or_comm, Nat.mul_comm, h256, ← h4, Nat.mul_comm, Nat.add_comm]
set_option maxHeartbeats 1600000 in
theorem hnumber_any (k : Nat) (h : Held w0 w (parT B v l r :: S :: Rs)) (hv : Reads w0 S 1 v l.length (u8s l)) (hb : ∀ b ∈ l, b < 256) (hl : l.length < 1000000000) (hk : k ≤ 4) (ki : Int) (hki : ki = (k : Int)) :
    Calls Tryz.prog 100 #[.pointer (some ⟨B, 0, none⟩), .int .i64 ki] w fun en w' => en = .returned (.int .u32 ((runV (numR k) l r 0 : Nat) : Int)) ∧ Held w0 w' (parT B v l (runS (numR k) l r) :: S :: Rs) := by
  subst hki
  have hT : Calls Tryz.prog 101 #[.pointer (some ⟨B, 0, none⟩), .int .i64 (k : Int)] w fun en w' => TakeO w0 Rs S B v l r k en w' := htake_any k h hv hl (by omega)
  have hbs : ∀ b ∈ runV (takeR k) l r [], b < 256 := by
    intro b hx
    unfold runV at hx
    split at hx
    · cases hx
    · split at hx
      · cases hx
      · rename_i m a k2 ht
        unfold takeR at ht
        split at ht
        · cases ht
          exact hb b (List.mem_of_mem_drop (List.mem_of_mem_take hx))
        · cases ht
  have hlen : (runV (takeR k) l r []).length ≤ k := by
    unfold runV
    split
    · exact Nat.zero_le _
    · split
      · exact Nat.zero_le _
      · rename_i m a k2 ht
        unfold takeR at ht
        split at ht
        · cases ht
          rw [List.length_take]
          omega
        · cases ht
  have hS : runS (numR k) l r = runS (takeR k) l r := by
    unfold numR
    rw [runS_bind (takeR k) _ l r []]
    cases runS (takeR k) l r <;> rfl
  have hV : runV (numR k) l r 0 = leN (runV (takeR k) l r []) := by
    unfold numR
    rw [runV_bind (takeR k) _ l r []]
    unfold runV runS
    cases r with
    | error x => rfl
    | ok m =>
      dsimp only
      cases takeR k l m with
      | error x => rfl
      | ok a => rfl
  rw [hS, hV]
  obtain ⟨bs, hbE⟩ : ∃ bs, bs = runV (takeR k) l r [] := ⟨_, rfl⟩
  rw [← hbE] at hbs hlen ⊢
  obtain ⟨n, hn⟩ : ∃ n, n = bs.length := ⟨_, rfl⟩
  have hn4 : n ≤ 4 := by omega
  obtain ⟨V, hV2⟩ : ∃ V, V = leN bs := ⟨_, rfl⟩
  rw [← hV2]
  have HT := hid hT
  have HB := hid (And.intro hbE (And.intro hbs (And.intro hn hV2)))
  clear h hv hb hl hT hbs hlen hS hV hbE hn hV2
  go_enter Tryz.func100, Tryz.ntmps100
  go_wp2_with fail
  with_reducible refine HT.out.mono ?_
  rintro en w2 ⟨u, bs', rfl, hbs, hr, h2⟩
  obtain rfl : bs' = bs := hbs.trans HB.out.1.symm
  have hrd := hr.rd h2.drop
  obtain ⟨ao, cap, rfl, _, _⟩ := hrd.form
  rw [← HB.out.2.2.1] at hrd ⊢
  have HRD := hid hrd
  have H2 := hid h2
  clear HT hbs hr h2 hrd
  go_wp2
  go_loopg [5, 12] (n + 2) (fun g t5 t12 wr => wr = w2 ∧ ∃ i : Nat, i ≤ n ∧ n - i < g ∧ t5 = .int .u32 ((leN (bs'.take i) : Nat) : Int) ∧ t12 = .int .i64 (i : Int))
  case atStart => exact ⟨rfl, 0, by omega, by omega, rfl, rfl⟩
  case round =>
    obtain ⟨rfl, i, hi, hg, rfl, rfl⟩ := hrel
    have hi0 : (0 : Int) ≤ (i : Int) := Int.natCast_nonneg _
    by_cases hin : i < n
    · have hiI : (i : Int) < (n : Int) := by omega
      obtain ⟨x, hx⟩ : ∃ x, bs'[i]? = some x := ⟨bs'[i]'(by have := HB.out.2.2.1; omega), List.getElem?_eq_getElem _⟩
      have hx256 : x < 256 := HB.out.2.1 x (List.mem_of_getElem? hx)
      obtain ⟨g, off, rfl, hc⟩ := HRD.out.spot (by omega)
      have hcell := hc i (.int .u8 (x : Int)) (by unfold u8s; rw [List.getElem?_map, hx]; rfl)
      have hx0 : (0 : Int) ≤ (x : Int) := Int.natCast_nonneg _
      have hacc := leN_take_lt bs' HB.out.2.1 i (by have := HB.out.2.2.1; omega)
      have hnext : leN (bs'.take (i + 1)) = leN (bs'.take i) + x * 256 ^ i := by
        rw [List.take_add_one, hx]
        show leN (bs'.take i ++ [x]) = _
        rw [leN_snoc, List.length_take, Nat.min_eq_left (by have := HB.out.2.2.1; omega)]
      obtain ⟨A, hA⟩ : ∃ A, A = leN (bs'.take i) := ⟨_, rfl⟩
      rw [← hA] at hacc hnext ⊢
      have HX := hid (And.intro hx (And.intro hacc hnext))
      have hor := hid (or_next A x i hx256 (by omega) hacc)
      clear hx hacc hnext hA hc
      go_wp2
      go_roundg (gk - 1)
      case measure => omega
      case rel => exact ⟨rfl, i + 1, by omega, by omega, by rw [hor.out, HX.out.2.2], by go_num⟩
    · have hiI : ¬ (i : Int) < (n : Int) := by omega
      obtain rfl : i = n := by omega
      have hV : leN (bs'.take i) = V := by rw [List.take_of_length_le (by have := HB.out.2.2.1; omega)]; exact HB.out.2.2.2.symm
      rw [hV]
      have HV := hid hV
      clear hV
      go_wp2
      go_ret
      exact ⟨rfl, H2.out⟩
def failS (r : Except Nat Nat) (x : Nat) : Except Nat Nat := match r with
  | .ok _ => .error x
  | .error y => .error y
theorem byteIs_runS (b : Nat) (l : List Nat) (r : Except Nat Nat) : runS (byteIs b) l r = if runV (numR 1) l r 0 = b then runS (numR 1) l r else failS (runS (numR 1) l r) 2 := by
  unfold byteIs
  cases r with
  | error x => simp only [runS, failS, ite_self]
  | ok m =>
    exact match hy : numR 1 l m with
    | .error x => by simp only [runS, runV, Rdr.bind, hy, failS, ite_self]
    | .ok (a, k) => by
      by_cases hab : a = b
      · simp only [runS, runV, Rdr.bind, hy, if_pos hab]; rfl
      · simp only [runS, runV, Rdr.bind, hy, if_neg hab]; rfl
theorem flagR_runS (l : List Nat) (r : Except Nat Nat) : runS flagR l r = if runV (numR 1) l r 0 < 32 then runS (numR 1) l r else failS (runS (numR 1) l r) 2 := by
  unfold flagR
  cases r with
  | error x => simp only [runS, failS, ite_self]
  | ok m =>
    exact match hy : numR 1 l m with
    | .error x => by simp only [runS, runV, Rdr.bind, hy, failS, ite_self]
    | .ok (a, k) => by
      by_cases hab : a < 32
      · simp only [runS, runV, Rdr.bind, hy, if_pos hab]; rfl
      · simp only [runS, runV, Rdr.bind, hy, if_neg hab]; rfl
theorem flagR_runV (l : List Nat) (r : Except Nat Nat) : runV flagR l r 0 = if runV (numR 1) l r 0 < 32 then runV (numR 1) l r 0 else 0 := by
  unfold flagR
  cases r with
  | error x => simp only [runV]; rfl
  | ok m =>
    exact match hy : numR 1 l m with
    | .error x => by simp only [runV, Rdr.bind, hy]; rfl
    | .ok (a, k) => by
      by_cases hab : a < 32
      · simp only [runV, Rdr.bind, hy, if_pos hab]; rfl
      · simp only [runV, Rdr.bind, hy, if_neg hab]; rfl
theorem runV_lt (k : Nat) (hb : ∀ b ∈ l, b < 256) : runV (numR k) l r 0 < 256 ^ k := by
  have h0 : 0 < 256 ^ k := Nat.pow_pos (by decide)
  cases r with
  | error x => exact h0
  | ok m =>
    unfold runV numR Rdr.bind takeR
    dsimp only
    split
    · exact h0
    · rename_i a q hq
      split at hq
      · cases hq
      · rename_i b q2 hq2
        split at hq2
        · cases hq2
          cases hq
          have := leN_lt ((l.drop m).take k) fun x hx => hb x (List.mem_of_mem_drop (List.mem_of_mem_take hx))
          rwa [List.length_take, List.length_drop, Nat.min_eq_left (by omega)] at this
        · cases hq2
theorem par_fail (x : Nat) (hx : x ≠ 0) (xi : Int) (hxi : xi = (x : Int)) (h : Held w0 w (parT B v l r :: Rs)) :
    Calls Tryz.prog 113 #[.pointer (some ⟨B, 0, none⟩), .int .i64 xi] w fun en w' => en = .returned (.tuple #[]) ∧ Held w0 w' (parT B v l (failS r x) :: Rs) := by
  obtain ⟨p, e, hq, h1⟩ := par_open h
  refine (fail_at x xi hxi h1).mono ?_
  rintro en w2 ⟨rfl, h2⟩
  refine ⟨rfl, par_shut (p := p) (e := if e = 0 then x else e) ?_ h2⟩
  cases r with
  | ok m => obtain ⟨g1, g2, rfl⟩ := hq; exact ⟨g1, rfl, hx⟩
  | error y => obtain ⟨g1, rfl, g2⟩ := hq; exact ⟨g1, by rw [if_neg g2], g2⟩
def magicAt (i : Nat) : Nat := if i = 0 then 31 else if i = 1 then 139 else 8
def beginS (l : List Nat) (r : Except Nat Nat) : Nat → Except Nat Nat
  | 0 => r
  | i + 1 => runS (byteIs (magicAt i)) l (beginS l r i)
theorem begin_runS (l : List Nat) (r : Except Nat Nat) : runS beginR l r = beginS l r 3 := by
  unfold beginR
  rw [runS_bind _ _ l r (), runS_bind _ _ l _ ()]
  rfl
set_option maxHeartbeats 1600000 in
theorem begin_any (h : Held w0 w (parT B v l r :: S :: Rs)) (hv : Reads w0 S 1 v l.length (u8s l)) (hb : ∀ b ∈ l, b < 256) (hl : l.length < 1000000000) :
    Calls Tryz.prog 98 #[.pointer (some ⟨B, 0, none⟩)] w fun en w' => en = .returned (.tuple #[]) ∧ Held w0 w' (parT B v l (runS beginR l r) :: S :: Rs) := by
  have H1 := hid h
  have HV := hid (And.intro hv (And.intro hb hl))
  clear h hv hb hl
  rw [begin_runS]
  go_enter Tryz.func98, Tryz.ntmps98
  go_wp2
  go_loopg [3] 4 (fun g t3 wr => ∃ i : Nat, i ≤ 3 ∧ 3 - i < g ∧ t3 = .int .i64 (i : Int) ∧ Hid (Held w0 wr (parT B v l (beginS l r i) :: S :: Rs)))
  case atStart => exact ⟨0, by omega, by omega, rfl, H1⟩
  case round =>
    obtain ⟨i, hi, hg, rfl, H2⟩ := hrel
    have hi0 : (0 : Int) ≤ (i : Int) := Int.natCast_nonneg _
    by_cases hin : i < 3
    · obtain ⟨M, hM⟩ : ∃ M, M = magicAt i := ⟨_, rfl⟩
      obtain ⟨V, hV⟩ : ∃ V, V = runV (numR 1) l (beginS l r i) 0 := ⟨_, rfl⟩
      have hnext : beginS l r (i + 1) = if V = M then runS (numR 1) l (beginS l r i) else failS (runS (numR 1) l (beginS l r i)) 2 := by
        rw [hV, hM]
        exact byteIs_runS _ l _
      have hV8 : V < 256 := by rw [hV]; exact runV_lt 1 HV.out.2.1
      have hNUM : Calls Tryz.prog 100 #[.pointer (some ⟨B, 0, none⟩), .int .i64 1] wr.drew fun en w' => en = .returned (.int .u32 (V : Int)) ∧ Held w0 w' (parT B v l (runS (numR 1) l (beginS l r i)) :: S :: Rs) := by
        rw [hV]
        exact hnumber_any 1 H2.out.drew HV.out.1 HV.out.2.1 HV.out.2.2 (by decide) 1 rfl
      have HNUM := hid hNUM
      have HNX := hid hnext
      clear hNUM hnext hV
      by_cases hvm : V = M
      · rcases (show i = 0 ∨ i = 1 ∨ i = 2 by omega) with rfl | rfl | rfl
        · obtain rfl : M = 31 := hM
          have hmg : ∀ h, (((⟨#[31, 139, 8]⟩ : ByteArray)[0]'h).toNat : Int) = 31 := fun _ => rfl
          have hwr : IntKind.u32.wrap 31 = 31 := by decide
          have hI : (V : Int) = 31 := by omega
          have hB : ((V : Int) != 31) = false := by simp; omega
          have HE := hid hvm
          clear hvm
          go_wp2
          go_region_held3 (fun _ => True) (trivial) ((first | (go_at_call 100; refine HNUM.out.mono ?_; rintro en w3 ⟨rfl, h3⟩; have H3 := hid h3; clear h3)))
          all_goals
            go_wp2
            go_roundg (gk - 1)
            case measure => omega
            case rel => exact ⟨1, by omega, by omega, rfl, hid (by rw [HNX.out, if_pos HE.out]; exact H3.out)⟩
        · obtain rfl : M = 139 := hM
          have hmg : ∀ h, (((⟨#[31, 139, 8]⟩ : ByteArray)[1]'h).toNat : Int) = 139 := fun _ => rfl
          have hwr : IntKind.u32.wrap 139 = 139 := by decide
          have hI : (V : Int) = 139 := by omega
          have hB : ((V : Int) != 139) = false := by simp; omega
          have HE := hid hvm
          clear hvm
          go_wp2
          go_region_held3 (fun _ => True) (trivial) ((first | (go_at_call 100; refine HNUM.out.mono ?_; rintro en w3 ⟨rfl, h3⟩; have H3 := hid h3; clear h3)))
          all_goals
            go_wp2
            go_roundg (gk - 1)
            case measure => omega
            case rel => exact ⟨2, by omega, by omega, rfl, hid (by rw [HNX.out, if_pos HE.out]; exact H3.out)⟩
        · obtain rfl : M = 8 := hM
          have hmg : ∀ h, (((⟨#[31, 139, 8]⟩ : ByteArray)[2]'h).toNat : Int) = 8 := fun _ => rfl
          have hwr : IntKind.u32.wrap 8 = 8 := by decide
          have hI : (V : Int) = 8 := by omega
          have hB : ((V : Int) != 8) = false := by simp; omega
          have HE := hid hvm
          clear hvm
          go_wp2
          go_region_held3 (fun _ => True) (trivial) ((first | (go_at_call 100; refine HNUM.out.mono ?_; rintro en w3 ⟨rfl, h3⟩; have H3 := hid h3; clear h3)))
          all_goals
            go_wp2
            go_roundg (gk - 1)
            case measure => omega
            case rel => exact ⟨3, by omega, by omega, rfl, hid (by rw [HNX.out, if_pos HE.out]; exact H3.out)⟩
      · rcases (show i = 0 ∨ i = 1 ∨ i = 2 by omega) with rfl | rfl | rfl
        · obtain rfl : M = 31 := hM
          have hmg : ∀ h, (((⟨#[31, 139, 8]⟩ : ByteArray)[0]'h).toNat : Int) = 31 := fun _ => rfl
          have hwr : IntKind.u32.wrap 31 = 31 := by decide
          have hI : ¬ (V : Int) = 31 := by omega
          have hB : ((V : Int) != 31) = true := by simp; omega
          have HE := hid hvm
          clear hvm
          go_wp2
          go_region_held3 (fun _ => True) (trivial) ((first | (go_at_call 100; refine HNUM.out.mono ?_; rintro en w3 ⟨rfl, h3⟩; have H3 := hid h3; clear h3)))
          all_goals
            go_wp2_with fail
            with_reducible refine (par_fail 2 (by decide) 2 rfl H3.out).mono ?_
            rintro en w4 ⟨rfl, h4⟩
            have H4 := hid h4
            clear h4
            go_wp2
            go_roundg (gk - 1)
            case measure => omega
            case rel => exact ⟨1, by omega, by omega, rfl, hid (by rw [HNX.out, if_neg HE.out]; exact H4.out)⟩
        · obtain rfl : M = 139 := hM
          have hmg : ∀ h, (((⟨#[31, 139, 8]⟩ : ByteArray)[1]'h).toNat : Int) = 139 := fun _ => rfl
          have hwr : IntKind.u32.wrap 139 = 139 := by decide
          have hI : ¬ (V : Int) = 139 := by omega
          have hB : ((V : Int) != 139) = true := by simp; omega
          have HE := hid hvm
          clear hvm
          go_wp2
          go_region_held3 (fun _ => True) (trivial) ((first | (go_at_call 100; refine HNUM.out.mono ?_; rintro en w3 ⟨rfl, h3⟩; have H3 := hid h3; clear h3)))
          all_goals
            go_wp2_with fail
            with_reducible refine (par_fail 2 (by decide) 2 rfl H3.out).mono ?_
            rintro en w4 ⟨rfl, h4⟩
            have H4 := hid h4
            clear h4
            go_wp2
            go_roundg (gk - 1)
            case measure => omega
            case rel => exact ⟨2, by omega, by omega, rfl, hid (by rw [HNX.out, if_neg HE.out]; exact H4.out)⟩
        · obtain rfl : M = 8 := hM
          have hmg : ∀ h, (((⟨#[31, 139, 8]⟩ : ByteArray)[2]'h).toNat : Int) = 8 := fun _ => rfl
          have hwr : IntKind.u32.wrap 8 = 8 := by decide
          have hI : ¬ (V : Int) = 8 := by omega
          have hB : ((V : Int) != 8) = true := by simp; omega
          have HE := hid hvm
          clear hvm
          go_wp2
          go_region_held3 (fun _ => True) (trivial) ((first | (go_at_call 100; refine HNUM.out.mono ?_; rintro en w3 ⟨rfl, h3⟩; have H3 := hid h3; clear h3)))
          all_goals
            go_wp2_with fail
            with_reducible refine (par_fail 2 (by decide) 2 rfl H3.out).mono ?_
            rintro en w4 ⟨rfl, h4⟩
            have H4 := hid h4
            clear h4
            go_wp2
            go_roundg (gk - 1)
            case measure => omega
            case rel => exact ⟨3, by omega, by omega, rfl, hid (by rw [HNX.out, if_neg HE.out]; exact H4.out)⟩
    · have hiI : ¬ (i : Int) < 3 := by omega
      obtain rfl : i = 3 := by omega
      go_wp2
      go_end0
      exact ⟨rfl, H2.out⟩
/-! ### The flags -/
def hdrC (h : Hdr) (ev : Value) : List Value := [.bool h.text, .bool h.sum, .int .u32 (h.time : Int), .int .u8 (h.flags : Int), .int .u8 (h.sys : Int), ev, .bool h.hasExtra, strV h.name, strV h.note, .bool h.hasName, .bool h.hasNote]
def hdrV (h : Hdr) (ev : Value) : Value := .agg (hdrC h ev).toArray
/-- a header with these flags alone -/
def flagsH (f : Nat) : Hdr := ⟨bitB f 0, bitB f 1, 0, 0, 0, [], bitB f 2, [], [], bitB f 3, bitB f 4⟩
theorem flag_bits : ∀ V : Nat, V < 32 → (bits .and .u32 (V : Int) 1 != 0) = bitB V 0 ∧ (bits .and .u32 (V : Int) 2 != 0) = bitB V 1 ∧ (bits .and .u32 (V : Int) 4 != 0) = bitB V 2 ∧ (bits .and .u32 (V : Int) 8 != 0) = bitB V 3 ∧ (bits .and .u32 (V : Int) 16 != 0) = bitB V 4 := by decide +kernel
set_option maxHeartbeats 1600000 in
theorem flags_any {Bh : Nat} (h : Held w0 w (parT B v l r :: S :: objT Bh (hdrC (flagsH 0) (.slice none 0 0)) 29 :: Rs)) (hv : Reads w0 S 1 v l.length (u8s l)) (hb : ∀ b ∈ l, b < 256) (hl : l.length < 1000000000) :
    Calls Tryz.prog 99 #[.pointer (some ⟨B, 0, none⟩), .pointer (some ⟨Bh, 0, none⟩)] w fun en w' => en = .returned (.tuple #[]) ∧
      Held w0 w' (parT B v l (runS flagR l r) :: S :: objT Bh (hdrC (flagsH (runV flagR l r 0)) (.slice none 0 0)) 29 :: Rs) := by
  obtain ⟨V, hV⟩ : ∃ V, V = runV (numR 1) l r 0 := ⟨_, rfl⟩
  have hNUM := hnumber_any 1 h hv hb hl (by decide) 1 rfl
  rw [flagR_runS, flagR_runV]
  rw [← hV] at hNUM ⊢
  have hV8 : V < 256 := by rw [hV]; exact runV_lt 1 hb
  have HNUM := hid hNUM
  clear h hv hb hl hNUM hV
  by_cases hlt : V < 32
  · rw [if_pos hlt, if_pos hlt]
    have hI : ¬ (32 : Int) ≤ (V : Int) := by omega
    obtain ⟨g0, g1, g2, g3, g4⟩ := flag_bits V hlt
    go_enter Tryz.func99, Tryz.ntmps99
    go_wp2_with fail
    with_reducible refine HNUM.out.mono ?_
    rintro en w2 ⟨rfl, h2⟩
    have h3 := h2.third
    have f0 := h3.obj.frozen 0
    have f1 := h3.obj.frozen 1
    have f6 := h3.obj.frozen 6
    have f9 := h3.obj.frozen 9
    have f10 := h3.obj.frozen 10
    have c0 := h3.obj.cell (i := 0) rfl
    have c1 := h3.obj.cell (i := 1) rfl
    have c6 := h3.obj.cell (i := 6) rfl
    have c9 := h3.obj.cell (i := 9) rfl
    have c10 := h3.obj.cell (i := 10) rfl
    have H4 := hid (((((h3.setObj 0 (.bool (bitB V 0))).setObj 1 (.bool (bitB V 1))).setObj 6 (.bool (bitB V 2))).setObj 9 (.bool (bitB V 3))).setObj 10 (.bool (bitB V 4)))
    clear HNUM h2 h3
    go_wp2
    go_end0
    exact ⟨rfl, H4.out.swap.third.swap⟩
  · rw [if_neg hlt, if_neg hlt]
    have hI : (32 : Int) ≤ (V : Int) := by omega
    clear hlt
    go_enter Tryz.func99, Tryz.ntmps99
    go_wp2_with fail
    with_reducible refine HNUM.out.mono ?_
    rintro en w2 ⟨rfl, h2⟩
    have HF := hid (par_fail 2 (by decide) 2 rfl h2)
    clear h2 HNUM
    go_wp2_with fail
    with_reducible refine HF.out.mono ?_
    rintro en w3 ⟨rfl, h3⟩
    have H3 := hid h3
    clear h3 HF
    go_wp2
    refine bodyPost_ret (results_none rfl _ _ _) rfl ?_
    exact ⟨rfl, H3.out⟩
end
end Go.Proofs.YtkdmdbojcdonpaaGreatDoor
