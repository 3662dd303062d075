/-
  The landed zlib decoder between calls: what is still to come, and that a step keeps it; Take.
-/
import Derived.Test.YtbkbkmgogbgofaaDoorZh22
namespace Go.Proofs.YtbkbkmgogbgofaaDoor
set_option maxRecDepth 5000
open Go.RowKit
inductive ZSt where
  | hdr (l : List Nat)
  | str (B : Nat) (s : DSt) (o : List Nat)
  | tot (o l : List Nat)
  | fin (o l : List Nat)
  | bad (e sm : Nat)
def zL (D : Nat) (cl : Bool) (M : Nat) (iv : Value) : ZSt → List Thing
  | .hdr l => [zdT D iv cl M 0 0 none 0, ownT 5 1 iv l.length (u8s l)]
  | .str B s o => [zdT D (.slice none 0 0) cl M 1 0 (some ⟨B, 0, none⟩) (adlOf 1 o), decT (strZ B) M s]
  | .tot o l => [zdT D iv cl M 2 0 none (adlOf 1 o), ownT 5 1 iv l.length (u8s l)]
  | .fin o l => [zdT D iv cl M 3 0 none (adlOf 1 o), ownT 5 1 iv l.length (u8s l)]
  | .bad e sm => [zdT D (.slice none 0 0) cl M 4 e none sm]
def zT (D : Nat) (cl : Bool) (M : Nat) (st : ZSt) : Thing := exT fun iv : Value => allT (zL D cl M iv st)
def ZOk : ZSt → Prop
  | .hdr l => (∀ b ∈ l, b < 256) ∧ l.length < 1000000
  | .str _ _ _ => True
  | .tot _ l => (∀ b ∈ l, b < 256) ∧ l.length < 1000000000
  | .fin _ _ => True
  | .bad e _ => e ≠ 0
def ComeS (cl : Bool) (M : Nat) : ZSt → List Nat → Nat → Prop
  | .hdr l, out, e => zhd l = 5 ∧ out = [] ∧ e = 5
  | .str _ s o, out, e => ComeZ cl M o s out e
  | .tot o l, out, e => out = [] ∧ e = ztail cl o l
  | .fin _ l, out, e => out = [] ∧ e = zlast cl l
  | .bad e0 _, out, e => out = [] ∧ e = e0
def zmu : ZSt → Nat
  | .hdr _ => 0
  | .str _ _ _ => 3
  | .tot _ _ => 2
  | .fin _ _ => 1
  | .bad _ _ => 0
inductive StepZ (n : Nat) (cl : Bool) (M : Nat) (st : ZSt) (out : List Nat) (e : Nat) : List Nat → Nat → ZSt → Prop
  | on {t out' : List Nat} {st' : ZSt} (ht : t.length ≤ n) (ho : out = t ++ out') (hc : ComeS cl M st' out' e) (hk : ZOk st') (hmu : zmu st' + (n - t.length) < zmu st + n) : StepZ n cl M st out e t 0 st'
  | off {st' : ZSt} (ho : out = []) (hc : ComeS cl M st' [] e) (hk : ZOk st') (he : e ≠ 0) : StepZ n cl M st out e [] e st'
theorem Reach.leZ {M : Nat} {p p' : Ph} {l l' o o' : List Nat} (h : Reach M p l o p' l' o') (ho : o.length ≤ M) : o'.length ≤ M := by
  induction h with
  | refl => exact ho
  | step hs _ ih =>
    refine ih ?_
    rcases Nat.lt_or_ge M _ with h1 | h1
    · have h2 := (stepM_cap (Nat.le_refl M) hs).2 h1 ho
      rw [hs] at h2
      cases h2
    · exact h1
section
variable {w0 w : World} {Rs : List Thing} {D n M : Nat} {out : List Nat} {e : Nat} {cl : Bool} {st : ZSt}
theorem zt_open (h : Held w0 w (zT D cl M st :: Rs)) : ∃ iv, Held w0 w (zL D cl M iv st ++ Rs) := by
  obtain ⟨p, h1⟩ := h.ex
  exact ⟨p, h1.unall⟩
theorem zt_shut (iv : Value) (h : Held w0 w (zL D cl M iv st ++ Rs)) : Held w0 w (zT D cl M st :: Rs) :=
  Held.mk (R := fun iv : Value => allT (zL D cl M iv st)) iv (Held.all h)
theorem TakeZ.facts {s s' : DSt} {t : List Nat} {er : Nat} (h : TakeZ M n s t er s') (hm : ∀ ph l o, s = .run ph l o → o.length ≤ M ∧ MOk ph l o) : (∀ b ∈ t, b < 256) ∧ t.length ≤ M := by
  cases s with
  | fin e l => rw [h.1]; exact ⟨(fun b hb => by cases hb), Nat.zero_le _⟩
  | run ph l o =>
    obtain ⟨h1, h2⟩ := hm _ _ _ rfl
    have h : TakeOut M ph l o (n : Int) t er s' := h
    have key : ∀ {ph' : Ph} {l' : List Nat}, Reach M ph l o ph' l' (o ++ t) → (∀ b ∈ t, b < 256) ∧ t.length ≤ M := fun hr => by
      have h4 := hr.leZ h1
      rw [List.length_append] at h4
      exact ⟨fun b hb => (h2.reach hr).1.byt b (List.mem_append_right _ hb), by omega⟩
    cases h with
    | full _ hr => exact key hr
    | wait _ hr _ => exact key hr
    | fin _ hr _ _ _ => exact key hr
theorem zlast_ne (cl : Bool) (l : List Nat) : zlast cl l ≠ 0 := by
  unfold zlast
  split
  · split <;> decide
  · decide
def StepB (w0 w' : World) (Rs : List Thing) (D n : Nat) (cl : Bool) (M : Nat) (st : ZSt) (out : List Nat) (e : Nat) (x : Value) (k : Int) : Prop :=
  ∃ (t : List Nat) (er : Nat) (st' : ZSt), k = (er : Int) ∧ StepZ n cl M st out e t er st' ∧ Held w0 w' (ownT 5 1 x t.length (u8s t) :: zT D cl M st' :: Rs)
theorem zstep_any (hG : GlobI w0) (hn : 0 < n) (hn2 : n ≤ 9223372036854775807) (hM : M < 100000000) (h : Held w0 w (zT D cl M st :: Rs)) (hok : ZOk st) (hc : ComeS cl M st out e) :
    Calls Tryd.prog 10 #[.pointer (some ⟨D, 0, none⟩), .int .i64 (n : Int)] w fun en w' => ∃ x k, en = .returned (.tuple #[x, .int .i64 k]) ∧ StepB w0 w' Rs D n cl M st out e x k := by
  obtain ⟨iv, h1⟩ := zt_open h
  cases st with
  | hdr l =>
    have h1 : Held w0 w (zdT D iv cl M 0 0 none 0 :: ownT 5 1 iv l.length (u8s l) :: Rs) := h1
    obtain ⟨hz, rfl, rfl⟩ : zhd l = 5 ∧ out = [] ∧ e = 5 := hc
    obtain ⟨hb1, hb2⟩ : (∀ b ∈ l, b < 256) ∧ l.length < 1000000 := hok
    refine zstep0_any (R := fun x k w' => StepB w0 w' Rs D n cl M (.hdr l) [] 5 x k) n h1 ((zhead_any h1 hb1 hb2 (by unfold bigD; omega)).mono ?_)
    rintro en w' ⟨rfl, ⟨_, h2⟩ | ⟨h0, _⟩ | ⟨h0, _⟩⟩
    · rw [hz]
      exact ⟨5, rfl, [], 5, .hdr l, rfl, .off rfl ⟨hz, rfl, rfl⟩ ⟨hb1, hb2⟩ (by decide), (zt_shut iv (show Held w0 w' (_ :: _ :: Rs) from h2)).nil 5 1⟩
    · omega
    · omega
  | str B s o =>
    have h1 : Held w0 w (zdT D (.slice none 0 0) cl M 1 0 (some ⟨B, 0, none⟩) (adlOf 1 o) :: decT (strZ B) M s :: Rs) := h1
    have hc : ComeZ cl M o s out e := hc
    have hm : ∀ ph l ob, s = .run ph l ob → ob.length ≤ M ∧ MOk ph l ob := fun ph l ob hs => by
      subst hs
      obtain ⟨h2, h3, _⟩ := dec_factsZ h1.drop
      exact ⟨h2, h3⟩
    refine zstep1_any (R := fun x k w' => StepB w0 w' Rs D n cl M (.str B s o) out e x k) n h1 ((zstream_any hn hn2 hG h1 (fun t er s' hT => ?_)).mono ?_)
    · obtain ⟨h2, h3⟩ := hT.facts hm
      exact ⟨h2, by omega⟩
    · rintro en w' ⟨t, e1, s', hT, hcase⟩
      obtain ⟨out', hout, hc'⟩ := hT.come hc (fun ph l ob hs => (hm ph l ob hs).2)
      rcases hcase with ⟨ht, x, rfl, h2⟩ | ⟨rfl, rfl, rfl, h2⟩ | ⟨rfl, ⟨h5, h8, h0⟩, rfl, h2⟩ | ⟨rfl, rfl, l2, iv', rfl, hfin, rfl, h2⟩
      · have ht0 : 0 < t.length := List.length_pos_iff.2 ht
        have htn := hT.short hn
        refine ⟨x, 0, rfl, t, 0, .str B s' (o ++ t), rfl, .on htn hout hc' trivial (by show 3 + (n - t.length) < 3 + n; omega), ?_⟩
        exact (zt_shut (.slice none 0 0) (show Held w0 w' (_ :: _ :: _ :: Rs) from h2.swap.mid)).swap
      · rw [List.append_nil] at hc'
        have hh : out' = [] ∧ e = 5 ∧ ComeZ cl M o s' [] 5 := by
          rcases hT.none hn with ⟨_, ph, l, ob, rfl, hs⟩ | ⟨l2, rfl⟩
          · obtain ⟨rfl, hc2⟩ := hc'
            obtain ⟨_, rfl, rfl⟩ := hc2.err (L := []) hs
            exact ⟨rfl, rfl, rfl, hc2⟩
          · have := (dec_finZ h2.drop).1
            omega
        obtain ⟨rfl, rfl, hc3⟩ := hh
        subst hout
        exact ⟨_, 5, rfl, [], 5, .str B s' o, rfl, .off rfl hc3 trivial (by decide), (zt_shut (.slice none 0 0) (show Held w0 w' (_ :: _ :: Rs) from h2)).nil 5 1⟩
      · rcases hT.none hn with ⟨h9, _⟩ | ⟨l2, rfl⟩
        · exact absurd h9 h5
        · obtain ⟨rfl, hF⟩ : FinZ cl e1 l2 (o ++ []) out' e := hc'
          obtain rfl : e = e1 := by
            rcases hF with ⟨_, h⟩ | ⟨h, _⟩
            · exact h
            · exact absurd h h8
          subst hout
          exact ⟨_, (e : Int), rfl, [], e, .bad e (adlOf 1 o), rfl, .off rfl ⟨rfl, rfl⟩ h0 h0, (zt_shut iv (show Held w0 w' (_ :: Rs) from h2)).nil 5 1⟩
      · obtain ⟨rfl, hF⟩ : FinZ cl 8 l2 (o ++ []) out' e := hc'
        rw [List.append_nil] at hF
        have hTl : e = ztail cl o (restOf l2) := by
          rcases hF with ⟨h, _⟩ | ⟨_, h⟩
          · exact absurd rfl h
          · exact h
        subst hout
        refine ⟨_, 0, rfl, [], 0, .tot o (restOf l2), rfl, .on (out' := []) (Nat.zero_le _) rfl ⟨rfl, hTl⟩ ⟨?_, ?_⟩ (by show 2 + (n - 0) < 3 + n; omega), (zt_shut iv' (show Held w0 w' (_ :: _ :: Rs) from h2)).nil 5 1⟩
        · exact bytesOf_lt _ fun b hb => hfin.1 b (List.mem_of_mem_drop hb)
        · have h6 := hfin.2
          unfold restOf
          rw [bytesOf_length, List.length_drop]
          unfold bigD at h6
          omega
  | tot o l =>
    have h1 : Held w0 w (zdT D iv cl M 2 0 none (adlOf 1 o) :: ownT 5 1 iv l.length (u8s l) :: Rs) := h1
    obtain ⟨rfl, rfl⟩ : out = [] ∧ e = ztail cl o l := hc
    obtain ⟨hb1, hb2⟩ : (∀ b ∈ l, b < 256) ∧ l.length < 1000000000 := hok
    refine zstep2_any (R := fun x k w' => StepB w0 w' Rs D n cl M (.tot o l) [] (ztail cl o l) x k) n h1 ((zsumR_any h1 hb1 hb2).mono ?_)
    unfold ztail
    rintro en w' (⟨h4, rfl, h2⟩ | ⟨h4, hx, rfl, h2⟩ | ⟨h4, hx, rfl, iv', h2⟩)
    · rw [if_pos h4]
      exact ⟨5, rfl, [], 5, .tot o l, rfl, .off rfl ⟨rfl, by unfold ztail; rw [if_pos h4]⟩ ⟨hb1, hb2⟩ (by decide), (zt_shut iv (show Held w0 w' (_ :: _ :: Rs) from h2)).nil 5 1⟩
    · rw [if_neg (by omega), if_neg hx]
      exact ⟨4, rfl, [], 4, .bad 4 (adlOf 1 o), rfl, .off rfl ⟨rfl, rfl⟩ (show (4 : Nat) ≠ 0 by decide) (by decide), (zt_shut iv (show Held w0 w' (_ :: Rs) from h2)).nil 5 1⟩
    · rw [if_neg (by omega), if_pos hx]
      exact ⟨0, rfl, [], 0, .fin o (l.drop 4), rfl, .on (out' := []) (Nat.zero_le _) rfl ⟨rfl, rfl⟩ trivial (by show 1 + (n - 0) < 2 + n; omega), (zt_shut iv' (show Held w0 w' (_ :: _ :: Rs) from h2)).nil 5 1⟩
  | fin o l =>
    have h1 : Held w0 w (zdT D iv cl M 3 0 none (adlOf 1 o) :: ownT 5 1 iv l.length (u8s l) :: Rs) := h1
    obtain ⟨rfl, rfl⟩ : out = [] ∧ e = zlast cl l := hc
    refine zstep3_any (R := fun x k w' => StepB w0 w' Rs D n cl M (.fin o l) [] (zlast cl l) x k) n h1 ((zlast_any h1).mono ?_)
    rintro en w' ⟨rfl, ⟨rfl, h2⟩ | ⟨hl, h2⟩⟩
    · exact ⟨_, rfl, [], _, .fin o [], rfl, .off rfl ⟨rfl, rfl⟩ trivial (zlast_ne _ _), (zt_shut iv (show Held w0 w' (_ :: _ :: Rs) from h2)).nil 5 1⟩
    · have h3 : zlast cl l = 2 := by unfold zlast; rw [if_neg hl]
      rw [h3]
      exact ⟨_, rfl, [], _, .bad 2 (adlOf 1 o), rfl, .off rfl ⟨rfl, rfl⟩ (show (2 : Nat) ≠ 0 by decide) (by decide), (zt_shut iv (show Held w0 w' (_ :: Rs) from h2)).nil 5 1⟩
  | bad e0 sm =>
    have h1 : Held w0 w (zdT D (.slice none 0 0) cl M 4 e0 none sm :: Rs) := h1
    obtain ⟨rfl, rfl⟩ : out = [] ∧ e = e0 := hc
    refine (zstep4_any n h1).mono ?_
    rintro en w' ⟨x, k, rfl, rfl, rfl, h2⟩
    exact ⟨_, _, rfl, [], e, .bad e sm, rfl, .off rfl ⟨rfl, rfl⟩ hok hok, (zt_shut iv (show Held w0 w' (_ :: Rs) from h2)).nil 5 1⟩
end
end Go.Proofs.YtbkbkmgogbgofaaDoor
/-
  The landed zlib decoder: Take.
-/
namespace Go.Proofs.YtbkbkmgogbgofaaDoor
set_option maxRecDepth 5000
open Go.RowKit
def TkZ (w0 wr : World) (Rs : List Thing) (D n : Nat) (cl : Bool) (M : Nat) (out : List Nat) (e g : Nat) (v : Value) (t : List Nat) (er : Nat) : Prop :=
  ∃ (st : ZSt) (out' : List Nat), out = t ++ out' ∧ t.length ≤ n ∧ ComeS cl M st out' e ∧ ZOk st ∧ Held w0 wr (ownT 5 1 v t.length (u8s t) :: zT D cl M st :: Rs) ∧
    (er = 0 ∧ zmu st + (n - t.length) < g ∨ er = e ∧ er ≠ 0 ∧ out' = [] ∧ 0 < g ∧ t.length < n)
def TakeEndZ (w0 w' : World) (Rs : List Thing) (D n : Nat) (cl : Bool) (M : Nat) (out : List Nat) (e : Nat) (en : Ending) : Prop :=
  ∃ (x : Value) (t : List Nat) (er : Nat) (st : ZSt) (out' : List Nat), en = .returned (.tuple #[x, .int .i64 (er : Int)]) ∧ out = t ++ out' ∧ ComeS cl M st out' e ∧ ZOk st ∧
    Held w0 w' (ownT 5 1 x t.length (u8s t) :: zT D cl M st :: Rs) ∧ (er = 0 ∧ t.length = n ∨ t.length < n ∧ out' = [] ∧ er = if t = [] then e else 5)
section
variable {w0 w : World} {Rs : List Thing} {D n M : Nat} {out : List Nat} {e : Nat} {cl : Bool} {st : ZSt}
set_option maxRecDepth 20000 in
set_option maxHeartbeats 6400000 in
theorem ztakeS_any (hG : GlobI w0) (hn2 : n ≤ 9223372036854775807) (hM : M < 100000000) (h : Held w0 w (zT D cl M st :: Rs)) (hok : ZOk st) (hc : ComeS cl M st out e) (ho : out.length < 100000000) :
    Calls Tryd.prog 11 #[.int .i64 (n : Int), .func (.func 10) #[.pointer (some ⟨D, 0, none⟩)] #[]] w fun en w' => TakeEndZ w0 w' Rs D n cl M out e en := by
  obtain ⟨i0, hi0, hz0, hz1, hz2⟩ := info_parts infoByte14
  have hmx : 1000000000 ≤ maxLen := by decide
  have H0 : Hid (TkZ w0 w Rs D n cl M out e (zmu st + n + 1) (.slice none 0 0) [] 0) :=
    hid ⟨st, out, rfl, Nat.zero_le _, hc, hok, h.nil _ 1, .inl ⟨rfl, by simp⟩⟩
  have HO := hid (And.intro hG (And.intro hn2 (And.intro ho hM)))
  clear h hok hc hn2 hG ho hM
  go_enter Tryd.func11, Tryd.ntmps11
  go_wp2
  go_loopg [6, 7] (zmu st + n + 1) (fun g t6 t7 wr => ∃ (ao : Option Addr) (cap : Nat) (t : List Nat) (er : Nat), t6 = .slice ao t.length cap ∧ t7 = .int .i64 (er : Int) ∧ Hid (TkZ w0 wr Rs D n cl M out e g (.slice ao t.length cap) t er))
  case atStart => exact ⟨none, 0, [], 0, rfl, rfl, H0⟩
  case round =>
    obtain ⟨ao, cap, t, er, rfl, rfl, HT⟩ := hrel
    obtain ⟨st1, out1, ho1, htn, hc1, hk1, h1, hcase⟩ := HT.out
    clear HT H0
    have htl : t.length < 100000000 := by
      have := congrArg List.length ho1
      have := HO.out.2.2.1
      rw [List.length_append] at *
      omega
    obtain ⟨T, hT⟩ : ∃ T, T = t.length := ⟨_, rfl⟩
    rw [← hT] at h1 ⊢
    rcases hcase with ⟨rfl, hg⟩ | ⟨rfl, he0, rfl, hg, htn2⟩
    · by_cases hlt : T < n
      · have hltI : (T : Int) < (n : Int) := by omega
        obtain ⟨q, hq⟩ : ∃ q, q = n - T := ⟨_, rfl⟩
        have hqI : (n : Int) - (T : Int) = (q : Int) := by omega
        have hqw : IntKind.i64.wrap (q : Int) = (q : Int) := IntWalk.i64_in _ (by have := HO.out.2.1; omega)
        have HS := hid (zstep_any (n := q) HO.out.1 (by omega) (by have := HO.out.2.1; omega) HO.out.2.2.2 h1.swap hk1 hc1)
        have hgk : 0 < gk := by omega
        have HF := hid (And.intro ho1 (And.intro htn (And.intro hg (And.intro hT (And.intro hq htl)))))
        clear ho1 htn hc1 hk1 h1 hg hT hq htl hlt
        go_wp2_with fail
        with_reducible refine HS.out.mono ?_
        rintro en w2 ⟨x, k, rfl, tb, er2, st2, rfl, hR, h2⟩
        obtain ⟨xo, xc, rfl, hxc, _⟩ := h2.own.form
        have htb : tb.length ≤ q ∧ tb.length < 100000000 := by
          have h3 := congrArg List.length HF.out.1
          have h4 := HO.out.2.2.1
          rw [List.length_append] at h3
          cases hR with
          | on ht ho hc hk hmu =>
            have h5 := congrArg List.length ho
            rw [List.length_append] at h5
            exact ⟨ht, by omega⟩
          | off _ _ _ _ => exact ⟨Nat.zero_le _, by decide⟩
        obtain ⟨K, hK⟩ : ∃ K, K = T + tb.length := ⟨_, rfl⟩
        have hKb : K < 1000000000 := by have := HF.out.2.2.2.2.2; have := HF.out.2.2.2.1; omega
        have H3 := hid h2.third
        have HX := hid (h2.own.rd)
        have HR := hid hR
        have HK := hid hK
        have HTB := hid htb
        clear h2 hR hK HS htb hxc
        go_wp2_with ((with_reducible show wpList _ _ _ (⟨some 28, _, _, _, _, _⟩ :: _) _ _); go_must (refine wpList_app_held rfl (.tmp 26) (.tmp 27) 26 rfl 5 i0 (.int .u8 0) 1 1 Tryd.underlying26 hi0 hz0 hz1 hz2 rfl (by decide) _ T (u8s t) rfl H3.out _ tb.length (u8s tb) rfl HX.out (u8s_one _) K HK.out (by omega) (by omega) ?_); intro yo yc w7 h7; have H7 := hid h7; clear h7)
        go_roundg (gk - 1)
        case measure => omega
        case rel =>
          obtain ⟨ho1, htn, hg, hT, hq, htl⟩ := HF.out
          have hKl : K = (t ++ tb).length := by rw [HK.out, List.length_append, hT]
          have hE := HTB.out.1
          refine ⟨yo, yc, t ++ tb, er2, by rw [← hKl], rfl, hid ?_⟩
          rw [← hKl]
          have h9 := H7.out
          rw [← u8s_append, hKl] at h9
          have hRR := HR.out
          cases hRR with
          | on ht ho hc hk hmu =>
            rename_i out2
            subst ho
            refine ⟨st2, out2, by rw [ho1, List.append_assoc], by rw [List.length_append]; omega, hc, hk, ?_, .inl ⟨rfl, ?_⟩⟩
            · rw [hKl]
              exact h9.swap.drop
            · rw [List.length_append]; omega
          | off ho hc hk he =>
            subst ho
            refine ⟨st2, [], by rw [ho1]; simp, by rw [List.append_nil]; omega, hc, hk, ?_, .inr ⟨rfl, he, rfl, ?_, ?_⟩⟩
            · rw [hKl]
              exact h9.swap.drop
            · omega
            · rw [List.append_nil]; omega
      · obtain rfl : T = n := by omega
        have hltI : ¬ (T : Int) < (T : Int) := by omega
        have H1 := hid h1
        have HF := hid (And.intro ho1 (And.intro hc1 (And.intro hk1 hT)))
        clear ho1 htn hc1 hk1 h1 hg hT htl hlt
        go_wp2
        go_ret2
        obtain ⟨ho1, hc1, hk1, hT⟩ := HF.out
        have h2 := H1.out
        rw [hT] at h2 ⊢
        exact ⟨_, t, 0, st1, out1, rfl, ho1, hc1, hk1, h2, .inl ⟨rfl, rfl⟩⟩
    · have heI : ¬ (er : Int) = 0 := by omega
      have heB : ((er : Int) != 0) = true := by simp; omega
      have H1 := hid h1
      have HF := hid (And.intro ho1 (And.intro hc1 (And.intro hk1 (And.intro hT htn2))))
      clear ho1 htn hc1 hk1 h1 hg htl htn2
      by_cases ht0 : T = 0
      · have htI : ¬ (0 : Int) < (T : Int) := by omega
        have HN := hid (List.eq_nil_of_length_eq_zero (hT.symm.trans ht0))
        clear ht0 hT
        go_wp2
        go_ret2
        obtain ⟨ho1, hc1, hk1, hT, htn2⟩ := HF.out
        have h2 := H1.out
        rw [hT] at h2 ⊢
        exact ⟨_, t, er, st1, [], rfl, ho1, hc1, hk1, h2, .inr ⟨htn2, rfl, by rw [if_pos HN.out]⟩⟩
      · have htI : (0 : Int) < (T : Int) := by omega
        have HN := hid (show t ≠ [] from fun h => ht0 (by rw [hT, h]; rfl))
        clear ht0 hT
        go_wp2
        go_ret2
        obtain ⟨ho1, hc1, hk1, hT, htn2⟩ := HF.out
        have h2 := H1.out
        rw [hT] at h2 ⊢
        exact ⟨_, t, 5, st1, [], rfl, ho1, hc1, hk1, h2, .inr ⟨htn2, rfl, by rw [if_neg HN.out]⟩⟩
set_option maxRecDepth 20000 in
set_option maxHeartbeats 1600000 in
theorem ztake_any (hG : GlobI w0) (hn2 : n ≤ 9223372036854775807) (hM : M < 100000000) (h : Held w0 w (zT D cl M st :: Rs)) (hok : ZOk st) (hc : ComeS cl M st out e) (ho : out.length < 100000000) :
    Calls Tryd.prog 7 #[.pointer (some ⟨D, 0, none⟩), .int .i64 (n : Int)] w fun en w' => TakeEndZ w0 w' Rs D n cl M out e en := by
  have HT := hid (ztakeS_any hG hn2 hM h hok hc ho)
  clear h hok hc
  go_enter Tryd.func7, Tryd.ntmps7
  go_wp2_with fail
  with_reducible refine HT.out.mono ?_
  rintro en w2 ⟨x, t, er, st2, out2, rfl, h2⟩
  have H2 := hid h2
  clear h2 HT
  go_wp2
  go_ret2
  exact ⟨x, t, er, st2, out2, rfl, H2.out⟩
end
end Go.Proofs.YtbkbkmgogbgofaaDoor
/-
  The landed zlib decoder: New, Feed of a whole file, End; a decoder that knows what is to come.
-/
namespace Go.Proofs.YtbkbkmgogbgofaaDoor
set_option maxRecDepth 5000
open Go.RowKit
def FedZ (M : Nat) (l : List Nat) (st : ZSt) : Prop := ZOk st ∧ ∀ cl out e, ZEnds cl M l out e → ComeS cl M st out e
def FdZ (w0 wr : World) (Rs : List Thing) (D M : Nat) (l : List Nat) (n g : Nat) : Prop :=
  (g = 2 ∧ ∃ (yo : Option Addr) (yc : Nat), Held w0 wr (zdT D (.slice yo n yc) false M 0 0 none 0 :: ownT 5 1 (.slice yo n yc) n (u8s l) :: Rs)) ∨
  (g = 1 ∧ ∃ B, FedZ M l (.str B (.run .hd (bits8 (l.drop 2)) []) []) ∧ Held w0 wr (zdT D (.slice none 0 0) false M 1 0 (some ⟨B, 0, none⟩) 1 :: decT (strZ B) M (.run .hd (bits8 (l.drop 2)) []) :: Rs))
section
variable {w0 w : World} {Rs : List Thing} {D n M : Nat} {l : List Nat} {cl : Bool} {st : ZSt}
theorem str_fed (B : Nat) (h : Held w0 w (zdT D (.slice none 0 0) cl M 1 0 (some ⟨B, 0, none⟩) 1 :: decT (strZ B) M (.run .hd (bits8 (l.drop 2)) []) :: Rs)) : Held w0 w (zT D cl M (.str B (.run .hd (bits8 (l.drop 2)) []) []) :: Rs) :=
  zt_shut (.slice none 0 0) (show Held w0 w (zdT D (.slice none 0 0) cl M 1 0 (some ⟨B, 0, none⟩) (adlOf 1 []) :: _ :: Rs) by rw [show adlOf 1 [] = 1 by decide]; exact h)
theorem zfeed_step {yo : Option Addr} {yc : Nat} (hb : ∀ b ∈ l, b < 256) (hl : l.length < 1000000) (hM : M < 100000000) (hn : n = l.length)
    (h : Held w0 w (zdT D (.slice yo n yc) false M 0 0 none 0 :: ownT 5 1 (.slice yo n yc) n (u8s l) :: Rs)) :
    Calls Tryd.prog 10 #[.pointer (some ⟨D, 0, none⟩), .int .i64 0] w fun en w' => ∃ k : Nat, en = .returned (.tuple #[.slice none 0 0, .int .i64 (k : Int)]) ∧
      (0 < k ∧ (∃ st, FedZ M l st ∧ Held w0 w' (zT D false M st :: Rs)) ∨ k = 0 ∧ ∃ B, FedZ M l (.str B (.run .hd (bits8 (l.drop 2)) []) []) ∧ Held w0 w' (zdT D (.slice none 0 0) false M 1 0 (some ⟨B, 0, none⟩) 1 :: decT (strZ B) M (.run .hd (bits8 (l.drop 2)) []) :: Rs)) := by
  subst hn
  refine (zstep0_any (R := fun x k w' => x = .slice none 0 0 ∧ ZhOut w0 w' Rs D l (.slice yo l.length yc) false M 0 0 (.returned (.int .i64 k))) 0 h ((zhead_any h hb hl (by unfold bigD; omega)).mono ?_)).mono ?_
  · rintro en w' hO
    obtain ⟨rfl, _⟩ := id hO
    exact ⟨_, rfl, rfl, hO⟩
  · rintro en w' ⟨x, k, rfl, rfl, hk, hO⟩
    obtain rfl : k = (zhd l : Nat) := by cases hk; rfl
    refine ⟨zhd l, rfl, ?_⟩
    rcases hO with ⟨hz, h2⟩ | ⟨hz, h2⟩ | ⟨hz, B, h2⟩
    · refine .inl ⟨by omega, .hdr l, ⟨⟨hb, hl⟩, fun cl out e hg => ?_⟩, zt_shut (.slice yo l.length yc) (show Held w0 w' (_ :: _ :: Rs) from h2)⟩
      rcases hg with ⟨_, rfl, rfl⟩ | ⟨h0, _⟩
      · exact ⟨hz, rfl, hz⟩
      · omega
    · refine .inl ⟨by omega, .bad 2 0, ⟨(show (2 : Nat) ≠ 0 by decide), fun cl out e hg => ?_⟩, zt_shut (.slice none 0 0) (show Held w0 w' (_ :: Rs) from h2)⟩
      rcases hg with ⟨_, rfl, rfl⟩ | ⟨h0, _⟩
      · exact ⟨rfl, hz⟩
      · omega
    · refine .inr ⟨hz, B, ⟨trivial, fun cl out e hg => ?_⟩, h2⟩
      rcases hg with ⟨h0, _⟩ | ⟨_, hg⟩
      · omega
      · exact ⟨rfl, hg⟩
set_option maxRecDepth 20000 in
set_option maxHeartbeats 3200000 in
theorem zfeed_any (v : Value) (l : List Nat) (h : Held w0 w (zT D false M (.hdr []) :: Rs)) (hv : ∀ w', Held w0 w' Rs → Rd w' 1 v l.length (u8s l)) (hb : ∀ b ∈ l, b < 256) (hl : l.length < 1000000) (hM : M < 100000000) :
    Calls Tryd.prog 6 #[.pointer (some ⟨D, 0, none⟩), v] w fun en w' => en = .returned (.tuple #[]) ∧ ∃ st, FedZ M l st ∧ Held w0 w' (zT D false M st :: Rs) := by
  obtain ⟨i0, hi0, hz0, hz1, hz2⟩ := info_parts infoByte14
  have hmx : 1000000000 ≤ maxLen := by decide
  obtain ⟨iv, h1⟩ := zt_open h
  have h1 : Held w0 w (zdT D iv false M 0 0 none 0 :: ownT 5 1 iv 0 (u8s []) :: Rs) := h1
  obtain ⟨vo, vc, rfl, hvc, _⟩ := (hv w h1.drop.drop).form
  obtain ⟨ao, cap, rfl, hcap, _⟩ := h1.drop.own.form
  have c0 := zd_cell h1 0 _ rfl
  have c1 := zd_cell h1 1 _ rfl
  have c3 := zd_cell h1 3 _ rfl
  have HV := hid (hv w h1.drop.drop)
  obtain ⟨n, hn⟩ : ∃ n, n = l.length := ⟨_, rfl⟩
  rw [← hn] at HV ⊢
  have H1 := hid h1.swap
  have HF := hid (And.intro hb (And.intro hl (And.intro hM hn)))
  have hnb : n < 1000000 := by omega
  clear h h1 hv hb hl hM hn
  go_enter Tryd.func6, Tryd.ntmps6
  go_wp2_with ((with_reducible show wpList _ _ _ (⟨some 38, _, _, _, _, _⟩ :: _) _ _); go_must (refine wpList_app_held rfl (.tmp 36) (.tmp 37) 26 rfl 5 i0 (.int .u8 0) 1 1 Tryd.underlying26 hi0 hz0 hz1 hz2 rfl (by decide) _ 0 (u8s []) rfl H1.out _ n (u8s l) rfl HV.out (u8s_one _) n (by omega) (by omega) (by omega) ?_); intro yo yc w2 h2; have h3 := h2.swap; have d0 := zd_cell h3 0 _ rfl; have e0 := zd_froz h3 0; have h4 := zd_set h3 0 (.slice yo n yc) (zcells (.slice yo n yc) false M 0 0 none 0) rfl; have H4 := hid h4; clear h2 h3 h4)
  have H5 : Hid (FdZ w0 _ Rs D M l n 2) := hid (.inl ⟨rfl, yo, yc, H4.out⟩)
  clear H4 H1 HV c0 c1 c3 d0 e0
  go_loopg [4, 5] 2 (fun g t4 t5 wr => Hid (FdZ w0 wr Rs D M l n g))
  case atStart => exact H5
  case round =>
    clear H5
    rcases hrel.out with ⟨rfl, yo2, yc2, h6⟩ | ⟨rfl, B, hF, h6⟩
    · have c3 := zd_cell h6 3 _ rfl
      have HS := hid (zfeed_step HF.out.1 HF.out.2.1 HF.out.2.2.1 HF.out.2.2.2 h6)
      clear h6 hrel
      go_wp2_with fail
      with_reducible refine HS.out.mono ?_
      rintro en w4 ⟨k, rfl, ⟨hk0, st, hF, h7⟩ | ⟨rfl, B, hF, h7⟩⟩
      · have HE := hid (And.intro hF h7)
        clear hF h7 HS
        go_wp2
        refine bodyPost_ret (results_none rfl _ _ _) rfl ?_
        exact ⟨rfl, st, HE.out.1, HE.out.2⟩
      · have HE := hid (And.intro hF h7)
        clear hF h7 HS
        go_wp2
        go_roundg 1
        case measure => omega
        case rel => exact hid (.inr ⟨rfl, B, HE.out.1, HE.out.2⟩)
    · have c3 := zd_cell h6 3 _ rfl
      have HE := hid (And.intro hF (str_fed B h6))
      clear hF h6 hrel
      go_wp2
      go_end0
      exact ⟨rfl, _, HE.out.1, HE.out.2⟩
theorem znew_held (h : Held w0 w Rs) : Held w0 (w.alloc (.cells #[.slice none 0 0, .bool false, .int .i64 (M : Int), .int .i64 0, .int .i64 0, .pointer none, .int .u32 0] 35)) (zT w.heap.size false M (.hdr []) :: Rs) := by
  have h1 : Held w0 _ (zdT w.heap.size (.slice none 0 0) false M 0 0 none 0 :: Rs) := h.newObj [.slice none 0 0, .bool false, .int .i64 (M : Int), .int .i64 0, .int .i64 0, .pointer none, .int .u32 0] 35
  exact zt_shut (.slice none 0 0) (show Held w0 _ (_ :: _ :: Rs) from (h1.nil 5 1).swap)
set_option maxRecDepth 20000 in
set_option maxHeartbeats 1600000 in
theorem znew_any (Mi : Int) (hM : Mi = (M : Int)) (h : Held w0 w Rs) : Calls Tryd.prog 4 #[.int .i64 Mi] w fun e w' => ∃ D : Nat, e = .returned (.pointer (some ⟨D, 0, none⟩)) ∧ Held w0 w' (zT D false M (.hdr []) :: Rs) := by
  subst hM
  have H := hid (znew_held (M := M) h)
  clear h
  go_enter Tryd.func4, Tryd.ntmps4
  go_wp2
  go_ret
  exact ⟨_, rfl, H.out⟩
theorem zendT_any (h : Held w0 w (zT D cl M st :: Rs)) : Calls Tryd.prog 8 #[.pointer (some ⟨D, 0, none⟩)] w fun e w' => e = .returned (.tuple #[]) ∧ Held w0 w' (zT D true M st :: Rs) := by
  obtain ⟨iv, h1⟩ := zt_open h
  cases st with
  | hdr l => exact (zend_any (show Held w0 w (zdT _ _ _ _ _ _ _ _ :: _) from h1)).mono fun _ _ ⟨h2, h3⟩ => ⟨h2, zt_shut iv h3⟩
  | str B s o => exact (zend_any (show Held w0 w (zdT _ _ _ _ _ _ _ _ :: _) from h1)).mono fun _ _ ⟨h2, h3⟩ => ⟨h2, zt_shut iv h3⟩
  | tot o l => exact (zend_any (show Held w0 w (zdT _ _ _ _ _ _ _ _ :: _) from h1)).mono fun _ _ ⟨h2, h3⟩ => ⟨h2, zt_shut iv h3⟩
  | fin o l => exact (zend_any (show Held w0 w (zdT _ _ _ _ _ _ _ _ :: _) from h1)).mono fun _ _ ⟨h2, h3⟩ => ⟨h2, zt_shut iv h3⟩
  | bad e sm => exact (zend_any (show Held w0 w (zdT _ _ _ _ _ _ _ _ :: _) from h1)).mono fun _ _ ⟨h2, h3⟩ => ⟨h2, zt_shut iv h3⟩
/-! ### A decoder from which out is to come, and then the error e -/
def ZAt (w0 w : World) (Rs : List Thing) (D : Nat) (out : List Nat) (e : Nat) : Prop := ∃ cl M st, M < 100000000 ∧ ComeS cl M st out e ∧ ZOk st ∧ Held w0 w (zT D cl M st :: Rs)
theorem zat_take {out : List Nat} {e : Nat} (hG : GlobI w0) (n : Nat) (ni : Int) (hni : ni = (n : Int)) (hn2 : n ≤ 9223372036854775807) (h : ZAt w0 w Rs D out e) (ho : out.length < 100000000) :
    Calls Tryd.prog 7 #[.pointer (some ⟨D, 0, none⟩), .int .i64 ni] w fun en w' => ∃ (x : Value) (t : List Nat) (er : Nat) (out' : List Nat), en = .returned (.tuple #[x, .int .i64 (er : Int)]) ∧ out = t ++ out' ∧
      (er = 0 ∧ t.length = n ∨ t.length < n ∧ out' = [] ∧ er = if t = [] then e else 5) ∧ ZAt w0 w' (ownT 5 1 x t.length (u8s t) :: Rs) D out' e := by
  subst hni
  obtain ⟨cl, M, st, hM, hc, hok, h1⟩ := h
  refine (ztake_any hG hn2 hM h1 hok hc ho).mono ?_
  rintro en w' ⟨x, t, er, st', out', rfl, ho', hc', hok', h2, hcase⟩
  exact ⟨x, t, er, out', rfl, ho', hcase, cl, M, st', hM, hc', hok', h2.swap⟩
end
end Go.Proofs.YtbkbkmgogbgofaaDoor
