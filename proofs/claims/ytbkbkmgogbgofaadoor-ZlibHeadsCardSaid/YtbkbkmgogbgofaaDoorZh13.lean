/-
  The landed decoder's codes of a block: newCodes.
-/
import Derived.Test.YtbkbkmgogbgofaaDoorZh12
import Derived.Deep.MidRow
import Derived.Laws.BitsAllLaws
namespace Go.Proofs.YtbkbkmgogbgofaaDoor
set_option maxRecDepth 5000
open Go.RowKit
def codesV (a b : Option Addr) : Value := .agg #[.pointer a, .pointer b]
def NewOut (w w' : World) (L1 L2 : List Int) (e : Ending) : Prop :=
  (checkOf L1 15 ≠ 0 ∧ e = .returned (.tuple #[codesV none none, .int .i64 ((checkOf L1 15 : Nat) : Int)]) ∧ Held w w' []) ∨
  (checkOf L1 15 = 0 ∧ checkOf L2 15 ≠ 0 ∧ e = .returned (.tuple #[codesV none none, .int .i64 ((checkOf L2 15 : Nat) : Int)]) ∧ Held w w' []) ∨
  (checkOf L1 15 = 0 ∧ checkOf L2 15 = 0 ∧ ∃ B1 B2, e = .returned (.tuple #[codesV (some ⟨B1, 0, none⟩) (some ⟨B2, 0, none⟩), .int .i64 0]) ∧ Held w w' [tabT L2 B2, tabT L1 B1])
set_option maxHeartbeats 1600000 in
theorem newCodes_any (x y : Value) (n1 n2 : Nat) (L1 L2 : List Int) (w : World) (hx : Rd w 1 x n1 (ints L1)) (hy : Rd w 1 y n2 (ints L2)) (hn1 : n1 ≤ 1000) (hn2 : n2 ≤ 1000) :
    Calls Tryd.prog 61 #[x, y] w fun e w' => NewOut w w' L1 L2 e := by
  have H0 := (Held.start w).newObj [.pointer none, .pointer none] 50
  have hM0 : Mod w (w.alloc (.cells #[.pointer none, .pointer none] 50)) (fun _ => False) := (Mod.refl w _).alloc _
  have HB := hid (build_any x n1 L1 15 _ (hx.kept hM0 (fun _ _ h => h)) hn1)
  have HY := hid (hy.kept hM0 (fun _ _ h => h))
  have HH := hid H0
  clear hx hy H0 hM0
  go_enter Tryd.func61, Tryd.ntmps61
  go_wp2_with fail
  generalize w.alloc (.cells #[.pointer none, .pointer none] 50) = w1 at HB HY HH ⊢
  with_reducible refine HB.out.mono ?_
  rintro e w2 (⟨hc, rfl, h2⟩ | ⟨hc, B1, rfl, h2⟩)
  · have H2 := hid (Held.frame HH.out h2)
    obtain ⟨c, hce⟩ : ∃ c, c = checkOf L1 15 := ⟨_, rfl⟩
    have HC := hid hce
    rw [← hce] at hc ⊢
    have hcI : ¬ (c : Int) = 0 := by omega
    have hcB : ((c : Int) == 0) = false := by simp; omega
    have c0 := H2.out.obj.cell (i := 0) rfl
    have c1 := H2.out.obj.cell (i := 1) rfl
    have f0 := H2.out.obj.frozen 0
    have f1 := H2.out.obj.frozen 1
    clear hce h2 HB HH hc
    go_wp2
    have h3 := (H2.out.setObj 0 (.pointer none)).setObj 1 (.pointer none)
    refine ret_cell_tmp rfl _ 2 Tryd.underlying50 rfl (by kernel_rfl) w.heap.size [.pointer none, .pointer none] 50 _ rfl rfl rfl h3.obj rfl ?_
    refine .inl ⟨?_, ?_, h3.drop⟩
    · rw [← HC.out]; omega
    · rw [← HC.out]; rfl
  · have H2 := hid (Held.frame HH.out h2)
    have HB2 := hid (build_any y n2 L2 15 w2 (HY.out.kept h2.mod (fun _ _ h => h)) hn2)
    have c0 := H2.out.swap.obj.cell (i := 0) rfl
    have c1 := H2.out.swap.obj.cell (i := 1) rfl
    have f0 := H2.out.swap.obj.frozen 0
    have f1 := H2.out.swap.obj.frozen 1
    have HC1 := hid hc
    clear h2 HB HH hc c0 c1 f0 f1
    go_wp2_with fail
    with_reducible refine HB2.out.mono ?_
    rintro e w3 (⟨hc, rfl, h3⟩ | ⟨hc, B2, rfl, h3⟩)
    · have H3 := hid (Held.frame H2.out.swap h3)
      obtain ⟨c, hce⟩ : ∃ c, c = checkOf L2 15 := ⟨_, rfl⟩
      have HC := hid hce
      rw [← hce] at hc ⊢
      have hcI : ¬ (c : Int) = 0 := by omega
      have hcB : ((c : Int) == 0) = false := by simp; omega
      have c0 := H3.out.obj.cell (i := 0) rfl
      have c1 := H3.out.obj.cell (i := 1) rfl
      have f0 := H3.out.obj.frozen 0
      have f1 := H3.out.obj.frozen 1
      clear hce h3 HB2 H2 hc
      go_wp2
      have h4 := (H3.out.setObj 0 (.pointer none)).setObj 1 (.pointer none)
      refine ret_cell_tmp rfl _ 2 Tryd.underlying50 rfl (by kernel_rfl) w.heap.size [.pointer none, .pointer none] 50 _ rfl rfl rfl h4.obj rfl ?_
      refine .inr (.inl ⟨HC1.out, ?_, ?_, h4.drop.drop⟩)
      · rw [← HC.out]; omega
      · rw [← HC.out]; rfl
    · have H3 := hid (Held.frame H2.out.swap h3).swap
      have c0 := H3.out.obj.cell (i := 0) rfl
      have c1 := H3.out.obj.cell (i := 1) rfl
      have f0 := H3.out.obj.frozen 0
      have f1 := H3.out.obj.frozen 1
      have HC2 := hid hc
      clear h3 HB2 H2 hc
      go_wp2
      have h4 := (H3.out.setObj 0 (.pointer (some ⟨B1, 0, none⟩))).setObj 1 (.pointer (some ⟨B2, 0, none⟩))
      refine ret_cell_tmp rfl _ 2 Tryd.underlying50 rfl (by kernel_rfl) w.heap.size [.pointer (some ⟨B1, 0, none⟩), .pointer (some ⟨B2, 0, none⟩)] 50 _ rfl rfl rfl h4.obj rfl ?_
      exact .inr (.inr ⟨HC1.out, HC2.out, B1, B2, rfl, h4.drop⟩)
end Go.Proofs.YtbkbkmgogbgofaaDoor
/-
  The landed decoder: what its cells say in each phase; what a call of its reading functions is to do ('ROut'); its reader's Get, Align, Left, Read.
-/
namespace Go.Proofs.YtbkbkmgogbgofaaDoor
set_option maxRecDepth 5000
open Go.RowKit
def tabsT (Ts : List (List Int × Nat)) : Thing := allT (Ts.map fun t => tabT t.1 t.2)
def decM (p : Place) (c : DC) (v : Value) (bs l o got : List Nat) (ls : List Int) (Ts : List (List Int × Nat)) (Rs : List Thing) : List Thing :=
  rdmT (decP p c) v bs l :: ownT 5 1 c.wv (keep o).length (u8s (keep o)) :: ownT 5 1 c.lv got.length (u8s got) :: ownT 3 1 c.hv ls.length (ints ls) :: tabsT Ts :: Rs
def ptrO (b : Nat) : Option Addr := some ⟨b, 0, none⟩
def PhC (c : DC) (ls : List Int) (Ts : List (List Int × Nat)) : Ph → Prop
  | .hd => c.st = 0
  | .sz b => c.st = 1 ∧ c.last = b
  | .sto b n => c.st = 2 ∧ c.last = b ∧ c.left = n
  | .cnt b => c.st = 3 ∧ c.last = b
  | .thd b A B C => c.st = 4 ∧ c.last = b ∧ c.hA = A ∧ c.hB = B ∧ c.hC = C ∧ ls = []
  | .len b A B head l => c.st = 5 ∧ c.last = b ∧ c.hA = A ∧ c.hB = B ∧ ls = l ∧ ∃ t, c.ht = ptrO t ∧ (head, t) ∈ Ts
  | .tok b lit dist => c.st = 6 ∧ c.last = b ∧ ∃ t1 t2, c.cl = ptrO t1 ∧ c.cd = ptrO t2 ∧ (lit, t1) ∈ Ts ∧ (dist, t2) ∈ Ts
  | .cop b lit dist n d => c.st = 7 ∧ c.last = b ∧ c.left = n ∧ c.dist = d ∧ ∃ t1 t2, c.cl = ptrO t1 ∧ c.cd = ptrO t2 ∧ (lit, t1) ∈ Ts ∧ (dist, t2) ∈ Ts
def FxC (c : DC) (Ts : List (List Int × Nat)) : Prop := (c.fl = none ∧ c.fd = none) ∨ ∃ t1 t2, c.fl = ptrO t1 ∧ c.fd = ptrO t2 ∧ (fixLit, t1) ∈ Ts ∧ (fixDist, t2) ∈ Ts
def bigD : Nat := 1000000000
structure DInv (M : Nat) (c : DC) (ls : List Int) (Ts : List (List Int × Nat)) (ph : Ph) (l o got : List Nat) : Prop where
  cell : PhC c ls Ts ph
  fx : FxC c Ts
  ok : MOk ph l o
  most : c.most + o.length = M
  big : M < bigD
  len : l.length < bigD
  got : got.length ≤ o.length
  room : 0 ≤ c.room
  top : c.room ≤ 9223372036854775807
inductive ROut (w0 w' : World) (p : Place) (v : Value) (bs : List Nat) (M : Nat) (ph : Ph) (c : DC) (l o got : List Nat) (ls : List Int) (Ts : List (List Int × Nat)) (Rs : List Thing) : Nat → Prop
  | go {c' : DC} {l' o' t : List Nat} {ls' : List Int} {Ts' : List (List Int × Nat)} {ph' p1 : Ph} {l1 o1 : List Nat} (H : Held w0 w' (decM p c' v bs l' o' (got ++ t) ls' Ts' Rs)) (hi : DInv M c' ls' Ts' ph' l' o' (got ++ t))
      (hs : stepM M l o ph = .go p1 l1 o1) (hr : Reach M p1 l1 o1 ph' l' o') (ho : o' = o ++ t) (hroom : c'.room + t.length = c.room) : ROut w0 w' p v bs M ph c l o got ls Ts Rs 0
  | over {c' : DC} {l' : List Nat} (H : Held w0 w' (decM p c' v bs l' o got ls Ts Rs)) (hs : stepM M l o ph = .done l') (hroom : c'.room = c.room ∧ c'.most = c.most) : ROut w0 w' p v bs M ph c l o got ls Ts Rs 8
  | bad {c' : DC} {l' : List Nat} {ls' : List Int} {Ts' : List (List Int × Nat)} {e : Nat} (H : Held w0 w' (decM p c' v bs l' o got ls' Ts' Rs)) (hs : stepM M l o ph = .err e) (h5 : e = 5 → c' = c ∧ ls' = ls ∧ Ts' = Ts) (hroom : c'.room = c.room ∧ c'.most = c.most) : ROut w0 w' p v bs M ph c l o got ls Ts Rs e
def RAns (w0 w' : World) (p : Place) (v : Value) (bs : List Nat) (M : Nat) (ph : Ph) (c : DC) (l o got : List Nat) (ls : List Int) (Ts : List (List Int × Nat)) (Rs : List Thing) (e : Ending) : Prop :=
  ∃ er : Nat, e = .returned (.int .i64 (er : Int)) ∧ ROut w0 w' p v bs M ph c l o got ls Ts Rs er
theorem DInv.next {M : Nat} {c c' : DC} {ls ls' : List Int} {Ts Ts' : List (List Int × Nat)} {ph ph' : Ph} {l l' o got : List Nat} (hi : DInv M c ls Ts ph l o got) (hs : stepM M l o ph = .go ph' l' o) (hc : PhC c' ls' Ts' ph') (hf : FxC c' Ts') (hm : c'.most = c.most) (hr : c'.room = c.room) : DInv M c' ls' Ts' ph' l' o got := by
  obtain ⟨h1, _, h3⟩ := hi.ok.step hs
  exact ⟨hc, hf, h1, by rw [hm]; exact hi.most, hi.big, Nat.lt_of_le_of_lt h3 hi.len, hi.got, by rw [hr]; exact hi.room, by rw [hr]; exact hi.top⟩
theorem ROut.on {w0 w' : World} {p : Place} {v : Value} {bs : List Nat} {M : Nat} {c c' : DC} {ls ls' : List Int} {Ts Ts' : List (List Int × Nat)} {ph ph' : Ph} {l l' o got : List Nat} {Rs : List Thing} (hi : DInv M c ls Ts ph l o got) (hs : stepM M l o ph = .go ph' l' o)
    (H : Held w0 w' (decM p c' v bs l' o got ls' Ts' Rs)) (hc : PhC c' ls' Ts' ph') (hf : FxC c' Ts') (hm : c'.most = c.most) (hr : c'.room = c.room) : ROut w0 w' p v bs M ph c l o got ls Ts Rs 0 :=
  .go (t := []) (by rw [List.append_nil]; exact H) (by rw [List.append_nil]; exact hi.next hs hc hf hm hr) hs .refl (by rw [List.append_nil]) (by rw [hr]; simp)
theorem dec_nils {w0 w : World} {Rs : List Thing} {R1 R2 R3 : Thing} {hv : Value} {n : Nat} {xs : List Value} (h : Held w0 w (R1 :: R2 :: R3 :: ownT 3 1 hv n xs :: Rs)) : Held w0 w (R1 :: R2 :: R3 :: ownT 3 1 (.slice none 0 0) ([] : List Int).length (ints []) :: Rs) :=
  (h.fourth.drop.nil 3 1).perm (List.perm_middle (l₁ := [_, _, _])).symm
theorem dec_tabs {w0 w : World} {Rs : List Thing} {R1 R2 R3 R4 R5 : Thing} (h : Held w0 w (R1 :: R2 :: R3 :: R4 :: R5 :: Rs)) : Held w0 w (R1 :: R5 :: R2 :: R3 :: R4 :: Rs) := h.perm (List.Perm.cons _ (List.perm_middle (l₁ := [_, _, _])))
theorem dec_tabs' {w0 w : World} {Rs : List Thing} {R1 R2 R3 R4 R5 : Thing} (h : Held w0 w (R1 :: R5 :: R2 :: R3 :: R4 :: Rs)) : Held w0 w (R1 :: R2 :: R3 :: R4 :: R5 :: Rs) := h.perm (List.Perm.cons _ (List.perm_middle (l₁ := [_, _, _])).symm)
theorem Held.at6 {w0 w : World} {Rs : List Thing} {R1 R2 R3 R4 R5 R6 : Thing} (h : Held w0 w (R1 :: R2 :: R3 :: R4 :: R5 :: R6 :: Rs)) : Held w0 w (R6 :: R1 :: R2 :: R3 :: R4 :: R5 :: Rs) := h.perm (List.perm_middle (l₁ := [_, _, _, _, _]))
theorem Held.to5 {w0 w : World} {Rs : List Thing} {R1 R2 R3 R4 R5 : Thing} (h : Held w0 w (R5 :: R1 :: R2 :: R3 :: R4 :: Rs)) : Held w0 w (R1 :: R2 :: R3 :: R4 :: R5 :: Rs) := h.perm (List.perm_middle (l₁ := [_, _, _, _])).symm
/-! ### A struct stored into the decoder -/
def setL (cs : List Value) (o : Nat) : List Value → List Value
  | [] => cs
  | u :: r => setL (cs.set o u) (o + 1) r
theorem setL_mid (A C : List Value) : ∀ (vs B : List Value) (i o : Nat), o = A.length + i → i + vs.length ≤ B.length → setL (A ++ (B ++ C)) o vs = A ++ (setL B i vs ++ C)
  | [], _, _, _, _, _ => rfl
  | u :: r, B, i, o, ho, h => by
    simp only [List.length_cons] at h
    rw [setL, setL, List.set_append_right _ _ (by omega), show o - A.length = i by omega, List.set_append_left _ _ (by omega)]
    exact setL_mid A C r _ (i + 1) (o + 1) (by omega) (by rw [List.length_set]; omega)
theorem Held.setObjs {w0 : World} {B : Nat} {T : TypeId} {Rs : List Thing} : ∀ (vs : List Value) (cs : List Value) (o : Nat) (w : World), Held w0 w (objT B cs T :: Rs) → Held w0 (w.setCells B o vs) (objT B (setL cs o vs) T :: Rs)
  | [], _, _, _, h => h
  | u :: r, _, o, _, h => Held.setObjs r _ (o + 1) _ (h.setObj o u)
section
variable {w0 w : World} {Rs : List Thing} {p : Place} {c : DC} {v : Value} {bs l : List Nat}
theorem dsets (h : Held w0 w (rdmT (decP p c) v bs l :: Rs)) (k : Nat) (vs : List Value) (c' : DC) (hc : c'.post = setL c.post (k - 3) vs) (hk : 3 ≤ k ∧ k + vs.length ≤ 21) : Held w0 (w.setCells p.b (p.o + k) vs) (rdmT (decP p c') v bs l :: Rs) := by
  obtain ⟨ao, n, cap, s, cc, h1⟩ := rdm_open h
  have h2 := Held.setObjs vs _ (p.o + k) w (show Held w0 w (objT p.b (p.pre ++ ([_, _, _] ++ (c.post ++ p.post))) p.T :: _) from h1)
  have h18 : c.post.length = 18 := rfl
  have e : p.pre ++ ([Value.slice ao n cap, .int .u64 (s : Int), .int .i64 (cc : Int)] ++ (c.post ++ p.post)) = (p.pre ++ [Value.slice ao n cap, .int .u64 (s : Int), .int .i64 (cc : Int)]) ++ (c.post ++ p.post) := by rw [List.append_assoc]
  rw [e, setL_mid _ _ vs c.post (k - 3) (p.o + k) (by rw [List.length_append, p.len]; simp only [List.length_cons, List.length_nil]; omega) (by omega), ← hc, List.append_assoc] at h2
  exact rdm_close (q := decP p c') h2
theorem dthere (h : Held w0 w (rdmT (decP p c) v bs l :: Rs)) (k n : Nat) (hk : 3 ≤ k ∧ k + n ≤ 21) : w.there p.b (p.o + k) n := by
  intro j hj
  have hl : k + j - 3 < c.post.length := by have h18 : c.post.length = 18 := rfl; omega
  have h1 := dcell h (k + j) (c.post[k + j - 3]) (List.getElem?_eq_getElem hl) (by omega)
  have h2 := dfroz h (k + j)
  rw [← Nat.add_assoc] at h1 h2
  exact ⟨by rw [h1]; rfl, h2⟩
theorem wpList_store_dec {P : Program} {ops : Array Oper} {rest : List Oper} {op : Oper} {a : Act} {Q : Exit → Act → World → Prop} (hgd : op.guard = none) (ty : TypeId) (x y : Operand) (ho : op.op = .store ty x y)
    (h : Held w0 w (rdmT (decP p c) v bs l :: Rs)) (k : Nat) (cells : List Value) (hx : a.eval x = .pointer (some ⟨p.b, p.o + k, none⟩)) (hy : a.eval y = .agg cells.toArray)
    (hi : (P.info? ty).map (·.size) = some cells.length) (h1 : cells.all (·.oneCell') = true) (c' : DC) (hc : c'.post = setL c.post (k - 3) cells) (hk : 3 ≤ k ∧ k + cells.length ≤ 21)
    (hK : ∀ w', Held w0 w' (rdmT (decP p c') v bs l :: Rs) → wpList P ops Q rest (a.put op.dst undef) w') : wpList P ops Q (op :: rest) a w :=
  wpList_store_mid hgd ty x y ho p.b (p.o + k) cells.toArray hx hy (dthere h k _ (by simpa using hk)) (by rw [hi]; simp) (by simpa using h1) (hK _ (dsets h k cells c' hc hk))
end
/-! ### The reader's methods, inside a decoder -/
section
variable {w0 w : World} {Rs : List Thing} {p : Place} {c : DC} {v : Value} {bs l : List Nat}
theorem dget_no (h : Held w0 w (rdmT (decP p c) v bs l :: Rs)) (n : Nat) (ni : Int) (hni : ni = (n : Int)) (hn : n ≤ 32) (hl : l.length < n) :
    Calls Tryd.prog 47 #[.pointer (some ⟨p.b, p.o, none⟩), .int .i64 ni] w fun e w' => e = .returned (.tuple #[.int .u32 0, .bool false]) ∧ Held w0 w' (rdmT (decP p c) v bs l :: Rs) := by
  subst hni
  exact l_get_few (P := decP p c) (rdmLens _ v bs) h n hn hl
theorem dget_yes (h : Held w0 w (rdmT (decP p c) v bs l :: Rs)) (n : Nat) (ni : Int) (hni : ni = (n : Int)) (hn : n ≤ 32) (hl : n ≤ l.length) (hb : l.length < bigD) :
    Calls Tryd.prog 47 #[.pointer (some ⟨p.b, p.o, none⟩), .int .i64 ni] w fun e w' => e = .returned (.tuple #[.int .u32 ((numOf (l.take n) : Nat) : Int), .bool true]) ∧ Held w0 w' (rdmT (decP p c) v bs (l.drop n) :: Rs) := by
  subst hni
  exact l_get (P := decP p c) (rdmLens _ v bs) h n hn hl (by unfold bigD at hb; omega)
theorem dalign (h : Held w0 w (rdmT (decP p c) v bs l :: Rs)) :
    Calls Tryd.prog 34 #[.pointer (some ⟨p.b, p.o, none⟩)] w fun e w' => e = .returned (.tuple #[]) ∧ Held w0 w' (rdmT (decP p c) v bs (l.drop (l.length % 8)) :: Rs) :=
  l_ralign (P := decP p c) (rdmLens _ v bs) h
theorem dleft (h : Held w0 w (rdmT (decP p c) v bs l :: Rs)) (hb : l.length < bigD) :
    Calls Tryd.prog 35 #[.pointer (some ⟨p.b, p.o, none⟩)] w fun e w' => e = .returned (.int .i64 (l.length : Int)) ∧ Held w0 w' (rdmT (decP p c) v bs l :: Rs) :=
  l_left (P := decP p c) (rdmLens _ v bs) h (by unfold bigD at hb; omega)
theorem dread (h : Held w0 w (rdmT (decP p c) v bs l :: Rs)) (n : Int) (hb : l.length < bigD) :
    Calls Tryd.prog 31 #[.pointer (some ⟨p.b, p.o, none⟩), .int .i64 n] w fun e w' => ∃ x, e = .returned x ∧
      Held w0 w' (ownT 5 1 x (readN l n) (u8s ((bytesOf (l.drop (l.length % 8))).take (readN l n))) :: rdmT (decP p c) v bs ((l.drop (l.length % 8)).drop (8 * readN l n)) :: Rs) :=
  l_read (P := decP p c) (rdmLens _ v bs) h n (by unfold bigD at hb; omega)
theorem dnext (T : List Int) (B : Nat) (h : Held w0 w (rdmT (decP p c) v bs l :: tabT T B :: Rs)) (hF : Fine T) (hb : isBits l) (hlen : l.length < bigD) :
    Calls Tryd.prog 55 #[.pointer (some ⟨B, 0, none⟩), .pointer (some ⟨p.b, p.o, none⟩)] w fun e w' =>
      ∃ k q er : Nat, e = .returned (.tuple #[.int .i64 (k : Int), .int .i64 (er : Int)]) ∧ Held w0 w' (rdmT (decP p c) v bs (l.drop q) :: tabT T B :: Rs) ∧ Hid (ReadIs T l k q er) :=
  next_lens (P := decP p c) (rdmLens _ v bs) T B l h hF hb (by unfold bigD at hlen; omega)
end
/-! ### Tables -/
section
variable {w0 w : World} {Rs : List Thing} {Ts : List (List Int × Nat)}
theorem tab_out {T : List Int} {B : Nat} (hm : (T, B) ∈ Ts) (h : Held w0 w (tabsT Ts :: Rs)) : Held w0 w (tabT T B :: allT ((Ts.erase (T, B)).map fun t => tabT t.1 t.2) :: Rs) := by
  have hp : (Ts.map fun t : List Int × Nat => tabT t.1 t.2).Perm (tabT T B :: (Ts.erase (T, B)).map fun t => tabT t.1 t.2) := (List.perm_cons_erase hm).map _
  exact Held.unpair (allT_perm h hp)
theorem tab_in {T : List Int} {B : Nat} (hm : (T, B) ∈ Ts) (h : Held w0 w (tabT T B :: allT ((Ts.erase (T, B)).map fun t => tabT t.1 t.2) :: Rs)) : Held w0 w (tabsT Ts :: Rs) := by
  have hp : (Ts.map fun t : List Int × Nat => tabT t.1 t.2).Perm (tabT T B :: (Ts.erase (T, B)).map fun t => tabT t.1 t.2) := (List.perm_cons_erase hm).map _
  exact allT_perm (L := tabT T B :: (Ts.erase (T, B)).map fun t => tabT t.1 t.2) (Held.pair h) hp.symm
theorem tab_more {T : List Int} {B : Nat} (h : Held w0 w (tabT T B :: tabsT Ts :: Rs)) : Held w0 w (tabsT ((T, B) :: Ts) :: Rs) := Held.pair h
theorem tab_new {R1 R2 R3 R4 : Thing} {T : List Int} {B : Nat} (h : Held w0 w (R1 :: tabT T B :: R2 :: R3 :: R4 :: tabsT Ts :: Rs)) : Held w0 w (R1 :: R2 :: R3 :: R4 :: tabsT ((T, B) :: Ts) :: Rs) :=
  (tab_more h.at6.third).to5
theorem tab_new2 {R1 R2 R3 R4 : Thing} {T T2 : List Int} {B B2 : Nat} (h : Held w0 w (R1 :: tabT T B :: tabT T2 B2 :: R2 :: R3 :: R4 :: tabsT Ts :: Rs)) : Held w0 w (R1 :: R2 :: R3 :: R4 :: tabsT ((T2, B2) :: (T, B) :: Ts) :: Rs) := by
  have h1 : Held w0 w (tabsT Ts :: R1 :: tabT T B :: tabT T2 B2 :: R2 :: R3 :: R4 :: Rs) := h.perm (List.perm_middle (l₁ := [_, _, _, _, _, _]))
  exact (tab_more (tab_more h1.third).third).to5
end
end Go.Proofs.YtbkbkmgogbgofaaDoor
/-
  The landed decoder's readSize, readCounts.
-/
namespace Go.Proofs.YtbkbkmgogbgofaaDoor
set_option maxRecDepth 5000
open Go.RowKit
theorem num_split {l : List Nat} (hb : isBits l) (n m : Nat) (h : n + m ≤ l.length) : numOf (l.take (n + m)) % 2 ^ n = numOf (l.take n) ∧ numOf (l.take (n + m)) / 2 ^ n = numOf ((l.drop n).take m) := by
  have e : l.take (n + m) = l.take n ++ (l.drop n).take m := List.take_add
  have hl : (l.take n).length = n := by rw [List.length_take]; omega
  have h1 := num_lt hb n
  rw [e, numOf_append, hl]
  refine ⟨?_, ?_⟩
  · rw [Nat.add_mul_mod_self_left, Nat.mod_eq_of_lt h1]
  · rw [Nat.add_mul_div_left _ _ (Nat.two_pow_pos n), Nat.div_eq_of_lt h1, Nat.zero_add]
theorem u16_not (m : Nat) (h : m < 65536) : bits .xor .u16 IntKind.u16.max (m : Int) = ((65535 - m : Nat) : Int) := by
  have h1 := u16_xor_nat 65535 m (by decide) h
  have e : IntKind.u16.max = ((65535 : Nat) : Int) := by decide
  rw [e, h1]
  congr 1
  refine Nat.eq_of_testBit_eq fun i => ?_
  rw [show 65535 - m = 2 ^ 16 - (m + 1) by omega, Nat.testBit_two_pow_sub_succ (by omega : m < 2 ^ 16), Nat.testBit_xor, show 65535 = 2 ^ 16 - 1 by rfl, Nat.testBit_two_pow_sub_one]
  by_cases hi : i < 16
  · simp [hi]
  · have : m.testBit i = false := Nat.testBit_lt_two_pow (Nat.lt_of_lt_of_le (by omega : m < 2 ^ 16) (Nat.pow_le_pow_right (by decide) (by omega)))
    simp [hi, this]
section
variable {w0 w : World} {Rs : List Thing} {p : Place} {c : DC} {v : Value} {bs l o got : List Nat} {ls : List Int} {Ts : List (List Int × Nat)} {M : Nat}
set_option maxHeartbeats 1600000 in
theorem size_any' (b : Bool) (h : Held w0 w (decM p c v bs l o got ls Ts Rs)) (hi : DInv M c ls Ts (.sz b) l o got) :
    Calls Tryd.prog 39 #[.pointer (some ⟨p.b, p.o, none⟩)] w fun e w' => RAns w0 w' p v bs M (.sz b) c l o got ls Ts Rs e := by
  have hcell := hi.cell
  have hfx := hi.fx
  have HI := hid hi
  obtain ⟨wv, most, room, lv, st, last, left, dist, hA, hB, hC, ht, hv, cl, cd, fl, fd, en⟩ := c
  obtain ⟨rfl, rfl⟩ : st = 1 ∧ last = b := hcell
  unfold decM at h
  have HA := hid (dalign h)
  obtain ⟨l1, hl1⟩ : ∃ l1, l1 = l.drop (l.length % 8) := ⟨_, rfl⟩
  rw [← hl1] at HA
  have hb1 : isBits l1 := by rw [hl1]; exact isBits_drop hi.ok.bits _
  have hlen1 : l1.length < bigD := by rw [hl1, List.length_drop]; have := hi.len; omega
  have hst : stepM M l o (.sz last) = szR last l1 o := by
    show szM last l o = _
    unfold szM
    rw [← hl1]
  unfold szR at hst
  have HFX := hid hfx
  by_cases h32 : l1.length < 32
  · rw [if_pos h32] at hst
    have HS := hid hst
    clear h hi hl1 hst hfx
    go_enter Tryd.func39, Tryd.ntmps39
    go_wp2_with fail
    with_reducible refine HA.out.mono ?_
    rintro e w1 ⟨rfl, h1⟩
    have HG := hid (dget_no h1 32 32 rfl (by decide) h32)
    clear h1 HA
    go_wp2_with fail
    with_reducible refine HG.out.mono ?_
    rintro e w2 ⟨rfl, h2⟩
    have H2 := hid h2
    clear h2 HG
    go_wp2
    go_ret
    exact ⟨5, rfl, .bad H2.out HS.out (fun _ => ⟨rfl, rfl, rfl⟩) ⟨rfl, rfl⟩⟩
  · rw [if_neg h32] at hst
    obtain ⟨s1, s2⟩ := num_split hb1 16 16 (by omega)
    have hn16 := num_lt hb1 16
    have hm16 := num16_lt hb1 16 16
    generalize numOf (l1.take 16) = n at hst s1 hn16
    generalize numOf ((l1.drop 16).take 16) = m at hst s2 hm16
    have HS := hid hst
    obtain ⟨x, hx⟩ : ∃ x, x = numOf (l1.take (16 + 16)) := ⟨_, rfl⟩
    have hx32 : x < 4294967296 := by rw [hx]; exact num_lt hb1 32
    rw [← hx] at s1 s2
    have hu1 : IntKind.u16.wrap (x : Int) = (n : Int) := by
      rw [← s1]; simp [IntKind.wrap, IntKind.signed, IntKind.bits]
    have hd : (x : Int) / 65536 = (m : Int) := by rw [← s2]; omega
    have hu2 : IntKind.u16.wrap (m : Int) = (m : Int) := by
      simp [IntKind.wrap, IntKind.signed, IntKind.bits]; omega
    have HG := fun (wz : World) (Rz : List Thing) (hz : Held w0 wz (rdmT (decP p ⟨wv, most, room, lv, 1, last, left, dist, hA, hB, hC, ht, hv, cl, cd, fl, fd, en⟩) v bs l1 :: Rz)) => dget_yes hz 32 32 rfl (by decide) (by omega) hlen1
    rw [show (32 : Nat) = 16 + 16 from rfl, ← hx] at HG
    have HG := hid HG
    have hno := u16_not m hm16
    obtain ⟨y, hy⟩ : ∃ y, y = 65535 - m := ⟨_, rfl⟩
    rw [← hy] at hno
    have hmn : n + m ≠ 65535 ∧ ¬ n = y ∧ ((n : Int) != (y : Int)) = true ∨ n + m = 65535 ∧ y = n ∧ ((n : Int) != (n : Int)) = false := by
      by_cases he : n + m = 65535
      · exact .inr ⟨he, by omega, by simp⟩
      · refine .inl ⟨he, by omega, ?_⟩
        simp; omega
    have hno2 : bits .xor .u16 (if IntKind.u16.signed = true then -1 else IntKind.u16.max) (m : Int) = (y : Int) := by rw [if_neg (by decide)]; exact hno
    clear h hi hl1 hst hfx hx s1 s2 hy
    rcases hmn with ⟨hne, hI, hbq⟩ | ⟨hne, rfl, hbq⟩
    all_goals
      go_enter Tryd.func39, Tryd.ntmps39
      go_wp2_with fail
      with_reducible refine HA.out.mono ?_
      rintro e w1 ⟨rfl, h1⟩
      have HG2 := hid (HG.out _ _ h1)
      clear h1 HA HG
      go_wp2_with fail
      with_reducible refine HG2.out.mono ?_
      rintro e w2 ⟨rfl, h2⟩
      have H2 := hid h2
      have c9 : w2.cell? ⟨p.b, p.o + 8 + 1, none⟩ = some (.int .i64 (left : Int)) := dcell h2 9 _ rfl
      have f9 : w2.frozen? ⟨p.b, p.o + 8 + 1, none⟩ = false := dfroz h2 9
      have c7 : w2.cell? ⟨p.b, p.o + 7, none⟩ = some (.int .i64 1) := dcell h2 7 _ rfl
      have f7 : w2.frozen? ⟨p.b, p.o + 7, none⟩ = false := dfroz h2 7
      clear h2 HG2
      go_wp2
    · go_ret
      have HS2 := HS.out
      rw [if_pos hne] at HS2
      exact ⟨2, rfl, .bad H2.out HS2 (fun h => by cases h) ⟨rfl, rfl⟩⟩
    · go_ret
      have HS2 := HS.out
      rw [if_neg (not_not_intro hne)] at HS2
      have h3 := dset (dset H2.out 9 (.int .i64 (y : Int)) ⟨wv, most, room, lv, 1, last, y, dist, hA, hB, hC, ht, hv, cl, cd, fl, fd, en⟩ rfl) 7 (.int .i64 2) ⟨wv, most, room, lv, 2, last, y, dist, hA, hB, hC, ht, hv, cl, cd, fl, fd, en⟩ rfl
      exact ⟨0, rfl, .on HI.out HS2 h3 ⟨rfl, rfl, rfl⟩ HFX.out rfl rfl⟩
set_option maxHeartbeats 1600000 in
theorem counts_any (b : Bool) (h : Held w0 w (decM p c v bs l o got ls Ts Rs)) (hi : DInv M c ls Ts (.cnt b) l o got) :
    Calls Tryd.prog 41 #[.pointer (some ⟨p.b, p.o, none⟩)] w fun e w' => RAns w0 w' p v bs M (.cnt b) c l o got ls Ts Rs e := by
  have hcell := hi.cell
  have hfx := hi.fx
  have HI := hid hi
  obtain ⟨wv, most, room, lv, st, last, left, dist, hA, hB, hC, ht, hv, cl, cd, fl, fd, en⟩ := c
  obtain ⟨rfl, rfl⟩ : st = 3 ∧ last = b := hcell
  unfold decM at h
  have hb := hi.ok.bits
  have hst : stepM M l o (.cnt last) = cntM last l o := rfl
  unfold cntM at hst
  by_cases h14 : l.length < 14
  · rw [if_pos h14] at hst
    have HG := hid (dget_no h 14 14 rfl (by decide) h14)
    have HS := hid hst
    clear h hi hst hfx
    go_enter Tryd.func41, Tryd.ntmps41
    go_wp2_with fail
    with_reducible refine HG.out.mono ?_
    rintro e w2 ⟨rfl, h2⟩
    have H2 := hid h2
    clear h2 HG
    go_wp2
    go_ret
    exact ⟨5, rfl, .bad H2.out HS.out (fun _ => ⟨rfl, rfl, rfl⟩) ⟨rfl, rfl⟩⟩
  · rw [if_neg h14] at hst
    have HG := dget_yes h 14 14 rfl (by decide) (by omega) hi.len
    obtain ⟨s1, s2⟩ := num_split hb 5 9 (by omega)
    obtain ⟨s3, s4⟩ := num_split (isBits_drop hb 5) 5 4 (by rw [List.length_drop]; omega)
    rw [List.drop_drop, show 5 + 5 = 10 from rfl] at s4
    have hn1 := num_lt hb 5
    have hn2 := num16_lt hb 5 5
    have hn3 := num16_lt hb 10 4
    obtain ⟨x, hx⟩ : ∃ x, x = numOf (l.take (5 + 9)) := ⟨_, rfl⟩
    have hx14 : x < 16384 := by rw [hx]; exact num_lt hb 14
    rw [show (14 : Nat) = 5 + 9 from rfl, ← hx] at HG
    rw [← hx] at s1 s2
    rw [show (9 : Nat) = 5 + 4 from rfl] at s2
    rw [← s2] at s3 s4
    generalize numOf (l.take 5) = a at hst s1 hn1
    generalize numOf ((l.drop 5).take 5) = d at hst s3 hn2
    generalize numOf ((l.drop 10).take 4) = f at hst hn3 s4
    have hand1 : bits .and .u32 (x : Int) 31 = (a : Int) := by
      have h1 := bits_and32 x 31 (by omega) (by decide)
      rw [show (31 : Nat) = 2 ^ 5 - 1 from rfl, Nat.and_two_pow_sub_one_eq_mod, s1] at h1
      exact h1
    obtain ⟨y, hy⟩ : ∃ y, y = x / 2 ^ 5 := ⟨_, rfl⟩
    rw [← hy] at s3 s4
    have hdv : (x : Int) / 32 = (y : Int) := by omega
    have hdv2 : (x : Int) / 1024 = (f : Int) := by omega
    have hand2 : bits .and .u32 (y : Int) 31 = (d : Int) := by
      have h1 := bits_and32 y 31 (by omega) (by decide)
      rw [show (31 : Nat) = 2 ^ 5 - 1 from rfl, Nat.and_two_pow_sub_one_eq_mod, s3] at h1
      exact h1
    obtain ⟨An, hAn⟩ : ∃ A, A = a + 257 := ⟨_, rfl⟩
    obtain ⟨Bn, hBn⟩ : ∃ B, B = d + 1 := ⟨_, rfl⟩
    obtain ⟨Cn, hCn⟩ : ∃ C, C = f + 4 := ⟨_, rfl⟩
    rw [← hAn, ← hBn, ← hCn] at hst
    have i1 : (257 : Int) + (a : Int) = (An : Int) := by omega
    have i2 : (1 : Int) + (d : Int) = (Bn : Int) := by omega
    have i3 : (4 : Int) + (f : Int) = (Cn : Int) := by omega
    have hcase : (286 < An ∧ decide ((286 : Int) < (An : Int)) = true) ∨ (¬ 286 < An ∧ decide ((286 : Int) < (An : Int)) = false ∧ 30 < Bn ∧ decide ((30 : Int) < (Bn : Int)) = true) ∨ (¬ 286 < An ∧ decide ((286 : Int) < (An : Int)) = false ∧ ¬ 30 < Bn ∧ decide ((30 : Int) < (Bn : Int)) = false) := by
      by_cases h1 : 286 < An
      · exact .inl ⟨h1, decide_eq_true (by omega)⟩
      · by_cases h2 : 30 < Bn
        · exact .inr (.inl ⟨h1, decide_eq_false (by omega), h2, decide_eq_true (by omega)⟩)
        · exact .inr (.inr ⟨h1, decide_eq_false (by omega), h2, decide_eq_false (by omega)⟩)
    have HS := hid hst
    have HG := hid HG
    have HFX := hid hfx
    have hAb : An < 1000 := by omega
    have hBb : Bn < 1000 := by omega
    have hCb : Cn < 1000 := by omega
    have hab : a < 32 := hn1
    have hdb : d < 32 := hn2
    have hfb : f < 16 := hn3
    have hyb : y < 512 := by omega
    clear h hi hst hfx hx s1 s2 s3 s4 hy hAn hBn hCn hn1 hn2 hn3 hb
    rcases hcase with ⟨hn, hq⟩ | ⟨hn, hq, hn2, hq2⟩ | ⟨hn, hq, hn2, hq2⟩
    all_goals
      go_enter Tryd.func41, Tryd.ntmps41
      go_wp2_with fail
      with_reducible refine HG.out.mono ?_
      rintro e w2 ⟨rfl, h2⟩
      have H2 := hid h2
      clear h2 HG
    · go_wp2
      go_ret
      have HS2 := HS.out
      rw [if_pos (.inl hn)] at HS2
      exact ⟨2, rfl, .bad H2.out HS2 (fun h => by cases h) ⟨rfl, rfl⟩⟩
    · go_wp2
      go_ret
      have HS2 := HS.out
      rw [if_pos (.inr hn2)] at HS2
      exact ⟨2, rfl, .bad H2.out HS2 (fun h => by cases h) ⟨rfl, rfl⟩⟩
    · go_wp2_with ((with_reducible show wpList _ _ _ (⟨none, .store 48 _ _, _, _, _, _⟩ :: _) _ _); go_must (refine wpList_store_dec rfl 48 (.tmp 43) (.tmp 40) rfl H2.out 11 [.int .i64 (An : Int), .int .i64 (Bn : Int), .int .i64 (Cn : Int), .pointer none, .slice none 0 0] rfl rfl (by kernel_rfl) rfl ⟨wv, most, room, lv, 3, last, left, dist, An, Bn, Cn, none, .slice none 0 0, cl, cd, fl, fd, en⟩ rfl ⟨by decide, Nat.le_of_ble_eq_true rfl⟩ ?_); intro w3 h3; have H3 := hid h3; have c7 : w3.cell? ⟨p.b, p.o + 7, none⟩ = some (.int .i64 3) := dcell h3 7 _ rfl; have f7 : w3.frozen? ⟨p.b, p.o + 7, none⟩ = false := dfroz h3 7; clear h3)
      go_ret
      have HS2 := HS.out
      rw [if_neg (not_or.2 ⟨hn, hn2⟩)] at HS2
      have h4 := dset (dec_nils H3.out) 7 (.int .i64 4) ⟨wv, most, room, lv, 4, last, left, dist, An, Bn, Cn, none, .slice none 0 0, cl, cd, fl, fd, en⟩ rfl
      exact ⟨0, rfl, .on HI.out HS2 h4 ⟨rfl, rfl, rfl, rfl, rfl, rfl⟩ HFX.out rfl rfl⟩
end
end Go.Proofs.YtbkbkmgogbgofaaDoor
