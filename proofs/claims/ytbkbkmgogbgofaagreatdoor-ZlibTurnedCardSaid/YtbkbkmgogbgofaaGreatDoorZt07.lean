/- The claim's texts, put together and shortened by a program (names, spaces). -/
import Derived.Test.YtbkbkmgogbgofaaGreatDoorZt06
import Derived.Test.YtbkbkmgogbgofaaGreatDoorZt05
open List renaming length_drop→T00,drop_drop→T01,length_append→T02,drop_zero→T04,mem_singleton→T05,take_append_of_le_length→T06,append_assoc→T07,length_cons→T08
open Nat renaming zero_add→T03
namespace Go.Proofs.YtbkbkmgogbgofaaGreatDoor
set_option maxRecDepth 100000
set_option maxHeartbeats 6400000
open Go.RowKit
def Z05 (l:List Nat) (n:Nat):Option Nat:=if n≤l.length then some (E3 (l.take n)) else none
theorem M8 {l:List Nat} {n v:Nat} (h:Z05 l n=some v):n≤l.length∧v=E3 (l.take n):=by
 unfold Z05 at h
 split at h
 ·exact ⟨by assumption,(Option.some.inj h).symm⟩
 cases h
theorem Z2r {l:List Nat} {n:Nat} (h:Z05 l n=none):l.length < n:=by
 unfold Z05 at h
 split at h
 ·cases h
 omega
theorem Y00 {l:List Nat} {n v:Nat} (h:Z05 l n=some v) (X:List Nat):Z05 (l++X) n=some v:=by
 obtain ⟨a,b⟩:=M8 h
 unfold Z05
 rw [if_pos (by rw [T02];omega),T06 a,b]
theorem Z4t {all:List Nat} {a:Nat} (ha:a≤all.length) (n:Nat):I7 all a n=Z05 (all.drop a) n:=by
 unfold I7 Z05
 rw [T00]
 by_cases h:a+n≤all.length
 ·rw [if_pos h,if_pos (by omega)]
 rw [if_neg h,if_neg (by omega)]
inductive Ph where
 | hd
 | sz (b:Bool)
 | sto (b:Bool) (n:Nat)
 | cnt (b:Bool)
 | thd (b:Bool) (A B C:Nat)
 | len (b:Bool) (A B:Nat) (head ls:List Int)
 | tok (b:Bool) (lit dist:List Int)
 | cop (b:Bool) (lit dist:List Int) (n d:Nat)
inductive Z20 where
 | go (p:Ph) (l out:List Nat)
 | done (l:List Nat)
 | err (e:Nat)
def Z8z (b:Bool) (l out:List Nat):Z20:=if b=true then .done l else .go .hd l out
def Z4c (v:Nat):Bool:=decide (v%2=1)
def hdM (l out:List Nat):Z20:=
 match Z05 l 3 with
 | none=> .err 5
 | some v=>if v / 2=0 then .go (.sz (Z4c v)) (l.drop 3) out else if v / 2=1 then .go (.tok (Z4c v) I0 G7) (l.drop 3) out else if v / 2=2 then .go (.cnt (Z4c v)) (l.drop 3) out else .err 2
def szR (b:Bool) (l out:List Nat):Z20:=
 if l.length < 32 then .err 5 else if E3 (l.take 16)+E3 ((l.drop 16).take 16)≠65535 then .err 2 else .go (.sto b (E3 (l.take 16))) (l.drop 32) out
def szM (b:Bool) (l out:List Nat):Z20:=szR b (l.drop (l.length%8)) out
def Z4f (M:Nat) (b:Bool) (n:Nat) (l out:List Nat):Z20:=
 if n=0 then Z8z b l out else if l.length < 8 then .err 5 else if M≤out.length then .err 6 else .go (.sto b (n-1)) (l.drop 8) (out++[E3 (l.take 8)])
def Z71 (b:Bool) (l out:List Nat):Z20:=
 if l.length < 14 then .err 5
 else if 286 < E3 (l.take 5)+257∨30 < E3 ((l.drop 5).take 5)+1 then .err 2
 else .go (.thd b (E3 (l.take 5)+257) (E3 ((l.drop 5).take 5)+1) (E3 ((l.drop 10).take 4)+4)) (l.drop 14) out
def Z7q (b:Bool) (A B C:Nat) (l out:List Nat):Z20:=
 if l.length < 3*C then .err 5 else if D1 (F5 l 0 C) 7≠0∨Z1i l 0 C=false then .err 3 else .go (.len b A B (F5 l 0 C) []) (l.drop (3*C)) out
def X4p (b:Bool) (A B:Nat) (head:List Int) (l out:List Nat) (q:Bool×Nat×Nat×List Int):Z20:=if q.1=true then .err q.2.1 else .go (.len b A B head q.2.2.2) (l.drop q.2.2.1) out
noncomputable def Z5c (b:Bool) (A B:Nat) (head ls:List Int) (l out:List Nat):Z20:=
 if A+B≤ls.length then (if D1 (ls.take A) 15≠0∨D1 (ls.drop A) 15≠0∨ls[256]?.getD 0=0 then .err 3 else .go (.tok b (ls.take A) (ls.drop A)) l out)
 else X4p b A B head l out (E6 head l (A+B) 0 ls)
def Y4t (b:Bool) (lit dist:List Int) (n q:Nat) (l out:List Nat):Z20:=
 if 29 < q then .err 3 else match Z05 l (dX q) with
  | none=> .err 5
  | some far=>if out.length < dB q+far then .err 3 else .go (.cop b lit dist n (dB q+far)) (l.drop (dX q)) out
def X1w (b:Bool) (lit dist:List Int) (n:Nat) (l out:List Nat) (s:Nat×Nat×Nat):Z20:=if s.2.2≠0 then .err s.2.2 else Y4t b lit dist n s.1 (l.drop s.2.1) out
noncomputable def Y2o (b:Bool) (lit dist:List Int) (c:Nat) (l out:List Nat):Z20:=
 match Z05 l (lX c) with
 | none=> .err 5
 | some more=>X1w b lit dist (lB c+more) (l.drop (lX c)) out (I6 dist (l.drop (lX c)))
noncomputable def Z64 (M:Nat) (b:Bool) (lit dist:List Int) (l out:List Nat) (s:Nat×Nat×Nat):Z20:=
 if s.2.2≠0 then .err s.2.2 else if s.1=256 then Z8z b (l.drop s.2.1) out
 else if s.1 < 256 then (if M≤out.length then .err 6 else .go (.tok b lit dist) (l.drop s.2.1) (out++[s.1]))
 else if 285 < s.1 then .err 3 else Y2o b lit dist (s.1-257) (l.drop s.2.1) out
def Z4r (M:Nat) (b:Bool) (lit dist:List Int) (n d:Nat) (l out:List Nat):Z20:=
 if n=0 then .go (.tok b lit dist) l out else if M≤out.length then .err 6 else .go (.cop b lit dist (n-1) d) l (ext out d 1)
noncomputable def F8 (M:Nat) (l out:List Nat):Ph→Z20
 | .hd=>hdM l out
 | .sz b=>szM b l out
 | .sto b n=>Z4f M b n l out
 | .cnt b=>Z71 b l out
 | .thd b A B C=>Z7q b A B C l out
 | .len b A B head ls=>Z5c b A B head ls l out
 | .tok b lit dist=>Z64 M b lit dist l out (I6 lit l)
 | .cop b lit dist n d=>Z4r M b lit dist n d l out
inductive S4 (M:Nat):Ph→List Nat→List Nat→Ph→List Nat→List Nat→Prop
 | refl {p:Ph} {l o:List Nat}:S4 M p l o p l o
 | step {p p1 p2:Ph} {l l1 l2 o o1 o2:List Nat} (h:F8 M l o p= .go p1 l1 o1) (r:S4 M p1 l1 o1 p2 l2 o2):S4 M p l o p2 l2 o2
theorem S4.one {M:Nat} {p p1:Ph} {l l1 o o1:List Nat} (h:F8 M l o p= .go p1 l1 o1):S4 M p l o p1 l1 o1:= .step h .refl
theorem S4.trans {M:Nat} {p p1 p2:Ph} {l l1 l2 o o1 o2:List Nat} (h:S4 M p l o p1 l1 o1) (h2:S4 M p1 l1 o1 p2 l2 o2):S4 M p l o p2 l2 o2:=by
 induction h with
 | refl=>exact h2
 | step h _ ih=>exact .step h (ih h2)
inductive Z01 (M:Nat):Ph→List Nat→List Nat→Nat→List Nat→List Nat→Prop
 | done {p:Ph} {l l' o:List Nat} (h:F8 M l o p= .done l'):Z01 M p l o 8 l' o
 | err {p:Ph} {l o:List Nat} {e:Nat} (h:F8 M l o p= .err e):Z01 M p l o e [] o
 | go {p p1:Ph} {l l1 l' o o1 o':List Nat} {e:Nat} (h:F8 M l o p= .go p1 l1 o1) (r:Z01 M p1 l1 o1 e l' o'):Z01 M p l o e l' o'
theorem S4.ends {M:Nat} {p p1:Ph} {l l1 l' o o1 o':List Nat} {e:Nat} (h:S4 M p l o p1 l1 o1) (h2:Z01 M p1 l1 o1 e l' o'):Z01 M p l o e l' o':=by
 induction h with
 | refl=>exact h2
 | step h _ ih=>exact .go h (ih h2)
theorem Z01.det {M:Nat} {p:Ph} {l l1 l2 o o1 o2:List Nat} {e1 e2:Nat} (h:Z01 M p l o e1 l1 o1) (h2:Z01 M p l o e2 l2 o2):e1=e2∧l1=l2∧o1=o2:=by
 induction h with
 | done h=>
  cases h2 with
  | done h2=>rw [h] at h2;cases h2;exact ⟨rfl,rfl,rfl⟩
  | err h2=>rw [h] at h2;cases h2
  | go h2 _=>rw [h] at h2;cases h2
 | err h=>
  cases h2 with
  | done h2=>rw [h] at h2;cases h2
  | err h2=>rw [h] at h2;cases h2;exact ⟨rfl,rfl,rfl⟩
  | go h2 _=>rw [h] at h2;cases h2
 | go h _ ih=>
  cases h2 with
  | done h2=>rw [h] at h2;cases h2
  | err h2=>rw [h] at h2;cases h2
  | go h2 r2=>rw [h] at h2;cases h2;exact ih r2
theorem Z01.behind {M:Nat} {p p1:Ph} {l l1 l' o o1 o':List Nat} {e:Nat} (h:S4 M p l o p1 l1 o1) (h2:Z01 M p l o e l' o'):Z01 M p1 l1 o1 e l' o':=by
 induction h with
 | refl=>exact h2
 | step h _ ih=>
  cases h2 with
  | done h2=>rw [h] at h2;cases h2
  | err h2=>rw [h] at h2;cases h2
  | go h2 r2=>rw [h] at h2;cases h2;exact ih r2
def X6e (l out:List Nat):Ph→Prop
 | .hd=>True
 | .sz _=>True
 | .sto _ n=>l.length%8=0∧n≤65535
 | .cnt _=>True
 | .thd _ A B C=>257≤A∧A≤286∧1≤B∧B≤30∧4≤C∧C≤19
 | .len _ A B head ls=>257≤A∧A≤286∧1≤B∧B≤30∧D1 head 7=0∧head.length=19∧ls.length≤A+B∧∀y∈ls,0≤y∧y≤15
 | .tok _ lit dist=>D1 lit 15=0∧D1 dist 15=0∧lit.length≤288∧dist.length≤32
 | .cop _ lit dist n d=>(D1 lit 15=0∧D1 dist 15=0∧lit.length≤288∧dist.length≤32)∧n≤258∧1≤d∧d≤32768∧d≤out.length
theorem Z9v:D1 I0 15=0∧D1 G7 15=0∧I0.length≤288∧G7.length≤32:=by decide+kernel
theorem Z0m {l:List Nat} (hb:isBits l) (n:Nat):E3 (l.take n) < 2^n:=by
 have h:=L6 hb 0 n
 rwa [T04] at h
theorem Y4y {b:Bool} {l out l' out':List Nat} {p:Ph} (h:Z8z b l out= .go p l' out'):p= .hd∧l'=l∧out'=out:=by
 unfold Z8z at h
 split at h
 ·cases h
 cases h;exact ⟨rfl,rfl,rfl⟩
theorem X88 {head:List Int} {l:List Nat} {N a:Nat} {ls ls':List Int} {b:Bool} {e a':Nat} (h:E6 head l N a ls=(b,e,a',ls')) (hl:∀y∈ls,0≤y∧y≤15):∀y∈ls',0≤y∧y≤15:=by
 unfold E6 at h
 split at h
 ·cases h;exact hl
 unfold E6.lenRun at h
 generalize (I6 head (l.drop a)).1=k at h
 generalize (if k=17 then 3 else if k=18 then 7 else 2)=wd at h
 generalize (if k=18 then 11 else 3)=ba at h
 split at h
 ·rename_i f
  cases h
  intro y d
  rcases List.mem_append.1 d with d | d
  ·exact hl y d
  simp only [T05] at d;omega
 split at h
 ·cases h;exact hl
 split at h
 ·cases h;exact hl
 split at h
 ·cases h;exact hl
 cases h
 intro y d
 rcases List.mem_append.1 d with d | d
 ·exact hl y d
 rw [List.mem_replicate] at d
 obtain ⟨_,rfl⟩:=d
 split
 ·cases hg:ls.getLast? with
  | none=>exact ⟨by decide,by decide⟩
  | some z=>exact hl z (List.mem_of_getLast? hg)
 exact ⟨by decide,by decide⟩
structure Z67 (p:Ph) (l out:List Nat) (p':Ph) (l' out':List Nat):Prop where
 ok:X6e l' out' p'
 bits:∃n,l'=l.drop n
 out:∃t,out'=out++t∧t.length≤1∧∀x∈t,x < 256
def Z9s:Ph→Nat
 | .sto _ _ | .len _ _ _ _ _ | .cop _ _ _ _ _=>1
 | _=>0
def mu (p:Ph) (l:List Nat):Nat:=2*l.length+Z9s p
theorem W1j (o:List Nat) (d:Nat):ext o d 1=o++[o[o.length-d]?.getD 0]:=by
 show ext o d 0++[(ext o d 0)[o.length+0-d]?.getD 0]=_
 rfl
theorem V6q {l out l' out':List Nat} {p':Ph} (h:hdM l out= .go p' l' out'):Z67 .hd l out p' l' out'∧mu p' l' < mu .hd l:=by
 unfold hdM at h
 split at h
 ·cases h
 rename_i v a
 have b:=(M8 a).1
 split at h
 ·cases h
  exact ⟨⟨trivial,⟨3,rfl⟩,⟨[],by simp⟩⟩,by simp only [mu,Z9s,T00];omega⟩
 split at h
 ·cases h
  exact ⟨⟨Z9v,⟨3,rfl⟩,⟨[],by simp⟩⟩,by simp only [mu,Z9s,T00];omega⟩
 split at h
 ·cases h
  exact ⟨⟨trivial,⟨3,rfl⟩,⟨[],by simp⟩⟩,by simp only [mu,Z9s,T00];omega⟩
 cases h
theorem V75 {b:Bool} {l out l' out':List Nat} {p':Ph} (hb:isBits l) (h:szM b l out= .go p' l' out'):Z67 (.sz b) l out p' l' out'∧mu p' l' < mu (.sz b) l:=by
 unfold szM szR at h
 split at h
 ·cases h
 rename_i a
 split at h
 ·cases h
 cases h
 rw [T00] at a
 have d:=Z0m (E9 hb (l.length%8)) 16
 refine ⟨⟨⟨?_,by omega⟩,⟨l.length%8+32,by rw [T01]⟩,⟨[],by simp⟩⟩, ?_⟩
 ·simp only [T00];omega
 simp only [mu,Z9s,T00];omega
theorem V5e {M:Nat} {b:Bool} {n:Nat} {l out l' out':List Nat} {p':Ph} (hb:isBits l) (hp:X6e l out (.sto b n)) (h:Z4f M b n l out= .go p' l' out'):
  Z67 (.sto b n) l out p' l' out'∧(mu p' l' < mu (.sto b n) l):=by
 unfold Z4f at h
 obtain ⟨a,d⟩:=hp
 split at h
 ·obtain ⟨rfl,rfl,rfl⟩:=Y4y h
  exact ⟨⟨trivial,⟨0,by simp⟩,⟨[],by simp⟩⟩,by simp only [mu,Z9s];omega⟩
 split at h
 ·cases h
 split at h
 ·cases h
 cases h
 refine ⟨⟨⟨?_,by omega⟩,⟨8,rfl⟩,⟨_,rfl,by simp,fun x hx=> ?_⟩⟩, ?_⟩
 ·simp only [T00];omega
 ·simp only [T05] at hx;subst hx;exact Z0m hb 8
 simp only [mu,Z9s,T00];omega
theorem V5l {b:Bool} {l out l' out':List Nat} {p':Ph} (hb:isBits l) (h:Z71 b l out= .go p' l' out'):Z67 (.cnt b) l out p' l' out'∧mu p' l' < mu (.cnt b) l:=by
 unfold Z71 at h
 split at h
 ·cases h
 split at h
 ·cases h
 cases h
 have a:=L6 hb 10 4
 exact ⟨⟨⟨by omega,by omega,by omega,by omega,by omega,by omega⟩,⟨14,rfl⟩,⟨[],by simp⟩⟩,by simp only [mu,Z9s,T00];omega⟩
theorem V60 {b:Bool} {A B C:Nat} {l out l' out':List Nat} {p':Ph} (hp:X6e l out (.thd b A B C)) (h:Z7q b A B C l out= .go p' l' out'):Z67 (.thd b A B C) l out p' l' out'∧mu p' l' < mu (.thd b A B C) l:=by
 obtain ⟨d,f,g,i,j,k⟩:=hp
 unfold Z7q at h
 split at h
 ·cases h
 split at h
 ·cases h
 rename_i a
 cases h
 exact ⟨⟨⟨d,f,g,i,Decidable.not_not.1 (not_or.1 a).1,V4 _ _ _,by simp,by simp⟩,⟨3*C,rfl⟩,⟨[],by simp⟩⟩,by simp only [mu,Z9s,T00];omega⟩
theorem V6b {b:Bool} {A B:Nat} {head ls:List Int} {l out l' out':List Nat} {p':Ph} (hp:X6e l out (.len b A B head ls)) (h:Z5c b A B head ls l out= .go p' l' out'):Z67 (.len b A B head ls) l out p' l' out'∧mu p' l' < mu (.len b A B head ls) l:=by
 obtain ⟨p,q,r,s,t,x,h7,y⟩:=hp
 unfold Z5c at h
 split at h
 ·split at h
  ·cases h
  rename_i hf n
  cases h
  obtain ⟨z,f⟩:=not_or.1 n
  obtain ⟨f,c3⟩:=not_or.1 f
  exact ⟨⟨⟨Decidable.not_not.1 z,Decidable.not_not.1 f,by rw [List.length_take];omega,by rw [T00];omega⟩,⟨0,by simp⟩,⟨[],by simp⟩⟩,by simp only [mu,Z9s];omega⟩
 rename_i o
 obtain ⟨j,k,g,m,d⟩:∃j k g m,E6 head l (A+B) 0 ls=(j,k,g,m):=⟨_,_,_,_,rfl⟩
 rw [d] at h
 unfold X4p at h
 split at h
 ·cases h
 rename_i a
 cases h
 simp only [Bool.not_eq_true] at a
 subst a
 have i:=Z4j d
 simp only at i
 subst i
 obtain ⟨g1,g2,g3⟩:=Z22 d o (Nat.zero_le _)
 exact ⟨⟨⟨p,q,r,s,t,x,g3,X88 d y⟩,⟨g,rfl⟩,⟨[],by simp⟩⟩,by simp only [mu,Z9s,T00];omega⟩
theorem V66 {M:Nat} {b:Bool} {lit dist:List Int} {l out l' out':List Nat} {p':Ph} (hb:isBits l) (hp:X6e l out (.tok b lit dist)) (h:Z64 M b lit dist l out (I6 lit l)= .go p' l' out'):
  Z67 (.tok b lit dist) l out p' l' out'∧(mu p' l' < mu (.tok b lit dist) l):=by
 obtain ⟨k,n,e,o⟩:∃k n e,I6 lit l=(k,n,e):=⟨_,_,_,rfl⟩
 rw [o] at h
 unfold Z64 at h
 simp only at h
 split at h
 ·cases h
 rename_i m
 simp only [Decidable.not_not] at m
 subst m
 obtain ⟨_,s1,s2⟩:=O8 o
 split at h
 ·obtain ⟨rfl,rfl,rfl⟩:=Y4y h
  exact ⟨⟨trivial,⟨n,rfl⟩,⟨[],by simp⟩⟩,by simp only [mu,Z9s,T00];omega⟩
 split at h
 ·rename_i hk
  split at h
  ·cases h
  cases h
  exact ⟨⟨hp,⟨n,rfl⟩,⟨[k],rfl,by simp,fun x hx=>by simp only [T05] at hx;omega⟩⟩,by simp only [mu,Z9s,T00];omega⟩
 split at h
 ·cases h
 rename_i y z a0
 unfold Y2o at h
 split at h
 ·cases h
 rename_i a ht
 obtain ⟨t1,t2⟩:=M8 ht
 have f:a < 2^lX (k-257):=by rw [t2];exact Z0m (E9 hb n) _
 have r:=Y5a (k-257) (by omega)
 obtain ⟨q,d,p,i⟩:∃q d p,I6 dist ((l.drop n).drop (lX (k-257)))=(q,d,p):=⟨_,_,_,rfl⟩
 rw [i] at h
 unfold X1w at h
 dsimp only at h
 split at h
 ·cases h
 unfold Y4t at h
 split at h
 ·cases h
 rename_i hq
 split at h
 ·cases h
 rename_i far g
 obtain ⟨t3,t4⟩:=M8 g
 split at h
 ·cases h
 rename_i hd
 cases h
 have j:far < 2^dX q:=by rw [t4];exact Z0m (E9 (E9 (E9 hb n) _) d) _
 have s:=X1h q (by omega)
 have t:=(X4y q (by omega)).1
 refine ⟨⟨⟨hp,by omega,by omega,by omega,by omega⟩,⟨n+(lX (k-257)+(d+dX q)),by simp only [T01,Nat.add_assoc]⟩,⟨[],by simp⟩⟩, ?_⟩
 simp only [mu,Z9s,T00]
 omega
theorem V56 {M:Nat} {b:Bool} {lit dist:List Int} {n d:Nat} {l out l' out':List Nat} {p':Ph} (ho:∀x∈out,x < 256) (hp:X6e l out (.cop b lit dist n d)) (h:Z4r M b lit dist n d l out= .go p' l' out'):
  Z67 (.cop b lit dist n d) l out p' l' out'∧(mu p' l' < mu (.cop b lit dist n d) l∨mu p' l'=mu (.cop b lit dist n d) l∧out'.length=out.length+1):=by
 obtain ⟨f,j,g,i,k⟩:=hp
 unfold Z4r at h
 split at h
 ·cases h
  exact ⟨⟨f,⟨0,by simp⟩,⟨[],by simp⟩⟩,.inl (by simp only [mu,Z9s];omega)⟩
 split at h
 ·cases h
 cases h
 have a:=W9x out d ho 1
 rw [W1j] at a
 refine ⟨⟨⟨f,by omega,g,i,by rw [G1];omega⟩,⟨0,by simp⟩,⟨_,W1j _ _,by simp,fun x hx'=>a x (List.mem_append_right _ hx')⟩⟩,.inr ⟨rfl,by rw [G1]⟩⟩
theorem X5f {M:Nat} {p p':Ph} {l out l' out':List Nat} (hb:isBits l) (ho:∀x∈out,x < 256) (hp:X6e l out p) (h:F8 M l out p= .go p' l' out'):
  Z67 p l out p' l' out'∧(mu p' l' < mu p l∨mu p' l'=mu p l∧out'.length=out.length+1):=by
 cases p with
 | hd=>exact (V6q h).imp id .inl
 | sz b=>exact (V75 hb h).imp id .inl
 | sto b n=>exact (V5e hb hp h).imp id .inl
 | cnt b=>exact (V5l hb h).imp id .inl
 | thd b A B C=>exact (V60 hp h).imp id .inl
 | len b A B head ls=>exact (V6b hp h).imp id .inl
 | tok b lit dist=>exact (V66 hb hp h).imp id .inl
 | cop b lit dist n d=>exact V56 ho hp h
structure MOk (p:Ph) (l out:List Nat):Prop where
 bits:isBits l
 byt:∀x∈out,x < 256
 ph:X6e l out p
theorem MOk.step {M:Nat} {p p':Ph} {l out l' out':List Nat} (h:MOk p l out) (hs:F8 M l out p= .go p' l' out'):MOk p' l' out'∧(∃t,out'=out++t)∧l'.length≤l.length:=by
 obtain ⟨⟨d,⟨n,a⟩,⟨t,b,_,f⟩⟩,_⟩:=X5f h.bits h.byt h.ph hs
 refine ⟨⟨by rw [a];exact E9 h.bits n,fun x hx=> ?_,d⟩,⟨t,b⟩,by rw [a,T00];omega⟩
 rw [b] at hx
 rcases List.mem_append.1 hx with hx | hx
 ·exact h.byt x hx
 exact f x hx
theorem MOk.reach {M:Nat} {p p':Ph} {l out l' out':List Nat} (h:MOk p l out) (hr:S4 M p l out p' l' out'):MOk p' l' out'∧(∃t,out'=out++t)∧l'.length≤l.length:=by
 induction hr with
 | refl=>exact ⟨h,⟨[],by simp⟩,Nat.le_refl _⟩
 | step hs _ ih=>
  obtain ⟨a,⟨t,b⟩,i⟩:=h.step hs
  obtain ⟨d,⟨f,g⟩,j⟩:=ih a
  exact ⟨d,⟨t++f,by rw [g,b,T07]⟩,by omega⟩
theorem MOk.ends {M:Nat} {p:Ph} {l out l' out':List Nat} {e:Nat} (h:MOk p l out) (hr:Z01 M p l out e l' out'):(∀x∈out',x < 256)∧∃t,out'=out++t:=by
 induction hr with
 | done _=>exact ⟨h.byt,[],by simp⟩
 | err _=>exact ⟨h.byt,[],by simp⟩
 | go hs _ ih=>
  obtain ⟨a,⟨t,b⟩,_⟩:=h.step hs
  obtain ⟨d,f,g⟩:=ih a
  exact ⟨d,t++f,by rw [g,b,T07]⟩
theorem MOk.start {l:List Nat} (h:isBits l):MOk .hd l []:=⟨h,by simp,trivial⟩
def Z20.more (X:List Nat):Z20→Z20
 | .go p l o=> .go p (l++X) o
 | .done l=> .done (l++X)
 | .err e=> .err e
theorem Q1 {l:List Nat} {n:Nat} (h:n≤l.length) (X:List Nat):(l++X).drop n=l.drop n++X:=List.drop_append_of_le_length h
theorem Z5n {l:List Nat} {n:Nat} (h:n≤l.length) (X:List Nat):(l++X).take n=l.take n:=T06 h
theorem Y1k {l:List Nat} {a n:Nat} (h:a+n≤l.length) (X:List Nat):((l++X).drop a).take n=(l.drop a).take n:=by
 rw [Q1 (by omega),Z5n (by rw [T00];omega)]
theorem X8r {l:List Nat} {a n v:Nat} (h:I7 l a n=some v) (X:List Nat):I7 (l++X) a n=some v:=by
 obtain ⟨b,d⟩:=M1 h
 unfold I7
 rw [if_pos (by rw [T02];omega),Y1k b,d]
theorem Y3d {l:List Int} {r X:List Nat} (hl:∀a∈l,0≤a∧a≤15) (hb:isBits (r++X)) (h:(I6 l r).2.2≠5):I6 l (r++X)=I6 l r:=by
 rw [Z8u hb hl ((Y0k l r).part h)]
theorem Y5t {l:List Nat} (X:List Nat):∀C,3*C≤l.length→F5 (l++X) 0 C=F5 l 0 C
 | 0,_=>rfl
 | C+1,h=>by rw [F5,F5,Y5t X C (by omega),Y1k (by omega)]
theorem Y9y {l:List Nat} (X:List Nat):∀C,3*C≤l.length→Z1i (l++X) 0 C=Z1i l 0 C
 | 0,_=>rfl
 | C+1,h=>by rw [Z1i,Z1i,Y9y X C (by omega),Y1k (by omega)]
theorem X3f {head:List Int} {l X:List Nat} {N:Nat} {ls:List Int} (hl:∀a∈head,0≤a∧a≤15) (hb:isBits (l++X)) {b:Bool} {e a':Nat} {ls':List Int}
  (h:E6 head l N 0 ls=(b,e,a',ls')) (he:e≠5):E6 head (l++X) N 0 ls=(b,e,a',ls'):=by
 obtain ⟨k,n,d,g⟩:∃k n d,I6 head (l.drop 0)=(k,n,d):=⟨_,_,_,rfl⟩
 have f:d≠5→I6 head ((l++X).drop 0)=(k,n,d):=fun h5=>by
  rw [T04] at g⊢
  rw [Y3d hl hb (by rw [g];exact h5),g]
 by_cases i:d=0
 ·subst i
  rw [Z4z g] at h
  rw [Z4z (f (by decide))]
  unfold E6.lenRun at h⊢
  generalize (if k=17 then 3 else if k=18 then 7 else 2)=wd at h⊢
  generalize (if k=18 then 11 else 3)=ba at h⊢
  generalize (if k=16 then ls.getLast?.getD 0 else 0)=y at h⊢
  split
  ·rename_i j;rw [if_pos j] at h;exact h
  rename_i j
  rw [if_neg j] at h
  split
  ·rename_i m;rw [if_pos m] at h;exact h
  rename_i m
  rw [if_neg m] at h
  cases ht:I7 l (0+n) wd with
  | none=>rw [ht] at h;cases h;exact absurd rfl he
  | some v=>rw [ht] at h;rw [X8r ht X];exact h
 rw [Z8e g i] at h
 obtain ⟨rfl,rfl,rfl,rfl⟩:true=b∧d=e∧0=a'∧ls=ls':=by simpa using h
 exact Z8e (f he) i
section
variable {M:Nat} {l X out:List Nat} {b:Bool}
theorem X02:Z8z b (l++X) out=(Z8z b l out).more X:=by
 unfold Z8z
 split <;> rfl
theorem V25 (hn:hdM l out≠ .err 5):hdM (l++X) out=(hdM l out).more X:=by
 unfold hdM at hn⊢
 cases ht:Z05 l 3 with
 | none=>rw [ht] at hn;exact absurd rfl hn
 | some v=>
  rw [Y00 ht X]
  have a:=(M8 ht).1
  simp only [Q1 a]
  split
  ·rfl
  split
  ·rfl
  split <;> rfl
theorem V31 (h8:X.length%8=0) (hn:szM b l out≠ .err 5):szM b (l++X) out=(szM b l out).more X:=by
 unfold szM at hn⊢
 rw [show (l++X).length%8=l.length%8 by rw [T02];omega,Q1 (by omega)]
 generalize l.drop (l.length%8)=l1 at hn⊢
 unfold szR at hn⊢
 by_cases h:l1.length < 32
 ·rw [if_pos h] at hn;exact absurd rfl hn
 rw [if_neg h,if_neg (by rw [T02];omega),Z5n (by omega),Q1 (by omega),Z5n (by rw [T00];omega),Q1 (by omega)]
 split <;> rfl
theorem W6i {n:Nat} (hn:Z4f M b n l out≠ .err 5):Z4f M b n (l++X) out=(Z4f M b n l out).more X:=by
 unfold Z4f at hn⊢
 by_cases a:n=0
 ·rw [if_pos a,if_pos a];exact X02
 rw [if_neg a] at hn
 rw [if_neg a,if_neg a]
 by_cases h:l.length < 8
 ·rw [if_pos h] at hn;exact absurd rfl hn
 rw [if_neg h,if_neg (by rw [T02];omega),Z5n (by omega),Q1 (by omega)]
 split <;> rfl
theorem W8b (hn:Z71 b l out≠ .err 5):Z71 b (l++X) out=(Z71 b l out).more X:=by
 unfold Z71 at hn⊢
 by_cases h:l.length < 14
 ·rw [if_pos h] at hn;exact absurd rfl hn
 rw [if_neg h,if_neg (by rw [T02];omega),Z5n (by omega),Y1k (by omega),Y1k (by omega),Q1 (by omega)]
 split <;> rfl
theorem W6k {A B C:Nat} (hn:Z7q b A B C l out≠ .err 5):Z7q b A B C (l++X) out=(Z7q b A B C l out).more X:=by
 unfold Z7q at hn⊢
 by_cases h:l.length < 3*C
 ·rw [if_pos h] at hn;exact absurd rfl hn
 rw [if_neg h,if_neg (by rw [T02];omega),Y5t X C (by omega),Y9y X C (by omega),Q1 (by omega)]
 split <;> rfl
theorem W82 {A B:Nat} {head ls:List Int} (hl:∀a∈head,0≤a∧a≤15) (hb:isBits (l++X)) (hn:Z5c b A B head ls l out≠ .err 5):Z5c b A B head ls (l++X) out=(Z5c b A B head ls l out).more X:=by
 unfold Z5c at hn⊢
 by_cases h:A+B≤ls.length
 ·rw [if_pos h,if_pos h]
  split <;> rfl
 rw [if_neg h] at hn
 rw [if_neg h,if_neg h]
 obtain ⟨f,i,g,k,d⟩:∃f i g k,E6 head l (A+B) 0 ls=(f,i,g,k):=⟨_,_,_,_,rfl⟩
 rw [d] at hn⊢
 have m:i≠5:=by
  rintro rfl
  cases f with
  | true=>exact hn rfl
  | false=>have:=Z4j d;cases this
 rw [X3f hl hb d m]
 unfold X4p
 cases f with
 | true=>rfl
 | false=>
  have j:=Z4j d
  simp only at j
  subst j
  have n:=(Z22 d h (Nat.zero_le _)).2.1
  show Z20.go _ ((l++X).drop g) out= .go _ (l.drop g++X) out
  rw [Q1 n]
theorem V0u {lit dist:List Int} {n q:Nat} (hn:Y4t b lit dist n q l out≠ .err 5):Y4t b lit dist n q (l++X) out=(Y4t b lit dist n q l out).more X:=by
 unfold Y4t at hn⊢
 by_cases h:29 < q
 ·rw [if_pos h,if_pos h];rfl
 rw [if_neg h] at hn
 rw [if_neg h,if_neg h]
 cases ht:Z05 l (dX q) with
 | none=>rw [ht] at hn;exact absurd rfl hn
 | some v=>
  rw [Y00 ht X]
  simp only [Q1 (M8 ht).1]
  split <;> rfl
theorem W8n {lit dist:List Int} {c:Nat} (hd:∀a∈dist,0≤a∧a≤15) (hb:isBits (l++X)) (hn:Y2o b lit dist c l out≠ .err 5):Y2o b lit dist c (l++X) out=(Y2o b lit dist c l out).more X:=by
 unfold Y2o at hn⊢
 cases ht:Z05 l (lX c) with
 | none=>rw [ht] at hn;exact absurd rfl hn
 | some v=>
  rw [ht] at hn
  have g:=(M8 ht).1
  rw [Y00 ht X]
  simp only [Q1 g] at hn⊢
  obtain ⟨k,n,e,d⟩:∃k n e,I6 dist (l.drop (lX c))=(k,n,e):=⟨_,_,_,rfl⟩
  have f:isBits (l.drop (lX c)++X):=by rw [←Q1 g];exact E9 hb _
  rw [d] at hn⊢
  have j:e≠5:=by
   rintro rfl
   exact hn rfl
  rw [Y3d hd f (by rw [d];exact j),d]
  unfold X1w at hn⊢
  by_cases i:e=0
  ·subst i
   have m:=(O8 d).2.2
   simp only [ne_eq,not_true_eq_false,if_false] at hn⊢
   rw [Q1 m]
   exact V0u hn
  simp only [ne_eq,i,not_false_eq_true,if_true]
  rfl
theorem V1i {lit dist:List Int} (hl:∀a∈lit,0≤a∧a≤15) (hd:∀a∈dist,0≤a∧a≤15) (hb:isBits (l++X)) (hn:Z64 M b lit dist l out (I6 lit l)≠ .err 5):
  Z64 M b lit dist (l++X) out (I6 lit (l++X))=(Z64 M b lit dist l out (I6 lit l)).more X:=by
 obtain ⟨k,n,e,d⟩:∃k n e,I6 lit l=(k,n,e):=⟨_,_,_,rfl⟩
 rw [d] at hn⊢
 have j:e≠5:=by
  rintro rfl
  exact hn rfl
 rw [Y3d hl hb (by rw [d];exact j),d]
 unfold Z64 at hn⊢
 by_cases i:e=0
 ·subst i
  have g:=(O8 d).2.2
  simp only [ne_eq,not_true_eq_false,if_false] at hn⊢
  rw [Q1 g]
  split
  ·exact X02
  rename_i m
  rw [if_neg m] at hn
  split
  ·split <;> rfl
  rename_i o
  rw [if_neg o] at hn
  split
  ·rfl
  rename_i p
  rw [if_neg p] at hn
  have f:isBits (l.drop n++X):=by rw [←Q1 g];exact E9 hb _
  exact W8n hd f hn
 simp only [ne_eq,i,not_false_eq_true,if_true]
 rfl
end
theorem Z9j {M:Nat} {p:Ph} {l out:List Nat} (X:List Nat) (hX:isBits X) (h8:X.length%8=0) (h:MOk p l out) (hn:F8 M l out p≠ .err 5):F8 M (l++X) out p=(F8 M l out p).more X:=by
 have f:=D5 h.bits hX
 cases p with
 | hd=>exact V25 hn
 | sz b=>exact V31 h8 hn
 | sto b n=>exact W6i hn
 | cnt b=>exact W8b hn
 | thd b A B C=>exact W6k hn
 | len b A B head ls=>exact W82 (fun a ha=>by have:=Z4d h.ph.2.2.2.2.1 a ha;omega) f hn
 | tok b lit dist=>exact V1i (Z4d h.ph.1) (Z4d h.ph.2.1) f hn
 | cop b lit dist n d=>
  show Z4r M b lit dist n d (l++X) out=(Z4r M b lit dist n d l out).more X
  unfold Z4r
  split
  ·rfl
  split <;> rfl
theorem X34 {head:List Int} {bs:List Nat} {N a e a':Nat} {l l':List Int} (h:E6 head bs N a l=(true,e,a',l')):e=2∨e=3∨e=5:=by
 unfold E6 at h
 split at h
 ·rename_i b
  cases h
  rcases (Y0k head (bs.drop a)).errs with h1 | h1 | h1
  ·exact absurd h1 b
  ·exact .inr (.inl h1)
  exact .inr (.inr h1)
 unfold E6.lenRun at h
 generalize (I6 head (bs.drop a)).1=k at h
 generalize (if k=17 then 3 else if k=18 then 7 else 2)=wd at h
 generalize (if k=18 then 11 else 3)=ba at h
 generalize (if k=16 then l.getLast?.getD 0 else 0)=y at h
 split at h
 ·cases h
 split at h
 ·cases h;exact .inl rfl
 split at h
 ·cases h;exact .inr (.inr rfl)
 split at h
 ·cases h;exact .inl rfl
 cases h
theorem X44 {b:Bool} {l out:List Nat} {e:Nat} (h:Z8z b l out= .err e):False:=by
 unfold Z8z at h
 split at h <;> cases h
theorem X7d {l:List Int} {r:List Nat} (h:(I6 l r).2.2≠0):(I6 l r).2.2=3∨(I6 l r).2.2=5:=(Y0k l r).errs.resolve_left h
theorem V1 {M:Nat} {p:Ph} {l out:List Nat} {e:Nat} (h:F8 M l out p= .err e):e=2∨e=3∨e=5∨e=6:=by
 cases p with
 | hd=>
  have a:hdM l out= .err e:=h
  unfold hdM at a
  split at a
  ·cases a;decide
  split at a
  ·cases a
  split at a
  ·cases a
  split at a
  ·cases a
  cases a;decide
 | sz b=>
  have a:szM b l out= .err e:=h
  unfold szM szR at a
  split at a
  ·cases a;decide
  split at a
  ·cases a;decide
  cases a
 | sto b n=>
  have a:Z4f M b n l out= .err e:=h
  unfold Z4f at a
  split at a
  ·exact (X44 a).elim
  split at a
  ·cases a;decide
  split at a
  ·cases a;decide
  cases a
 | cnt b=>
  have a:Z71 b l out= .err e:=h
  unfold Z71 at a
  split at a
  ·cases a;decide
  split at a
  ·cases a;decide
  cases a
 | thd b A B C=>
  have a:Z7q b A B C l out= .err e:=h
  unfold Z7q at a
  split at a
  ·cases a;decide
  split at a
  ·cases a;decide
  cases a
 | len b A B head ls=>
  have a:Z5c b A B head ls l out= .err e:=h
  unfold Z5c at a
  split at a
  ·split at a
   ·cases a;decide
   cases a
  obtain ⟨g,i,j,k,m⟩:∃g i j k,E6 head l (A+B) 0 ls=(g,i,j,k):=⟨_,_,_,_,rfl⟩
  rw [m] at a
  cases g with
  | true=>
   unfold X4p at a
   rw [if_pos rfl] at a
   cases a
   have:=X34 m
   simp only
   omega
  | false=>cases a
 | tok b lit dist=>
  have a:Z64 M b lit dist l out (I6 lit l)= .err e:=h
  unfold Z64 at a
  split at a
  ·rename_i f
   cases a
   have:=X7d f
   omega
  split at a
  ·exact (X44 a).elim
  split at a
  ·split at a
   ·cases a;decide
   cases a
  split at a
  ·cases a;decide
  unfold Y2o at a
  split at a
  ·cases a;decide
  unfold X1w at a
  split at a
  ·rename_i f
   cases a
   have:=X7d f
   omega
  unfold Y4t at a
  split at a
  ·cases a;decide
  split at a
  ·cases a;decide
  split at a
  ·cases a;decide
  cases a
 | cop b lit dist n d=>
  have a:Z4r M b lit dist n d l out= .err e:=h
  unfold Z4r at a
  split at a
  ·cases a
  split at a
  ·cases a;decide
  cases a
theorem Z01.more {M:Nat} {p:Ph} {l out l' out' X:List Nat} {e:Nat} (hX:isBits X) (h8:X.length%8=0) (h:MOk p l out) (he:e≠5) (hr:Z01 M p l out e l' out'):Z01 M p (l++X) out e (if e=8 then l'++X else []) out':=by
 induction hr with
 | done hs=>exact .done (by rw [Z9j X hX h8 h (by rw [hs];intro h;cases h),hs];rfl)
 | err hs=>
  have a:=(Z9j X hX h8 h (by rw [hs];intro h;cases h;exact he rfl)).trans (by rw [hs])
  have:=V1 hs
  rw [if_neg (by omega)]
  exact .err a
 | go hs _ ih=>
  have a:=(Z9j X hX h8 h (by rw [hs];intro h;cases h)).trans (by rw [hs])
  exact .go a (ih (h.step hs).1 he)
section
variable {M k:Nat} {p p':Ph} {l out l' o':List Nat}
theorem X0v (_hk:k≤M) (h:F8 M l out p= .go p' l' o'):(o'.length≤k→F8 k l out p= .go p' l' o')∧(k < o'.length→out.length≤k→F8 k l out p= .err 6):=by
 cases p with
 | hd=>
  refine ⟨fun _=>h,fun f h4=> ?_⟩
  have a:hdM l out= .go p' l' o':=h
  unfold hdM at a
  split at a
  ·cases a
  split at a
  ·cases a;omega
  split at a
  ·cases a;omega
  split at a
  ·cases a;omega
  cases a
 | sz b=>
  refine ⟨fun _=>h,fun f h4=> ?_⟩
  have a:szM b l out= .go p' l' o':=h
  unfold szM szR at a
  split at a
  ·cases a
  split at a
  ·cases a
  cases a;omega
 | sto b n=>
  show (o'.length≤k→Z4f k b n l out=_)∧(_→_→Z4f k b n l out=_)
  have a:Z4f M b n l out= .go p' l' o':=h
  unfold Z4f at a⊢
  by_cases g:n=0
  ·rw [if_pos g] at a⊢
   obtain ⟨_,_,i⟩:=Y4y a
   exact ⟨fun _=>a,fun f h4=>by rw [i] at f;omega⟩
  rw [if_neg g] at a⊢
  split at a
  ·cases a
  rename_i j
  rw [if_neg j]
  split at a
  ·cases a
  cases a
  rw [T02]
  simp only [T08,List.length_nil]
  exact ⟨fun f=>if_neg (by omega),fun f h4=>if_pos (by omega)⟩
 | cnt b=>
  refine ⟨fun _=>h,fun f h4=> ?_⟩
  have a:Z71 b l out= .go p' l' o':=h
  unfold Z71 at a
  split at a
  ·cases a
  split at a
  ·cases a
  cases a;omega
 | thd b A B C=>
  refine ⟨fun _=>h,fun f h4=> ?_⟩
  have a:Z7q b A B C l out= .go p' l' o':=h
  unfold Z7q at a
  split at a
  ·cases a
  split at a
  ·cases a
  cases a;omega
 | len b A B head ls=>
  refine ⟨fun _=>h,fun f h4=> ?_⟩
  have a:Z5c b A B head ls l out= .go p' l' o':=h
  unfold Z5c X4p at a
  split at a
  ·split at a
   ·cases a
   cases a;omega
  split at a
  ·cases a
  cases a;omega
 | tok b lit dist=>
  show (o'.length≤k→Z64 k b lit dist l out (I6 lit l)=_)∧(_→_→Z64 k b lit dist l out (I6 lit l)=_)
  have a:Z64 M b lit dist l out (I6 lit l)= .go p' l' o':=h
  unfold Z64 at a⊢
  split at a
  ·cases a
  rename_i j
  rw [if_neg j]
  split at a
  ·rename_i m
   rw [if_pos m]
   obtain ⟨_,_,i⟩:=Y4y a
   exact ⟨fun _=>a,fun f h4=>by rw [i] at f;omega⟩
  rename_i m
  rw [if_neg m]
  split at a
  ·rename_i f
   rw [if_pos f]
   split at a
   ·cases a
   cases a
   rw [T02]
   simp only [T08,List.length_nil]
   exact ⟨fun f=>if_neg (by omega),fun f h4=>if_pos (by omega)⟩
  rename_i f
  rw [if_neg f]
  refine ⟨fun _=>a,fun h4 i=> ?_⟩
  split at a
  ·cases a
  unfold Y2o at a
  split at a
  ·cases a
  unfold X1w at a
  split at a
  ·cases a
  unfold Y4t at a
  split at a
  ·cases a
  split at a
  ·cases a
  split at a
  ·cases a
  cases a;omega
 | cop b lit dist n d=>
  show (o'.length≤k→Z4r k b lit dist n d l out=_)∧(_→_→Z4r k b lit dist n d l out=_)
  have a:Z4r M b lit dist n d l out= .go p' l' o':=h
  unfold Z4r at a⊢
  by_cases g:n=0
  ·rw [if_pos g] at a⊢
   cases a
   exact ⟨fun _=>rfl,fun f h4=>by omega⟩
  rw [if_neg g] at a⊢
  split at a
  ·cases a
  cases a
  rw [G1]
  exact ⟨fun f=>if_neg (by omega),fun f h4=>if_pos (by omega)⟩
end
def X8n (M:Nat) (b:Bool) (l out:List Nat) (e:Nat) (l' o':List Nat):Prop:=if b=true then e=8∧l'=l∧o'=out else Z01 M .hd l out e l' o'
section
variable {M:Nat} {p p1:Ph} {b:Bool} {l l0 l1 l2 l' out o1 o2 o':List Nat} {e:Nat}
theorem W5b (h:F8 M l0 out p=Z8z b l out) (hk:X8n M b l out e l' o'):Z01 M p l0 out e l' o':=by
 unfold Z8z at h
 unfold X8n at hk
 split at hk
 ·rename_i a
  rw [if_pos a] at h
  obtain ⟨rfl,rfl,rfl⟩:=hk
  exact .done h
 rename_i a
 rw [if_neg a] at h
 exact .go h hk
def Bad (e:Nat):Prop:=e=2∨e=3∨e=5∨e=6
theorem Bad.ne {e:Nat} (h:Bad e):e≠0∧e≠8:=by unfold Bad at h;omega
def Z4h (M:Nat) (p:Ph) (l out:List Nat) (b:Bool) (e:Nat) (l1 out1:List Nat):Prop:=
 (Bad e∧Z01 M p l out e [] out1)∨(e=0∧∀r l' o',X8n M b l1 out1 r l' o'→Z01 M p l out r l' o')
theorem Z4h.reach (h:S4 M p l out p1 l1 o1) (h2:Z4h M p1 l1 o1 b e l2 o2):Z4h M p l out b e l2 o2:=
 h2.imp (fun ⟨h3,h4⟩=>⟨h3,h.ends h4⟩) (fun ⟨h3,h4⟩=>⟨h3,fun r l' o' hk=>h.ends (h4 r l' o' hk)⟩)
theorem Z4h.go (h:F8 M l out p= .go p1 l1 o1) (h2:Z4h M p1 l1 o1 b e l2 o2):Z4h M p l out b e l2 o2:=h2.reach (.one h)
theorem Z4h.err (h:F8 M l out p= .err e):Z4h M p l out b e l1 out:= .inl ⟨V1 h,.err h⟩
theorem Z4h.fin (h:F8 M l out p=Z8z b l1 out):Z4h M p l out b 0 l1 out:= .inr ⟨rfl,fun _ _ _ hk=>W5b h hk⟩
end
section
variable {M:Nat} {b:Bool} {all:List Nat}
theorem Y5x:∀ (n a:Nat) (out:List Nat),a≤all.length→Z4h M (.sto b n) (all.drop a) out b (T5 all M n a out).1 (all.drop (T5 all M n a out).2.1) (T5 all M n a out).2.2
 | 0,a,out,_=>Z4h.fin (by show Z4f M b 0 _ _=_;unfold Z4f;rw [if_pos rfl];rfl)
 | n+1,a,out,ha=>by
  have hst:F8 M (all.drop a) out (.sto b (n+1))=if all.length-a < 8 then .err 5 else if M≤out.length then .err 6 else .go (.sto b n) (all.drop (a+8)) (out++[E3 ((all.drop a).take 8)]):=by
   show Z4f M b (n+1) _ _=_
   unfold Z4f
   rw [if_neg (Nat.succ_ne_zero n),T00,T01]
   rfl
  cases ht:I7 all a 8 with
  | none=>
   have d:all.length-a < 8:=by
    unfold I7 at ht
    split at ht
    ·cases ht
    omega
   rw [if_pos d] at hst
   rw [T5,ht]
   exact .err hst
  | some c=>
   obtain ⟨d,g⟩:=M1 ht
   rw [if_neg (by omega)] at hst
   rw [T5,ht]
   dsimp only
   by_cases f:M≤out.length
   ·rw [if_pos f] at hst⊢
    exact .err hst
   rw [if_neg f] at hst⊢
   rw [←g] at hst
   exact .go hst (Y5x n (a+8) _ d)
theorem X1k {a:Nat} {out:List Nat} (h8:all.length%8=0) (ha:a≤all.length):Z4h M (.sz b) (all.drop a) out b (N7 all M a out).1 (all.drop (N7 all M a out).2.1) (N7 all M a out).2.2:=by
 have d:F8 M (all.drop a) out (.sz b)=szR b (all.drop (W5 a)) out:=by
  show szM b (all.drop a) out=_
  unfold szM
  rw [T00,T01,show a+(all.length-a)%8=W5 a by unfold W5;omega]
 unfold szR at d
 rw [T00] at d
 unfold N7
 dsimp only
 by_cases g:all.length < W5 a+32
 ·rw [if_pos g]
  rw [if_pos (by omega)] at d
  exact .err d
 rw [if_neg g]
 rw [if_neg (by omega),T01,T01] at d
 split
 ·rename_i f
  rw [if_pos f] at d
  exact .err d
 rename_i f
 rw [if_neg f] at d
 exact .go d (Y5x _ _ _ (by omega))
theorem W0y (o:List Nat) (d:Nat):∀n,ext (ext o d 1) d n=ext o d (n+1)
 | 0=>rfl
 | n+1=>by
  have ih:=W0y o d n
  show ext (ext o d 1) d n++[(ext (ext o d 1) d n)[(ext o d 1).length+n-d]?.getD 0]=ext o d (n+1)++[(ext o d (n+1))[o.length+(n+1)-d]?.getD 0]
  rw [ih,G1,show o.length+1+n=o.length+(n+1) by omega]
end
section
variable {M:Nat} {b:Bool} {all:List Nat} {lit dist:List Int}
theorem Y1x {d:Nat} {l:List Nat} (m:Nat):∀ (n:Nat) (out:List Nat),out.length+n≤M→S4 M (.cop b lit dist (m+n) d) l out (.cop b lit dist m d) l (ext out d n)
 | 0,_,_=> .refl
 | n+1,out,h=>by
  have hst:F8 M l out (.cop b lit dist (m+(n+1)) d)= .go (.cop b lit dist (m+n) d) l (ext out d 1):=by
   show Z4r M b lit dist (m+(n+1)) d l out=_
   unfold Z4r
   rw [if_neg (by omega),if_neg (by omega)]
   rfl
  have a:=Y1x (d:=d) (l:=l) m n (ext out d 1) (by rw [G1];omega)
  rw [W0y] at a
  exact .step hst a
theorem W1n {l out:List Nat} {k n e:Nat} (h:I6 lit l=(k,n,e)):F8 M l out (.tok b lit dist)=Z64 M b lit dist l out (k,n,e):=by
 show Z64 M b lit dist l out (I6 lit l)=_
 rw [h]
theorem V53 {a q L:Nat} {out:List Nat} (ha:a≤all.length):Y4t b lit dist L q (all.drop a) out=
  if 29 < q then .err 3 else match I7 all a (dX q) with
   | none=> .err 5
   | some far=>if out.length < dB q+far then .err 3 else .go (.cop b lit dist L (dB q+far)) (all.drop (a+dX q)) out:=by
 unfold Y4t
 rw [Z4t ha,T01] <;> cases Z05 (all.drop a) (dX q) <;> rfl
theorem Z8c (hb:isBits all):∀ (f a:Nat) (out:List Nat) (tk:List E1),all.length < f+a→a≤all.length→out.length≤M→
  Z4h M (.tok b lit dist) (all.drop a) out b (Z1x lit dist all M f a out tk).1 (all.drop (Z1x lit dist all M f a out tk).2.1) (Z1x lit dist all M f a out tk).2.2.1
 | 0,a,out,tk,hf,ha,_=>by omega
 | f+1,a,out,tk,hf,ha,hM=>by
  obtain ⟨k,n,e,hs⟩:∃k n e,I6 lit (all.drop a)=(k,n,e):=⟨_,_,_,rfl⟩
  have hst:=W1n (M:=M) (b:=b) (dist:=dist) (out:=out) hs
  unfold Z64 at hst
  dsimp only at hst
  by_cases he:e=0
  rotate_left
  ·rw [if_pos he] at hst
   rw [J6 (X5w hs he)]
   exact .err hst
  subst he
  obtain ⟨_,s1,s2⟩:=O8 hs
  rw [T00] at s2
  rw [if_neg (fun h=>h rfl)] at hst
  by_cases h256:k=256
  ·subst h256
   rw [if_pos rfl,T01] at hst
   rw [J6 (Y5n hs)]
   exact .fin hst
  rw [if_neg h256] at hst
  by_cases hlt:k < 256
  ·rw [if_pos hlt,T01] at hst
   by_cases hc:M≤out.length
   ·rw [if_pos hc] at hst
    rw [J6 (Y42 hs hlt hc)]
    exact .err hst
   rw [if_neg hc] at hst
   rw [Z8h (Y82 hs hlt hc)]
   exact .go hst (Z8c hb f (a+n) _ _ (by omega) (by omega) (by rw [T02];simp;omega))
  rw [if_neg hlt] at hst
  by_cases hbad:285 < k
  ·rw [if_pos hbad] at hst
   rw [J6 (Y4h hs hbad)]
   exact .err hst
  rw [if_neg hbad,T01] at hst
  have hsl:=Y64 (M:=M) (dist:=dist) (out:=out) (tk:=tk) hs (by omega) (by omega)
  have hc29:k-257 < 29:=by omega
  generalize k-257=c at hst hsl hc29
  unfold Y2o at hst
  rw [←Z4t (by omega)] at hst
  cases ht:I7 all (a+n) (lX c) with
  | none=>
   rw [ht] at hst
   rw [X17 ht] at hsl
   rw [J6 hsl]
   exact .err hst
  | some more=>
   have t1:=(M1 ht).1
   rw [ht] at hst
   dsimp only at hst
   obtain ⟨q,n2,e2,hs2⟩:∃q n2 e2,I6 dist (all.drop (a+n+lX c))=(q,n2,e2):=⟨_,_,_,rfl⟩
   rw [T01,hs2] at hst
   unfold X1w at hst
   dsimp only at hst
   by_cases he2:e2=0
   rotate_left
   ·rw [if_pos he2] at hst
    rw [X0z ht hs2 he2] at hsl
    rw [J6 hsl]
    exact .err hst
   subst he2
   obtain ⟨_,g1,g2⟩:=O8 hs2
   rw [T00] at g2
   rw [if_neg (fun h=>h rfl),T01,V53 (by omega)] at hst
   rw [Y2s ht hs2] at hsl
   by_cases h29:29 < q
   ·rw [if_pos h29] at hst
    rw [W0x h29] at hsl
    rw [J6 hsl]
    exact .err hst
   rw [if_neg h29] at hst
   cases ht2:I7 all (a+n+lX c+n2) (dX q) with
   | none=>
    rw [ht2] at hst
    rw [W1c h29 ht2] at hsl
    rw [J6 hsl]
    exact .err hst
   | some far=>
    have t2:=(M1 ht2).1
    rw [ht2] at hst
    dsimp only at hst
    by_cases hd:out.length < dB q+far
    ·rw [if_pos hd] at hst
     rw [W1t h29 ht2 hd] at hsl
     rw [J6 hsl]
     exact .err hst
    rw [if_neg hd] at hst
    by_cases hcap:M < out.length+(lB c+more)
    ·rw [W2e h29 ht2 hd hcap] at hsl
     rw [J6 hsl]
     obtain ⟨m,hm⟩:∃m,lB c+more=m+1+(M-out.length):=⟨lB c+more- (M-out.length)-1,by omega⟩
     rw [hm] at hst
     refine .go hst (.reach (Y1x (m+1) (M-out.length) out (by omega)) (.err ?_))
     show Z4r M b lit dist (m+1) _ _ _=_
     unfold Z4r
     rw [if_neg (Nat.succ_ne_zero m),if_pos (by rw [G1];omega)]
    rw [X7k h29 ht2 hd hcap] at hsl
    rw [Z8h hsl]
    have hr:=Y1x (M:=M) (b:=b) (lit:=lit) (dist:=dist) (d:=dB q+far) (l:=all.drop (a+n+lX c+n2+dX q)) 0 (lB c+more) out (by omega)
    rw [T03] at hr
    refine .go hst (.reach hr (.go (p1:= .tok b lit dist) ?_ (Z8c hb f (a+n+lX c+n2+dX q) _ _ (by omega) t2 (by rw [G1];omega))))
    show Z4r M b lit dist 0 _ _ _=_
    unfold Z4r
    rw [if_pos rfl]
theorem Y8t {head:List Int} {N a e a':Nat} {l l':List Int} {b:Bool} (ha:a≤all.length) (h:E6 head all N a l=(b,e,a',l')):∃a2,E6 head (all.drop a) N 0 l=(b,e,a2,l')∧a'=a+a2:=by
 obtain ⟨k,n,f,g⟩:∃k n f,I6 head (all.drop a)=(k,n,f):=⟨_,_,_,rfl⟩
 have d:I6 head ((all.drop a).drop 0)=(k,n,f):=by rw [T04,g]
 by_cases i:f=0
 rotate_left
 ·rw [Z8e g i] at h
  cases h
  exact ⟨0,Z8e d i,rfl⟩
 subst i
 have p:=(O8 g).2.2
 rw [T00] at p
 rw [Z4z g] at h
 rw [Z4z d,T03]
 unfold E6.lenRun at h⊢
 generalize (if k=17 then 3 else if k=18 then 7 else 2)=wd at h⊢
 generalize (if k=18 then 11 else 3)=ba at h⊢
 generalize (if k=16 then l.getLast?.getD 0 else 0)=y at h⊢
 have q:I7 all (a+n) wd=I7 (all.drop a) n wd:=by
  rw [Z4t (by omega),Z4t (by rw [T00];omega),T01]
 rw [q] at h
 split
 ·rename_i j;rw [if_pos j] at h;cases h;exact ⟨_,rfl,rfl⟩
 rename_i j
 rw [if_neg j] at h
 split
 ·rename_i m;rw [if_pos m] at h;cases h;exact ⟨_,rfl,rfl⟩
 rename_i m
 rw [if_neg m] at h
 cases hv:I7 (all.drop a) n wd with
 | none=>rw [hv] at h;cases h;exact ⟨_,rfl,rfl⟩
 | some v=>
  rw [hv] at h
  dsimp only at h⊢
  split
  ·rename_i o;rw [if_pos o] at h;cases h;exact ⟨_,rfl,by omega⟩
  rename_i o;rw [if_neg o] at h;cases h;exact ⟨_,rfl,by omega⟩
theorem X0d {head:List Int} {A B:Nat} {out:List Nat}:∀ (f a:Nat) (ls:List Int),all.length < f+a→a≤all.length→
  (Bad (Z1o head all (A+B) f a ls).1∧Z01 M (.len b A B head ls) (all.drop a) out (Z1o head all (A+B) f a ls).1 [] out)∨
  ((Z1o head all (A+B) f a ls).1=0∧A+B≤(Z1o head all (A+B) f a ls).2.2.length∧S4 M (.len b A B head ls) (all.drop a) out (.len b A B head (Z1o head all (A+B) f a ls).2.2) (all.drop (Z1o head all (A+B) f a ls).2.1) out)
 | 0,a,ls,hf,ha=>by omega
 | f+1,a,ls,hf,ha=>by
  by_cases hn:A+B≤ls.length
  ·rw [Z8g hn]
   exact .inr ⟨rfl,hn,.refl⟩
  obtain ⟨b2,e,a',l',hs⟩:∃b2 e a' l',E6 head all (A+B) a ls=(b2,e,a',l'):=⟨_,_,_,_,rfl⟩
  obtain ⟨a2,hs2,rfl⟩:=Y8t ha hs
  have hst:F8 M (all.drop a) out (.len b A B head ls)=X4p b A B head (all.drop a) out (b2,e,a2,l'):=by
   show Z5c b A B head ls (all.drop a) out=_
   unfold Z5c
   rw [if_neg hn,hs2]
  cases b2 with
  | true=>
   rw [Z0a hn hs]
   exact .inl ⟨V1 hst,.err hst⟩
  | false=>
   have g:=Z4j hs
   dsimp only at g
   subst g
   obtain ⟨j,i,k⟩:=Z22 hs hn ha
   rw [Z2z hn hs]
   have d:F8 M (all.drop a) out (.len b A B head ls)= .go (.len b A B head l') (all.drop (a+a2)) out:=by
    rw [hst]
    unfold X4p
    rw [if_neg (by dsimp only;decide),T01]
   rcases X0d (head:=head) (out:=out) f (a+a2) l' (by omega) i with ⟨h1,h2⟩ | ⟨h1,h2,h3⟩
   ·exact .inl ⟨h1,.go d h2⟩
   exact .inr ⟨h1,h2,.step d h3⟩
theorem Y4e (a:Nat):∀C,F5 (all.drop a) 0 C=F5 all a C
 | 0=>rfl
 | C+1=>by rw [F5,F5,Y4e a C,T01,T03]
theorem Y74 (a:Nat):∀C,Z1i (all.drop a) 0 C=Z1i all a C
 | 0=>rfl
 | C+1=>by rw [Z1i,Z1i,Y74 a C,T01,T03]
theorem W3h {a:Nat} {out:List Nat} (ha:a≤all.length):
  (Bad (Q2 all a).1∧Z01 M (.cnt b) (all.drop a) out (Q2 all a).1 [] out)∨
  ((Q2 all a).1=0∧S4 M (.cnt b) (all.drop a) out (.tok b (Q2 all a).2.2.1 (Q2 all a).2.2.2) (all.drop (Q2 all a).2.1) out):=by
 have f:F8 M (all.drop a) out (.cnt b)=if all.length-a < 14 then .err 5
   else if 286 < E3 ((all.drop a).take 5)+257∨30 < E3 ((all.drop (a+5)).take 5)+1 then .err 2
   else .go (.thd b (E3 ((all.drop a).take 5)+257) (E3 ((all.drop (a+5)).take 5)+1) (E3 ((all.drop (a+10)).take 4)+4)) (all.drop (a+14)) out:=by
  show Z71 b (all.drop a) out=_
  unfold Z71
  rw [T00,T01,T01,T01]
 unfold Q2
 by_cases i:all.length < a+14
 ·rw [if_pos i]
  rw [if_pos (by omega)] at f
  exact .inl ⟨V1 f,.err f⟩
 rw [if_neg i]
 rw [if_neg (by omega)] at f
 generalize E3 ((all.drop a).take 5)+257=A at f⊢
 generalize E3 ((all.drop (a+5)).take 5)+1=B at f⊢
 generalize E3 ((all.drop (a+10)).take 4)+4=C at f⊢
 unfold Q2.dynRun
 by_cases j:286 < A∨30 < B
 ·rw [if_pos j] at f⊢
  exact .inl ⟨V1 f,.err f⟩
 rw [if_neg j] at f⊢
 have d:F8 M (all.drop (a+14)) out (.thd b A B C)=if all.length- (a+14) < 3*C then .err 5 else if D1 (F5 all (a+14) C) 7≠0∨Z1i all (a+14) C=false then .err 3 else .go (.len b A B (F5 all (a+14) C) []) (all.drop (a+14+3*C)) out:=by
  show Z7q b A B C (all.drop (a+14)) out=_
  unfold Z7q
  rw [T00,Y4e,Y74,T01]
 by_cases k:all.length < a+14+3*C
 ·rw [if_pos k]
  rw [if_pos (by omega)] at d
  exact .inl ⟨V1 d,.go f (.err d)⟩
 rw [if_neg k]
 rw [if_neg (by omega)] at d
 by_cases l:D1 (F5 all (a+14) C) 7≠0∨Z1i all (a+14) C=false
 ·rw [if_pos l] at d⊢
  exact .inl ⟨V1 d,.go f (.err d)⟩
 rw [if_neg l] at d⊢
 unfold Q2.dynEnd
 rcases X0d (M:=M) (b:=b) (all:=all) (head:=F5 all (a+14) C) (A:=A) (B:=B) (out:=out) (all.length+1) (a+14+3*C) [] (by omega) (by omega) with ⟨g1,g2⟩ | ⟨g1,g2,g3⟩
 ·rw [if_pos g1.ne.1]
  exact .inl ⟨g1,.go f (.go d g2)⟩
 rw [if_neg (not_not_intro g1)]
 generalize Z1o (F5 all (a+14) C) all (A+B) (all.length+1) (a+14+3*C) []=q at g1 g2 g3⊢
 have g:F8 M (all.drop q.2.1) out (.len b A B (F5 all (a+14) C) q.2.2)=if D1 (q.2.2.take A) 15≠0∨D1 (q.2.2.drop A) 15≠0∨q.2.2[256]?.getD 0=0 then .err 3 else .go (.tok b (q.2.2.take A) (q.2.2.drop A)) (all.drop q.2.1) out:=by
  show Z5c b A B _ q.2.2 _ out=_
  unfold Z5c
  rw [if_pos g2]
 by_cases m:D1 (q.2.2.take A) 15≠0∨D1 (q.2.2.drop A) 15≠0∨q.2.2[256]?.getD 0=0
 ·rw [if_pos m] at g⊢
  exact .inl ⟨V1 g,.go f (.go d (g3.ends (.err g)))⟩
 rw [if_neg m] at g⊢
 exact .inr ⟨rfl,.step f (.step d (g3.trans (.one g)))⟩
def W9d (kind:Nat) (b:Bool):Ph:=if kind=0 then .sz b else if kind=1 then .tok b I0 G7 else .cnt b
theorem X41 {kind a:Nat} {out:List Nat} {tk:List E1} (hb:isBits all) (h8:all.length%8=0) (ha:a≤all.length) (hM:out.length≤M) (hk:kind < 3):
  Z4h M (W9d kind b) (all.drop a) out b (I8 all M kind a out tk).1 (all.drop (I8 all M kind a out tk).2.1) (I8 all M kind a out tk).2.2.1:=by
 unfold I8 W9d
 by_cases d:kind=0
 ·rw [if_pos d,if_pos d]
  exact X1k h8 ha
 rw [if_neg d,if_neg d]
 by_cases f:kind=1
 ·rw [if_pos f,if_pos f]
  exact Z8c hb _ _ _ _ (by omega) ha hM
 rw [if_neg f,if_neg f,if_pos (by omega)]
 rcases W3h (M:=M) (b:=b) (out:=out) ha with ⟨g1,g2⟩ | ⟨g1,g2⟩
 ·rw [if_pos g1.ne.1]
  exact .inl ⟨g1,g2⟩
 rw [if_neg (not_not_intro g1)]
 exact .reach g2 (Z8c hb _ _ _ _ (by omega) (Y3a g1).2.1 hM)
theorem V6p {a v:Nat} {out:List Nat} (ha:a≤all.length) (h:I7 all a 3=some v):F8 M (all.drop a) out .hd=if v / 2 < 3 then .go (W9d (v / 2) (Z4c v)) (all.drop (a+3)) out else .err 2:=by
 show hdM (all.drop a) out=_
 unfold hdM W9d
 rw [Z4t ha] at h
 rw [h]
 dsimp only
 rw [T01]
 by_cases b:v / 2=0
 ·rw [if_pos b,if_pos (by omega),if_pos b]
 rw [if_neg b]
 by_cases d:v / 2=1
 ·rw [if_pos d,if_pos (by omega),if_neg b,if_pos d]
 rw [if_neg d]
 by_cases f:v / 2=2
 ·rw [if_pos f,if_pos (by omega),if_neg b,if_neg d]
 rw [if_neg f,if_neg (by omega)]
theorem Y0b (hb:isBits all) (h8:all.length%8=0):∀ (f a:Nat) (out:List Nat) (tk:List E1) (ks ss:List Nat),all.length < f+a→a≤all.length→out.length≤M→
  (Bad (S7 all M f a out tk ks ss).e∧Z01 M .hd (all.drop a) out (S7 all M f a out tk ks ss).e [] (S7 all M f a out tk ks ss).out)∨
  ((S7 all M f a out tk ks ss).e=0∧(S7 all M f a out tk ks ss).a≤all.length∧(S7 all M f a out tk ks ss).rest=((S7 all M f a out tk ks ss).a+7) / 8∧(S7 all M f a out tk ks ss).out.length≤M∧
   0 < (S7 all M f a out tk ks ss).a∧Z01 M .hd (all.drop a) out 8 (all.drop (S7 all M f a out tk ks ss).a) (S7 all M f a out tk ks ss).out)
 | 0,a,out,tk,ks,ss,hf,ha,_=>by omega
 | f+1,a,out,tk,ks,ss,hf,ha,hM=>by
  cases ht:I7 all a 3 with
  | none=>
   rw [Z0q (X15 ht)]
   have hst:F8 M (all.drop a) out .hd= .err 5:=by
    show hdM (all.drop a) out=_
    unfold hdM
    rw [Z4t ha] at ht
    rw [ht]
   exact .inl ⟨V1 hst,.err hst⟩
  | some v=>
   have s:=(M1 ht).1
   have hst:=V6p (M:=M) (out:=out) ha ht
   obtain ⟨e,m,d,i,k⟩:∃e m d i,I8 all M (v / 2) (a+3) out tk=(e,m,d,i):=⟨_,_,_,_,rfl⟩
   by_cases p:v / 2 < 3
   rotate_left
   ·rw [if_neg p] at hst
    have o:I8 all M (v / 2) (a+3) out tk=(2,a+3,out,tk):=by
     unfold I8
     rw [if_neg (by omega),if_neg (by omega),if_neg (by omega)]
    rw [Z0q (Y2t ht o (by decide))]
    exact .inl ⟨V1 hst,.err hst⟩
   rw [if_pos p] at hst
   have n:=X41 (M:=M) (b:=Z4c v) (tk:=tk) hb h8 s hM p
   rw [k] at n
   by_cases q:e=0
   rotate_left
   ·rw [Z0q (Y2t ht k q)]
    rcases n with ⟨h1,h2⟩ | ⟨h1,_⟩
    ·exact .inl ⟨h1,.go hst h2⟩
    exact absurd h1 q
   subst q
   have j:=Y4g (tk:=tk) hb s hM (by rw [k])
   rw [k] at j
   dsimp only at j
   have g:∀r l' o',X8n M (Z4c v) (all.drop m) d r l' o'→Z01 M (W9d (v / 2) (Z4c v)) (all.drop (a+3)) out r l' o':=by
    rcases n with ⟨h1,_⟩ | ⟨_,h2⟩
    ·exact absurd rfl h1.ne.1
    exact h2
   by_cases l:v%2=1
   ·rw [Z0q (Z9l ht k l)]
    refine .inr ⟨rfl,j.2.1,rfl,j.2.2.2.2,by dsimp only;omega,.go hst (g _ _ _ ?_)⟩
    unfold X8n
    rw [if_pos (by unfold Z4c;exact decide_eq_true l)]
    exact ⟨rfl,rfl,rfl⟩
   rw [Y7m (Y04 ht k l)]
   have t:Z4c v=false:=by unfold Z4c;exact decide_eq_false l
   rcases Y0b hb h8 f m d i (ks++[v / 2]) (ss++[d.length]) (by omega) j.2.1 j.2.2.2.2 with ⟨g1,g2⟩ | ⟨g1,g2,g3,g4,g5,g6⟩
   ·refine .inl ⟨g1,.go hst (g _ _ _ ?_)⟩
    unfold X8n
    rw [if_neg (by rw [t];decide)]
    exact g2
   refine .inr ⟨g1,g2,g3,g4,g5,.go hst (g _ _ _ ?_)⟩
   unfold X8n
   rw [if_neg (by rw [t];decide)]
   exact g6
end
end Go.Proofs.YtbkbkmgogbgofaaGreatDoor
