/- The claim's texts, put together and shortened by a program (names, spaces). -/
import Derived.Test.YtbkbkmgogbgofaaGreatDoorZk06
import Derived.Test.YtbkbkmgogbgofaaGreatDoorZk05
open List renaming length_drop→T00,drop_drop→T01,length_append→T02,drop_zero→T04,mem_singleton→T05,take_append_of_le_length→T06,append_assoc→T07,length_cons→T08
open Nat renaming zero_add→T03
namespace Go.Proofs.YtbkbkmgogbgofaaGreatDoor
set_option maxRecDepth 100000
set_option maxHeartbeats 6400000
open Go.RowKit
def Z07 (l:List Nat) (n:Nat):Option Nat:=if n≤l.length then some (E4 (l.take n)) else none
theorem N1 {l:List Nat} {n v:Nat} (h:Z07 l n=some v):n≤l.length∧v=E4 (l.take n):=by
 unfold Z07 at h
 split at h
 ·exact ⟨by assumption,(Option.some.inj h).symm⟩
 cases h
theorem Z2n {l:List Nat} {n:Nat} (h:Z07 l n=none):l.length < n:=by
 unfold Z07 at h
 split at h
 ·cases h
 omega
theorem Y07 {l:List Nat} {n v:Nat} (h:Z07 l n=some v) (X:List Nat):Z07 (l++X) n=some v:=by
 obtain ⟨a,b⟩:=N1 h
 unfold Z07
 rw [if_pos (by rw [T02];omega),T06 a,b]
theorem Z55 {all:List Nat} {a:Nat} (ha:a≤all.length) (n:Nat):I8 all a n=Z07 (all.drop a) n:=by
 unfold I8 Z07
 rw [T00]
 by_cases h:a+n≤all.length
 ·rw [if_pos h,if_pos (by omega)]
 rw [if_neg h,if_neg (by omega)]
inductive Ph where
 | hd
 | sz (b:Bool)
 | sto (b:Bool) (n:Nat)
 | cnt (b:Bool)
 | thd (b:Bool) (A B C:Nat)
 | len (b:Bool) (A B:Nat) (head ls:List Int)
 | tok (b:Bool) (lit dist:List Int)
 | cop (b:Bool) (lit dist:List Int) (n d:Nat)
inductive Z24 where
 | go (p:Ph) (l out:List Nat)
 | done (l:List Nat)
 | err (e:Nat)
def Z90 (b:Bool) (l out:List Nat):Z24:=if b=true then .done l else .go .hd l out
def Z4f (v:Nat):Bool:=decide (v%2=1)
def hdM (l out:List Nat):Z24:=
 match Z07 l 3 with
 | none=> .err 5
 | some v=>if v / 2=0 then .go (.sz (Z4f v)) (l.drop 3) out else if v / 2=1 then .go (.tok (Z4f v) I5 G7) (l.drop 3) out else if v / 2=2 then .go (.cnt (Z4f v)) (l.drop 3) out else .err 2
def szR (b:Bool) (l out:List Nat):Z24:=
 if l.length < 32 then .err 5 else if E4 (l.take 16)+E4 ((l.drop 16).take 16)≠65535 then .err 2 else .go (.sto b (E4 (l.take 16))) (l.drop 32) out
def szM (b:Bool) (l out:List Nat):Z24:=szR b (l.drop (l.length%8)) out
def Z46 (M:Nat) (b:Bool) (n:Nat) (l out:List Nat):Z24:=
 if n=0 then Z90 b l out else if l.length < 8 then .err 5 else if M≤out.length then .err 6 else .go (.sto b (n-1)) (l.drop 8) (out++[E4 (l.take 8)])
def Z79 (b:Bool) (l out:List Nat):Z24:=
 if l.length < 14 then .err 5
 else if 286 < E4 (l.take 5)+257∨30 < E4 ((l.drop 5).take 5)+1 then .err 2
 else .go (.thd b (E4 (l.take 5)+257) (E4 ((l.drop 5).take 5)+1) (E4 ((l.drop 10).take 4)+4)) (l.drop 14) out
def Z75 (b:Bool) (A B C:Nat) (l out:List Nat):Z24:=
 if l.length < 3*C then .err 5 else if D0 (F6 l 0 C) 7≠0∨Z1g l 0 C=false then .err 3 else .go (.len b A B (F6 l 0 C) []) (l.drop (3*C)) out
def X56 (b:Bool) (A B:Nat) (head:List Int) (l out:List Nat) (q:Bool×Nat×Nat×List Int):Z24:=if q.1=true then .err q.2.1 else .go (.len b A B head q.2.2.2) (l.drop q.2.2.1) out
noncomputable def Z5f (b:Bool) (A B:Nat) (head ls:List Int) (l out:List Nat):Z24:=
 if A+B≤ls.length then (if D0 (ls.take A) 15≠0∨D0 (ls.drop A) 15≠0∨ls[256]?.getD 0=0 then .err 3 else .go (.tok b (ls.take A) (ls.drop A)) l out)
 else X56 b A B head l out (E7 head l (A+B) 0 ls)
def Y4y (b:Bool) (lit dist:List Int) (n q:Nat) (l out:List Nat):Z24:=
 if 29 < q then .err 3 else match Z07 l (dX q) with
  | none=> .err 5
  | some far=>if out.length < dB q+far then .err 3 else .go (.cop b lit dist n (dB q+far)) (l.drop (dX q)) out
def X1p (b:Bool) (lit dist:List Int) (n:Nat) (l out:List Nat) (s:Nat×Nat×Nat):Z24:=if s.2.2≠0 then .err s.2.2 else Y4y b lit dist n s.1 (l.drop s.2.1) out
noncomputable def Y2n (b:Bool) (lit dist:List Int) (c:Nat) (l out:List Nat):Z24:=
 match Z07 l (lX c) with
 | none=> .err 5
 | some more=>X1p b lit dist (lB c+more) (l.drop (lX c)) out (I7 dist (l.drop (lX c)))
noncomputable def Z5p (M:Nat) (b:Bool) (lit dist:List Int) (l out:List Nat) (s:Nat×Nat×Nat):Z24:=
 if s.2.2≠0 then .err s.2.2 else if s.1=256 then Z90 b (l.drop s.2.1) out
 else if s.1 < 256 then (if M≤out.length then .err 6 else .go (.tok b lit dist) (l.drop s.2.1) (out++[s.1]))
 else if 285 < s.1 then .err 3 else Y2n b lit dist (s.1-257) (l.drop s.2.1) out
def Z4o (M:Nat) (b:Bool) (lit dist:List Int) (n d:Nat) (l out:List Nat):Z24:=
 if n=0 then .go (.tok b lit dist) l out else if M≤out.length then .err 6 else .go (.cop b lit dist (n-1) d) l (ext out d 1)
noncomputable def F9 (M:Nat) (l out:List Nat):Ph→Z24
 | .hd=>hdM l out
 | .sz b=>szM b l out
 | .sto b n=>Z46 M b n l out
 | .cnt b=>Z79 b l out
 | .thd b A B C=>Z75 b A B C l out
 | .len b A B head ls=>Z5f b A B head ls l out
 | .tok b lit dist=>Z5p M b lit dist l out (I7 lit l)
 | .cop b lit dist n d=>Z4o M b lit dist n d l out
inductive S8 (M:Nat):Ph→List Nat→List Nat→Ph→List Nat→List Nat→Prop
 | refl {p:Ph} {l o:List Nat}:S8 M p l o p l o
 | step {p p1 p2:Ph} {l l1 l2 o o1 o2:List Nat} (h:F9 M l o p= .go p1 l1 o1) (r:S8 M p1 l1 o1 p2 l2 o2):S8 M p l o p2 l2 o2
theorem S8.one {M:Nat} {p p1:Ph} {l l1 o o1:List Nat} (h:F9 M l o p= .go p1 l1 o1):S8 M p l o p1 l1 o1:= .step h .refl
theorem S8.trans {M:Nat} {p p1 p2:Ph} {l l1 l2 o o1 o2:List Nat} (h:S8 M p l o p1 l1 o1) (h2:S8 M p1 l1 o1 p2 l2 o2):S8 M p l o p2 l2 o2:=by
 induction h with
 | refl=>exact h2
 | step h _ ih=>exact .step h (ih h2)
inductive Z2 (M:Nat):Ph→List Nat→List Nat→Nat→List Nat→List Nat→Prop
 | done {p:Ph} {l l' o:List Nat} (h:F9 M l o p= .done l'):Z2 M p l o 8 l' o
 | err {p:Ph} {l o:List Nat} {e:Nat} (h:F9 M l o p= .err e):Z2 M p l o e [] o
 | go {p p1:Ph} {l l1 l' o o1 o':List Nat} {e:Nat} (h:F9 M l o p= .go p1 l1 o1) (r:Z2 M p1 l1 o1 e l' o'):Z2 M p l o e l' o'
theorem S8.ends {M:Nat} {p p1:Ph} {l l1 l' o o1 o':List Nat} {e:Nat} (h:S8 M p l o p1 l1 o1) (h2:Z2 M p1 l1 o1 e l' o'):Z2 M p l o e l' o':=by
 induction h with
 | refl=>exact h2
 | step h _ ih=>exact .go h (ih h2)
theorem Z2.det {M:Nat} {p:Ph} {l l1 l2 o o1 o2:List Nat} {e1 e2:Nat} (h:Z2 M p l o e1 l1 o1) (h2:Z2 M p l o e2 l2 o2):e1=e2∧l1=l2∧o1=o2:=by
 induction h with
 | done h=>
  cases h2 with
  | done h2=>rw [h] at h2;cases h2;exact ⟨rfl,rfl,rfl⟩
  | err h2=>rw [h] at h2;cases h2
  | go h2 _=>rw [h] at h2;cases h2
 | err h=>
  cases h2 with
  | done h2=>rw [h] at h2;cases h2
  | err h2=>rw [h] at h2;cases h2;exact ⟨rfl,rfl,rfl⟩
  | go h2 _=>rw [h] at h2;cases h2
 | go h _ ih=>
  cases h2 with
  | done h2=>rw [h] at h2;cases h2
  | err h2=>rw [h] at h2;cases h2
  | go h2 r2=>rw [h] at h2;cases h2;exact ih r2
theorem Z2.behind {M:Nat} {p p1:Ph} {l l1 l' o o1 o':List Nat} {e:Nat} (h:S8 M p l o p1 l1 o1) (h2:Z2 M p l o e l' o'):Z2 M p1 l1 o1 e l' o':=by
 induction h with
 | refl=>exact h2
 | step h _ ih=>
  cases h2 with
  | done h2=>rw [h] at h2;cases h2
  | err h2=>rw [h] at h2;cases h2
  | go h2 r2=>rw [h] at h2;cases h2;exact ih r2
def X7h (l out:List Nat):Ph→Prop
 | .hd=>True
 | .sz _=>True
 | .sto _ n=>l.length%8=0∧n≤65535
 | .cnt _=>True
 | .thd _ A B C=>257≤A∧A≤286∧1≤B∧B≤30∧4≤C∧C≤19
 | .len _ A B head ls=>257≤A∧A≤286∧1≤B∧B≤30∧D0 head 7=0∧head.length=19∧ls.length≤A+B∧∀y∈ls,0≤y∧y≤15
 | .tok _ lit dist=>D0 lit 15=0∧D0 dist 15=0∧lit.length≤288∧dist.length≤32
 | .cop _ lit dist n d=>(D0 lit 15=0∧D0 dist 15=0∧lit.length≤288∧dist.length≤32)∧n≤258∧1≤d∧d≤32768∧d≤out.length
theorem Z9i:D0 I5 15=0∧D0 G7 15=0∧I5.length≤288∧G7.length≤32:=by decide+kernel
theorem Z0v {l:List Nat} (hb:isBits l) (n:Nat):E4 (l.take n) < 2^n:=by
 have h:=L8 hb 0 n
 rwa [T04] at h
theorem Y51 {b:Bool} {l out l' out':List Nat} {p:Ph} (h:Z90 b l out= .go p l' out'):p= .hd∧l'=l∧out'=out:=by
 unfold Z90 at h
 split at h
 ·cases h
 cases h;exact ⟨rfl,rfl,rfl⟩
theorem W0n {head:List Int} {l:List Nat} {N a:Nat} {ls ls':List Int} {b:Bool} {e a':Nat} (h:E7 head l N a ls=(b,e,a',ls')) (hl:∀y∈ls,0≤y∧y≤15):∀y∈ls',0≤y∧y≤15:=by
 unfold E7 at h
 split at h
 ·cases h;exact hl
 unfold E7.lenRun at h
 generalize (I7 head (l.drop a)).1=k at h
 generalize (if k=17 then 3 else if k=18 then 7 else 2)=wd at h
 generalize (if k=18 then 11 else 3)=ba at h
 split at h
 ·rename_i f
  cases h
  intro y d
  rcases List.mem_append.1 d with d | d
  ·exact hl y d
  simp only [T05] at d;omega
 split at h
 ·cases h;exact hl
 split at h
 ·cases h;exact hl
 split at h
 ·cases h;exact hl
 cases h
 intro y d
 rcases List.mem_append.1 d with d | d
 ·exact hl y d
 rw [List.mem_replicate] at d
 obtain ⟨_,rfl⟩:=d
 split
 ·cases hg:ls.getLast? with
  | none=>exact ⟨by decide,by decide⟩
  | some z=>exact hl z (List.mem_of_getLast? hg)
 exact ⟨by decide,by decide⟩
structure Z6c (p:Ph) (l out:List Nat) (p':Ph) (l' out':List Nat):Prop where
 ok:X7h l' out' p'
 bits:∃n,l'=l.drop n
 out:∃t,out'=out++t∧t.length≤1∧∀x∈t,x < 256
def Y0g:Ph→Nat
 | .sto _ _ | .len _ _ _ _ _ | .cop _ _ _ _ _=>1
 | _=>0
def mu (p:Ph) (l:List Nat):Nat:=2*l.length+Y0g p
theorem W2o (o:List Nat) (d:Nat):ext o d 1=o++[o[o.length-d]?.getD 0]:=by
 show ext o d 0++[(ext o d 0)[o.length+0-d]?.getD 0]=_
 rfl
theorem V76 {l out l' out':List Nat} {p':Ph} (h:hdM l out= .go p' l' out'):Z6c .hd l out p' l' out'∧mu p' l' < mu .hd l:=by
 unfold hdM at h
 split at h
 ·cases h
 rename_i v a
 have b:=(N1 a).1
 split at h
 ·cases h
  exact ⟨⟨trivial,⟨3,rfl⟩,⟨[],by simp⟩⟩,by simp only [mu,Y0g,T00];omega⟩
 split at h
 ·cases h
  exact ⟨⟨Z9i,⟨3,rfl⟩,⟨[],by simp⟩⟩,by simp only [mu,Y0g,T00];omega⟩
 split at h
 ·cases h
  exact ⟨⟨trivial,⟨3,rfl⟩,⟨[],by simp⟩⟩,by simp only [mu,Y0g,T00];omega⟩
 cases h
theorem V6u {b:Bool} {l out l' out':List Nat} {p':Ph} (hb:isBits l) (h:szM b l out= .go p' l' out'):Z6c (.sz b) l out p' l' out'∧mu p' l' < mu (.sz b) l:=by
 unfold szM szR at h
 split at h
 ·cases h
 rename_i a
 split at h
 ·cases h
 cases h
 rw [T00] at a
 have d:=Z0v (F3 hb (l.length%8)) 16
 refine ⟨⟨⟨?_,by omega⟩,⟨l.length%8+32,by rw [T01]⟩,⟨[],by simp⟩⟩, ?_⟩
 ·simp only [T00];omega
 simp only [mu,Y0g,T00];omega
theorem V5v {M:Nat} {b:Bool} {n:Nat} {l out l' out':List Nat} {p':Ph} (hb:isBits l) (hp:X7h l out (.sto b n)) (h:Z46 M b n l out= .go p' l' out'):
  Z6c (.sto b n) l out p' l' out'∧(mu p' l' < mu (.sto b n) l):=by
 unfold Z46 at h
 obtain ⟨a,d⟩:=hp
 split at h
 ·obtain ⟨rfl,rfl,rfl⟩:=Y51 h
  exact ⟨⟨trivial,⟨0,by simp⟩,⟨[],by simp⟩⟩,by simp only [mu,Y0g];omega⟩
 split at h
 ·cases h
 split at h
 ·cases h
 cases h
 refine ⟨⟨⟨?_,by omega⟩,⟨8,rfl⟩,⟨_,rfl,by simp,fun x hx=> ?_⟩⟩, ?_⟩
 ·simp only [T00];omega
 ·simp only [T05] at hx;subst hx;exact Z0v hb 8
 simp only [mu,Y0g,T00];omega
theorem V64 {b:Bool} {l out l' out':List Nat} {p':Ph} (hb:isBits l) (h:Z79 b l out= .go p' l' out'):Z6c (.cnt b) l out p' l' out'∧mu p' l' < mu (.cnt b) l:=by
 unfold Z79 at h
 split at h
 ·cases h
 split at h
 ·cases h
 cases h
 have a:=L8 hb 10 4
 exact ⟨⟨⟨by omega,by omega,by omega,by omega,by omega,by omega⟩,⟨14,rfl⟩,⟨[],by simp⟩⟩,by simp only [mu,Y0g,T00];omega⟩
theorem V5t {b:Bool} {A B C:Nat} {l out l' out':List Nat} {p':Ph} (hp:X7h l out (.thd b A B C)) (h:Z75 b A B C l out= .go p' l' out'):Z6c (.thd b A B C) l out p' l' out'∧mu p' l' < mu (.thd b A B C) l:=by
 obtain ⟨d,f,g,i,j,k⟩:=hp
 unfold Z75 at h
 split at h
 ·cases h
 split at h
 ·cases h
 rename_i a
 cases h
 exact ⟨⟨⟨d,f,g,i,Decidable.not_not.1 (not_or.1 a).1,V3 _ _ _,by simp,by simp⟩,⟨3*C,rfl⟩,⟨[],by simp⟩⟩,by simp only [mu,Y0g,T00];omega⟩
theorem V5x {b:Bool} {A B:Nat} {head ls:List Int} {l out l' out':List Nat} {p':Ph} (hp:X7h l out (.len b A B head ls)) (h:Z5f b A B head ls l out= .go p' l' out'):Z6c (.len b A B head ls) l out p' l' out'∧mu p' l' < mu (.len b A B head ls) l:=by
 obtain ⟨p,q,r,s,t,x,h7,y⟩:=hp
 unfold Z5f at h
 split at h
 ·split at h
  ·cases h
  rename_i hf n
  cases h
  obtain ⟨z,f⟩:=not_or.1 n
  obtain ⟨f,c3⟩:=not_or.1 f
  exact ⟨⟨⟨Decidable.not_not.1 z,Decidable.not_not.1 f,by rw [List.length_take];omega,by rw [T00];omega⟩,⟨0,by simp⟩,⟨[],by simp⟩⟩,by simp only [mu,Y0g];omega⟩
 rename_i o
 obtain ⟨j,k,g,m,d⟩:∃j k g m,E7 head l (A+B) 0 ls=(j,k,g,m):=⟨_,_,_,_,rfl⟩
 rw [d] at h
 unfold X56 at h
 split at h
 ·cases h
 rename_i a
 cases h
 simp only [Bool.not_eq_true] at a
 subst a
 have i:=Z41 d
 simp only at i
 subst i
 obtain ⟨g1,g2,g3⟩:=Z2e d o (Nat.zero_le _)
 exact ⟨⟨⟨p,q,r,s,t,x,g3,W0n d y⟩,⟨g,rfl⟩,⟨[],by simp⟩⟩,by simp only [mu,Y0g,T00];omega⟩
theorem V5e {M:Nat} {b:Bool} {lit dist:List Int} {l out l' out':List Nat} {p':Ph} (hb:isBits l) (hp:X7h l out (.tok b lit dist)) (h:Z5p M b lit dist l out (I7 lit l)= .go p' l' out'):
  Z6c (.tok b lit dist) l out p' l' out'∧(mu p' l' < mu (.tok b lit dist) l):=by
 obtain ⟨k,n,e,o⟩:∃k n e,I7 lit l=(k,n,e):=⟨_,_,_,rfl⟩
 rw [o] at h
 unfold Z5p at h
 simp only at h
 split at h
 ·cases h
 rename_i m
 simp only [Decidable.not_not] at m
 subst m
 obtain ⟨_,s1,s2⟩:=P7 o
 split at h
 ·obtain ⟨rfl,rfl,rfl⟩:=Y51 h
  exact ⟨⟨trivial,⟨n,rfl⟩,⟨[],by simp⟩⟩,by simp only [mu,Y0g,T00];omega⟩
 split at h
 ·rename_i hk
  split at h
  ·cases h
  cases h
  exact ⟨⟨hp,⟨n,rfl⟩,⟨[k],rfl,by simp,fun x hx=>by simp only [T05] at hx;omega⟩⟩,by simp only [mu,Y0g,T00];omega⟩
 split at h
 ·cases h
 rename_i y z a0
 unfold Y2n at h
 split at h
 ·cases h
 rename_i a ht
 obtain ⟨t1,t2⟩:=N1 ht
 have f:a < 2^lX (k-257):=by rw [t2];exact Z0v (F3 hb n) _
 have r:=Y55 (k-257) (by omega)
 obtain ⟨q,d,p,i⟩:∃q d p,I7 dist ((l.drop n).drop (lX (k-257)))=(q,d,p):=⟨_,_,_,rfl⟩
 rw [i] at h
 unfold X1p at h
 dsimp only at h
 split at h
 ·cases h
 unfold Y4y at h
 split at h
 ·cases h
 rename_i hq
 split at h
 ·cases h
 rename_i far g
 obtain ⟨t3,t4⟩:=N1 g
 split at h
 ·cases h
 rename_i hd
 cases h
 have j:far < 2^dX q:=by rw [t4];exact Z0v (F3 (F3 (F3 hb n) _) d) _
 have s:=X1h q (by omega)
 have t:=(X62 q (by omega)).1
 refine ⟨⟨⟨hp,by omega,by omega,by omega,by omega⟩,⟨n+(lX (k-257)+(d+dX q)),by simp only [T01,Nat.add_assoc]⟩,⟨[],by simp⟩⟩, ?_⟩
 simp only [mu,Y0g,T00]
 omega
theorem V5l {M:Nat} {b:Bool} {lit dist:List Int} {n d:Nat} {l out l' out':List Nat} {p':Ph} (ho:∀x∈out,x < 256) (hp:X7h l out (.cop b lit dist n d)) (h:Z4o M b lit dist n d l out= .go p' l' out'):
  Z6c (.cop b lit dist n d) l out p' l' out'∧(mu p' l' < mu (.cop b lit dist n d) l∨mu p' l'=mu (.cop b lit dist n d) l∧out'.length=out.length+1):=by
 obtain ⟨f,j,g,i,k⟩:=hp
 unfold Z4o at h
 split at h
 ·cases h
  exact ⟨⟨f,⟨0,by simp⟩,⟨[],by simp⟩⟩,.inl (by simp only [mu,Y0g];omega)⟩
 split at h
 ·cases h
 cases h
 have a:=V0e out d ho 1
 rw [W2o] at a
 refine ⟨⟨⟨f,by omega,g,i,by rw [G3];omega⟩,⟨0,by simp⟩,⟨_,W2o _ _,by simp,fun x hx'=>a x (List.mem_append_right _ hx')⟩⟩,.inr ⟨rfl,by rw [G3]⟩⟩
theorem X69 {M:Nat} {p p':Ph} {l out l' out':List Nat} (hb:isBits l) (ho:∀x∈out,x < 256) (hp:X7h l out p) (h:F9 M l out p= .go p' l' out'):
  Z6c p l out p' l' out'∧(mu p' l' < mu p l∨mu p' l'=mu p l∧out'.length=out.length+1):=by
 cases p with
 | hd=>exact (V76 h).imp id .inl
 | sz b=>exact (V6u hb h).imp id .inl
 | sto b n=>exact (V5v hb hp h).imp id .inl
 | cnt b=>exact (V64 hb h).imp id .inl
 | thd b A B C=>exact (V5t hp h).imp id .inl
 | len b A B head ls=>exact (V5x hp h).imp id .inl
 | tok b lit dist=>exact (V5e hb hp h).imp id .inl
 | cop b lit dist n d=>exact V5l ho hp h
structure MOk (p:Ph) (l out:List Nat):Prop where
 bits:isBits l
 byt:∀x∈out,x < 256
 ph:X7h l out p
theorem MOk.step {M:Nat} {p p':Ph} {l out l' out':List Nat} (h:MOk p l out) (hs:F9 M l out p= .go p' l' out'):MOk p' l' out'∧(∃t,out'=out++t)∧l'.length≤l.length:=by
 obtain ⟨⟨d,⟨n,a⟩,⟨t,b,_,f⟩⟩,_⟩:=X69 h.bits h.byt h.ph hs
 refine ⟨⟨by rw [a];exact F3 h.bits n,fun x hx=> ?_,d⟩,⟨t,b⟩,by rw [a,T00];omega⟩
 rw [b] at hx
 rcases List.mem_append.1 hx with hx | hx
 ·exact h.byt x hx
 exact f x hx
theorem MOk.reach {M:Nat} {p p':Ph} {l out l' out':List Nat} (h:MOk p l out) (hr:S8 M p l out p' l' out'):MOk p' l' out'∧(∃t,out'=out++t)∧l'.length≤l.length:=by
 induction hr with
 | refl=>exact ⟨h,⟨[],by simp⟩,Nat.le_refl _⟩
 | step hs _ ih=>
  obtain ⟨a,⟨t,b⟩,i⟩:=h.step hs
  obtain ⟨d,⟨f,g⟩,j⟩:=ih a
  exact ⟨d,⟨t++f,by rw [g,b,T07]⟩,by omega⟩
theorem MOk.ends {M:Nat} {p:Ph} {l out l' out':List Nat} {e:Nat} (h:MOk p l out) (hr:Z2 M p l out e l' out'):(∀x∈out',x < 256)∧∃t,out'=out++t:=by
 induction hr with
 | done _=>exact ⟨h.byt,[],by simp⟩
 | err _=>exact ⟨h.byt,[],by simp⟩
 | go hs _ ih=>
  obtain ⟨a,⟨t,b⟩,_⟩:=h.step hs
  obtain ⟨d,f,g⟩:=ih a
  exact ⟨d,t++f,by rw [g,b,T07]⟩
theorem MOk.start {l:List Nat} (h:isBits l):MOk .hd l []:=⟨h,by simp,trivial⟩
def Z24.more (X:List Nat):Z24→Z24
 | .go p l o=> .go p (l++X) o
 | .done l=> .done (l++X)
 | .err e=> .err e
theorem Q4 {l:List Nat} {n:Nat} (h:n≤l.length) (X:List Nat):(l++X).drop n=l.drop n++X:=List.drop_append_of_le_length h
theorem Z5u {l:List Nat} {n:Nat} (h:n≤l.length) (X:List Nat):(l++X).take n=l.take n:=T06 h
theorem Y0x {l:List Nat} {a n:Nat} (h:a+n≤l.length) (X:List Nat):((l++X).drop a).take n=(l.drop a).take n:=by
 rw [Q4 (by omega),Z5u (by rw [T00];omega)]
theorem W0y {l:List Nat} {a n v:Nat} (h:I8 l a n=some v) (X:List Nat):I8 (l++X) a n=some v:=by
 obtain ⟨b,d⟩:=M2 h
 unfold I8
 rw [if_pos (by rw [T02];omega),Y0x b,d]
theorem Y2m {l:List Int} {r X:List Nat} (hl:∀a∈l,0≤a∧a≤15) (hb:isBits (r++X)) (h:(I7 l r).2.2≠5):I7 l (r++X)=I7 l r:=by
 rw [Z8j hb hl ((Y0p l r).part h)]
theorem Y79 {l:List Nat} (X:List Nat):∀C,3*C≤l.length→F6 (l++X) 0 C=F6 l 0 C
 | 0,_=>rfl
 | C+1,h=>by rw [F6,F6,Y79 X C (by omega),Y0x (by omega)]
theorem X0d {l:List Nat} (X:List Nat):∀C,3*C≤l.length→Z1g (l++X) 0 C=Z1g l 0 C
 | 0,_=>rfl
 | C+1,h=>by rw [Z1g,Z1g,X0d X C (by omega),Y0x (by omega)]
theorem X1k {head:List Int} {l X:List Nat} {N:Nat} {ls:List Int} (hl:∀a∈head,0≤a∧a≤15) (hb:isBits (l++X)) {b:Bool} {e a':Nat} {ls':List Int}
  (h:E7 head l N 0 ls=(b,e,a',ls')) (he:e≠5):E7 head (l++X) N 0 ls=(b,e,a',ls'):=by
 obtain ⟨k,n,d,g⟩:∃k n d,I7 head (l.drop 0)=(k,n,d):=⟨_,_,_,rfl⟩
 have f:d≠5→I7 head ((l++X).drop 0)=(k,n,d):=fun h5=>by
  rw [T04] at g⊢
  rw [Y2m hl hb (by rw [g];exact h5),g]
 by_cases i:d=0
 ·subst i
  rw [Z54 g] at h
  rw [Z54 (f (by decide))]
  unfold E7.lenRun at h⊢
  generalize (if k=17 then 3 else if k=18 then 7 else 2)=wd at h⊢
  generalize (if k=18 then 11 else 3)=ba at h⊢
  generalize (if k=16 then ls.getLast?.getD 0 else 0)=y at h⊢
  split
  ·rename_i j;rw [if_pos j] at h;exact h
  rename_i j
  rw [if_neg j] at h
  split
  ·rename_i m;rw [if_pos m] at h;exact h
  rename_i m
  rw [if_neg m] at h
  cases ht:I8 l (0+n) wd with
  | none=>rw [ht] at h;cases h;exact absurd rfl he
  | some v=>rw [ht] at h;rw [W0y ht X];exact h
 rw [Z8o g i] at h
 obtain ⟨rfl,rfl,rfl,rfl⟩:true=b∧d=e∧0=a'∧ls=ls':=by simpa using h
 exact Z8o (f he) i
section
variable {M:Nat} {l X out:List Nat} {b:Bool}
theorem X15:Z90 b (l++X) out=(Z90 b l out).more X:=by
 unfold Z90
 split <;> rfl
theorem V2b (hn:hdM l out≠ .err 5):hdM (l++X) out=(hdM l out).more X:=by
 unfold hdM at hn⊢
 cases ht:Z07 l 3 with
 | none=>rw [ht] at hn;exact absurd rfl hn
 | some v=>
  rw [Y07 ht X]
  have a:=(N1 ht).1
  simp only [Q4 a]
  split
  ·rfl
  split
  ·rfl
  split <;> rfl
theorem V36 (h8:X.length%8=0) (hn:szM b l out≠ .err 5):szM b (l++X) out=(szM b l out).more X:=by
 unfold szM at hn⊢
 rw [show (l++X).length%8=l.length%8 by rw [T02];omega,Q4 (by omega)]
 generalize l.drop (l.length%8)=l1 at hn⊢
 unfold szR at hn⊢
 by_cases h:l1.length < 32
 ·rw [if_pos h] at hn;exact absurd rfl hn
 rw [if_neg h,if_neg (by rw [T02];omega),Z5u (by omega),Q4 (by omega),Z5u (by rw [T00];omega),Q4 (by omega)]
 split <;> rfl
theorem V0v {n:Nat} (hn:Z46 M b n l out≠ .err 5):Z46 M b n (l++X) out=(Z46 M b n l out).more X:=by
 unfold Z46 at hn⊢
 by_cases a:n=0
 ·rw [if_pos a,if_pos a];exact X15
 rw [if_neg a] at hn
 rw [if_neg a,if_neg a]
 by_cases h:l.length < 8
 ·rw [if_pos h] at hn;exact absurd rfl hn
 rw [if_neg h,if_neg (by rw [T02];omega),Z5u (by omega),Q4 (by omega)]
 split <;> rfl
theorem V01 (hn:Z79 b l out≠ .err 5):Z79 b (l++X) out=(Z79 b l out).more X:=by
 unfold Z79 at hn⊢
 by_cases h:l.length < 14
 ·rw [if_pos h] at hn;exact absurd rfl hn
 rw [if_neg h,if_neg (by rw [T02];omega),Z5u (by omega),Y0x (by omega),Y0x (by omega),Q4 (by omega)]
 split <;> rfl
theorem W76 {A B C:Nat} (hn:Z75 b A B C l out≠ .err 5):Z75 b A B C (l++X) out=(Z75 b A B C l out).more X:=by
 unfold Z75 at hn⊢
 by_cases h:l.length < 3*C
 ·rw [if_pos h] at hn;exact absurd rfl hn
 rw [if_neg h,if_neg (by rw [T02];omega),Y79 X C (by omega),X0d X C (by omega),Q4 (by omega)]
 split <;> rfl
theorem W6x {A B:Nat} {head ls:List Int} (hl:∀a∈head,0≤a∧a≤15) (hb:isBits (l++X)) (hn:Z5f b A B head ls l out≠ .err 5):Z5f b A B head ls (l++X) out=(Z5f b A B head ls l out).more X:=by
 unfold Z5f at hn⊢
 by_cases h:A+B≤ls.length
 ·rw [if_pos h,if_pos h]
  split <;> rfl
 rw [if_neg h] at hn
 rw [if_neg h,if_neg h]
 obtain ⟨f,i,g,k,d⟩:∃f i g k,E7 head l (A+B) 0 ls=(f,i,g,k):=⟨_,_,_,_,rfl⟩
 rw [d] at hn⊢
 have m:i≠5:=by
  rintro rfl
  cases f with
  | true=>exact hn rfl
  | false=>have:=Z41 d;cases this
 rw [X1k hl hb d m]
 unfold X56
 cases f with
 | true=>rfl
 | false=>
  have j:=Z41 d
  simp only at j
  subst j
  have n:=(Z2e d h (Nat.zero_le _)).2.1
  show Z24.go _ ((l++X).drop g) out= .go _ (l.drop g++X) out
  rw [Q4 n]
theorem V0p {lit dist:List Int} {n q:Nat} (hn:Y4y b lit dist n q l out≠ .err 5):Y4y b lit dist n q (l++X) out=(Y4y b lit dist n q l out).more X:=by
 unfold Y4y at hn⊢
 by_cases h:29 < q
 ·rw [if_pos h,if_pos h];rfl
 rw [if_neg h] at hn
 rw [if_neg h,if_neg h]
 cases ht:Z07 l (dX q) with
 | none=>rw [ht] at hn;exact absurd rfl hn
 | some v=>
  rw [Y07 ht X]
  simp only [Q4 (N1 ht).1]
  split <;> rfl
theorem W7p {lit dist:List Int} {c:Nat} (hd:∀a∈dist,0≤a∧a≤15) (hb:isBits (l++X)) (hn:Y2n b lit dist c l out≠ .err 5):Y2n b lit dist c (l++X) out=(Y2n b lit dist c l out).more X:=by
 unfold Y2n at hn⊢
 cases ht:Z07 l (lX c) with
 | none=>rw [ht] at hn;exact absurd rfl hn
 | some v=>
  rw [ht] at hn
  have g:=(N1 ht).1
  rw [Y07 ht X]
  simp only [Q4 g] at hn⊢
  obtain ⟨k,n,e,d⟩:∃k n e,I7 dist (l.drop (lX c))=(k,n,e):=⟨_,_,_,rfl⟩
  have f:isBits (l.drop (lX c)++X):=by rw [←Q4 g];exact F3 hb _
  rw [d] at hn⊢
  have j:e≠5:=by
   rintro rfl
   exact hn rfl
  rw [Y2m hd f (by rw [d];exact j),d]
  unfold X1p at hn⊢
  by_cases i:e=0
  ·subst i
   have m:=(P7 d).2.2
   simp only [ne_eq,not_true_eq_false,if_false] at hn⊢
   rw [Q4 m]
   exact V0p hn
  simp only [ne_eq,i,not_false_eq_true,if_true]
  rfl
theorem W8z {lit dist:List Int} (hl:∀a∈lit,0≤a∧a≤15) (hd:∀a∈dist,0≤a∧a≤15) (hb:isBits (l++X)) (hn:Z5p M b lit dist l out (I7 lit l)≠ .err 5):
  Z5p M b lit dist (l++X) out (I7 lit (l++X))=(Z5p M b lit dist l out (I7 lit l)).more X:=by
 obtain ⟨k,n,e,d⟩:∃k n e,I7 lit l=(k,n,e):=⟨_,_,_,rfl⟩
 rw [d] at hn⊢
 have j:e≠5:=by
  rintro rfl
  exact hn rfl
 rw [Y2m hl hb (by rw [d];exact j),d]
 unfold Z5p at hn⊢
 by_cases i:e=0
 ·subst i
  have g:=(P7 d).2.2
  simp only [ne_eq,not_true_eq_false,if_false] at hn⊢
  rw [Q4 g]
  split
  ·exact X15
  rename_i m
  rw [if_neg m] at hn
  split
  ·split <;> rfl
  rename_i o
  rw [if_neg o] at hn
  split
  ·rfl
  rename_i p
  rw [if_neg p] at hn
  have f:isBits (l.drop n++X):=by rw [←Q4 g];exact F3 hb _
  exact W7p hd f hn
 simp only [ne_eq,i,not_false_eq_true,if_true]
 rfl
end
theorem Z9s {M:Nat} {p:Ph} {l out:List Nat} (X:List Nat) (hX:isBits X) (h8:X.length%8=0) (h:MOk p l out) (hn:F9 M l out p≠ .err 5):F9 M (l++X) out p=(F9 M l out p).more X:=by
 have f:=D8 h.bits hX
 cases p with
 | hd=>exact V2b hn
 | sz b=>exact V36 h8 hn
 | sto b n=>exact V0v hn
 | cnt b=>exact V01 hn
 | thd b A B C=>exact W76 hn
 | len b A B head ls=>exact W6x (fun a ha=>by have:=Z4l h.ph.2.2.2.2.1 a ha;omega) f hn
 | tok b lit dist=>exact W8z (Z4l h.ph.1) (Z4l h.ph.2.1) f hn
 | cop b lit dist n d=>
  show Z4o M b lit dist n d (l++X) out=(Z4o M b lit dist n d l out).more X
  unfold Z4o
  split
  ·rfl
  split <;> rfl
theorem X2w {head:List Int} {bs:List Nat} {N a e a':Nat} {l l':List Int} (h:E7 head bs N a l=(true,e,a',l')):e=2∨e=3∨e=5:=by
 unfold E7 at h
 split at h
 ·rename_i b
  cases h
  rcases (Y0p head (bs.drop a)).errs with h1 | h1 | h1
  ·exact absurd h1 b
  ·exact .inr (.inl h1)
  exact .inr (.inr h1)
 unfold E7.lenRun at h
 generalize (I7 head (bs.drop a)).1=k at h
 generalize (if k=17 then 3 else if k=18 then 7 else 2)=wd at h
 generalize (if k=18 then 11 else 3)=ba at h
 generalize (if k=16 then l.getLast?.getD 0 else 0)=y at h
 split at h
 ·cases h
 split at h
 ·cases h;exact .inl rfl
 split at h
 ·cases h;exact .inr (.inr rfl)
 split at h
 ·cases h;exact .inl rfl
 cases h
theorem X58 {b:Bool} {l out:List Nat} {e:Nat} (h:Z90 b l out= .err e):False:=by
 unfold Z90 at h
 split at h <;> cases h
theorem X52 {l:List Int} {r:List Nat} (h:(I7 l r).2.2≠0):(I7 l r).2.2=3∨(I7 l r).2.2=5:=(Y0p l r).errs.resolve_left h
theorem V1 {M:Nat} {p:Ph} {l out:List Nat} {e:Nat} (h:F9 M l out p= .err e):e=2∨e=3∨e=5∨e=6:=by
 cases p with
 | hd=>
  have a:hdM l out= .err e:=h
  unfold hdM at a
  split at a
  ·cases a;decide
  split at a
  ·cases a
  split at a
  ·cases a
  split at a
  ·cases a
  cases a;decide
 | sz b=>
  have a:szM b l out= .err e:=h
  unfold szM szR at a
  split at a
  ·cases a;decide
  split at a
  ·cases a;decide
  cases a
 | sto b n=>
  have a:Z46 M b n l out= .err e:=h
  unfold Z46 at a
  split at a
  ·exact (X58 a).elim
  split at a
  ·cases a;decide
  split at a
  ·cases a;decide
  cases a
 | cnt b=>
  have a:Z79 b l out= .err e:=h
  unfold Z79 at a
  split at a
  ·cases a;decide
  split at a
  ·cases a;decide
  cases a
 | thd b A B C=>
  have a:Z75 b A B C l out= .err e:=h
  unfold Z75 at a
  split at a
  ·cases a;decide
  split at a
  ·cases a;decide
  cases a
 | len b A B head ls=>
  have a:Z5f b A B head ls l out= .err e:=h
  unfold Z5f at a
  split at a
  ·split at a
   ·cases a;decide
   cases a
  obtain ⟨g,i,j,k,m⟩:∃g i j k,E7 head l (A+B) 0 ls=(g,i,j,k):=⟨_,_,_,_,rfl⟩
  rw [m] at a
  cases g with
  | true=>
   unfold X56 at a
   rw [if_pos rfl] at a
   cases a
   have:=X2w m
   simp only
   omega
  | false=>cases a
 | tok b lit dist=>
  have a:Z5p M b lit dist l out (I7 lit l)= .err e:=h
  unfold Z5p at a
  split at a
  ·rename_i f
   cases a
   have:=X52 f
   omega
  split at a
  ·exact (X58 a).elim
  split at a
  ·split at a
   ·cases a;decide
   cases a
  split at a
  ·cases a;decide
  unfold Y2n at a
  split at a
  ·cases a;decide
  unfold X1p at a
  split at a
  ·rename_i f
   cases a
   have:=X52 f
   omega
  unfold Y4y at a
  split at a
  ·cases a;decide
  split at a
  ·cases a;decide
  split at a
  ·cases a;decide
  cases a
 | cop b lit dist n d=>
  have a:Z4o M b lit dist n d l out= .err e:=h
  unfold Z4o at a
  split at a
  ·cases a
  split at a
  ·cases a;decide
  cases a
theorem Z2.more {M:Nat} {p:Ph} {l out l' out' X:List Nat} {e:Nat} (hX:isBits X) (h8:X.length%8=0) (h:MOk p l out) (he:e≠5) (hr:Z2 M p l out e l' out'):Z2 M p (l++X) out e (if e=8 then l'++X else []) out':=by
 induction hr with
 | done hs=>exact .done (by rw [Z9s X hX h8 h (by rw [hs];intro h;cases h),hs];rfl)
 | err hs=>
  have a:=(Z9s X hX h8 h (by rw [hs];intro h;cases h;exact he rfl)).trans (by rw [hs])
  have:=V1 hs
  rw [if_neg (by omega)]
  exact .err a
 | go hs _ ih=>
  have a:=(Z9s X hX h8 h (by rw [hs];intro h;cases h)).trans (by rw [hs])
  exact .go a (ih (h.step hs).1 he)
section
variable {M k:Nat} {p p':Ph} {l out l' o':List Nat}
theorem X0n (_hk:k≤M) (h:F9 M l out p= .go p' l' o'):(o'.length≤k→F9 k l out p= .go p' l' o')∧(k < o'.length→out.length≤k→F9 k l out p= .err 6):=by
 cases p with
 | hd=>
  refine ⟨fun _=>h,fun f h4=> ?_⟩
  have a:hdM l out= .go p' l' o':=h
  unfold hdM at a
  split at a
  ·cases a
  split at a
  ·cases a;omega
  split at a
  ·cases a;omega
  split at a
  ·cases a;omega
  cases a
 | sz b=>
  refine ⟨fun _=>h,fun f h4=> ?_⟩
  have a:szM b l out= .go p' l' o':=h
  unfold szM szR at a
  split at a
  ·cases a
  split at a
  ·cases a
  cases a;omega
 | sto b n=>
  show (o'.length≤k→Z46 k b n l out=_)∧(_→_→Z46 k b n l out=_)
  have a:Z46 M b n l out= .go p' l' o':=h
  unfold Z46 at a⊢
  by_cases g:n=0
  ·rw [if_pos g] at a⊢
   obtain ⟨_,_,i⟩:=Y51 a
   exact ⟨fun _=>a,fun f h4=>by rw [i] at f;omega⟩
  rw [if_neg g] at a⊢
  split at a
  ·cases a
  rename_i j
  rw [if_neg j]
  split at a
  ·cases a
  cases a
  rw [T02]
  simp only [T08,List.length_nil]
  exact ⟨fun f=>if_neg (by omega),fun f h4=>if_pos (by omega)⟩
 | cnt b=>
  refine ⟨fun _=>h,fun f h4=> ?_⟩
  have a:Z79 b l out= .go p' l' o':=h
  unfold Z79 at a
  split at a
  ·cases a
  split at a
  ·cases a
  cases a;omega
 | thd b A B C=>
  refine ⟨fun _=>h,fun f h4=> ?_⟩
  have a:Z75 b A B C l out= .go p' l' o':=h
  unfold Z75 at a
  split at a
  ·cases a
  split at a
  ·cases a
  cases a;omega
 | len b A B head ls=>
  refine ⟨fun _=>h,fun f h4=> ?_⟩
  have a:Z5f b A B head ls l out= .go p' l' o':=h
  unfold Z5f X56 at a
  split at a
  ·split at a
   ·cases a
   cases a;omega
  split at a
  ·cases a
  cases a;omega
 | tok b lit dist=>
  show (o'.length≤k→Z5p k b lit dist l out (I7 lit l)=_)∧(_→_→Z5p k b lit dist l out (I7 lit l)=_)
  have a:Z5p M b lit dist l out (I7 lit l)= .go p' l' o':=h
  unfold Z5p at a⊢
  split at a
  ·cases a
  rename_i j
  rw [if_neg j]
  split at a
  ·rename_i m
   rw [if_pos m]
   obtain ⟨_,_,i⟩:=Y51 a
   exact ⟨fun _=>a,fun f h4=>by rw [i] at f;omega⟩
  rename_i m
  rw [if_neg m]
  split at a
  ·rename_i f
   rw [if_pos f]
   split at a
   ·cases a
   cases a
   rw [T02]
   simp only [T08,List.length_nil]
   exact ⟨fun f=>if_neg (by omega),fun f h4=>if_pos (by omega)⟩
  rename_i f
  rw [if_neg f]
  refine ⟨fun _=>a,fun h4 i=> ?_⟩
  split at a
  ·cases a
  unfold Y2n at a
  split at a
  ·cases a
  unfold X1p at a
  split at a
  ·cases a
  unfold Y4y at a
  split at a
  ·cases a
  split at a
  ·cases a
  split at a
  ·cases a
  cases a;omega
 | cop b lit dist n d=>
  show (o'.length≤k→Z4o k b lit dist n d l out=_)∧(_→_→Z4o k b lit dist n d l out=_)
  have a:Z4o M b lit dist n d l out= .go p' l' o':=h
  unfold Z4o at a⊢
  by_cases g:n=0
  ·rw [if_pos g] at a⊢
   cases a
   exact ⟨fun _=>rfl,fun f h4=>by omega⟩
  rw [if_neg g] at a⊢
  split at a
  ·cases a
  cases a
  rw [G3]
  exact ⟨fun f=>if_neg (by omega),fun f h4=>if_pos (by omega)⟩
end
def X8q (M:Nat) (b:Bool) (l out:List Nat) (e:Nat) (l' o':List Nat):Prop:=if b=true then e=8∧l'=l∧o'=out else Z2 M .hd l out e l' o'
section
variable {M:Nat} {p p1:Ph} {b:Bool} {l l0 l1 l2 l' out o1 o2 o':List Nat} {e:Nat}
theorem W51 (h:F9 M l0 out p=Z90 b l out) (hk:X8q M b l out e l' o'):Z2 M p l0 out e l' o':=by
 unfold Z90 at h
 unfold X8q at hk
 split at hk
 ·rename_i a
  rw [if_pos a] at h
  obtain ⟨rfl,rfl,rfl⟩:=hk
  exact .done h
 rename_i a
 rw [if_neg a] at h
 exact .go h hk
def Bad (e:Nat):Prop:=e=2∨e=3∨e=5∨e=6
theorem Bad.ne {e:Nat} (h:Bad e):e≠0∧e≠8:=by unfold Bad at h;omega
def Z4e (M:Nat) (p:Ph) (l out:List Nat) (b:Bool) (e:Nat) (l1 out1:List Nat):Prop:=
 (Bad e∧Z2 M p l out e [] out1)∨(e=0∧∀r l' o',X8q M b l1 out1 r l' o'→Z2 M p l out r l' o')
theorem Z4e.reach (h:S8 M p l out p1 l1 o1) (h2:Z4e M p1 l1 o1 b e l2 o2):Z4e M p l out b e l2 o2:=
 h2.imp (fun ⟨h3,h4⟩=>⟨h3,h.ends h4⟩) (fun ⟨h3,h4⟩=>⟨h3,fun r l' o' hk=>h.ends (h4 r l' o' hk)⟩)
theorem Z4e.go (h:F9 M l out p= .go p1 l1 o1) (h2:Z4e M p1 l1 o1 b e l2 o2):Z4e M p l out b e l2 o2:=h2.reach (.one h)
theorem Z4e.err (h:F9 M l out p= .err e):Z4e M p l out b e l1 out:= .inl ⟨V1 h,.err h⟩
theorem Z4e.fin (h:F9 M l out p=Z90 b l1 out):Z4e M p l out b 0 l1 out:= .inr ⟨rfl,fun _ _ _ hk=>W51 h hk⟩
end
section
variable {M:Nat} {b:Bool} {all:List Nat}
theorem Y83:∀ (n a:Nat) (out:List Nat),a≤all.length→Z4e M (.sto b n) (all.drop a) out b (T5 all M n a out).1 (all.drop (T5 all M n a out).2.1) (T5 all M n a out).2.2
 | 0,a,out,_=>Z4e.fin (by show Z46 M b 0 _ _=_;unfold Z46;rw [if_pos rfl];rfl)
 | n+1,a,out,ha=>by
  have hst:F9 M (all.drop a) out (.sto b (n+1))=if all.length-a < 8 then .err 5 else if M≤out.length then .err 6 else .go (.sto b n) (all.drop (a+8)) (out++[E4 ((all.drop a).take 8)]):=by
   show Z46 M b (n+1) _ _=_
   unfold Z46
   rw [if_neg (Nat.succ_ne_zero n),T00,T01]
   rfl
  cases ht:I8 all a 8 with
  | none=>
   have d:all.length-a < 8:=by
    unfold I8 at ht
    split at ht
    ·cases ht
    omega
   rw [if_pos d] at hst
   rw [T5,ht]
   exact .err hst
  | some c=>
   obtain ⟨d,g⟩:=M2 ht
   rw [if_neg (by omega)] at hst
   rw [T5,ht]
   dsimp only
   by_cases f:M≤out.length
   ·rw [if_pos f] at hst⊢
    exact .err hst
   rw [if_neg f] at hst⊢
   rw [←g] at hst
   exact .go hst (Y83 n (a+8) _ d)
theorem X1f {a:Nat} {out:List Nat} (h8:all.length%8=0) (ha:a≤all.length):Z4e M (.sz b) (all.drop a) out b (N9 all M a out).1 (all.drop (N9 all M a out).2.1) (N9 all M a out).2.2:=by
 have d:F9 M (all.drop a) out (.sz b)=szR b (all.drop (V9 a)) out:=by
  show szM b (all.drop a) out=_
  unfold szM
  rw [T00,T01,show a+(all.length-a)%8=V9 a by unfold V9;omega]
 unfold szR at d
 rw [T00] at d
 unfold N9
 dsimp only
 by_cases g:all.length < V9 a+32
 ·rw [if_pos g]
  rw [if_pos (by omega)] at d
  exact .err d
 rw [if_neg g]
 rw [if_neg (by omega),T01,T01] at d
 split
 ·rename_i f
  rw [if_pos f] at d
  exact .err d
 rename_i f
 rw [if_neg f] at d
 exact .go d (Y83 _ _ _ (by omega))
theorem W2t (o:List Nat) (d:Nat):∀n,ext (ext o d 1) d n=ext o d (n+1)
 | 0=>rfl
 | n+1=>by
  have ih:=W2t o d n
  show ext (ext o d 1) d n++[(ext (ext o d 1) d n)[(ext o d 1).length+n-d]?.getD 0]=ext o d (n+1)++[(ext o d (n+1))[o.length+(n+1)-d]?.getD 0]
  rw [ih,G3,show o.length+1+n=o.length+(n+1) by omega]
end
section
variable {M:Nat} {b:Bool} {all:List Nat} {lit dist:List Int}
theorem Y1p {d:Nat} {l:List Nat} (m:Nat):∀ (n:Nat) (out:List Nat),out.length+n≤M→S8 M (.cop b lit dist (m+n) d) l out (.cop b lit dist m d) l (ext out d n)
 | 0,_,_=> .refl
 | n+1,out,h=>by
  have hst:F9 M l out (.cop b lit dist (m+(n+1)) d)= .go (.cop b lit dist (m+n) d) l (ext out d 1):=by
   show Z4o M b lit dist (m+(n+1)) d l out=_
   unfold Z4o
   rw [if_neg (by omega),if_neg (by omega)]
   rfl
  have a:=Y1p (d:=d) (l:=l) m n (ext out d 1) (by rw [G3];omega)
  rw [W2t] at a
  exact .step hst a
theorem W2i {l out:List Nat} {k n e:Nat} (h:I7 lit l=(k,n,e)):F9 M l out (.tok b lit dist)=Z5p M b lit dist l out (k,n,e):=by
 show Z5p M b lit dist l out (I7 lit l)=_
 rw [h]
theorem V68 {a q L:Nat} {out:List Nat} (ha:a≤all.length):Y4y b lit dist L q (all.drop a) out=
  if 29 < q then .err 3 else match I8 all a (dX q) with
   | none=> .err 5
   | some far=>if out.length < dB q+far then .err 3 else .go (.cop b lit dist L (dB q+far)) (all.drop (a+dX q)) out:=by
 unfold Y4y
 rw [Z55 ha,T01] <;> cases Z07 (all.drop a) (dX q) <;> rfl
theorem Z8e (hb:isBits all):∀ (f a:Nat) (out:List Nat) (tk:List E3),all.length < f+a→a≤all.length→out.length≤M→
  Z4e M (.tok b lit dist) (all.drop a) out b (Z1u lit dist all M f a out tk).1 (all.drop (Z1u lit dist all M f a out tk).2.1) (Z1u lit dist all M f a out tk).2.2.1
 | 0,a,out,tk,hf,ha,_=>by omega
 | f+1,a,out,tk,hf,ha,hM=>by
  obtain ⟨k,n,e,hs⟩:∃k n e,I7 lit (all.drop a)=(k,n,e):=⟨_,_,_,rfl⟩
  have hst:=W2i (M:=M) (b:=b) (dist:=dist) (out:=out) hs
  unfold Z5p at hst
  dsimp only at hst
  by_cases he:e=0
  rotate_left
  ·rw [if_pos he] at hst
   rw [J6 (X76 hs he)]
   exact .err hst
  subst he
  obtain ⟨_,s1,s2⟩:=P7 hs
  rw [T00] at s2
  rw [if_neg (fun h=>h rfl)] at hst
  by_cases h256:k=256
  ·subst h256
   rw [if_pos rfl,T01] at hst
   rw [J6 (Y77 hs)]
   exact .fin hst
  rw [if_neg h256] at hst
  by_cases hlt:k < 256
  ·rw [if_pos hlt,T01] at hst
   by_cases hc:M≤out.length
   ·rw [if_pos hc] at hst
    rw [J6 (Y44 hs hlt hc)]
    exact .err hst
   rw [if_neg hc] at hst
   rw [Z8q (Y6m hs hlt hc)]
   exact .go hst (Z8e hb f (a+n) _ _ (by omega) (by omega) (by rw [T02];simp;omega))
  rw [if_neg hlt] at hst
  by_cases hbad:285 < k
  ·rw [if_pos hbad] at hst
   rw [J6 (Y4a hs hbad)]
   exact .err hst
  rw [if_neg hbad,T01] at hst
  have hsl:=Y8d (M:=M) (dist:=dist) (out:=out) (tk:=tk) hs (by omega) (by omega)
  have hc29:k-257 < 29:=by omega
  generalize k-257=c at hst hsl hc29
  unfold Y2n at hst
  rw [←Z55 (by omega)] at hst
  cases ht:I8 all (a+n) (lX c) with
  | none=>
   rw [ht] at hst
   rw [Y9o ht] at hsl
   rw [J6 hsl]
   exact .err hst
  | some more=>
   have t1:=(M2 ht).1
   rw [ht] at hst
   dsimp only at hst
   obtain ⟨q,n2,e2,hs2⟩:∃q n2 e2,I7 dist (all.drop (a+n+lX c))=(q,n2,e2):=⟨_,_,_,rfl⟩
   rw [T01,hs2] at hst
   unfold X1p at hst
   dsimp only at hst
   by_cases he2:e2=0
   rotate_left
   ·rw [if_pos he2] at hst
    rw [X0q ht hs2 he2] at hsl
    rw [J6 hsl]
    exact .err hst
   subst he2
   obtain ⟨_,g1,g2⟩:=P7 hs2
   rw [T00] at g2
   rw [if_neg (fun h=>h rfl),T01,V68 (by omega)] at hst
   rw [Y2s ht hs2] at hsl
   by_cases h29:29 < q
   ·rw [if_pos h29] at hst
    rw [W17 h29] at hsl
    rw [J6 hsl]
    exact .err hst
   rw [if_neg h29] at hst
   cases ht2:I8 all (a+n+lX c+n2) (dX q) with
   | none=>
    rw [ht2] at hst
    rw [W2s h29 ht2] at hsl
    rw [J6 hsl]
    exact .err hst
   | some far=>
    have t2:=(M2 ht2).1
    rw [ht2] at hst
    dsimp only at hst
    by_cases hd:out.length < dB q+far
    ·rw [if_pos hd] at hst
     rw [W2b h29 ht2 hd] at hsl
     rw [J6 hsl]
     exact .err hst
    rw [if_neg hd] at hst
    by_cases hcap:M < out.length+(lB c+more)
    ·rw [W2q h29 ht2 hd hcap] at hsl
     rw [J6 hsl]
     obtain ⟨m,hm⟩:∃m,lB c+more=m+1+(M-out.length):=⟨lB c+more- (M-out.length)-1,by omega⟩
     rw [hm] at hst
     refine .go hst (.reach (Y1p (m+1) (M-out.length) out (by omega)) (.err ?_))
     show Z4o M b lit dist (m+1) _ _ _=_
     unfold Z4o
     rw [if_neg (Nat.succ_ne_zero m),if_pos (by rw [G3];omega)]
    rw [W0w h29 ht2 hd hcap] at hsl
    rw [Z8q hsl]
    have hr:=Y1p (M:=M) (b:=b) (lit:=lit) (dist:=dist) (d:=dB q+far) (l:=all.drop (a+n+lX c+n2+dX q)) 0 (lB c+more) out (by omega)
    rw [T03] at hr
    refine .go hst (.reach hr (.go (p1:= .tok b lit dist) ?_ (Z8e hb f (a+n+lX c+n2+dX q) _ _ (by omega) t2 (by rw [G3];omega))))
    show Z4o M b lit dist 0 _ _ _=_
    unfold Z4o
    rw [if_pos rfl]
theorem Y8m {head:List Int} {N a e a':Nat} {l l':List Int} {b:Bool} (ha:a≤all.length) (h:E7 head all N a l=(b,e,a',l')):∃a2,E7 head (all.drop a) N 0 l=(b,e,a2,l')∧a'=a+a2:=by
 obtain ⟨k,n,f,g⟩:∃k n f,I7 head (all.drop a)=(k,n,f):=⟨_,_,_,rfl⟩
 have d:I7 head ((all.drop a).drop 0)=(k,n,f):=by rw [T04,g]
 by_cases i:f=0
 rotate_left
 ·rw [Z8o g i] at h
  cases h
  exact ⟨0,Z8o d i,rfl⟩
 subst i
 have p:=(P7 g).2.2
 rw [T00] at p
 rw [Z54 g] at h
 rw [Z54 d,T03]
 unfold E7.lenRun at h⊢
 generalize (if k=17 then 3 else if k=18 then 7 else 2)=wd at h⊢
 generalize (if k=18 then 11 else 3)=ba at h⊢
 generalize (if k=16 then l.getLast?.getD 0 else 0)=y at h⊢
 have q:I8 all (a+n) wd=I8 (all.drop a) n wd:=by
  rw [Z55 (by omega),Z55 (by rw [T00];omega),T01]
 rw [q] at h
 split
 ·rename_i j;rw [if_pos j] at h;cases h;exact ⟨_,rfl,rfl⟩
 rename_i j
 rw [if_neg j] at h
 split
 ·rename_i m;rw [if_pos m] at h;cases h;exact ⟨_,rfl,rfl⟩
 rename_i m
 rw [if_neg m] at h
 cases hv:I8 (all.drop a) n wd with
 | none=>rw [hv] at h;cases h;exact ⟨_,rfl,rfl⟩
 | some v=>
  rw [hv] at h
  dsimp only at h⊢
  split
  ·rename_i o;rw [if_pos o] at h;cases h;exact ⟨_,rfl,by omega⟩
  rename_i o;rw [if_neg o] at h;cases h;exact ⟨_,rfl,by omega⟩
theorem X0z {head:List Int} {A B:Nat} {out:List Nat}:∀ (f a:Nat) (ls:List Int),all.length < f+a→a≤all.length→
  (Bad (Z1m head all (A+B) f a ls).1∧Z2 M (.len b A B head ls) (all.drop a) out (Z1m head all (A+B) f a ls).1 [] out)∨
  ((Z1m head all (A+B) f a ls).1=0∧A+B≤(Z1m head all (A+B) f a ls).2.2.length∧S8 M (.len b A B head ls) (all.drop a) out (.len b A B head (Z1m head all (A+B) f a ls).2.2) (all.drop (Z1m head all (A+B) f a ls).2.1) out)
 | 0,a,ls,hf,ha=>by omega
 | f+1,a,ls,hf,ha=>by
  by_cases hn:A+B≤ls.length
  ·rw [Z8f hn]
   exact .inr ⟨rfl,hn,.refl⟩
  obtain ⟨b2,e,a',l',hs⟩:∃b2 e a' l',E7 head all (A+B) a ls=(b2,e,a',l'):=⟨_,_,_,_,rfl⟩
  obtain ⟨a2,hs2,rfl⟩:=Y8m ha hs
  have hst:F9 M (all.drop a) out (.len b A B head ls)=X56 b A B head (all.drop a) out (b2,e,a2,l'):=by
   show Z5f b A B head ls (all.drop a) out=_
   unfold Z5f
   rw [if_neg hn,hs2]
  cases b2 with
  | true=>
   rw [Z0b hn hs]
   exact .inl ⟨V1 hst,.err hst⟩
  | false=>
   have g:=Z41 hs
   dsimp only at g
   subst g
   obtain ⟨j,i,k⟩:=Z2e hs hn ha
   rw [Z2x hn hs]
   have d:F9 M (all.drop a) out (.len b A B head ls)= .go (.len b A B head l') (all.drop (a+a2)) out:=by
    rw [hst]
    unfold X56
    rw [if_neg (by dsimp only;decide),T01]
   rcases X0z (head:=head) (out:=out) f (a+a2) l' (by omega) i with ⟨h1,h2⟩ | ⟨h1,h2,h3⟩
   ·exact .inl ⟨h1,.go d h2⟩
   exact .inr ⟨h1,h2,.step d h3⟩
theorem Y3s (a:Nat):∀C,F6 (all.drop a) 0 C=F6 all a C
 | 0=>rfl
 | C+1=>by rw [F6,F6,Y3s a C,T01,T03]
theorem Y6j (a:Nat):∀C,Z1g (all.drop a) 0 C=Z1g all a C
 | 0=>rfl
 | C+1=>by rw [Z1g,Z1g,Y6j a C,T01,T03]
theorem W6b {a:Nat} {out:List Nat} (ha:a≤all.length):
  (Bad (Q5 all a).1∧Z2 M (.cnt b) (all.drop a) out (Q5 all a).1 [] out)∨
  ((Q5 all a).1=0∧S8 M (.cnt b) (all.drop a) out (.tok b (Q5 all a).2.2.1 (Q5 all a).2.2.2) (all.drop (Q5 all a).2.1) out):=by
 have f:F9 M (all.drop a) out (.cnt b)=if all.length-a < 14 then .err 5
   else if 286 < E4 ((all.drop a).take 5)+257∨30 < E4 ((all.drop (a+5)).take 5)+1 then .err 2
   else .go (.thd b (E4 ((all.drop a).take 5)+257) (E4 ((all.drop (a+5)).take 5)+1) (E4 ((all.drop (a+10)).take 4)+4)) (all.drop (a+14)) out:=by
  show Z79 b (all.drop a) out=_
  unfold Z79
  rw [T00,T01,T01,T01]
 unfold Q5
 by_cases i:all.length < a+14
 ·rw [if_pos i]
  rw [if_pos (by omega)] at f
  exact .inl ⟨V1 f,.err f⟩
 rw [if_neg i]
 rw [if_neg (by omega)] at f
 generalize E4 ((all.drop a).take 5)+257=A at f⊢
 generalize E4 ((all.drop (a+5)).take 5)+1=B at f⊢
 generalize E4 ((all.drop (a+10)).take 4)+4=C at f⊢
 unfold Q5.dynRun
 by_cases j:286 < A∨30 < B
 ·rw [if_pos j] at f⊢
  exact .inl ⟨V1 f,.err f⟩
 rw [if_neg j] at f⊢
 have d:F9 M (all.drop (a+14)) out (.thd b A B C)=if all.length- (a+14) < 3*C then .err 5 else if D0 (F6 all (a+14) C) 7≠0∨Z1g all (a+14) C=false then .err 3 else .go (.len b A B (F6 all (a+14) C) []) (all.drop (a+14+3*C)) out:=by
  show Z75 b A B C (all.drop (a+14)) out=_
  unfold Z75
  rw [T00,Y3s,Y6j,T01]
 by_cases k:all.length < a+14+3*C
 ·rw [if_pos k]
  rw [if_pos (by omega)] at d
  exact .inl ⟨V1 d,.go f (.err d)⟩
 rw [if_neg k]
 rw [if_neg (by omega)] at d
 by_cases l:D0 (F6 all (a+14) C) 7≠0∨Z1g all (a+14) C=false
 ·rw [if_pos l] at d⊢
  exact .inl ⟨V1 d,.go f (.err d)⟩
 rw [if_neg l] at d⊢
 unfold Q5.dynEnd
 rcases X0z (M:=M) (b:=b) (all:=all) (head:=F6 all (a+14) C) (A:=A) (B:=B) (out:=out) (all.length+1) (a+14+3*C) [] (by omega) (by omega) with ⟨g1,g2⟩ | ⟨g1,g2,g3⟩
 ·rw [if_pos g1.ne.1]
  exact .inl ⟨g1,.go f (.go d g2)⟩
 rw [if_neg (not_not_intro g1)]
 generalize Z1m (F6 all (a+14) C) all (A+B) (all.length+1) (a+14+3*C) []=q at g1 g2 g3⊢
 have g:F9 M (all.drop q.2.1) out (.len b A B (F6 all (a+14) C) q.2.2)=if D0 (q.2.2.take A) 15≠0∨D0 (q.2.2.drop A) 15≠0∨q.2.2[256]?.getD 0=0 then .err 3 else .go (.tok b (q.2.2.take A) (q.2.2.drop A)) (all.drop q.2.1) out:=by
  show Z5f b A B _ q.2.2 _ out=_
  unfold Z5f
  rw [if_pos g2]
 by_cases m:D0 (q.2.2.take A) 15≠0∨D0 (q.2.2.drop A) 15≠0∨q.2.2[256]?.getD 0=0
 ·rw [if_pos m] at g⊢
  exact .inl ⟨V1 g,.go f (.go d (g3.ends (.err g)))⟩
 rw [if_neg m] at g⊢
 exact .inr ⟨rfl,.step f (.step d (g3.trans (.one g)))⟩
def W6h (kind:Nat) (b:Bool):Ph:=if kind=0 then .sz b else if kind=1 then .tok b I5 G7 else .cnt b
theorem X7m {kind a:Nat} {out:List Nat} {tk:List E3} (hb:isBits all) (h8:all.length%8=0) (ha:a≤all.length) (hM:out.length≤M) (hk:kind < 3):
  Z4e M (W6h kind b) (all.drop a) out b (I9 all M kind a out tk).1 (all.drop (I9 all M kind a out tk).2.1) (I9 all M kind a out tk).2.2.1:=by
 unfold I9 W6h
 by_cases d:kind=0
 ·rw [if_pos d,if_pos d]
  exact X1f h8 ha
 rw [if_neg d,if_neg d]
 by_cases f:kind=1
 ·rw [if_pos f,if_pos f]
  exact Z8e hb _ _ _ _ (by omega) ha hM
 rw [if_neg f,if_neg f,if_pos (by omega)]
 rcases W6b (M:=M) (b:=b) (out:=out) ha with ⟨g1,g2⟩ | ⟨g1,g2⟩
 ·rw [if_pos g1.ne.1]
  exact .inl ⟨g1,g2⟩
 rw [if_neg (not_not_intro g1)]
 exact .reach g2 (Z8e hb _ _ _ _ (by omega) (Y2p g1).2.1 hM)
theorem V6v {a v:Nat} {out:List Nat} (ha:a≤all.length) (h:I8 all a 3=some v):F9 M (all.drop a) out .hd=if v / 2 < 3 then .go (W6h (v / 2) (Z4f v)) (all.drop (a+3)) out else .err 2:=by
 show hdM (all.drop a) out=_
 unfold hdM W6h
 rw [Z55 ha] at h
 rw [h]
 dsimp only
 rw [T01]
 by_cases b:v / 2=0
 ·rw [if_pos b,if_pos (by omega),if_pos b]
 rw [if_neg b]
 by_cases d:v / 2=1
 ·rw [if_pos d,if_pos (by omega),if_neg b,if_pos d]
 rw [if_neg d]
 by_cases f:v / 2=2
 ·rw [if_pos f,if_pos (by omega),if_neg b,if_neg d]
 rw [if_neg f,if_neg (by omega)]
theorem Z9w (hb:isBits all) (h8:all.length%8=0):∀ (f a:Nat) (out:List Nat) (tk:List E3) (ks ss:List Nat),all.length < f+a→a≤all.length→out.length≤M→
  (Bad (T6 all M f a out tk ks ss).e∧Z2 M .hd (all.drop a) out (T6 all M f a out tk ks ss).e [] (T6 all M f a out tk ks ss).out)∨
  ((T6 all M f a out tk ks ss).e=0∧(T6 all M f a out tk ks ss).a≤all.length∧(T6 all M f a out tk ks ss).rest=((T6 all M f a out tk ks ss).a+7) / 8∧(T6 all M f a out tk ks ss).out.length≤M∧
   0 < (T6 all M f a out tk ks ss).a∧Z2 M .hd (all.drop a) out 8 (all.drop (T6 all M f a out tk ks ss).a) (T6 all M f a out tk ks ss).out)
 | 0,a,out,tk,ks,ss,hf,ha,_=>by omega
 | f+1,a,out,tk,ks,ss,hf,ha,hM=>by
  cases ht:I8 all a 3 with
  | none=>
   rw [Z0p (Y9c ht)]
   have hst:F9 M (all.drop a) out .hd= .err 5:=by
    show hdM (all.drop a) out=_
    unfold hdM
    rw [Z55 ha] at ht
    rw [ht]
   exact .inl ⟨V1 hst,.err hst⟩
  | some v=>
   have s:=(M2 ht).1
   have hst:=V6v (M:=M) (out:=out) ha ht
   obtain ⟨e,m,d,i,k⟩:∃e m d i,I9 all M (v / 2) (a+3) out tk=(e,m,d,i):=⟨_,_,_,_,rfl⟩
   by_cases p:v / 2 < 3
   rotate_left
   ·rw [if_neg p] at hst
    have o:I9 all M (v / 2) (a+3) out tk=(2,a+3,out,tk):=by
     unfold I9
     rw [if_neg (by omega),if_neg (by omega),if_neg (by omega)]
    rw [Z0p (Y3d ht o (by decide))]
    exact .inl ⟨V1 hst,.err hst⟩
   rw [if_pos p] at hst
   have n:=X7m (M:=M) (b:=Z4f v) (tk:=tk) hb h8 s hM p
   rw [k] at n
   by_cases q:e=0
   rotate_left
   ·rw [Z0p (Y3d ht k q)]
    rcases n with ⟨h1,h2⟩ | ⟨h1,_⟩
    ·exact .inl ⟨h1,.go hst h2⟩
    exact absurd h1 q
   subst q
   have j:=Y3u (tk:=tk) hb s hM (by rw [k])
   rw [k] at j
   dsimp only at j
   have g:∀r l' o',X8q M (Z4f v) (all.drop m) d r l' o'→Z2 M (W6h (v / 2) (Z4f v)) (all.drop (a+3)) out r l' o':=by
    rcases n with ⟨h1,_⟩ | ⟨_,h2⟩
    ·exact absurd rfl h1.ne.1
    exact h2
   by_cases l:v%2=1
   ·rw [Z0p (Y0d ht k l)]
    refine .inr ⟨rfl,j.2.1,rfl,j.2.2.2.2,by dsimp only;omega,.go hst (g _ _ _ ?_)⟩
    unfold X8q
    rw [if_pos (by unfold Z4f;exact decide_eq_true l)]
    exact ⟨rfl,rfl,rfl⟩
   rw [Y7c (Z9z ht k l)]
   have t:Z4f v=false:=by unfold Z4f;exact decide_eq_false l
   rcases Z9w hb h8 f m d i (ks++[v / 2]) (ss++[d.length]) (by omega) j.2.1 j.2.2.2.2 with ⟨g1,g2⟩ | ⟨g1,g2,g3,g4,g5,g6⟩
   ·refine .inl ⟨g1,.go hst (g _ _ _ ?_)⟩
    unfold X8q
    rw [if_neg (by rw [t];decide)]
    exact g2
   refine .inr ⟨g1,g2,g3,g4,g5,.go hst (g _ _ _ ?_)⟩
   unfold X8q
   rw [if_neg (by rw [t];decide)]
   exact g6
end
end Go.Proofs.YtbkbkmgogbgofaaGreatDoor
