/- The claim's texts, put together and shortened by a program (names, spaces). -/
import Derived.Test.YtbkbkmgogbgofaaGreatDoorZk02
import Derived.WalkSpells
import Derived.Test.YtbkbkmgogbgofaaGreatDoorZk01
import Derived.Laws.CopyRow
import Derived.Laws.OwnMore
import Derived.Test.YtbkbkmgogbgofaaGreatDoorProg
import Derived.StillTailTactics
open List renaming getElem?_eq_none→T01,count_append→T02,length_append→T04,length_drop→T05,append_assoc→T06,getElem?_append_right→T07,length_take→T08,getElem?_take→T09,ext_getElem?→T0b,count_cons_of_ne→T0c,getElem?_eq_getElem→T0d
open Nat renaming mul_le_mul_right→T00,lt_of_lt_of_le→T0a
open Int renaming natCast_nonneg→T03
namespace Go.Proofs.YtbkbkmgogbgofaaGreatDoor
set_option maxRecDepth 100000
set_option maxHeartbeats 6400000
open Go.RowKit
abbrev E3:=Int×Int×Int
def Y69 (t:E3):Value:= .agg #[.int .u8 t.1,.int .i64 t.2.1,.int .i64 t.2.2]
def E9 (t:E3):Bool:=decide (t.2.1=0∧t.2.2=0) || decide (t.1=0∧(3≤t.2.1∧t.2.1≤258)∧(1≤t.2.2∧t.2.2≤32768))
theorem Y8u (a l d:Int) (w:World):
  Calls Tryz.prog 124 #[.agg #[.int .u8 a,.int .i64 l,.int .i64 d]] w fun e w'=>e= .returned (.bool (decide (l=0∧d=0)))∧E5 w w' (fun _=>False):=by
 rcases (by omega:(l=0∧d=0)∨(l=0∧¬d=0)∨¬l=0) with ⟨rfl,rfl⟩ | ⟨rfl,h⟩ | h
 ·go_enter Tryz.func124,Tryz.ntmps124
  go_wp2
  go_ret
  exact ⟨rfl,((E5.refl w _).alloc _)⟩
 ·have e:decide ((0:Int)=0∧d=0)=false:=decide_eq_false (by omega)
  rw [e]
  clear e
  go_enter Tryz.func124,Tryz.ntmps124
  go_wp2
  go_ret
  exact ⟨rfl,((E5.refl w _).alloc _)⟩
 have e:decide (l=0∧d=0)=false:=decide_eq_false (by omega)
 rw [e]
 clear e
 go_enter Tryz.func124,Tryz.ntmps124
 go_wp2
 go_ret
 exact ⟨rfl,((E5.refl w _).alloc _)⟩
theorem X6d (a l d:Int) (w:World):
  Calls Tryz.prog 125 #[.agg #[.int .u8 a,.int .i64 l,.int .i64 d]] w fun e w'=>e= .returned (.bool (decide (a=0∧(3≤l∧l≤258)∧(1≤d∧d≤32768))))∧E5 w w' (fun _=>False):=by
 have g:=A5 (Y27 l)
 have k:=A5 (Z7x d)
 have i:=A5 (fun w:World=>E5.refl w (fun _=>False))
 by_cases m:a=0
 rotate_left
 ·have e:decide (a=0∧(3≤l∧l≤258)∧(1≤d∧d≤32768))=false:=decide_eq_false (by omega)
  rw [e]
  clear e
  go_enter Tryz.func125,Tryz.ntmps125
  go_wp2
  go_ret
  exact ⟨rfl,((i.out w).alloc _)⟩
 subst m
 by_cases f:3≤l∧l≤258
 ·have b:decide (3≤l∧l≤258)=true:=decide_eq_true f
  rw [b] at g
  have e:decide ((0:Int)=0∧(3≤l∧l≤258)∧(1≤d∧d≤32768))=decide (1≤d∧d≤32768):=by rw [Bool.eq_iff_iff];simp [f]
  rw [e]
  generalize decide (1≤d∧d≤32768)=bd at*
  clear e b f
  go_enter Tryz.func125,Tryz.ntmps125
  go_wp2_with fail
  refine (g.out _).mono ?_
  rintro e j ⟨rfl,rfl⟩
  go_wp2_with fail
  refine (k.out _).mono ?_
  rintro e j ⟨rfl,rfl⟩
  go_wp2
  go_ret
  exact ⟨rfl,((i.out w).alloc _)⟩
 have b:decide (3≤l∧l≤258)=false:=decide_eq_false f
 rw [b] at g
 have e:decide ((0:Int)=0∧(3≤l∧l≤258)∧(1≤d∧d≤32768))=false:=decide_eq_false (by omega)
 rw [e]
 clear e b f
 go_enter Tryz.func125,Tryz.ntmps125
 go_wp2_with fail
 refine (g.out _).mono ?_
 rintro e j ⟨rfl,rfl⟩
 go_wp2
 go_ret
 exact ⟨rfl,((i.out w).alloc _)⟩
theorem W32 (t:E3) (w:World):
  Calls Tryz.prog 98 #[Y69 t] w fun e w'=>e= .returned (.bool (E9 t))∧E5 w w' (fun _=>False):=by
 obtain ⟨a,l,d⟩:=t
 unfold Y69 E9
 simp only
 have k:=A5 (Y8u a l d)
 have n:=A5 (X6d a l d)
 have o:=A5 (fun w:World=>E5.refl w (fun _=>False))
 by_cases h:l=0∧d=0
 ·have g:decide (l=0∧d=0)=true:=decide_eq_true h
  rw [g] at k⊢
  rw [Bool.true_or]
  clear g h n
  go_enter Tryz.func98,Tryz.ntmps98
  go_wp2_with fail
  refine (k.out _).mono ?_
  rintro e q ⟨rfl,f⟩
  have m:=A5 (((o.out w).alloc _).trans f (fun _ _ h=>h))
  clear f
  go_wp2
  go_ret
  exact ⟨rfl,m.out⟩
 have g:decide (l=0∧d=0)=false:=decide_eq_false h
 rw [g] at k⊢
 rw [Bool.false_or]
 generalize decide (a=0∧(3≤l∧l≤258)∧(1≤d∧d≤32768))=b at*
 clear g h
 go_enter Tryz.func98,Tryz.ntmps98
 go_wp2_with fail
 refine (k.out _).mono ?_
 rintro e q ⟨rfl,f⟩
 have j:=((A4.start w).newObj [.int .u8 a,.int .i64 l,.int .i64 d] 112).same f
 have r:=j.obj.cell (i:=0) rfl
 have s:=j.obj.cell (i:=1) rfl
 have x:=j.obj.cell (i:=2) rfl
 have m:=A5 j.mod
 clear f j
 go_wp2_with fail
 refine (n.out _).mono ?_
 rintro e y ⟨rfl,f⟩
 have p:=A5 (m.out.trans f (fun _ _ h=>h))
 clear f
 go_wp2
 go_ret
 exact ⟨rfl,p.out⟩
def ext (l:List Nat) (d:Nat):Nat→List Nat
 | 0=>l
 | n+1=>ext l d n++[(ext l d n)[l.length+n-d]?.getD 0]
theorem G3 (l:List Nat) (d:Nat):∀n,(ext l d n).length=l.length+n
 | 0=>rfl
 | n+1=>by rw [ext,T04,G3 l d n];rfl
def out (l:List Nat) (d n:Nat):List Nat:=(ext l d n).drop l.length
theorem X9u (l:List Nat) (d n:Nat):(out l d n).length=n:=by rw [out,T05,G3];omega
theorem Y53 (l:List Nat) (d:Nat):∀n,ext l d n=l++out l d n
 | 0=>by simp [ext,out]
 | n+1=>by
  have ih:=Y53 l d n
  rw [out,ext,List.drop_append_of_le_length (by rw [G3];omega)]
  show ext l d n++_=l++(out l d n++_)
  rw [←T06,←ih]
theorem V0e (l:List Nat) (d:Nat) (h:∀b∈l,b < 256):∀n,∀b∈ext l d n,b < 256
 | 0=>h
 | n+1=>fun b hb=>by
  have ih:=V0e l d h n
  rcases List.mem_append.1 hb with hb | hb
  ·exact ih b hb
  rw [List.mem_singleton.1 hb]
  cases e:(ext l d n)[l.length+n-d]? with
  | none=>decide
  | some x=>exact ih x (List.mem_of_getElem? e)
def I6 (l:List E3):List Value:=l.flatMap fun t=>[.int .u8 t.1,.int .i64 t.2.1,.int .i64 t.2.2]
theorem Y04 (x:E3) (l:List E3):I6 (x::l)= .int .u8 x.1:: .int .i64 x.2.1:: .int .i64 x.2.2::I6 l:=by simp [I6]
theorem Z5s (l m:List E3):I6 (l++m)=I6 l++I6 m:=by simp [I6]
theorem Z6f (l:List E3):(I6 l).length=l.length*3:=by
 induction l with
 | nil=>rfl
 | cons x l ih=>rw [Y04];simp [ih];omega
theorem Y9u:∀ (l:List E3) (j:Nat) (x:E3),l[j]?=some x→(I6 l)[j*3]?=some (.int .u8 x.1)∧(I6 l)[j*3+1]?=some (.int .i64 x.2.1)∧(I6 l)[j*3+2]?=some (.int .i64 x.2.2)
 | [],_,_,h=>by simp at h
 | y::l,0,x,h=>by
  obtain rfl:y=x:=by simpa using h
  rw [Y04];simp
 | y::l,j+1,x,h=>by
  have:=Y9u l j x (by simpa using h)
  rw [Y04,show (j+1)*3=j*3+1+1+1 by omega,show j*3+1+1+1+1=(j*3+1)+1+1+1 by omega,show j*3+1+1+1+2=(j*3+2)+1+1+1 by omega]
  simpa using this
theorem Y3i (l:List E3):∀u∈I6 l,u.oneCell'=true:=by
 intro u b
 obtain ⟨x,_,a⟩:=List.mem_flatMap.1 b
 simp only [List.mem_cons,List.not_mem_nil,or_false] at a
 rcases a with rfl | rfl | rfl <;> rfl
theorem Rd.tok {w:World} {ao:Option Addr} {n cap:Nat} {l:List E3} (h:Rd w 3 (.slice ao n cap) n (I6 l)) {i:Nat} {t:E3} (hi:l[i]?=some t):
  ∃g off,ao=some ⟨g,off,none⟩∧w.cell? ⟨g,off+i*3,none⟩=some (.int .u8 t.1)∧w.cell? ⟨g,off+i*3+1,none⟩=some (.int .i64 t.2.1)∧w.cell? ⟨g,off+i*3+2,none⟩=some (.int .i64 t.2.2):=by
 have b:=h.1
 rw [Z6f] at b
 have d:=(List.getElem?_eq_some_iff.1 hi).1
 obtain ⟨g,off,rfl,a⟩:=h.spot (by omega)
 obtain ⟨f,j,k⟩:=Y9u l i t hi
 exact ⟨g,off,rfl,a _ _ f,a _ _ j,a _ _ k⟩
theorem Rd.toks_len {w:World} {v:Value} {n:Nat} {l:List E3} (h:Rd w 3 v n (I6 l)):n=l.length:=by
 have:=h.1
 rw [Z6f] at this;omega
def most:Nat:=16777216
def N7 (acc:List Nat) (t:E3):Nat×List Nat:=
 if E9 t=false then (1,[])
 else if t.2.1=0 then (if most≤acc.length then (6,[]) else (0,acc++[t.1.toNat]))
 else if most < acc.length+t.2.1.toNat then (6,[])
 else if acc.length < t.2.2.toNat then (3,[]) else (0,ext acc t.2.2.toNat t.2.1.toNat)
def S0:List Nat→List E3→Nat×List Nat
 | acc,[]=>(0,acc)
 | acc,t::r=>if (N7 acc t).1=0 then S0 (N7 acc t).2 r else ((N7 acc t).1,[])
def O3 (l:List E3):Prop:=∀t∈l,0≤t.1∧t.1≤255
theorem Z0a (acc:List Nat) (t:E3) (r:List E3):S0 acc (t::r)=if (N7 acc t).1=0 then S0 (N7 acc t).2 r else ((N7 acc t).1,[]):=rfl
theorem W4u {t:E3} (h:E9 t=true) (h0:t.2.1=0):t.2.2=0:=by
 unfold E9 at h
 rw [Bool.or_eq_true,decide_eq_true_eq,decide_eq_true_eq] at h
 omega
theorem V5 {t:E3} (h:E9 t=true) (h0:t.2.1≠0):t.1=0∧(3≤t.2.1∧t.2.1≤258)∧(1≤t.2.2∧t.2.2≤32768):=by
 unfold E9 at h
 rw [Bool.or_eq_true,decide_eq_true_eq,decide_eq_true_eq] at h
 omega
theorem Y94 {acc:List Nat} {t:E3} (h:E9 t=false):N7 acc t=(1,[]):=if_pos h
theorem X0w {acc:List Nat} {t:E3} (h:E9 t=true) (h0:t.2.1=0) (hc:¬most≤acc.length):N7 acc t=(0,acc++[t.1.toNat]):=by
 unfold N7;rw [if_neg (by rw [h];simp),if_pos h0,if_neg hc]
theorem Y5k {acc:List Nat} {t:E3} (h:E9 t=true) (h0:t.2.1≠0) (hc:most < acc.length+t.2.1.toNat):N7 acc t=(6,[]):=by
 unfold N7;rw [if_neg (by rw [h];simp),if_neg h0,if_pos hc]
theorem W33 {acc:List Nat} {t:E3} (h:E9 t=true) (h0:t.2.1≠0) (hc:¬most < acc.length+t.2.1.toNat) (hd:acc.length < t.2.2.toNat):N7 acc t=(3,[]):=by
 unfold N7;rw [if_neg (by rw [h];simp),if_neg h0,if_neg hc,if_pos hd]
theorem Y4m {acc:List Nat} {t:E3} (h:E9 t=true) (h0:t.2.1≠0) (hc:¬most < acc.length+t.2.1.toNat) (hd:¬acc.length < t.2.2.toNat):N7 acc t=(0,ext acc t.2.2.toNat t.2.1.toNat):=by
 unfold N7;rw [if_neg (by rw [h];simp),if_neg h0,if_neg hc,if_neg hd]
theorem W6p (acc:List Nat) (t:E3) (h:(N7 acc t).1=0):(N7 acc t).2.length≤most∧acc <+:(N7 acc t).2:=by
 unfold N7 at h⊢
 split <;> rename_i b
 ·rw [if_pos b] at h;simp at h
 rw [if_neg b] at h
 split <;> rename_i d
 ·rw [if_pos d] at h
  split <;> rename_i a
  ·rw [if_pos a] at h;simp at h
  exact ⟨by simp;omega,⟨_,rfl⟩⟩
 rw [if_neg d] at h
 split <;> rename_i a
 ·rw [if_pos a] at h;simp at h
 rw [if_neg a] at h
 split <;> rename_i f
 ·rw [if_pos f] at h;simp at h
 refine ⟨by simp only [G3];omega, ?_⟩
 simp only
 rw [Y53];exact ⟨_,rfl⟩
theorem Z74:∀ (l m:List E3) (acc:List Nat),S0 acc (l++m)=if (S0 acc l).1=0 then S0 (S0 acc l).2 m else S0 acc l
 | [],m,acc=>by simp [S0]
 | t::r,m,acc=>by
  rw [List.cons_append,Z0a,Z0a]
  by_cases h:(N7 acc t).1=0
  ·rw [if_pos h,if_pos h];exact Z74 r m _
  rw [if_neg h,if_neg h,if_neg h]
theorem Y6q:∀ (l:List E3) (acc:List Nat),(S0 acc l).1=0→acc <+:(S0 acc l).2
 | [],acc,_=>⟨[],by simp [S0]⟩
 | t::r,acc,h=>by
  rw [Z0a] at h⊢
  by_cases h1:(N7 acc t).1=0
  ·rw [if_pos h1] at h⊢
   exact (W6p acc t h1).2.trans (Y6q r _ h)
  rw [if_neg h1] at h;exact absurd h h1
def I8 (bs:List Nat) (a n:Nat):Option Nat:=if a+n≤bs.length then some (E4 ((bs.drop a).take n)) else none
noncomputable def I7 (l:List Int) (r:List Nat):Nat×Nat×Nat:=
 haveI:=Classical.propDecidable (∃p:Nat×Nat,Hit l r p.1 p.2)
 if h:∃p:Nat×Nat,Hit l r p.1 p.2 then ((Classical.choose h).1,(Classical.choose h).2,0) else (0,0,if r.length < lng l∨r=[] then 5 else 3)
theorem Y0p (l:List Int) (r:List Nat):O9 l r (I7 l r).1 (I7 l r).2.1 (I7 l r).2.2:=by
 unfold I7
 by_cases h:∃p:Nat×Nat,Hit l r p.1 p.2
 ·rw [dif_pos h]
  exact .inl ⟨rfl,Classical.choose_spec h⟩
 rw [dif_neg h]
 exact .inr ⟨rfl,rfl,fun i m hh=>h ⟨(i,m),hh⟩,rfl⟩
theorem Z8j {l:List Int} {r:List Nat} {k n e:Nat} (hb:isBits r) (hl:∀a∈l,0≤a∧a≤15) (h:O9 l r k n e):I7 l r=(k,n,e):=by
 obtain ⟨b,d,f⟩:=(Y0p l r).one hb hl h
 rw [←b,←d,←f]
theorem X44 {l:List Int} {r:List Nat} (h:(I7 l r).2.2=0):Hit l r (I7 l r).1 (I7 l r).2.1:=by
 rcases Y0p l r with ⟨_,hh⟩ | ⟨_,_,_,he⟩
 ·exact hh
 rw [h] at he
 split at he <;> cases he
noncomputable def J4 (lit dist:List Int) (bs:List Nat) (M a:Nat) (out:List Nat) (tk:List E3):Bool×Nat×Nat×List Nat×List E3:=
 if (I7 lit (bs.drop a)).2.2≠0 then (true,(I7 lit (bs.drop a)).2.2,a,out,tk)
 else if (I7 lit (bs.drop a)).1=256 then (true,0,a+(I7 lit (bs.drop a)).2.1,out,tk)
 else if (I7 lit (bs.drop a)).1 < 256 then
  if M≤out.length then (true,6,a+(I7 lit (bs.drop a)).2.1,out,tk++[(((I7 lit (bs.drop a)).1:Int),0,0)])
  else (false,0,a+(I7 lit (bs.drop a)).2.1,out++[(I7 lit (bs.drop a)).1],tk++[(((I7 lit (bs.drop a)).1:Int),0,0)])
 else if 285 < (I7 lit (bs.drop a)).1 then (true,3,a+(I7 lit (bs.drop a)).2.1,out,tk)
 else matchF dist bs M (a+(I7 lit (bs.drop a)).2.1) ((I7 lit (bs.drop a)).1-257) out tk
where
 matchF (dist:List Int) (bs:List Nat) (M a1 c:Nat) (out:List Nat) (tk:List E3):Bool×Nat×Nat×List Nat×List E3:=
  match I8 bs a1 (lX c) with
  | none=>(true,5,a1,out,tk)
  | some more=>
   if (I7 dist (bs.drop (a1+lX c))).2.2≠0 then (true,(I7 dist (bs.drop (a1+lX c))).2.2,a1+lX c,out,tk)
   else farF bs M (a1+lX c+(I7 dist (bs.drop (a1+lX c))).2.1) (I7 dist (bs.drop (a1+lX c))).1 (lB c+more) out tk
 farF (bs:List Nat) (M a3 q n:Nat) (out:List Nat) (tk:List E3):Bool×Nat×Nat×List Nat×List E3:=
  if 29 < q then (true,3,a3,out,tk)
  else match I8 bs a3 (dX q) with
   | none=>(true,5,a3,out,tk)
   | some far=>
    if out.length < dB q+far then (true,3,a3+dX q,out,tk)
    else if M < out.length+n then (true,6,a3+dX q,ext out (dB q+far) (M-out.length),tk++[(0,(n:Int),((dB q+far:Nat):Int))])
    else (false,0,a3+dX q,ext out (dB q+far) n,tk++[(0,(n:Int),((dB q+far:Nat):Int))])
noncomputable def Z1u (lit dist:List Int) (bs:List Nat) (M:Nat):Nat→Nat→List Nat→List E3→Nat×Nat×List Nat×List E3
 | 0,a,out,tk=>(5,a,out,tk)
 | f+1,a,out,tk=>
  if (J4 lit dist bs M a out tk).1=true then (J4 lit dist bs M a out tk).2
  else Z1u lit dist bs M f (J4 lit dist bs M a out tk).2.2.1 (J4 lit dist bs M a out tk).2.2.2.1 (J4 lit dist bs M a out tk).2.2.2.2
theorem J6 {lit dist:List Int} {bs:List Nat} {M f a e a':Nat} {out out':List Nat} {tk tk':List E3} (h:J4 lit dist bs M a out tk=(true,e,a',out',tk')):Z1u lit dist bs M (f+1) a out tk=(e,a',out',tk'):=by
 rw [Z1u,h];rfl
theorem Z8q {lit dist:List Int} {bs:List Nat} {M f a e a':Nat} {out out':List Nat} {tk tk':List E3} (h:J4 lit dist bs M a out tk=(false,e,a',out',tk')):Z1u lit dist bs M (f+1) a out tk=Z1u lit dist bs M f a' out' tk':=by
 rw [Z1u,h];rfl
def T5 (bs:List Nat) (M:Nat):Nat→Nat→List Nat→Nat×Nat×List Nat
 | 0,a,out=>(0,a,out)
 | n+1,a,out=>match I8 bs a 8 with
  | none=>(5,a,out)
  | some c=>if M≤out.length then (6,a+8,out) else T5 bs M n (a+8) (out++[c])
def V9 (a:Nat):Nat:=(a+7) / 8*8
def N9 (bs:List Nat) (M a:Nat) (out:List Nat):Nat×Nat×List Nat:=
 let a1:=V9 a
 if bs.length < a1+32 then (5,a1,out)
 else
  let n:=E4 ((bs.drop a1).take 16)
  if n+E4 ((bs.drop (a1+16)).take 16)≠65535 then (2,a1+32,out) else T5 bs M n (a1+32) out
theorem Own.splice {w w':World} {e:TypeId} {size n cap g off:Nat} {xs vs:List Value} {cur:Array Value} (hl:xs.length=n*size) (hg:w.heap[g]?=some (.cells cur e (0,0))) (hn:n≤cap) (hc:cap≤maxLen) (hs:off+cap*size≤cur.size)
  (hx:∀j u,xs[j]?=some u→cur[off+j]?=some u) (hv:vs.length≤n*size)
  (h':w'=w.setRow g (cur.toList.take off++vs++cur.toList.drop (off+vs.length)).toArray):
  Own w' e size (.slice (some ⟨g,off,none⟩) n cap) n (vs++xs.drop vs.length)∧E5 w w' (fun k=>k=g):=by
 subst h'
 have a:n*size≤cap*size:=T00 _ hn
 refine ⟨⟨by rw [T04,T05,hl];omega,.inr ⟨g,off,cap,_,rfl,setRow_heap w g cur _ e _ hg,hn,hc, ?_,fun j u hu=> ?_⟩⟩,⟨rfl,rfl,rfl,by simp [World.setRow],fun k _ hk=>setRow_other w g k _ hk⟩⟩
 ·simp;omega
 have b:(cur.toList.take off).length=off:=by simp;omega
 simp only [List.getElem?_toArray]
 rw [T06,T07 (by omega),b,Nat.add_sub_cancel_left]
 by_cases d:j < vs.length
 ·rw [List.getElem?_append_left d] at hu⊢
  exact hu
 rw [T07 (by omega)] at hu⊢
 rw [List.getElem?_drop] at hu⊢
 rw [Array.getElem?_toList,show off+vs.length+(j-vs.length)=off+(vs.length+(j-vs.length)) by omega]
 exact hx _ u hu
section
variable {P:Program} {w:World}
theorem Z14 (a:Option Addr) (H cap size:Nat) (ha:∀x,a=some x→x.spot=none):sliced a 0 H cap size= .slice a H cap:=by
 unfold sliced
 cases a with
 | none=>simp
 | some x=>
  obtain ⟨b,o,s⟩:=x
  obtain rfl:s=none:=ha _ rfl
  simp [Addr.add]
theorem Own.spotless {e:TypeId} {size n n' cap:Nat} {a:Option Addr} {xs:List Value} (h:Own w e size (.slice a n cap) n' xs):∀x,a=some x→x.spot=none:=by
 rintro x rfl
 rcases h.2 with ⟨hv,_⟩ | ⟨g,off,cap',cur,hv,_⟩
 ·simp at hv
 simp only [Value.slice.injEq,Option.some.injEq] at hv
 rw [hv.1]
theorem Rd.front {size n cap H:Nat} {a:Option Addr} {xs:List Value} (h:Rd w size (.slice a n cap) n xs) (hH:H≤n):Rd w size (.slice a H cap) H (xs.take (H*size)):=by
 obtain ⟨k,o,d,f,p,l,m,g⟩:=h
 simp only [Value.slice.injEq,true_and] at f
 obtain ⟨rfl,rfl⟩:=f
 have i:H*size≤n*size:=T00 _ hH
 refine ⟨by rw [T08,k];omega,a,cap,rfl,by omega,l,m, ?_⟩
 rcases g with g | ⟨b,off,ha,hc⟩
 ·exact .inl (by omega)
 refine .inr ⟨b,off,ha,fun j u hu=> ?_⟩
 rw [T09] at hu
 split at hu
 ·exact hc j u hu
 cases hu
theorem Own.le {e:TypeId} {size n cap:Nat} {a:Option Addr} {xs:List Value} (h:Own w e size (.slice a n cap) n xs):n≤cap:=by
 obtain ⟨g,b,d,f,_⟩:=h.form
 simp only [Value.slice.injEq,true_and] at d
 rw [d.2];exact f
theorem Rd.drewTo {w1:World} {size n k:Nat} {v:Value} {xs:List Value} (h:Rd w size v n xs) (e:w1=w.drewN k):Rd w1 size v n xs:=by rw [e];exact h
theorem X21 (dT sT ty e:TypeId) (i:TypeInfo) (size:Nat) (ht:P.underlying dT=some (.slice e)) (hi:P.info? e=some i) (hs:i.size=size)
  (v:Value) (n m:Nat) (xs ys:List Value) (hown:Own w e size v n xs) (s:Value) (hsrc:Rd w size s m ys) (h1:∀u∈ys,u.oneCell'=true):
  ∃w',(Builtin.copy_ #[dT,sT] ty #[v,s]).run P w= .ok (goInt ((min m n:Nat):Int)) w'∧Own w' e size v n (ys.take (min m n*size)++xs.drop (min m n*size))∧E5 w w' (fun k=>v.ownBlock=some k):=by
 obtain ⟨t,sa,a1,rfl,a7,a8,a9,l⟩:=hsrc
 obtain ⟨da,y,rfl,o,z⟩:=hown.form
 by_cases r:min m n=0
 ·refine ⟨w, ?_,by rw [r];simpa using hown,E5.refl _ _⟩
  have p:∀ (x:Addr),(loadCells x 0).run P w= .ok #[] w:=fun x=>by simpa using run_loadCells_list (P:=P) w x [] (by simp)
  have q:Nat.min m n=0:=r
  rw [r]
  cases da <;> cases sa <;> simp [Builtin.copy_,run_underlying ht,Builtin.lenOf,Builtin.firstCells,sizeOf,typeInfo,hi,q,storeCells,p]
 rcases hown.2 with ⟨hv,hn0⟩ | ⟨g,off,cap',cur,hv,hg,_,_,hcs,hx⟩
 ·omega
 simp only [Value.slice.injEq,true_and] at hv
 obtain ⟨rfl,rfl⟩:=hv
 rcases l with hm0 | ⟨b,so,rfl,hc⟩
 ·omega
 have a4:min m n*size≤m*size:=T00 _ (Nat.min_le_left _ _)
 have a0:min m n*size≤n*size:=T00 _ (Nat.min_le_right _ _)
 have a5:n*size≤y*size:=T00 _ o
 have a:(ys.take (min m n*size)).length=min m n*size:=by rw [T08,t];omega
 have p:=run_loadCells_list (P:=P) w ⟨b,so,none⟩ (ys.take (min m n*size)) (fun j u hu=>by
  rw [Addr.add_lit]
  refine hc j u ?_
  rw [T09] at hu
  split at hu
  ·exact hu
  cases hu)
 rw [a] at p
 have d:=run_storeCells_at P g off e (ys.take (min m n*size)) 0 cur w hg (by rw [a];omega) (fun u hu=>h1 u (List.mem_of_mem_take hu))
 obtain ⟨H1,H2⟩:=Own.splice (w':=w.setRow g (cur.toList.take off++ys.take (min m n*size)++cur.toList.drop (off+(ys.take (min m n*size)).length)).toArray) hown.1 hg o z hcs hx (by rw [a];omega) rfl
 rw [a] at H1
 rw [a] at H2
 refine ⟨_, ?_,H1,H2.mono (fun k _ hk=>by subst hk;rfl)⟩
 have f:Nat.min m n=min m n:=rfl
 rw [a,Nat.add_zero] at d
 simp [Builtin.copy_,run_underlying ht,Builtin.lenOf,Builtin.firstCells,sizeOf,typeInfo,hi,hs,f,p,d]
theorem Y38 {ops:Array Oper} {rest:List Oper} {o:Oper} {ac:Act} {Q:Exit→Act→World→Prop} (hgd:o.guard=none) (d s:Operand) (dT sT:TypeId)
  (ho:o.op= .call {callee:= .builtin .copy,args:=#[d,s],argTypes:=#[dT,sT]}) (e:TypeId) (i:TypeInfo) (size:Nat) (ht:P.underlying dT=some (.slice e)) (hi:P.info? e=some i) (hs:i.size=size)
  (v y:Value) (n m:Nat) (xs ys:List Value) (hd:ac.eval d=v) (hy:ac.eval s=y) (hown:Own w e size v n xs) (hsrc:Rd w size y m ys) (h1:∀u∈ys,u.oneCell'=true)
  (h:∀w',Own w' e size v n (ys.take (min m n*size)++xs.drop (min m n*size))→E5 w w' (fun k=>v.ownBlock=some k)→wpList P ops Q rest (ac.put o.dst (goInt ((min m n:Nat):Int))) w'):
  wpList P ops Q (o::rest) ac w:=by
 refine wpList_plain hgd fun K hK=> ?_
 obtain ⟨w',a,b,f⟩:=X21 (P:=P) dT sT o.type e i size ht hi hs v n m xs ys hown y hsrc h1
 unfold Oper.wp execOp
 simp only [ho,resolve,invoke,builtin,Sem.run_bind,Sem.run_pure,Result.andThen_ok,List.map_toArray,List.map_cons,List.map_nil,hd,hy,a]
 exact hK _ _ (h w' b f)
theorem wpList_make_own {ops:Array Oper} {rest:List Oper} {o:Oper} {ac:Act} {Q:Exit→Act→World→Prop} (hgd:o.guard=none) (t:TypeId) (x y:Operand)
  (ho:o.op= .makeSlice t x y) (e:TypeId) (i:TypeInfo) (z:Value) (size:Nat) (ht:P.underlying t=some (.slice e)) (hi:P.info? e=some i) (hz:i.zero=some z) (hs:i.size=size)
  (k:IntKind) (n:Nat) (hx:ac.eval x= .int k (n:Int)) (hy:ac.eval y= .int k (n:Int)) (hb:i.bytes*n≤281474976710656) (hn:n≤maxLen)
  (h:∀v w' zs,Own w' e size v n zs→E5 w w' (fun _=>False)→(∀k,v.ownBlock=some k→w.heap.size≤k)→v= .slice (some ⟨w.heap.size,0,none⟩) n n→zs=(madeCells z.cells (n*size)).toList→wpList P ops Q rest (ac.put o.dst v) w'):
  wpList P ops Q (o::rest) ac w:=by
 refine wpList_plain hgd fun K hK=> ?_
 obtain ⟨w',a,b,d⟩:=run_make_full (P:=P) w w.heap.size t e i z size ht hi hz hs k k n hb hn (Nat.le_refl _)
 unfold Oper.wp execOp
 simp only [ho,hx,hy,Sem.run_bind,Sem.run_pure,a,Result.andThen_ok]
 exact hK _ _ (h _ w' _ (Own.of_row b) ((E5.refl w _).grown d (fun k hk=>by cases hk)) (fun k hk=>by simp [Value.ownBlock] at hk;omega) rfl rfl)
end
theorem Own.site {w:World} {e:TypeId} {ao:Option Addr} {cap n:Nat} {xs:List Value} (h:Own w e 1 (.slice ao n cap) n xs) (hn:0 < n):
  ∃g off,ao=some ⟨g,off,none⟩∧(∀j u,xs[j]?=some u→w.cell? ⟨g,off+j,none⟩=some u)∧(∀j,w.frozen? ⟨g,off+j,none⟩=false)∧
   ∀j u,j < n→Own (w.setCell ⟨g,off+j,none⟩ u) e 1 (.slice ao n cap) n (xs.set j u):=by
 rcases h.2 with ⟨hv,h0⟩ | ⟨g,off,cap',cur,hv,hg,hnc,hc,hsz,hcur⟩
 ·omega
 simp only [Value.slice.injEq,true_and] at hv
 obtain ⟨rfl,rfl⟩:=hv
 refine ⟨g,off,rfl,fun j u hu=>by rw [cell_of_row w g _ cur e (0,0) hg];exact hcur j u hu,fun j=>frozen_of_row w g _ cur e hg,fun j u hj=> ?_⟩
 refine ⟨by rw [List.length_set];exact h.1,.inr ⟨g,off,cap,cur.setIfInBounds (off+j) u,rfl,heap_setCell_same w g (off+j) cur e u hg,hnc,hc,by simpa using hsz,fun i v hv=> ?_⟩⟩
 have b:=h.1
 rw [Array.getElem?_setIfInBounds]
 by_cases a:j=i
 ·subst a
  rw [List.getElem?_set_self (by omega)] at hv
  rw [if_pos rfl,if_pos (by omega)]
  exact hv
 rw [List.getElem?_set_ne a] at hv
 rw [if_neg (by omega)]
 exact hcur i v hv
theorem A4.putOwn {w0 w w':World} {e:TypeId} {size:Nat} {g off n cap:Nat} {xs xs':List Value} {Rs:List A6} (h:A4 w0 w (B0 e size (.slice (some ⟨g,off,none⟩) n cap) n xs::Rs))
  (hown:Own w' e size (.slice (some ⟨g,off,none⟩) n cap) n xs') (hm:E5 w w' (fun k=>k=g)):A4 w0 w' (B0 e size (.slice (some ⟨g,off,none⟩) n cap) n xs'::Rs):=by
 obtain ⟨F,b,d,a⟩:=h.take
 refine a w' _ F ⟨hown,b.2⟩ (hm.mono fun k _ hk=>(b.2 k).2 (by subst hk;rfl)) (fun k hk=> .inl hk) (fun k hk=>T0a (d k hk).2 hm.size)
theorem E5.set (w:World) (g j:Nat) (u:Value):E5 w (w.setCell ⟨g,j,none⟩ u) (fun k=>k=g):=
 E5.setCell (S:=fun k=>k=g) (E5.refl w _) (p:=⟨g,j,none⟩) (.inr rfl) u
theorem Z8t {k:IntKind} {a b:Int} (h:a=b):Ending.returned (.int k a)= .returned (.int k b):=by rw [h]
def D3 (l:List Int):List Value:=l.map fun n=>Value.int .i64 n
theorem L6 (l:List Int):(D3 l).length=l.length:=by simp [D3]
theorem G5 (l:List Int) (j:Nat):(D3 l)[j]?=(l[j]?).map fun n=>Value.int .i64 n:=by simp [D3]
theorem S6 (l:List Int):∀u∈D3 l,u.oneCell'=true:=by
 intro u a
 obtain ⟨_,_,rfl⟩:=List.mem_map.1 a
 rfl
theorem T7 (l m:List Int):D3 (l++m)=D3 l++D3 m:=by simp [D3]
theorem Z1n (l:List Int) (i:Nat) (a:Int) (h:l[i]?=some a):l.take (i+1)=l.take i++[a]:=by rw [List.take_add_one,h];rfl
theorem Y8 (c:Nat):((2:Int)^c)=((2^c:Nat):Int):=by simp
theorem Z2p (l:List Int) (a most:Int):Z0s (l++[a]) most=(Z0s l most && decide (0≤a∧a≤most)):=by simp [Z0s]
theorem Z67 (l:List Int) (i:Nat) (most:Int) (h:Z0s (l.take i) most=false):Z0s l most=false:=by
 rw [←List.take_append_drop i l]
 unfold Z0s at*
 rw [List.all_append,h];rfl
theorem Z9g (l:List Int) (a:Int):Z08 (l++[a])=Z08 l+(if 0 < a then 1 else 0):=by
 unfold Z08
 rw [List.countP_append,List.countP_singleton]
 by_cases h:0 < a
 ·rw [if_pos h];simp [h]
 rw [if_neg h];simp [h]
theorem Z89 (l:List Int) (a:Int):(l++[a]).count 1=l.count 1+(if a=1 then 1 else 0):=by
 rw [T02,List.count_singleton]
 by_cases h:a=1
 ·subst h;rfl
 rw [if_neg h];simp [h]
theorem X0v {l:List Int} {most:Int} (h:Z0s l most=false):D0 l most=1:=by
 unfold D0 U4
 rw [h,if_pos (by simp)]
def Z0u (a:Int):Nat:=if 0≤a∧a≤1048576 then a.toNat else 0
def Z3i (l f:List Int):Nat→Nat
 | 0=>0
 | k+1=>Z3i l f k+Z0u (l.getD k 0)*Z0u (f.getD k 0)
theorem X6i (a:Int):Z0u a≤1048576:=by unfold Z0u;split <;> omega
theorem V4f (a b:Int):Z0u a*Z0u b≤1099511627776:=Nat.mul_le_mul (X6i a) (X6i b)
theorem W7d (x:Int):IntKind.i64.wrap x=wrap64 x:=by rw [IntKind.wrap_i64];unfold wrap64;rfl
theorem Z25 (z:Nat) (h:z < 9223372036854775808):IntKind.i64.wrap (z:Int)=(z:Int):=by rw [W7d];unfold wrap64;omega
theorem W1p {l:List Int} {i:Nat} {a:Int} (h:l[i]?=some a):l.getD i 0=a:=by simp [List.getD,h]
theorem Rd.at {w:World} {g off n cap j:Nat} {xs:List Value} {u:Value} (h:Rd w 1 (.slice (some ⟨g,off,none⟩) n cap) n xs) (hu:xs[j]?=some u):w.cell? ⟨g,off+j,none⟩=some u:=by
 have f:=(List.getElem?_eq_some_iff.1 hu).1
 obtain ⟨b,o,a,d⟩:=h.spot (by have:=h.1;omega)
 simp only [Option.some.injEq,Addr.mk.injEq,and_true] at a
 obtain ⟨rfl,rfl⟩:=a
 exact d j u hu
def X4 (k:IntKind) (l:List Nat):Value:= .agg (D5 k l).toArray
theorem Y1c (k:IntKind) (l:List Nat):∀u∈D5 k l,u.oneCell'=true:=by
 intro u a
 obtain ⟨_,_,rfl⟩:=List.mem_map.1 a
 rfl
theorem Y3 (k:IntKind) (l:List Nat) (i b:Nat):(D5 k l).set i (.int k (b:Int))=D5 k (l.set i b):=by
 simp [D5,List.map_set]
theorem Y7m (k:IntKind) (n b:Nat):D5 k (List.replicate n b)=List.replicate n (.int k (b:Int)):=by simp [D5]
def Z5y (d:TypeDesc):Bool:=match d with | .struct _ | .array _ _=>true | _=>false
section
variable {P:Program} {w:World}
theorem Y8t (t e len:Nat) (d:TypeDesc) (i:TypeInfo) (ht:P.underlying t=some (.array len e)) (he:P.underlying e=some d) (hd:Z5y d=false) (hi:P.info? e=some i) (hs:i.size=1)
  (cs:Array Value) (k:IntKind) (j:Nat) (v:Value) (hj:j < len) (hv:cs[j]?=some v):
  (Instr.index t (.agg cs) (.int k (j:Int))).run P w= .ok v w:=by
 have a:(isAgg e).run P w= .ok false w:=by
  unfold isAgg
  rw [Sem.run_bind,run_underlying he w]
  cases d <;> simp_all [Z5y]
 have b:(0:Int)≤(j:Int)∧(j:Int) < (len:Int):=by omega
 simp [Instr.index,asIntOf,run_underlying ht,b,sizeOf,typeInfo,hi,hs,part,a,hv]
 intro h;omega
theorem Z64 {ops:Array Oper} {rest:List Oper} {o:Oper} {ac:Act} {Q:Exit→Act→World→Prop} (hgd:o.guard=none) (t:TypeId) (x y:Operand) (ho:o.op= .index t x y)
  (e len:Nat) (d:TypeDesc) (ht:P.underlying t=some (.array len e)) (he:P.underlying e=some d) (hd:Z5y d=false) (hi:(P.info? e).map (·.size)=some 1)
  (k:IntKind) (l:List Nat) (k2:IntKind) (j b:Nat) (hx:ac.eval x=X4 k l) (hy:ac.eval y= .int k2 (j:Int)) (hj:j < len) (hb:l[j]?=some b)
  (h:wpList P ops Q rest (ac.put o.dst (.int k (b:Int))) w):wpList P ops Q (o::rest) ac w:=
 wpList_plain hgd fun _ hK=>by
  obtain ⟨i,hi1,hi2⟩:∃i,P.info? e=some i∧i.size=1:=by
   cases hq:P.info? e with
   | none=>simp [hq] at hi
   | some i=>exact ⟨i,rfl,by simpa [hq] using hi⟩
  have a:=Y8t (P:=P) (w:=w) t e len d i ht he hd hi1 hi2 (D5 k l).toArray k2 j (.int k (b:Int)) hj (by simp [D5,hb])
  unfold Oper.wp execOp
  simp only [ho,hx,hy,Sem.run_bind,Sem.run_pure,X4,a,Result.andThen_ok]
  exact hK _ _ h
theorem K1 {ops:Array Oper} {rest:List Oper} {o:Oper} {ac:Act} {Q:Exit→Act→World→Prop} (hgd:o.guard=none) (t:TypeId) (ho:o.op= .alloc t)
  (k:IntKind) (l:List Nat) (hz:(P.info? t).map (·.zero)=some (some (X4 k l)))
  (h:wpList P ops Q rest (ac.put o.dst (.pointer (some ⟨w.heap.size,0,none⟩))) (w.alloc (.cells (D5 k l).toArray t))):wpList P ops Q (o::rest) ac w:=
 wpList_plain hgd fun _ hK=>by
  cases hq:P.info? t with
  | none=>simp [hq] at hz
  | some i=>
   have hi:i.zero=some (X4 k l):=by simpa [hq] using hz
   unfold Oper.wp execOp
   simp only [ho,Instr.alloc,zeroValue,typeInfo,Sem.run_bind,Sem.run_pure]
   simp [hq,hi,newVar,newRow,X4,Value.cells,newObj]
   exact hK _ _ h
theorem Z4h {ops:Array Oper} {rest:List Oper} {o:Oper} {ac:Act} {Q:Exit→Act→World→Prop} (hgd:o.guard=none) (t:TypeId) (x:Operand) (ho:o.op= .box t x)
  (k:IntKind) (l:List Nat) (hx:ac.eval x=X4 k l)
  (h:wpList P ops Q rest (ac.put o.dst (.pointer (some ⟨w.heap.size,0,none⟩))) (w.alloc (.cells (D5 k l).toArray t))):wpList P ops Q (o::rest) ac w:=
 wpList_plain hgd fun _ hK=>by
  unfold Oper.wp execOp
  simp only [ho,hx,Instr.box,Sem.run_bind,Sem.run_pure]
  simp [newVar,newRow,X4,Value.cells,newObj]
  exact hK _ _ h
theorem Z06 {ops:Array Oper} {rest:List Oper} {o:Oper} {ac:Act} {Q:Exit→Act→World→Prop} (hgd:o.guard=none) (t:TypeId) (x:Operand) (ho:o.op= .load t x)
  (d:TypeDesc) (n:Nat) (ht:P.underlying t=some d) (hd:Z5y d=true) (hi:(P.info? t).map (·.size)=some n)
  (B:Nat) (k:IntKind) (l:List Nat) (T:TypeId) (hx:ac.eval x= .pointer (some ⟨B,0,none⟩)) (hl:l.length=n) (hB:X6 w B (D5 k l) T)
  (h:wpList P ops Q rest (ac.put o.dst (X4 k l)) w):wpList P ops Q (o::rest) ac w:=
 wpList_load_row hgd t x ho B hx T (D5 k l).toArray (0,0) d hB ht (by cases d <;> simp_all [Z5y]) (by rw [hi];simp [D5,hl]) h
theorem N5 {ops:Array Oper} {rest:List Oper} {o:Oper} {ac:Act} {Q:Exit→Act→World→Prop} (hgd:o.guard=none) (t:TypeId) (x y:Operand) (ho:o.op= .store t x y)
  (n:Nat) (hi:(P.info? t).map (·.size)=some n)
  (B:Nat) (k:IntKind) (l l2:List Nat) (T:TypeId) (hx:ac.eval x= .pointer (some ⟨B,0,none⟩)) (hy:ac.eval y=X4 k l2) (hl:l.length=n) (hl2:l2.length=n) (hB:X6 w B (D5 k l) T)
  (h:∀w',X6 w' B (D5 k l2) T→E5 w w' (fun k=>k=B)→wpList P ops Q rest (ac.put o.dst undef) w'):wpList P ops Q (o::rest) ac w:=
 wpList_store_row hgd t x y ho B (D5 k l2).toArray hx hy T (D5 k l).toArray hB (by rw [hi];simp [D5,hl2]) (by simp [D5,hl,hl2])
  (by rw [Array.all_eq_true_iff_forall_mem];intro u hu;exact Y1c k l2 u (by simpa using hu))
  (h _ (setRow_heap w B _ _ T (0,0) hB) ⟨rfl,rfl,rfl,by simp,fun j _ hne=>setRow_other w B j _ hne⟩)
theorem X3f {fn:Func} {p:Tmp} {t:TypeId} (hf:fn.results=#[.cell p t]) {R:Ending→World→Prop} {a:Act}
  (d:TypeDesc) (n:Nat) (ht:P.underlying t=some d) (hd:Z5y d=true) (hi:(P.info? t).map (·.size)=some n)
  (B:Nat) (k:IntKind) (l:List Nat) (T:TypeId) (hp:a.tmps.getD p undef= .pointer (some ⟨B,0,none⟩)) (hl:l.length=n) (hB:X6 w B (D5 k l) T)
  (hdf:a.defers=[]) (h:R (.returned (X4 k l)) w):bodyPost P fn R .ret a w:=
 bodyPost_ret (v:=X4 k l) (results_cell_row hf a.tmps w B T (D5 k l).toArray (0,0) d hp hB ht (by cases d <;> simp_all [Z5y]) (by rw [hi];simp [D5,hl])) hdf h
end
theorem A4.putObj {w0 w w':World} {B:Nat} {cs cs':List Value} {T:TypeId} {Rs:List A6} (h:A4 w0 w (E8 B cs T::Rs)) (hB:X6 w' B cs' T) (hm:E5 w w' (fun k=>k=B)):A4 w0 w' (E8 B cs' T::Rs):=by
 obtain ⟨F,b,d,a⟩:=h.take
 exact a w' _ F ⟨hB,b.2⟩ (hm.mono fun k _ hk=>(b.2 k).2 hk) (fun k hk=> .inl hk) (fun k hk=>T0a (d k hk).2 hm.size)
theorem Y5z (a:Int) (w:World):
  Calls Tryz.prog 168 #[.int .i64 a] w fun e w'=>e= .returned (.bool (Q2 a))∧w=w':=by
 have d:a < 1∨1≤a∧a≤15∨1≤a∧15 < a:=by omega
 rcases d with h | ⟨h,h2⟩ | ⟨h,h2⟩
 ·have f:¬1≤a:=by omega
  have b:Hid (Q2 a=false):=by unfold Hid Q2;simp;omega
  go_enter Tryz.func168,Tryz.ntmps168
  go_wp2
  go_ret
  exact ⟨by rw [b.out];rfl,rfl⟩
 ·have b:Hid (Q2 a=true):=by unfold Hid Q2;simp;omega
  go_enter Tryz.func168,Tryz.ntmps168
  go_wp2
  go_ret
  exact ⟨by rw [b.out];rfl,rfl⟩
 have f:¬a≤15:=by omega
 have b:Hid (Q2 a=false):=by unfold Hid Q2;simp;omega
 go_enter Tryz.func168,Tryz.ntmps168
 go_wp2
 go_ret
 exact ⟨by rw [b.out];rfl,rfl⟩
def P5 (l:List Int):List Nat:=(List.range 16).map fun (n:Nat)=>if n=0 then 0 else l.count (n:Int)
theorem T4 (l:List Int):(P5 l).length=16:=by simp [P5]
theorem Z0n (l:List Int) (n:Nat) (h1:1≤n) (h:n≤15):(P5 l)[n]?=some (l.count (n:Int)):=by
 simp only [P5,List.getElem?_map,List.getElem?_range (show n < 16 by omega),Option.map_some]
 rw [if_neg (by omega)]
theorem Z5m (l:List Int):(P5 l)[0]?=some 0:=by simp [P5]
theorem X07 (l:List Int) (m:Nat) (h1:1≤m) (h:m≤15):(P5 l).set m (l.count (m:Int)+1)=P5 (l++[(m:Int)]):=by
 refine T0b fun j=> ?_
 rw [List.getElem?_set,T4]
 by_cases b:j < 16
 ·by_cases e:m=j
  ·subst e
   rw [if_pos rfl,if_pos (by omega),Z0n _ m h1 h]
   simp
  rw [if_neg e]
  by_cases a:j=0
  ·subst a;rw [Z5m,Z5m]
  rw [Z0n _ j (by omega) (by omega),Z0n _ j (by omega) (by omega),T02,T0c (by omega)]
  simp
 rw [if_neg (by omega),T01 (by rw [T4];omega),T01 (by rw [T4];omega)]
theorem Y9n (l:List Int) (a:Int) (h:Q2 a=false):P5 (l++[a])=P5 l:=by
 refine T0b fun j=> ?_
 by_cases f:j < 16
 ·by_cases b:j=0
  ·subst b;rw [Z5m,Z5m]
  have d:¬(1≤a∧a≤15):=by simpa [Q2] using h
  rw [Z0n _ j (by omega) (by omega),Z0n _ j (by omega) (by omega),T02,T0c (by omega)]
  simp
 rw [T01 (by rw [T4];omega),T01 (by rw [T4];omega)]
theorem V07:(Tryz.prog.info? 197).map (·.zero)=some (some (X4 .i64 (P5 []))):=by kernel_rfl
theorem Y3n:(Tryz.prog.info? 197).map (·.size)=some 16:=by kernel_rfl
theorem Y3h (v:Value) (l:List Int) (w:World) (hv:Rd w 1 v l.length (D3 l)) (hl:l.length < 1000000):
  Calls Tryz.prog 136 #[v] w fun e w'=>e= .returned (X4 .i64 (P5 l))∧E5 w w' (fun _=>False):=by
 obtain ⟨ao,c1,rfl,_,_⟩:=hv.form
 obtain ⟨n,hn⟩:∃n,n=l.length:=⟨_,rfl⟩
 rw [←hn] at hv hl⊢
 have t:=A5 hn
 clear hn
 go_enter Tryz.func136,Tryz.ntmps136
 go_wp2_with (refine K1 rfl _ rfl .i64 _ V07 ?_)
 have j:A4 w ((w.alloc (.cells (D5 .i64 (P5 [])).toArray 197)).alloc (.cells (D5 .i64 (P5 [])).toArray 197)) [E8 (w.heap.size+1) (D5 .i64 (P5 [])) 197,E8 w.heap.size (D5 .i64 (P5 [])) 197]:=by
  have h:=((A4.start w).newObj (D5 .i64 (P5 [])) 197).newObj (D5 .i64 (P5 [])) 197
  simpa using h
 have y:=A5 j
 clear j
 go_loopg [8] (n+1) (fun k t8 wr=>∃ (i:Nat),i≤n∧n-i < k∧t8= .int .i64 (i:Int)∧Hid (A4 w wr [E8 (w.heap.size+1) (D5 .i64 (P5 (l.take i))) 197,E8 w.heap.size (D5 .i64 (P5 [])) 197]))
 case atStart=>exact ⟨0,by omega,by omega,rfl,y⟩
 case round=>
  obtain ⟨i,hi,hk,rfl,d⟩:=hrel
  by_cases b9:i < n
  rotate_left
  ·have b6:¬(i:Int) < (n:Int):=by omega
   have HE:Hid (l.take i=l):=by unfold Hid;exact List.take_of_length_le (by have:=t.out;omega)
   rw [HE.out] at d
   have hB:=d.out.obj
   have a0:=d.out.swap.obj
   have HL:=A5 (T4 l)
   have a2:=A5 (T4 [])
   go_wp2_with (first
    | refine Z06 rfl _ _ rfl _ 16 (by rfl) rfl Y3n (w.heap.size+1) .i64 (P5 l) _ rfl HL.out hB ?_
    | (refine N5 rfl _ _ _ rfl 16 Y3n w.heap.size .i64 (P5 []) (P5 l) _ rfl rfl a2.out HL.out a0 ?_;intro w3 p a3))
   exact X3f rfl _ 16 (by rfl) rfl Y3n w.heap.size .i64 (P5 l) _ rfl HL.out p rfl ⟨rfl,(d.out.swap.putObj p a3).mod⟩
  obtain ⟨g,c2,rfl,b⟩:=(d.out.old hv).spot (by omega)
  obtain ⟨a,f⟩:∃a,l[i]?=some a:=⟨l[i]'(by have:=t.out;omega),T0d _⟩
  have a6:=b i _ (by rw [G5,f];rfl)
  have a7:(0:Int)≤(i:Int):=T03 _
  have a8:(i:Int) < (n:Int):=by omega
  have HT:=A5 (Z1n l i a f)
  have q:=A5 (Y5z a wr)
  have o:(l.take i).count a≤n:=Nat.le_trans (List.count_le_length) (by simp;have:=t.out;omega)
  cases hisl:Q2 a with
  | true=>
   rw [hisl] at q
   have a9:1≤a∧a≤15:=by simpa [Q2] using hisl
   obtain ⟨m,rfl⟩:=Int.eq_ofNat_of_zero_le (show 0≤a by omega)
   obtain ⟨x,s⟩:∃x,x=(l.take i).count ((m:Nat):Int):=⟨_,rfl⟩
   have b0:x≤n:=by rw [s];exact o
   have r:=d.out.obj.cell (i:=m) (v:= .int .i64 (x:Int)) (by rw [O8,Z0n _ m (by omega) (by omega),s];rfl)
   have b1:=d.out.obj.frozen m
   have b2:(0:Int)≤(m:Int):=T03 _
   have b3:(m:Int) < 16:=by omega
   have HX:=A5 s
   have HS:=A5 (d.out.setObj m (.int .i64 ((x+1:Nat):Int)))
   have z:Hid (D5 .i64 ((P5 (l.take i)).set m (x+1))=D5 .i64 (P5 (l.take (i+1)))):=by unfold Hid;rw [HT.out,←X07 _ m (by omega) (by omega),HX.out]
   clear b f hisl s o
   go_wp2_with fail
   refine q.out.mono ?_
   rintro e w1 ⟨rfl,rfl⟩
   go_wp2
   go_roundg (gk-1)
   case measure=>omega
   case rel=>exact ⟨i+1,by omega,by omega,by go_num,by unfold Hid;have h:=HS.out;rw [Y3,z.out] at h;simpa using h⟩
  | false=>
   rw [hisl] at q
   have z:Hid (P5 (l.take (i+1))=P5 (l.take i)):=by unfold Hid;rw [HT.out];exact Y9n _ _ hisl
   clear b f hisl
   go_wp2_with fail
   refine q.out.mono ?_
   rintro e w1 ⟨rfl,rfl⟩
   go_wp2
   go_roundg (gk-1)
   case measure=>omega
   case rel=>exact ⟨i+1,by omega,by omega,by go_num,by unfold Hid;rw [z.out];exact d.out⟩
theorem W9n (l:List Int) (i x:Nat) (h:(P5 l)[i]?=some x) (hi:i≤15):tot l (i-1)+x*2^(15-i)=tot l i:=by
 match i with
 | 0=>
  rw [Z5m] at h;injection h with h;subst h
  simp [tot]
 | n+1=>
  rw [Z0n l (n+1) (by omega) hi] at h;injection h with h;subst h
  rw [tot];congr 2;congr 1;omega
theorem V3r (x m:Nat) (h:x*2^m < 9223372036854775808):wrap64 ((x:Int)*2^m)=((x*2^m:Nat):Int):=by
 rw [Y8,show ((x:Int)*((2^m:Nat):Int))=((x*2^m:Nat):Int) by simp]
 generalize x*2^m=z at h⊢
 unfold wrap64;omega
theorem X51 (l:List Int) (w:World) (hl:l.length < 1000000):
  Calls Tryz.prog 137 #[X4 .i64 (P5 l)] w fun e w'=>e= .returned (.int .i64 ((F4 l:Nat):Int))∧E5 w w' (fun _=>False):=by
 have r:=A5 (T4 l)
 go_enter Tryz.func137,Tryz.ntmps137
 have t:X6 (w.alloc (.cells (D5 .i64 (P5 l)).toArray 197)) w.heap.size (D5 .i64 (P5 l)) 197:=X6.new _ _ _
 have z:Hid (E5 w (w.alloc (.cells (D5 .i64 (P5 l)).toArray 197)) (fun _=>False)):=(E5.refl w _).alloc _
 obtain ⟨o,a⟩:∃o,o=w.alloc (.cells (D5 .i64 (P5 l)).toArray 197):=⟨_,rfl⟩
 rw [←a] at t z
 have f:=A5 a
 clear a
 go_wp2_with (first
  | (refine Z4h rfl _ _ rfl .i64 (P5 l) rfl ?_;rw [←f.out])
  | refine Z06 rfl _ _ rfl _ 16 (by rfl) rfl Y3n w.heap.size .i64 (P5 l) _ rfl r.out t ?_)
 go_loopg [3,7] 17 (fun k t3 t7 wr=>∃ (i s:Nat),i≤16∧16-i < k∧t7= .int .i64 (i:Int)∧t3= .int .i64 (s:Int)∧Hid (s=tot l (i-1))∧s < 16385000000∧wr=o)
 case atStart=>exact ⟨0,0,by omega,by omega,rfl,rfl,rfl,by omega,rfl⟩
 case round=>
  obtain ⟨i,s,hi,hk,rfl,rfl,HS,hs,rfl⟩:=hrel
  by_cases n:i < 16
  ·have g:(i:Int) < 16:=by omega
   have a1:(0:Int)≤(i:Int):=T03 _
   obtain ⟨x,p⟩:∃x,(P5 l)[i]?=some x:=⟨_,T0d (by have:=r.out;omega)⟩
   obtain ⟨m,q⟩:∃m,m=15-i:=⟨_,rfl⟩
   have a2:(15:Int)- (i:Int)=(m:Int):=by omega
   have b:=W9n l i x p (by omega)
   have ht:=V0l l i (by omega)
   rw [←q,←HS.out] at b
   obtain ⟨y,d⟩:∃y,y=x*2^m:=⟨_,rfl⟩
   rw [←d] at b
   have a4:wrap64 ((x:Int)*2^(15-i))=(y:Int):=by rw [d,q];rw [q] at d;exact V3r x (15-i) (by omega)
   have j:s+y < 16385000000:=by omega
   have HP:=A5 b
   have HX:=A5 p
   clear p b d ht
   go_wp2_with (refine Z64 rfl _ _ _ rfl _ 16 _ (by rfl) (by rfl) rfl (by kernel_rfl) .i64 (P5 l) .i64 i x rfl rfl n HX.out ?_)
   go_roundg (gk-1)
   case measure=>omega
   case rel=>exact ⟨i+1,s+y,by omega,by omega,by go_num,by go_num,by unfold Hid;rw [Nat.add_sub_cancel];exact HP.out,j,rfl⟩
  obtain rfl:i=16:=by omega
  have g:¬((16:Nat):Int) < 16:=by omega
  go_wp2
  go_ret
  exact ⟨Z8t (by rw [HS.out];rfl),z.out⟩
theorem W15 (v:Value) (l:List Int) (w:World) (hv:Rd w 1 v l.length (D3 l)) (hl:l.length < 1000000):
  Calls Tryz.prog 103 #[v] w fun e w'=>e= .returned (.int .i64 ((F4 l:Nat):Int))∧E5 w w' (fun _=>False):=by
 obtain ⟨o,k,rfl,_,_⟩:=hv.form
 have d:=A5 (Y3h _ l w hv hl)
 have g:=A5 hl
 generalize l.length=n at d hv⊢
 clear hv hl
 go_enter Tryz.func103,Tryz.ntmps103
 go_wp2_with fail
 refine d.out.mono ?_
 rintro e j ⟨rfl,f⟩
 have i:=A5 f
 clear f
 go_wp2_with fail
 refine (X51 l j g.out).mono ?_
 rintro e m ⟨rfl,a⟩
 have b:=A5 a
 clear a
 go_wp2
 go_ret
 exact ⟨rfl,i.out.same b.out⟩
end Go.Proofs.YtbkbkmgogbgofaaGreatDoor
