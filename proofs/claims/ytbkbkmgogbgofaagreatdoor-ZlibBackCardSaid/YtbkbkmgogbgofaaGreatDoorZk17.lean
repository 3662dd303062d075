/- The claim's texts, put together and shortened by a program (names, spaces). -/
import Derived.Test.YtbkbkmgogbgofaaGreatDoorZk13
import Derived.Test.YtbkbkmgogbgofaaGreatDoorZk11
import Derived.Test.YtbkbkmgogbgofaaGreatDoorZk10
import Derived.Test.YtbkbkmgogbgofaaGreatDoorZk04
import Derived.Test.YtbkbkmgogbgofaaGreatDoorZk03
import Derived.StillTailTactics
import Derived.Lib.SlBytesConst
import Derived.Test.YtbkbkmgogbgofaaGreatDoorZk05
import Derived.Test.YtbkbkmgogbgofaaGreatDoorZk08
open List renaming replicate→T00,length_replicate→T01,length_append→T02,getElem?_append_left→T03,length_drop→T05,getElem?_take→T07,length_cons→T08,drop_append_of_le_length→T0b,getElem?_eq_getElem→T0c,drop_replicate→T0d,eq_of_mem_replicate→T0e,take_append_of_le_length→T0h,getElem?_drop→T0i,length_take→T0j,take_add_one→T0k,take_replicate→T0l,replicate_succ→T0m,getElem?_replicate→T0n
open Nat renaming le_refl→T04,lt_trichotomy→T0g
open Int renaming le_refl→T09,toNat_natCast→T0a,natCast_nonneg→T0f
open Option renaming filter→T06
namespace Go.Proofs.YtbkbkmgogbgofaaGreatDoor
set_option maxRecDepth 100000
set_option maxHeartbeats 6400000
open Go.RowKit
def Z63 (kind:Nat) (raw out o:List Nat):List Nat:=if kind=0 then out++raw else o
def W24 (kind:Nat) (tk l:List E3):List E3:=if kind=0 then tk else tk++l
section
variable {l:List E3} {raw bs out o pre post:List Nat} {tk:List E3} {kind M f:Nat} {ks ss:List Nat}
theorem W77 (h:P6 l raw (pre.length+3) kind bs) (hp:isBits post) (he:S0 out l=(0,o)) (ho:o.length≤M) (hr:out.length+raw.length≤M) (v:Nat) (hv:v < 8) (hvk:v / 2=kind):
  I8 (pre++(A9 3 v++(bs++post))) pre.length 3=some v∧I9 (pre++(A9 3 v++(bs++post))) M (v / 2) (pre.length+3) out tk=(0,pre.length+3+bs.length,Z63 kind raw out o,W24 kind tk l):=by
 refine ⟨Z2r pre (bs++post) 3 v hv, ?_⟩
 have e:pre++(A9 3 v++(bs++post))=(pre++A9 3 v)++(bs++post):=by simp
 have a:(pre++A9 3 v).length=pre.length+3:=by rw [T02,B5]
 have b:=W07 (pre++A9 3 v) (by rw [a];exact h) hp M out o tk he ho hr
 rw [a,←e] at b
 rw [hvk]
 exact b
theorem W48 (h:P6 l raw (pre.length+3) kind bs) (hk:kind < 3) (hp:isBits post) (he:S0 out l=(0,o)) (ho:o.length≤M) (hr:out.length+raw.length≤M):
  T6 (pre++(A9 3 (2*kind)++(bs++post))) M (f+1) pre.length out tk ks ss=T6 (pre++(A9 3 (2*kind)++(bs++post))) M f (pre.length+3+bs.length) (Z63 kind raw out o) (W24 kind tk l) (ks++[kind]) (ss++[(Z63 kind raw out o).length]):=by
 obtain ⟨b,d⟩:=W77 (tk:=tk) h hp he ho hr (2*kind) (by omega) (by omega)
 have a:=Y7c (f:=f) (Z9z (ks:=ks) (ss:=ss) b d (by omega))
 rw [show 2*kind / 2=kind by omega] at a
 exact a
theorem W5p (h:P6 l raw (pre.length+3) kind bs) (hk:kind < 3) (hp:isBits post) (he:S0 out l=(0,o)) (ho:o.length≤M) (hr:out.length+raw.length≤M):
  T6 (pre++(A9 3 (1+2*kind)++(bs++post))) M (f+1) pre.length out tk ks ss=⟨0,pre.length+3+bs.length,Z63 kind raw out o,W24 kind tk l,ks++[kind],ss++[(Z63 kind raw out o).length],(pre.length+3+bs.length+7) / 8⟩:=by
 obtain ⟨b,d⟩:=W77 (tk:=tk) h hp he ho hr (1+2*kind) (by omega) (by omega)
 have a:=Z0p (f:=f) (Y0d (ks:=ks) (ss:=ss) b d (by omega))
 rw [show (1+2*kind) / 2=kind by omega] at a
 exact a
end
def V2s:List Nat:=A9 3 0++G6 3 []
theorem Y7o {a b:Nat} (h:a%8=b%8) (raw:List Nat):G6 a raw=G6 b raw:=by
 unfold G6
 rw [show V9 a-a=V9 b-b by unfold V9;omega]
def gaps:Nat→List Nat
 | 0=>[]
 | n+1=>gaps n++V2s
def Z37 (l:List E3):Prop:=∀t∈l,E9 t=true
def Z3t (kind:Int) (l:List E3) (raw:List Nat):Prop:=kind=0∧raw.length≤65535∨(kind=1∨kind=2)∧Z37 l∧l.length < 1048576
instance (l:List E3):Decidable (Z37 l):=by unfold Z37;infer_instance
instance (kind:Int) (l:List E3) (raw:List Nat):Decidable (Z3t kind l raw):=by unfold Z3t;infer_instance
section
variable (F:Nat→List E3→List Nat→Nat→List Nat)
def Q7 (kind:Nat) (l:List E3) (raw:List Nat) (last:Bool) (a:Nat):List Nat:=A9 3 ((if last then 1 else 0)+2*kind)++F kind l raw (a+3)
def V4 (kind:Int) (l:List E3) (raw:List Nat):Int:=if Z3t kind l raw then ((3+(F kind.toNat l raw 3).length:Nat):Int) else -1
def Q1 (b:Int×Int) (k c:Int):Int×Int:=if 0≤c∧(b.1 < 0∨c < b.2) then (k,c) else b
def Z7d (l:List E3) (raw:List Nat):Int×Int:=
 Q1 (Q1 (Q1 (-1,0) 0 (V4 F 0 l raw)) 1 (V4 F 1 l raw)) 2 (V4 F 2 l raw)
end
section
variable {F:Nat→List E3→List Nat→Nat→List Nat} {Lv:World→Prop} {w0 w:World} {Rs:List A6}
end
theorem W64 {kind:Nat} {l:List E3} {raw:List Nat} (h:Z3t kind l raw):kind < 3:=by
 rcases h with ⟨h,_⟩ | ⟨h | h,_⟩ <;> omega
theorem X2n (n:Nat):isBits (T00 n 0):=fun b hb=>by rw [T0e hb];omega
theorem P6.isBits {l:List E3} {raw bs:List Nat} {a kind:Nat} (h:P6 l raw a kind bs):isBits bs:=by
 cases h with
 | stored=>exact D8 (X2n _) (D8 (F5 _ _) (D8 (F5 _ _) (M8 _)))
 | fixed _ h=>exact h.isBits
 | dynamic lit dist hd C lb bs h h2=>exact D8 (D8 (F5 _ _) (D8 (F5 _ _) (D8 (F5 _ _) (D8 (Z6v _ _) h.lens.isBits)))) h2.isBits
theorem X8u (l:List Nat):∃p,isBits p∧J2 l=l++p:=
 ⟨T00 ((8-l.length%8)%8) 0,(fun b hb=>by rw [T0e hb];omega),rfl⟩
theorem Y8p (l:List Nat):(D4 (J2 l)).length=(l.length+7) / 8:=by
 rw [O7]
 simp only [J2,T02,T01]
 omega
section
variable {F:Nat→List E3→List Nat→Nat→List Nat} {Lv:World→Prop} {l:List E3} {raw o:List Nat} {kind a M:Nat}
def Y6w (F:Nat→List E3→List Nat→Nat→List Nat) (l:List E3) (raw:List Nat) (b:Int×Int):Prop:=∃kk:Nat,b.1=(kk:Int)∧Z3t kk l raw∧b.2=((3+(F kk l raw 3).length:Nat):Int)
theorem Z7c (k:Nat) (b:Int×Int) (h:b.1 < 0∨Y6w F l raw b):(Q1 b k (V4 F k l raw)).1 < 0∨Y6w F l raw (Q1 b k (V4 F k l raw)):=by
 unfold Q1
 split
 ·rename_i d
  refine .inr ⟨k,rfl, ?_⟩
  have a:Z3t k l raw:=by
   refine Classical.byContradiction fun hno=> ?_
   have:=d.1
   unfold V4 at this
   rw [if_neg hno] at this
   omega
  refine ⟨a, ?_⟩
  show V4 F k l raw=_
  unfold V4
  rw [if_pos a]
  rfl
 exact h
theorem Y4p (k:Nat) (b:Int×Int) (h:b.1 < 0∨Y6w F l raw b) (hm:Z3t k l raw):Y6w F l raw (Q1 b k (V4 F k l raw)):=by
 rcases Z7c k b h with h2 | h2
 ·exfalso
  have d:(0:Int)≤V4 F k l raw:=by
   unfold V4
   rw [if_pos hm]
   exact T0f _
  unfold Q1 at h2
  split at h2
  ·have:((k:Int)) < 0:=h2
   omega
  rename_i a
  exact a ⟨d,.inl h2⟩
 exact h2
theorem X7i (hs:Z37 l) (hl:l.length < 1048576):Y6w F l raw (Z7d F l raw):=
 Y4p 2 _ (Z7c 1 _ (Z7c 0 _ (.inl (by decide)))) (.inr ⟨.inr rfl,hs,hl⟩)
end
inductive Z1q (N:Nat):List Nat→List Nat→List Nat→List Nat→Prop
 | nil:Z1q N [] [] [] []
 | snoc (D out ks ss:List Nat) (kind:Nat) (l:List E3) (raw bs o:List Nat):Z1q N D out ks ss→kind < 3→P6 l raw (D.length+3) kind bs→S0 out l=(0,o)→o.length≤N→out.length+raw.length≤N→
   (Z63 kind raw out o).length≤out.length+16642→Z1q N (D++(A9 3 (2*kind)++bs)) (Z63 kind raw out o) (ks++[kind]) (ss++[(Z63 kind raw out o).length])
def V39 (ss:List Nat):Prop:=∀i v,ss[i]?=some v→v≤(if i=0 then 0 else ss[i-1]?.getD 0)+16642
theorem Y9g {ss:List Nat} {v:Nat} (h:V39 ss) (hv:v≤ss.getLast?.getD 0+16642):V39 (ss++[v]):=by
 intro i u a
 rcases Nat.lt_or_ge i ss.length with hi | hi
 ·rw [T03 hi] at a
  have:=h i u a
  by_cases b:i=0
  ·rw [if_pos b] at this⊢;exact this
  rw [if_neg b] at this⊢
  rw [T03 (by omega)];exact this
 rw [List.getElem?_append_right hi] at a
 have d:i-ss.length=0:=by
  have:=(List.getElem?_eq_some_iff.1 a).1
  simp at this;omega
 rw [d] at a
 simp at a
 subst a
 have f:i=ss.length:=by omega
 by_cases b:i=0
 ·rw [if_pos b]
  have:ss=[]:=List.eq_nil_of_length_eq_zero (by omega)
  subst this
  simpa using hv
 rw [if_neg b,T03 (by omega),f,←List.getLast?_eq_getElem?]
 exact hv
section
variable {N M:Nat} {D out ks ss:List Nat}
theorem Z1q.bits01 (h:Z1q N D out ks ss):isBits D:=by
 induction h with
 | nil=>intro b a;cases a
 | snoc D out ks ss kind l raw bs o _ _ a _ _ _ _ ih=>exact D8 ih (D8 (F5 _ _) a.isBits)
theorem Z1q.count (h:Z1q N D out ks ss):ks.length≤D.length∧ss.length=ks.length:=by
 induction h with
 | nil=>exact ⟨T04 _,rfl⟩
 | snoc D out ks ss kind l raw bs o _ _ hb _ _ _ _ ih=>
  simp only [T02,T08,List.length_nil,B5]
  omega
theorem Z1q.gaps (h:Z1q N D out ks ss):V39 ss∧ss.getLast?.getD 0=out.length:=by
 induction h with
 | nil=>exact ⟨fun i v hv=>by simp at hv,rfl⟩
 | snoc D out ks ss kind l raw bs o _ _ hb _ _ _ hg ih=>exact ⟨Y9g ih.1 (by rw [ih.2];exact hg),by simp⟩
theorem Z1q.stops (h:Z1q N D out ks ss):∀v∈ss,v≤N:=by
 induction h with
 | nil=>exact fun v a=>by cases a
 | snoc D out ks ss kind l raw bs o _ _ _ _ ho hr _ ih=>
  intro v a
  rcases List.mem_append.1 a with a | a
  ·exact ih v a
  simp only [List.mem_singleton] at a
  subst a
  unfold Z63
  split
  ·rw [T02];exact hr
  exact ho
theorem Z1q.more {N2:Nat} (h:Z1q N D out ks ss) (hN:N≤N2):Z1q N2 D out ks ss:=by
 induction h with
 | nil=>exact .nil
 | snoc D out ks ss kind l raw bs o _ hk hb he ho hr hg ih=>exact .snoc D out ks ss kind l raw bs o ih hk hb he (by omega) (by omega) hg
theorem Z1q.read (h:Z1q N D out ks ss) (hM:N≤M):∀post,isBits post→∃tk,∀f,T6 (D++post) M (ks.length+f) 0 [] [] [] []=T6 (D++post) M f D.length out tk ks ss:=by
 induction h with
 | nil=>exact fun post _=>⟨[],fun f=>by simp⟩
 | snoc D out ks ss kind l raw bs o hc hk hb he ho hr hg ih=>
  intro post a
  obtain ⟨tk,d⟩:=ih (A9 3 (2*kind)++(bs++post)) (D8 (F5 _ _) (D8 hb.isBits a))
  refine ⟨W24 kind tk l,fun f=> ?_⟩
  have b:=W48 (pre:=D) (f:=f) (M:=M) (tk:=tk) (ks:=ks) (ss:=ss) hb hk a he (by omega) (by omega)
  have e:D++(A9 3 (2*kind)++bs)++post=D++(A9 3 (2*kind)++(bs++post)):=by simp
  rw [e,T02,List.length_singleton,show ks.length+1+f=ks.length+(f+1) by omega,d (f+1),b]
  congr 1
  simp only [T02,B5]
  omega
theorem Z1q.last {kind:Nat} {l:List E3} {raw bs o:List Nat} (h:Z1q N D out ks ss) (hM:N≤M) (hk:kind < 3) (hb:P6 l raw (D.length+3) kind bs) (he:S0 out l=(0,o)) (ho:o.length≤M) (hr:out.length+raw.length≤M):
  ∃tk,T6 (J2 (D++(A9 3 (1+2*kind)++bs))) M ((J2 (D++(A9 3 (1+2*kind)++bs))).length+1) 0 [] [] [] []=
   ⟨0,(D++(A9 3 (1+2*kind)++bs)).length,Z63 kind raw out o,tk,ks++[kind],ss++[(Z63 kind raw out o).length],((D++(A9 3 (1+2*kind)++bs)).length+7) / 8⟩:=by
 obtain ⟨a,i,e⟩:=X8u (D++(A9 3 (1+2*kind)++bs))
 obtain ⟨tk,m⟩:=h.read hM (A9 3 (1+2*kind)++(bs++a)) (D8 (F5 _ _) (D8 hb.isBits i))
 have b:J2 (D++(A9 3 (1+2*kind)++bs))=D++(A9 3 (1+2*kind)++(bs++a)):=by rw [e];simp
 have p:=h.count.1
 have d:ks.length≤(J2 (D++(A9 3 (1+2*kind)++bs))).length:=by rw [b,T02];omega
 rw [b] at d⊢
 generalize q:(D++(A9 3 (1+2*kind)++(bs++a))).length=n at d
 have g:=m (n-ks.length+1)
 rw [show ks.length+(n-ks.length+1)=n+1 by omega] at g
 have j:=W5p (pre:=D) (f:=n-ks.length) (M:=M) (tk:=tk) (ks:=ks) (ss:=ss) hb hk i he ho hr
 have k:(D++(A9 3 (1+2*kind)++bs)).length=D.length+3+bs.length:=by simp only [T02,B5];omega
 rw [k]
 exact ⟨_,g.trans j⟩
end
structure Z19 (F:Nat→List E3→List Nat→Nat→List Nat):Prop where
 good:∀ (kind:Nat) (l:List E3) (raw:List Nat) (a:Nat),Z3t kind l raw→O3 l→(∀b∈raw,b < 256)→P6 l raw a kind (F kind l raw a)
 same:∀ (kind:Nat) (l:List E3) (raw:List Nat) (a b:Nat),kind≠0→F kind l raw a=F kind l raw b
 place:∀ (kind:Nat) (l:List E3) (raw:List Nat) (a b:Nat),a%8=b%8→F kind l raw a=F kind l raw b
section
variable {F:Nat→List E3→List Nat→Nat→List Nat}
theorem P6.of_zero {l:List E3} {raw bs:List Nat} {a:Nat} (h:P6 l raw a 0 bs):bs=G6 a raw:=by
 generalize b:0=k at h
 cases h with
 | stored=>rfl
 | fixed=>omega
 | dynamic=>omega
theorem Z9v (a:Nat) (raw:List Nat):(G6 a raw).length≤8*raw.length+39:=by
 unfold G6
 simp only [T02,T01,B5,E1]
 unfold V9
 omega
theorem W16 (k:Nat) (b:Int×Int) (c:Int) (h0:0≤b.1) (hk:b.2≤c) (l:List E3) (raw:List Nat):(Q1 b k (V4 F k l raw)).2≤c∧0≤(Q1 b k (V4 F k l raw)).1:=by
 unfold Q1
 split
 ·rename_i a
  rcases a.2 with h | h
  ·omega
  exact ⟨by show V4 F k l raw≤c;omega,by show (0:Int)≤(k:Int);omega⟩
 exact ⟨hk,h0⟩
theorem X9r (l:List E3) (raw:List Nat) (h:Z3t 0 l raw):(Z7d F l raw).2≤V4 F 0 l raw:=by
 have b:(0:Int)≤V4 F 0 l raw:=by unfold V4;rw [if_pos h];exact T0f _
 have d:Q1 (-1,0) 0 (V4 F 0 l raw)=(0,V4 F 0 l raw):=by unfold Q1;rw [if_pos ⟨b,.inl (by decide)⟩]
 unfold Z7d
 rw [d]
 have a:=W16 (F:=F) 1 (0,V4 F 0 l raw) (V4 F 0 l raw) (T09 0) (T09 _) l raw
 exact (W16 (F:=F) 2 _ (V4 F 0 l raw) a.2 a.1 l raw).1
def Z31 (F:Nat→List E3→List Nat→Nat→List Nat) (packs:Bool) (l:List E3) (raw:List Nat) (last:Bool) (a:Nat):List Nat:=
 if packs then (if (Z7d F l raw).1 < 0 then [] else Q7 F (Z7d F l raw).1.toNat l raw last a) else Q7 F 0 [] raw last a
theorem Z9b (H:Z19 F) {a b:Nat} (h:a%8=b%8) (kind:Nat) (l:List E3) (raw:List Nat) (last:Bool):Q7 F kind l raw last a=Q7 F kind l raw last b:=by
 unfold Q7
 rw [H.place kind l raw (a+3) (b+3) (by omega)]
theorem Z94 (H:Z19 F) {a b:Nat} (h:a%8=b%8) (packs:Bool) (l:List E3) (raw:List Nat) (last:Bool):Z31 F packs l raw last a=Z31 F packs l raw last b:=by
 unfold Z31
 rw [Z9b H h,Z9b H h]
theorem X1d (H:Z19 F) {packs:Bool} {l:List E3} {raw:List Nat} (hb:O3 l) (hr:∀b∈raw,b < 256) (hm:raw.length≤65535) (hs:Z37 l) (hl:l.length < 1048576) (last:Bool) (a:Nat):
  ∃ (kind:Nat) (l':List E3) (bs:List Nat),kind < 3∧(packs=false→kind=0)∧(l'=l∨kind=0∧l'=[])∧P6 l' raw (a+3) kind bs∧Z31 F packs l raw last a=A9 3 ((if last then 1 else 0)+2*kind)++bs∧bs.length≤8*raw.length+39:=by
 cases packs with
 | false=>
  have d:=H.good 0 [] raw (a+3) (.inl ⟨rfl,hm⟩) (fun _ h=>by cases h) hr
  refine ⟨0,[],F 0 [] raw (a+3),by decide,fun _=>rfl,.inr ⟨rfl,rfl⟩,d,rfl, ?_⟩
  rw [d.of_zero]
  exact Z9v _ _
 | true=>
  obtain ⟨k,j,i,p⟩:=X7i (F:=F) (raw:=raw) hs hl
  have m:=X9r (F:=F) l raw (.inl ⟨rfl,hm⟩)
  have d:=H.good k l raw (a+3) i hb hr
  refine ⟨k,l,F k l raw (a+3),W64 i,(fun h=>by cases h),.inl rfl,d, ?_, ?_⟩
  ·unfold Z31
   rw [if_pos rfl,if_neg (by omega),j,T0a]
   rfl
  by_cases g:k=0
  ·subst g
   rw [d.of_zero]
   exact Z9v _ _
  rw [H.same k l raw (a+3) 3 g]
  have n:V4 F 0 l raw=((3+(G6 3 raw).length:Nat):Int):=by
   have f:=H.good 0 l raw 3 (.inl ⟨rfl,hm⟩) hb hr
   unfold V4
   rw [if_pos (.inl ⟨rfl,hm⟩)]
   show ((3+(F 0 l raw 3).length:Nat):Int)=_
   rw [f.of_zero]
  have o:=Z9v 3 raw
  omega
end
structure Z5h where
 St:Type
 start:Int→St
 write:St→List Nat→St
 toks:St→Bool→St×List E3
 inp:St→List Nat
 outs:St→List E3
 wait:St→Nat
 one:List Nat→Int→List E3
 Ok:St→Prop
 Clean:Int→St→Prop
structure V0 (M:Z5h):Prop where
 ok_start:∀K8,M.Ok (M.start K8)
 ok_write:∀s bs,M.Ok s→(∀b∈bs,b < 256)→(M.inp s).length+bs.length < 1000000000→M.Ok (M.write s bs)
 ok_toks:∀s e,M.Ok s→M.Ok (M.toks s e).1
 inp_start:∀K8,M.inp (M.start K8)=[]
 inp_write:∀s bs,M.inp (M.write s bs)=M.inp s++bs
 inp_toks:∀s e,M.inp (M.toks s e).1=M.inp s
 outs_start:∀K8,M.outs (M.start K8)=[]
 outs_write:∀s bs,M.outs (M.write s bs)=M.outs s
 outs_toks:∀s e,M.outs (M.toks s e).1=M.outs s++(M.toks s e).2
 bytes:∀s,M.Ok s→O3 (M.outs s)
 means:∀s,M.Ok s→(M.inp s).length≤most→M.wait s≤(M.inp s).length∧S0 [] (M.outs s)=(0,(M.inp s).take ((M.inp s).length-M.wait s))
 wait_end:∀s,M.Ok s→M.wait (M.toks s true).1=0
 wait_some:∀s,M.Ok s→M.wait (M.toks s false).1≤261
 clean_start:∀K8,M.Clean K8 (M.start K8)
 clean_write:∀K8 s bs,M.Clean K8 s→M.Clean K8 (M.write s bs)
 clean_toks:∀K8 s,M.Clean K8 s→M.Clean K8 (M.toks s false).1
 X1d:∀K8 s,M.Ok s→M.Clean K8 s→M.outs (M.toks s true).1=M.one (M.inp s) K8
 level0:∀bs K8,(∀b∈bs,b < 256)→bs.length < 1000000000→K8≤0→∀t∈M.one bs K8,t.2.1=0
 short:∀c n K8,c < 256→517≤n→n≤6000→1≤K8→K8≤9→10*(M.one (T00 n c) K8).length < n
def Y4n (v:Value) (l:List E3):A6:=B0 112 3 v l.length (I6 l)
theorem Z8d:∀ (l:List E3) (acc o:List Nat),S0 acc l=(0,o)→acc.length+l.length≤o.length
 | [],acc,o,h=>by simp [S0] at h;subst h;simp
 | t::r,acc,o,h=>by
  rw [Z0a] at h
  by_cases h0:(N7 acc t).1=0
  rotate_left
  ·rw [if_neg h0] at h;simp at h;exact absurd h.1 h0
  rw [if_pos h0] at h
  have ih:=Z8d r _ o h
  have h1:acc.length+1≤(N7 acc t).2.length:=by
   unfold N7 at h0⊢
   split <;> rename_i b
   ·rw [if_pos b] at h0;simp at h0
   rw [if_neg b] at h0
   have f:E9 t=true:=by simpa using b
   split <;> rename_i d
   ·rw [if_pos d] at h0
    split <;> rename_i a
    ·rw [if_pos a] at h0;simp at h0
    simp
   have:=V5 f d
   rw [if_neg d] at h0
   split <;> rename_i a
   ·rw [if_pos a] at h0;simp at h0
   rw [if_neg a] at h0
   split <;> rename_i g
   ·rw [if_pos g] at h0;simp at h0
   simp only [G3];omega
  simp;omega
section
variable {w0 w:World} {Rs:List A6}
end
def at3 (x:List Nat) (i:Nat):List Nat:=(x.drop i).take 3
def W8 (x s:List Nat):Nat→Option Nat
 | 0=>none
 | k+1=>if at3 x k=s then some k else W8 x s k
theorem Z0 {x s:List Nat}:∀ {n k:Nat},W8 x s n=some k→k < n∧at3 x k=s∧∀j,k < j→j < n→at3 x j≠s
 | 0,k,h=>by simp [W8] at h
 | n+1,k,h=>by
  unfold W8 at h
  split at h <;> rename_i c
  ·injection h with h;subst h
   exact ⟨by omega,c,fun j h1 h2=>by omega⟩
  obtain ⟨h1,h2,h3⟩:=Z0 h
  refine ⟨by omega,h2,fun j hj1 hj2=> ?_⟩
  by_cases e:j=n
  ·subst e;exact c
  exact h3 j hj1 (by omega)
theorem Z71 {x s:List Nat}:∀ {n:Nat},W8 x s n=none→∀j,j < n→at3 x j≠s
 | 0,_,j,hj=>by omega
 | n+1,h,j,hj=>by
  unfold W8 at h
  split at h <;> rename_i c
  ·simp at h
  by_cases e:j=n
  ·subst e;exact c
  exact Z71 h j (by omega)
theorem X08 {x s:List Nat} {n k:Nat} (h1:k < n) (h2:at3 x k=s) (h3:∀j,k < j→j < n→at3 x j≠s):W8 x s n=some k:=by
 cases e:W8 x s n with
 | none=>exact absurd h2 (Z71 e k h1)
 | some j=>
  obtain ⟨a,b,c⟩:=Z0 e
  rcases T0g j k with h | h | h
  ·exact absurd h2 (c k h h1)
  ·rw [h]
  exact absurd b (h3 j h a)
theorem W2l (x y:List Nat) (i:Nat) (h:i+3≤x.length):at3 (x++y) i=at3 x i:=by
 unfold at3
 rw [T0b (by omega),T0h (by rw [T05];omega)]
theorem Z6n (x y s:List Nat):∀n,n=0∨n+2≤x.length→W8 (x++y) s n=W8 x s n
 | 0,_=>rfl
 | n+1,h=>by
  unfold W8
  rw [W2l x y n (by omega),Z6n x y s n (by omega)]
def reach (W d:Nat):Nat:=if W < d then 0 else d
theorem V1x (W d:Nat):reach W d≤W∧reach W d≤d:=by unfold reach;split <;> omega
theorem Y98 {W d:Nat} (h:0 < reach W d):reach W d=d∧d≤W:=by unfold reach at h⊢;split at h <;> simp_all <;> omega
def Z2c (W:Nat) (x:List Nat) (i:Nat):Nat:=match W8 x (at3 x i) i with
 | none=>0
 | some k=>reach W (i-k)
def far (W:Nat) (x:List Nat) (i d:Nat):Nat:=if Z2c W x (i-d)=0 then 0 else reach W (d+Z2c W x (i-d))
theorem Z8r (W:Nat) (x:List Nat) (i:Nat):Z2c W x i≤W∧Z2c W x i≤i:=by
 unfold Z2c
 split
 ·omega
 have:=V1x W (i- ‹Nat›);omega
theorem Y3f {W:Nat} {x:List Nat} {i:Nat} (h:0 < Z2c W x i):at3 x (i-Z2c W x i)=at3 x i:=by
 unfold Z2c at h⊢
 split at h
 ·omega
 rename_i k e
 obtain ⟨b,a,_⟩:=Z0 e
 rw [(Y98 h).1,show i- (i-k)=k by omega,a]
theorem X43 {W:Nat} {x:List Nat} {i d:Nat} (hd:d≤i) (hs:at3 x (i-d)=at3 x i) (h:0 < far W x i d):far W x i d≤i∧far W x i d≤W∧at3 x (i-far W x i d)=at3 x i:=by
 unfold far at h⊢
 split at h
 ·omega
 rename_i c
 rw [if_neg c]
 have a:=Y98 h
 have b:=Z8r W x (i-d)
 rw [a.1]
 refine ⟨by omega,a.2, ?_⟩
 rw [show i- (d+Z2c W x (i-d))=i-d-Z2c W x (i-d) by omega,Y3f (by omega),hs]
theorem Y7e (W:Nat) (x y:List Nat) (i:Nat) (h:i+3≤x.length):Z2c W (x++y) i=Z2c W x i:=by
 unfold Z2c
 rw [W2l x y i h,Z6n x y _ i (by omega)]
theorem V4g (W:Nat) (x y:List Nat) (i d:Nat) (h:i+3≤x.length):far W (x++y) i d=far W x i d:=by
 unfold far
 rw [Y7e W x y (i-d) (by omega)]
def P9 (x:List Nat) (a P:Nat) (s:List Nat):Option Nat:=(W8 x s P).filter fun k=>decide (a≤k)
def P3 (W:Nat) (x:List Nat) (a:Nat) (s:List Nat):Option Nat:=(W8 x s a).filter fun k=>decide (a≤k+W)
def W9u (W:Nat) (x:List Nat) (a P:Nat):Nat:=match P9 x a P (at3 x P) with
 | some k=>reach W (P-k)
 | none=>match P3 W x a (at3 x P) with
  | some k=>reach W (P-k)
  | none=>0
theorem W44 (W:Nat) (x:List Nat) (a P:Nat) (ha:a≤P):W9u W x a P=Z2c W x P:=by
 unfold W9u Z2c P9 P3
 cases e:W8 x (at3 x P) P with
 | none=>
  have b:W8 x (at3 x P) a=none:=by
   cases e3:W8 x (at3 x P) a with
   | none=>rfl
   | some k=>
    obtain ⟨g,d,_⟩:=Z0 e3
    exact absurd d (Z71 e k (by omega))
  rw [b];rfl
 | some k=>
  obtain ⟨g,d,i⟩:=Z0 e
  by_cases c:a≤k
  ·simp [T06,c]
  have b:W8 x (at3 x P) a=some k:=X08 (by omega) d fun j hj1 hj2=>i j hj1 (by omega)
  rw [b]
  by_cases f:a≤k+W
  ·simp [T06,c,f]
  simp [T06,c,f]
  unfold reach
  rw [if_pos (by omega)]
theorem W5a (x y:List Nat) (a P:Nat) (h:P=0∨P+2≤x.length):P9 (x++y) a P=P9 x a P:=by
 funext s;unfold P9;rw [Z6n x y s P h]
theorem X91 (W:Nat) (x y:List Nat) (a P:Nat) (h:P=0∨P+2≤x.length) (ha:a≤P):P3 W (x++y) a=P3 W x a:=by
 funext s;unfold P3;rw [Z6n x y s a (by omega)]
theorem Y4f (x:List Nat) (a P:Nat) (ha:a≤P):P9 x a (P+1)=fun s=>if s=at3 x P then some P else P9 x a P s:=by
 funext s
 unfold P9
 rw [W8]
 by_cases c:at3 x P=s
 ·rw [if_pos c,if_pos c.symm];simp [T06,ha]
 rw [if_neg c,if_neg (fun h=>c h.symm)]
theorem Y93 (x:List Nat) (P:Nat):P9 x P P=fun _=>none:=by
 funext s
 unfold P9
 cases e:W8 x s P with
 | none=>rfl
 | some k=>
  have:=(Z0 e).1
  simp [T06];omega
theorem X82 (W:Nat) (x:List Nat) (a:Nat):P3 W x (a+W)=P9 x a (a+W):=by
 funext s
 unfold P3 P9
 congr 1
 funext k
 simp
theorem Y8b (x:List Nat):P9 x 0 0=fun _=>none:=Y93 x 0
theorem Y4c (W:Nat) (x:List Nat):P3 W x 0=fun _=>none:=by funext s;rfl
def same:List Nat→List Nat→Nat
 | a::p,b::q=>if a=b then same p q+1 else 0
 | _,_=>0
theorem Z3z:∀ (a b:List Nat),same a b≤a.length∧same a b≤b.length∧(∀n,n < same a b→a[n]?=b[n]?)∧(same a b < a.length→same a b < b.length→a[same a b]?≠b[same a b]?)
 | [],b=>by simp [same]
 | a::p,[]=>by simp [same]
 | a::p,b::q=>by
  unfold same
  split <;> rename_i c
  ·subst c
   obtain ⟨h1,h2,h3,h4⟩:=Z3z p q
   refine ⟨by simp;omega,by simp;omega,fun n hn=> ?_,fun k1 k2=> ?_⟩
   ·cases n with
    | zero=>rfl
    | succ n=>simpa using h3 n (by omega)
   simpa using h4 (by simpa using k1) (by simpa using k2)
  refine ⟨by simp,by simp,fun n hn=>by omega,fun _ _=>by simpa using c⟩
theorem X1y {a b:List Nat} {n:Nat} (h1:n≤a.length) (h2:n≤b.length) (h3:∀j,j < n→a[j]?=b[j]?) (h4:n < a.length→n < b.length→a[n]?≠b[n]?):same a b=n:=by
 obtain ⟨g,i,d,f⟩:=Z3z a b
 rcases T0g (same a b) n with h | h | h
 ·exact absurd (h3 _ h) (f (by omega) (by omega))
 ·exact h
 exact absurd (d n h) (h4 (by omega) (by omega))
theorem V1v (a y b:List Nat) (h:b.length≤a.length):same (a++y) b=same a b:=by
 obtain ⟨i,d,f,g⟩:=Z3z a b
 refine X1y (by rw [T02];omega) d (fun j hj=> ?_) (fun h1 h2=> ?_)
 ·rw [T03 (by omega)];exact f j hj
 rw [T03 (by omega)];exact g (by omega) h2
def Z4z (x:List Nat) (i:Nat) (r:List Nat) (d:Nat) (f:Nat×Nat):Nat×Nat:=
 if (x.drop (i-d))[f.1]?=r[f.1]? then (if f.1 < same (x.drop (i-d)) r then (same (x.drop (i-d)) r,d) else f) else f
def Y02 (W:Nat) (x:List Nat) (i:Nat) (r:List Nat) (en:Nat):Nat→Nat→Nat×Nat→Nat×Nat
 | 0,_,f=>f
 | n+1,d,f=>if 0 < d∧f.1 < min en r.length then Y02 W x i r en n (far W x i d) (Z4z x i r d f) else f
def S7 (L:Nat) (x:List Nat) (i:Nat):List Nat:=(x.drop i).take L
def best (W L:Nat) (x:List Nat) (tr en i:Nat):Nat×Nat:=
 if (S7 L x i).length < 3 then (0,0) else Y02 W x i (S7 L x i) en tr (Z2c W x i) (0,0)
theorem Z13 (L:Nat) (x:List Nat) (i:Nat):(S7 L x i).length=min L (x.length-i):=by simp [S7]
def W96 (W L:Nat) (x:List Nat) (i:Nat) (f:Nat×Nat):Prop:=
 f.1=0∨(3≤f.1∧f.1≤(S7 L x i).length∧1≤f.2∧f.2≤W∧f.2≤i∧∀n,n < f.1→x[i-f.2+n]?=x[i+n]?)
theorem W06 {W L:Nat} {x:List Nat} {i d:Nat} {f:Nat×Nat} (hL:3≤L) (hr:3≤(S7 L x i).length) (hd1:0 < d) (hd2:d≤W) (hd3:d≤i) (hs:at3 x (i-d)=at3 x i) (hf:W96 W L x i f):W96 W L x i (Z4z x i (S7 L x i) d f):=by
 unfold Z4z
 split
 ·split
  ·rename_i q r
   obtain ⟨s,j,k,o⟩:=Z3z (x.drop (i-d)) (S7 L x i)
   have b:=Z13 L x i
   have g:3≤same (x.drop (i-d)) (S7 L x i):=by
    refine Nat.le_of_not_lt fun hlt=> ?_
    refine o (by rw [T05];omega) (by omega) ?_
    obtain ⟨m,p⟩:∃m,m=same (x.drop (i-d)) (S7 L x i):=⟨_,rfl⟩
    rw [←p] at hlt⊢
    have e:=congrArg (fun l=>l[m]?) hs
    simp only [at3,T07,if_pos hlt] at e
    rw [e,S7,T07,if_pos (by omega)]
   refine .inr ⟨g,j,hd1,hd2,hd3,fun n hn=> ?_⟩
   have:=k n hn
   have a:n < L:=by simp only at hn;omega
   rw [S7,T07,if_pos a,T0i,T0i] at this
   exact this
  exact hf
 exact hf
theorem X12 {W L:Nat} {x:List Nat} {i en:Nat} (hL:3≤L) (hr:3≤(S7 L x i).length):∀ (n d:Nat) (f:Nat×Nat),(0 < d→d≤W∧d≤i∧at3 x (i-d)=at3 x i)→W96 W L x i f→W96 W L x i (Y02 W x i (S7 L x i) en n d f)
 | 0,_,f,_,hf=>hf
 | n+1,d,f,hd,hf=>by
  unfold Y02
  split
  ·rename_i c
   obtain ⟨h1,h2,h3⟩:=hd c.1
   refine X12 hL hr n _ _ (fun hp=> ?_) (W06 hL hr c.1 h1 h2 h3 hf)
   obtain ⟨k1,k2,k3⟩:=X43 h2 h3 hp
   exact ⟨k2,k1,k3⟩
  exact hf
theorem X0g (W L:Nat) (x:List Nat) (tr en i:Nat) (hL:3≤L):W96 W L x i (best W L x tr en i):=by
 unfold best
 split
 ·exact .inl rfl
 rename_i c
 refine X12 hL (by omega) _ _ _ (fun hp=> ?_) (.inl rfl)
 have a:=Z8r W x i
 exact ⟨a.1,a.2,Y3f hp⟩
theorem X5k (W:Nat) (x y:List Nat) (i:Nat) (r:List Nat) (en:Nat) (hi:i+3≤x.length) (hr:r.length≤x.length-i):∀ (n d:Nat) (f:Nat×Nat),f.1≤r.length→Y02 W (x++y) i r en n d f=Y02 W x i r en n d f
 | 0,_,_,_=>rfl
 | n+1,d,f,hf=>by
  unfold Y02
  split
  ·rename_i c
   have e1:Z4z (x++y) i r d f=Z4z x i r d f:=by
    unfold Z4z
    rw [T0b (by omega),V1v _ _ _ (by rw [T05];omega),T03 (by rw [T05];omega)]
   rw [e1,V4g W x y i d hi]
   refine X5k W x y i r en hi hr n _ _ ?_
   unfold Z4z
   split
   ·split
    ·exact (Z3z (x.drop (i-d)) r).2.1
    exact hf
   exact hf
  rfl
theorem X6t (W L:Nat) (x y:List Nat) (tr en i:Nat) (hL:3≤L) (h:i+L≤x.length):best W L (x++y) tr en i=best W L x tr en i:=by
 have e:S7 L (x++y) i=S7 L x i:=by
  unfold S7
  rw [T0b (by omega),T0h (by rw [T05];omega)]
 have a:=Z13 L x i
 unfold best
 rw [e,Y7e W x y i (by omega)]
 split
 ·rfl
 exact X5k W x y i _ en (by omega) (by omega) _ _ _ (by simp)
def Y7p (x:List Nat) (i:Nat):E3:=(((x[i]?.getD 0:Nat):Int),0,0)
def K7 (W L:Nat) (x:List Nat) (tr en la i:Nat):E3:=
 if (best W L x tr en i).1=0∨((best W L x tr en i).1 < la∧(best W L x tr en i).1 < (best W L x tr en (i+1)).1) then Y7p x i
 else (0,((best W L x tr en i).1:Int),((best W L x tr en i).2:Int))
def adv (t:E3):Nat:=max t.2.1.toNat 1
def par (W L:Nat) (x:List Nat) (tr en la stay:Nat):Nat→Nat→List E3×Nat
 | 0,i=>([],i)
 | n+1,i=>if stay < x.length-i then (K7 W L x tr en la i::(par W L x tr en la stay n (i+adv (K7 W L x tr en la i))).1,(par W L x tr en la stay n (i+adv (K7 W L x tr en la i))).2) else ([],i)
section
variable {W L:Nat} {x:List Nat} {tr en la stay:Nat}
theorem Z2a (t:E3):1≤adv t:=by unfold adv;omega
theorem Z84 (hL:3≤L) (i:Nat) (hi:i < x.length):i+adv (K7 W L x tr en la i)≤x.length∧adv (K7 W L x tr en la i)≤max L 1∧
  (K7 W L x tr en la i=Y7p x i∨∃l d:Nat,K7 W L x tr en la i=(0,(l:Int),(d:Int))∧3≤l∧l≤L∧i+l≤x.length∧1≤d∧d≤W∧d≤i∧∀n,n < l→x[i-d+n]?=x[i+n]?):=by
 have a:=X0g W L x tr en i hL
 have b:=Z13 L x i
 unfold K7
 split <;> rename_i c
 ·exact ⟨by unfold adv Y7p;simp;omega,by unfold adv Y7p;simp;omega,.inl rfl⟩
 rcases a with a | ⟨h1,h2,h3,h4,h5,h6⟩
 ·exact absurd (Or.inl a) c
 exact ⟨by unfold adv;simp;omega,by unfold adv;simp;omega,.inr ⟨_,_,rfl,h1,by omega,by omega,h3,h4,h5,h6⟩⟩
theorem W43 (y:List Nat) (hL:3≤L) (i:Nat) (h:i+1+L≤x.length):K7 W L (x++y) tr en la i=K7 W L x tr en la i:=by
 unfold K7 Y7p
 rw [X6t W L x y tr en i hL (by omega),X6t W L x y tr en (i+1) hL (by omega),T03 (by omega)]
theorem W87 (hL:3≤L):∀n i,i≤x.length→(par W L x tr en la stay n i).2≤x.length∧i≤(par W L x tr en la stay n i).2
 | 0,i,h=>⟨h,T04 _⟩
 | n+1,i,h=>by
  unfold par
  split
  ·have:=Z84 (W:=W) (x:=x) (tr:=tr) (en:=en) (la:=la) hL i (by omega)
   have h1:=W87 hL n _ this.1
   have h2:=Z2a (K7 W L x tr en la i)
   exact ⟨h1.1,by simp only;omega⟩
  exact ⟨h,T04 _⟩
theorem X5u:∀n i,x.length-i≤n→x.length- (par W L x tr en la stay n i).2≤stay
 | 0,i,h=>by show x.length-i≤stay;omega
 | n+1,i,h=>by
  unfold par
  split
  ·have h2:=Z2a (K7 W L x tr en la i)
   exact X5u n _ (by omega)
  show x.length-i≤stay;omega
theorem X6m:∀n m i,x.length-i≤n→x.length-i≤m→par W L x tr en la stay n i=par W L x tr en la stay m i
 | 0,0,i,_,_=>rfl
 | 0,m+1,i,h,_=>by unfold par;rw [if_neg (by omega)]
 | n+1,0,i,_,h=>by unfold par;rw [if_neg (by omega)]
 | n+1,m+1,i,h1,h2=>by
  have h3:=Z2a (K7 W L x tr en la i)
  unfold par
  split
  ·rw [X6m n m _ (by omega) (by omega)]
  rfl
def M1 (W L:Nat) (x:List Nat) (tr en la stay i:Nat):List E3×Nat:=par W L x tr en la stay (x.length-i) i
theorem Z38 (i:Nat) (h:stay < x.length-i):M1 W L x tr en la stay i=(K7 W L x tr en la i::(M1 W L x tr en la stay (i+adv (K7 W L x tr en la i))).1,(M1 W L x tr en la stay (i+adv (K7 W L x tr en la i))).2):=by
 obtain ⟨m,a⟩:∃m,x.length-i=m+1:=⟨x.length-i-1,by omega⟩
 have b:=Z2a (K7 W L x tr en la i)
 unfold M1
 rw [a,par,if_pos h,X6m m (x.length- (i+adv (K7 W L x tr en la i))) _ (by omega) (T04 _)]
theorem U0 (i:Nat) (h:¬stay < x.length-i):M1 W L x tr en la stay i=([],i):=by
 unfold M1
 cases e:x.length-i with
 | zero=>rfl
 | succ m=>rw [par,if_neg h]
theorem Y63 (y:List Nat) (hL:3≤L) (hs:L≤stay):∀n i,x.length-i≤n→(M1 W L x tr en la stay i).1++(M1 W L (x++y) tr en la 0 (M1 W L x tr en la stay i).2).1=(M1 W L (x++y) tr en la 0 i).1
 | 0,i,h=>by rw [U0 (stay:=stay) i (by omega)];rfl
 | n+1,i,h=>by
  by_cases c:stay < x.length-i
  ·have h3:=Z2a (K7 W L x tr en la i)
   have e:=W43 (W:=W) (L:=L) (x:=x) (tr:=tr) (en:=en) (la:=la) y hL i (by omega)
   have ih:=Y63 y hL hs n (i+adv (K7 W L x tr en la i)) (by omega)
   rw [Z38 (stay:=stay) i c,Z38 (x:=x++y) (stay:=0) i (by rw [T02];omega),e]
   simp only [List.cons_append]
   rw [ih]
  rw [U0 (stay:=stay) i c];rfl
theorem W6y {d:Nat} (i:Nat) (hd1:1≤d) (hd:d≤i):∀l,i+l≤x.length→(∀n,n < l→x[i-d+n]?=x[i+n]?)→ext (x.take i) d l=x.take (i+l)
 | 0,_,_=>rfl
 | l+1,hl,h=>by
  have ih:=W6y i hd1 hd l (by omega) fun n hn=>h n (by omega)
  have h1:=h l (by omega)
  rw [ext,ih,T0j,show min i x.length+l-d=i-d+l by omega,T07,if_pos (by omega),h1,←Nat.add_assoc,T0k]
  have:i+l < x.length:=by omega
  rw [T0c this];rfl
theorem W0k (hL:3≤L) (hL2:L=258) (hW:W=32768) (i:Nat) (hi:i < x.length) (hm:x.length≤most):N7 (x.take i) (K7 W L x tr en la i)=(0,x.take (i+adv (K7 W L x tr en la i))):=by
 obtain ⟨g,_,a⟩:=Z84 (W:=W) (tr:=tr) (en:=en) (la:=la) hL i hi
 have b:(x.take i).length=i:=by rw [T0j];omega
 rcases a with a | ⟨l,d,a,h3,h4,h5,h6,h7,h8,h9⟩
 ·rw [a]
  rw [X0w (by simp [E9,Y7p]) rfl (by rw [b];omega)]
  show (0,x.take i++[((x[i]?.getD 0:Nat):Int).toNat])=(0,x.take (i+1))
  rw [T0k,T0c hi];simp
 rw [a]
 have f:E9 (0,(l:Int),(d:Int))=true:=by
  subst hW
  unfold E9
  rw [Bool.or_eq_true]
  exact .inr (decide_eq_true ⟨rfl,⟨(by omega:(3:Int)≤(l:Int)),(by omega:(l:Int)≤258)⟩,(by omega:(1:Int)≤(d:Int)),(by omega:(d:Int)≤32768)⟩)
 rw [Y4m f (by show ¬(l:Int)=0;omega) (by rw [b];show ¬most < i+((l:Int)).toNat;omega) (by rw [b];show ¬i < ((d:Int)).toNat;omega)]
 show (0,ext (x.take i) ((d:Int)).toNat ((l:Int)).toNat)=(0,x.take (i+max ((l:Int)).toNat 1))
 rw [T0a,T0a,W6y i h6 h8 l h5 h9,show max l 1=l by omega]
theorem X9m (hL:3≤L) (i:Nat) (hi:i < x.length) (hb:∀b∈x,b < 256):0≤(K7 W L x tr en la i).1∧(K7 W L x tr en la i).1≤255:=by
 obtain ⟨_,_,a⟩:=Z84 (W:=W) (tr:=tr) (en:=en) (la:=la) hL i hi
 rcases a with a | ⟨l,d,a,_⟩
 ·rw [a]
  have:=hb x[i] (List.getElem_mem hi)
  unfold Y7p
  rw [T0c hi]
  show (0:Int)≤((x[i]:Nat):Int)∧((x[i]:Nat):Int)≤255
  omega
 rw [a];exact ⟨T09 _,by show (0:Int)≤255;omega⟩
theorem Y3x (hL:3≤L) (hb:∀b∈x,b < 256):∀n i,x.length-i≤n→O3 (M1 W L x tr en la stay i).1
 | 0,i,h=>by rw [U0 i (by omega)];intro t ht;simp at ht
 | n+1,i,h=>by
  by_cases c:stay < x.length-i
  ·have h3:=Z2a (K7 W L x tr en la i)
   have ih:=Y3x hL hb n (i+adv (K7 W L x tr en la i)) (by omega)
   rw [Z38 i c]
   intro t ht
   rcases List.mem_cons.1 ht with rfl | ht
   ·exact X9m hL i (by omega) hb
   exact ih t ht
  rw [U0 i c];intro t ht;simp at ht
theorem Y3y (hL:3≤L) (hL2:L=258) (hW:W=32768) (hm:x.length≤most):∀n i,x.length-i≤n→i≤x.length→S0 (x.take i) (M1 W L x tr en la stay i).1=(0,x.take (M1 W L x tr en la stay i).2)
 | 0,i,h,_=>by rw [U0 i (by omega)];rfl
 | n+1,i,h,hi=>by
  by_cases c:stay < x.length-i
  ·have h3:=Z2a (K7 W L x tr en la i)
   have h4:=(Z84 (W:=W) (x:=x) (tr:=tr) (en:=en) (la:=la) hL i (by omega)).1
   have ih:=Y3y hL hL2 hW hm n (i+adv (K7 W L x tr en la i)) (by omega) h4
   rw [Z38 i c]
   show S0 (x.take i) (K7 W L x tr en la i::_)=_
   rw [Z0a,W0k hL hL2 hW i (by omega) hm,if_pos rfl]
   exact ih
  rw [U0 i c];rfl
theorem V1w (hL:3≤L) (i:Nat) (h:i≤x.length):(M1 W L x tr en la stay i).2≤x.length∧i≤(M1 W L x tr en la stay i).2:=W87 hL _ i h
theorem X9c (i:Nat):x.length- (M1 W L x tr en la stay i).2≤stay:=X5u _ i (T04 _)
end
section
variable {W L n c tr en la:Nat}
theorem W1u {i:Nat} (h:i+3≤n):at3 (T00 n c) i=T00 3 c:=by
 unfold at3
 rw [T0d,T0l,show min 3 (n-i)=3 by omega]
theorem W8p {i:Nat} (hW:1≤W) (hi:1≤i) (h:i+3≤n):Z2c W (T00 n c) i=1:=by
 have e:W8 (T00 n c) (at3 (T00 n c) i) i=some (i-1):=X08 (by omega) (by rw [W1u h,W1u (by omega)]) (fun j h1 h2=>by omega)
 unfold Z2c
 rw [e]
 show reach W (i- (i-1))=1
 rw [show i- (i-1)=1 by omega,reach,if_neg (by omega)]
theorem X6b:∀a b,b≤a→same (T00 a c) (T00 b c)=b
 | a,0,_=>by cases a <;> simp [same]
 | 0,b+1,h=>by omega
 | a+1,b+1,h=>by
  rw [T0m,T0m,same,if_pos rfl,X6b a b (by omega)]
theorem W5b (x:List Nat) (i:Nat) (r:List Nat) (d:Nat) (f:Nat×Nat) (h:¬f.1 < min en r.length):∀m,Y02 W x i r en m d f=f
 | 0=>rfl
 | m+1=>by unfold Y02;rw [if_neg fun h2=>h h2.2]
theorem W98 {i:Nat} (hW:1≤W) (hL:3≤L) (hi:1≤i) (h:i+3≤n) (ht:1≤tr) (he:1≤en):best W L (T00 n c) tr en i=(min L (n-i),1):=by
 have a:S7 L (T00 n c) i=T00 (min L (n-i)) c:=by rw [S7,T0d,T0l]
 obtain ⟨t,rfl⟩:∃t,tr=t+1:=⟨tr-1,by omega⟩
 unfold best
 rw [a,W8p hW hi h,if_neg (by rw [T01];omega),Y02,T01,if_pos ⟨by omega,by show 0 < _;omega⟩]
 have e:Z4z (T00 n c) i (T00 (min L (n-i)) c) 1 (0,0)=(min L (n-i),1):=by
  unfold Z4z
  rw [T0d,X6b _ _ (by omega),if_pos,if_pos (by show 0 < _;omega)]
  rw [T0n,T0n,if_pos (by show 0 < _;omega),if_pos (by show 0 < _;omega)]
 rw [e]
 exact W5b _ _ _ _ _ (by rw [T01];show ¬min L (n-i) < min en (min L (n-i));omega) _
theorem X2x (x:List Nat) (i:Nat) (hL:3≤L):(best W L x tr en i).1≤min L (x.length-i):=by
 rcases X0g W L x tr en i hL with h | h
 ·omega
 have:=Z13 L x i;omega
theorem W3m {i:Nat} (hW:1≤W) (hL:3≤L) (hi:1≤i) (h:i+3≤n) (ht:1≤tr) (he:1≤en):adv (K7 W L (T00 n c) tr en la i)=min L (n-i):=by
 have b:=W98 (c:=c) hW hL hi h ht he
 have d:=X2x (W:=W) (tr:=tr) (en:=en) (T00 n c) (i+1) hL
 rw [T01] at d
 unfold K7
 rw [b,if_neg]
 ·show max ((min L (n-i):Nat):Int).toNat 1=_;omega
 rintro (a | a)
 ·have a:min L (n-i)=0:=a
  omega
 have a:_∧min L (n-i) < _:=a
 omega
theorem X03 (hW:1≤W) (hL:L=258) (ht:1≤tr) (he:1≤en):∀m i,1≤i→n-i≤m→258*(M1 W L (T00 n c) tr en la 0 i).1.length≤(n-i)+516
 | 0,i,hi,h=>by rw [U0 i (by rw [T01];omega)];simp
 | m+1,i,hi,h=>by
  by_cases e:0 < n-i
  rotate_left
  ·rw [U0 i (by rw [T01];omega)];simp
  have h3:=Z2a (K7 W L (T00 n c) tr en la i)
  have ih:=X03 hW hL ht he m (i+adv (K7 W L (T00 n c) tr en la i)) (by omega) (by omega)
  rw [Z38 i (by rw [T01];exact e)]
  simp only [T08]
  by_cases c3:i+3≤n
  ·have h4:=W3m (L:=L) (c:=c) (la:=la) hW (by omega) hi c3 ht he
   by_cases c4:258≤n-i
   ·omega
   have h5:n- (i+adv (K7 W L (T00 n c) tr en la i))=0:=by omega
   have h6:(M1 W L (T00 n c) tr en la 0 (i+adv (K7 W L (T00 n c) tr en la i))).1=[]:=by
    rw [U0 _ (by rw [T01];omega)]
   rw [h6];simp
  by_cases k:n-i=1
  ·have h6:(M1 W L (T00 n c) tr en la 0 (i+adv (K7 W L (T00 n c) tr en la i))).1=[]:=by
    rw [U0 _ (by rw [T01];omega)]
   rw [h6];simp only [List.length_nil];omega
  have f:(M1 W L (T00 n c) tr en la 0 (i+adv (K7 W L (T00 n c) tr en la i))).1.length≤1:=by
   obtain ⟨j,d⟩:∃j,j=i+adv (K7 W L (T00 n c) tr en la i):=⟨_,rfl⟩
   rw [←d]
   by_cases b:0 < n-j
   ·have g:=Z2a (K7 W L (T00 n c) tr en la j)
    rw [Z38 j (by rw [T01];exact b)]
    have a:(M1 W L (T00 n c) tr en la 0 (j+adv (K7 W L (T00 n c) tr en la j))).1=[]:=by
     rw [U0 _ (by rw [T01];omega)]
    rw [a];simp
   rw [U0 j (by rw [T01];omega)];simp
  omega
theorem W5g (hW:1≤W) (hL:L=258) (ht:1≤tr) (he:1≤en) (hn:517≤n):10*(M1 W L (T00 n c) tr en la 0 0).1.length < n:=by
 have a:=Z2a (K7 W L (T00 n c) tr en la 0)
 have b:=X03 (n:=n) (c:=c) (la:=la) hW hL ht he n (0+adv (K7 W L (T00 n c) tr en la 0)) (by omega) (by omega)
 rw [Z38 0 (by rw [T01];omega)]
 simp only [T08]
 omega
end
end Go.Proofs.YtbkbkmgogbgofaaGreatDoor
