/- The claim's texts, put together and shortened by a program (names, spaces). -/
import Derived.Test.YtbkbkmgogbgofaaGreatDoorZt25
import Derived.Test.YtbkbkmgogbgofaaGreatDoorProg
import Derived.Test.YtbkbkmgogbgofaaGreatDoorZt03
import Derived.Test.YtbkbkmgogbgofaaGreatDoorZt02
import Derived.StillTailTactics
import Derived.BigRegion
import Derived.Sort.LoopGhostIn
open List renaming getElem?_append_right→T01,cons_append→T03,append_nil→T04,mem_cons_self→T05,append_assoc→T06,set_cons_zero→T07,length_set→T08,set_append_right→T09,length_append→T0b,mem_cons_of_mem→T0c,filter_cons_of_pos→T0d,filter_cons_of_neg→T0e,eq_nil_of_length_eq_zero→T0f,take_append_drop→T0g,getElem?_append_left→T0h,nil_append→T0i,set_cons_succ→T0j,getElem?_set→T0m,dropLast_concat_getLast→T0n,getElem?_cons_zero→T0o,length_drop→T0p,getElem?_take_of_lt→T0q,getElem?_drop→T0r,getElem?_eq_getElem→T0s
open Nat renaming sub_self→T02,le_refl→T0a,add_sub_cancel_left→T0k
open Int renaming natCast_nonneg→T00
open Array renaming getElem?_setIfInBounds→T0l
namespace Go.Proofs.YtbkbkmgogbgofaaGreatDoor
set_option maxRecDepth 100000
set_option maxHeartbeats 6400000
open Go.RowKit
abbrev G9:=Nat×Int
def ins (x:G9):List G9→List G9
 | []=>[x]
 | y::l=>if x.1≤y.1 then x::y::l else y::ins x l
def mrg (u v:List G9):List G9:=u.foldr ins v
def I4 (l:List G9):List G9:=mrg l []
def Asc:List G9→Prop
 | []=>True
 | x::l=>(∀y∈l,x.1≤y.1)∧Asc l
theorem X4q (x y:G9) (h:x.1≠y.1):∀l,ins x (ins y l)=ins y (ins x l)
 | []=>by
  simp only [ins]
  by_cases h1:x.1≤y.1
  ·rw [if_pos h1,if_neg (by omega)]
  rw [if_neg h1,if_pos (by omega)]
 | z::l=>by
  simp only [ins]
  by_cases h1:x.1≤z.1 <;> by_cases h2:y.1≤z.1
  ·rw [if_pos h1,if_pos h2]
   simp only [ins]
   by_cases h3:x.1≤y.1
   ·rw [if_pos h3,if_neg (by omega),if_pos h2]
   rw [if_neg h3,if_pos h1,if_pos (by omega)]
  ·rw [if_pos h1,if_neg h2]
   simp only [ins]
   rw [if_pos h1,if_neg (by omega),if_neg h2]
  ·rw [if_neg h1,if_pos h2]
   simp only [ins]
   rw [if_neg (by omega),if_neg h1,if_pos h2]
  rw [if_neg h1,if_neg h2]
  simp only [ins]
  rw [if_neg h1,if_neg h2,X4q x y h l]
theorem W1g (x:G9) (v:List G9):∀l,mrg (ins x l) v=ins x (mrg l v)
 | []=>rfl
 | y::l=>by
  simp only [ins]
  by_cases h:x.1≤y.1
  ·rw [if_pos h];rfl
  rw [if_neg h]
  show ins y (mrg (ins x l) v)=ins x (ins y (mrg l v))
  rw [W1g x v l,X4q x y (by omega)]
theorem X0c (v:List G9):∀u,mrg (I4 u) v=mrg u v
 | []=>rfl
 | x::u=>by
  show mrg (ins x (I4 u)) v=ins x (mrg u v)
  rw [W1g,X0c v u]
theorem W2d (u u2 v:List G9):mrg (u++u2) v=mrg u (mrg u2 v):=List.foldr_append
theorem Y2e (u v:List G9):I4 (u++v)=mrg (I4 u) (I4 v):=by
 rw [X0c];exact W2d u v []
theorem Y6u (x:G9):∀l,(ins x l).Perm (x::l)
 | []=>List.Perm.refl _
 | y::l=>by
  rw [ins]
  split
  ·exact List.Perm.refl _
  exact ((Y6u x l).cons y).trans (List.Perm.swap x y l)
theorem Y0p (v:List G9):∀u,(mrg u v).Perm (u++v)
 | []=>List.Perm.refl _
 | x::u=>(Y6u x _).trans ((Y0p v u).cons x)
theorem W9 (l:List G9):(I4 l).Perm l:=by
 have:=Y0p [] l
 rw [T04] at this;exact this
theorem W03 (u v:List G9):(mrg u v).length=u.length+v.length:=by rw [(Y0p v u).length_eq,T0b]
theorem J1 (l:List G9):(I4 l).length=l.length:=(W9 l).length_eq
theorem W1x (x:G9):∀l,Asc l→Asc (ins x l)
 | [],_=>⟨by simp,trivial⟩
 | y::l,h=>by
  rw [ins]
  by_cases hx:x.1≤y.1
  ·rw [if_pos hx]
   refine ⟨fun z hz=> ?_,h⟩
   rcases List.mem_cons.1 hz with hz | hz
   ·rw [hz];exact hx
   have:=h.1 z hz;omega
  rw [if_neg hx]
  refine ⟨fun z hz=> ?_,W1x x l h.2⟩
  rcases List.mem_cons.1 ((Y6u x l).mem_iff.1 hz) with hz | hz
  ·rw [hz];omega
  exact h.1 z hz
theorem W27 (v:List G9) (hv:Asc v):∀u,Asc (mrg u v)
 | []=>hv
 | x::u=>W1x x _ (W27 v hv u)
theorem Z0z (l:List G9):Asc (I4 l):=W27 [] trivial l
theorem Y5j (x:G9):∀ (a t:List G9),(∀y∈a,y.1 < x.1)→ins x (a++t)=a++ins x t
 | [],_,_=>rfl
 | y::a,t,h=>by
  have h1:=h y T05
  rw [T03,ins,if_neg (by omega),Y5j x a t fun z hz=>h z (T0c _ hz)];rfl
theorem Y2v (x:G9):∀ (a t:List G9),(∀y∈t,x.1≤y.1)→ins x (a++t)=ins x a++t
 | [],[],_=>rfl
 | [],y::t,h=>by
  have h1:=h y T05
  rw [T0i]
  simp only [ins]
  rw [if_pos h1];rfl
 | y::a,t,h=>by
  rw [T03,ins,ins]
  by_cases h1:x.1≤y.1
  ·rw [if_pos h1,if_pos h1];rfl
  rw [if_neg h1,if_neg h1,Y2v x a t h];rfl
theorem X6k (a t:List G9):∀u:List G9,(∀x∈u,∀y∈a,y.1 < x.1)→mrg u (a++t)=a++mrg u t
 | [],_=>rfl
 | x::u,h=>by
  show ins x (mrg u (a++t))=a++ins x (mrg u t)
  rw [X6k a t u fun z hz=>h z (T0c _ hz),Y5j x a _ (h x T05)]
theorem Y2c (t:List G9):∀ (u a:List G9),(∀x∈u,∀y∈t,x.1≤y.1)→mrg u (a++t)=mrg u a++t
 | [],_,_=>rfl
 | x::u,a,h=>by
  show ins x (mrg u (a++t))=ins x (mrg u a)++t
  rw [Y2c t u a fun z hz=>h z (T0c _ hz),Y2v x _ t (h x T05)]
theorem Z1m:∀ (u v:List G9),Asc (u++v)↔Asc u∧Asc v∧∀x∈u,∀y∈v,x.1≤y.1
 | [],v=>by simp [Asc]
 | x::u,v=>by
  rw [T03]
  simp only [Asc,Z1m u v]
  constructor
  ·rintro ⟨h1,h2,h3,h4⟩
   refine ⟨⟨fun y hy=>h1 y (List.mem_append_left _ hy),h2⟩,h3,fun z hz y hy=> ?_⟩
   rcases List.mem_cons.1 hz with hz | hz
   ·rw [hz];exact h1 y (List.mem_append_right _ hy)
   exact h4 z hz y hy
  rintro ⟨⟨h1,h2⟩,h3,h4⟩
  refine ⟨fun y hy=> ?_,h2,h3,fun z hz y hy=>h4 z (T0c _ hz) y hy⟩
  rcases List.mem_append.1 hy with hy | hy
  ·exact h1 y hy
  exact h4 x T05 y hy
theorem Y9n (x1 x2 y1 y2:List G9) (hx:Asc (x1++x2)) (h1:∀x∈x1,∀y∈y2,x.1≤y.1) (h2:∀y∈y1,∀x∈x2,y.1 < x.1):
  mrg (x1++x2) (y1++y2)=mrg x1 y1++mrg x2 y2:=by
 rw [W2d,X6k y1 y2 x2 fun x hx y b=>h2 y b x hx,Y2c]
 intro x a y b
 rcases List.mem_append.1 ((Y0p y2 x2).mem_iff.1 b) with h | h
 ·exact ((Z1m x1 x2).1 hx).2.2 x a y h
 exact h1 x a y h
theorem Y6a (x:G9) (l:List G9) (h:∀y∈l,x.1≤y.1):ins x l=x::l:=Y2v x [] l h
theorem Z09:∀u:List G9,Asc u→mrg u []=u
 | [],_=>rfl
 | x::u,h=>by
  show ins x (mrg u [])=x::u
  rw [Z09 u h.2,Y6a x u h.1]
theorem X1f (u:List G9) (h:Asc u):I4 u=u:=Z09 u h
theorem Y1z (v:List G9):mrg [] v=v:=rfl
theorem X1z (x:G9) (a t:List G9) (ha:∀y∈a,y.1 < x.1) (ht:∀y∈t,x.1≤y.1):mrg [x] (a++t)=a++x::t:=by
 show ins x (a++t)=_
 rw [Y5j x a t ha,Y6a x t ht]
theorem Z98 (x:G9) (a t:List G9) (hs:Asc (a++t)) (ha:∀y∈a,y.1≤x.1) (ht:∀y∈t,x.1 < y.1):mrg (a++t) [x]=a++x::t:=by
 have h:=Y9n a t [x] [] hs (by simp) (fun y hy z hz=>by
  rw [List.mem_singleton.1 hy];exact ht z hz)
 rw [T04] at h
 rw [h,Z09 t ((Z1m a t).1 hs).2.1]
 have b:mrg a [x]=a++[x]:=by
  have:=Y2c [x] a [] (fun z hz y hy=>by
   rw [List.mem_singleton.1 hy];exact ha z hz)
  rw [T0i] at this
  rw [this,Z09 a ((Z1m a t).1 hs).1]
 rw [b,T06];rfl
theorem Y0e (p:G9→Bool) (x:G9):∀l,Asc l→(ins x l).filter p=if p x=true then ins x (l.filter p) else l.filter p
 | [],_=>by
  simp only [ins]
  by_cases h:p x=true <;> simp [h,ins]
 | y::l,hl=>by
  rw [ins]
  by_cases h:x.1≤y.1
  ·rw [if_pos h]
   by_cases hp:p x=true
   ·rw [if_pos hp,T0d hp,Y6a x _ fun z hz=> ?_]
    rcases List.mem_cons.1 (List.mem_filter.1 hz).1 with hz | hz
    ·rw [hz];exact h
    have:=hl.1 z hz;omega
   rw [if_neg hp,T0e hp]
  rw [if_neg h]
  by_cases hy:p y=true
  ·rw [T0d hy,T0d hy,Y0e p x l hl.2]
   by_cases hp:p x=true
   ·rw [if_pos hp,if_pos hp,ins,if_neg h]
   rw [if_neg hp,if_neg hp]
  rw [T0e hy,T0e hy,Y0e p x l hl.2]
theorem Z6b (p:G9→Bool):∀l,(I4 l).filter p=I4 (l.filter p)
 | []=>rfl
 | x::l=>by
  show (ins x (I4 l)).filter p=_
  rw [Y0e p x _ (Z0z l),Z6b p l]
  by_cases hp:p x=true
  ·rw [if_pos hp,T0d hp];rfl
  rw [if_neg hp,T0e hp]
def V5w (x:G9):Value:= .agg #[.int .i64 (x.1:Int),.int .i64 x.2]
def Y4q (a b:Int):Int:=if a < b then -1 else if b < a then 1 else 0
theorem W1y (a:Int) (w:World):Calls Tryz.prog 197 #[.int .i64 a] w fun e w'=>e= .returned (.bool false)∧w'=w:=by
 go_enter Tryz.func197,Tryz.ntmps197
 go_wp2
 go_ret
 exact ⟨by simp,rfl⟩
theorem X3u (a b:Int) (w:World):Calls Tryz.prog 188 #[.int .i64 a,.int .i64 b] w fun e w'=>e= .returned (.int .i64 (Y4q a b))∧w'=w:=by
 have g:(a < b∧Y4q a b= -1)∨(¬a < b∧b < a∧Y4q a b=1)∨(¬a < b∧¬b < a∧Y4q a b=0):=by
  unfold Y4q
  by_cases f:a < b
  ·simp [f]
  by_cases d:b < a
  ·simp [f,d]
  simp [f,d]
 rcases g with ⟨f,d⟩ | ⟨f,h3,d⟩ | ⟨f,h3,d⟩
 all_goals
  rw [d]
  clear d
  go_enter Tryz.func188,Tryz.ntmps188
  go_wp2_with fail
  refine (W1y a w).mono ?_
  rintro e w' ⟨rfl,rfl⟩
  go_wp2_with fail
  refine (W1y b _).mono ?_
  rintro e w' ⟨rfl,rfl⟩
  go_wp2
  try (exfalso;omega)
  go_ret
  exact ⟨rfl,rfl⟩
theorem Y5c (x y:G9) (w:World):Calls Tryz.prog 187 #[V5w x,V5w y] w fun e w'=>e= .returned (.int .i64 (Y4q x.1 y.1))∧E2 w w' (fun _=>False):=by
 unfold V5w
 go_enter Tryz.func187,Tryz.ntmps187
 go_wp2_with fail
 refine (X3u _ _ _).mono ?_
 rintro e w' ⟨rfl,rfl⟩
 go_wp2
 go_ret
 exact ⟨rfl,((E2.refl w _).alloc _).alloc _⟩
def J3 (l:List G9):List Value:=l.flatMap fun x=>[.int .i64 (x.1:Int),.int .i64 x.2]
theorem Z56 (l:List G9):(J3 l).length=l.length*2:=by
 induction l with
 | nil=>rfl
 | cons x l ih=>simp [J3] at ih⊢;omega
theorem Z1s (x:G9) (l:List G9):J3 (x::l)= .int .i64 (x.1:Int):: .int .i64 x.2::J3 l:=by simp [J3]
theorem X7s (l m:List G9):J3 (l++m)=J3 l++J3 m:=by simp [J3]
theorem Y07:∀ (l:List G9) (j:Nat) (x:G9),l[j]?=some x→(J3 l)[j*2]?=some (.int .i64 (x.1:Int))∧(J3 l)[j*2+1]?=some (.int .i64 x.2)
 | [],_,_,h=>by simp at h
 | y::l,0,x,h=>by
  obtain rfl:y=x:=by simpa using h
  rw [Z1s];simp
 | y::l,j+1,x,h=>by
  have:=Y07 l j x (by simpa using h)
  rw [Z1s,show (j+1)*2=j*2+1+1 by omega,show j*2+1+1+1=(j*2+1)+1+1 by omega]
  simpa using this
theorem Y67:∀ (l:List G9) (j:Nat) (x:G9),j < l.length→J3 (l.set j x)=((J3 l).set (j*2) (.int .i64 (x.1:Int))).set (j*2+1) (.int .i64 x.2)
 | [],_,_,h=>by simp at h
 | y::l,0,x,_=>by rw [T07,Z1s,Z1s];simp
 | y::l,j+1,x,h=>by
  rw [T0j,Z1s,Z1s,Y67 l j x (by simpa using h),show (j+1)*2=j*2+1+1 by omega]
  simp
theorem Y03 (l:List G9):∀u∈J3 l,u.oneCell'=true:=by
 intro u b
 obtain ⟨x,_,a⟩:=List.mem_flatMap.1 b
 rcases List.mem_cons.1 a with rfl | a
 ·rfl
 rw [List.mem_singleton.1 a];rfl
def J4 (v:Value) (l:List G9):A6:=B0 193 2 v l.length (J3 l)
theorem Own.site2 {w:World} {e:TypeId} {v:Value} {l:List G9} (h:Own w e 2 v l.length (J3 l)) (hn:0 < l.length):
  ∃g off cap,v= .slice (some ⟨g,off,none⟩) l.length cap∧l.length≤cap∧cap≤maxLen∧(∀j x,l[j]?=some x→w.cell? ⟨g,off+j*2,none⟩=some (.int .i64 (x.1:Int))∧w.cell? ⟨g,off+j*2+1,none⟩=some (.int .i64 x.2))∧
   (∀j,w.frozen? ⟨g,j,none⟩=false)∧
   ∀j x,j < l.length→Own ((w.setCell ⟨g,off+j*2,none⟩ (.int .i64 (x.1:Int))).setCell ⟨g,off+j*2+1,none⟩ (.int .i64 x.2)) e 2 v (l.set j x).length (J3 (l.set j x)):=by
 rcases h.2 with ⟨hv,h0⟩ | ⟨g,off,cap,cur,rfl,hg,hnc,hc,hsz,hcur⟩
 ·omega
 refine ⟨g,off,cap,rfl,hnc,hc,fun j x hx=> ?_,fun j=>frozen_of_row w g _ cur e hg,fun j x hj=> ?_⟩
 ·obtain ⟨k,m⟩:=Y07 l j x hx
  refine ⟨by rw [cell_of_row w g _ cur e (0,0) hg];exact hcur _ _ k,by rw [cell_of_row w g _ cur e (0,0) hg];exact hcur _ _ m⟩
 have d:=heap_setCell_same w g (off+j*2) cur e (.int .i64 (x.1:Int)) hg
 have f:=heap_setCell_same _ g (off+j*2+1) _ e (.int .i64 x.2) d
 refine ⟨by rw [T08,Z56,T08],.inr ⟨g,off,cap,_,by rw [T08],f,by rw [T08];exact hnc,hc,by simpa using hsz,fun i v hv=> ?_⟩⟩
 rw [Y67 l j x hj] at hv
 have n:=Z56 l
 rw [T0l,T0l]
 rw [T0m,T0m] at hv
 simp only [T08,Array.size_setIfInBounds] at hv⊢
 by_cases a:j*2+1=i
 ·rw [if_pos a,if_pos (by omega)] at hv
  rw [if_pos (by omega),if_pos (by omega)];exact hv
 rw [if_neg a] at hv
 rw [if_neg (by omega)]
 by_cases b:j*2=i
 ·rw [if_pos b,if_pos (by omega)] at hv
  rw [if_pos (by omega),if_pos (by omega)];exact hv
 rw [if_neg b] at hv
 rw [if_neg (by omega)]
 exact hcur i v hv
def swp (l:List G9) (i j:Nat) (x y:G9):List G9:=(l.set i y).set j x
theorem V1x (A B C:List G9) (x y:G9):swp (A++x::B++y::C) A.length (A.length+1+B.length) x y=A++y::B++x::C:=by
 unfold swp
 rw [T06,T09 _ _ (T0a _),T02,T03,T07,T09 _ _ (by omega),show A.length+1+B.length-A.length=B.length+1 by omega,
  T0j,T09 _ _ (T0a _),T02,T07,T06,T03]
theorem A4.site2 {w0 w:World} {v:Value} {l:List G9} {Rs:List A6} (h:A4 w0 w (J4 v l::Rs)) (hn:0 < l.length):
  ∃g off cap,v= .slice (some ⟨g,off,none⟩) l.length cap∧l.length≤cap∧cap≤maxLen∧(∀j x,l[j]?=some x→w.cell? ⟨g,off+j*2,none⟩=some (.int .i64 (x.1:Int))∧w.cell? ⟨g,off+j*2+1,none⟩=some (.int .i64 x.2))∧
   (∀j,w.frozen? ⟨g,j,none⟩=false)∧
   ∀j x,j < l.length→A4 w0 ((w.setCell ⟨g,off+j*2,none⟩ (.int .i64 (x.1:Int))).setCell ⟨g,off+j*2+1,none⟩ (.int .i64 x.2)) (J4 v (l.set j x)::Rs):=by
 obtain ⟨g,off,cap,rfl,f,i,m,n,o⟩:=h.own.site2 hn
 refine ⟨g,off,cap,rfl,f,i,m,n,fun j x hj=> ?_⟩
 have d:=o j x hj
 obtain ⟨F,b,q,a⟩:=h.take
 exact a _ _ F ⟨d,b.2⟩ ((((E2.refl w _).setCell (p:=⟨g,off+j*2,none⟩) (.inr ((b.2 g).2 rfl)) _)).setCell (p:=⟨g,off+j*2+1,none⟩) (.inr ((b.2 g).2 rfl)) _) (fun k hk=> .inl hk) (fun k hk=>by
  have:=(q k hk).2
  simpa [World.setCell] using this)
theorem A4.swap2 {w0 w:World} {ao:Option Addr} {N cap:Nat} {l:List G9} {Rs:List A6} (h:A4 w0 w (J4 (.slice ao N cap) l::Rs)) {i j:Nat} {x y:G9} (hi:l[i]?=some x) (hj:l[j]?=some y):
  ∃g off,ao=some ⟨g,off,none⟩∧w.cell? ⟨g,off+i*2,none⟩=some (.int .i64 (x.1:Int))∧w.cell? ⟨g,off+i*2+1,none⟩=some (.int .i64 x.2)∧
   w.cell? ⟨g,off+j*2,none⟩=some (.int .i64 (y.1:Int))∧w.cell? ⟨g,off+j*2+1,none⟩=some (.int .i64 y.2)∧(∀k,w.frozen? ⟨g,k,none⟩=false)∧
   Hid (A4 w0 ((((w.setCell ⟨g,off+i*2,none⟩ (.int .i64 (y.1:Int))).setCell ⟨g,off+i*2+1,none⟩ (.int .i64 y.2)).setCell ⟨g,off+j*2,none⟩ (.int .i64 (x.1:Int))).setCell ⟨g,off+j*2+1,none⟩ (.int .i64 x.2)) (J4 (.slice ao N cap) (swp l i j x y)::Rs)):=by
 have d:i < l.length:=(List.getElem?_eq_some_iff.1 hi).1
 have f:j < l.length:=(List.getElem?_eq_some_iff.1 hj).1
 obtain ⟨g,off,n,a,_,_,b,q,r⟩:=h.site2 (by omega)
 simp only [Value.slice.injEq] at a
 obtain ⟨rfl,rfl,rfl⟩:=a
 have p:=r i y d
 obtain ⟨t,o,m,a,_,_,_,_,s⟩:=p.site2 (by simp;omega)
 simp only [Value.slice.injEq,Option.some.injEq,Addr.mk.injEq,and_true] at a
 obtain ⟨⟨rfl,rfl⟩,_,rfl⟩:=a
 exact ⟨g,off,rfl,(b i x hi).1,(b i x hi).2,(b j y hj).1,(b j y hj).2,q,A5 (s j x (by simpa using f))⟩
end Go.Proofs.YtbkbkmgogbgofaaGreatDoor
namespace Go.Proofs.YtbkbkmgogbgofaaGreatDoor
set_option maxRecDepth 100000
set_option maxHeartbeats 6400000
open Go.RowKit
attribute [local go_sem] Oper.semAt_some
theorem X1l (v:Value) (w:World) (hv:∃a n c,v= .slice a n c):
  Calls Tryz.prog 164 #[v] w fun e w'=>e= .returned (.func (.func 184) #[] #[.pointer (some ⟨w.heap.size,0,none⟩)])∧w'=w.alloc (.cells #[v] 195):=by
 obtain ⟨a,n,c,rfl⟩:=hv
 go_enter Tryz.func164,Tryz.ntmps164
 go_wp2
 go_ret
 exact ⟨rfl,rfl⟩
theorem X3t (F:Fence) (n:Nat) (hf:F.fn 184) (hro:F.round=none) (hn:1≤n) (l C B m:Nat) (vals:Nat→Value) (hm:m≤15) (hvals:∀t,∃a k c,vals t= .slice a k c)
  (J:Nat→World→Prop) (hJ:∀k W,J k W→W.cell? ⟨C,0,none⟩=some (.slice (some ⟨B,0,none⟩) m m)∧∀t,t < m→W.cell? ⟨B,t,none⟩=some (vals t))
  (hY:∀k W,k < m→J k W→YieldAt F (n-1) Tryz.prog l #[.int .i64 ((m-1-k:Nat):Int),vals (m-1-k)] W fun e W'=>e= .returned (.bool true)∧J (k+1) W')
  (W:World) (h0:J 0 W):
  CallsIn F n Tryz.prog 184 #[.func (.yield l) #[] #[],.pointer (some ⟨C,0,none⟩)] W fun e W'=>(∃v,e= .returned v)∧J m W':=by
 have hC:=(hJ 0 W h0).1
 have z:(0:Int)≤(m:Int):=T00 _
 refine callsIn_of_wp Tryz.func184 rfl hf ?_ hro
 simp only [Tryz.ntmps184,List.size_toArray,List.length_cons,List.length_nil,Nat.reduceAdd,Nat.reduceSub,Array.replicate_succ,Array.replicate_zero,List.push_toArray,List.append_toArray,T0i,T03]
 gi_wp2
 gi_loopg [3] (m+1) (fun g p wr=>∃ (k:Nat),k≤m∧m-k < g∧p= .int .i64 ((m:Int)-1- (k:Int))∧Hid (J k wr))
 case atStart=>exact ⟨0,by omega,by omega,by simp,h0⟩
 case round=>
  obtain ⟨k,hk,hg,rfl,d⟩:=hrel
  by_cases o:k < m
  ·have c0:=(hJ k wr d.out).1
   obtain ⟨q,r⟩:∃q,q=m-1-k:=⟨_,rfl⟩
   have i:q < m:=by omega
   have a0:(m:Int)-1- (k:Int)=(q:Int):=by omega
   have a1:(0:Int)≤(q:Int):=T00 _
   have c1:=(hJ k wr d.out).2 q i
   obtain ⟨va,vk,vc,s⟩:=hvals q
   rw [s] at c1
   obtain ⟨fn,x,f,y,hy,hR⟩:=hY k wr o d.out
   rw [←r,s] at hy
   have HQ:=A5 r
   clear r
   gi_wp2
   refine hR.mono ?_
   rintro e W3 ⟨rfl,b⟩
   have j:=A5 b
   clear b
   gi_wp2
   gi_roundg (gk-1)
   case measure=>omega
   case rel=>exact ⟨k+1,by omega,by omega,by go_num,j⟩
  obtain rfl:k=m:=by omega
  have a3:(k:Int)-1- (k:Int)= -1:=by omega
  gi_wp2
  go_end0
  exact ⟨⟨_,rfl⟩,d⟩
end Go.Proofs.YtbkbkmgogbgofaaGreatDoor
namespace Go.Proofs.YtbkbkmgogbgofaaGreatDoor
set_option maxRecDepth 100000
set_option maxHeartbeats 6400000
open Go.RowKit
theorem U1 {w0 w:World} {v:Value} {l:List G9} {Rs:List A6} (h:A4 w0 w (J4 v l::Rs)):∃ao cap,v= .slice ao l.length cap∧l.length≤cap∧cap≤maxLen:=h.own.form
theorem Z5g (a b n N:Nat) (P U M V S:List G9) (v c:Value) (w0 w:World) (Rs:List A6) (h:A4 w0 w (J4 v (P++(U++(M++(V++S))))::Rs)) (hN:(P++(U++(M++(V++S)))).length=N) (hN2:N≤100000)
  (ha:P.length=a) (hb:(P++(U++M)).length=b) (hU:U.length=n) (hV:V.length=n):
  Calls Tryz.prog 202 #[v,.int .i64 (a:Int),.int .i64 (b:Int),.int .i64 (n:Int),c] w fun e w'=>e= .returned (.tuple #[])∧A4 w0 w' (J4 v (P++(V++(M++(U++S))))::Rs):=by
 have h0:(0:Int)≤(a:Int):=T00 _
 have h1:(0:Int)≤(b:Int):=T00 _
 have h2:(0:Int)≤(n:Int):=T00 _
 have HL:Hid (P.length=a∧(P++(U++M)).length=b∧U.length=n∧V.length=n∧(P++(U++(M++(V++S)))).length=N):=A5 ⟨ha,hb,hU,hV,hN⟩
 have b4:b+n≤N:=by simp at hN hb;omega
 have b5:a+n≤b:=by simp at hb;omega
 obtain ⟨ao,a5,rfl,a6,c0⟩:=U1 h
 rw [hN] at a6 h⊢
 have H:=A5 h
 clear h hN ha hb hU hV
 go_enter Tryz.func202,Tryz.ntmps202
 go_wp2
 go_loopg [10] (n+1) (fun k t10 wr=>∃ (i:Nat) (l d f m:List G9),i≤n∧n-i < k∧t10= .int .i64 (i:Int)∧Hid (U=l++d∧V=f++m∧l.length=i∧f.length=i)∧
  Hid (A4 w0 wr (J4 (.slice ao N a5) (P++(f++(d++(M++(l++(m++S))))))::Rs)))
 case atStart=>exact ⟨0,[],U,[],V,by omega,by omega,rfl,A5 ⟨rfl,rfl,rfl,rfl⟩,H⟩
 case round=>
  obtain ⟨i,l,d,f,m,hi,hk,rfl,HE,HH⟩:=hrel
  have h3:(0:Int)≤(i:Int):=T00 _
  by_cases b8:i < n
  rotate_left
  ·have s:¬(i:Int) < (n:Int):=by omega
   obtain rfl:i=n:=by omega
   have HF:Hid (P++(f++(d++(M++(l++(m++S)))))=P++(V++(M++(U++S)))):=by
    obtain ⟨o,p,e3,e4⟩:=HE.out
    obtain ⟨l1,l2,r,z,l5⟩:=HL.out
    have h1:d=[]:=T0f (by rw [o,T0b] at r;omega)
    have h2:m=[]:=T0f (by rw [p,T0b] at z;omega)
    subst h1;subst h2
    rw [o,p];exact A5 (by simp)
   go_wp2
   go_end0
   exact ⟨rfl,by have h:=HH.out;rw [HF.out] at h;exact h⟩
  have s:(i:Int) < (n:Int):=by omega
  obtain ⟨o,p,e3,e4⟩:=HE.out
  obtain ⟨l1,l2,r,z,l5⟩:=HL.out
  match d,m,o,p with
  | [],_,o,_=>exfalso;rw [o] at r;simp at r;omega
  | _::_,[],_,p=>exfalso;rw [p] at z;simp at z;omega
  | x::d,y::m,o,p=>
   have q:Hid ((P++f).length=a+i∧(P++f).length+1+(d++(M++l)).length=b+i):=by
    refine A5 ⟨by simp;omega, ?_⟩
    rw [o] at r l2
    simp at l2 r⊢;omega
   have a3:Hid (P++(f++(x::d++(M++(l++(y::m++S)))))=(P++f)++x::(d++(M++l))++y::(m++S)):=A5 (by simp)
   have hh:=HH.out
   rw [a3.out] at hh
   have t:(P++f++x::(d++(M++l))++y::(m++S))[b+i]?=some y:=by
    rw [←q.out.2,T01 (by simp;omega),show (P++f).length+1+(d++(M++l)).length- (P++f++x::(d++(M++l))).length=0 by simp;omega];rfl
   obtain ⟨g,c5,rfl,c1,c2,c3,c4,hf,HS⟩:=hh.swap2 (i:=a+i) (j:=b+i) (x:=x) (y:=y) (by rw [←q.out.1];simp) t
   have HJ:Hid (swp (P++f++x::(d++(M++l))++y::(m++S)) (a+i) (b+i) x y=P++((f++[y])++(d++(M++((l++[x])++(m++S)))))):=by
    have h:=V1x (P++f) (d++(M++l)) (m++S) x y
    rw [q.out.2,q.out.1] at h
    refine A5 (h.trans (by simp))
   clear hh o p e3 e4 l1 l2 r z l5 t
   go_wp2
   go_region
   go_wp2
   go_roundg (gk-1)
   case measure=>omega
   case rel=>
    refine ⟨i+1,l++[x],d,f++[y],m,by omega,by omega,by go_num, ?_, ?_⟩
    ·obtain ⟨o,p,e3,e4⟩:=HE.out
     exact A5 ⟨by rw [o];simp,by rw [p];simp,by simp [e3],by simp [e4]⟩
    have h:=HS.out.drew
    rw [HJ.out] at h
    exact h
theorem X89 (a m b N:Nat) (P X Y S:List G9) (v c:Value) (w0 w:World) (Rs:List A6) (h:A4 w0 w (J4 v (P++(X++(Y++S)))::Rs)) (hN:(P++(X++(Y++S))).length=N) (hN2:N≤100000)
  (ha:P.length=a) (hm:(P++X).length=m) (hb:(P++(X++Y)).length=b) (hX:0 < X.length) (hY:0 < Y.length):
  Calls Tryz.prog 201 #[v,.int .i64 (a:Int),.int .i64 (m:Int),.int .i64 (b:Int),c] w fun e w'=>e= .returned (.tuple #[])∧A4 w0 w' (J4 v (P++(Y++(X++S)))::Rs):=by
 have h0:(0:Int)≤(a:Int):=T00 _
 have h1:(0:Int)≤(b:Int):=T00 _
 have h2:(0:Int)≤(m:Int):=T00 _
 obtain ⟨i0,a6⟩:∃i,i=X.length:=⟨_,rfl⟩
 obtain ⟨j0,a7⟩:∃j,j=Y.length:=⟨_,rfl⟩
 have e1:(m:Int)- (a:Int)=(i0:Int):=by simp at hm;omega
 have e2:(b:Int)- (m:Int)=(j0:Int):=by simp at hm hb;omega
 have b4:m≤N:=by simp at hm hN;omega
 have b5:b≤N:=by simp at hb hN;omega
 have b6:i0+j0≤N:=by simp at hN;omega
 have HL:Hid ((P++X).length=m∧(P++(X++(Y++S))).length=N∧X.length=i0∧Y.length=j0):=A5 ⟨hm,hN,a6.symm,a7.symm⟩
 have H:=A5 h
 have b7:0 < i0:=by omega
 have b8:0 < j0:=by omega
 clear h hN ha hm hb hX hY a6 a7
 have b9:=A5 e1
 have c0:=A5 e2
 go_enter Tryz.func201,Tryz.ntmps201
 go_wp2
 clear e1 e2
 go_loopg [10,11] (i0+j0+1) (fun k t10 t11 wr=>∃ (i j:Nat) (d U V f:List G9),i+j < k∧t10= .int .i64 (i:Int)∧t11= .int .i64 (j:Int)∧0 < i∧0 < j∧i≤N∧j≤N∧m+j≤N∧i≤m∧
  Hid (U.length=i∧V.length=j∧(d++U).length=m∧(d++(U++(V++f))).length=N∧d++(V++(U++f))=P++(Y++(X++S)))∧
  Hid (A4 w0 wr (J4 v (d++(U++(V++f)))::Rs)))
 case atStart=>
  refine ⟨i0,j0,P,X,Y,S,by omega,by go_num,by go_num,by omega,by omega,by omega,by omega, ?_, ?_,A5 ⟨HL.out.2.2.1,HL.out.2.2.2,HL.out.1,HL.out.2.1,rfl⟩,H⟩
  ·have:=HL.out;simp at this;omega
  have:=HL.out;simp at this;omega
 case round=>
  obtain ⟨i,j,d,U,V,f,hk,rfl,rfl,hi,hj,hiN,c4,c5,c6,HE,HH⟩:=hrel
  have h3:(0:Int)≤(i:Int):=T00 _
  have h4:(0:Int)≤(j:Int):=T00 _
  have em:(m:Int)- (i:Int)=((m-i:Nat):Int):=by omega
  rcases Nat.lt_trichotomy i j with hij | hij | hij
  ·have d1:¬(i:Int)=(j:Int):=by omega
   have d2:¬(j:Int) < (i:Int):=by omega
   have ej:(m:Int)+(j:Int)- (i:Int)=((m+j-i:Nat):Int):=by omega
   obtain ⟨z,l2,g,r,x⟩:=HE.out
   obtain ⟨y,t,rfl,l,n⟩:∃y t,V=y++t∧y.length=j-i∧t.length=i:=⟨V.take (j-i),V.drop (j-i),(T0g _ _).symm,by simp;omega,by simp;omega⟩
   have HR:=A5 (Z5g (m-i) (m+j-i) i N d U y t f v c w0 wr Rs (by have h:=HH.out;simpa using h) (by rw [←r];simp) hN2 (by simp at g;omega) (by simp at g⊢;omega) z n)
   have HG:Hid (t.length=i∧y.length=j-i∧(d++t).length=m∧(d++(t++(y++(U++f)))).length=N∧d++(y++(t++(U++f)))=P++(Y++(X++S))):=by
    refine A5 ⟨n,l,by simp at g⊢;omega, ?_,by rw [←x];simp⟩
    simp at r⊢;omega
   clear z l2 g r x l n
   go_wp2_with fail
   refine HR.out.mono ?_
   rintro e w1 ⟨rfl,q⟩
   have o:=A5 q
   clear q
   have ed:(j:Int)- (i:Int)=((j-i:Nat):Int):=by omega
   go_wp2
   go_roundg (gk-1)
   case measure=>omega
   case rel=>exact ⟨i,j-i,d,t,y,U++f,by omega,rfl,by go_num,by omega,by omega,by omega,by omega,by omega,by omega,HG,o⟩
  ·subst hij
   obtain ⟨z,l2,g,r,x⟩:=HE.out
   have HR:=A5 (Z5g (m-i) m i N d U [] V f v c w0 wr Rs (by have h:=HH.out;simpa using h) (by rw [←r];simp) hN2 (by simp at g;omega) (by simp at g⊢;omega) z l2)
   have HG:Hid (d++(V++([]++(U++f)))=P++(Y++(X++S))):=A5 (by rw [←x];simp)
   clear z l2 g r x
   go_wp2_with fail
   refine HR.out.mono ?_
   rintro e w1 ⟨rfl,q⟩
   rw [HG.out] at q
   have o:=A5 q
   clear q
   go_wp2
   go_end0
   exact ⟨rfl,o⟩
  have d1:¬(i:Int)=(j:Int):=by omega
  have d2:(j:Int) < (i:Int):=by omega
  obtain ⟨z,l2,g,r,x⟩:=HE.out
  obtain ⟨s,p,rfl,l,n⟩:∃s p,U=s++p∧s.length=j∧p.length=i-j:=⟨U.take j,U.drop j,(T0g _ _).symm,by simp;omega,by simp;omega⟩
  have HR:=A5 (Z5g (m-i) m j N d s p V f v c w0 wr Rs (by have h:=HH.out;simpa using h) (by rw [←r];simp) hN2 (by simp at g;omega) (by simp at g⊢;omega) l l2)
  have HG:Hid (p.length=i-j∧s.length=j∧((d++V)++p).length=m∧((d++V)++(p++(s++f))).length=N∧(d++V)++(s++(p++f))=P++(Y++(X++S))):=by
   refine A5 ⟨n,l,by simp at g⊢;omega, ?_,by rw [←x];simp⟩
   simp at r⊢;omega
  have a8:Hid (d++(V++(p++(s++f)))=(d++V)++(p++(s++f))):=A5 (by simp)
  clear z l2 g r x l n
  go_wp2_with fail
  refine HR.out.mono ?_
  rintro e w1 ⟨rfl,q⟩
  rw [a8.out] at q
  have o:=A5 q
  clear q
  have ed:(i:Int)- (j:Int)=((i-j:Nat):Int):=by omega
  go_wp2
  go_roundg (gk-1)
  case measure=>omega
  case rel=>exact ⟨i-j,j,d++V,p,s,f,by omega,by go_num,rfl,by omega,by omega,by omega,by omega,by omega,by omega,HG,o⟩
theorem X56 (A C:List G9) (x y:G9):swp (A++y::x::C) (A.length+1) A.length x y=A++x::y::C:=by
 unfold swp
 rw [T09 _ _ (by omega),show A.length+1-A.length=1 by omega,T0j,T07,T09 _ _ (T0a _),T02,T07]
theorem Y52 (a b:Nat):decide (Y4q a b < 0)=decide (a < b):=by
 unfold Y4q
 by_cases d:a < b
 ·simp [d]
 by_cases f:b < a
 ·simp [d,f]
 simp [d,f]
theorem X4h (Z1 s1 s2:List G9) (x:G9) (h:I4 Z1=s1++s2) (h2:∀y∈s2,x.1 < y.1) (h1:∀y∈s1,y.1≤x.1):I4 (Z1++[x])=s1++x::s2:=by
 rw [Y2e,h]
 have a:=Z0z Z1
 rw [h] at a
 exact Z98 x s1 s2 a h1 h2
theorem W96 (s3:List G9) (y x:G9) (h:Asc (s3++[y])) (hx:y.1≤x.1):∀z∈s3++[y],z.1≤x.1:=by
 intro z a
 rcases List.mem_append.1 a with a | a
 ·have:=((Z1m s3 [y]).1 h).2.2 z a y (by simp);omega
 rw [List.mem_singleton.1 a];exact hx
def Y1b:Value:= .func (.func 187) #[] #[]
theorem Z94 (a b N:Nat) (P Z S:List G9) (v:Value) (w0 w:World) (Rs:List A6) (h:A4 w0 w (J4 v (P++(Z++S))::Rs)) (hN:(P++(Z++S)).length=N) (hN2:N≤100000)
  (ha:P.length=a) (hb:(P++Z).length=b):
  Calls Tryz.prog 199 #[v,.int .i64 (a:Int),.int .i64 (b:Int),Y1b] w fun e w'=>e= .returned (.tuple #[])∧A4 w0 w' (J4 v (P++(I4 Z++S))::Rs):=by
 unfold Y1b
 have h0:(0:Int)≤(a:Int):=T00 _
 have h1:(0:Int)≤(b:Int):=T00 _
 have e9:a≤b:=by simp at hb;omega
 have f0:b≤N:=by simp at hb hN;omega
 have hZ:Z.length=b-a:=by simp at hb;omega
 obtain ⟨ao,b3,rfl,c7,f8⟩:=U1 h
 rw [hN] at c7 h⊢
 have HL:Hid (P.length=a∧Z.length=b-a∧(P++(Z++S)).length=N):=A5 ⟨ha,hZ,hN⟩
 have H:=A5 h
 clear h hN ha hb hZ
 go_enter Tryz.func199,Tryz.ntmps199
 go_wp2
 go_loopg [8] (N+3) (fun k t8 wr=>∃ (i:Nat) (l s:List G9),i≤N+1∧N+2-i < k∧t8= .int .i64 (i:Int)∧Hid (Z=l++s∧a+l.length=min i b∧a < i)∧
  Hid (A4 w0 wr (J4 (.slice ao N b3) (P++(I4 l++(s++S)))::Rs)))
 case atStart=>
  cases hz:Z with
  | nil=>
   refine ⟨a+1,[],[],by omega,by omega,by go_num,A5 ⟨rfl, ?_,by omega⟩, ?_⟩
   ·have:=HL.out.2.1;rw [hz] at this;simp at this⊢;omega
   have h:=H.out;rw [hz] at h;exact h
  | cons z Z'=>
   refine ⟨a+1,[z],Z', ?_,by omega,by go_num,A5 ⟨rfl, ?_,by omega⟩, ?_⟩
   ·omega
   ·have:=HL.out.2.1;rw [hz] at this;simp at this⊢;omega
   have h:=H.out;rw [hz] at h;exact h
 case round=>
  obtain ⟨i,l,s,hi,hk,rfl,HE,HH⟩:=hrel
  obtain ⟨gx,rfl⟩:∃g,g=gk:=⟨gk,rfl⟩
  have h3:(0:Int)≤(i:Int):=T00 _
  by_cases f6:i < b
  rotate_left
  ·have a6:¬(i:Int) < (b:Int):=by omega
   have HD:Hid (P++(I4 l++(s++S))=P++(I4 Z++S)):=by
    obtain ⟨t,e2,e3⟩:=HE.out
    have h2:s=[]:=T0f (by have:=HL.out.2.1;rw [t,T0b] at this;omega)
    rw [h2,T04] at t
    rw [t,h2];exact A5 rfl
   go_wp2
   go_end0
   exact ⟨rfl,by have h:=HH.out;rw [HD.out] at h;exact h⟩
  have a6:(i:Int) < (b:Int):=by omega
  obtain ⟨t,e2,e3⟩:=HE.out
  have a7:s≠[]:=by
   intro e
   rw [e,T04] at t
   have:=HL.out.2.1
   rw [t] at this;omega
  obtain ⟨x,o,rfl⟩:∃x o,s=x::o:=by
   cases s with
   | nil=>exact absurd rfl a7
   | cons x o=>exact ⟨x,o,rfl⟩
  have HZ:Hid (Z=l++(x::o)∧a+l.length=i∧a < i):=A5 ⟨t,by omega,e3⟩
  clear t e2 e3 a7 HE
  go_wp2
  go_loopg [9] (i+1) (fun k t9 wq=>∃ (j:Nat) (p n:List G9),a≤j∧j≤i∧j < k∧t9= .int .i64 (j:Int)∧Hid (I4 l=p++n∧a+p.length=j∧∀y∈n,x.1 < y.1)∧
   Hid (A4 w0 wq (J4 (.slice ao N b3) (P++(p++(x::n++(o++S))))::Rs)))
  case atStart=>
   refine ⟨i,I4 l,[], ?_,by omega,by omega,rfl,A5 ⟨by simp, ?_,by simp⟩, ?_⟩
   ·have:=HZ.out.2.2;omega
   ·rw [J1];exact HZ.out.2.1
   have h:=HH.out;exact A5 (by simpa using h)
  case round=>
   obtain ⟨j,p,n,f9,g0,g1,rfl,HF,HJ⟩:=hrel
   have h4:(0:Int)≤(j:Int):=T00 _
   by_cases c5:j=a
   ·subst c5
    have b8:decide ((j:Int) < (j:Int))=false:=by simp
    have HD:Hid (I4 (l++[x])=p++x::n):=by
     obtain ⟨f1,f2,f3⟩:=HF.out
     obtain rfl:p=[]:=T0f (by omega)
     exact A5 (X4h l [] n x f1 f3 (by simp))
    go_wp2
    go_quiet (fail)
    have a9:=A5 (HJ.out.drewN nq)
    generalize wr.drewN nq=w3 at a9⊢
    go_wp2
    go_roundg (gx-1)
    case measure=>omega
    case rel=>
     refine ⟨i+1,l++[x],o,by omega,by omega,by go_num,A5 ⟨by rw [HZ.out.1];simp, ?_,by omega⟩, ?_⟩
     ·have:=HZ.out.2.1;simp;omega
     rw [HD.out];have h:=a9.out;exact A5 (by simpa using h)
   have d3:(a:Int) < (j:Int):=by omega
   have b8:decide ((a:Int) < (j:Int))=true:=by simp;omega
   obtain ⟨f1,f2,f3⟩:=HF.out
   obtain ⟨f,y,rfl⟩:∃f y,p=f++[y]:=by
    have:p≠[]:=fun e=>by rw [e] at f2;simp at f2;omega
    exact ⟨p.dropLast,p.getLast this,(T0n this).symm⟩
   have r:Hid (P++((f++[y])++(x::n++(o++S)))=(P++f)++y::x::(n++(o++S))∧(P++f).length+1=j):=by
    refine A5 ⟨by simp, ?_⟩
    have:=HL.out.1
    simp at f2⊢;omega
   have hh:=HJ.out
   rw [r.out.1] at hh
   obtain ⟨m,b4⟩:∃m,m=j-1:=⟨_,rfl⟩
   have ej:(j:Int)-1=(m:Int):=by omega
   have d4:(0:Int)≤(m:Int):=T00 _
   have f4:j < N:=by omega
   have d5:m < N:=by omega
   have f5:IntKind.i64.wrap (m:Int)=(m:Int):=Z2b m (by omega)
   have d:=A5 b4
   clear b4
   obtain ⟨g,g2,rfl,c1,c2,c3,c4,hf,HS⟩:=hh.swap2 (i:=j) (j:=m) (x:=x) (y:=y) (by rw [←r.out.2,T01 (by omega),show (P++f).length+1- (P++f).length=1 by omega];rfl) (by rw [show m=(P++f).length by have:=r.out.2;have:=d.out;omega,T01 (by omega),T02];rfl)
   have b0:=A5 hh
   clear hh f1 f2 f3 HS
   have b1:decide (Y4q (x.1:Int) (y.1:Int) < 0)=decide (x.1 < y.1):=Y52 _ _
   go_wp2
   go_still_tail 14,(by kernel_rfl)
   change wpList _ _ _ _ _ wr.drew
   have q:=A5 b0.out.drew
   clear c1 c2 c3 c4 hf b0 HJ HH
   generalize wr.drew=w2 at q⊢
   go_wp2_with fail
   refine (Y5c x y _).mono ?_
   rintro e w3 ⟨rfl,hm⟩
   obtain ⟨g',e8,b5,c1,c2,c3,c4,hf,HS⟩:=(q.out.same hm).swap2 (i:=j) (j:=m) (x:=x) (y:=y) (by rw [←r.out.2,T01 (by omega),show (P++f).length+1- (P++f).length=1 by omega];rfl) (by rw [show m=(P++f).length by have:=r.out.2;have:=d.out;omega,T01 (by omega),T02];rfl)
   simp only [Option.some.injEq,Addr.mk.injEq,and_true] at b5
   obtain ⟨rfl,rfl⟩:=b5
   have b9:=A5 (q.out.same hm)
   clear hm q
   by_cases a2:x.1 < y.1
   ·have hd:decide (x.1 < y.1)=true:=by simp [a2]
    rw [hd] at b1
    have HE:Hid (swp (P++f++y::x::(n++(o++S))) j m x y=P++(f++(x::(y::n)++(o++S)))):=by
     have h:=X56 (P++f) (n++(o++S)) x y
     rw [r.out.2,show (P++f).length=m by have:=r.out.2;have:=d.out;omega] at h
     exact A5 (h.trans (by simp))
    go_wp2
    go_region
    go_wp2
    go_roundg (gk-1)
    case measure=>have:=d.out;omega
    case rel=>
     refine ⟨m,f,y::n,by omega,by omega,by have:=d.out;omega,rfl, ?_, ?_⟩
     ·obtain ⟨f1,f2,f3⟩:=HF.out
      refine A5 ⟨by rw [f1];simp,by have:=d.out;simp at f2;omega,fun z hz=> ?_⟩
      rcases List.mem_cons.1 hz with hz | hz
      ·rw [hz];exact a2
      exact f3 z hz
     have h:=HS.out.drew
     rw [HE.out] at h
     exact A5 h
   have hd:decide (x.1 < y.1)=false:=by simp [a2]
   rw [hd] at b1
   have HD:Hid (I4 (l++[x])=(f++[y])++x::n):=by
    obtain ⟨f1,f2,f3⟩:=HF.out
    have ha:=Z0z l
    rw [f1] at ha
    exact A5 (X4h l (f++[y]) n x f1 f3 (W96 f y x ((Z1m _ _).1 ha).1 (by omega)))
   go_wp2
   go_roundg (gx-1)
   case measure=>omega
   case rel=>
    refine ⟨i+1,l++[x],o,by omega,by omega,by go_num,A5 ⟨by rw [HZ.out.1];simp, ?_,by omega⟩, ?_⟩
    ·have:=HZ.out.2.1;simp;omega
    rw [HD.out];have h:=b9.out;rw [←r.out.1] at h;exact A5 (by simpa using h)
theorem Z3y:∀ (l:List G9),Asc l→∀ (k k2:Nat) (x y:G9),k≤k2→l[k]?=some x→l[k2]?=some y→x.1≤y.1
 | [],_,k,k2,x,y,_,h,_=>by simp at h
 | z::l,h,0,0,x,y,_,h1,h2=>by
  simp only [T0o,Option.some.injEq] at h1 h2
  rw [←h1,←h2];exact T0a _
 | z::l,h,0,k2+1,x,y,_,h1,h2=>by
  simp only [T0o,Option.some.injEq] at h1
  rw [←h1]
  exact h.1 y (List.mem_of_getElem? (by simpa using h2))
 | z::l,h,k+1,0,x,y,hk,_,_=>by omega
 | z::l,h,k+1,k2+1,x,y,hk,h1,h2=>Z3y l h.2 k k2 x y (by omega) (by simpa using h1) (by simpa using h2)
theorem W55 (a m b mid s0 r0 s e:Nat) (X Y:List G9) (hX:a+X.length=m) (hY:m+Y.length=b) (hmid:mid=(a+b) / 2) (hAX:Asc X) (hAY:Asc Y) (hs:s0≤s) (hs2:s≤r0)
  (hcase:(mid < m∧s0+b=mid+m∧r0=mid)∨(m≤mid∧s0=a∧r0=m)) (he:e+s=mid+m)
  (I1:s=s0∨∃x y,X[s-1-a]?=some x∧Y[mid+m-s-m]?=some y∧x.1≤y.1∧s0 < s)
  (I2:s=r0∨∃x y,X[s-a]?=some x∧Y[mid+m-1-s-m]?=some y∧y.1 < x.1∧s < r0):
  ∃X1 X2 Y1 Y2,X=X1++X2∧Y=Y1++Y2∧a+X1.length=s∧m+Y1.length=e∧(∀x∈X1,∀y∈Y2,x.1≤y.1)∧(∀y∈Y1,∀x∈X2,y.1 < x.1):=by
 revert I1 I2
 have q:a≤s:=by omega
 have r:s≤m:=by omega
 have t:m≤e:=by omega
 have z:e≤b:=by omega
 have l1:(X.take (s-a)).length=s-a:=by simp;omega
 have l2:(Y.take (e-m)).length=e-m:=by simp;omega
 have l:a+(X.take (s-a)).length=s:=by omega
 have n:m+(Y.take (e-m)).length=e:=by omega
 intro I1 I2
 refine ⟨X.take (s-a),X.drop (s-a),Y.take (e-m),Y.drop (e-m),(T0g _ _).symm,(T0g _ _).symm,l,n,fun x hx y hy=> ?_,fun y hy x hx=> ?_⟩
 ·obtain ⟨k,g⟩:=List.mem_iff_getElem?.1 hx
  obtain ⟨j,d⟩:=List.mem_iff_getElem?.1 hy
  revert I1 I2
  have i:=(List.getElem?_eq_some_iff.1 g).1
  have f:=(List.getElem?_eq_some_iff.1 d).1
  rw [T0p] at f
  rw [T0q (by omega)] at g
  rw [T0r] at d
  intro I1 I2
  clear I2
  rcases I1 with I1 | ⟨x2,y2,hx2,hy2,hxy,hs3⟩
  ·exfalso;omega
  have o:=Z3y X hAX k (s-1-a) x x2 (by omega) g hx2
  have p:=Z3y Y hAY (mid+m-s-m) (e-m+j) y2 y (by omega) hy2 d
  omega
 obtain ⟨k,g⟩:=List.mem_iff_getElem?.1 hx
 obtain ⟨j,d⟩:=List.mem_iff_getElem?.1 hy
 revert I1 I2
 have i:=(List.getElem?_eq_some_iff.1 g).1
 have f:=(List.getElem?_eq_some_iff.1 d).1
 rw [T0p] at i
 rw [T0q (by omega)] at d
 rw [T0r] at g
 intro I1 I2
 clear I1
 rcases I2 with I2 | ⟨x2,y2,hx2,hy2,hxy,hs3⟩
 ·exfalso;omega
 have o:=Z3y X hAX (s-a) (s-a+k) x2 x (by omega) hx2 g
 have p:=Z3y Y hAY j (mid+m-1-s-m) y y2 (by omega) d hy2
 omega
theorem V4m (A B C:List G9) (x y:G9) (n:Nat) (h:A.length=n):(A++x::B++y::C)[n]?=some x:=by
 rw [T06,T01 (by omega),←h,T02];rfl
theorem W9k (A C:List G9) (x:G9) (n:Nat) (h:A.length=n):(A++x::C)[n]?=some x:=by
 rw [T01 (by omega),←h,T02];rfl
theorem V3w (A C:List G9) (x y:G9) (n:Nat) (h:A.length+1=n):(A++x::y::C)[n]?=some y:=by
 rw [T01 (by omega),←h,T0k];rfl
theorem V2d (A B C:List G9) (x y:G9) (n:Nat) (h:A.length+1+B.length=n):(A++x::B++y::C)[n]?=some y:=by
 rw [T01 (by simp;omega),show n- (A++x::B).length=0 by simp;omega];rfl
theorem X7z (a m b N:Nat) (P Y S:List G9) (x:G9) (v:Value) (w0 w:World) (Rs:List A6) (h:A4 w0 w (J4 v (P++(x::(Y++S)))::Rs)) (hN:(P++(x::(Y++S))).length=N) (hN2:N≤100000)
  (ha:P.length=a) (hm:a+1=m) (hb:m+Y.length=b) (hY:Asc Y):
  Calls Tryz.prog 200 #[v,.int .i64 (a:Int),.int .i64 (m:Int),.int .i64 (b:Int),Y1b] w fun e w'=>e= .returned (.tuple #[])∧A4 w0 w' (J4 v (P++(mrg [x] Y++S))::Rs):=by
 unfold Y1b
 have h0:(0:Int)≤(a:Int):=T00 _
 have h1:(0:Int)≤(b:Int):=T00 _
 have h2:(0:Int)≤(m:Int):=T00 _
 have d7:b≤N:=by simp at hN;omega
 obtain ⟨ao,a8,rfl,b8,e8⟩:=U1 h
 rw [hN] at b8 h⊢
 have HL:Hid (P.length=a∧(P++(x::(Y++S))).length=N∧Asc Y):=A5 ⟨ha,hN,hY⟩
 have H:=A5 h
 have hB:=A5 hb
 have em:(m:Int)- (a:Int)=1:=by omega
 have f:=A5 hm
 have d8:m≤b:=by omega
 have d9:a < N:=by omega
 clear h hN ha hb hY hm
 go_enter Tryz.func200,Tryz.ntmps200
 go_wp2
 go_loopg [10,11] (b-m+1) (fun k t10 t11 wr=>∃ (i j:Nat),m≤i∧i≤j∧j≤b∧j-i < k∧t10= .int .i64 (i:Int)∧t11= .int .i64 (j:Int)∧
  Hid ((∀k y,Y[k]?=some y→m+k < i→y.1 < x.1)∧(∀k y,Y[k]?=some y→j≤m+k→x.1≤y.1))∧
  Hid (A4 w0 wr (J4 (.slice ao N a8) (P++(x::(Y++S)))::Rs)))
 case atStart=>
  refine ⟨m,b,by omega,by omega,by omega,by omega,rfl,rfl,A5 ⟨fun k y _ r=>by omega,fun k y o r=> ?_⟩,H⟩
  have:=(List.getElem?_eq_some_iff.1 o).1
  have:=hB.out
  omega
 case round=>
  obtain ⟨i,j,e9,f0,f3,r,rfl,rfl,HE,HH⟩:=hrel
  have h3:(0:Int)≤(i:Int):=T00 _
  have h4:(0:Int)≤(j:Int):=T00 _
  by_cases e7:i < j
  ·have a3:(i:Int) < (j:Int):=by omega
   obtain ⟨q,hq⟩:∃q,q=(i+j) / 2:=⟨_,rfl⟩
   have e0:((i:Int)+(j:Int)) / 2=(q:Int):=by omega
   have e1:i≤q:=by omega
   have e2:q < j:=by omega
   have e3:q < N:=by omega
   have e4:(0:Int)≤(q:Int):=T00 _
   clear hq
   obtain ⟨y,o⟩:∃y,Y[q-m]?=some y:=⟨Y[q-m]'(by have:=hB.out;omega),T0s _⟩
   have HY:=A5 o
   have a4:(P++(x::(Y++S)))[a]?=some x:=by
    rw [←HL.out.1,T01 (T0a _),T02];rfl
   have a5:(P++(x::(Y++S)))[q]?=some y:=by
    rw [T01 (by have:=HL.out.1;have:=f.out;omega),HL.out.1,show q-a=(q-m)+1 by have:=f.out;omega,List.getElem?_cons_succ,T0h (by have:=hB.out;omega)];exact o
   obtain ⟨g,b9,rfl,c1,c2,c3,c4,hf,_⟩:=HH.out.swap2 a4 a5
   have s:decide (Y4q (y.1:Int) (x.1:Int) < 0)=decide (y.1 < x.1):=Y52 _ _
   clear o a4 a5
   go_wp2
   go_still_tail 9,(by kernel_rfl)
   change wpList _ _ _ _ _ wr.drew
   have t:=A5 HH.out.drew
   clear c1 c2 c3 c4 hf HH
   generalize wr.drew=w2 at t⊢
   go_wp2_with fail
   refine (Y5c y x _).mono ?_
   rintro e w3 ⟨rfl,hm⟩
   have a6:=A5 (t.out.same hm)
   clear hm t
   by_cases a7:y.1 < x.1
   ·have hd:decide (y.1 < x.1)=true:=by simp [a7]
    rw [hd] at s
    go_wp2
    go_roundg (gk-1)
    case measure=>omega
    case rel=>
     refine ⟨q+1,j,by omega,by omega,by omega,by omega,by go_num,rfl,A5 ⟨fun k z hz r=> ?_,HE.out.2⟩,a6⟩
     have:=Z3y Y HL.out.2.2 k (q-m) z y (by omega) hz HY.out
     omega
   have hd:decide (y.1 < x.1)=false:=by simp [a7]
   rw [hd] at s
   go_wp2
   go_roundg (gk-1)
   case measure=>omega
   case rel=>
    refine ⟨i,q,by omega,by omega,by omega,by omega,rfl,rfl,A5 ⟨HE.out.1,fun k z hz r=> ?_⟩,a6⟩
    have:=Z3y Y HL.out.2.2 (q-m) k y z (by omega) HY.out hz
    omega
  have a3:¬(i:Int) < (j:Int):=by omega
  obtain rfl:j=i:=by omega
  obtain ⟨e,he⟩:∃e,e=j-1:=⟨_,rfl⟩
  have eI:(j:Int)-1=(e:Int):=by omega
  have n:Hid (e=j-1):=A5 he
  have e5:e < j:=by omega
  clear he
  go_wp2
  go_loopg [13] (N+2) (fun k t13 wr=>∃ (p:Nat) (d Y2:List G9),p≤e∧N-p < k∧t13= .int .i64 (p:Int)∧
   Hid (Y=d++Y2∧a+d.length=p)∧Hid (A4 w0 wr (J4 (.slice ao N a8) (P++(d++(x::(Y2++S))))::Rs)))
  case atStart=>
   refine ⟨a,[],Y, ?_,by omega,rfl,A5 ⟨rfl,rfl⟩,HH⟩
   have:=n.out;have:=f.out;omega
  case round=>
   obtain ⟨p,d,Y2,f5,f6,rfl,HF,HJ⟩:=hrel
   have h5:(0:Int)≤(p:Int):=T00 _
   have h6:(0:Int)≤(e:Int):=T00 _
   by_cases hp:p < e
   ·have b4:(p:Int) < (e:Int):=by omega
    have c6:(p:Int)+1 < (j:Int):=by omega
    have e6:p < N:=by omega
    have c7:p+1 < N:=by omega
    obtain ⟨y,l,rfl⟩:∃y l,Y2=y::l:=by
     cases hz:Y2 with
     | nil=>
      exfalso
      have h7:=HF.out.1
      rw [hz,T04] at h7
      have:=HF.out.2;have:=hB.out;have:=n.out;have:=f.out
      rw [h7] at*;omega
     | cons y l=>exact ⟨y,l,rfl⟩
    have HC:Hid (P++(d++(x::(y::l++S)))=(P++d)++x::[]++y::(l++S)∧(P++d).length=p):=by
     refine A5 ⟨by simp, ?_⟩
     have:=HF.out.2;have:=HL.out.1;simp;omega
    have hh:=HJ.out
    rw [HC.out.1] at hh
    obtain ⟨g,b9,rfl,c1,c2,c3,c4,hf,HS⟩:=hh.swap2 (i:=p) (j:=p+1) (x:=x) (y:=y) (V4m _ _ _ _ _ _ HC.out.2) (V2d _ _ _ _ _ _ (by rw [HC.out.2];rfl))
    have HD:Hid (swp ((P++d)++x::[]++y::(l++S)) p (p+1) x y=P++((d++[y])++(x::(l++S)))):=by
     have h:=V1x (P++d) [] (l++S) x y
     rw [HC.out.2] at h
     exact A5 (h.trans (by simp))
    clear hh
    go_wp2
    go_region
    go_wp2
    go_roundg (gk-1)
    case measure=>omega
    case rel=>
     refine ⟨p+1,d++[y],l,by omega,by omega,by go_num,A5 ⟨by rw [HF.out.1];simp,by have:=HF.out.2;simp;omega⟩, ?_⟩
     have h:=HS.out.drew
     rw [HD.out] at h
     exact A5 h
   have b4:¬(p:Int) < (e:Int):=by omega
   obtain rfl:p=e:=by omega
   have HD:Hid (P++(d++(x::(Y2++S)))=P++(mrg [x] Y++S)):=by
    obtain ⟨f1,f2⟩:=HF.out
    rw [f1,X1z x d Y2]
    ·exact A5 (by simp)
    ·intro y o
     obtain ⟨k,r⟩:=List.mem_iff_getElem?.1 o
     have b7:=(List.getElem?_eq_some_iff.1 r).1
     have:=n.out;have:=f.out
     exact HE.out.1 k y (by rw [f1,T0h b7];exact r) (by omega)
    intro y o
    obtain ⟨k,r⟩:=List.mem_iff_getElem?.1 o
    have:=n.out;have:=f.out
    exact HE.out.2 (d.length+k) y (by rw [f1,T01 (by omega),T0k];exact r) (by omega)
   go_wp2
   refine bodyPost_ret (results_none rfl _ _ _) rfl ?_
   exact ⟨rfl,by have h:=HJ.out;rw [HD.out] at h;exact h⟩
theorem X5y (a m b N:Nat) (P X S:List G9) (y:G9) (v:Value) (w0 w:World) (Rs:List A6) (h:A4 w0 w (J4 v (P++(X++(y::S)))::Rs)) (hN:(P++(X++(y::S))).length=N) (hN2:N≤100000)
  (ha:P.length=a) (hm:a+X.length=m) (hb:m+1=b) (hX:Asc X) (hX2:X.length≠1):
  Calls Tryz.prog 200 #[v,.int .i64 (a:Int),.int .i64 (m:Int),.int .i64 (b:Int),Y1b] w fun e w'=>e= .returned (.tuple #[])∧A4 w0 w' (J4 v (P++(mrg X [y]++S))::Rs):=by
 unfold Y1b
 have h0:(0:Int)≤(a:Int):=T00 _
 have h1:(0:Int)≤(b:Int):=T00 _
 have h2:(0:Int)≤(m:Int):=T00 _
 have d8:b≤N:=by simp at hN;omega
 obtain ⟨ao,a8,rfl,c5,f5⟩:=U1 h
 rw [hN] at c5 h⊢
 have s:Hid (P.length=a∧(P++(X++(y::S))).length=N∧Asc X):=A5 ⟨ha,hN,hX⟩
 have H:=A5 h
 have hM:=A5 hm
 have e0:¬(m:Int)- (a:Int)=1:=by omega
 have d9:((m:Int)- (a:Int)==1)=false:=by simp;omega
 have em:(b:Int)- (m:Int)=1:=by omega
 have e1:=A5 hb
 have e2:a≤m:=by omega
 have e3:m < N:=by omega
 clear h hN ha hb hX hm hX2
 go_enter Tryz.func200,Tryz.ntmps200
 go_wp2
 go_loopg [14,15] (m-a+1) (fun k t10 t11 wr=>∃ (i j:Nat),a≤i∧i≤j∧j≤m∧j-i < k∧t10= .int .i64 (i:Int)∧t11= .int .i64 (j:Int)∧
  Hid ((∀k z,X[k]?=some z→a+k < i→z.1≤y.1)∧(∀k z,X[k]?=some z→j≤a+k→y.1 < z.1))∧
  Hid (A4 w0 wr (J4 (.slice ao N a8) (P++(X++(y::S)))::Rs)))
 case atStart=>
  refine ⟨a,m,by omega,by omega,by omega,by omega,rfl,rfl,A5 ⟨fun k z _ o=>by omega,fun k z n o=> ?_⟩,H⟩
  have:=(List.getElem?_eq_some_iff.1 n).1
  have:=hM.out
  omega
 case round=>
  obtain ⟨i,j,f6,f7,f8,o,rfl,rfl,HE,HH⟩:=hrel
  have h3:(0:Int)≤(i:Int):=T00 _
  have h4:(0:Int)≤(j:Int):=T00 _
  by_cases f4:i < j
  ·have a2:(i:Int) < (j:Int):=by omega
   obtain ⟨q,hq⟩:∃q,q=(i+j) / 2:=⟨_,rfl⟩
   have e4:((i:Int)+(j:Int)) / 2=(q:Int):=by omega
   have e5:i≤q:=by omega
   have e6:q < j:=by omega
   have e7:q < N:=by omega
   have e8:(0:Int)≤(q:Int):=T00 _
   clear hq
   obtain ⟨z,n⟩:∃z,X[q-a]?=some z:=⟨X[q-a]'(by have:=hM.out;omega),T0s _⟩
   have HZ:=A5 n
   have a3:(P++(X++(y::S)))[m]?=some y:=by
    rw [←T06,T01 (by have:=s.out.1;have:=hM.out;simp;omega),show m- (P++X).length=0 by have:=s.out.1;have:=hM.out;simp;omega];rfl
   have a4:(P++(X++(y::S)))[q]?=some z:=by
    rw [T01 (by have:=s.out.1;omega),s.out.1,T0h (by have:=hM.out;omega)];exact n
   obtain ⟨g,c6,rfl,c1,c2,c3,c4,hf,_⟩:=HH.out.swap2 a3 a4
   have t:decide (Y4q (y.1:Int) (z.1:Int) < 0)=decide (y.1 < z.1):=Y52 _ _
   clear n a3 a4
   go_wp2
   go_still_tail 9,(by kernel_rfl)
   change wpList _ _ _ _ _ wr.drew
   have a0:=A5 HH.out.drew
   clear c1 c2 c3 c4 hf HH
   generalize wr.drew=w2 at a0⊢
   go_wp2_with fail
   refine (Y5c y z _).mono ?_
   rintro e w3 ⟨rfl,hm⟩
   have a5:=A5 (a0.out.same hm)
   clear hm a0
   by_cases a7:y.1 < z.1
   ·have hd:decide (y.1 < z.1)=true:=by simp [a7]
    rw [hd] at t
    go_wp2
    go_roundg (gk-1)
    case measure=>omega
    case rel=>
     refine ⟨i,q,by omega,by omega,by omega,by omega,rfl,rfl,A5 ⟨HE.out.1,fun k x hx o=> ?_⟩,a5⟩
     have:=Z3y X s.out.2.2 (q-a) k z x (by omega) HZ.out hx
     omega
   have hd:decide (y.1 < z.1)=false:=by simp [a7]
   rw [hd] at t
   go_wp2
   go_roundg (gk-1)
   case measure=>omega
   case rel=>
    refine ⟨q+1,j,by omega,by omega,by omega,by omega,by go_num,rfl,A5 ⟨fun k x hx o=> ?_,HE.out.2⟩,a5⟩
    have:=Z3y X s.out.2.2 k (q-a) x z (by omega) hx HZ.out
    omega
  have a2:¬(i:Int) < (j:Int):=by omega
  obtain rfl:j=i:=by omega
  go_wp2
  go_loopg [17] (m+1) (fun k t13 wr=>∃ (p:Nat) (f l:List G9),j≤p∧p≤m∧p < k∧t13= .int .i64 (p:Int)∧
   Hid (X=f++l∧a+f.length=p)∧Hid (A4 w0 wr (J4 (.slice ao N a8) (P++(f++(y::(l++S))))::Rs)))
  case atStart=>exact ⟨m,X,[],by omega,by omega,by omega,rfl,A5 ⟨by simp,hM.out⟩,HH⟩
  case round=>
   obtain ⟨p,f,l,g0,g1,g2,rfl,HF,HJ⟩:=hrel
   have h5:(0:Int)≤(p:Int):=T00 _
   by_cases hp:j < p
   rotate_left
   ·have b7:¬(j:Int) < (p:Int):=by omega
    obtain rfl:p=j:=by omega
    have HD:Hid (P++(f++(y::(l++S)))=P++(mrg X [y]++S)):=by
     obtain ⟨f1,f2⟩:=HF.out
     have a6:=s.out.2.2
     rw [f1] at a6
     rw [f1,Z98 y f l a6]
     ·exact A5 (by simp)
     ·intro z n
      obtain ⟨k,o⟩:=List.mem_iff_getElem?.1 n
      have c0:=(List.getElem?_eq_some_iff.1 o).1
      exact HE.out.1 k z (by rw [f1,T0h c0];exact o) (by omega)
     intro z n
     obtain ⟨k,o⟩:=List.mem_iff_getElem?.1 n
     exact HE.out.2 (f.length+k) z (by rw [f1,T01 (by omega),T0k];exact o) (by omega)
    go_wp2
    refine bodyPost_ret (results_none rfl _ _ _) rfl ?_
    exact ⟨rfl,by have h:=HJ.out;rw [HD.out] at h;exact h⟩
   have b7:(j:Int) < (p:Int):=by omega
   obtain ⟨d,b0⟩:∃d,p=d+1:=⟨p-1,by omega⟩
   have e9:(p:Int)-1=(d:Int):=by omega
   have h6:(0:Int)≤(d:Int):=T00 _
   have f0:p < N:=by omega
   have c8:d < N:=by omega
   have f3:IntKind.i64.wrap (d:Int)=(d:Int):=Z2b d (by omega)
   have HP:=A5 b0
   have c9:j≤d:=by omega
   have d0:d < p:=by omega
   clear b0
   obtain ⟨r,z,rfl⟩:∃r z,f=r++[z]:=by
    have:f≠[]:=fun e=>by have h:=HF.out.2;rw [e] at h;simp at h;omega
    exact ⟨f.dropLast,f.getLast this,(T0n this).symm⟩
   have HC:Hid (P++((r++[z])++(y::(l++S)))=(P++r)++z::y::(l++S)∧(P++r).length=d):=by
    refine A5 ⟨by simp, ?_⟩
    have:=HF.out.2;have:=s.out.1;have:=HP.out;simp at*;omega
   have hh:=HJ.out
   rw [HC.out.1] at hh
   obtain ⟨g,c6,rfl,c1,c2,c3,c4,hf,HS⟩:=hh.swap2 (i:=p) (j:=d) (x:=y) (y:=z) (V3w _ _ _ _ _ (by rw [HC.out.2];exact HP.out.symm)) (W9k _ _ _ _ HC.out.2)
   have HD:Hid (swp ((P++r)++z::y::(l++S)) p d y z=P++(r++(y::((z::l)++S)))):=by
    have h:=X56 (P++r) (l++S) y z
    rw [HC.out.2,←HP.out] at h
    exact A5 (h.trans (by simp))
   clear hh
   go_wp2
   go_region
   go_wp2
   go_roundg (gk-1)
   case measure=>omega
   case rel=>
    refine ⟨d,r,z::l,by omega,by omega,by omega,rfl,A5 ⟨by rw [HF.out.1];simp, ?_⟩, ?_⟩
    ·have:=HF.out.2;have:=HP.out;simp at*;omega
    have h:=HS.out.drew
    rw [HD.out] at h
    exact A5 h
end Go.Proofs.YtbkbkmgogbgofaaGreatDoor
