/- The claim's texts, put together and shortened by a program (names, spaces). -/
import Derived.Test.YtbkbkmgogbgofaaGreatDoorZk02
import Derived.Test.YtbkbkmgogbgofaaGreatDoorZk09
import Derived.Test.YtbkbkmgogbgofaaGreatDoorZk05
import Derived.Test.YtbkbkmgogbgofaaGreatDoorZk08
import Derived.Test.YtbkbkmgogbgofaaGreatDoorZk03
import Derived.Test.YtbkbkmgogbgofaaGreatDoorZk04
import Derived.WalkSpells
open List renaming range→T01,getElem?_eq_none→T02,ext_getElem?→T03,getElem?_set→T04,getElem?_eq_getElem→T05,mem_of_getElem?→T06,length_take→T07,eq_nil_of_length_eq_zero→T09,perm_middle→T0a
open Nat renaming lt_of_lt_of_le→T08
open Int renaming natCast_nonneg→T00
namespace Go.Proofs.YtbkbkmgogbgofaaGreatDoor
set_option maxRecDepth 100000
set_option maxHeartbeats 6400000
open Go.RowKit
def wrT (B:C4) (l:List Nat):A6 where
 res:=fun w F=>∃d,Wr w B d l∧∀k,F k↔Z1l B.b d k
 loc:=fun _ _ _ _ ⟨d,h1,h2⟩ hm hS=>⟨d,h1.kept hm (fun k hk=>hS k ((h2 k).2 hk)),h2⟩
def W3b (B:C4) (l:List Nat):A6 where
 res:=fun w F=>∃d,Rr w B d l∧∀k,F k↔Z1l B.b d k
 loc:=fun _ _ _ _ ⟨d,h1,h2⟩ hm hS=>⟨d,h1.kept hm (fun k hk=>hS k ((h2 k).2 hk)),h2⟩
theorem Y3k {w:World} {B:Nat} {d d':Value} {F:Nat→Prop} (h2:∀k,F k↔Z1l B d k) (hmv:Y9d w d d'):∀k,Z1l B d' k→F k∨w.heap.size≤k:=by
 rintro k (rfl | a)
 ·exact .inl ((h2 k).2 (.inl rfl))
 rcases hmv with h | h
 ·exact .inl ((h2 k).2 (.inr (h ▸ a)))
 exact .inr (h k a)
theorem A4.wr {w0 w:World} {B:C4} {l:List Nat} {Rs:List A6} (h:A4 w0 w (wrT B l::Rs)):∃d,Wr w B d l∧(∀k,Z1l B.b d k→w0.heap.size≤k)∧∀w' l',Z4k w w' B d l'→A4 w0 w' (wrT B l'::Rs):=by
 obtain ⟨F,⟨d,g,f⟩,i,a⟩:=h.take
 refine ⟨d,g,fun k hk=>(i k ((f k).2 hk)).1,fun w' l' ⟨d',hW',hm,hmv⟩=>a w' _ _ ⟨d',hW',fun _=>Iff.rfl⟩ (hm.mono fun k _ hk=>(f k).2 hk) (Y3k f hmv) hW'.lt⟩
theorem A4.rr {w0 w:World} {B:C4} {l:List Nat} {Rs:List A6} (h:A4 w0 w (W3b B l::Rs)):∃d,Rr w B d l∧(∀k,Z1l B.b d k→w0.heap.size≤k)∧∀w' l',V0q w w' B d l'→A4 w0 w' (W3b B l'::Rs):=by
 obtain ⟨F,⟨d,g,f⟩,i,a⟩:=h.take
 refine ⟨d,g,fun k hk=>(i k ((f k).2 hk)).1,fun w' l' ⟨d',hW',hm,hmv⟩=>a w' _ _ ⟨d',hW',fun _=>Iff.rfl⟩ (hm.mono fun k _ hk=>(f k).2 hk) (Y3k f hmv) hW'.lt⟩
theorem A4.takeE {w0 w:World} {R:A6} {Rs:List A6} (h:A4 w0 w (R::Rs)):∃F:Nat→Prop,R.res w F∧(∀k,F k→w0.heap.size≤k∧k < w.heap.size)∧
  ∀ (w':World) (R' E:A6) (F' FE:Nat→Prop),R'.res w' F'→E5 w w' F→(∀k,F' k→F k)→E.res w' FE→(∀k,FE k→w.heap.size≤k∧k < w'.heap.size)→A4 w0 w' (E::R'::Rs):=by
 obtain ⟨F,g,a,d⟩:=h
 refine ⟨F,g,fun k hk=>⟨(a k hk).1,(a k hk).2.1⟩,fun w' R' E F' FE hR hm hF hE hn=> ?_⟩
 refine ⟨FE,hE,fun k hk=>⟨Nat.le_trans (N3.mod d).size (hn k hk).1,(hn k hk).2,fun h=>h⟩,F',hR,fun k hk=>⟨(a k (hF k hk)).1,T08 (a k (hF k hk)).2.1 hm.size, ?_⟩, ?_⟩
 ·rintro (b | b)
  ·exact b
  have:=(hn k b).1;have:=(a k (hF k hk)).2.1;omega
 have f:=(d.more (V:=fun k=>(False∨F k)∨FE k) fun k hk=>hk.imp id (fun h=>(hn k h).1)).step hm (fun k hk _=>(a k hk).1) (fun k hk _=> .inl (.inr hk))
 exact f.less fun k hk=>by
  rcases hk with (hk | hk) | hk
  ·exact hk.elim
  ·exact .inr hk
  exact .inl (.inr (hF k hk))
structure Z5a (B:C4) (R:List Nat→A6):Prop where
 opn:∀ {w0 w:World} {l:List Nat} {Rs:List A6},A4 w0 w (R l::Rs)→∃d,Rr w B d l∧
  ∀ (w':World) (l':List Nat) (E:A6) (FE:Nat→Prop),Y84 w w' B d l'→E.res w' FE→(∀k,FE k→w.heap.size≤k∧k < w'.heap.size)→A4 w0 w' (E::R l'::Rs)
def V7e:A6 where
 res:=fun _ F=>∀k,¬F k
 loc:=fun _ _ _ _ h _ _=>h
theorem Z5a.one {B:C4} {R:List Nat→A6} (L:Z5a B R) {w0 w:World} {l:List Nat} {Rs:List A6} (h:A4 w0 w (R l::Rs)):∃d,Rr w B d l∧∀w' l',Y84 w w' B d l'→A4 w0 w' (R l'::Rs):=by
 obtain ⟨d,a,b⟩:=L.opn h
 exact ⟨d,a,fun w' l' hk=>(b w' l' V7e (fun _=>False) hk (fun _ h=>h) (fun _ h=>h.elim)).drop⟩
theorem W45 {B:Nat} {d d':Value} (h:d'.ownBlock=d.ownBlock∨d'.ownBlock=none) {k:Nat} (hk:Z1l B d' k):Z1l B d k:=by
 rcases hk with rfl | hk
 ·exact .inl rfl
 rcases h with h | h
 ·exact .inr (h ▸ hk)
 rw [h] at hk;cases hk
def J9 (B:C4) (v:Value) (bs:List Nat) (l:List Nat):A6 where
 res:=fun w F=>∃d,Rr w B d l∧Own w 5 1 v bs.length (D9 bs)∧v.ownBlock≠some B.b∧(d.ownBlock=v.ownBlock∨d.ownBlock=none)∧∀k,F k↔Z1l B.b v k
 loc:=fun _ _ _ _ ⟨d,h1,h3,h4,h5,h2⟩ hm hS=>⟨d,h1.kept hm (fun k hk=>hS k ((h2 k).2 (W45 h5 hk))),h3.kept hm (fun k hk=>hS k ((h2 k).2 (.inr hk))),h4,h5,h2⟩
theorem Z8l (B:C4) (v:Value) (bs:List Nat):Z5a B (J9 B v bs) where
 opn {w0 w l Rs} h:=by
  obtain ⟨F,⟨d,g,i,b,j,f⟩,m,a⟩:=h.takeE
  refine ⟨d,g,fun w' l' E FE ⟨d',g3,g4,g5⟩ hE hn=>a w' _ E F FE ⟨d',g3,i.kept g4 (fun k hk e=>b (by rw [hk,e])),b, ?_,f⟩ (g4.mono fun k _ e=>(f k).2 (.inl e)) (fun k hk=>hk) hE hn⟩
  rcases g5 with g5 | g5
  ·rw [g5];exact j
  exact .inr g5
theorem A4.took {w0 w:World} {B:C4} {l:List Nat} {Rs:List A6} (h:A4 w0 w (wrT B l::Rs)):∃d,Wr w B d l∧∀w' n xs l',Own w' 5 1 d n xs→Wr w' B (.slice none 0 0) l'→E5 w w' (fun k=>k=B.b)→A4 w0 w' (B0 5 1 d n xs::wrT B l'::Rs):=by
 obtain ⟨F,⟨d,f,a⟩,g,i⟩:=h
 refine ⟨d,f,fun w' n xs l' ho hW' hm=> ?_⟩
 refine A4.split i (fun k hk=>⟨(g k hk).1,(g k hk).2.1⟩) (F1:=fun k=>d.ownBlock=some k) (F2:=fun k=>k=B.b) ⟨ho,fun _=>Iff.rfl⟩ ⟨_,hW',fun k=>⟨.inl,fun hk=>hk.elim id (fun h=>by simp [Value.ownBlock] at h)⟩⟩ (hm.mono fun k _ hk=>(a k).2 (.inl hk))
  (fun k hk=>(a k).2 (.inr hk)) (fun k hk=>(a k).2 (.inl hk)) (fun k hk e=>f.ne (by rw [hk,e]))
section
variable {w0 w:World} {B:Nat} {l:List Nat} {Rs:List A6}
theorem Z6r {B:C4} (h:A4 w0 w (wrT B l::Rs)) (v n:Nat) (hv:v < 4294967296) (hn:n≤32) (hl:l.length < 1099511600000):
  Calls Tryz.prog 89 #[.pointer (some ⟨B.b,B.o,none⟩),.int .u32 (v:Int),.int .i64 (n:Int)] w fun e w'=>e= .returned (.tuple #[])∧A4 w0 w' (wrT B (l++A9 n v)::Rs):=by
 obtain ⟨d,f,_,a⟩:=h.wr
 exact (V33 B d l v n w f hv hn (by omega)).mono fun _ _ ⟨h1,h2⟩=>⟨h1,a _ _ h2⟩
theorem X75 {B:C4} (h:A4 w0 w (wrT B l::Rs)) (hl:l.length < 1099511600000):
  Calls Tryz.prog 33 #[.pointer (some ⟨B.b,B.o,none⟩)] w fun e w'=>e= .returned (.tuple #[])∧A4 w0 w' (wrT B (J2 l)::Rs):=by
 obtain ⟨d,f,_,a⟩:=h.wr
 exact (Y5i B d l w f (by omega)).mono fun _ _ ⟨h1,h2⟩=>⟨h1,a _ _ h2⟩
theorem V1k {B:C4} (h:A4 w0 w (wrT B l::Rs)):
  Calls Tryz.prog 30 #[.pointer (some ⟨B.b,B.o,none⟩)] w fun e w'=>∃d,e= .returned d∧A4 w0 w' (B0 5 1 d (D4 l).length (D9 (D4 l))::wrT B (l.drop (8*(D4 l).length))::Rs):=by
 obtain ⟨d,f,a⟩:=h.took
 exact (W86 B d l w f).mono fun _ _ ⟨h1,h2,h3,h4⟩=>⟨d,h1,a _ _ _ _ h2 h3 h4⟩
theorem V5w {B:C4} (h:A4 w0 w (W3b B l::Rs)) (v:Value) (n:Nat) (news:List Nat) (hv:Rd w 1 v n (D9 news)) (hn256:∀b∈news,b < 256) (hnl:n < 1099511627776) (hl:l.length < 1099511600000):
  Calls Tryz.prog 41 #[.pointer (some ⟨B.b,B.o,none⟩),v] w fun e w'=>e= .returned (.tuple #[])∧A4 w0 w' (W3b B (l++D7 news)::Rs):=by
 obtain ⟨d,f,_,a⟩:=h.rr
 exact (W6t B d v l news n w f hl hv hn256 hnl).mono fun _ _ ⟨h1,h2⟩=>⟨h1,a _ _ h2⟩
theorem W6k {P:C4} {R:List Nat→A6} (L:Z5a P R) (h:A4 w0 w (R l::Rs)) (hl:l.length < 1099511600000):
  Calls Tryz.prog 93 #[.pointer (some ⟨P.b,P.o,none⟩)] w fun e w'=>e= .returned (.int .i64 (l.length:Int))∧A4 w0 w' (R l::Rs):=by
 obtain ⟨d,a,_⟩:=L.one h
 exact (Z7s P d l w a (by omega)).mono fun _ _ ⟨h1,n,h2⟩=>⟨h1,by rw [h2];exact h.drewN n⟩
theorem W8s {P:C4} {R:List Nat→A6} (L:Z5a P R) (h:A4 w0 w (R l::Rs)):
  Calls Tryz.prog 92 #[.pointer (some ⟨P.b,P.o,none⟩)] w fun e w'=>e= .returned (.tuple #[])∧A4 w0 w' (R (l.drop (l.length%8))::Rs):=by
 obtain ⟨d,f,a⟩:=L.one h
 exact (Y0b P d l w f).mono fun _ _ ⟨h1,h2⟩=>⟨h1,a _ _ h2⟩
theorem V25 {P:C4} {R:List Nat→A6} (L:Z5a P R) (h:A4 w0 w (R l::Rs)) (n:Nat) (hn:n≤32) (hnl:n≤l.length) (hl:l.length < 1099511600000):
  Calls Tryz.prog 170 #[.pointer (some ⟨P.b,P.o,none⟩),.int .i64 (n:Int)] w fun e w'=>e= .returned (.tuple #[.int .u32 ((E4 (l.take n):Nat):Int),.bool true])∧A4 w0 w' (R l::Rs):=by
 obtain ⟨d,f,a⟩:=L.one h
 exact (X6q P d l n w f hn hnl (by omega)).mono fun _ _ ⟨h1,d',bs,s,c,hR,hL,hc,_,hM,hO⟩=>⟨h1,a _ _ ⟨d',⟨bs,s,c,hR,hc,hL.symm⟩,hM,hO⟩⟩
theorem W5c {P:C4} {R:List Nat→A6} (L:Z5a P R) (h:A4 w0 w (R l::Rs)) (n:Nat) (hn:n≤32) (hnl:l.length < n):
  Calls Tryz.prog 140 #[.pointer (some ⟨P.b,P.o,none⟩),.int .i64 (n:Int)] w fun e w'=>e= .returned (.tuple #[.int .u32 0,.bool false])∧A4 w0 w' (R l::Rs):=by
 obtain ⟨d,a,_⟩:=L.one h
 exact (V2u P d l n w a hn hnl).mono fun _ _ ⟨h1,k,h2⟩=>⟨h1,by rw [h2];exact h.drewN k⟩
theorem W9t {P:C4} {R:List Nat→A6} (L:Z5a P R) (h:A4 w0 w (R l::Rs)) (n:Nat) (hn:n≤32) (hnl:n≤l.length) (hl:l.length < 1099511600000):
  Calls Tryz.prog 140 #[.pointer (some ⟨P.b,P.o,none⟩),.int .i64 (n:Int)] w fun e w'=>e= .returned (.tuple #[.int .u32 ((E4 (l.take n):Nat):Int),.bool true])∧A4 w0 w' (R (l.drop n)::Rs):=by
 obtain ⟨d,f,a⟩:=L.one h
 exact (V3e P d l n w f hn hnl (by omega)).mono fun _ _ ⟨h1,h2⟩=>⟨h1,a _ _ h2⟩
theorem V58 {P:C4} {R:List Nat→A6} (L:Z5a P R) (h:A4 w0 w (R l::Rs)) (n:Int) (hl:l.length < 1099511600000):
  Calls Tryz.prog 81 #[.pointer (some ⟨P.b,P.o,none⟩),.int .i64 n] w fun e w'=>∃v,e= .returned v∧
   A4 w0 w' (B0 5 1 v (Z49 l n) (D9 ((D4 (l.drop (l.length%8))).take (Z49 l n)))::R ((l.drop (l.length%8)).drop (8*Z49 l n))::Rs):=by
 obtain ⟨d,g,a⟩:=L.opn h
 by_cases f:Z49 l n=0
 ·refine (W3e P d l n w g hl f).mono fun _ w' ⟨h1,h3⟩=>⟨_,h1, ?_⟩
  rw [f]
  exact a w' _ _ (fun _=>False) h3 ⟨Own.nil w' _ _,fun k=>by simp [Value.ownBlock]⟩ (fun _ h=>h.elim)
 refine (W6a P d l n _ w g hl rfl (by omega)).mono fun _ w' ⟨v,h1,h3,h4,h7⟩=>⟨v,h1, ?_⟩
 exact a w' _ _ (fun k=>v.ownBlock=some k) h4 ⟨h3,fun _=>Iff.rfl⟩ (fun k hk=>⟨h7 k hk,h3.lt k hk⟩)
theorem V5f (h:A4 w0 w Rs) (v u:Value) (a b:List Nat) (hv:Rd w 1 v a.length (D9 a)) (hu:Rd w 1 u b.length (D9 b)) (hal:a.length < 8000000000):
  Calls Tryz.prog 15 #[v,u] w fun e w'=>e= .returned (.bool (decide (a=b)))∧A4 w0 w' Rs:=
 (W71 v u a b w hv hu hal).mono fun _ _ ⟨h1,n,h2⟩=>⟨h1,by rw [h2];exact h.drewN n⟩
end
theorem X4g:(Tryz.prog.info? 3).map (fun i=>(i.zero,i.size,i.bytes))=some (some (Value.int .i64 0),1,8):=by kernel_rfl
def W0f (lv cv:Value) (F:Nat→Nat) (S:Nat→Value) (i:Nat):Value:=
 if i=0 then lv else if i=1 then cv else if i%2=0 then .int .u32 (F (i / 2-1):Int) else S (i / 2-1)
def Z7t (lv cv:Value) (F:Nat→Nat) (S:Nat→Value):List Value:=(T01 34).map (W0f lv cv F S)
theorem Y20 (lv cv:Value) (F:Nat→Nat) (S:Nat→Value) (i:Nat) (h:i < 34):(Z7t lv cv F S)[i]?=some (W0f lv cv F S i):=by
 simp [Z7t,h]
theorem V5m (lv cv:Value) (F:Nat→Nat) (S:Nat→Value):(Z7t lv cv F S)[0]?=some lv:=rfl
theorem W9l (lv cv:Value) (F:Nat→Nat) (S:Nat→Value):(Z7t lv cv F S)[1]?=some cv:=rfl
theorem W6w (lv cv:Value) (F:Nat→Nat) (S:Nat→Value) (n:Nat) (h:n < 16):(Z7t lv cv F S)[2+n*2]?=some (.int .u32 (F n:Int)):=by
 rw [Y20 _ _ _ _ _ (by omega)]
 unfold W0f
 rw [if_neg (by omega),if_neg (by omega),if_pos (by omega),show (2+n*2) / 2-1=n by omega]
theorem W7z (lv cv:Value) (F:Nat→Nat) (S:Nat→Value) (n:Nat) (h:n < 16):(Z7t lv cv F S)[2+n*2+1]?=some (S n):=by
 rw [Y20 _ _ _ _ _ (by omega)]
 unfold W0f
 rw [if_neg (by omega),if_neg (by omega),if_neg (by omega),show (2+n*2+1) / 2-1=n by omega]
def upd {α:Type} (f:Nat→α) (n:Nat) (u:α) (k:Nat):α:=if k=n then u else f k
theorem Y21 {α:Type} (f:Nat→α) (n:Nat) (u:α):upd f n u n=u:=by simp [upd]
theorem X1m {α:Type} (f:Nat→α) {n k:Nat} (u:α) (h:k≠n):upd f n u k=f k:=by simp [upd,h]
theorem V0r (lv cv:Value) (F:Nat→Nat) (S:Nat→Value) (n x:Nat) (u:Value) (h:n < 16):
  ((Z7t lv cv F S).set (2+n*2) (.int .u32 (x:Int))).set (2+n*2+1) u=Z7t lv cv (upd F n x) (upd S n u):=by
 refine T03 fun i=> ?_
 have a:(Z7t lv cv F S).length=34:=by simp [Z7t]
 by_cases b:i < 34
 rotate_left
 ·rw [T02 (by simp [Z7t];omega),T02 (by simp [Z7t];omega)]
 rw [Y20 _ _ _ _ _ b,T04,T04,List.length_set,a,Y20 _ _ _ _ _ b]
 by_cases d:2+n*2+1=i
 ·subst d
  rw [if_pos rfl,if_pos b]
  unfold W0f
  rw [if_neg (by omega),if_neg (by omega),if_neg (by omega),show (2+n*2+1) / 2-1=n by omega,Y21]
 rw [if_neg d]
 by_cases f:2+n*2=i
 ·subst f
  rw [if_pos rfl,if_pos b]
  unfold W0f
  rw [if_neg (by omega),if_neg (by omega),if_pos (by omega),show (2+n*2) / 2-1=n by omega,Y21]
 rw [if_neg f]
 unfold W0f
 split
 ·rfl
 split
 ·rfl
 rw [X1m _ _ (by omega),X1m _ _ (by omega)]
theorem V1b {L:List Value} {i:Nat} {u:Value} (h:L[i]?=some u):L.set i u=L:=by
 refine T03 fun j=> ?_
 rw [T04]
 split
 ·subst_vars;rw [if_pos (List.getElem?_eq_some_iff.1 h).1,h]
 rfl
def Z7y (v:Value) (xs:List Nat):A6:=B0 3 1 v xs.length (D5 .i64 xs)
def Y10 (l:List Int) (k B:Nat) (lv cv:Value) (S:Nat→Value):A6:=
 Z0g [E8 B (Z7t lv cv (Z2h l k) S) 227,B0 3 1 lv l.length (D3 l),B0 44 1 cv l.length (D5 .u32 (G1 l)),Z0g ((T01 16).map fun n=>Z7y (S n) (grp l k n))]
def J7 (l:List Int) (B:Nat):A6:=exT fun p:Value×Value×(Nat→Value)=>Y10 l l.length B p.1 p.2.1 p.2.2
section
variable {w0 w:World} {Rs:List A6}
theorem unK {l:List Int} {k B:Nat} {lv cv:Value} {S:Nat→Value} (h:A4 w0 w (Y10 l k B lv cv S::Rs)):
  A4 w0 w (E8 B (Z7t lv cv (Z2h l k) S) 227::B0 3 1 lv l.length (D3 l)::B0 44 1 cv l.length (D5 .u32 (G1 l))::Z0g ((T01 16).map fun n=>Z7y (S n) (grp l k n))::Rs):=
 A4.unall h
theorem mkK {l:List Int} {k B:Nat} {lv cv:Value} {S:Nat→Value}
  (h:A4 w0 w (E8 B (Z7t lv cv (Z2h l k) S) 227::B0 3 1 lv l.length (D3 l)::B0 44 1 cv l.length (D5 .u32 (G1 l))::Z0g ((T01 16).map fun n=>Z7y (S n) (grp l k n))::Rs)):
  A4 w0 w (Y10 l k B lv cv S::Rs):=A4.all (L:=[_,_,_,_]) h
theorem W3j (v:Value) (n:Nat) (l:List Int) (h:A4 w0 w Rs) (hv:Rd w 1 v n (D3 l)) (hn:n≤1000):
  Calls Tryz.prog 157 #[v] w fun e w'=>∃v',e= .returned v'∧A4 w0 w' (B0 3 1 v' n (D3 l)::Rs):=by
 obtain ⟨i0,d,f,g,i⟩:=info_parts X4g
 have s:∀ (w:World) (a:Option Addr) (n c n' c':Nat),(binOp .eql 52 (.slice a n c) (.slice none n' c')).run Tryz.prog w= .ok (.bool a.isNone) w:=fun w a n c n' c'=>Lib.run_eql_slice_nil w _ _ a n c n' c' Tryz.underlying52
 obtain ⟨j,ao,k,rfl,m,o,b,p⟩:=hv
 cases ao with
 | none=>
  obtain rfl:=b rfl
  obtain rfl:n=0:=by omega
  have t:D3 l=[]:=T09 (by omega)
  rw [t]
  have x:=A5 (h.nil 3 1)
  clear h j b p
  go_enter Tryz.func157,Tryz.ntmps157
  go_wp2
  go_ret
  exact ⟨_,rfl,x.out⟩
 | some a=>
  have hv:Rd w 1 (.slice (some a) n k) n (D3 l):=⟨j,_,_,rfl,m,o,b,p⟩
  have y:=A5 (h.lit 3 1 [] 0 (by decide) rfl)
  have z:=A5 (hv.kept ((E5.refl w (fun _=>False)).alloc (.cells #[] 3)) (fun _ _ h=>h))
  clear h j b p hv
  go_enter Tryz.func157,Tryz.ntmps157
  go_wp2_with (refine D6 rfl (.tmp 5) (.tmp 6) 52 rfl 3 i0 (.int .i64 0) 1 8 Tryz.underlying52 d f g i rfl (by decide) _ 0 [] rfl y.out _ n (D3 l) rfl z.out (S6 l) n (by omega) (by unfold maxLen;omega) (by omega) ?_;intro a1 q w1 r;have H2:=A5 r;clear r)
  go_ret
  exact ⟨_,rfl,H2.out⟩
theorem V2m (B o m x c:Nat) (f:Nat) (cs:List Value) (T:TypeId) (v:Value) (xs:List Nat) (h:A4 w0 w (E8 B cs T::Z7y v xs::Rs)) (hf:cs[o]?=some (.int .u32 (f:Int))) (hv:cs[o+1]?=some v) (hm:xs.length=m) (hm2:m≤1000):
  Calls Tryz.prog 159 #[.pointer (some ⟨B,o,none⟩),.int .i64 (x:Int),.int .u32 (c:Int)] w fun e w'=>e= .returned (.tuple #[])∧∃v',
   A4 w0 w' (E8 B ((cs.set o (.int .u32 ((if m=0 then c else f:Nat):Int))).set (o+1) v') T::Z7y v' (xs++[x])::Rs):=by
 obtain ⟨i0,j,k,l,n⟩:=info_parts X4g
 unfold Z7y at h⊢
 rw [hm] at h
 obtain ⟨ao,a1,rfl,b4,b5⟩:=h.swap.own.form
 have b:D5 .i64 (xs++[x])=D5 .i64 xs++[.int .i64 (x:Int)]:=by simp [D5]
 rw [List.length_append,hm,List.length_singleton,b]
 have a5:=h.obj.cell hf
 have a6:=h.obj.cell hv
 have a7:=h.obj.frozen o
 have p:=A5 h
 have q:=A5 hf
 have HV:=A5 hv
 have a8:(0:Int)≤(m:Int):=T00 _
 clear h hf hv b hm
 by_cases z:m=0
 ·have hI:((m:Int)==0)=true:=by simp;omega
  have r:=A5 (p.out.setObj o (.int .u32 (c:Int)))
  have HE:Hid ((cs.set o (.int .u32 (c:Int)))[o+1]?=some (.slice ao m a1)):=by unfold Hid;rw [List.getElem?_set_ne (by omega)];exact HV.out
  have b0:=r.out.obj.cell (i:=o+1) HE.out
  have b1:=r.out.obj.frozen (o+1)
  rw [if_pos z]
  clear p q z
  go_enter Tryz.func159,Tryz.ntmps159
  go_wp2_with ((with_reducible show wpList _ _ _ (⟨some 23,_,_,_,_,_⟩::_) _ _);have d:=A5 ((r.out.swap).litN 3 1 [.int .i64 (x:Int)] 1 (by decide) rfl w.heap.size (by simp [World.setCell])).swap;refine D6 rfl (.tmp 20) (.tmp 22) 52 rfl 3 i0 (.int .i64 0) 1 8 Tryz.underlying52 j k l n rfl (by decide) _ m (D5 .i64 xs) rfl d.out _ 1 [.int .i64 (x:Int)] rfl d.out.swap.own.rd (by simp [Value.oneCell']) (m+1) rfl (by unfold maxLen;omega) (by omega) ?_;intro a0 g w1 a;have s:=a.third.obj.frozen (o+1);have t:=a.third.obj.cell (i:=o+1) HE.out;have y:=A5 a;clear a)
  go_end0
  exact ⟨rfl,_,(y.out.swap.drop.swap).setObj (o+1) _⟩
 have hI:((m:Int)==0)=false:=by simp;omega
 rw [if_neg z,V1b q.out]
 clear q
 go_enter Tryz.func159,Tryz.ntmps159
 go_wp2_with ((with_reducible show wpList _ _ _ (⟨some 23,_,_,_,_,_⟩::_) _ _);have d:=A5 ((p.out.swap).litN 3 1 [.int .i64 (x:Int)] 1 (by decide) rfl w.heap.size rfl).swap;refine D6 rfl (.tmp 20) (.tmp 22) 52 rfl 3 i0 (.int .i64 0) 1 8 Tryz.underlying52 j k l n rfl (by decide) _ m (D5 .i64 xs) rfl d.out _ 1 [.int .i64 (x:Int)] rfl d.out.swap.own.rd (by simp [Value.oneCell']) (m+1) rfl (by unfold maxLen;omega) (by omega) ?_;intro a0 g w1 a;have s:=a.third.obj.frozen (o+1);have t:=a.third.obj.cell (i:=o+1) HV.out;have y:=A5 a;clear a)
 go_end0
 exact ⟨rfl,_,(y.out.swap.drop.swap).setObj (o+1) _⟩
end
def Y4w (l:List Int):Prop:=(∀a∈l,0≤a∧a≤15)∧l.length≤288∧(F4 l=0∨F4 l=32768∨F4 l=16384∧l.count 1=1)
theorem Z2v {l:List Int} {m:Int} (h:D0 l m=0):Y4w l:=by
 unfold D0 at h
 split at h
 ·cases h
 rename_i d
 split at h
 ·rename_i f
  simp only [U4,Bool.or_eq_true,decide_eq_true_eq,Bool.not_eq_true',not_or,Bool.not_eq_false] at d
  have b:=(Z1p l m).1 d.2
  exact ⟨fun a ha=>⟨(b a ha).1,by have:=(b a ha).2;omega⟩,by omega,f⟩
 cases h
section
variable {w0 w:World} {Rs:List A6}
end
section
variable {w0 w:World} {Rs:List A6}
theorem A4.allNil {e:TypeId} (h:A4 w0 w Rs):∀L:List Nat,A4 w0 w (Z0g (L.map fun _=>B0 e 1 (.slice none 0 0) 0 [])::Rs)
 | []=>h.noT
 | _::L=>((A4.allNil h L).nil e 1).pair
def V77 (lv cv:Value):List Value:=[lv,cv,.int .u32 0,.slice none 0 0,.int .u32 0,.slice none 0 0,.int .u32 0,.slice none 0 0,.int .u32 0,.slice none 0 0,.int .u32 0,.slice none 0 0,.int .u32 0,.slice none 0 0,.int .u32 0,.slice none 0 0,.int .u32 0,.slice none 0 0,.int .u32 0,.slice none 0 0,.int .u32 0,.slice none 0 0,.int .u32 0,.slice none 0 0,.int .u32 0,.slice none 0 0,.int .u32 0,.slice none 0 0,.int .u32 0,.slice none 0 0,.int .u32 0,.slice none 0 0,.int .u32 0,.slice none 0 0]
theorem V4d {l:List Int} {B:Nat} {lv cv:Value} (h:A4 w0 w (E8 B (V77 lv cv) 227::B0 3 1 lv l.length (D3 l)::B0 44 1 cv l.length (D5 .u32 (G1 l))::Rs)):
  A4 w0 w (Y10 l 0 B lv cv (fun _=> .slice none 0 0)::Rs):=by
 have b:=A4.allNil (e:=3) h (T01 16)
 have d:=b.perm (T0a (l₁:=[_,_,_]) (a:=Z0g ((T01 16).map fun _=>B0 3 1 (.slice none 0 0) 0 [])) (l₂:=Rs)).symm
 refine mkK ?_
 have f:Z2h l 0=fun _=>0:=funext fun n=>W4n l n
 have g:(fun n:Nat=>Z7y (.slice none 0 0) (grp l 0 n))=fun _=>B0 3 1 (.slice none 0 0) 0 []:=funext fun n=>by rw [Z85];rfl
 rw [f,g]
 exact d
theorem W6s {l:List Int} {k B z:Nat} {lv cv:Value} {S:Nat→Value} (h:A4 w0 w (Y10 l k B lv cv S::Rs)) (hz:z < 16):
  A4 w0 w (E8 B (Z7t lv cv (Z2h l k) S) 227::Z7y (S z) (grp l k z)::Z0g (((T01 16).map fun n=>Z7y (S n) (grp l k n)).eraseIdx z)::B0 3 1 lv l.length (D3 l)::B0 44 1 cv l.length (D5 .u32 (G1 l))::Rs):=
 ((unK h).fourth.allOut (i:=z) (R:=Z7y (S z) (grp l k z)) (by simp [hz])).third
theorem V5s {l:List Int} {i B z:Nat} {lv cv v':Value} {S:Nat→Value} (hi:l[i]?=some (z:Int)) (hz:1≤z) (hz2:z≤15)
  (h:A4 w0 w (E8 B (((Z7t lv cv (Z2h l i) S).set (2+z*2) (.int .u32 ((if (grp l i z).length=0 then G0 l i else Z2h l i z:Nat):Int))).set (2+z*2+1) v') 227::Z7y v' (grp l i z++[i])::
   Z0g (((T01 16).map fun n=>Z7y (S n) (grp l i n)).eraseIdx z)::B0 3 1 lv l.length (D3 l)::B0 44 1 cv l.length (D5 .u32 (G1 l))::Rs)):
  A4 w0 w (Y10 l (i+1) B lv cv (upd S z v')::Rs):=by
 have a:=(h.swap.third.swap).allBack (by simp;omega)
 rw [V0r _ _ _ _ _ _ _ (by omega)] at a
 have f:upd (Z2h l i) z (if (grp l i z).length=0 then G0 l i else Z2h l i z)=Z2h l (i+1):=funext fun n=>by
  by_cases e:n=z
  ·subst e;rw [Y21,V3o l i n hi hz hz2]
  rw [X1m _ _ e,W9w l i z n hi e]
 have g:((T01 16).map fun n=>Z7y (S n) (grp l i n)).set z (Z7y v' (grp l i z++[i]))=(T01 16).map fun n=>Z7y (upd S z v' n) (grp l (i+1) n):=by
  refine T03 fun n=> ?_
  rw [T04]
  by_cases b:n < 16
  ·by_cases e:z=n
   ·subst e
    rw [if_pos rfl,if_pos (by simp;omega)]
    simp [b,Y21,Y7h l i z hi hz]
   rw [if_neg e]
   have d:n≠z:=fun h=>e h.symm
   simp [b,X1m _ _ d,X3m l i z n hi d]
  rw [if_neg (by omega)]
  simp [b]
 rw [f,g] at a
 exact mkK (a.perm (T0a (l₁:=[_,_,_])).symm)
theorem V5k {l:List Int} {i B:Nat} {lv cv:Value} {S:Nat→Value} (hi:l[i]?=some 0) (h:A4 w0 w (Y10 l i B lv cv S::Rs)):A4 w0 w (Y10 l (i+1) B lv cv S::Rs):=by
 have a:Z2h l (i+1)=Z2h l i:=funext fun n=>W3x l i n hi
 have b:(fun n:Nat=>Z7y (S n) (grp l (i+1) n))=fun n=>Z7y (S n) (grp l i n):=funext fun n=>by rw [X5y l i n hi]
 unfold Y10 at h⊢
 rw [a,b];exact h
theorem Y95 (l:List Int) (i:Nat) (h:i < l.length):(D5 .u32 (G1 l))[i]?=some (.int .u32 (G0 l i:Int)):=by
 rw [O8];simp [G1,h]
end
theorem Z3v (v:Value) (n:Nat) (l:List Int) (most:Int) (w:World) (hv:Rd w 1 v n (D3 l)) (hn:n≤1000):
  Calls Tryz.prog 128 #[v,.int .i64 most] w fun e w'=>
   (D0 l most≠0∧e= .returned (.tuple #[.pointer none,.int .i64 ((D0 l most:Nat):Int)])∧A4 w w' [])∨
   (D0 l most=0∧∃B,e= .returned (.tuple #[.pointer (some ⟨B,0,none⟩),.int .i64 0])∧A4 w w' [J7 l B]):=by
 have r:n=l.length:=by have:=hv.1;simpa [D3] using this.symm
 have HV:=A5 hv
 have HC:=A5 (W5f v l most w (by rw [←r];exact hv) (by omega))
 have s:=A5 (fun h:D0 l most=0=>Z2v h)
 by_cases hc:D0 l most=0
 rotate_left
 ·generalize D0 l most=cv at HC hc⊢
  have hI:((cv:Int) != 0)=true:=by simp;omega
  clear s hv
  have c1:=A5 hc
  clear hc
  go_enter Tryz.func128,Tryz.ntmps128
  go_wp2_with fail
  refine HC.out.mono ?_
  rintro e w1 ⟨rfl,hm⟩
  have HM:=A5 ((A4.start w).same hm)
  clear hm HC
  go_wp2
  go_ret2
  exact .inl ⟨c1.out,rfl,HM.out⟩
 obtain ⟨hl,c5,_⟩:=s.out hc
 rw [hc] at HC
 have b4:=A5 hc
 clear hc
 clear hv s
 have q:=A5 r
 have HL:=A5 hl
 clear hl r
 go_enter Tryz.func128,Tryz.ntmps128
 go_wp2_with fail
 refine HC.out.mono ?_
 rintro e w1 ⟨rfl,p⟩
 have e2:=A5 p
 have t:=A5 (HV.out.kept p (fun _ _ h=>h))
 have H1:=A5 ((A4.start w).same p)
 clear p HC HV
 go_wp2_with fail
 refine (W3j v n l (A4.start w1) t.out hn).mono ?_
 rintro e w2 ⟨lv,rfl,h2⟩
 obtain ⟨lo,j,rfl,f1,_⟩:=h2.own.form
 have a8:=A5 (t.out.kept h2.mod (fun _ _ h=>h))
 have H2:=A5 (H1.out.frame h2)
 clear h2 t H1
 go_wp2_with fail
 have y:=A5 (W34 v l w2 (by rw [←q.out];exact a8.out) c5)
 rw [←q.out] at y
 refine y.out.mono ?_
 rintro e w3 ⟨cv,rfl,a5,b1,b2⟩
 obtain ⟨co,m,rfl,f2,_⟩:=a5.form
 have H3:=A5 (H2.out.pushOwn a5 b2 b1)
 clear a5 b1 b2 H2 a8 y
 have HK:Hid (A4 w (w3.alloc (.cells (V77 (.slice lo n j) (.slice co n m)).toArray 227)) [Y10 l 0 w3.heap.size (.slice lo n j) (.slice co n m) (fun _=> .slice none 0 0)]):=by
  unfold Hid
  have h:=H3.out.swap
  rw [q.out] at h⊢
  exact V4d (h.newObj _ _)
 clear H3
 have e3:(0:Int)≤(n:Int):=T00 _
 go_wp2
 obtain ⟨B,hB⟩:∃B,B=w3.heap.size:=⟨_,rfl⟩
 rw [←hB] at HK⊢
 clear hB
 go_loopg [27] (n+1) (fun k t27 wr=>∃ (i:Nat) (S:Nat→Value),i≤n∧n-i < k∧t27= .int .i64 (i:Int)∧Hid (A4 w wr [Y10 l i B (.slice lo n j) (.slice co n m) S]))
 case atStart=>exact ⟨0,_,by omega,by omega,rfl,HK⟩
 case round=>
  obtain ⟨i,S,hi,hk,rfl,HH⟩:=hrel
  clear HK
  by_cases e9:i < n
  rotate_left
  ·have b7:¬(i:Int) < (n:Int):=by omega
   have HR:Hid (A4 w wr [J7 l B]):=by
    unfold Hid
    have h:=HH.out
    rw [show i=l.length by have:=q.out;omega] at h
    exact A4.mk (_,_,S) h
   go_wp2
   go_ret2
   exact .inr ⟨b4.out,B,rfl,HR.out⟩
  obtain ⟨a,f⟩:∃a,l[i]?=some a:=⟨l[i]'(by have:=q.out;omega),T05 _⟩
  have ha:=HL.out a (T06 f)
  obtain ⟨z,rfl⟩:=Int.eq_ofNat_of_zero_le ha.1
  have e4:(0:Int)≤(i:Int):=T00 _
  have b7:(i:Int) < (n:Int):=by omega
  have a0:=(unK HH.out).swap.own
  rw [←q.out] at a0
  obtain ⟨g,f3,rfl,o,_,_⟩:=a0.site (by omega)
  have b8:=o i _ (by rw [G5,f];rfl)
  clear o a0
  by_cases hz:z=0
  ·subst hz
   have HR:=A5 (V5k f HH.out)
   clear f ha HH
   go_wp2
   go_roundg (gk-1)
   case measure=>omega
   case rel=>exact ⟨i+1,S,by omega,by omega,by go_num,HR⟩
  have e5:(0:Int) < (z:Int):=by omega
  have d3:(z:Int) < 16:=by omega
  have b:z < 16:=by omega
  have a1:=W6s HH.out b
  have a2:=(unK HH.out).third.own
  rw [←q.out] at a2
  obtain ⟨g2,e0,rfl,d,_,_⟩:=a2.site (by omega)
  have b0:=d i _ (Y95 l i (by have:=q.out;omega))
  have b9:=a1.obj.cell (i:=1) (W9l _ _ _ _)
  have c0:=A5 f
  have HZ:=A5 hz
  have a3:=A5 a1.drew
  obtain ⟨x,hx⟩:∃x,x=G0 l i:=⟨_,rfl⟩
  rw [←hx] at b0
  have HX:=A5 hx
  clear d a2 a1 hz hx f ha HH
  go_wp2
  go_still_tail 13,(by kernel_rfl)
  change wpList _ _ _ _ _ wr.drew
  clear b8 b0 b9
  generalize wr.drew=w5 at a3⊢
  have HA:=A5 (V2m B (2+z*2) (grp l i z).length i x (Z2h l i z) _ _ _ _ a3.out (W6w _ _ _ _ _ b) (W7z _ _ _ _ _ b) rfl (by have:=W9g l i z;omega))
  go_wp2_with fail
  refine HA.out.mono ?_
  rintro e w6 ⟨rfl,v',h6⟩
  rw [HX.out] at h6
  have HR:=A5 (V5s c0.out (by have:=HZ.out;omega) (by omega) h6)
  clear h6 HA a3
  go_wp2
  go_roundg (gk-1)
  case measure=>omega
  case rel=>exact ⟨i+1,_,by omega,by omega,by go_num,HR⟩
theorem Y3v (c n:Nat) (hn:n≤32):A9 n (Z4j c n)=W7 n c:=by
 refine T03 fun k=> ?_
 by_cases a:k < n
 ·rw [Z9u _ _ _ a]
  have h:=W90 c n (n-1-k) hn (by omega)
  rw [show n-1- (n-1-k)=k by omega] at h
  simp [W7,a,h]
 rw [T02 (by rw [B5];omega),T02 (by rw [T9];omega)]
theorem Y8s (c n:Nat) (hn:n≤32):A9 n c=W7 n (Z4j c n):=by
 rw [←Y3v _ _ hn,X9d _ _ hn,Z0r]
section
variable {w0 w:World} {Rs:List A6}
theorem V6z (x n:Nat) (hx:x < 32768) (hn:n≤15):hiN ((W7 15 x).take n)=x / 2^(15-n):=by
 rw [Z9e 15 x n hn,Nat.mod_eq_of_lt]
 rw [Nat.div_lt_iff_lt_mul (Nat.pow_pos (by decide)),←Nat.pow_add,show n+(15-n)=15 by omega]
 exact hx
theorem X0j (l:List Int) (B x:Nat) (h:A4 w0 w (J7 l B::Rs)) (hF:Y4w l) (hx:x < 32768):
  Calls Tryz.prog 174 #[.pointer (some ⟨B,0,none⟩),.int .u32 (x:Int)] w fun e w'=>∃k n:Nat,e= .returned (.tuple #[.int .i64 (k:Int),.int .i64 (n:Int)])∧
   A4 w0 w' (J7 l B::Rs)∧Hid (Hit l (W7 15 x) k n∨k=0∧n=0∧∀i m,¬Hit l (W7 15 x) i m):=by
 obtain ⟨⟨lv,cv,S⟩,a⟩:=h.ex
 have H1:Hid (A4 w0 w (Y10 l l.length B lv cv S::Rs)):=a
 have HL:=A5 hF
 clear h a hF
 obtain ⟨j,a2⟩:∃j,j=W7 15 x:=⟨_,rfl⟩
 rw [←a2]
 have HY:Hid (∀n,n≤15→hiN (j.take n)=x / 2^(15-n)):=by rw [a2];exact fun n hn=>V6z x n hx hn
 have HB:Hid (j.length=15):=by unfold Hid;rw [a2];exact T9 15 x
 clear a2
 go_enter Tryz.func174,Tryz.ntmps174
 go_wp2
 go_loopg [5] 17 (fun k t5 wr=>∃n:Nat,1≤n∧n≤16∧16-n < k∧t5= .int .i64 (n:Int)∧Hid (A4 w0 wr (Y10 l l.length B lv cv S::Rs))∧Hid (X4k l j n∧(n≤15→Z8 l n≤hiN (j.take n))))
 case atStart=>exact ⟨1,by omega,by omega,by omega,rfl,H1,X4k.one l j,fun _=>Nat.zero_le _⟩
 case round=>
  obtain ⟨n,a3,f0,hk,rfl,HH,HP⟩:=hrel
  clear H1
  by_cases hn:n≤15
  rotate_left
  ·have c2:n=16:=by omega
   subst c2
   have HN:Hid (∀i m,¬Hit l j i m):=fun i m hh=>by
    have a:=HP.out.1 i m hh
    have h2:=hh.2.2.1
    have:=HB.out
    omega
   have a9:=A5 HH.out
   clear HH HP
   go_wp2
   go_ret2
   exact ⟨0,0,rfl,A4.mk (_,_,S) a9.out,.inr ⟨rfl,rfl,HN.out⟩⟩
  obtain ⟨m,hm⟩:∃m,m=(grp l l.length n).length:=⟨_,rfl⟩
  obtain ⟨f,hf⟩:∃f,f=Z2h l l.length n:=⟨_,rfl⟩
  obtain ⟨y,hy⟩:∃y,y=x / 2^(15-n):=⟨_,rfl⟩
  have o:n < 16:=by omega
  have z:=W6s HH.out o
  have b6:=z.obj.cell (W6w _ _ _ _ n o)
  have b7:=z.obj.cell (W7z _ _ _ _ n o)
  have p:=z.swap.own
  rw [←hm] at p
  obtain ⟨so,d3,hS,_,_⟩:=p.form
  rw [hS] at b7 p
  rw [←hf] at b6
  have d6:f≤y:=by
   have a:=HP.out.2 hn
   rw [HY.out n hn,←hy] at a
   rw [hf];unfold Z2h;split
   ·exact Nat.zero_le _
   exact a
  have d7:y < 32768:=by rw [hy];exact Nat.lt_of_le_of_lt (Nat.div_le_self _ _) hx
  obtain ⟨r,hr⟩:∃r,r=15-n:=⟨_,rfl⟩
  have d8:(15:Int)- (n:Int)=(r:Int):=by omega
  have c7:(x:Int) / 2^r=(y:Int):=by rw [hy,←hr,Y8];exact (Int.natCast_ediv _ _).symm
  obtain ⟨d,hd⟩:∃d,d=y-f:=⟨_,rfl⟩
  have d9:(y:Int)- (f:Int)=(d:Int):=by omega
  have b8:m≤288:=by rw [hm];have a:=W9g l l.length n;have:=HL.out.2.1;omega
  have e0:(0:Int)≤(n:Int):=T00 _
  have c8:(n:Int) < 16:=by omega
  have c9:r≤14:=by omega
  have e1:(0:Int)≤(m:Int):=T00 _
  have a0:=A5 hm
  have a6:=A5 hf
  have a7:=A5 hy
  have a8:=A5 hd
  have e2:=A5 hr
  have e3:=A5 hS
  clear hm hf hy hd hS z hr
  by_cases e8:d < m
  ·have b9:decide ((d:Int) < (m:Int))=true:=by simp;omega
   obtain ⟨g,f1,rfl,t,_,_⟩:=p.site (by omega)
   obtain ⟨i,hi⟩:∃i,(grp l l.length n)[d]?=some i:=⟨(grp l l.length n)[d]'(by have:=a0.out;omega),T05 _⟩
   have e4:=t d _ (by rw [O8,hi];rfl)
   have HI:=A5 hi
   clear hi t p
   have e6:(0:Int)≤(d:Int):=T00 _
   have d0:(d:Int) < (m:Int):=by omega
   go_wp2
   go_quiet (fail)
   go_wp2
   go_ret2
   have q:=W8u l n d i a3 hn HI.out
   have a4:grp l l.length n≠[]:=fun e=>by have a:=a0.out;rw [e] at a;simp at a;omega
   have c0:f=Z8 l n:=by rw [a6.out];unfold Z2h;rw [if_neg a4]
   exact ⟨i,n,rfl,A4.mk (_,_,S) (HH.out.drewN _),.inl (V5g a3 (by have:=HB.out;omega) q.1 (by rw [HY.out n hn,←a7.out,q.2];have:=a8.out;omega))⟩
  have b9:decide ((d:Int) < (m:Int))=false:=by simp;omega
  go_wp2
  go_quiet (fail)
  go_wp2
  have s:Z8 l n+l.count (n:Int)≤hiN (j.take n):=by
   have a:=HP.out.2 hn
   rw [HY.out n hn,←a7.out] at a⊢
   rw [←V31 l n a3,←a0.out]
   by_cases e9:m=0
   ·omega
   have a4:grp l l.length n≠[]:=fun e=>by have a:=a0.out;rw [e] at a;simp at a;omega
   have c0:f=Z8 l n:=by rw [a6.out];unfold Z2h;rw [if_neg a4]
   have:=a8.out
   omega
  have c1:Hid (X4k l j (n+1)∧(n+1≤15→Z8 l (n+1)≤hiN (j.take (n+1)))):=by
   refine ⟨HP.out.1.next hn s,fun h15=> ?_⟩
   exact W4j a3 s (b:=j[n]'(by have:=HB.out;omega)) (T05 _)
  have a9:=A5 (HH.out.drewN 4)
  clear s
  go_roundg (gk-1)
  case measure=>omega
  case rel=>exact ⟨n+1,by omega,by omega,by omega,by go_num,HH.out.drewN _,c1⟩
end
theorem Y1d {l:List Int} {bs cs:List Nat} {L i q:Nat} (ht:cs.take L=bs.take L) (hq:q≤L) (h1:L≤bs.length) (h:Hit l cs i q):Hit l bs i q:=by
 refine ⟨h.1,h.2.1,by omega, ?_⟩
 have a:=h.2.2.2
 have e:cs.take q=bs.take q:=by
  have:=congrArg (List.take q) ht
  rwa [List.take_take,List.take_take,Nat.min_eq_left hq] at this
 rw [e] at a;exact a
theorem X8h (bs:List Nat) (hb:isBits bs) (L:Nat) (hL:L≤bs.length) (h15:L≤15):(W7 15 (Z4j (E4 (bs.take L)) 15)).take L=bs.take L:=by
 rw [←Y8s _ 15 (by decide)]
 have b:(bs.take L).length=L:=by rw [T07];omega
 have h:=Y0y (bs.take L) (Z0t hb L)
 rw [b] at h
 refine Eq.trans ?_ h
 refine T03 fun k=> ?_
 by_cases a:k < L
 ·rw [List.getElem?_take_of_lt a,Z9u _ _ _ (by omega),Z9u _ _ _ a]
 rw [T02 (by rw [T07];omega),T02 (by rw [B5];omega)]
theorem X74 {l:List Int} {bs cs:List Nat} {L k n:Nat} (hl:∀a∈l,0≤a∧a≤15) (hc:isBits cs) (h15:cs.length=15) (ht:cs.take L=bs.take L) (hL:L=min bs.length 15) (hh:Hit l cs k n) (hn:L < n):O9 l bs 0 0 5:=by
 have b:=hh.long
 have d:=hh.2.2.1
 refine .inr ⟨rfl,rfl,fun i m h=> ?_, ?_⟩
 ·have j:m≤15:=by have:=hl _ (T06 h.1);omega
  have f:=h.2.2.1
  have g:=Y1d (bs:=cs) ht.symm (by omega) (by omega) h
  have:=(Hit.one hc hl hh g).2
  omega
 rw [if_pos (.inl (by omega))]
theorem X17 {l:List Int} {bs cs:List Nat} {L:Nat} (hF:Y4w l) (hc:isBits cs) (h15:cs.length=15) (ht:cs.take L=bs.take L) (hL:L=min bs.length 15) (h0:0 < L) (hh:∀i m,¬Hit l cs i m):O9 l bs 0 0 3:=by
 have b:lng l≤15:=V3i l 15 fun a ha=>by have:=hF.1 a ha;omega
 refine .inr ⟨rfl,rfl,fun i m h=> ?_, ?_⟩
 ·have g:m≤15:=by have:=hF.1 _ (T06 h.1);omega
  have d:=h.2.2.1
  exact hh i m (Y1d (bs:=cs) ht.symm (by omega) (by omega) h)
 rw [if_neg]
 rintro (h | h)
 ·rcases hF.2.2 with h2 | h2 | h2
  ·have:=Y9s l hF.1 (.inl h2);omega
  ·obtain ⟨i,m,f⟩:=Hit.whole hF.1 h2 hc (by omega)
   exact hh i m f
  have:=Y9s l hF.1 (.inr h2);omega
 subst h;simp at hL;omega
section
variable {w0 w:World} {Rs:List A6}
theorem W4s {P:C4} {R:List Nat→A6} (LR:Z5a P R) (l:List Int) (B:Nat) (bs:List Nat) (h:A4 w0 w (R bs::J7 l B::Rs)) (hF:Y4w l) (hb:isBits bs) (hlen:bs.length < 1000000000):
  Calls Tryz.prog 146 #[.pointer (some ⟨B,0,none⟩),.pointer (some ⟨P.b,P.o,none⟩)] w fun e w'=>
   ∃k q er:Nat,e= .returned (.tuple #[.int .i64 (k:Int),.int .i64 (er:Int)])∧A4 w0 w' (R (bs.drop q)::J7 l B::Rs)∧Hid (O9 l bs k q er):=by
 have HL:=A5 (W6k LR h (by omega))
 obtain ⟨L,hL⟩:∃L,L=min bs.length 15:=⟨_,rfl⟩
 obtain ⟨N,hN⟩:∃N,N=bs.length:=⟨_,rfl⟩
 rw [←hN] at HL
 have HB:=A5 hb
 have HF:=A5 hF
 have y:=A5 hN
 have f:=A5 hL
 obtain ⟨cs,i⟩:∃cs,cs=W7 15 (Z4j (E4 (bs.take L)) 15):=⟨_,rfl⟩
 have HT:Hid (cs.take L=bs.take L):=by rw [i];exact X8h bs hb L (by omega) (by omega)
 have HC:Hid (isBits cs):=by rw [i];exact Z57 _ _
 have s:Hid (cs.length=15):=by rw [i];exact T9 _ _
 obtain ⟨a,ha⟩:∃a,a=E4 (bs.take L):=⟨_,rfl⟩
 have t:a < 4294967296:=by
  rw [ha]
  have h1:=Z88 (bs.take L) (Z0t hb L)
  have h2:2^(bs.take L).length≤2^15:=Nat.pow_le_pow_right (by decide) (by rw [T07];omega)
  exact T08 h1 (Nat.le_trans h2 (by decide))
 rw [←ha] at i
 obtain ⟨x,hx⟩:∃x,x=Z4j a 15:=⟨_,rfl⟩
 have a4:x < 32768:=by rw [hx];exact X3i _ _ (by decide)
 rw [←hx] at i
 have HX:=A5 hx
 have HA:=A5 ha
 have a5:=A5 i
 have d0:(0:Int)≤(N:Int):=T00 _
 have c4:L≤15:=by omega
 have d1:L≤N:=by omega
 have z:N≤15∧L=N∨15 < N∧L=15:=by omega
 have d2:N < 1000000000:=by omega
 clear h hL hN hb hF i hx ha hlen
 rcases z with ⟨hNc,hNL⟩ | ⟨hNc,hNL⟩
 ·obtain rfl:N=L:=hNL.symm
  have b4:(N:Int)≤15:=by omega
  go_enter Tryz.func146,Tryz.ntmps146
  go_wp2_with fail
  refine HL.out.mono ?_
  rintro e w1 ⟨rfl,d⟩
  have H1:=A5 d
  clear d
  go_wp2_with fail
  refine (V25 LR H1.out N (by omega) (by have:=y.out;omega) (by have:=y.out;omega)).mono ?_
  rw [←HA.out]
  rintro e w2 ⟨rfl,d⟩
  have H2:=A5 d
  clear d H1
  go_wp2_with fail
  refine (Z8a a 15 w2 t (by decide)).mono ?_
  rw [←HX.out]
  rintro e w3 ⟨rfl,rfl⟩
  go_wp2_with fail
  refine (X0j l B x H2.out.swap HF.out a4).mono ?_
  rw [←a5.out]
  rintro e w4 ⟨k,n,rfl,d,HR⟩
  have r:=A5 d.swap
  clear d H2
  have b5:(0:Int)≤(k:Int):=T00 _
  have b6:(0:Int)≤(n:Int):=T00 _
  by_cases h0:N=0
  ·have b7:((N:Int)==0)=true:=by simp;omega
   have HE:Hid (bs=[]):=T09 (by have:=y.out;omega)
   clear h0
   go_wp2
   go_ret2
   refine ⟨0,0,5,rfl,r.out, ?_⟩
   rw [HE.out];exact X9k l
  have b7:((N:Int)==0)=false:=by simp;omega
  have a0:Hid (0 < N):=by unfold Hid;omega
  clear h0
  have g:N < n∨n=0∨1≤n∧n≤N:=by omega
  rcases g with g | g | ⟨g,h4⟩
  ·have j:decide (((N:Nat):Int) < (n:Int))=true:=by simp;omega
   have m:((N:Nat):Int) < (n:Int):=by omega
   have p:Hid (O9 l bs 0 0 5):=by
    rcases HR.out with h | ⟨_,h,_⟩
    ·exact X74 HF.out.1 HC.out s.out HT.out f.out h g
    omega
   clear g
   go_wp2
   go_ret2
   exact ⟨0,0,5,rfl,r.out,p⟩
  ·subst g
   have p:Hid (O9 l bs 0 0 3):=by
    rcases HR.out with h | ⟨_,_,h⟩
    ·exact absurd h.2.1 (by decide)
    exact X17 HF.out HC.out s.out HT.out f.out a0.out h
   have j:decide (((N:Nat):Int) < 0)=false:=by simp
   have m:¬((N:Nat):Int) < 0:=by omega
   go_wp2
   go_ret2
   exact ⟨0,0,3,rfl,r.out,p⟩
  have j:decide (((N:Nat):Int) < (n:Int))=false:=by simp;omega
  have m:¬((N:Nat):Int) < (n:Int):=by omega
  have b8:((n:Int)==0)=false:=by simp;omega
  have p:Hid (O9 l bs k n 0):=by
   rcases HR.out with h | ⟨_,h,_⟩
   ·exact X5x (Y1d HT.out h4 (by have:=f.out;omega) h)
   omega
  have HG:=A5 (W9t LR r.out n (by omega) (by have:=f.out;omega) (by have:=y.out;omega))
  clear g h4
  go_wp2_with fail
  refine HG.out.mono ?_
  rintro e w5 ⟨rfl,d⟩
  have H5:=A5 d
  clear d r HG
  go_wp2
  go_ret2
  exact ⟨k,n,0,rfl,H5.out,p⟩
 subst hNL
 have b4:¬(N:Int)≤15:=by omega
 have c5:(15:Int) < (N:Int):=by omega
 go_enter Tryz.func146,Tryz.ntmps146
 go_wp2_with fail
 refine HL.out.mono ?_
 rintro e w1 ⟨rfl,d⟩
 have H1:=A5 d
 clear d
 go_wp2_with fail
 refine (V25 LR H1.out 15 (by omega) (by have:=y.out;omega) (by have:=y.out;omega)).mono ?_
 rw [←HA.out]
 rintro e w2 ⟨rfl,d⟩
 have H2:=A5 d
 clear d H1
 go_wp2_with fail
 refine (Z8a a 15 w2 t (by decide)).mono ?_
 rw [←HX.out]
 rintro e w3 ⟨rfl,rfl⟩
 go_wp2_with fail
 refine (X0j l B x H2.out.swap HF.out a4).mono ?_
 rw [←a5.out]
 rintro e w4 ⟨k,n,rfl,d,HR⟩
 have r:=A5 d.swap
 clear d H2
 have b5:(0:Int)≤(k:Int):=T00 _
 have b6:(0:Int)≤(n:Int):=T00 _
 have a0:Hid (0 < 15):=by unfold Hid;omega
 have g:15 < n∨n=0∨1≤n∧n≤15:=by omega
 rcases g with g | g | ⟨g,h4⟩
 ·have j:decide (((15:Nat):Int) < (n:Int))=true:=by simp;omega
  have m:((15:Nat):Int) < (n:Int):=by omega
  have p:Hid (O9 l bs 0 0 5):=by
   rcases HR.out with h | ⟨_,h,_⟩
   ·exact X74 HF.out.1 HC.out s.out HT.out f.out h g
   omega
  clear g
  go_wp2
  go_ret2
  exact ⟨0,0,5,rfl,r.out,p⟩
 ·subst g
  have p:Hid (O9 l bs 0 0 3):=by
   rcases HR.out with h | ⟨_,_,h⟩
   ·exact absurd h.2.1 (by decide)
   exact X17 HF.out HC.out s.out HT.out f.out a0.out h
  have j:decide (((15:Nat):Int) < 0)=false:=by simp
  have m:¬((15:Nat):Int) < 0:=by omega
  go_wp2
  go_ret2
  exact ⟨0,0,3,rfl,r.out,p⟩
 have j:decide (((15:Nat):Int) < (n:Int))=false:=by simp;omega
 have m:¬((15:Nat):Int) < (n:Int):=by omega
 have b8:((n:Int)==0)=false:=by simp;omega
 have p:Hid (O9 l bs k n 0):=by
  rcases HR.out with h | ⟨_,h,_⟩
  ·exact X5x (Y1d HT.out h4 (by have:=f.out;omega) h)
  omega
 have HG:=A5 (W9t LR r.out n (by omega) (by have:=f.out;omega) (by have:=y.out;omega))
 clear g h4
 go_wp2_with fail
 refine HG.out.mono ?_
 rintro e w5 ⟨rfl,d⟩
 have H5:=A5 d
 clear d r HG
 go_wp2
 go_ret2
 exact ⟨k,n,0,rfl,H5.out,p⟩
end
end Go.Proofs.YtbkbkmgogbgofaaGreatDoor
