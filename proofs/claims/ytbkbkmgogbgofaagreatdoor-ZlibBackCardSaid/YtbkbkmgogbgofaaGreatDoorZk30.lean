/- The claim's texts, put together and shortened by a program (names, spaces). -/
import Derived.Test.YtbkbkmgogbgofaaGreatDoorZk29
import Derived.Test.YtbkbkmgogbgofaaGreatDoorZk23
import Derived.Test.YtbkbkmgogbgofaaGreatDoorZk02
import Derived.Test.YtbkbkmgogbgofaaGreatDoorProg
import Derived.Sort.LoopGhostIn
import Derived.Sort.QuietIn
open List renaming length_take→T00,length_append→T02,cons_append→T03,nil_append→T04,length_drop→T05,mem_of_mem_drop→T06,size_toArray→T07,length_cons→T08,length_nil→T09,push_toArray→T0e,append_toArray→T0f,drop_eq_getElem_cons→T0g,getElem?_eq_getElem→T0h,perm_middle→T0i,perm_append_comm→T0j
open Nat renaming reduceAdd→T0a,reduceSub→T0b
open Int renaming natCast_nonneg→T01
open Array renaming replicate_succ→T0c,replicate_zero→T0d
namespace Go.Proofs.YtbkbkmgogbgofaaGreatDoor
set_option maxRecDepth 100000
set_option maxHeartbeats 6400000
open Go.RowKit
theorem X0l {St:Type} (F:Nat→List E3→List Nat→Nat→List Nat) (s:O6 St) (ts:List E3) (i:Nat) (t:E3) (h:ts[i]?=some t):O1 F s (ts.take (i+1))=Z2d F (O1 F s (ts.take i)) t:=by
 unfold O1
 rw [List.take_add_one,h]
 simp
section
variable {St:Type} {F:Nat→List E3→List Nat→Nat→List Nat} {x:List Nat} {Q e P:Nat} {s:O6 St} {T ks ss:List Nat}
theorem Y2a (h:Z0i x Q s T e P ks ss) (hx:x.length≤most) (he:e≤1000000):s.told≤s.raw.length∧s.raw.length≤most∧s.list.length≤s.told∧s.acc.length < 900000000:=by
 have d:=h.sum
 have f:=h.le
 have a:=Z8d _ _ _ h.ex
 have b:=h.size
 have g:=h.cnt
 rw [T00,T00] at a
 rw [T02] at b
 unfold most at*
 refine ⟨?_, ?_,by omega,by omega⟩
 ·rw [h.raw,T05];omega
 rw [h.raw,T05];omega
theorem X40 (HF:Z19 F) (hr:∀b∈x,b < 256) (h:Z0i x Q s T e P ks ss) (ht:s.told < 16384) {ts:List E3} {A:Nat} (hx:S0 (x.take Q) ts=(0,x.take A)) (hA:A≤x.length) (hb:O3 ts):
  ∀i,i≤ts.length→∃Q' P' ks' ss',Z0i x Q' (O1 F s (ts.take i)) T e P' ks' ss'∧(O1 F s (ts.take i)).told < 16384∧S0 (x.take Q') (ts.drop i)=(0,x.take A)
 | 0,_=>⟨Q,P,ks,ss,h,ht,hx⟩
 | i+1,hi=>by
  obtain ⟨Q',P',ks',ss',h1,h2,h3⟩:=X40 HF hr h ht hx hA hb i (by omega)
  have hil:i < ts.length:=by omega
  have he:ts.drop i=ts[i]::ts.drop (i+1):=(T0g hil)
  rw [he] at h3
  obtain ⟨P2,ks2,ss2,h4,h5,h6,_⟩:=X42 HF hr h1 h2 h3 hA (hb _ (List.getElem_mem hil))
  rw [X0l F s ts i ts[i] (T0h hil)]
  exact ⟨_,P2,ks2,ss2,h4,h5,h6⟩
structure Y4z (x:List Nat) (u:O6 St) (t:E3):Prop where
 len:0≤t.2.1∧t.2.1≤258
 list:u.list.length < 1000000000
 told:u.told < 1000000000
 told2:(Z4 u t).told≤u.raw.length
 raw:u.raw.length < 1000000000
 few:(Z4 u t).told≤65535
 byt:O3 (u.list++[t])
 rby:∀b∈u.raw,b < 256
 list2:(u.list++[t]).length < 1000000000
 acc:u.acc.length < 900000000
theorem W9m (hr:∀b∈x,b < 256) (hx:x.length≤most) (he:e≤1000000) (h:Z0i x Q s T e P ks ss) (ht:s.told < 16384) {t:E3} {r:List E3} {A:Nat} (hs:S0 (x.take Q) (t::r)=(0,x.take A)) (hA:A≤x.length) (hb:0≤t.1∧t.1≤255):Y4z x s t:=by
 have f:=(X5d h hs hA hb).1
 have g:=Y2a f hx he
 have k:=Y2a h hx he
 have i:=(X23 h.le hs hA).1
 have a:0≤t.2.1∧t.2.1≤258:=by
  by_cases d:E9 t=true
  ·by_cases l:t.2.1=0
   ·omega
   have:=V5 d l
   omega
  rw [Y94 (by simpa using d)] at i;cases i
 have m:most=16777216:=rfl
 have j:adv t≤258:=by unfold adv;omega
 refine ⟨a,by omega,by omega,g.1,by omega, ?_,f.byt,fun b hb=> ?_, ?_,k.2.2.2⟩
 ·show s.told+adv t≤_
  omega
 ·rw [h.raw] at hb
  exact hr b (T06 hb)
 have n:(s.list++[t]).length≤s.told+adv t:=g.2.2.1
 omega
end
theorem X8w {M:Z5h} {F:Nat→List E3→List Nat→Nat→List Nat} {x:List Nat} {s:O6 M.St} {T:List Nat} {e:Nat} (L:V0 M) (HF:Z19 F) (h:O4 M x s T e) (hx:x.length≤most) (he:e≤1000000) (b:Bool):
  T1 M F b s=O1 F {s with f:=(M.toks s.f b).1} (M.toks s.f b).2∧(M.toks s.f b).2.length≤x.length∧∀i t,(M.toks s.f b).2[i]?=some t→Y4z x (O1 F {s with f:=(M.toks s.f b).1} ((M.toks s.f b).2.take i)) t:=by
 have g:=L.ok_toks s.f b h.ok
 have j:M.inp (M.toks s.f b).1=x:=by rw [L.inp_toks,h.inp]
 have m:=Y9p L h.ok (by rw [h.inp];exact hx)
 have d:=Y9p L g (by rw [j];exact hx)
 rw [L.outs_toks,j] at d
 rw [h.inp] at m
 rw [Z74,m.2,if_pos rfl] at d
 have k:O3 (M.toks s.f b).2:=by
  have:=L.bytes _ g
  rw [L.outs_toks] at this
  exact fun t ht=>this t (List.mem_append_right _ ht)
 obtain ⟨P,q,r,a⟩:=h.mid
 have l:Z0i x (Y8j M s.f) {s with f:=(M.toks s.f b).1} T e P q r:=⟨a.sum,a.le,a.raw,a.byt,a.ex,a.ch,a.zero,a.size,a.cnt,a.even⟩
 have o:=Z8d _ _ _ d.2
 rw [T00,T00] at o
 refine ⟨rfl,by omega,fun i t ht=> ?_⟩
 have p:=(List.getElem?_eq_some_iff.1 ht).1
 obtain ⟨Q',P',y,z,g1,g2,n⟩:=X40 HF h.byt l h.low d.2 d.1 k i (by omega)
 rw [T0g p,(List.getElem?_eq_some_iff.1 ht).2] at n
 exact W9m h.byt hx he g1 g2 n d.1 (k _ (List.mem_of_getElem? ht))
section
variable {w0 w:World} {Rs:List A6}
theorem Y47 {s:O6 U5} {p:C4} {x:List Nat} {T:List Nat} {e:Nat} (H:A4 w0 w (Q8 s p::Rs)) (hO:Z4p w0) (HI:O4 K5 x s T e) (hx:x.length≤most) (he:e≤1000000) (b:Bool):
  Calls Tryz.prog 31 #[.pointer (some ⟨p.b,p.o,none⟩),.bool b] w fun e w'=>e= .returned (.tuple #[])∧A4 w0 w' (Q8 (T1 K5 (I0 D2) b s) p::Rs):=by
 have b4:T1 K5 (I0 D2) b s=O1 (I0 D2) ({s with f:=(K5.toks s.f b).1}:O6 U5) (K5.toks s.f b).2∧(K5.toks s.f b).2.length≤x.length∧∀i t,(K5.toks s.f b).2[i]?=some t→Y4z x (O1 (I0 D2) ({s with f:=(K5.toks s.f b).1}:O6 U5) ((K5.toks s.f b).2.take i)) t:=X8w Z50 Y3r HI hx he b
 have a6:Y4d s.f:=HI.ok
 have hT:=X50 H b a6
 generalize T1 K5 (I0 D2) b s=sE at*
 generalize (K5.toks s.f b).2=ts at*
 generalize ({s with f:=(K5.toks s.f b).1}:O6 U5)=s1 at*
 obtain ⟨hE,hn,a9⟩:=b4
 rw [hE]
 have HT:=A5 hT
 have HK:=A5 a9
 obtain ⟨n,a4⟩:∃n,n=ts.length:=⟨_,rfl⟩
 have HN:=A5 a4
 unfold Y4n at HT
 rw [←a4] at HT hn
 have d9:(0:Int)≤(n:Int):=T01 _
 have hn:n < 1000000000:=by have:most=16777216:=rfl;omega
 clear H HI hE a6 a9 a4 hx he hT
 go_enter Tryz.func31,Tryz.ntmps31
 go_wp2_with fail
 with_reducible refine HT.out.mono ?_
 rintro e w1 ⟨v,rfl,h1⟩
 obtain ⟨ao,c6,rfl,_,_⟩:=h1.own.form
 have H1:=A5 h1.swap
 clear h1 HT
 go_wp2
 go_loopg [5,12] (n+2) (fun gg t5 t12 wr=>∃i:Nat,i≤n∧n-i < gg∧t12= .int .i64 (i:Int)∧
  Hid (A4 w0 wr (Q8 (O1 (I0 D2) s1 (ts.take i)) p::B0 112 3 (.slice ao n c6) n (I6 ts)::Rs)))
 case atStart=>exact ⟨0,by omega,by omega,rfl,H1⟩
 case round=>
  obtain ⟨i,hi,hg,rfl,HR⟩:=hrel
  have e1:(0:Int)≤(i:Int):=T01 _
  by_cases b8:i < n
  rotate_left
  ·obtain rfl:i=n:=by omega
   have b5:¬(i:Int) < (i:Int):=by omega
   have H4:=A5 HR.out.swap.drop
   have HE:Hid (ts.take i=ts):=A5 (List.take_of_length_le (by rw [←HN.out];exact Nat.le_refl _))
   rw [HE.out] at H4
   go_wp2
   go_end0
   exact ⟨rfl,H4.out⟩
  have b5:(i:Int) < (n:Int):=by omega
  obtain ⟨t,ht⟩:∃t,ts[i]?=some t:=⟨ts[i]'(by rw [←HN.out];exact b8),T0h _⟩
  have k:Y4z x (O1 (I0 D2) s1 (ts.take i)) t:=HK.out i t ht
  have y:=X0l (I0 D2) s1 ts i t ht
  obtain ⟨u,hu⟩:∃u,u=O1 (I0 D2) s1 (ts.take i):=⟨_,rfl⟩
  rw [←hu] at k y HR
  have a:=A5 k
  have a7:=A5 y
  obtain ⟨m,q,r⟩:=t
  obtain ⟨g,e3,rfl,c0,c1,c2⟩:=HR.out.swap.own.rd.tok ht
  have hA:=(HR.out.newObj [.int .u8 m,.int .i64 q,.int .i64 r] 112).swap
  have l:=A5 (W3k hA.drew (m,q,r) k.len k.list k.told)
  have HH:=A5 hA
  clear ht k y hu hA
  unfold Y69 at l
  simp only at l
  have j:Hid (O1 (I0 D2) s1 (ts.take (i+1))=if 16384≤(Z4 u (m,q,r)).told then R0 (I0 D2) false (Z4 u (m,q,r)) else Z4 u (m,q,r)):=a7
  have z:=A5 (fun (wz:World) (Rz:List A6) (h:A4 w0 wz (Q8 (Z4 u (m,q,r)) p::Rz))=>Y7l h hO false a.out.told2 a.out.raw a.out.few a.out.byt a.out.rby a.out.list2 a.out.acc)
  have a0:(Z4 u (m,q,r)).told < 1000000000:=by have:=a.out.few;omega
  generalize Z4 u (m,q,r)=u2 at l j z a0
  have t0:=HH.out.swap.obj.cell (i:=0) rfl
  have t1:=HH.out.swap.obj.cell (i:=1) rfl
  have t2:=HH.out.swap.obj.cell (i:=2) rfl
  go_wp2
  generalize b9:wr.alloc (.cells #[.int .u8 m,.int .i64 q,.int .i64 r] 112)=wA at l HH t0 t1 t2⊢
  go_still_tail 4,(by kernel_rfl)
  change wpList _ _ _ _ _ (World.drew _)
  clear b9 HH t0 t1 t2 c0 c1 c2
  go_wp2_with fail
  with_reducible refine l.out.mono ?_
  rintro e w2 ⟨rfl,h2⟩
  obtain ⟨C,X,bs,rv,lv,d,sp,c,hf,h3,b0⟩:=Z26 h2
  have a1:=h3.objp.cell (i:=11) rfl
  have H2:=A5 h2
  clear h3 hf b0 h2 l
  by_cases hc:16384≤u2.told
  ·have a2:decide ((16384:Int)≤(u2.told:Int))=true:=decide_eq_true (by omega)
   have HE:Hid (O1 (I0 D2) s1 (ts.take (i+1))=R0 (I0 D2) false u2):=A5 (by rw [j.out,if_pos hc])
   have HB:=A5 (z.out _ _ H2.out)
   rw [←HE.out] at HB
   generalize u2.told=td2 at a1 a2 a0
   go_wp2_with fail
   with_reducible refine HB.out.mono ?_
   rintro e w3 ⟨rfl,h4⟩
   have H4:=A5 (h4.swap.drop)
   clear h4 HB a1
   go_wp2
   go_roundg (gk-1)
   case measure=>omega
   case rel=>exact ⟨i+1,by omega,by omega,by go_num,A5 (by rw [HE.out] at H4⊢;exact H4.out)⟩
  have a2:decide ((16384:Int)≤(u2.told:Int))=false:=decide_eq_false (by omega)
  have HE:Hid (O1 (I0 D2) s1 (ts.take (i+1))=u2):=A5 (by rw [j.out,if_neg hc])
  have H4:=A5 (H2.out.swap.drop)
  generalize u2.told=td2 at a1 a2 a0
  clear hc z j a7
  go_wp2
  go_roundg (gk-1)
  case measure=>omega
  case rel=>exact ⟨i+1,by omega,by omega,by go_num,A5 (by rw [HE.out];exact H4.out)⟩
end
section
variable {w0 w:World} {Rs:List A6}
theorem X41 (K8:Int) (hl:Y4v w0) (h:A4 w0 w Rs):
  Calls Tryz.prog 27 #[.int .i64 K8] w fun e w'=>∃ (C:Z8y) (X:A6),e= .returned (.agg (C.V++[Value.slice none 0 0,Value.slice none 0 0,Value.int .i64 0]).toArray)∧A4 w0 w' (X::Rs)∧
   ∀ (p:C4) (R:List Value) (w':World) (Rs:List A6),A4 w0 w' (Q0 p (C.V++R)::X::Rs)→A4 w0 w' (Y2i (K5.start K8) (Y4q p 0 [] R rfl)::Rs):=by
 have hN:=V5d K8 hl (h.newObj [.int .i64 0,.int .i64 0,.int .i64 0,.slice none 0 0,.int .i64 0,.map none,.map none,.slice none 0 0,.int .i64 0,.slice none 0 0,.slice none 0 0,.int .i64 0] 72)
 have HN:=A5 hN
 clear hN h
 go_enter Tryz.func27,Tryz.ntmps27
 go_wp2_with fail
 with_reducible refine HN.out.mono ?_
 rintro e f ⟨B,rfl,h1⟩
 obtain ⟨l,m,n,lv,b,o,q,bv,g,X,r,⟨j,s,t,rfl⟩,⟨x,y,z,rfl⟩,k⟩:=X7g (p:= .whole B 70) (R:=[]) h1
 have d:=r.objp
 have a:=r.third.obj
 have c0:f.cell? ⟨B,0,none⟩=some (.int .i64 (l:Int)):=d.cell (i:=0) rfl
 have c1:f.cell? ⟨B,1,none⟩=some (.int .i64 (m:Int)):=d.cell (i:=1) rfl
 have c2:f.cell? ⟨B,2,none⟩=some (.int .i64 (n:Int)):=d.cell (i:=2) rfl
 have c3:f.cell? ⟨B,3,none⟩=some (.slice j s t):=d.cell (i:=3) rfl
 have c4:f.cell? ⟨B,4,none⟩=some (.int .i64 (b:Int)):=d.cell (i:=4) rfl
 have c5:f.cell? ⟨B,5,none⟩=some (.map (some o)):=d.cell (i:=5) rfl
 have c6:f.cell? ⟨B,6,none⟩=some (.map (some q)):=d.cell (i:=6) rfl
 have c7:f.cell? ⟨B,7,none⟩=some (.slice x y z):=d.cell (i:=7) rfl
 have c8:f.cell? ⟨B,8,none⟩=some (.int .i64 (g:Int)):=d.cell (i:=8) rfl
 have z0:=a.cell (i:=0) rfl
 have f0:=a.frozen 0
 have z1:=a.cell (i:=1) rfl
 have f1:=a.frozen 1
 have z2:=a.cell (i:=2) rfl
 have f2:=a.frozen 2
 have z3:=a.cell (i:=3) rfl
 have f3:=a.frozen 3
 have z4:=a.cell (i:=4) rfl
 have f4:=a.frozen 4
 have z5:=a.cell (i:=5) rfl
 have f5:=a.frozen 5
 have z6:=a.cell (i:=6) rfl
 have f6:=a.frozen 6
 have z7:=a.cell (i:=7) rfl
 have f7:=a.frozen 7
 have z8:=a.cell (i:=8) rfl
 have f8:=a.frozen 8
 have z9:=a.cell (i:=9) rfl
 have f9:=a.frozen 9
 have a4:=a.cell (i:=10) rfl
 have a5:=a.frozen 10
 have a6:=a.cell (i:=11) rfl
 have a7:=a.frozen 11
 have HB:=A5 k
 have H2:=A5 (((((((((((((r.third).setObj 0 (.int .i64 (l:Int))).setObj 1 (.int .i64 (m:Int))).setObj 2 (.int .i64 (n:Int))).setObj 3 (.slice j s t)).setObj 4 (.int .i64 (b:Int))).setObj 5 (.map (some o))).setObj 6 (.map (some q))).setObj 7 (.slice x y z)).setObj 8 (.int .i64 (g:Int))).setObj 9 (.slice none 0 0)).setObj 10 (.slice none 0 0)).setObj 11 (.int .i64 0))
 clear h1 r d a k HN
 go_wp2
 refine Z2y rfl _ 12 Tryz.underlying72 rfl (by kernel_rfl) w.heap.size [.int .i64 (l:Int),.int .i64 (m:Int),.int .i64 (n:Int),.slice j s t,.int .i64 (b:Int),.map (some o),.map (some q),.slice x y z,.int .i64 (g:Int),.slice none 0 0,.slice none 0 0,.int .i64 0] 72 rfl rfl H2.out.obj rfl ?_
 exact ⟨⟨l,m,n,.slice j s t,b,o,q,.slice x y z,g⟩,X,rfl,H2.out.drop.drop,HB.out⟩
theorem V18 (K8:Int) (hl:Y4v w0) (h:A4 w0 w Rs):
  Calls Tryz.prog 17 #[.int .i64 K8] w fun e w'=>∃B:Nat,e= .returned (.pointer (some ⟨B,0,none⟩))∧A4 w0 w' (Q8 (Z4m K5 K8) (.whole B 78)::Rs):=by
 have j:=A5 (X41 K8 hl h)
 obtain ⟨g,d⟩:∃g,g=decide (0 < K8):=⟨_,rfl⟩
 have k:decide (0 < K8)=g:=d.symm
 have n:=A5 d
 clear h d
 go_enter Tryz.func17,Tryz.ntmps17
 go_wp2_with fail
 with_reducible refine j.out.mono ?_
 rintro e t ⟨⟨x,y,z,l0,f,m1,m2,b0,i⟩,X,rfl,m,a⟩
 have o:=A5 a
 have p:=A5 m
 clear m a j
 simp only [Z8y.V,Z6j,T03,T04]
 go_wp2
 go_ret
 refine ⟨_,rfl, ?_⟩
 have q:=p.out.newObjP [.int .i64 (x:Int),.int .i64 (y:Int),.int .i64 (z:Int),l0,.int .i64 (f:Int),.map (some m1),.map (some m2),b0,.int .i64 (i:Int),.slice none 0 0,.slice none 0 0,.int .i64 0,.slice none 0 0,.int .u64 0,.int .i64 0,.bool g,.bool false] 78
 have r:=o.out (.whole t.heap.size 78) (Z6u (.slice none 0 0) (.slice none 0 0) 0 (.slice none 0 0) 0 0 g) _ _ q
 have l:=((r.nil 5 1).nil 112 3).nil 5 1
 rw [n.out] at l⊢
 refine X1v (s:=Z4m K5 K8) ⟨.slice none 0 0,.slice none 0 0,.slice none 0 0,0,0,[]⟩ ⟨by decide,by decide,(fun b h=>by cases h),rfl⟩ ?_
 exact l.perm (T0i (l₁:=[_,_,_]))
end
def X0c (b k:Nat):Prop:=k=b∨k=b+1
def W4f (b:Nat) (W:World) (R:World→Prop):Exit→Act→World→Prop
 | .normal,_,W'=>W'.heap[b]?=W.heap[b]?∧W'.heap[b+1]?=W.heap[b+1]?∧R W'
 | _,_,_=>False
theorem Z9r (W:World) (b:Nat) (o:Obj) (_:b+1 < W.heap.size):E5 W (W.putObj (b+1) o) (X0c b):=
 ⟨rfl,rfl,rfl,by simp,fun j _ hn=>World.putObj_heap_other (fun e=>hn (.inr (by omega)))⟩
theorem Y8n {F:Fence} {n:Nat} {P:Program} {g:Operand} {ps:Array Tmp} {assign body:Code} {Q:Exit→Act→World→Prop} {a:Act} {w:World}
  (hro:F.round=none) (h1:1≤n) {gf:Nat} {lb:Array Value} (hg:a.eval g= .func (.func gf) #[] lb) (hFg:F.fn gf) (eg:∀args w,(callFunc gf args).run P w= .ok (.enter gf args) w)
  (N:Nat) (args:Nat→Array Value) (hps:∀k,(args k).size=ps.size) (I:Nat→World→Prop) (hI:∀k W W',I k W→E5 W W' (X0c w.heap.size)→W'.heap.size=W.heap.size→I k W')
  (h0:∀V,E5 w V (fun _=>False)→V.heap.size=w.heap.size+2→I 0 V)
  (hit:∀ (l:Nat) (J:Nat→World→Prop) (W:World),(∀k W,J k W→I k W)→(∀k W W',J k W→E5 W W' (fun _=>False)→W'.heap.size=W.heap.size→J k W')→(∀k W,k < N→J k W→YieldAt F (n-1-1) P l (args k) W fun e W'=>e= .returned (.bool true)∧J (k+1) W')→J 0 W→
   CallsIn F (n-1) P gf (#[.func (.yield l) #[] #[]]++lb) W fun e W'=>(∃v,e= .returned v)∧J N W')
  (a₁:Nat→Act)
  (hassign:∀ (l k:Nat) (W:World) (K:Act→World→Prop),K (a₁ k) W→
   assign.wpIn (F.inRound l) (n-1-1) P (Exit.then K (fun _ _ _=>False)) {tmps:=(ps.zip (args k)).foldl (fun t (p,v)=>t.setIfInBounds p v) a.tmps,defers:=[]} W)
  (hbody:∀ (l k:Nat) (W:World),k < N→I k W→body.wpIn (F.inRound l) (n-1-1) P (W4f w.heap.size W (I (k+1))) (a₁ k) W)
  (hdone:∀ (W:World),I N W→W.heap[w.heap.size]?=some (.deferred (some []))→Q .normal {a with defers:={target:= .collected w.heap.size,args:=#[]}::a.defers} W):
  (Code.rangeFunc g ps assign body).wpIn F n P Q a w:=by
 refine wpIn_rangeFunc fun fn hfn=> ?_
 obtain ⟨f,d⟩:∃f:LoopState→Loop,f=fun s=>{state:=s,pending:=none,fn,tmps:=a.tmps,params:=ps,assign,body,defers:=w.heap.size}:=⟨_,rfl⟩
 obtain ⟨b,y⟩:∃b,b=w.heap.size:=⟨_,rfl⟩
 have r:(w.alloc (.deferred (some []))).heap.size=b+1:=by rw [y];simp
 obtain ⟨V,z⟩:∃V,V=(w.alloc (.deferred (some []))).alloc (.loop (f .ready)):=⟨_,rfl⟩
 have a1:V.heap[b]?=some (.deferred (some [])):=by
  rw [z,Below.heap_alloc _ _ _ (by omega),y];exact World.alloc_heap_new w _
 have a2:V.heap[b+1]?=some (.loop (f .ready)):=by
  have:=World.alloc_heap_new (w.alloc (.deferred (some []))) (.loop (f .ready))
  rw [r] at this;rw [z];exact this
 have a4:I 0 V:=h0 V (by rw [z];exact ((E5.refl w _).alloc _).alloc _) (by rw [z,World.size_alloc,r,y])
 refine ⟨b+1,[{target:= .collected b,args:=#[]}],V,{target:= .fn (.func gf) lb,args:=#[.func (.yield (b+1)) #[] #[]]},V,gf,#[.func (.yield (b+1)) #[] #[]]++lb,V, ?_, ?_, ?_, ?_,fun _=>h1, ?_⟩
 ·rw [hro,z,d,y];exact run_enterLoop_outer _ _ _ _ _
 ·simp only [resolve,hg]
  simp [go_sem]
 ·intro f' x
  simp [Target.leads] at x
  rw [←x];exact hFg
 ·simp [invoke,go_sem,eg]
 rw [←y] at hI hbody hdone
 refine (hit (b+1) (fun k W=>I k W∧W.heap[b+1]?=some (.loop (f .ready))∧W.heap[b]?=some (.deferred (some []))) V (fun k W h=>h.1) (fun k W W' h hm hz=>⟨hI k W _ h.1 (hm.mono fun _ _ h=>h.elim) hz,(hm.block _ (Array.getElem?_eq_some_iff.1 h.2.1).1 (fun h=>h)).trans h.2.1,(hm.block _ (Array.getElem?_eq_some_iff.1 h.2.2).1 (fun h=>h)).trans h.2.2⟩) ?_ ⟨a4,a2,a1⟩).mono ?_
 ·rintro k W hk ⟨hi,o,hd⟩
  have i:b+1 < W.heap.size:=(Array.getElem?_eq_some_iff.1 o).1
  have hy:=run_yield (P:=P) (args:=args k) o (by rw [d];exact hps k)
  rw [d] at hy
  have a5:=run_beginRound (P:=P) o (by rw [d])
  refine ⟨fn,_,assign,body,hy,roundIn_of_wpIn hfn (hassign _ k W _ ⟨_,a5, ?_⟩)⟩
  refine wpIn_mono (hbody (b+1) k _ hk (hI k W _ hi (Z9r W b _ i) (by rw [World.putObj_size]))) ?_
  rintro e a3 W3 q
  cases e with
  | normal=>
   obtain ⟨a0,m,b0⟩:=q
   rw [World.putObj_heap_same i] at m
   rw [World.putObj_heap_other (by omega),hd] at a0
   have j:b+1 < W3.heap.size:=(Array.getElem?_eq_some_iff.1 m).1
   have a6:=run_endRound (P:=P) none m
   refine ⟨_,_,a6,rfl,hI _ _ _ b0 (Z9r W3 b _ j) (by rw [World.putObj_size]), ?_,(World.putObj_heap_other (by omega)).trans a0⟩
   rw [World.putObj_heap_same j,d];rfl
  | ret=>exact q.elim
  | exit id=>exact q.elim
  | goto t=>exact q.elim
  | panic ch=>exact q.elim
  | outgrown=>exact q.elim
 rintro e W2 ⟨⟨v,rfl⟩,hi,o,hd⟩
 have i:b+1 < W2.heap.size:=(Array.getElem?_eq_some_iff.1 o).1
 have a7:=run_endLoop (P:=P) o (by rw [d];simp)
 refine ⟨none,_,by rw [a7,d], ?_⟩
 exact hdone _ (hI _ _ _ hi (Z9r W2 b _ i) (by rw [World.putObj_size])) ((World.putObj_heap_other (by omega)).trans hd)
def X81 (b:Nat) (o1 o2:Option Obj):A6 where
 res:=fun w F=>w.heap[b]?=o1∧w.heap[b+1]?=o2∧b+1 < w.heap.size∧∀k,F k↔X0c b k
 loc:=fun w w' F S h hm hS=>by
  obtain ⟨h1,h2,h3,h4⟩:=h
  refine ⟨(hm.block b (by omega) (hS b ((h4 b).2 (.inl rfl)))).trans h1,(hm.block (b+1) h3 (hS _ ((h4 _).2 (.inr rfl)))).trans h2,Nat.lt_of_lt_of_le h3 hm.size,h4⟩
def Y0c (b:Nat):A6:=exT fun q:Option Obj×Option Obj=>X81 b q.1 q.2
section
variable {w0 w:World} {Rs:List A6}
theorem A4.newRec {V:World} (h:A4 w0 w Rs) (hm:E5 w V (fun _=>False)) (hs:V.heap.size=w.heap.size+2):A4 w0 V (Y0c w.heap.size::Rs):=
 h.push _ (X0c w.heap.size) ⟨(_,_),rfl,rfl,by omega,fun _=>Iff.rfl⟩ hm (fun k hk=>by rcases hk with hk | hk <;> omega)
theorem A4.recStep {b:Nat} {w':World} (h:A4 w0 w (Y0c b::Rs)) (hm:E5 w w' (X0c b)) (hs:w'.heap.size=w.heap.size):A4 w0 w' (Y0c b::Rs):=by
 obtain ⟨F,⟨q,f⟩,g,a⟩:=h.take
 obtain ⟨_,_,i,d⟩:=f
 exact a w' (Y0c b) F ⟨(_,_),rfl,rfl,by omega,d⟩ (hm.mono fun k _ hk=>(d k).2 hk) (fun k hk=> .inl hk) (fun k hk=>by rw [hs];exact (g k hk).2)
theorem A4.recIs {b:Nat} (h:A4 w0 w (Y0c b::Rs)):A4 w0 w (X81 b w.heap[b]? w.heap[b+1]?::Rs):=by
 obtain ⟨F,⟨q,i,j,a,d⟩,f,g⟩:=h
 exact ⟨F,⟨rfl,rfl,a,d⟩,f,g⟩
theorem A4.recAre {b:Nat} {o1 o2:Option Obj} (h:A4 w0 w (X81 b o1 o2::Rs)):w.heap[b]?=o1∧w.heap[b+1]?=o2:=by
 obtain ⟨F,⟨a,d,_⟩,_⟩:=h
 exact ⟨a,d⟩
theorem A4.recAs {b:Nat} {o1 o2:Option Obj} (h:A4 w0 w (X81 b o1 o2::Rs)):A4 w0 w (Y0c b::Rs):=A4.mk (R:=fun q:Option Obj×Option Obj=>X81 b q.1 q.2) (o1,o2) h
end
end Go.Proofs.YtbkbkmgogbgofaaGreatDoor
namespace Go.Proofs.YtbkbkmgogbgofaaGreatDoor
set_option maxRecDepth 100000
set_option maxHeartbeats 6400000
open Go.RowKit
attribute [local go_sem] Oper.semAt_some
theorem W5u (v:Value) (w:World) (hv:∃a n c,v= .slice a n c):
  Calls Tryz.prog 47 #[v,.int .i64 16384] w fun e w'=>e= .returned (.func (.func 72) #[] #[.pointer (some ⟨w.heap.size,0,none⟩),.pointer (some ⟨w.heap.size+1,0,none⟩)])∧w'=(w.alloc (.cells #[v] 26)).alloc (.cells #[.int .i64 16384] 3):=by
 obtain ⟨a,n,c,rfl⟩:=hv
 go_enter Tryz.func47,Tryz.ntmps47
 go_wp2
 go_ret
 exact ⟨rfl,rfl⟩
theorem W9a {P:Program} {w:World} (t e:TypeId) (i:TypeInfo) (size:Nat) (ht:P.underlying t=some (.slice e)) (hi:P.info? e=some i) (hs:i.size=size) (a:Option Addr) (len cap l h:Nat) (h1:l < h) (h2:h≤cap):
  (Instr.sliceAt t (.slice a len cap) (some (.int .i64 (l:Int))) (some (.int .i64 (h:Int))) (some (.int .i64 (h:Int)))).run P w= .ok (.slice (a.map fun (x:Addr)=>x.add (l*size)) (h-l) (h-l)) w:=by
 have b:P.elem t=e:=by simp [Program.elem,ht]
 have d:P.underlying t=some (.slice (P.elem t)):=by rw [b];exact ht
 have f:(sizeOf (P.elem t)).run P w= .ok size w:=by rw [b];simp [sizeOf,typeInfo,hi,hs]
 rw [run_sliceAt_slice w t _ _ _ _ d,run_slice_lhm w t a len cap d .i64 .i64 .i64 (l:Int) (h:Int) (h:Int) (by omega) (by omega) (Int.le_refl _) (by omega),f]
 simp only [Result.andThen,sliced,Int.toNat_natCast]
 rw [if_neg (by omega)]
theorem W5y:(Tryz.prog.info? 5).map (fun i=>(i.zero,i.size,i.bytes))=some (some (.int .u8 0),1,1):=by kernel_rfl
def Z0l (L k:Nat):Nat:=min 16384 (L-16384*k)
def Z76 (ao:Option Addr) (L k:Nat):Value:= .slice (ao.map fun (x:Addr)=>x.add (16384*k*1)) (Z0l L k) (Z0l L k)
def Z1b (n:Nat):Nat:=(n+16383) / 16384
theorem V16 (n:Nat) (hn:1≤n) (l C D L cap:Nat) (ao:Option Addr) (hL:L < 1000000000) (hLc:L≤cap)
  (J:Nat→World→Prop) (hJ:∀k W,J k W→W.cell? ⟨C,0,none⟩=some (.slice ao L cap)∧W.cell? ⟨D,0,none⟩=some (.int .i64 16384))
  (hJd:∀k W W',J k W→E5 W W' (fun _=>False)→W'.heap.size=W.heap.size→J k W')
  (hY:∀k W,k < Z1b L→J k W→YieldAt Fence.wide (n-1) Tryz.prog l #[Z76 ao L k] W fun e W'=>e= .returned (.bool true)∧J (k+1) W')
  (W:World) (h0:J 0 W):
  CallsIn Fence.wide n Tryz.prog 72 #[.func (.yield l) #[] #[],.pointer (some ⟨C,0,none⟩),.pointer (some ⟨D,0,none⟩)] W fun e W'=>(∃v,e= .returned v)∧J (Z1b L) W':=by
 obtain ⟨i0,y,d5,z,d6⟩:=info_parts W5y
 have b8:(0:Int)≤(L:Int):=T01 _
 refine callsIn_of_wp Tryz.func72 rfl trivial ?_ rfl
 simp only [Tryz.ntmps72,T07,T08,T09,T0a,T0b,T0c,T0d,T0e,T0f,T04,T03]
 gi_wp2
 gi_loopg [4,5] (Z1b L+1) (fun g t4 t5 wr=>∃ (k:Nat),k≤Z1b L∧Z1b L-k < g∧t4= .int .i64 ((16384*k:Nat):Int)∧Hid (J k wr))
 case atStart=>exact ⟨0,by omega,by omega,rfl,h0⟩
 case round=>
  obtain ⟨k,hk,hg,rfl,HJ⟩:=hrel
  have c0:=(hJ k wr HJ.out).1
  have d0:=(hJ k wr HJ.out).2
  obtain ⟨i,a⟩:∃i,i=16384*k:=⟨_,rfl⟩
  have c3:i < 2000000000:=by unfold Z1b at hk;omega
  have b3:(0:Int)≤(i:Int):=T01 _
  have HI:=A5 a
  by_cases t:k < Z1b L
  rotate_left
  ·obtain rfl:k=Z1b L:=by omega
   have a4:L≤i:=by unfold Z1b at a;omega
   have a5:¬(i:Int) < (L:Int):=by omega
   rw [←a]
   clear a
   gi_wp2
   go_end0
   exact ⟨⟨_,rfl⟩,HJ⟩
  have a4:i < L:=by unfold Z1b at t;omega
  have a5:(i:Int) < (L:Int):=by omega
  obtain ⟨q,hq⟩:∃q,q=L-i:=⟨_,rfl⟩
  obtain ⟨m,hm⟩:∃m,m=Z0l L k:=⟨_,rfl⟩
  have a6:m=min 16384 q:=by rw [hm,hq,a];rfl
  have c4:(if (q:Int) < 16384 then (q:Int) else 16384)=(m:Int):=by split <;> omega
  obtain ⟨e,he⟩:∃e,e=i+m:=⟨_,rfl⟩
  have c5:(i:Int)+(m:Int)=(e:Int):=by omega
  have o:e≤cap:=by omega
  have p:i < e:=by omega
  have b:∀wg,(Instr.sliceAt 26 (.slice ao L cap) (some (.int .i64 (i:Int))) none none).run Tryz.prog wg= .ok (.slice (if cap=i then ao else ao.map fun (x:Addr)=>x.add (i*1)) (L-i) (cap-i)) wg:=fun wg=>
   O0 (P:=Tryz.prog) 26 5 i0 1 Tryz.underlying26 y z ao L cap i L (some (.int .i64 (i:Int))) none ⟨_,rfl⟩ rfl (by omega) hLc
  rw [←hq] at b
  generalize (if cap=i then ao else ao.map fun (x:Addr)=>x.add (i*1))=a1 at b
  generalize cap-i=cap1 at b
  have a7:∀wg,(Instr.sliceAt 26 (.slice ao L cap) (some (.int .i64 (i:Int))) (some (.int .i64 (e:Int))) (some (.int .i64 (e:Int)))).run Tryz.prog wg= .ok (.slice (ao.map fun (x:Addr)=>x.add (i*1)) m m) wg:=fun wg=>by
   have h1:=W9a (P:=Tryz.prog) (w:=wg) 26 5 i0 1 Tryz.underlying26 y z ao L cap i e p o
   rw [show e-i=m by omega] at h1
   exact h1
  have d:Z76 ao L k= .slice (ao.map fun (x:Addr)=>x.add (i*1)) m m:=by unfold Z76;rw [←hm,←a]
  generalize (ao.map fun (x:Addr)=>x.add (i*1))=a3 at a7 d
  have a8:=A5 d
  have c6:m≤16384:=by omega
  have c7:e < 2000000000:=by omega
  have r:(i:Int)+16384=((16384*(k+1):Nat):Int):=by omega
  have a9:=A5 r
  have c8:q < 1000000000:=by omega
  have c9:(0:Int)≤(q:Int):=T01 _
  have d1:(0:Int)≤(m:Int):=T01 _
  have d2:(0:Int)≤(e:Int):=T01 _
  rw [←a]
  clear a hq hm a6 he d p o r
  have s:=fun nn=>hJd k wr (wr.drewN nn) HJ.out ((E5.refl wr _).drewN nn) (by simp)
  gi_wp2
  gi_quiet (fail)
  have f:=A5 (s nq)
  generalize wr.drewN nq=w1 at f⊢
  have c1:=(hJ k w1 f.out).1
  obtain ⟨fn,b6,a2,b7,hy,hR⟩:=hY k w1 t f.out
  rw [a8.out] at hy
  clear c0 d0 s HJ
  gi_wp2
  refine hR.mono ?_
  rintro e3 W3 ⟨rfl,j⟩
  have b0:=A5 j
  have d3:=(hJ _ W3 j).2
  clear j
  gi_wp2
  gi_roundg (gk-1)
  case measure=>omega
  case rel=>exact ⟨k+1,by omega,by omega,by rw [←a9.out],b0⟩
end Go.Proofs.YtbkbkmgogbgofaaGreatDoor
namespace Go.Proofs.YtbkbkmgogbgofaaGreatDoor
set_option maxRecDepth 100000
set_option maxHeartbeats 6400000
open Go.RowKit
attribute [local go_sem] Oper.semAt_some
theorem Y64 (b:List Nat) (k:Nat):Z0l b.length k=(Z0f b k).length:=by
 unfold Z0l Z0f
 rw [T00,T05]
theorem V4k {w:World} {vo:Option Addr} {vc n k:Nat} {b:List Nat} (h:Rd w 1 (.slice vo n vc) n (D9 b)) (hn:n=b.length) (hk:k < Z1b n):Rd w 1 (Z76 vo n k) (Z0l n k) (D9 (Z0f b k)):=by
 have i:n≤vc:=by
  obtain ⟨_,l,g,hn,_⟩:=h.form
  simp only [Value.slice.injEq,true_and] at g
  obtain ⟨_,rfl⟩:=g
  exact hn
 have m:16384*k < n:=by unfold Z1b at hk;omega
 have a:16384*k+Z0l n k≤n:=by unfold Z0l;omega
 have d:=h.cut (L:=16384*k) (H:=16384*k+Z0l n k) (by omega) a
 unfold sliced at d
 rw [if_neg (by omega),Nat.add_sub_cancel_left] at d
 have f:=d.shrink (c:=Z0l n k) (Nat.le_refl _) (by omega)
 have e:((D9 b).drop (16384*k*1)).take (Z0l n k*1)=D9 (Z0f b k):=by
  rw [Nat.mul_one,Nat.mul_one,hn,Y64]
  have j:∀X:List Nat,X.take (X.take 16384).length=X.take 16384:=fun X=>by rw [T00,←List.take_take,List.take_length]
  unfold D9 Z0f
  rw [←List.map_drop,←List.map_take,j]
 rw [e] at f
 exact f
theorem W0x (vo:Option Addr) (n k m c:Nat):(Z76 vo n k).ownBlock=Value.ownBlock (.slice vo m c):=by
 unfold Z76
 cases vo with
 | none=>rfl
 | some x=>
  simp only [Option.map_some,Value.ownBlock,Addr.add]
  split <;> rfl
theorem X8c {w0:World} {S:A6} {vo:Option Addr} {vc n k:Nat} {b:List Nat} (h:Z04 w0 S 1 (.slice vo n vc) n (D9 b)) (hn:n=b.length) (hk:k < Z1b n):Z04 w0 S 1 (Z76 vo n k) (Z0l n k) (D9 (Z0f b k)):=by
 intro w F a d
 obtain ⟨f,g⟩:=h w F a d
 have i:16384*k < n:=by unfold Z1b at hk;omega
 refine ⟨V4k f hn hk,fun _ j hj=>g (by omega) j ?_⟩
 rw [W0x vo n k n vc] at hj
 exact hj
section
variable {w0 w:World} {Rs:List A6} {S:A6}
theorem X8m {s:O6 U5} {p:C4} {x T:List Nat} {e:Nat} (H:A4 w0 w (Q8 s p::S::Rs)) (hO:Z4p w0) (HI:O4 K5 x s T e) (he:e≤1000000) (v:Value) (n:Nat) (b:List Nat) (hv:Z04 w0 S 1 v n (D9 b)) (hb:∀c∈b,c < 256) (hx:x.length+b.length≤most):
  Calls Tryz.prog 28 #[.pointer (some ⟨p.b,p.o,none⟩),v] w fun e w'=>e= .returned (.int .i64 0)∧A4 w0 w' (Q8 (Z1d K5 (I0 D2) s b) p::S::Rs):=by
 have y:=hv.rd H.swap
 have a2:n=b.length:=by have:=y.1;rw [E6] at this;omega
 obtain ⟨a,q,rfl,d2,_⟩:=y.form
 obtain ⟨C,X,bs,rv,lv,d,sp,c,hf,m,b6⟩:=Z26 H
 have c0:=m.objp.cell (i:=16) rfl
 have a3:∀o,(w.alloc o).cell? ⟨p.b,p.o+16,none⟩=some (.bool false):=fun o=>(m.alloc o).objp.cell (i:=16) rfl
 clear m hf b6
 refine (callsIn_wide (n:=3)).1 ?_
 refine callsIn_of_wp_marks Tryz.func28 rfl trivial ?_ rfl
 simp only [Tryz.ntmps28,T07,T08,T09,T0a,T0b,T0c,T0d,T0e,T0f,T04,T03]
 have HN:=A5 a2
 have c2:n < 1000000000:=by have:most=16777216:=rfl;omega
 have HA:=A5 (((H.newObj [.pointer (some ⟨p.b,p.o,none⟩)] 42).newObj [.slice a n q] 26).newObj [.int .i64 16384] 3)
 obtain ⟨N,hN⟩:∃N,N=w.heap.size:=⟨_,rfl⟩
 rw [World.size_alloc,World.size_alloc,←hN] at HA
 have a4:((((w.alloc (.cells #[.pointer (some ⟨p.b,p.o,none⟩)] 42)).alloc (.cells #[.slice a n q] 26)).alloc (.cells #[.int .i64 16384] 3))).heap.size=N+3:=by rw [World.size_alloc,World.size_alloc,World.size_alloc,hN]
 have HC:=A5 (W5u (.slice a n q) (w.alloc (.cells #[.pointer (some ⟨p.b,p.o,none⟩)] 42)) ⟨_,_,_,rfl⟩)
 rw [World.size_alloc,←hN] at HC
 clear a2 y H
 gi_wp2_with fail
 refine ⟨trivial, ?_⟩
 refine (callsIn_wide.2 HC.out).mono ?_
 rintro e2 w2 ⟨rfl,rfl⟩
 rw [←hN]
 generalize (((w.alloc (.cells #[.pointer (some ⟨p.b,p.o,none⟩)] 42)).alloc (.cells #[.slice a n q] 26)).alloc (.cells #[.int .i64 16384] 3))=wc at HA a4⊢
 clear c0 a3 HC hN
 gi_wp2_with fail
 have r:∀k,O4 K5 (x++b.take (16384*k)) (Z1v K5 (I0 D2) s b k) T e:=Y5v Z50 Y3r HI b hb hx
 have a5:=A5 r
 clear r
 refine Y8n (gf:=72) (lb:=#[.pointer (some ⟨N+1,0,none⟩),.pointer (some ⟨N+1+1,0,none⟩)]) rfl (by decide) rfl trivial (enters_of Tryz.func72 (by kernel_rfl) rfl) (Z1b n)
  (fun k=>#[Z76 a n k]) (fun _=>rfl)
  (fun k W=>A4 w0 W (Y0c wc.heap.size::E8 (N+1+1) [.int .i64 16384] 3::E8 (N+1) [.slice a n q] 26::E8 N [.pointer (some ⟨p.b,p.o,none⟩)] 42::Q8 (Z1v K5 (I0 D2) s b k) p::S::Rs)) ?far ?h0 ?hit
  (fun k=>{tmps:=#[.pointer (some ⟨p.b,p.o,none⟩),.slice a n q,.pointer (some ⟨N,0,none⟩),undef,.int .i64 0,Z76 a n k,.pointer (some ⟨p.b,p.o,none⟩),.bool false,.bool false,.pointer (some ⟨p.b,p.o,none⟩),.pointer (some ⟨p.b,p.o,none⟩),.pointer (some ⟨p.b,p.o+16,none⟩),.bool false,.bool false,.slice a n q,
   .func (.func 72) #[] #[.pointer (some ⟨N+1,0,none⟩),.pointer (some ⟨N+1+1,0,none⟩)],Z76 a n k,undef,undef,undef,undef,undef,undef,undef],defers:=[]}) ?assign ?body ?done
 case far=>exact fun k W W' h hm hz=>h.recStep hm hz
 case h0=>exact fun V hm hz=>HA.out.newRec hm hz
 case hit=>
  intro l J W c8 c9 hY d0
  refine V16 _ (by decide) l (N+1) (N+1+1) n q a c2 d2 J (fun k W h=> ?_) c9 hY W d0
  have h2:=c8 k W h
  exact ⟨h2.third.obj.cell (i:=0) rfl,h2.swap.obj.cell (i:=0) rfl⟩
 case assign=>
  intro l k W K hK
  gi_wp2
  exact hK
 case body=>
  intro l k W hk hI
  have hR:=hI.recIs
  generalize b4:W.heap[wc.heap.size]?=o1 at hR
  generalize b5:W.heap[wc.heap.size+1]?=o2 at hR
  have h2:A4 w0 W ([Q8 (Z1v K5 (I0 D2) s b k) p,S]++[X81 wc.heap.size o1 o2,E8 (N+1+1) [.int .i64 16384] 3,E8 (N+1) [.slice a n q] 26,E8 N [.pointer (some ⟨p.b,p.o,none⟩)] 42]++Rs):=
   hR.perm ((T0j (l₁:=[_,_,_,_]) (l₂:=[_,_])).append_right Rs)
  have g:=a5.out k
  have z:(x++b.take (16384*k)).length+(Z0f b k).length≤most:=by
   rw [←T02,List.append_assoc,Y7z,T02,T00]
   omega
  have a7:Z0l n k=(Z0f b k).length:=by rw [HN.out];exact Y64 b k
  have a8:∀c∈Z0f b k,c < 256:=fun c hc=>hb c (T06 (List.mem_of_mem_take hc))
  have a9:=W25 Z50 g (Z0f b k) a8 z
  have b0:(Z1v K5 (I0 D2) s b k).f.x=x++b.take (16384*k):=g.inp
  have b1:(Z1v K5 (I0 D2) s b k).raw.length≤most:=by
   obtain ⟨P,ks,ss,hm⟩:=g.mid
   exact (Y2a hm (by omega) he).2.1
  have a0:most=16777216:=rfl
  have t:=A5 (W82 (S:=S) h2 (Z76 a n k) (Z0l n k) (Z0f b k) (X8c hv HN.out hk) g.ok (by rw [b0,a7];omega) (by omega))
  have b2:=A5 (fun (wz:World) (Rz:List A6) (h:A4 w0 wz (Q8 (X1l K5 (Z1v K5 (I0 D2) s b k) (Z0f b k)) p::Rz))=>Y47 h hO a9 (by rw [T02];exact z) he false)
  have cN:W.cell? ⟨N,0,none⟩=some (.pointer (some ⟨p.b,p.o,none⟩)):=(hI.fourth.obj).cell (i:=0) rfl
  have HO:=A5 (And.intro b4 b5)
  clear hR h2 g z a7 a8 a9 b0 b1 a0 b4 b5 hI
  gi_wp2_with fail
  refine ⟨trivial, ?_⟩
  refine (CallsIn.inRound l (callsIn_wide.2 t.out)).mono ?_
  rintro e3 w3 ⟨rfl,m⟩
  have c5:w3.cell? ⟨N,0,none⟩=some (.pointer (some ⟨p.b,p.o,none⟩)):=(m.perm (T0i (l₁:=[_,_,_,_,_]))).obj.cell (i:=0) rfl
  have b3:=A5 (b2.out _ _ m)
  clear b2 t m cN
  gi_wp2_with fail
  refine ⟨trivial, ?_⟩
  refine (CallsIn.inRound l (callsIn_wide.2 b3.out)).mono ?_
  rintro e4 w4 ⟨rfl,h4⟩
  have H4:=A5 h4
  clear h4 b3 c5
  gi_wp2
  have h5:A4 w0 w4 ([X81 wc.heap.size o1 o2,E8 (N+1+1) [.int .i64 16384] 3,E8 (N+1) [.slice a n q] 26,E8 N [.pointer (some ⟨p.b,p.o,none⟩)] 42]++[Q8 (Z1v K5 (I0 D2) s b (k+1)) p,S]++Rs):=
   H4.out.perm ((T0j (l₁:=[_,_]) (l₂:=[_,_,_,_])).append_right Rs)
  have h6:=A4.recAre h5
  exact ⟨by rw [HO.out.1];exact h6.1,by rw [HO.out.2];exact h6.2,A4.recAs h5⟩
 case done=>
  intro W hI hK
  have c6:=A5 hI
  have HE:Hid (Z1v K5 (I0 D2) s b (Z1b n)=Z1d K5 (I0 D2) s b):=A5 (by rw [HN.out];rfl)
  clear hI
  gi_wp2
  refine ⟨by simp,.inl ⟨_,_,rfl,run_takeDeferred hK, ?_⟩⟩
  have c7:E5 W (W.putObj wc.heap.size (.deferred none)) (X0c wc.heap.size):=⟨rfl,rfl,rfl,by simp,fun j hj hne=>World.putObj_heap_other (fun e=>hne (.inl e))⟩
  have m:=c6.out.recStep c7 (by rw [World.putObj_size])
  rw [HE.out] at m
  exact ⟨_,results_tmp rfl _ _ _,rfl,m.drop.drop.drop.drop⟩
end
end Go.Proofs.YtbkbkmgogbgofaaGreatDoor
namespace Go.Proofs.YtbkbkmgogbgofaaGreatDoor
set_option maxRecDepth 100000
set_option maxHeartbeats 6400000
open Go.RowKit
section
variable {w0 w:World} {Rs:List A6} {S:A6}
theorem W5q {M:Z5h} {x:List Nat} {s:O6 M.St} {T:List Nat} {e:Nat} (h:O4 M x s T e) (hx:x.length≤most) (he:e≤1000000):
  s.told≤s.raw.length∧s.raw.length < 1000000000∧s.told≤65535∧O3 s.list∧(∀b∈s.raw,b < 256)∧s.list.length < 1000000000∧s.acc.length < 900000000:=by
 obtain ⟨P,g,i,a⟩:=h.mid
 have d:=Y2a a hx he
 have f:=h.low
 have:most=16777216:=rfl
 refine ⟨d.1,by omega,by omega,a.byt,fun b hb=> ?_,by omega,d.2.2.2⟩
 rw [a.raw] at hb
 exact h.byt b (T06 hb)
def W2d:List Value:=[.int .i64 0,.int .i64 0,.int .i64 0,.slice none 0 0,.int .i64 0,.map none,.map none,.slice none 0 0,.int .i64 0,.slice none 0 0,.slice none 0 0,.int .i64 0]
def W2e (p:C4) (pk:Bool):C4:=Y4q p 12 W2d [.bool pk,.bool true] rfl
theorem X6y (p:C4) (pk:Bool) (d:Value) (sp c:Nat):Q0 (W2e p pk) [d,.int .u64 (sp:Int),.int .i64 (c:Int)]=Q0 p (W2d++[d,.int .u64 (sp:Int),.int .i64 (c:Int),.bool pk,.bool true]):=Y1k p 12 W2d _ _ rfl
def Z33 (acc:List Nat) (p:C4):A6:=exT fun pk:Bool=>wrT (W2e p pk) acc
theorem W3r {acc:List Nat} {p:C4} (H:A4 w0 w (Z33 acc p::Rs)):w.cell? ⟨p.b,p.o+16,none⟩=some (.bool true):=by
 obtain ⟨g,f⟩:=H.ex
 obtain ⟨d,j,c,k,l,a⟩:=Y99 f
 rw [X6y] at a
 exact a.objp.cell (i:=16) rfl
theorem W4z {acc:List Nat} {p:C4} (H:A4 w0 w (Z33 acc p::Rs)):
  Calls Tryz.prog 30 #[.pointer (some ⟨p.b,p.o+12,none⟩)] w fun e w'=>∃d,e= .returned d∧A4 w0 w' (B0 5 1 d (D4 acc).length (D9 (D4 acc))::Z33 (acc.drop (8*(D4 acc).length)) p::Rs):=by
 obtain ⟨a,f⟩:=H.ex
 exact (V1k f).mono fun _ _ ⟨d,h2,h3⟩=>⟨d,h2,(A4.mk (R:=fun a:Bool=>wrT (W2e p a) (acc.drop (8*(D4 acc).length))) a h3.swap).swap⟩
theorem W7f {M:Z5h} {F:Nat→List E3→List Nat→Nat→List Nat} {x:List Nat} {s:O6 M.St} {T:List Nat} {e:Nat} (L:V0 M) (HF:Z19 F) (h:O4 M x s T e) (hx:x.length≤most) (he:e≤100000):
  (R0 F true (T1 M F true s)).acc.length < 1000000000:=by
 have a:=(X0s L HF h hx).2.2.1
 have b:most=16777216:=rfl
 have d:(R0 F true (T1 M F true s)).acc.length≤(L3 M F s).length:=by
  unfold L3 J2
  rw [T02];omega
 rw [T02] at a
 omega
theorem X8n {s:O6 U5} {p:C4} {x T:List Nat} {e:Nat} (H:A4 w0 w (Q8 s p::Rs)) (hO:Z4p w0) (HI:O4 K5 x s T e) (hx:x.length≤most) (he:e≤100000):
  Calls Tryz.prog 20 #[.pointer (some ⟨p.b,p.o,none⟩)] w fun e w'=>e= .returned (.int .i64 0)∧A4 w0 w' (Z33 (L3 K5 (I0 D2) s) p::Rs):=by
 obtain ⟨C,X,bs,rv,lv,d,sp,c,r,h1,g⟩:=Z26 H
 have t:=h1.objp.cell (i:=16) rfl
 have y:=A5 (Y47 H hO HI hx (by omega) true)
 have z:O4 K5 x (T1 K5 (I0 D2) true s) T e:=Y18 Z50 Y3r HI true hx
 have f:=W5q z hx (by omega)
 have m:=W7f (F:=I0 D2) Z50 Y3r HI hx he
 have hF:L3 K5 (I0 D2) s=J2 (R0 (St:=U5) (I0 D2) true (T1 K5 (I0 D2) true s)).acc:=rfl
 have j:(R0 (St:=U5) (I0 D2) true (T1 K5 (I0 D2) true s)).acc.length < 1000000000:=m
 rw [hF]
 clear h1 r g hF z m
 generalize T1 K5 (I0 D2) true s=u at*
 have HN:=A5 f
 have HC:=A5 j
 have l:=A5 (fun (wz:World) (h:A4 w0 wz (Q8 (u:O6 U5) p::Rs))=>Y7l h hO true f.1 f.2.1 f.2.2.1 f.2.2.2.1 f.2.2.2.2.1 f.2.2.2.2.2.1 f.2.2.2.2.2.2)
 generalize R0 (St:=U5) (I0 D2) true u=u2 at HC l⊢
 clear f j HI H
 go_enter Tryz.func20,Tryz.ntmps20
 go_wp2_with fail
 with_reducible refine y.out.mono ?_
 rintro e1 w1 ⟨rfl,k⟩
 have n:=A5 (l.out _ k)
 clear k y l t
 go_wp2_with fail
 with_reducible refine n.out.mono ?_
 rintro e1 w2 ⟨rfl,k⟩
 have q:=A5 (X94 k (by have:=HC.out;omega))
 clear k n
 go_wp2_with fail
 with_reducible refine q.out.mono ?_
 rintro e1 w3 ⟨rfl,k⟩
 obtain ⟨C,X,bs,rv,lv,d,sp,c,r,a,g⟩:=Z26 k
 have HF:=A5 r
 have H2:=A5 a
 have z0:=a.objp.cell0 rfl
 have f0:=a.objp.frozen0
 have z1:=a.objp.cell (i:=1) rfl
 have f1:=a.objp.frozen 1
 have z2:=a.objp.cell (i:=2) rfl
 have f2:=a.objp.frozen 2
 have z3:=a.objp.cell (i:=3) rfl
 have f3:=a.objp.frozen 3
 have z4:=a.objp.cell (i:=4) rfl
 have f4:=a.objp.frozen 4
 have z5:=a.objp.cell (i:=5) rfl
 have f5:=a.objp.frozen 5
 have z6:=a.objp.cell (i:=6) rfl
 have f6:=a.objp.frozen 6
 have z7:=a.objp.cell (i:=7) rfl
 have f7:=a.objp.frozen 7
 have z8:=a.objp.cell (i:=8) rfl
 have f8:=a.objp.frozen 8
 have z9:=a.objp.cell (i:=9) rfl
 have f9:=a.objp.frozen 9
 have a8:=a.objp.cell (i:=10) rfl
 have a9:=a.objp.frozen 10
 have b0:=a.objp.cell (i:=11) rfl
 have b1:=a.objp.frozen 11
 have H3:=A5 (((((((((((((H2.out.setObjP0 (.int .i64 0)).setObjP 1 (.int .i64 0)).setObjP 2 (.int .i64 0)).setObjP 3 (.slice none 0 0)).setObjP 4 (.int .i64 0)).setObjP 5 (.map none)).setObjP 6 (.map none)).setObjP 7 (.slice none 0 0)).setObjP 8 (.int .i64 0)).setObjP 9 (.slice none 0 0)).setObjP 10 (.slice none 0 0)).setObjP 11 (.int .i64 0)).setObjP 16 (.bool true))
 have b3:=a.objp.cell (i:=16) rfl
 have b4:=a.objp.frozen 16
 clear k a r g q
 go_wp2
 go_ret
 refine ⟨rfl, ?_⟩
 have h5:A4 w0 _ (Q0 p (W2d++[d,.int .u64 (sp:Int),.int .i64 (c:Int),.bool u2.packs,.bool true])::_):=H3.out
 rw [←X6y] at h5
 exact A4.mk (R:=fun pk:Bool=>wrT (W2e p pk) (J2 u2.acc)) u2.packs (X3n HF.out h5.swap.drop.swap.drop.third.drop)
theorem X5c {acc:List Nat} {p:C4} (H:A4 w0 w (Z33 acc p::Rs)) (v:Value):
  Calls Tryz.prog 28 #[.pointer (some ⟨p.b,p.o,none⟩),v] w fun e w'=>e= .returned (.int .i64 8)∧A4 w0 w' (Z33 acc p::Rs):=by
 have a:∀o,(w.alloc o).cell? ⟨p.b,p.o+16,none⟩=some (.bool true):=fun o=>W3r (H.alloc o)
 have d:=A5 (H.alloc (.cells #[.pointer (some ⟨p.b,p.o,none⟩)] 42))
 clear H
 refine (callsIn_wide (n:=3)).1 ?_
 refine callsIn_of_wp_marks Tryz.func28 rfl trivial ?_ rfl
 simp only [Tryz.ntmps28,T07,T08,T09,T0a,T0b,T0c,T0d,T0e,T0f,T04,T03]
 gi_wp2_with fail
 exact ⟨_,results_tmp rfl _ _ _,rfl,d.out⟩
theorem Y6s {acc:List Nat} {p:C4} (H:A4 w0 w (Z33 acc p::Rs)):
  Calls Tryz.prog 19 #[.pointer (some ⟨p.b,p.o,none⟩)] w fun e w'=>∃d,e= .returned d∧A4 w0 w' (B0 5 1 d (D4 acc).length (D9 (D4 acc))::Z33 (acc.drop (8*(D4 acc).length)) p::Rs):=by
 have f:=A5 (W4z H)
 clear H
 go_enter Tryz.func19,Tryz.ntmps19
 go_wp2_with fail
 with_reducible refine f.out.mono ?_
 rintro e j ⟨d,rfl,a⟩
 obtain ⟨k,i,rfl,_,_⟩:=a.own.form
 have g:=A5 a
 clear a f
 go_wp2
 go_ret
 exact ⟨_,rfl,g.out⟩
theorem W63 {s:O6 U5} {p:C4} (H:A4 w0 w (Q8 s p::Rs)):
  Calls Tryz.prog 19 #[.pointer (some ⟨p.b,p.o,none⟩)] w fun e w'=>∃d,e= .returned d∧A4 w0 w' (B0 5 1 d (D4 s.acc).length (D9 (D4 s.acc))::Q8 (Z4y s) p::Rs):=by
 have f:=A5 (W8b H)
 clear H
 go_enter Tryz.func19,Tryz.ntmps19
 go_wp2_with fail
 with_reducible refine f.out.mono ?_
 rintro e j ⟨d,rfl,a⟩
 obtain ⟨k,i,rfl,_,_⟩:=a.own.form
 have g:=A5 a
 clear a f
 go_wp2
 go_ret
 exact ⟨_,rfl,g.out⟩
end
end Go.Proofs.YtbkbkmgogbgofaaGreatDoor
