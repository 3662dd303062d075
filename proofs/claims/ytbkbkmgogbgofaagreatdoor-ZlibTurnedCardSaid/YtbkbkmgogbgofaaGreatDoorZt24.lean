/- The claim's texts, put together and shortened by a program (names, spaces). -/
import Derived.Test.YtbkbkmgogbgofaaGreatDoorZt23
import Derived.Test.YtbkbkmgogbgofaaGreatDoorZt03
import Derived.StillTailTactics
import Derived.Test.YtbkbkmgogbgofaaGreatDoorZt12
import Derived.Handy
open List renaming getElem?_set→T01,getElem?_eq_getElem→T04,getElem?_append_right→T05,getElem?_append_left→T06,length_range→T0a,getElem?_eq_none→T0b,take_of_length_le→T0c,mem_of_getElem?→T0d,length_cons→T0e,length_drop→T0g
open Nat renaming le_refl→T00,add_zero→T03,min_eq_left→T08,min_eq_right→T09
open Int renaming natCast_nonneg→T02,eq_ofNat_of_zero_le→T07
open Option renaming getD_some→T0f
namespace Go.Proofs.YtbkbkmgogbgofaaGreatDoor
set_option maxRecDepth 100000
set_option maxHeartbeats 6400000
open Go.RowKit
def Z2q (l:List E1):List Nat:=(List.range 286).map (litN l)++(Z0o l++[Z5a l])
def Z4s (l:List E1):List Nat:=Z1j l++(Z0o l++[Z5a l])
theorem T6 (l:List E1):(Z2q l).length=317:=by simp [Z2q,Z0o]
theorem Y4i (l:List E1):(Z4s l).length=317:=by simp [Z4s,Z0o,Z1j]
theorem Z3h (l:List E1) {k:Nat} (h:k < 286):(Z2q l)[k]?=some (litN l k):=by
 unfold Z2q
 rw [T06 (by simpa using h),List.getElem?_map,List.getElem?_range h];rfl
theorem Z7r (l:List E1) {k:Nat} (h:k < 30):(Z2q l)[286+k]?=some (Z5z l k):=by
 unfold Z2q
 rw [T05 (by simp),List.length_map,T0a,Nat.add_sub_cancel_left,T06 (by rw [N5];exact h),X43 l h]
theorem Y0j (l:List E1):(Z2q l)[316]?=some (Z5a l):=by
 unfold Z2q
 rw [T05 (by simp),List.length_map,T0a,T05 (by rw [N5];decide),N5];rfl
theorem Z8r {a b:List Nat} (hl:a.length=b.length) (h:∀k,k < b.length→a[k]?=b[k]?):a=b:=by
 refine List.ext_getElem? fun k=> ?_
 by_cases d:k < b.length
 ·exact h k d
 rw [T0b (by omega),T0b (by omega)]
theorem Z9t {P:Nat→Prop} (h1:∀k,k < 286→P k) (h2:∀k,k < 30→P (286+k)) (h3:P 316):∀k,k < 317→P k:=fun k hk=>by
 by_cases c:k < 286
 ·exact h1 k c
 by_cases c2:k < 316
 ·have:=h2 (k-286) (by omega)
  rwa [show 286+(k-286)=k by omega] at this
 obtain rfl:k=316:=by omega
 exact h3
theorem W8c (l:List E1) (t:E1) (h0:t.2.1=0) (hs:X0 t < 286):(Z2q l).set (X0 t) (litN l (X0 t)+1)=Z2q (l++[t]):=by
 refine Z8r (by simp [T6]) ?_
 rw [T6]
 refine Z9t (fun k hk=> ?_) (fun k hk=> ?_) ?_
 ·rw [T01,Z3h _ hk,Z3h _ hk,X04,T6]
  by_cases c:X0 t=k
  ·subst c
   rw [if_pos rfl,if_pos (by omega),if_pos rfl]
  rw [if_neg c,if_neg c,T03]
 ·rw [T01,if_neg (by omega),Z7r _ hk,Z7r _ hk,X0f,if_neg (fun h=>h.1 h0),T03]
 rw [T01,if_neg (by omega),Y0j,Y0j,Y9v,Y7i,if_pos h0,T03]
theorem W0k (l:List E1) (t:E1) (h0:t.2.1≠0) (hs:X0 t < 286) (hq:Z2h t < 30):
  (((Z2q l).set (X0 t) (litN l (X0 t)+1)).set (286+Z2h t) (Z5z l (Z2h t)+1)).set 316 (Z5a l+Y7i t)=Z2q (l++[t]):=by
 refine Z8r (by simp [T6]) ?_
 rw [T6]
 refine Z9t (fun k hk=> ?_) (fun k hk=> ?_) ?_
 ·rw [T01,if_neg (by omega),T01,if_neg (by omega),T01,Z3h _ hk,Z3h _ hk,X04,T6]
  by_cases c:X0 t=k
  ·subst c
   rw [if_pos rfl,if_pos (by omega),if_pos rfl]
  rw [if_neg c,if_neg c,T03]
 ·rw [T01,if_neg (by omega),T01,X0f l t k |> fun e=>Z7r (l++[t]) hk |>.trans (congrArg some e)]
  rw [List.length_set,T6]
  by_cases c:Z2h t=k
  ·subst c
   rw [if_pos rfl,if_pos (by omega),if_pos ⟨h0,rfl⟩]
  rw [if_neg (by omega),T01,if_neg (by omega),Z7r _ hk,if_neg (fun h=>c h.2),T03]
 rw [T01,if_pos rfl,if_pos (by simp [T6]),Y0j,Y9v]
theorem V01 (l:List E1):(Z2q l).set 256 (litN l 256+1)=Z4s l:=by
 refine Z8r (by simp [T6,Y4i]) ?_
 rw [Y4i]
 have d:∀k,286≤k→(Z4s l)[k]?=(Z2q l)[k]?:=fun k hk=>by
  have e:∀a b:List Nat,a.length=286→(a++b)[k]?=b[k-286]?:=fun a b ha=>by rw [T05 (by omega),ha]
  unfold Z4s Z2q
  rw [e _ _ (N3 l),e _ _ (by simp)]
 refine Z9t (fun k hk=> ?_) (fun k hk=> ?_) ?_
 ·have e:(Z4s l)[k]?=some (Z5v l k):=by
   unfold Z4s
   rw [T06 (by rw [N3];exact hk),X5q l hk]
  rw [e,T01,Z3h _ hk,T6]
  unfold Z5v
  by_cases c:256=k
  ·subst c;rfl
  rw [if_neg c,if_neg c,T03]
 ·rw [d _ (by omega),T01,if_neg (by omega)]
 rw [d _ (by omega),T01,if_neg (by omega)]
section
variable {P:Program} {w:World}
theorem Y7b (t:TypeId) (z:Array Value) (fields:Array Field) (hz:(P.info? t).map (·.zero)=some (some (.agg z))) (ht:P.underlying t=some (.struct fields))
  (ps:Array (Nat×Nat)) (hp:(fields.mapM (m:=Sem) fun f=>do pure (f.offset,←sizeOf f.type)).run P w= .ok ps w):(Instr.build t #[]).run P w= .ok (.agg z) w:=by
 cases hq:P.info? t with
 | none=>simp [hq] at hz
 | some i=>
  have b:i.zero=some (.agg z):=by simpa [hq] using hz
  have a:(zeroValue t).run P w= .ok (.agg z) w:=by
   unfold zeroValue
   simp [typeInfo,hq,b]
  unfold Instr.build
  simp only [Sem.run_bind,a,Result.andThen_ok,run_underlying ht w,hp,Instr.fill,Value.cells,Sem.run_pure]
theorem Y18 {ops:Array Oper} {rest:List Oper} {o:Oper} {ac:Act} {Q:Exit→Act→World→Prop} (hgd:o.guard=none) (t:TypeId) (ho:o.op= .build t #[])
  (z:Array Value) (fields:Array Field) (hz:(P.info? t).map (·.zero)=some (some (.agg z))) (ht:P.underlying t=some (.struct fields))
  (ps:Array (Nat×Nat)) (hp:(fields.mapM (m:=Sem) fun f=>do pure (f.offset,←sizeOf f.type)).run P w= .ok ps w)
  (h:wpList P ops Q rest (ac.put o.dst (.agg z)) w):wpList P ops Q (o::rest) ac w:=
 wpList_plain hgd fun _ hK=>by
  have hr:=Y7b (P:=P) (w:=w) t z fields hz ht ps hp
  unfold Oper.wp execOp
  simp only [ho,Sem.run_bind,Sem.run_pure,List.map_toArray,List.map_nil,hr,Result.andThen_ok]
  exact hK _ _ h
end
theorem V2o:(Tryz.prog.info? 172).map (·.zero)=some (some (.agg (D3 .i64 (Z2q [])).toArray)):=by kernel_rfl
theorem Y97 (v:Value) (n:Nat) (l:List E1) (w:World) (hv:Rd w 3 v n (I5 l)) (hn:n < 1048576) (hs:∀t∈l,E8 t=true) (hb:N9 l):
  Calls Tryz.prog 101 #[v] w fun e w'=>∃B,e= .returned (.pointer (some ⟨B,0,none⟩))∧A4 w w' [E7 B (D3 .i64 (Z4s l)) 172]:=by
 obtain ⟨ao,k0,rfl,_,_⟩:=hv.form
 have HL:=A5 hv.toks_len
 have HV:=A5 hv
 have HP:=A5 (And.intro hs hb)
 have i3:(0:Int)≤(n:Int):=T02 _
 clear hv hs hb
 go_enter Tryz.func101,Tryz.ntmps101
 go_wp2_with first
  | ((with_reducible show wpList _ _ _ (⟨some 12,_,_,_,_,_⟩::_) _ _);refine Y18 rfl 172 rfl (D3 .i64 (Z2q [])).toArray _ V2o Tryz.underlying172 _ (by kernel_rfl) ?_)
  | ((with_reducible show wpList _ _ _ (⟨some 13,_,_,_,_,_⟩::_) _ _);refine Z4m rfl 172 (.tmp 12) rfl .i64 (Z2q []) rfl ?_)
  | fail
 have H0:Hid (A4 w (w.alloc (.cells (D3 .i64 (Z2q [])).toArray 172)) [E7 w.heap.size (D3 .i64 (Z2q [])) 172]):=A5 ((A4.start w).newObj _ _)
 go_loopg [16] (n+1) (fun k t16 wr=>∃i:Nat,i≤n∧n-i < k∧t16= .int .i64 (i:Int)∧Hid (A4 w wr [E7 w.heap.size (D3 .i64 (Z2q (l.take i))) 172]))
 case atStart=>exact ⟨0,by omega,by omega,rfl,H0⟩
 case round=>
  obtain ⟨i,hi,hk,rfl,HH⟩:=hrel
  have i5:(0:Int)≤(i:Int):=T02 _
  by_cases j8:i < n
  rotate_left
  ·have e4:¬(i:Int) < (n:Int):=by omega
   have hK:l.take i=l:=T0c (by have:=HL.out;omega)
   rw [hK] at HH
   have a5:litN l 256≤1048576:=by have h1:=X26 l 256;have:=HL.out;omega
   have hg:=Z3h l (k:=256) (by decide)
   have d2:=A5 (V01 l)
   obtain ⟨x,hx⟩:∃x,x=litN l 256:=⟨_,rfl⟩
   rw [←hx] at hg d2 a5
   have k1:=HH.out.obj.cell (i:=256) (v:= .int .i64 (x:Int)) (by simp [D3,hg])
   have f1:=HH.out.obj.frozen 256
   clear hg hx hK
   go_wp2_with fail
   go_still_tail 9,(by kernel_rfl)
   change wpList _ _ _ _ _ (World.drew _)
   have h4:=HH.out.drew.setObj 256 (.int .i64 ((x:Int)+1))
   have H4:Hid (A4 w (wr.drew.setCell ⟨w.heap.size,256,none⟩ (.int .i64 ((x:Int)+1))) [E7 w.heap.size (D3 .i64 (Z4s l)) 172]):=by
    have h7:A4 w _ [E7 w.heap.size ((D3 .i64 (Z2q l)).set 256 (.int .i64 ((x+1:Nat):Int))) 172]:=h4
    rw [Y4,d2.out] at h7
    exact A5 h7
   clear h4
   go_wp2
   go_ret
   exact ⟨_,rfl,H4.out⟩
  have e4:(i:Int) < (n:Int):=by omega
  obtain ⟨⟨ta,b,a⟩,ht⟩:∃t,l[i]?=some t:=⟨l[i]'(by have:=HL.out;omega),T04 _⟩
  obtain ⟨g,k4,rfl,c0,c1,c2⟩:=(HH.out.old HV.out).tok ht
  have a8:=T0d ht
  have r:=HP.out.1 _ a8
  have a2:=HP.out.2 _ a8
  have a3:l.take (i+1)=l.take i++[(ta,b,a)]:=by rw [List.take_add_one,ht];rfl
  have a4:(l.take i).length≤1048576:=by simp;omega
  have a9:=Y21 r a2
  have HA:=A5 (HH.out.newObj [.int .u8 ta,.int .i64 b,.int .i64 a] 112)
  obtain ⟨K,hK⟩:∃K,K=l.take i:=⟨_,rfl⟩
  rw [←hK] at HA a3 a4
  have b0:∀k,litN K k≤1048576:=fun k=>Nat.le_trans (X26 K k) a4
  have b4:∀k,Z5z K k≤1048576:=fun k=>Nat.le_trans (X3o K k) a4
  by_cases j:b=0
  ·subst j
   obtain ⟨z,rfl⟩:=T07 a2.1
   have hz:z≤255:=by have:(z:Int)≤255:=a2.2;omega
   have a0:X0 ((z:Int),0,a)=z:=by unfold X0;rw [if_pos rfl];rfl
   have m:=W8c K ((z:Int),0,a) rfl a9
   rw [a0,←a3] at m
   obtain ⟨x,hx⟩:∃x,x=litN K z:=⟨_,rfl⟩
   have a5:=b0 z
   have b5:=Z3h K (k:=z) (by omega)
   rw [←hx] at m a5 b5
   have kx:=HA.out.swap.obj.cell (i:=z) (v:= .int .i64 (x:Int)) (by simp [D3,b5])
   have fx:=HA.out.swap.obj.frozen z
   have t0:=HA.out.obj.cell (i:=0) rfl
   have i9:(z:Int) < 286:=by omega
   have j0:(0:Int)≤(z:Int):=T02 _
   have H9:Hid (A4 w (((wr.alloc (.cells #[.int .u8 (z:Int),.int .i64 0,.int .i64 a] 112)).drew).setCell ⟨w.heap.size,z,none⟩ (.int .i64 ((x+1:Nat):Int))) [E7 w.heap.size (D3 .i64 (Z2q (l.take (i+1)))) 172]):=by
    have h:=(HA.out.swap.drew.setObj z (.int .i64 ((x+1:Nat):Int))).one
    rw [Y4,m] at h
    exact A5 h
   clear HA m b5 hx hK a3 ht a8 r a2 a9 a0 b0 b4
   go_wp2
   generalize wr.alloc (.cells #[.int .u8 (z:Int),.int .i64 0,.int .i64 a] 112)=w2 at kx fx t0 H9⊢
   go_still_tail 11,(by kernel_rfl)
   change wpList _ _ _ _ _ (World.drew _)
   go_wp2
   go_roundg (gk-1)
   case measure=>omega
   case rel=>exact ⟨i+1,by omega,by omega,by go_num,H9⟩
  obtain ⟨b6,⟨c5,c6⟩,c7,c8⟩:=V2 r j
  have b6:ta=0:=b6
  have c5:3≤b:=c5
  have c6:b≤258:=c6
  have c7:1≤a:=c7
  have c8:a≤32768:=c8
  subst b6
  have a1:=Y19 r j
  have d:=Z6c r j
  have f:=W0k K (0,b,a) j a9 d.1
  have a0:X0 (0,b,a)=257+Y0a (0,b,a):=by unfold X0;rw [if_neg j]
  have b1:Y7i (0,b,a)=lX (Y0a (0,b,a))+dX (Z2h (0,b,a)):=by unfold Y7i;rw [if_neg j]
  rw [a0,b1,←a3] at f
  generalize Y0a (0,b,a)=c at a1 f a0 b1
  generalize Z2h (0,b,a)=q at d f b1
  obtain ⟨b,rfl⟩:=T07 (show 0≤b by omega)
  obtain ⟨a,rfl⟩:=T07 (show 0≤a by omega)
  simp only [Int.toNat_natCast] at a1 d
  have e5:=X12 c a1.1
  have e6:=X0w q d.1
  have g0:=a1.1
  have c9:=d.1
  have hL:=A5 (Y3q ((b:Nat):Int))
  have hD:=A5 (Y20 ((a:Nat):Int))
  obtain ⟨lx,o⟩:∃lx,lx=lX c:=⟨_,rfl⟩
  obtain ⟨dx,p⟩:∃dx,dx=dX q:=⟨_,rfl⟩
  obtain ⟨x,hx⟩:∃x,x=litN K (257+c):=⟨_,rfl⟩
  obtain ⟨y,hy⟩:∃y,y=Z5z K q:=⟨_,rfl⟩
  obtain ⟨u,hu⟩:∃u,u=Z5a K:=⟨_,rfl⟩
  rw [←hx,←hy,←hu,←o,←p] at f
  rw [←o] at e5
  rw [←p] at e6
  have a5:=b0 (257+c)
  have e7:=b4 q
  have e8:u≤18*K.length:=by
   rw [hu]
   have:∀L:List E1,(∀t∈L,E8 t=true)→Z5a L≤18*L.length:=by
    intro L
    induction L with
    | nil=>intro _;exact T00 _
    | cons t L ih=>
     intro h
     have h1:=ih fun s hs=>h s (List.mem_cons_of_mem _ hs)
     have h2:=X36 (h t (List.mem_cons_self ..))
     simp only [Z5a,List.map_cons,List.sum_cons,T0e] at h1⊢
     omega
   refine this K fun t ht2=>HP.out.1 t ?_
   rw [hK] at ht2
   exact List.mem_of_mem_take ht2
  rw [←hx] at a5
  rw [←hy] at e7
  have g1:=Z3h K (k:=257+c) (by omega)
  have g2:=Z7r K (k:=q) c9
  have g3:=Y0j K
  rw [←hx] at g1
  rw [←hy] at g2
  rw [←hu] at g3
  have d0:Hid (∀v,Z8d ((b:Nat):Int) v→v= .tuple #[.int .i64 ((257+c:Nat):Int),.int .i64 (lx:Int),.int .i64 ((b-lB c:Nat):Int)]):=A5 fun v hv=>by
   rcases hv with ⟨h,_⟩ | ⟨k,c2,q2,x2,z2,e1,_,_,e2,rfl,rfl,rfl,rfl⟩
   ·omega
   obtain rfl:b=k:=by omega
   obtain rfl:=e2.same a1
   rw [o]
  have e9:Hid (∀v,Z6i ((a:Nat):Int) v→v= .tuple #[.int .i64 (q:Int),.int .i64 (dx:Int),.int .i64 ((a-dB q:Nat):Int)]):=A5 fun v hv=>by
   rcases hv with ⟨h,_⟩ | ⟨k,c2,q2,x2,z2,e1,_,_,e2,rfl,rfl,rfl,rfl⟩
   ·omega
   obtain rfl:a=k:=by omega
   obtain rfl:=e2.same d
   rw [p,Nat.zero_add]
  obtain ⟨s,hs⟩:∃s,s=257+c:=⟨_,rfl⟩
  rw [←hs] at f g1 d0
  have j1:(s:Int) < 286:=by omega
  have j2:(q:Int) < 30:=by omega
  have j3:(0:Int)≤(s:Int):=T02 _
  have j4:(0:Int)≤(q:Int):=T02 _
  have j5:s < 286:=by omega
  have HB:=HA.out.swap
  have t1:=HA.out.obj.cell (i:=1) rfl
  have t2:=HA.out.obj.cell (i:=2) rfl
  have k1:=HB.obj.cell (i:=s) (v:= .int .i64 (x:Int)) (by simp [D3,g1])
  have k2:=HB.obj.cell (i:=286+q) (v:= .int .i64 (y:Int)) (by simp [D3,g2])
  have k3:=HB.obj.cell (i:=316) (v:= .int .i64 (u:Int)) (by simp [D3,g3])
  have f1:=HB.obj.frozen s
  have f2:=HB.obj.frozen (286+q)
  have f3:=HB.obj.frozen 316
  have j6:u≤18*1048576:=by omega
  have b7:=A5 HB
  have f5:=A5 f
  have G2:Hid ((D3 .i64 (Z2q K))[286+q]?=some (.int .i64 (y:Int))∧(D3 .i64 (Z2q K))[316]?=some (.int .i64 (u:Int))):=A5 ⟨by simp [D3,g2],by simp [D3,g3]⟩
  clear k2 k3 f2 f3
  clear HA HB f g1 g2 g3 hx hy hu hK a3 ht a8 r a2 a9 a0 b0 b4 a1 d o p b1 e8 hs
  go_wp2_with fail
  refine (hL.out _).mono ?_
  rintro e w3 ⟨⟨v,rfl,hv⟩,rfl⟩
  obtain rfl:=d0.out v hv
  clear hv hL
  go_wp2_with fail
  refine (hD.out _).mono ?_
  rintro e w3 ⟨⟨v,rfl,hv⟩,rfl⟩
  obtain rfl:=e9.out v hv
  clear hv hD
  go_wp2
  generalize wr.alloc (.cells #[.int .u8 0,.int .i64 ((b:Nat):Int),.int .i64 ((a:Nat):Int)] 112)=w2 at k1 f1 t1 t2 b7⊢
  go_still_tail 10,(by kernel_rfl)
  change wpList _ _ _ _ _ (World.drew _)
  go_wp2
  have h4:=(b7.out.setObj s (.int .i64 ((x:Int)+1))).drew
  generalize (w2.setCell ⟨w.heap.size,s,none⟩ (.int .i64 ((x:Int)+1))).drew=w4 at h4⊢
  have k2:=h4.obj.cell (i:=286+q) (v:= .int .i64 (y:Int)) (by rw [T01,if_neg (by omega)];exact G2.out.1)
  have f2:=h4.obj.frozen (286+q)
  have H4:=A5 h4
  clear h4 b7 k1 f1 t1 t2
  go_still_tail 10,(by kernel_rfl)
  change wpList _ _ _ _ _ (World.drew _)
  have h5:=(H4.out.setObj (286+q) (.int .i64 ((y:Int)+1))).drew
  have k3:=h5.obj.cell (i:=316) (v:= .int .i64 (u:Int)) (by rw [T01,if_neg (by omega),T01,if_neg (by omega)];exact G2.out.2)
  have f3:=h5.obj.frozen 316
  have h6:=h5.setObj 316 (.int .i64 ((u:Int)+((lx:Int)+(dx:Int))))
  have H6:Hid (A4 w (((w4.setCell ⟨w.heap.size,286+q,none⟩ (.int .i64 ((y:Int)+1))).drew).setCell ⟨w.heap.size,316,none⟩ (.int .i64 ((u:Int)+((lx:Int)+(dx:Int))))) [E7 w.heap.size (D3 .i64 (Z2q (l.take (i+1)))) 172]):=by
   have h7:A4 w _ [E7 w.heap.size ((((D3 .i64 (Z2q K)).set s (.int .i64 ((x+1:Nat):Int))).set (286+q) (.int .i64 ((y+1:Nat):Int))).set 316 (.int .i64 ((u+(lx+dx):Nat):Int))) 172]:=h6.one
   rw [Y4,Y4,Y4,f5.out] at h7
   exact A5 h7
  clear h5 h6
  go_wp2
  go_roundg (gk-1)
  case measure=>omega
  case rel=>exact ⟨i+1,by omega,by omega,by go_num,H6⟩
theorem W4p (v:Value) (n:Nat) (l:List Int) (w:World) (hv:Rd w 1 v n (D2 l)) (hn:n < 1000000) (h1:1≤n):
  Calls Tryz.prog 189 #[v] w fun e w'=>e= .returned (.int .i64 ((N1 (l[0]?.getD 0) l:Nat):Int))∧∃c,w'=w.drewN c:=by
 obtain ⟨g,b,a3,a⟩:∃g b,(∃o,v= .slice (some ⟨g,b,none⟩) n o)∧∀j u,(D2 l)[j]?=some u→w.cell? ⟨g,b+j,none⟩=some u:=by
  obtain ⟨ao,o,rfl,_,_⟩:=hv.form
  obtain ⟨g,b,rfl,h⟩:=hv.spot (by omega)
  exact ⟨g,b,⟨o,rfl⟩,h⟩
 obtain ⟨o,rfl⟩:=a3
 have p:l.length=n:=by have:=hv.1;rw [L4] at this;omega
 obtain ⟨z,hz⟩:∃z,l[0]?=some z:=⟨l[0]'(by omega),T04 _⟩
 have HC:=A5 a
 have c0:=a 0 _ (by rw [G5,hz];rfl)
 rw [T03] at c0
 rw [hz]
 simp only [T0f]
 have a0:=A5 p
 have q:=Y1f z l
 rw [p] at q
 obtain ⟨r,hr⟩:∃r,r=N1 z l:=⟨_,rfl⟩
 rw [←hr] at q⊢
 have HR:=A5 hr
 have a9:(0:Int)≤(n:Int):=T02 _
 clear hv a hz p hr
 go_enter Tryz.func189,Tryz.ntmps189
 go_wp2
 go_loopg [3] (n+1) (fun k t3 wr=>∃ (i d:Nat),i≤r∧n-i < k∧t3= .int .i64 (i:Int)∧wr=w.drewN d)
 case atStart=>exact ⟨0,0,by omega,by omega,rfl,rfl⟩
 case round=>
  obtain ⟨i,d,hi,hk,rfl,rfl⟩:=hrel
  have b0:(0:Int)≤(i:Int):=T02 _
  by_cases b4:i < n
  rotate_left
  ·have a1:decide ((i:Int) < (n:Int))=false:=by simp;omega
   have s:decide (i < n)=false:=by simp;omega
   have f:i=r:=by omega
   subst f
   go_wp2_with fail
   go_quiet (fail)
   go_wp2
   go_ret
   exact ⟨rfl,_,Z25 _ _ _⟩
  have a1:decide ((i:Int) < (n:Int))=true:=by simp;omega
  have s:decide (i < n)=true:=by simp;omega
  have b1:(i:Int) < (n:Int):=by omega
  have b2:(0:Int) < (n:Int):=by omega
  obtain ⟨x,t⟩:∃x,l[i]?=some x:=⟨l[i]'(by have:=a0.out;omega),T04 _⟩
  have c1:=HC.out i _ (by rw [G5,t];rfl)
  by_cases m:x=z
  ·have f:i+1≤r:=by
    refine Classical.byContradiction fun h=> ?_
    obtain rfl:r=i:=by omega
    have y:=HR.out
    have h3:=Y5l z l x (by rw [←y];exact t)
    exact h3 m
   have a2:(x==z)=true:=by simp [m]
   clear t
   go_wp2_with fail
   go_quiet (fail)
   go_wp2
   go_roundg (gk-1)
   case measure=>omega
   case rel=>exact ⟨i+1,_,by omega,by omega,by go_num,rfl⟩
  have f:i=r:=by
   refine Classical.byContradiction fun h=>m ?_
   have y:=Y2i z l i (by have:=HR.out;omega)
   rw [t] at y
   simpa using y
  have a2:(x==z)=false:=by simp [m]
  clear t
  subst f
  go_wp2_with fail
  go_quiet (fail)
  go_wp2
  go_ret
  exact ⟨rfl,_,Z25 _ _ _⟩
theorem Z9f (sy ex le mx r:Nat) (hc:sy=18∧ex=7∧le=11∧mx=138∨sy=17∧ex=3∧le=3∧mx=10∨sy=16∧ex=2∧le=3∧mx=6) (hr:le≤r) (hr2:r < 1000000) (w:World):
  Calls Tryz.prog 190 #[.int .i64 (sy:Int),.int .i64 (ex:Int),.int .i64 (le:Int),.int .i64 (r:Int)] w fun e w'=>e= .returned (.tuple #[.agg #[.int .i64 (sy:Int),.int .i64 (ex:Int),.int .i64 ((min r mx-le:Nat):Int)],.int .i64 ((min r mx:Nat):Int)])∧E2 w w' (fun _=>False):=by
 have g:(0:Int)≤(r:Int):=T02 _
 rcases hc with ⟨rfl,rfl,rfl,rfl⟩ | ⟨rfl,rfl,rfl,rfl⟩ | ⟨rfl,rfl,rfl,rfl⟩
 ·by_cases f:r < 138
  ·have a:(r:Int) < 138:=by omega
   have b:(r:Int)-11=((r-11:Nat):Int):=by omega
   rw [T08 (by omega)]
   go_enter Tryz.func190,Tryz.ntmps190
   go_wp2
   go_returns
   exact ⟨rfl,(E2.refl _ _).alloc _⟩
  have a:¬(r:Int) < 138:=by omega
  have b:(if (r:Int) < 138 then (r:Int) else 138)=138:=if_neg a
  have d:(if (138:Int) < (r:Int) then (138:Int) else (r:Int))=138:=by
   split <;> omega
  rw [T09 (by omega)]
  go_enter Tryz.func190,Tryz.ntmps190
  go_wp2
  go_returns
  exact ⟨rfl,(E2.refl _ _).alloc _⟩
 ·by_cases f:r < 10
  ·have a:(r:Int) < 10:=by omega
   have b:(r:Int)-3=((r-3:Nat):Int):=by omega
   rw [T08 (by omega)]
   go_enter Tryz.func190,Tryz.ntmps190
   go_wp2
   go_returns
   exact ⟨rfl,(E2.refl _ _).alloc _⟩
  have a:¬(r:Int) < 10:=by omega
  have b:(if (r:Int) < 10 then (r:Int) else 10)=10:=if_neg a
  have d:(if (10:Int) < (r:Int) then (10:Int) else (r:Int))=10:=by
   split <;> omega
  rw [T09 (by omega)]
  go_enter Tryz.func190,Tryz.ntmps190
  go_wp2
  go_returns
  exact ⟨rfl,(E2.refl _ _).alloc _⟩
 by_cases f:r < 6
 ·have a:(r:Int) < 6:=by omega
  have b:(r:Int)-3=((r-3:Nat):Int):=by omega
  rw [T08 (by omega)]
  go_enter Tryz.func190,Tryz.ntmps190
  go_wp2
  go_returns
  exact ⟨rfl,(E2.refl _ _).alloc _⟩
 have a:¬(r:Int) < 6:=by omega
 have b:(if (r:Int) < 6 then (r:Int) else 6)=6:=if_neg a
 have d:(if (6:Int) < (r:Int) then (6:Int) else (r:Int))=6:=by
  split <;> omega
 rw [T09 (by omega)]
 go_enter Tryz.func190,Tryz.ntmps190
 go_wp2
 go_returns
 exact ⟨rfl,(E2.refl _ _).alloc _⟩
def itV (x:Y0):Value:= .agg #[.int .i64 (x.1:Int),.int .i64 (x.2.1:Int),.int .i64 (x.2.2:Int)]
theorem X1r (v:Value) (n a:Nat) (all:List Int) (w:World) (hv:Rd w 1 v n (D2 all)) (hn:n < 100000) (ha:a < n) (hA:∀x∈all,0≤x∧x≤15):
  Calls Tryz.prog 169 #[v,.int .i64 (a:Int)] w fun e w'=>e= .returned (.tuple #[itV (U7 all a).1,.int .i64 (((U7 all a).2:Nat):Int)])∧E2 w w' (fun _=>False):=by
 obtain ⟨i,hi,d,d9,f6⟩:=info_parts Z89
 obtain ⟨ao,a5,rfl,e0,f7⟩:=hv.form
 have c5:all.length=n:=by have:=hv.1;rw [L4] at this;omega
 have a4:=(hv.cut (L:=a) (H:=n) (by omega) (T00 _))
 have a7:∀wg,(Instr.sliceAt 52 (.slice ao n a5) (some (.int .i64 (a:Int))) none none).run Tryz.prog wg= .ok (sliced ao a n a5 1) wg:=fun wg=>
  N8 (P:=Tryz.prog) 52 3 i 1 Tryz.underlying52 hi d9 ao n a5 a n (some (.int .i64 (a:Int))) none ⟨_,rfl⟩ rfl (by omega) e0
 have e2:((D2 all).drop (a*1)).take ((n-a)*1)=D2 (all.drop a):=by
  rw [Nat.mul_one,Nat.mul_one,T0c (by rw [T0g,L4];omega)]
  simp [D2,List.map_drop]
 rw [e2] at a4
 generalize sliced ao a n a5 1=sv at a7 a4
 obtain ⟨g,a6,rfl,t⟩:=hv.spot (by omega)
 obtain ⟨z,hz⟩:∃z,all[a]?=some z:=⟨all[a]'(by omega),T04 _⟩
 have c0:=t a _ (by rw [G5,hz];rfl)
 have HQ:=A5 (fun k=>W4p sv (n-a) (all.drop a) ((w.alloc (.cells #[.int .i64 0,.int .i64 0,.int .i64 0] 205)).drewN k) ((a4.kept ((E2.refl w (fun _=>False)).alloc _) (fun _ _ h=>h)).drewTo rfl) (by omega) (by omega))
 have c6:(all.drop a)[0]?.getD 0=z:=by rw [List.getElem?_drop,T03,hz];rfl
 rw [c6] at HQ
 have y:=hA z (T0d hz)
 have c7:=Y1f z (all.drop a)
 rw [T0g,c5] at c7
 have hE:Hid (U7 all a=if z=0∧11≤N1 z (all.drop a) then ((18,7,min (N1 z (all.drop a)) 138-11),min (N1 z (all.drop a)) 138) else if z=0∧3≤N1 z (all.drop a) then ((17,3,min (N1 z (all.drop a)) 10-3),min (N1 z (all.drop a)) 10)
   else if 0 < a∧all[a-1]?.getD 0=z∧3≤N1 z (all.drop a) then ((16,2,min (N1 z (all.drop a)) 6-3),min (N1 z (all.drop a)) 6) else ((z.toNat,0,0),1)):=by
  unfold Hid U7
  rw [hz];rfl
 generalize N1 z (all.drop a)=r at hE HQ c7
 have e6:(0:Int)≤(a:Int):=T02 _
 have e7:(a:Int) < (n:Int):=by omega
 have e8:(0:Int)≤(r:Int):=T02 _
 have c8:=A5 (((hv.kept ((E2.refl w (fun _=>False)).alloc (.cells #[.int .i64 0,.int .i64 0,.int .i64 0] 205)) (fun _ _ h=>h)).at (u:= .int .i64 z) (j:=a) (by rw [G5,hz];rfl)))
 have HP:Hid (0 < a→w.cell? ⟨g,a6+(a-1),none⟩=some (.int .i64 (all[a-1]?.getD 0))):=A5 fun h=>t (a-1) _ (by rw [G5,T04 (by omega)];rfl)
 clear t hv a4 e2 c6 hz c5
 go_enter Tryz.func169,Tryz.ntmps169
 go_wp2_with fail
 have d3:(w.alloc (.cells #[.int .i64 0,.int .i64 0,.int .i64 0] 205)).cell? ⟨g,a6+a,none⟩=some (.int .i64 z):=c8.out
 go_quiet ((go_at_call 189;exact (HQ.out _).mono fun _ _ h=>⟨h.1,_,h.2.choose_spec.trans (Z25 _ _ _)⟩))
 obtain ⟨w1,c3⟩:∃w1,w1=(w.alloc (.cells #[.int .i64 0,.int .i64 0,.int .i64 0] 205)).drewN nq:=⟨_,rfl⟩
 have q:Hid (A4 w w1 [E7 w.heap.size [.int .i64 0,.int .i64 0,.int .i64 0] 205]):=by
  rw [c3];exact A5 (((A4.start w).newObj [.int .i64 0,.int .i64 0,.int .i64 0] 205).drewN _)
 have c9:Hid (0 < a→w1.cell? ⟨g,a6+(a-1),none⟩=some (.int .i64 (all[a-1]?.getD 0))):=A5 fun h=>by
  have b:=HP.out h
  rw [q.out.mod.cell (World.block_lt_of_cell? w _ b) (fun h=>h)];exact b
 rw [←c3]
 clear HQ a7 c8 d3 c0 HP c3
 generalize all[a-1]?.getD 0=p at hE c9
 have d0:Hid (0 < a→w1.cell? ⟨g,a6+(a-1),none⟩=some (.int .i64 p)):=c9
 by_cases d:z=0
 rotate_left
 ·have b1:(z==0)=false:=by simp [d]
  by_cases a3:0 < a
  rotate_left
  ·have b4:decide ((0:Int) < (a:Int))=false:=by simp;omega
   have f:Hid (U7 all a=((z.toNat,0,0),1)):=by
    unfold Hid;rw [hE.out,if_neg (fun h=>d h.1),if_neg (fun h=>d h.1),if_neg (fun h=>a3 h.1)]
   have o:Hid (((z.toNat:Nat):Int)=z):=A5 (by have:=y.1;omega)
   have b:=q.out
   have f0:=b.obj.frozen 0
   have f1:=b.obj.frozen 1
   have f2:=b.obj.frozen 2
   have k0:=b.obj.cell (i:=0) rfl
   have k1:=b.obj.cell (i:=1) rfl
   have k2:=b.obj.cell (i:=2) rfl
   have l:=A5 (((b.setObj 0 (.int .i64 z)).setObj 1 (.int .i64 0)).setObj 2 (.int .i64 0))
   have m:=A5 b.mod
   clear b q
   go_wp2
   try simp only [Exit.inBlock,Exit.then]
   refine M6 rfl _ 3 Tryz.underlying205 rfl (by kernel_rfl) w.heap.size [.int .i64 z,.int .i64 0,.int .i64 0] 205 _ rfl rfl rfl l.out.obj rfl ?_
   rw [f.out]
   unfold itV
   simp only [o.out]
   exact ⟨rfl,((m.out.setCell (.inl (T00 _)) _).setCell (.inl (T00 _)) _).setCell (.inl (T00 _)) _⟩
  have b4:decide ((0:Int) < (a:Int))=true:=by simp;omega
  have d6:(a:Int)-1=((a-1:Nat):Int):=by omega
  have d7:((a-1:Nat):Int) < (n:Int):=by omega
  have kp:=d0.out a3
  by_cases s:p=z
  rotate_left
  ·have b5:(p==z)=false:=by simp [s]
   have f:Hid (U7 all a=((z.toNat,0,0),1)):=by
    unfold Hid;rw [hE.out,if_neg (fun h=>d h.1),if_neg (fun h=>d h.1),if_neg (fun h=>s h.2.1)]
   have o:Hid (((z.toNat:Nat):Int)=z):=A5 (by have:=y.1;omega)
   have b:=q.out
   have f0:=b.obj.frozen 0
   have f1:=b.obj.frozen 1
   have f2:=b.obj.frozen 2
   have k0:=b.obj.cell (i:=0) rfl
   have k1:=b.obj.cell (i:=1) rfl
   have k2:=b.obj.cell (i:=2) rfl
   have l:=A5 (((b.setObj 0 (.int .i64 z)).setObj 1 (.int .i64 0)).setObj 2 (.int .i64 0))
   have m:=A5 b.mod
   clear b q
   go_wp2
   try simp only [Exit.inBlock,Exit.then]
   refine M6 rfl _ 3 Tryz.underlying205 rfl (by kernel_rfl) w.heap.size [.int .i64 z,.int .i64 0,.int .i64 0] 205 _ rfl rfl rfl l.out.obj rfl ?_
   rw [f.out]
   unfold itV
   simp only [o.out]
   exact ⟨rfl,((m.out.setCell (.inl (T00 _)) _).setCell (.inl (T00 _)) _).setCell (.inl (T00 _)) _⟩
  have b5:(p==z)=true:=by simp [s]
  by_cases h3:3≤r
  ·have b3:decide ((3:Int)≤(r:Int))=true:=by simp;omega
   have HX:=A5 (Z9f 16 2 3 6 r (.inr (.inr ⟨rfl,rfl,rfl,rfl⟩)) h3 (by omega) w1)
   have f:Hid (U7 all a=((16,2,min r 6-3),min r 6)):=by
    unfold Hid;rw [hE.out,if_neg (fun h=>d h.1),if_neg (fun h=>d h.1),if_pos ⟨a3,s,h3⟩]
   go_wp2_with fail
   refine HX.out.mono ?_
   rintro e w2 ⟨rfl,hm⟩
   have b:=q.out.same hm
   have f0:=b.obj.frozen 0
   have f1:=b.obj.frozen 1
   have f2:=b.obj.frozen 2
   have k0:=b.obj.cell (i:=0) rfl
   have k1:=b.obj.cell (i:=1) rfl
   have k2:=b.obj.cell (i:=2) rfl
   have l:=A5 (((b.setObj 0 (.int .i64 ((16:Nat):Int))).setObj 1 (.int .i64 ((2:Nat):Int))).setObj 2 (.int .i64 ((min r 6-3:Nat):Int)))
   have m:=A5 b.mod
   clear b hm HX
   go_wp2
   try simp only [Exit.inBlock,Exit.then]
   refine M6 rfl _ 3 Tryz.underlying205 rfl (by kernel_rfl) w.heap.size [.int .i64 ((16:Nat):Int),.int .i64 ((2:Nat):Int),.int .i64 ((min r 6-3:Nat):Int)] 205 _ rfl rfl rfl l.out.obj rfl ?_
   rw [f.out]
   exact ⟨rfl,((m.out.setCell (.inl (T00 _)) _).setCell (.inl (T00 _)) _).setCell (.inl (T00 _)) _⟩
  have b3:decide ((3:Int)≤(r:Int))=false:=by simp;omega
  have f:Hid (U7 all a=((z.toNat,0,0),1)):=by
   unfold Hid;rw [hE.out,if_neg (fun h=>d h.1),if_neg (fun h=>d h.1),if_neg (fun h=>h3 h.2.2)]
  have o:Hid (((z.toNat:Nat):Int)=z):=A5 (by have:=y.1;omega)
  have b:=q.out
  have f0:=b.obj.frozen 0
  have f1:=b.obj.frozen 1
  have f2:=b.obj.frozen 2
  have k0:=b.obj.cell (i:=0) rfl
  have k1:=b.obj.cell (i:=1) rfl
  have k2:=b.obj.cell (i:=2) rfl
  have l:=A5 (((b.setObj 0 (.int .i64 z)).setObj 1 (.int .i64 0)).setObj 2 (.int .i64 0))
  have m:=A5 b.mod
  clear b q
  go_wp2
  try simp only [Exit.inBlock,Exit.then]
  refine M6 rfl _ 3 Tryz.underlying205 rfl (by kernel_rfl) w.heap.size [.int .i64 z,.int .i64 0,.int .i64 0] 205 _ rfl rfl rfl l.out.obj rfl ?_
  rw [f.out]
  unfold itV
  simp only [o.out]
  exact ⟨rfl,((m.out.setCell (.inl (T00 _)) _).setCell (.inl (T00 _)) _).setCell (.inl (T00 _)) _⟩
 have b1:(z==0)=true:=by simp [d]
 by_cases a0:11≤r
 ·have b2:decide ((11:Int)≤(r:Int))=true:=by simp;omega
  have HX:=A5 (Z9f 18 7 11 138 r (.inl ⟨rfl,rfl,rfl,rfl⟩) a0 (by omega) w1)
  have f:Hid (U7 all a=((18,7,min r 138-11),min r 138)):=by
   unfold Hid;rw [hE.out,if_pos ⟨d,a0⟩]
  go_wp2_with fail
  refine HX.out.mono ?_
  rintro e w2 ⟨rfl,hm⟩
  have b:=q.out.same hm
  have f0:=b.obj.frozen 0
  have f1:=b.obj.frozen 1
  have f2:=b.obj.frozen 2
  have k0:=b.obj.cell (i:=0) rfl
  have k1:=b.obj.cell (i:=1) rfl
  have k2:=b.obj.cell (i:=2) rfl
  have l:=A5 (((b.setObj 0 (.int .i64 ((18:Nat):Int))).setObj 1 (.int .i64 ((7:Nat):Int))).setObj 2 (.int .i64 ((min r 138-11:Nat):Int)))
  have m:=A5 b.mod
  clear b hm HX
  go_wp2
  try simp only [Exit.inBlock,Exit.then]
  refine M6 rfl _ 3 Tryz.underlying205 rfl (by kernel_rfl) w.heap.size [.int .i64 ((18:Nat):Int),.int .i64 ((7:Nat):Int),.int .i64 ((min r 138-11:Nat):Int)] 205 _ rfl rfl rfl l.out.obj rfl ?_
  rw [f.out]
  exact ⟨rfl,((m.out.setCell (.inl (T00 _)) _).setCell (.inl (T00 _)) _).setCell (.inl (T00 _)) _⟩
 have b2:decide ((11:Int)≤(r:Int))=false:=by simp;omega
 by_cases h3:3≤r
 ·have b3:decide ((3:Int)≤(r:Int))=true:=by simp;omega
  have HX:=A5 (Z9f 17 3 3 10 r (.inr (.inl ⟨rfl,rfl,rfl,rfl⟩)) h3 (by omega) w1)
  have f:Hid (U7 all a=((17,3,min r 10-3),min r 10)):=by
   unfold Hid;rw [hE.out,if_neg (fun h=>a0 h.2),if_pos ⟨d,h3⟩]
  go_wp2_with fail
  refine HX.out.mono ?_
  rintro e w2 ⟨rfl,hm⟩
  have b:=q.out.same hm
  have f0:=b.obj.frozen 0
  have f1:=b.obj.frozen 1
  have f2:=b.obj.frozen 2
  have k0:=b.obj.cell (i:=0) rfl
  have k1:=b.obj.cell (i:=1) rfl
  have k2:=b.obj.cell (i:=2) rfl
  have l:=A5 (((b.setObj 0 (.int .i64 ((17:Nat):Int))).setObj 1 (.int .i64 ((3:Nat):Int))).setObj 2 (.int .i64 ((min r 10-3:Nat):Int)))
  have m:=A5 b.mod
  clear b hm HX
  go_wp2
  try simp only [Exit.inBlock,Exit.then]
  refine M6 rfl _ 3 Tryz.underlying205 rfl (by kernel_rfl) w.heap.size [.int .i64 ((17:Nat):Int),.int .i64 ((3:Nat):Int),.int .i64 ((min r 10-3:Nat):Int)] 205 _ rfl rfl rfl l.out.obj rfl ?_
  rw [f.out]
  exact ⟨rfl,((m.out.setCell (.inl (T00 _)) _).setCell (.inl (T00 _)) _).setCell (.inl (T00 _)) _⟩
 have b3:decide ((3:Int)≤(r:Int))=false:=by simp;omega
 by_cases a3:0 < a
 rotate_left
 ·have b4:decide ((0:Int) < (a:Int))=false:=by simp;omega
  have f:Hid (U7 all a=((z.toNat,0,0),1)):=by
   unfold Hid;rw [hE.out,if_neg (fun h=>a0 h.2),if_neg (fun h=>h3 h.2),if_neg (fun h=>h3 h.2.2)]
  have o:Hid (((z.toNat:Nat):Int)=z):=A5 (by have:=y.1;omega)
  have b:=q.out
  have f0:=b.obj.frozen 0
  have f1:=b.obj.frozen 1
  have f2:=b.obj.frozen 2
  have k0:=b.obj.cell (i:=0) rfl
  have k1:=b.obj.cell (i:=1) rfl
  have k2:=b.obj.cell (i:=2) rfl
  have l:=A5 (((b.setObj 0 (.int .i64 z)).setObj 1 (.int .i64 0)).setObj 2 (.int .i64 0))
  have m:=A5 b.mod
  clear b q
  go_wp2
  try simp only [Exit.inBlock,Exit.then]
  rw [d] at l
  refine M6 rfl _ 3 Tryz.underlying205 rfl (by kernel_rfl) w.heap.size [.int .i64 0,.int .i64 0,.int .i64 0] 205 _ rfl rfl rfl l.out.obj rfl ?_
  rw [f.out]
  unfold itV
  simp only [d]
  exact ⟨rfl,((m.out.setCell (.inl (T00 _)) _).setCell (.inl (T00 _)) _).setCell (.inl (T00 _)) _⟩
 have b4:decide ((0:Int) < (a:Int))=true:=by simp;omega
 have d6:(a:Int)-1=((a-1:Nat):Int):=by omega
 have d7:((a-1:Nat):Int) < (n:Int):=by omega
 have kp:=d0.out a3
 by_cases s:p=z
 ·have b5:(p==z)=true:=by simp [s]
  have f:Hid (U7 all a=((z.toNat,0,0),1)):=by
   unfold Hid;rw [hE.out,if_neg (fun h=>a0 h.2),if_neg (fun h=>h3 h.2),if_neg (fun h=>h3 h.2.2)]
  have o:Hid (((z.toNat:Nat):Int)=z):=A5 (by have:=y.1;omega)
  have b:=q.out
  have f0:=b.obj.frozen 0
  have f1:=b.obj.frozen 1
  have f2:=b.obj.frozen 2
  have k0:=b.obj.cell (i:=0) rfl
  have k1:=b.obj.cell (i:=1) rfl
  have k2:=b.obj.cell (i:=2) rfl
  have l:=A5 (((b.setObj 0 (.int .i64 z)).setObj 1 (.int .i64 0)).setObj 2 (.int .i64 0))
  have m:=A5 b.mod
  clear b q
  go_wp2
  try simp only [Exit.inBlock,Exit.then]
  rw [d] at l
  refine M6 rfl _ 3 Tryz.underlying205 rfl (by kernel_rfl) w.heap.size [.int .i64 0,.int .i64 0,.int .i64 0] 205 _ rfl rfl rfl l.out.obj rfl ?_
  rw [f.out]
  unfold itV
  simp only [d]
  exact ⟨rfl,((m.out.setCell (.inl (T00 _)) _).setCell (.inl (T00 _)) _).setCell (.inl (T00 _)) _⟩
 have b5:(p==z)=false:=by simp [s]
 have f:Hid (U7 all a=((z.toNat,0,0),1)):=by
  unfold Hid;rw [hE.out,if_neg (fun h=>a0 h.2),if_neg (fun h=>h3 h.2),if_neg (fun h=>h3 h.2.2)]
 have o:Hid (((z.toNat:Nat):Int)=z):=A5 (by have:=y.1;omega)
 have b:=q.out
 have f0:=b.obj.frozen 0
 have f1:=b.obj.frozen 1
 have f2:=b.obj.frozen 2
 have k0:=b.obj.cell (i:=0) rfl
 have k1:=b.obj.cell (i:=1) rfl
 have k2:=b.obj.cell (i:=2) rfl
 have l:=A5 (((b.setObj 0 (.int .i64 z)).setObj 1 (.int .i64 0)).setObj 2 (.int .i64 0))
 have m:=A5 b.mod
 clear b q
 go_wp2
 try simp only [Exit.inBlock,Exit.then]
 rw [d] at l
 refine M6 rfl _ 3 Tryz.underlying205 rfl (by kernel_rfl) w.heap.size [.int .i64 0,.int .i64 0,.int .i64 0] 205 _ rfl rfl rfl l.out.obj rfl ?_
 rw [f.out]
 unfold itV
 simp only [d]
 exact ⟨rfl,((m.out.setCell (.inl (T00 _)) _).setCell (.inl (T00 _)) _).setCell (.inl (T00 _)) _⟩
theorem W3j:(Tryz.prog.info? 205).map (fun i=>(i.zero,i.size,i.bytes))=some (some (.agg #[.int .i64 0,.int .i64 0,.int .i64 0]),3,24):=by kernel_rfl
def L7 (xs:List Y0):List Value:=xs.flatMap fun x=>[.int .i64 (x.1:Int),.int .i64 (x.2.1:Int),.int .i64 (x.2.2:Int)]
theorem X9g (a b:List Y0):L7 (a++b)=L7 a++L7 b:=by simp [L7]
theorem Y8w (xs:List Y0):(L7 xs).length=xs.length*3:=by
 induction xs with
 | nil=>rfl
 | cons x xs ih=>
  have e:L7 (x::xs)= .int .i64 (x.1:Int):: .int .i64 (x.2.1:Int):: .int .i64 (x.2.2:Int)::L7 xs:=by simp [L7]
  rw [e]
  simp only [T0e,ih];omega
theorem Y6o:∀ (l:List Y0) (j:Nat) (x:Y0),l[j]?=some x→(L7 l)[j*3]?=some (.int .i64 (x.1:Int))∧(L7 l)[j*3+1]?=some (.int .i64 (x.2.1:Int))∧(L7 l)[j*3+2]?=some (.int .i64 (x.2.2:Int))
 | [],j,x,h=>by cases h
 | y::l,0,x,h=>by
  simp at h;subst h
  exact ⟨rfl,rfl,rfl⟩
 | y::l,j+1,x,h=>by
  have ih:=Y6o l j x (by simpa using h)
  have e:L7 (y::l)= .int .i64 (y.1:Int):: .int .i64 (y.2.1:Int):: .int .i64 (y.2.2:Int)::L7 l:=by simp [L7]
  rw [e,show (j+1)*3=j*3+1+1+1 by omega,show j*3+1+1+1+1=j*3+1+1+1+1 by rfl]
  exact ih
theorem W0j (l:List Y0):∀u∈L7 l,u.oneCell'=true:=by
 intro u b
 obtain ⟨x,_,a⟩:=List.mem_flatMap.1 b
 simp only [List.mem_cons,List.not_mem_nil,or_false] at a
 rcases a with rfl | rfl | rfl <;> rfl
theorem Rd.item {w:World} {ao:Option Addr} {n cap:Nat} {l:List Y0} (h:Rd w 3 (.slice ao n cap) n (L7 l)) {i:Nat} {t:Y0} (hi:l[i]?=some t):
  ∃g off,ao=some ⟨g,off,none⟩∧w.cell? ⟨g,off+i*3,none⟩=some (.int .i64 (t.1:Int))∧w.cell? ⟨g,off+i*3+1,none⟩=some (.int .i64 (t.2.1:Int))∧w.cell? ⟨g,off+i*3+2,none⟩=some (.int .i64 (t.2.2:Int)):=by
 have b:=h.1
 rw [Y8w] at b
 have d:=(List.getElem?_eq_some_iff.1 hi).1
 obtain ⟨g,off,rfl,a⟩:=h.spot (by omega)
 obtain ⟨f,j,k⟩:=Y6o l i t hi
 exact ⟨g,off,rfl,a _ _ f,a _ _ j,a _ _ k⟩
theorem W9j (w:World) (o:Obj):(w.alloc o).heap.size=w.heap.size+1:=by
 show (w.heap.push o).size=_
 simp
theorem X9q (all:List Int):∀f a,all.length≤a→U8 all f a=[]
 | 0,_,_=>rfl
 | f+1,a,h=>by unfold U8;rw [if_neg (by omega)]
theorem X4k (v:Value) (n:Nat) (all:List Int) (w:World) (hv:Rd w 1 v n (D2 all)) (hn:n < 1000) (hA:∀x∈all,0≤x∧x≤15):
  Calls Tryz.prog 138 #[v] w fun e w'=>∃u,e= .returned u∧A4 w w' [B0 205 3 u (U8 all n 0).length (L7 (U8 all n 0))]:=by
 obtain ⟨i0,a3,a4,a5,a6⟩:=info_parts W3j
 obtain ⟨ao,a7,rfl,_,_⟩:=hv.form
 have l:all.length=n:=by have:=hv.1;rw [L4] at this;omega
 have d:=A5 (And.intro hv (And.intro l hA))
 have b6:(0:Int)≤(n:Int):=T02 _
 clear hv l hA
 go_enter Tryz.func138,Tryz.ntmps138
 go_wp2
 go_loopg [3,4] (n+1) (fun k t3 t4 wr=>∃ (i f L:Nat) (bo:Option Addr) (bc:Nat) (Z:List Y0),i≤n∧n-i < k∧n-i≤f∧t4= .int .i64 (i:Int)∧t3= .slice bo L bc∧L≤i∧Hid (L=Z.length)∧Hid (U8 all n 0=Z++U8 all f i)∧
  Hid (A4 w wr [B0 205 3 (.slice bo L bc) L (L7 Z)]))
 case atStart=>exact ⟨0,n,0,none,0,[],by omega,by omega,by omega,rfl,rfl,by omega,A5 rfl,A5 rfl,A5 ((A4.start w).nil _ _)⟩
 case round=>
  obtain ⟨i,f,L,bo,bc,Z,hi,hk,hf,rfl,rfl,hL,HZ,HE,HH⟩:=hrel
  have b2:(0:Int)≤(i:Int):=T02 _
  by_cases a1:i < n
  rotate_left
  ·have y:¬(i:Int) < (n:Int):=by omega
   have j:Hid (U8 all n 0=Z):=by
    have h:=HE.out
    rw [X9q all f i (by have:=d.out.2.1;omega),List.append_nil] at h
    exact A5 h
   go_wp2
   go_ret
   rw [j.out,←HZ.out]
   exact ⟨_,rfl,HH.out⟩
  have y:(i:Int) < (n:Int):=by omega
  obtain ⟨f,rfl⟩:∃g,f=g+1:=⟨f-1,by omega⟩
  have b:=Y6y (all:=all) (a:=i) (by have:=d.out.2.1;omega)
  have m:=A5 (X1r (.slice ao n a7) n i all wr (HH.out.old d.out.1) (by omega) a1 d.out.2.2)
  have j:U8 all n 0=(Z++[(U7 all i).1])++U8 all f (i+(U7 all i).2):=by
   rw [HE.out,U8,if_pos (by have:=d.out.2.1;omega)];simp
  rw [d.out.2.1] at b
  generalize U7 all i=nx at m j b
  obtain ⟨⟨r,s,t⟩,q⟩:=nx
  simp only at j b
  obtain ⟨c0,c1⟩:=b
  have z:=A5 j
  clear j HE
  unfold itV at m
  simp only at m
  go_wp2_with fail
  refine m.out.mono ?_
  rintro e w2 ⟨rfl,hm⟩
  have o:=(HH.out.same hm).newObj [.int .i64 (r:Int),.int .i64 (s:Int),.int .i64 (t:Int)] 205
  have HS:=A5 (o.swap.lit 205 3 (L7 [(r,s,t)]) 1 (by decide) rfl).swap
  rw [W9j] at HS
  have k0:=o.obj.cell (i:=0) rfl
  have k1:=o.obj.cell (i:=1) rfl
  have k2:=o.obj.cell (i:=2) rfl
  clear o hm m
  go_wp2_with ((with_reducible show wpList _ _ _ (⟨some 20,_,_,_,_,_⟩::_) _ _);go_must (refine D4 rfl (.tmp 17) (.tmp 19) 199 rfl 205 i0 (.agg #[.int .i64 0,.int .i64 0,.int .i64 0]) 3 24 Tryz.underlying199 a3 a4 a5 a6 rfl (by decide) _ _ (L7 Z) rfl HS.out _ 1 (L7 [(r,s,t)]) rfl HS.out.swap.own.rd (W0j _) (L+1) rfl (by unfold maxLen;omega) (by omega) ?_);intro a2 p w4 h1;have HJ:=A5 h1;clear h1)
  go_roundg (gk-1)
  case measure=>omega
  case rel=>
   refine ⟨i+q,f,L+1,a2,p,Z++[(r,s,t)],by omega,by omega,by omega,by go_num,rfl,by omega,A5 (by rw [List.length_append,←HZ.out];rfl),z, ?_⟩
   rw [X9g]
   exact A5 HJ.out.one
theorem Y17 (ao:Option Addr) (n cap least:Nat) (l:List Int) (w:World) (hv:Rd w 1 (.slice ao n cap) n (D2 l)) (hn:n < 1000) (hl:least≤1000) (hsp:∀x,ao=some x→x.spot=none):
  Calls Tryz.prog 104 #[.slice ao n cap,.int .i64 (least:Int)] w fun e w'=>e= .returned (.slice ao (Z14 l least n) cap)∧∃c,w'=w.drewN c:=by
 obtain ⟨i,hi,b2,a1,b3⟩:=info_parts Z89
 have q:l.length=n:=by have:=hv.1;rw [L4] at this;omega
 have a5:n≤cap:=by
  obtain ⟨_,a,c,hh,h,_⟩:=hv
  simp only [Value.slice.injEq,true_and] at hh
  omega
 have HV:=A5 (And.intro hv q)
 have a6:(0:Int)≤(n:Int):=T02 _
 have a7:(0:Int)≤(least:Int):=T02 _
 clear hv q
 go_enter Tryz.func104,Tryz.ntmps104
 go_wp2
 go_loopg [5] (n+1) (fun k t5 wr=>∃ (j d:Nat),j≤n∧j < k∧t5= .int .i64 (j:Int)∧Hid (Z14 l least n=Z14 l least j)∧wr=w.drewN d)
 case atStart=>exact ⟨n,0,by omega,by omega,rfl,A5 rfl,rfl⟩
 case round=>
  obtain ⟨j,d,hj,hk,rfl,HE,rfl⟩:=hrel
  have a8:(0:Int)≤(j:Int):=T02 _
  have b:Z14 l least j=j→Hid (Z14 l least n=j):=fun h=>A5 (HE.out.trans h)
  have a3:∀wg,(Instr.sliceAt 52 (.slice ao n cap) none (some (.int .i64 (j:Int))) none).run Tryz.prog wg= .ok (.slice ao j cap) wg:=fun wg=>by
   have h:=N8 (P:=Tryz.prog) (w:=wg) 52 3 i 1 Tryz.underlying52 hi a1 ao n cap 0 j none (some (.int .i64 (j:Int))) rfl ⟨_,rfl⟩ (by omega) (by omega)
   rw [h,Z17 _ _ _ _ hsp]
  by_cases r:least < j
  rotate_left
  ·have t:decide ((least:Int) < (j:Int))=false:=by simp;omega
   have HF:=b (by
    cases j with
    | zero=>rfl
    | succ m=>rw [Z14,if_neg (fun h=>r h.1)])
   clear b
   go_wp2
   go_ret
   rw [HF.out]
   exact ⟨rfl,_,rfl⟩
  have t:decide ((least:Int) < (j:Int))=true:=by simp;omega
  have a9:(j:Int)-1=((j-1:Nat):Int):=by omega
  have b0:((j-1:Nat):Int) < (n:Int):=by omega
  obtain ⟨x,s⟩:∃x,l[j-1]?=some x:=⟨l[j-1]'(by have:=HV.out.2;omega),T04 _⟩
  obtain ⟨g,b5,rfl,o⟩:=HV.out.1.spot (by omega)
  have c1:=o (j-1) _ (by rw [G5,s];rfl)
  have f:Z14 l least j=if x=0 then Z14 l least (j-1) else j:=by
   obtain ⟨m,rfl⟩:∃m,j=m+1:=⟨j-1,by omega⟩
   rw [Z14]
   rw [show m+1-1=m by omega] at s⊢
   rw [s]
   simp only [T0f,r,true_and]
  clear o s
  by_cases p:x=0
  ·have y:(x==0)=true:=by simp [p]
   rw [if_pos p] at f
   have z:=A5 (HE.out.trans f)
   clear f b
   go_wp2
   go_roundg (gk-1)
   case measure=>omega
   case rel=>exact ⟨j-1,d,by omega,by omega,by go_num,z,rfl⟩
  have y:(x==0)=false:=by simp [p]
  rw [if_neg p] at f
  have HF:=b f
  clear f b
  go_wp2
  go_ret
  rw [HF.out]
  exact ⟨rfl,_,rfl⟩
end Go.Proofs.YtbkbkmgogbgofaaGreatDoor
