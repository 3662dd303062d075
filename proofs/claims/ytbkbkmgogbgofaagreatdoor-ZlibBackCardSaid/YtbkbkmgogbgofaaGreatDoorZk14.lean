/- The claim's texts, put together and shortened by a program (names, spaces). -/
import Derived.Test.YtbkbkmgogbgofaaGreatDoorZk12
import Derived.Test.YtbkbkmgogbgofaaGreatDoorZk13
import Derived.Test.YtbkbkmgogbgofaaGreatDoorZk03
open List renaming perm_middle→T01,length_drop→T02,getElem?_eq_getElem→T03,replicate→T04
open Nat renaming lt_of_lt_of_le→T05,zero_add→T06,mul_one→T07
open Int renaming natCast_nonneg→T00
namespace Go.Proofs.YtbkbkmgogbgofaaGreatDoor
set_option maxRecDepth 100000
set_option maxHeartbeats 6400000
open Go.RowKit
def X4p:List Nat:=[2,3,3,3,7,11]
structure Y9 (w:World):Prop where
 ord:∀ (i:Nat) (v:Value),(D5 .i64 M5)[i]?=some v→w.cell? ⟨1,i,none⟩=some v
 run:∀ (i:Nat) (v:Value),(D5 .i64 X4p)[i]?=some v→w.cell? ⟨3,i,none⟩=some v
theorem Y9.kept {w w':World} (h:Y9 w) (hm:E5 w w' (fun _=>False)):Y9 w':=
 ⟨fun i v hv=>by
  have hc:=h.ord i v hv
  rw [hm.cell (World.block_lt_of_cell? w _ hc) (fun h=>h)];exact hc,fun i v hv=>by
  have hc:=h.run i v hv
  rw [hm.cell (World.block_lt_of_cell? w _ hc) (fun h=>h)];exact hc⟩
theorem Y9.at {w0 w:World} {Rs:List A6} (h:Y9 w0) (H:A4 w0 w Rs) {i o:Nat} (ho:M5[i]?=some o):w.cell? ⟨1,i,none⟩=some (.int .i64 (o:Int)):=
 (h.kept H.mod).ord i _ (by rw [O8,ho];rfl)
theorem Y32 {i:Nat} (h:i < 19):M5[i]?=some (F8 i):=by
 unfold F8
 have:i < M5.length:=h
 rw [T03 this];rfl
theorem W2m:Z1y 15 0=0:=by decide
theorem V62 {a:Nat} (h:0 < a) (h2:a < 8):0 < Z1y 15 (a:Int):=by
 unfold Z1y
 rw [if_pos (by omega)]
 exact Nat.two_pow_pos _
theorem W1y:∀ (l:List Int) (k:Nat) (a:Int),l[k]?=some 0→F4 (l.set k a)=F4 l+Z1y 15 a
 | [],k,a,h=>by simp at h
 | b::l,0,a,h=>by
  simp only [List.getElem?_cons_zero,Option.some.injEq] at h
  subst h
  rw [List.set_cons_zero,sum_cons,sum_cons,W2m];omega
 | b::l,k+1,a,h=>by
  rw [List.set_cons_succ,sum_cons,sum_cons,W1y l k a (by simpa using h)];omega
theorem V22:∀i,i < 19→∀j,j < 19→i≠j→F8 i≠F8 j:=by decide
theorem X0h (bs:List Nat) (a:Nat):∀C,C≤19→∀j,C≤j→j < 19→(F6 bs a C)[F8 j]?=some 0
 | 0,_,j,_,hj=>by
  rw [F6,List.getElem?_replicate,if_pos (Z4i j hj)]
 | C+1,hC,j,h1,hj=>by
  rw [F6,List.getElem?_set_ne (by
   have:=V22 C (by omega) j hj (by omega)
   rw [Y32 (by omega:C < 19)]
   exact this)]
  exact X0h bs a C (by omega) j (by omega) hj
theorem X6c (bs:List Nat) (hb:isBits bs) (a:Nat):∀C,C≤19→(F4 (F6 bs a C)=0↔Z1g bs a C=false)
 | 0,_=>by
  refine ⟨fun _=>rfl,fun _=>by rw [F6];decide⟩
 | C+1,hC=>by
  have ih:=X6c bs hb a C (by omega)
  have h0:=X0h bs a C (by omega) C (Nat.le_refl _) (by omega)
  have h8:E4 ((bs.drop (a+3*C)).take 3) < 8:=L8 hb _ 3
  rw [F6,Z1g,Y32 (by omega:C < 19)]
  show F4 ((F6 bs a C).set (F8 C) _)=0↔_
  rw [W1y _ _ _ h0]
  by_cases hz:E4 ((bs.drop (a+3*C)).take 3)=0
  ·rw [hz,show (((0:Nat):Int))=0 from rfl,W2m,Nat.add_zero,ih]
   simp
  have:=V62 (Nat.pos_of_ne_zero hz) h8
  constructor
  ·intro h;omega
  intro h
  simp only [Bool.or_eq_false_iff,decide_eq_false_iff_not] at h
  omega
theorem W27 (bs:List Nat) (hb:isBits bs) (a:Nat):∀C,∀y∈F6 bs a C,0≤y∧y≤7
 | 0,y,hy=>by
  rw [F6] at hy
  have:=List.eq_of_mem_replicate hy
  omega
 | C+1,y,hy=>by
  rw [F6] at hy
  have h8:E4 ((bs.drop (a+3*C)).take 3) < 8:=L8 hb _ 3
  rcases List.mem_or_eq_of_mem_set hy with h | h
  ·exact W27 bs hb a C y h
  omega
theorem X1b {l:List Int} {mm:Int} (h1:1≤mm) (h15:mm≤15) (hl:l.length≤288) (hin:∀y∈l,0≤y∧y≤mm) (hc:D0 l mm≠0):D0 l mm=3:=by
 have a:U4 l mm=false:=by
  unfold U4
  rw [(Z1p l mm).2 hin]
  simp
  omega
 unfold D0 at hc⊢
 rw [a] at hc⊢
 simp only [Bool.false_eq_true,if_false] at hc⊢
 split at hc
 ·exact absurd rfl hc
 rename_i h
 rw [if_neg h]
def wdF (k:Nat):Nat:=if k=17 then 3 else if k=18 then 7 else 2
def baF (k:Nat):Nat:=if k=18 then 11 else 3
def yF (k:Nat) (ls:List Int):Int:=if k=16 then ls.getLast?.getD 0 else 0
inductive Z2k (k:Nat) (l:List Nat) (ls:List Int):List Nat→Int→Nat→Nat→Prop
 | one (h:k < 16):Z2k k l ls l (k:Int) 1 0
 | none (h:k=16) (hl:ls=[]):Z2k k l ls l 0 0 2
 | few (h:¬k < 16) (hl:¬(k=16∧ls=[])) (ht:Z07 l (wdF k)= .none):Z2k k l ls l 0 0 5
 | run (h:¬k < 16) (hl:¬(k=16∧ls=[])) {more:Nat} (ht:Z07 l (wdF k)=some more):Z2k k l ls (l.drop (wdF k)) (yF k ls) (baF k+more) 0
section
variable {w0 w:World} {Rs:List A6} {p:C4} {c:DC} {v:Value} {bs l:List Nat} {ls:List Int} {M:Nat}
theorem V4u (k:Nat) (hk:k < 16) (h:A4 w0 w (J9 (J0 p c) v bs l::B0 3 1 c.hv ls.length (D3 ls)::Rs)):
  Calls Tryz.prog 147 #[.pointer (some ⟨p.b,p.o,none⟩),.int .i64 (k:Int)] w fun e w'=>∃l' y n er,e= .returned (.tuple #[.int .i64 y,.int .i64 ((n:Nat):Int),.int .i64 ((er:Nat):Int)])∧Z2k k l ls l' y n er∧
   A4 w0 w' (J9 (J0 p c) v bs l'::B0 3 1 c.hv ls.length (D3 ls)::Rs):=by
 have a:(k:Int) < 16:=by omega
 have d:=A5 h
 clear h
 go_enter Tryz.func147,Tryz.ntmps147
 go_wp2
 go_ret3
 exact ⟨l,k,1,0,rfl,.one hk,d.out⟩
theorem Y9.runAt {w0 w:World} {Rs:List A6} (h:Y9 w0) (H:A4 w0 w Rs) {i o:Nat} (ho:X4p[i]?=some o):w.cell? ⟨3,i,none⟩=some (.int .i64 (o:Int)):=
 (h.kept H.mod).run i _ (by rw [O8,ho];rfl)
theorem V1o (k:Nat) (hk:k=17∨k=18) (hG:Y9 w0) (hlen:l.length < Y5) (hb:isBits l) (h:A4 w0 w (J9 (J0 p c) v bs l::B0 3 1 c.hv ls.length (D3 ls)::Rs)):
  Calls Tryz.prog 147 #[.pointer (some ⟨p.b,p.o,none⟩),.int .i64 (k:Int)] w fun e w'=>∃l' y n er,e= .returned (.tuple #[.int .i64 y,.int .i64 ((n:Nat):Int),.int .i64 ((er:Nat):Int)])∧Z2k k l ls l' y n er∧
   A4 w0 w' (J9 (J0 p c) v bs l'::B0 3 1 c.hv ls.length (D3 ls)::Rs):=by
 have r0:=hG.runAt h (i:=2) rfl
 have r1:=hG.runAt h (i:=3) rfl
 have r2:=hG.runAt h (i:=4) rfl
 have r3:=hG.runAt h (i:=5) rfl
 rcases hk with rfl | rfl
 ·have d:=A5 (h.newObj [.int .i64 3,.int .i64 3] 243)
  cases ht:Z07 l 3 with
  | none=>
   have f:=A5 (Z4u d.out.drew.swap 3 3 rfl (by decide) (Z2n ht))
   have g:=A5 ht
   have j:=d.out.obj.cell (i:=0) rfl
   have t:=d.out.obj.cell (i:=1) rfl
   clear ht h
   go_enter Tryz.func147,Tryz.ntmps147
   go_wp2
   go_region_held3 (fun w'=>w'.cell? ⟨w.heap.size,0,none⟩=some (.int .i64 3)) (first | exact m | exact j | go_keep)
    ((go_at_call 140;go_must (refine f.out.mono ?_);rintro e' w4 ⟨rfl,a⟩;have m:=a.swap.obj.cell (i:=0) rfl;have q:=A5 a;clear a))
   all_goals
    go_wp2
    go_ret3
    exact ⟨l,0,0,5,rfl,.few (by decide) (by simp) g.out,q.out.swap.drop⟩
  | some x=>
   obtain ⟨h1,r⟩:=N1 ht
   have f:=Z34 d.out.drew.swap 3 3 rfl (by decide) h1 hlen
   rw [←r] at f
   have f:=A5 f
   have g:=A5 ht
   have hx:x < 128:=by
    rw [r];exact T05 (Z0v hb 3) (by decide)
   obtain ⟨n,s⟩:∃n,n=3+x:=⟨_,rfl⟩
   have z:(3:Int)+(x:Int)=(n:Int):=by omega
   have HN:=A5 s
   have j:=d.out.obj.cell (i:=0) rfl
   have t:=d.out.obj.cell (i:=1) rfl
   clear ht h s r
   go_enter Tryz.func147,Tryz.ntmps147
   go_wp2
   go_region_held3 (fun w'=>w'.cell? ⟨w.heap.size,0,none⟩=some (.int .i64 3)) (first | exact m | exact j | go_keep)
    ((go_at_call 140;go_must (refine f.out.mono ?_);rintro e' w4 ⟨rfl,a⟩;have m:=a.swap.obj.cell (i:=0) rfl;have d1:=a.swap.obj.cell (i:=1) rfl;have q:=A5 a;clear a))
   all_goals
    go_wp2
    go_quiet (fail)
    go_wp2
    go_ret3
    exact ⟨l.drop 3,0,n,0,rfl,by rw [HN.out];exact Z2k.run (k:=17) (by decide) (by simp) g.out,(q.out.swap.drop.drewN _)⟩
 have d:=A5 (h.newObj [.int .i64 7,.int .i64 11] 243)
 cases ht:Z07 l 7 with
 | none=>
  have f:=A5 (Z4u d.out.drew.swap 7 7 rfl (by decide) (Z2n ht))
  have g:=A5 ht
  have j:=d.out.obj.cell (i:=0) rfl
  have t:=d.out.obj.cell (i:=1) rfl
  clear ht h
  go_enter Tryz.func147,Tryz.ntmps147
  go_wp2
  go_region_held3 (fun w'=>w'.cell? ⟨w.heap.size,0,none⟩=some (.int .i64 7)) (first | exact m | exact j | go_keep)
   ((go_at_call 140;go_must (refine f.out.mono ?_);rintro e' w4 ⟨rfl,a⟩;have m:=a.swap.obj.cell (i:=0) rfl;have q:=A5 a;clear a))
  all_goals
   go_wp2
   go_ret3
   exact ⟨l,0,0,5,rfl,.few (by decide) (by simp) g.out,q.out.swap.drop⟩
 | some x=>
  obtain ⟨h1,r⟩:=N1 ht
  have f:=Z34 d.out.drew.swap 7 7 rfl (by decide) h1 hlen
  rw [←r] at f
  have f:=A5 f
  have g:=A5 ht
  have hx:x < 128:=by
   rw [r];exact T05 (Z0v hb 7) (by decide)
  obtain ⟨n,s⟩:∃n,n=11+x:=⟨_,rfl⟩
  have z:(11:Int)+(x:Int)=(n:Int):=by omega
  have HN:=A5 s
  have j:=d.out.obj.cell (i:=0) rfl
  have t:=d.out.obj.cell (i:=1) rfl
  clear ht h s r
  go_enter Tryz.func147,Tryz.ntmps147
  go_wp2
  go_region_held3 (fun w'=>w'.cell? ⟨w.heap.size,0,none⟩=some (.int .i64 7)) (first | exact m | exact j | go_keep)
   ((go_at_call 140;go_must (refine f.out.mono ?_);rintro e' w4 ⟨rfl,a⟩;have m:=a.swap.obj.cell (i:=0) rfl;have d1:=a.swap.obj.cell (i:=1) rfl;have q:=A5 a;clear a))
  all_goals
   go_wp2
   go_quiet (fail)
   go_wp2
   go_ret3
   exact ⟨l.drop 7,0,n,0,rfl,by rw [HN.out];exact Z2k.run (k:=18) (by decide) (by simp) g.out,(q.out.swap.drop.drewN _)⟩
theorem W8q (hG:Y9 w0) (hlen:l.length < Y5) (hb:isBits l) (hls:ls.length < 1000) (h:A4 w0 w (J9 (J0 p c) v bs l::B0 3 1 c.hv ls.length (D3 ls)::Rs)):
  Calls Tryz.prog 147 #[.pointer (some ⟨p.b,p.o,none⟩),.int .i64 16] w fun e w'=>∃l' y n er,e= .returned (.tuple #[.int .i64 y,.int .i64 ((n:Nat):Int),.int .i64 ((er:Nat):Int)])∧Z2k 16 l ls l' y n er∧
   A4 w0 w' (J9 (J0 p c) v bs l'::B0 3 1 c.hv ls.length (D3 ls)::Rs):=by
 have r0:=hG.runAt h (i:=0) rfl
 have r1:=hG.runAt h (i:=1) rfl
 obtain ⟨wv,most,a6,lv,st,a7,left,a8,hA,hB,hC,f,hv,cl,cd,fl,fd,en⟩:=c
 dsimp only at h⊢
 obtain ⟨N,j⟩:∃N,N=ls.length:=⟨_,rfl⟩
 rw [←j] at h hls⊢
 obtain ⟨ao,a2,rfl,c7,c8⟩:=h.swap.own.form
 have b1:w.cell? ⟨p.b,p.o+8+3+4,none⟩=some (.slice ao N a2):=F0 h 15 _ rfl
 by_cases h0:N=0
 ·subst h0
  have HH:=A5 h
  have HL:Hid (ls=[]):=A5 (List.eq_nil_of_length_eq_zero j.symm)
  clear h j
  go_enter Tryz.func147,Tryz.ntmps147
  go_wp2
  go_ret3
  exact ⟨l,0,0,2,rfl,.none rfl HL.out,HH.out⟩
 have b4:((N:Int)==0)=false:=by simp;omega
 have b5:¬(N:Int)=0:=by omega
 obtain ⟨q,hq⟩:∃q,q=N-1:=⟨_,rfl⟩
 have b6:(N:Int)-1=(q:Int):=by omega
 have b7:q < N:=by omega
 have b8:(0:Int)≤(q:Int):=T00 _
 have a5:(q:Int) < (N:Int):=by omega
 obtain ⟨g,c9,rfl,a⟩:=h.swap.own.rd.spot (by omega)
 obtain ⟨y,hy⟩:∃y,ls[q]?=some y:=⟨ls[q]'(by omega),T03 _⟩
 have cq:=a q (.int .i64 y) (by rw [G5,hy];rfl)
 have hY:Hid (yF 16 ls=y):=by
  refine A5 ?_
  unfold yF
  rw [if_pos rfl,List.getLast?_eq_getElem?,←j,←hq,hy];rfl
 have s:Hid (ls≠[]):=A5 (fun h=>by rw [h] at j;simp at j;omega)
 have m:=A5 (h.newObj [.int .i64 2,.int .i64 3] 243)
 clear j hq a hy
 cases f:Z07 l 2 with
 | none=>
  have r:=A5 (Z4u m.out.drew.swap 2 2 rfl (by decide) (Z2n f))
  have t:=A5 f
  have z:=m.out.obj.cell (i:=0) rfl
  have e1:=m.out.obj.cell (i:=1) rfl
  clear f h
  go_enter Tryz.func147,Tryz.ntmps147
  go_wp2
  go_region_held3 (fun w'=>w'.cell? ⟨w.heap.size,0,none⟩=some (.int .i64 2)) (first | exact d0 | exact z | go_keep)
   ((go_at_call 140;go_must (refine r.out.mono ?_);rintro e' w4 ⟨rfl,d⟩;have d0:=d.swap.obj.cell (i:=0) rfl;have H5:=A5 d;clear d))
  all_goals
   go_wp2
   go_ret3
   exact ⟨l,0,0,5,rfl,.few (by decide) (fun h=>s.out h.2) t.out,H5.out.swap.drop⟩
 | some x=>
  obtain ⟨h1,h2⟩:=N1 f
  have r:=Z34 m.out.drew.swap 2 2 rfl (by decide) h1 hlen
  rw [←h2] at r
  have r:=A5 r
  have t:=A5 f
  have hx:x < 128:=by
   rw [h2];exact T05 (Z0v hb 2) (by decide)
  obtain ⟨n,hn⟩:∃n,n=3+x:=⟨_,rfl⟩
  have c1:(3:Int)+(x:Int)=(n:Int):=by omega
  have HN:=A5 hn
  have z:=m.out.obj.cell (i:=0) rfl
  have e1:=m.out.obj.cell (i:=1) rfl
  clear f h hn h2
  go_enter Tryz.func147,Tryz.ntmps147
  go_wp2
  go_region_held3 (fun w'=>w'.cell? ⟨w.heap.size,0,none⟩=some (.int .i64 2)) (first | exact d0 | exact z | go_keep)
   ((go_at_call 140;go_must (refine r.out.mono ?_);rintro e' w4 ⟨rfl,d⟩;have d0:=d.swap.obj.cell (i:=0) rfl;have d1:=d.swap.obj.cell (i:=1) rfl;have H5:=A5 d;clear d))
  all_goals
   go_wp2
   go_quiet (fail)
   go_wp2
   go_ret3
   exact ⟨l.drop 2,y,n,0,rfl,by rw [HN.out];rw [←hY.out];exact Z2k.run (k:=16) (by decide) (fun h=>s.out h.2) t.out,(H5.out.swap.drop.drewN _)⟩
end
theorem Y5l:(Tryz.prog.info? 3).map (fun i=>(i.zero,i.size,i.bytes))=some (some (Value.int .i64 0),1,8):=by kernel_rfl
section
variable {w0 w:World} {Rs:List A6} {p:C4} {c:DC} {v:Value} {bs l o got:List Nat} {ls:List Int} {Ts:List (List Int×Nat)} {M:Nat}
theorem W3h (b:Bool) (A B C:Nat) (hG:Y9 w0) (h:A4 w0 w (P8 p c v bs l o got ls Ts Rs)) (hi:Z0h M c ls Ts (.thd b A B C) l o got):
  Calls Tryz.prog 112 #[.pointer (some ⟨p.b,p.o,none⟩)] w fun e w'=>Y5o w0 w' p v bs M (.thd b A B C) c l o got ls Ts Rs e:=by
 obtain ⟨i0,c8,c9,f5,f6⟩:=info_parts Y5l
 have a9:=hi.cell
 have c4:=hi.fx
 obtain ⟨_,_,_,_,j7,g9⟩:=hi.ok.ph
 have hb:=hi.ok.bits
 have a4:=hi.len
 have HI:=A5 hi
 obtain ⟨wv,most,m,lv,st,d,left,n,hA,hB,r,ht,hv,cl,cd,fl,fd,en⟩:=c
 obtain ⟨rfl,rfl,rfl,rfl,rfl,rfl⟩:st=4∧d=b∧hA=A∧hB=B∧r=C∧ls=[]:=a9
 unfold P8 at h
 have a:F9 M l o (.thd d hA hB r)=Z75 d hA hB r l o:=rfl
 unfold Z75 at a
 have HS:=A5 a
 have e5:=A5 c4
 have H0:=A5 h
 have HB:=A5 (And.intro hb a4)
 have c5:w.cell? ⟨p.b,p.o+8+3+2,none⟩=some (.int .i64 (r:Int)):=F0 h 13 _ rfl
 have i2:(0:Int)≤(r:Int):=T00 _
 clear h hi a c4 hb a4
 go_enter Tryz.func112,Tryz.ntmps112
 go_wp2_with ((with_reducible show wpList _ _ _ (⟨some 9,_,_,_,_,_⟩::_) _ _);refine wpList_make_own rfl 52 (.const (.int .i64 19)) (.const (.int .i64 19)) rfl 3 i0 (.int .i64 0) 1 Tryz.underlying52 c8 c9 f5 .i64 19 rfl rfl (by rw [f6];omega) (by unfold maxLen;omega) ?_;intro v1 w2 zs b3 b4 b5 f4 g;subst f4;have H1:=A5 (H0.out.pushOwn b3 b4 b5);have c5:w2.cell? ⟨p.b,p.o+8+3+2,none⟩=some (.int .i64 (r:Int)):=F0 (H0.out.pushOwn b3 b4 b5).swap 13 _ rfl;clear b3 b4 b5)
 have c6:zs=D3 (F6 l 0 0):=by rw [g,Z83 _ _ rfl,F6];simp [D3]
 rw [c6] at H1
 have e8:Hid (A4 w0 w2 (J9 (J0 p ⟨wv,most,m,lv,4,d,left,n,hA,hB,r,ht,hv,cl,cd,fl,fd,en⟩) v bs (l.drop (3*0))::B0 3 1 (.slice (some ⟨w.heap.size,0,none⟩) 19 19) 19 (D3 (F6 l 0 0))::_)):=A5 H1.out.swap
 clear H0 H1 g c6 c5
 go_loopg [16] (r+2) (fun gg t16 wr=>∃i:Nat,i≤r∧r-i < gg∧t16= .int .i64 (i:Int)∧
  Hid (A4 w0 wr (J9 (J0 p ⟨wv,most,m,lv,4,d,left,n,hA,hB,r,ht,hv,cl,cd,fl,fd,en⟩) v bs (l.drop (3*i))::B0 3 1 (.slice (some ⟨w.heap.size,0,none⟩) 19 19) 19 (D3 (F6 l 0 i))::B0 5 1 wv (L7 o).length (D9 (L7 o))::B0 5 1 lv got.length (D9 got)::B0 3 1 hv ([]:List Int).length (D3 [])::Z27 Ts::Rs))∧Hid (3*i≤l.length))
 case atStart=>exact ⟨0,by omega,by omega,rfl,e8,A5 (by omega)⟩
 case round=>
  obtain ⟨i,j9,hk,rfl,HH,HL⟩:=hrel
  have c8:(0:Int)≤(i:Int):=T00 _
  by_cases a3:i < r
  ·have e9:(i:Int) < (r:Int):=by omega
   by_cases h3:(l.drop (3*i)).length < 3
   ·have f:=A5 (Z4u HH.out 3 3 rfl (by decide) h3)
    have HE:=HS.out
    rw [if_pos (by rw [T02] at h3;omega)] at HE
    have HE:=A5 HE
    go_wp2_with fail
    with_reducible refine f.out.mono ?_
    rintro e w3 ⟨rfl,h4⟩
    have H4:=A5 h4
    clear h4 f
    go_wp2
    go_ret
    exact ⟨5,rfl,.bad H4.out.swap.drop HE.out (fun _=>⟨rfl,rfl,rfl⟩) ⟨rfl,rfl⟩⟩
   have i3:3*i+3≤l.length:=by rw [T02] at h3;omega
   have f:=Z34 HH.out 3 3 rfl (by decide) (by omega) (by rw [T02];have:=HB.out.2;omega)
   obtain ⟨x,hx⟩:∃x,x=E4 ((l.drop (3*i)).take 3):=⟨_,rfl⟩
   have i4:x < 8:=by rw [hx];exact L8 HB.out.1 _ 3
   rw [←hx,List.drop_drop,show 3*i+3=3*(i+1) by omega] at f
   have f:=A5 f
   have a2:=Y32 (show i < 19 by omega)
   have b0:=Z4i i (by omega)
   have hE:F6 l 0 (i+1)=(F6 l 0 i).set (F8 i) (x:Int):=by
    rw [F6,a2,T06,←hx];rfl
   obtain ⟨q,hq⟩:∃q,q=F8 i:=⟨_,rfl⟩
   rw [←hq] at a2 b0 hE
   have HE:=A5 hE
   have f1:=A5 a2
   have i5:(0:Int)≤(q:Int):=T00 _
   have g5:(q:Int) < 19:=by omega
   have g6:(i:Int) < 19:=by omega
   clear hx h3 a2 hE hq
   go_wp2_with fail
   with_reducible refine f.out.mono ?_
   rintro e w3 ⟨rfl,h4⟩
   have H4:=A5 h4
   obtain ⟨g2,h6,d8,d9,e0,a8⟩:=h4.swap.own.site (by omega)
   simp only [Option.some.injEq,Addr.mk.injEq,and_true] at d8
   obtain ⟨rfl,rfl⟩:=d8
   obtain ⟨y,hy⟩:∃y,(F6 l 0 i)[q]?=some y:=⟨(F6 l 0 i)[q]'(by rw [V3];exact b0),T03 _⟩
   have g1:=hG.at h4 f1.out
   have f2:=d9 q (.int .i64 y) (by rw [G5,hy];rfl)
   have g3:=e0 q
   have h5:=h4.swap.putOwn (a8 q (.int .i64 (x:Int)) b0) (E5.set w3 w.heap.size (0+q) _)
   rw [show (D3 (F6 l 0 i)).set q (.int .i64 (x:Int))=D3 (F6 l 0 (i+1)) by rw [HE.out];simp [D3,List.map_set]] at h5
   rw [T06] at f2 g3 h5
   have H5:=A5 h5.swap
   clear h4 f d9 e0 a8 hy h5 HH
   go_wp2
   go_roundg (gk-1)
   case measure=>omega
   case rel=>exact ⟨i+1,by omega,by omega,by go_num,H5,A5 (by omega)⟩
  obtain rfl:i=r:=by omega
  have e9:¬(i:Int) < (i:Int):=by omega
  have i7:=HL.out
  have a:=HS.out
  rw [if_neg (by omega)] at a
  have s:=A5 (W15 (.slice (some ⟨w.heap.size,0,none⟩) 19 19) (F6 l 0 i) wr (by rw [V3];exact HH.out.swap.own.rd) (by rw [V3];decide))
  have g:=X6c l HB.out.1 0 i (by omega)
  have a3:=W27 l HB.out.1 0 i
  have j:=X1b (l:=F6 l 0 i) (mm:=7) (by decide) (by decide) (by rw [V3];decide) a3
  obtain ⟨z,hz⟩:∃z,z=F4 (F6 l 0 i):=⟨_,rfl⟩
  rw [←hz] at s g
  have c9:(0:Int)≤(z:Int):=T00 _
  by_cases h0:z=0
  ·rw [if_pos (.inr (g.1 h0))] at a
   have t:=A5 a
   subst h0
   clear a g a3 j hz
   go_wp2_with fail
   with_reducible refine s.out.mono ?_
   rintro e w3 ⟨rfl,hm⟩
   have H4:=A5 (HH.out.same hm)
   clear s hm
   go_wp2
   go_ret
   exact ⟨3,rfl,.bad H4.out.swap.drop t.out (fun h=>by cases h) ⟨rfl,rfl⟩⟩
  have i8:((z:Int)==0)=false:=by simp;omega
  have i9:¬(z:Int)=0:=by omega
  have k:Z1g l 0 i≠false:=fun h=>h0 (g.2 h)
  have b1:=A5 (And.intro a (And.intro k j))
  clear a g a3 j hz h0 k
  go_wp2_with fail
  with_reducible refine s.out.mono ?_
  rintro e w3 ⟨rfl,hm⟩
  have H4:=A5 (HH.out.same hm)
  have b2:=A5 (Z3v (.slice (some ⟨w.heap.size,0,none⟩) 19 19) 19 (F6 l 0 i) 7 w3 H4.out.swap.own.rd (by decide))
  clear s hm
  go_wp2_with fail
  with_reducible refine b2.out.mono ?_
  rintro e w4 (⟨hc,rfl,h5⟩ | ⟨hc,B1,rfl,h5⟩)
  ·obtain ⟨a,_,j⟩:=b1.out
   rw [if_pos (.inl hc)] at a
   have t:=A5 a
   rw [j hc]
   have H6:=A5 (H4.out.same h5.mod)
   clear hc a j b2 h5
   go_wp2
   go_ret
   exact ⟨3,rfl,.bad H6.out.swap.drop t.out (fun h=>by cases h) ⟨rfl,rfl⟩⟩
  obtain ⟨a,k,j⟩:=b1.out
  rw [if_neg (not_or.2 ⟨not_not_intro hc,k⟩)] at a
  have t:=A5 a
  have h7:A4 w0 w4 (J9 (J0 p ⟨wv,most,m,lv,4,d,left,n,hA,hB,i,ht,hv,cl,cd,fl,fd,en⟩) v bs (l.drop (3*i))::J7 (F6 l 0 i) B1::_):=A4.swap (A4.frame H4.out h5)
  have H7:=A5 (V3f h7.third.drop)
  have j2:w4.cell? ⟨p.b,p.o+8+3+3,none⟩=some (.pointer ht):=F0 h7 14 _ rfl
  have j3:w4.frozen? ⟨p.b,p.o+8+3+3,none⟩=false:=Y4 h7 14
  have c7:w4.cell? ⟨p.b,p.o+7,none⟩=some (.int .i64 4):=F0 h7 7 _ rfl
  have f7:w4.frozen? ⟨p.b,p.o+7,none⟩=false:=Y4 h7 7
  clear a k j hc h5 h7 b2 b1 H4
  go_wp2
  go_ret
  have h8:=Z2q (Z2q H7.out 14 (.pointer (some ⟨B1,0,none⟩)) ⟨wv,most,m,lv,4,d,left,n,hA,hB,i,some ⟨B1,0,none⟩,hv,cl,cd,fl,fd,en⟩ rfl) 7 (.int .i64 5) ⟨wv,most,m,lv,5,d,left,n,hA,hB,i,some ⟨B1,0,none⟩,hv,cl,cd,fl,fd,en⟩ rfl
  refine ⟨0,rfl,.on HI.out t.out h8 ⟨rfl,rfl,rfl,rfl,rfl,B1,rfl,by simp⟩ ?_ rfl rfl⟩
  rcases e5.out with hx | ⟨t1,t2,g1,g2,g3,g4⟩
  ·exact .inl hx
  exact .inr ⟨t1,t2,g1,g2,by simp [g3],by simp [g4]⟩
end
theorem X2a (x y:Value) (n1 n2:Nat) (L1 L2:List Int) (w:World) (hx:Rd w 1 x n1 (D3 L1)) (hy:Rd w 1 y n2 (D3 L2)) (hn1:n1≤288) (hn2:n2≤288) (h1:∀a∈L1,0≤a∧a≤15) (h2:∀a∈L2,0≤a∧a≤15):
  Calls Tryz.prog 171 #[x,y] w fun e w'=>∃ (a b:Option Addr) (er:Nat) (Tl:List A6),e= .returned (.tuple #[.agg #[.pointer a,.pointer b],.int .i64 (er:Int)])∧A4 w w' Tl∧
   Hid ((D0 L1 15=0∧D0 L2 15=0∧er=0∧∃B1 B2,a=Z05 B1∧b=Z05 B2∧Tl=[J7 L2 B2,J7 L1 B1])∨((D0 L1 15≠0∨D0 L2 15≠0)∧er=3∧Tl=[])):=by
 have j:L1.length≤288:=by have:=hx.1;rw [L6] at this;omega
 have k:L2.length≤288:=by have:=hy.1;rw [L6] at this;omega
 refine (Y1j x y n1 n2 L1 L2 w hx hy (by omega) (by omega)).mono ?_
 rintro e w' (⟨g,f,i⟩ | ⟨g,d,f,i⟩ | ⟨g,d,B1,B2,f,i⟩)
 ·rw [X1b (by decide) (by decide) j h1 g] at f
  exact ⟨none,none,3,[],f,i,A5 (.inr ⟨.inl g,rfl,rfl⟩)⟩
 ·rw [X1b (by decide) (by decide) k h2 d] at f
  exact ⟨none,none,3,[],f,i,A5 (.inr ⟨.inr d,rfl,rfl⟩)⟩
 exact ⟨_,_,0,_,f,i,A5 (.inl ⟨g,d,rfl,B1,B2,rfl,rfl,rfl⟩)⟩
section
variable {w0 w:World} {Rs:List A6} {p:C4} {c:DC} {v:Value} {bs l o got:List Nat} {ls:List Int} {Ts:List (List Int×Nat)} {M:Nat}
theorem W6q (b:Bool) (A B:Nat) (head lx:List Int) (hfull:A+B≤ls.length) (h:A4 w0 w (P8 p c v bs l o got ls Ts Rs)) (hi:Z0h M c ls Ts (.len b A B head lx) l o got):
  Calls Tryz.prog 145 #[.pointer (some ⟨p.b,p.o,none⟩)] w fun e w'=>Y5o w0 w' p v bs M (.len b A B head lx) c l o got ls Ts Rs e:=by
 obtain ⟨i0,e6,i9,e7,j2⟩:=info_parts Y5l
 have m:=hi.cell
 have b5:=hi.fx
 have f3:=hi.ok.ph
 have HI:=A5 hi
 obtain ⟨wv,most,n,lv,st,d,left,q,f,r,hC,ht,hv,cl,cd,fl,fd,en⟩:=c
 obtain ⟨rfl,rfl,rfl,rfl,rfl,t0,rfl,a8⟩:st=5∧d=b∧f=A∧r=B∧ls=lx∧∃t,ht=Z05 t∧(head,t)∈Ts:=m
 obtain ⟨j5,j6,j7,j8,j9,k2,e8,b2⟩:=f3
 unfold P8 at h
 have a4:F9 M l o (.len d f r head ls)=Z5f d f r head ls l o:=rfl
 unfold Z5f at a4
 rw [if_pos hfull] at a4
 have HS:=A5 a4
 have c8:=A5 b5
 obtain ⟨N,hN⟩:∃N,N=ls.length:=⟨_,rfl⟩
 rw [←hN] at h hfull e8
 obtain ⟨ao,k,rfl,f9,k3⟩:=h.fourth.own.form
 obtain ⟨g,j,rfl,m⟩:=h.fourth.own.rd.spot (by omega)
 obtain ⟨y,hy⟩:∃y,ls[256]?=some y:=⟨ls[256]'(by omega),T03 _⟩
 have cy:=m 256 (.int .i64 y) (by rw [G5,hy];rfl)
 have g9:∀ob,(w.alloc ob).cell? ⟨g,j+256,none⟩=some (.int .i64 y):=fun ob=>(E5.cell ((E5.refl w (fun _=>False)).alloc ob) (World.block_lt_of_cell? w _ cy) (fun h=>h)).trans cy
 have f4:(256:Int) < (N:Int):=by omega
 have h0:(0:Int)≤(f:Int):=T00 _
 unfold Z05 at h
 have h1:w.cell? ⟨p.b,p.o+8+3,none⟩=some (.int .i64 (f:Int)):=F0 h 11 _ rfl
 have h2:w.cell? ⟨p.b,p.o+8+3+1,none⟩=some (.int .i64 (r:Int)):=F0 h 12 _ rfl
 have h3:w.cell? ⟨p.b,p.o+8+3+2,none⟩=some (.int .i64 (hC:Int)):=F0 h 13 _ rfl
 have h4:w.cell? ⟨p.b,p.o+8+3+3,none⟩=some (.pointer (some ⟨t0,0,none⟩)):=F0 h 14 _ rfl
 have h5:w.cell? ⟨p.b,p.o+8+3+4,none⟩=some (.slice (some ⟨g,j,none⟩) N k):=F0 h 15 _ rfl
 have H1:=A5 (h.newObj [.int .i64 (f:Int),.int .i64 (r:Int),.int .i64 (hC:Int),.pointer (some ⟨t0,0,none⟩),.slice (some ⟨g,j,none⟩) N k] 94)
 by_cases d7:y=0
 ·subst d7
  have HE:Hid (F9 M l o (.len d f r head ls)= .err 3):=by
   rw [HS.out,if_pos (.inr (.inr (by rw [hy];rfl)))];exact A5 rfl
  clear h hi a4 b5 a8 m hy b2
  go_enter Tryz.func145,Tryz.ntmps145
  go_wp2
  go_ret
  exact ⟨3,rfl,.bad (by unfold P8;rw [←hN];exact H1.out.drop) HE.out (fun h=>by cases h) ⟨rfl,rfl⟩⟩
 have h9:(y==0)=false:=by simp;omega
 have HY:Hid (ls[256]?.getD 0≠0):=A5 (by rw [hy];exact d7)
 have HM:=A5 a8
 have HN:=A5 hN
 have d1:N-f=r:=by omega
 have f5:∀wg,(Instr.sliceAt 52 (.slice (some ⟨g,j,none⟩) N k) none (some (.int .i64 (f:Int))) none).run Tryz.prog wg= .ok (.slice (some ⟨g,j,none⟩) f k) wg:=fun wg=>by
  have h:=O0 (P:=Tryz.prog) (w:=wg) 52 3 i0 1 Tryz.underlying52 e6 e7 (some ⟨g,j,none⟩) N k 0 f none (some (.int .i64 (f:Int))) rfl ⟨_,rfl⟩ (by omega) (by omega)
  rw [h,Z14 _ _ _ _ (fun x hx=>by simp at hx;rw [←hx])]
 have z:∀wg,(Instr.sliceAt 52 (.slice (some ⟨g,j,none⟩) N k) (some (.int .i64 (f:Int))) none none).run Tryz.prog wg= .ok (sliced (some ⟨g,j,none⟩) f N k 1) wg:=fun wg=>
  O0 (P:=Tryz.prog) (w:=wg) 52 3 i0 1 Tryz.underlying52 e6 e7 (some ⟨g,j,none⟩) N k f N (some (.int .i64 (f:Int))) none ⟨_,rfl⟩ rfl (by omega) f9
 have b6:=h.fourth.own.rd.front (H:=f) (by omega)
 have a5:=h.fourth.own.rd.cut (L:=f) (H:=N) (by omega) (Nat.le_refl _)
 unfold sliced at z a5
 generalize (if k=f then (some (⟨g,j,none⟩:Addr)) else (some (⟨g,j,none⟩:Addr)).map fun (x:Addr)=>x.add (f*1))=a2 at z a5
 have e1:(D3 ls).take (f*1)=D3 (ls.take f):=by rw [T07];simp [D3,List.map_take]
 have e2:((D3 ls).drop (f*1)).take ((N-f)*1)=D3 (ls.drop f):=by
  rw [T07,T07,List.take_of_length_le (by rw [T02,L6];omega)]
  simp [D3,List.map_drop]
 rw [e1] at b6
 rw [e2,d1] at a5
 rw [d1] at z
 have H2:=H1.out.newObj [.pointer none,.pointer none] 96
 rw [show (w.alloc (.cells #[.int .i64 (f:Int),.int .i64 (r:Int),.int .i64 (hC:Int),.pointer (some ⟨t0,0,none⟩),.slice (some ⟨g,j,none⟩) N k] 94)).heap.size=w.heap.size+1 by show (w.heap.push _).size=_;simp] at H2
 have H2:=A5 H2
 have a6:∀wz,E5 w wz (fun _=>False)→Calls Tryz.prog 171 #[.slice (some ⟨g,j,none⟩) f k,.slice a2 r (k-f)] wz fun e w'=>∃ (a b:Option Addr) (er:Nat) (Tl:List A6),e= .returned (.tuple #[.agg #[.pointer a,.pointer b],.int .i64 (er:Int)])∧A4 wz w' Tl∧
  Hid ((D0 (ls.take f) 15=0∧D0 (ls.drop f) 15=0∧er=0∧∃B1 B2,a=Z05 B1∧b=Z05 B2∧Tl=[J7 (ls.drop f) B2,J7 (ls.take f) B1])∨((D0 (ls.take f) 15≠0∨D0 (ls.drop f) 15≠0)∧er=3∧Tl=[])):=fun wz hM=>
  X2a _ _ f r (ls.take f) (ls.drop f) wz (b6.kept hM (fun _ _ h=>h)) (a5.kept hM (fun _ _ h=>h)) (by omega) (by omega) (fun a ha=>b2 a (List.mem_of_mem_take ha)) (fun a ha=>b2 a (List.mem_of_mem_drop ha))
 have b7:=A5 (a6 _ ((E5.refl w _).alloc (.cells #[.int .i64 (f:Int),.int .i64 (r:Int),.int .i64 (hC:Int),.pointer (some ⟨t0,0,none⟩),.slice (some ⟨g,j,none⟩) N k] 94)).drew)
 have a7:=A5 (a6 _ (((E5.refl w _).alloc (.cells #[.int .i64 (f:Int),.int .i64 (r:Int),.int .i64 (hC:Int),.pointer (some ⟨t0,0,none⟩),.slice (some ⟨g,j,none⟩) N k] 94)).alloc (.cells #[.pointer none,.pointer none] 96)).drew)
 have e0:=H2.out.swap.obj.cell (i:=0) rfl
 have e4:=H2.out.swap.obj.cell (i:=4) rfl
 clear h hi a4 b5 a8 hy b2 hN e1 e2 b6 a5 a6 m
 go_enter Tryz.func145,Tryz.ntmps145
 go_wp2
 go_region_held3 (fun w'=>w'.cell? ⟨w.heap.size,0,none⟩=some (.int .i64 (f:Int))∧w'.cell? ⟨w.heap.size,4,none⟩=some (.slice (some ⟨g,j,none⟩) N k)) (first | exact ⟨d0,d4⟩ | exact ⟨e0,e4⟩ | go_keep)
  ((go_at_call 171;first
   | (refine b7.out.mono ?_;rintro e' w4 ⟨ca,cb,er,Tl,rfl,hh,a0⟩;have H5:=A5 (A4.frame H1.out.drew hh);have d0:=(H1.out.drew.same hh.mod).obj.cell (i:=0) rfl;have d4:=(H1.out.drew.same hh.mod).obj.cell (i:=4) rfl;clear hh b7 a7)
   | (refine a7.out.mono ?_;rintro e' w4 ⟨ca,cb,er,Tl,rfl,hh,a0⟩;have H5:=A5 (A4.frame H2.out.drew hh);have d0:=(H2.out.drew.same hh.mod).swap.obj.cell (i:=0) rfl;have d4:=(H2.out.drew.same hh.mod).swap.obj.cell (i:=4) rfl;have k0:=(H2.out.drew.same hh.mod).obj.cell (i:=0) rfl;have k1:=(H2.out.drew.same hh.mod).obj.cell (i:=1) rfl;have j0:=(H2.out.drew.same hh.mod).obj.frozen 0;have j1:=(H2.out.drew.same hh.mod).obj.frozen 1;clear hh b7 a7)))
 ·have h6:=(H5.out.perm T01).drop.newObj [.pointer ca,.pointer cb] 96
  have s:Hid (A4 w0 _ (E8 w4.heap.size [.pointer ca,.pointer cb] 96::(Tl++_))):=A5 h6
  clear h6 H5 d0 d4
  generalize w4.alloc (.cells #[.pointer ca,.pointer cb] 96)=w6 at s⊢
  generalize w4.heap.size=K at s⊢
  rcases a0.out with ⟨g1,g2,rfl,B1,B2,rfl,rfl,rfl⟩ | ⟨g1,rfl,rfl⟩
  ·have HE:Hid (F9 M l o (.len d f r head ls)= .go (.tok d (ls.take f) (ls.drop f)) l o):=by
    rw [HS.out,if_neg (not_or.2 ⟨not_not_intro g1,not_or.2 ⟨not_not_intro g2,HY.out⟩⟩)];exact A5 rfl
   have k0:=s.out.obj.cell (i:=0) rfl
   have k1:=s.out.obj.cell (i:=1) rfl
   have H7:=A5 (A4.fourth s.out)
   clear s a0 g1 g2
   unfold Z05 at k0 k1 H7
   go_wp2_with (first
    | ((with_reducible show wpList _ _ _ (⟨none,.store 96 _ _,_,_,_,_⟩::_) _ _);go_must (refine K4 rfl 96 (.tmp 39) (.tmp 35) rfl H7.out 16 [.pointer (some ⟨B1,0,none⟩),.pointer (some ⟨B2,0,none⟩)] rfl rfl (by kernel_rfl) rfl ⟨wv,most,n,lv,5,d,left,q,f,r,hC,some ⟨t0,0,none⟩,.slice (some ⟨g,j,none⟩) N k,some ⟨B1,0,none⟩,some ⟨B2,0,none⟩,fl,fd,en⟩ rfl ⟨by decide,Nat.le_of_ble_eq_true rfl⟩ ?_);intro w7 h7;have H8:=A5 h7;clear h7)
    | ((with_reducible show wpList _ _ _ (⟨none,.store 94 _ _,_,_,_,_⟩::_) _ _);go_must (refine K4 rfl 94 (.tmp 42) (.tmp 36) rfl H8.out 11 [.int .i64 0,.int .i64 0,.int .i64 0,.pointer none,.slice none 0 0] rfl rfl (by kernel_rfl) rfl ⟨wv,most,n,lv,5,d,left,q,0,0,0,none,.slice none 0 0,some ⟨B1,0,none⟩,some ⟨B2,0,none⟩,fl,fd,en⟩ rfl ⟨by decide,Nat.le_of_ble_eq_true rfl⟩ ?_);intro w8 h8;have H9:=A5 h8;have c7:w8.cell? ⟨p.b,p.o+7,none⟩=some (.int .i64 5):=F0 h8 7 _ rfl;have f7:w8.frozen? ⟨p.b,p.o+7,none⟩=false:=Y4 h8 7;clear h8))
   go_ret
   have b8:=Z2q H9.out 7 (.int .i64 6) ⟨wv,most,n,lv,6,d,left,q,0,0,0,none,.slice none 0 0,some ⟨B1,0,none⟩,some ⟨B2,0,none⟩,fl,fd,en⟩ rfl
   have b9:=Z3f (X61 b8.swap.drop)
   refine ⟨0,rfl,.on HI.out HE.out b9 ⟨rfl,rfl,B1,B2,rfl,rfl,by simp,by simp⟩ ?_ rfl rfl⟩
   rcases c8.out with hx | ⟨t1,t2,q1,q2,q3,q4⟩
   ·exact .inl hx
   exact .inr ⟨t1,t2,q1,q2,by simp [q3],by simp [q4]⟩
  have HE:Hid (F9 M l o (.len d f r head ls)= .err 3):=by
   rw [HS.out,if_pos (by rcases g1 with g1 | g1;exact .inl g1;exact .inr (.inl g1))];exact A5 rfl
  have H7:=A5 (A4.drop s.out)
  clear s a0 g1
  go_wp2
  go_ret
  exact ⟨3,rfl,.bad (by unfold P8;rw [←HN.out];exact H7.out) HE.out (fun h=>by cases h) ⟨rfl,rfl⟩⟩
 have h6:=((H5.out.perm T01).setObj 0 (.pointer ca)).setObj 1 (.pointer cb)
 have s:Hid (A4 w0 _ (E8 (w.heap.size+1) [.pointer ca,.pointer cb] 96::(Tl++_))):=A5 ((h6.perm (T01 (l₁:=E8 (w.heap.size+1) [.pointer ca,.pointer cb] 96::Tl))).drop)
 clear h6 H5 d0 d4 k0 k1 j0 j1
 generalize (w4.setCell ⟨w.heap.size+1,0,none⟩ (.pointer ca)).setCell ⟨w.heap.size+1,1,none⟩ (.pointer cb)=w6 at s⊢
 generalize w.heap.size+1=K at s⊢
 rcases a0.out with ⟨g1,g2,rfl,B1,B2,rfl,rfl,rfl⟩ | ⟨g1,rfl,rfl⟩
 ·have HE:Hid (F9 M l o (.len d f r head ls)= .go (.tok d (ls.take f) (ls.drop f)) l o):=by
   rw [HS.out,if_neg (not_or.2 ⟨not_not_intro g1,not_or.2 ⟨not_not_intro g2,HY.out⟩⟩)];exact A5 rfl
  have k0:=s.out.obj.cell (i:=0) rfl
  have k1:=s.out.obj.cell (i:=1) rfl
  have H7:=A5 (A4.fourth s.out)
  clear s a0 g1 g2
  unfold Z05 at k0 k1 H7
  go_wp2_with (first
   | ((with_reducible show wpList _ _ _ (⟨none,.store 96 _ _,_,_,_,_⟩::_) _ _);go_must (refine K4 rfl 96 (.tmp 39) (.tmp 35) rfl H7.out 16 [.pointer (some ⟨B1,0,none⟩),.pointer (some ⟨B2,0,none⟩)] rfl rfl (by kernel_rfl) rfl ⟨wv,most,n,lv,5,d,left,q,f,r,hC,some ⟨t0,0,none⟩,.slice (some ⟨g,j,none⟩) N k,some ⟨B1,0,none⟩,some ⟨B2,0,none⟩,fl,fd,en⟩ rfl ⟨by decide,Nat.le_of_ble_eq_true rfl⟩ ?_);intro w7 h7;have H8:=A5 h7;clear h7)
   | ((with_reducible show wpList _ _ _ (⟨none,.store 94 _ _,_,_,_,_⟩::_) _ _);go_must (refine K4 rfl 94 (.tmp 42) (.tmp 36) rfl H8.out 11 [.int .i64 0,.int .i64 0,.int .i64 0,.pointer none,.slice none 0 0] rfl rfl (by kernel_rfl) rfl ⟨wv,most,n,lv,5,d,left,q,0,0,0,none,.slice none 0 0,some ⟨B1,0,none⟩,some ⟨B2,0,none⟩,fl,fd,en⟩ rfl ⟨by decide,Nat.le_of_ble_eq_true rfl⟩ ?_);intro w8 h8;have H9:=A5 h8;have c7:w8.cell? ⟨p.b,p.o+7,none⟩=some (.int .i64 5):=F0 h8 7 _ rfl;have f7:w8.frozen? ⟨p.b,p.o+7,none⟩=false:=Y4 h8 7;clear h8))
  go_ret
  have b8:=Z2q H9.out 7 (.int .i64 6) ⟨wv,most,n,lv,6,d,left,q,0,0,0,none,.slice none 0 0,some ⟨B1,0,none⟩,some ⟨B2,0,none⟩,fl,fd,en⟩ rfl
  have b9:=Z3f (X61 b8.swap.drop)
  refine ⟨0,rfl,.on HI.out HE.out b9 ⟨rfl,rfl,B1,B2,rfl,rfl,by simp,by simp⟩ ?_ rfl rfl⟩
  rcases c8.out with hx | ⟨t1,t2,q1,q2,q3,q4⟩
  ·exact .inl hx
  exact .inr ⟨t1,t2,q1,q2,by simp [q3],by simp [q4]⟩
 have HE:Hid (F9 M l o (.len d f r head ls)= .err 3):=by
  rw [HS.out,if_pos (by rcases g1 with g1 | g1;exact .inl g1;exact .inr (.inl g1))];exact A5 rfl
 have H7:=A5 (A4.drop s.out)
 clear s a0 g1
 go_wp2
 go_ret
 exact ⟨3,rfl,.bad (by unfold P8;rw [←HN.out];exact H7.out) HE.out (fun h=>by cases h) ⟨rfl,rfl⟩⟩
end
theorem X8e {head:List Int} {l l':List Nat} {N k q n er:Nat} {ls:List Int} {y:Int} (hs:I7 head l=(k,q,0)) (hr:Z2k k (l.drop q) ls l' y n er) (hN:ls.length < N):
  (er≠0→∃a,E7 head l N 0 ls=(true,er,a,ls))∧(er=0→N < ls.length+n→∃a,E7 head l N 0 ls=(true,2,a,ls))∧
  (er=0→¬N < ls.length+n→∃a,E7 head l N 0 ls=(false,0,a,ls++T04 n y)∧l'=l.drop a):=by
 have g:=(P7 hs).2.2
 have b:=Z54 (head:=head) (bs:=l) (N:=N) (a:=0) (l:=ls) (by rw [List.drop_zero];exact hs)
 rw [b,T06]
 cases hr with
 | one h=>
  refine ⟨fun h=>absurd rfl h,fun _ h2=> ?_,fun _ _=>⟨q, ?_,rfl⟩⟩
  ·omega
  rw [X1n h];rfl
 | none h b=>
  refine ⟨fun _=>⟨q,X6n h b⟩, ?_, ?_⟩
  ·intro h;cases h
  intro h;cases h
 | few h b ht=>
  refine ⟨fun _=>⟨q,Y5c h b rfl (by rw [Z55 g];exact ht)⟩, ?_, ?_⟩
  ·intro h;cases h
  intro h;cases h
 | run h b ht=>
  rename_i f
  have d:I8 l q (wdF k)=some f:=by rw [Z55 g];exact ht
  refine ⟨fun h=>absurd rfl h,fun _ h2=>⟨_,Y1o h b rfl rfl d h2⟩,fun _ h2=>⟨_,Z87 h b rfl rfl d h2, ?_⟩⟩
  rw [List.drop_drop];rfl
theorem W68 {k n er:Nat} {l l':List Nat} {ls:List Int} {y:Int} (hb:isBits l) (hr:Z2k k l ls l' y n er) (he:er=0):1≤n∧n≤144:=by
 cases hr with
 | one h=>exact ⟨by decide,by decide⟩
 | none=>cases he
 | few=>cases he
 | run h hl ht=>
  rename_i a
  have d:a < 2^wdF k:=by rw [(N1 ht).2];exact Z0v hb _
  have b:wdF k≤7:=by unfold wdF;split;decide;split <;> decide
  have f:2^wdF k≤2^7:=Nat.pow_le_pow_right (by decide) b
  have g:3≤baF k∧baF k≤11:=by unfold baF;split <;> decide
  have i:(2:Nat)^7=128:=rfl
  omega
section
variable {w0 w:World} {Rs:List A6} {p:C4} {c:DC} {v:Value} {bs l o got:List Nat} {ls:List Int} {Ts:List (List Int×Nat)} {M:Nat}
theorem V2j (k:Nat) (hk:k < 19) (hG:Y9 w0) (hlen:l.length < Y5) (hb:isBits l) (hls:ls.length < 1000) (h:A4 w0 w (J9 (J0 p c) v bs l::B0 3 1 c.hv ls.length (D3 ls)::Rs)):
  Calls Tryz.prog 147 #[.pointer (some ⟨p.b,p.o,none⟩),.int .i64 (k:Int)] w fun e w'=>∃l' y n er,e= .returned (.tuple #[.int .i64 y,.int .i64 ((n:Nat):Int),.int .i64 ((er:Nat):Int)])∧Z2k k l ls l' y n er∧
   A4 w0 w' (J9 (J0 p c) v bs l'::B0 3 1 c.hv ls.length (D3 ls)::Rs):=by
 by_cases a:k < 16
 ·exact V4u k a h
 by_cases d:k=16
 ·subst d;exact W8q hG hlen hb hls h
 exact V1o k (by omega) hG hlen hb h
theorem Y2t {T:List Int} {B:Nat} (hm:(T,B)∈Ts) {R1 R2 R3 R4:A6} (h:A4 w0 w (R1::R2::R3::R4::Z27 Ts::Rs)):A4 w0 w (R1::J7 T B::Z0g ((Ts.erase (T,B)).map fun t=>J7 t.1 t.2)::R2::R3::R4::Rs):=
 (V41 hm (X6r h).swap).third
theorem Y09 {T:List Int} {B:Nat} (hm:(T,B)∈Ts) {R1 R2 R3 R4:A6} (h:A4 w0 w (R1::J7 T B::Z0g ((Ts.erase (T,B)).map fun t=>J7 t.1 t.2)::R2::R3::R4::Rs)):A4 w0 w (R1::R2::R3::R4::Z27 Ts::Rs):=
 X11 (V69 hm h.swap.mid).swap
theorem V6c {R1 R2 R3 R4:A6} (h:A4 w0 w (R1::R2::R3::R4::Rs)):A4 w0 w (R1::R4::R2::R3::Rs):=h.perm (List.Perm.cons _ (T01 (l₁:=[_,_])))
theorem W2x {R1 R2 R3 R4:A6} (h:A4 w0 w (R1::R4::R2::R3::Rs)):A4 w0 w (R1::R2::R3::R4::Rs):=h.perm (List.Perm.cons _ (T01 (l₁:=[_,_])).symm)
theorem X5j (b:Bool) (A B:Nat) (head lx:List Int) (hG:Y9 w0) (h:A4 w0 w (P8 p c v bs l o got ls Ts Rs)) (hi:Z0h M c ls Ts (.len b A B head lx) l o got):
  Calls Tryz.prog 113 #[.pointer (some ⟨p.b,p.o,none⟩)] w fun e w'=>Y5o w0 w' p v bs M (.len b A B head lx) c l o got ls Ts Rs e:=by
 obtain ⟨i0,g9,h0,h1,h2⟩:=info_parts Y5l
 have b3:=hi.cell
 have b4:=hi.fx
 have e9:=hi.ok.ph
 have hb:=hi.ok.bits
 have r:=hi.len
 have HI:=A5 hi
 have b5:=fun (wz:World) (hz:A4 w0 wz (P8 p c v bs l o got ls Ts Rs)) (hf:A+B≤ls.length)=>W6q b A B head lx hf hz hi
 obtain ⟨wv,most,a5,lv,st,d,left,a6,f,g,hC,ht,hv,cl,cd,fl,fd,en⟩:=c
 obtain ⟨rfl,rfl,rfl,rfl,rfl,t0,rfl,a7⟩:st=5∧d=b∧f=A∧g=B∧ls=lx∧∃t,ht=Z05 t∧(head,t)∈Ts:=b3
 obtain ⟨k5,k6,k7,k8,e0,d8,d9,c0⟩:=e9
 obtain ⟨N,hN⟩:∃N,N=ls.length:=⟨_,rfl⟩
 have i:F9 M l o (.len d f g head ls)=Z5f d f g head ls l o:=rfl
 unfold Z5f at i
 rw [←hN] at i
 have h':A4 w0 w (J9 (J0 p ⟨wv,most,a5,lv,5,d,left,a6,f,g,hC,some ⟨t0,0,none⟩,hv,cl,cd,fl,fd,en⟩) v bs l::B0 5 1 wv (L7 o).length (D9 (L7 o))::B0 5 1 lv got.length (D9 got)::B0 3 1 hv N (D3 ls)::Z27 Ts::Rs):=by rw [hN];exact h
 obtain ⟨ao,m,rfl,k9,l0⟩:=h'.fourth.own.form
 have f1:w.cell? ⟨p.b,p.o+8+3,none⟩=some (.int .i64 (f:Int)):=F0 h' 11 _ rfl
 have f2:w.cell? ⟨p.b,p.o+8+3+1,none⟩=some (.int .i64 (g:Int)):=F0 h' 12 _ rfl
 have c8:w.cell? ⟨p.b,p.o+8+3+4,none⟩=some (.slice ao N m):=F0 h' 15 _ rfl
 obtain ⟨K,hK⟩:∃K,K=f+g-N:=⟨_,rfl⟩
 have j1:(f:Int)+(g:Int)- (N:Int)=(K:Int):=by omega
 by_cases a0:f+g≤N
 ·have c9:K=0:=by omega
  have d0:=A5 (fun n:Nat=>b5 (w.drewN n) (h.drewN n) (by rw [←hN];exact a0))
  subst c9
  clear h h' hi i b4 a7 c0 hN hK b5 hb r
  go_enter Tryz.func113,Tryz.ntmps113
  go_wp2
  go_quiet (fail)
  go_wp2_with fail
  with_reducible refine (d0.out _).mono ?_
  rintro e w2 ⟨er,rfl,hR⟩
  have HR:=A5 hR
  clear hR d0
  go_wp2
  go_ret
  exact ⟨er,rfl,HR.out⟩
 rw [if_neg a0] at i
 have j3:((K:Int)==0)=false:=by simp;omega
 have c9:¬(K:Int)=0:=by omega
 have j4:1≤K∧K < 1000:=by omega
 have a8:=A5 i
 have s:=A5 a7
 have j:=A5 (And.intro hN (And.intro hK (And.intro d8 (And.intro c0 d9))))
 have HB:=A5 (And.intro hb (And.intro r (Z2v e0)))
 have f3:=A5 b4
 have H1:=A5 h'
 have f4:N < 1000:=by omega
 clear h h' hi i b4 a7 c0 hN hK b5 hb r e0 d8
 go_enter Tryz.func113,Tryz.ntmps113
 go_wp2
 go_quiet (fail)
 go_wp2
 generalize d6:w.drewN _=w2
 have H2:Hid (A4 w0 w2 _):=A5 (by rw [←d6];exact H1.out.drewN _)
 have f6:w2.cell? ⟨p.b,p.o+8+3+3,none⟩=some (.pointer (some ⟨t0,0,none⟩)):=F0 H2.out 14 _ rfl
 have d1:=A5 (W75 head t0 (Y2t s.out H2.out.drew) HB.out.2.2 HB.out.1 HB.out.2.1)
 clear H1 H2 d6 f1 f2 c8
 go_region_held3 (fun w'=>w'.cell? ⟨p.b,p.o+8+3+3,none⟩=some (.pointer (some ⟨t0,0,none⟩))) (first | exact d2 | exact f6 | go_keep)
  ((go_at_call 146;go_must (refine d1.out.mono ?_);rintro e' w4 ⟨k,q,er,rfl,hh,c1⟩;have H4:=A5 (Y09 s.out hh);have d2:w4.cell? ⟨p.b,p.o+8+3+3,none⟩=some (.pointer (some ⟨t0,0,none⟩)):=F0 hh 14 _ rfl;clear hh d1))
 all_goals
  have x:=Z8j HB.out.1 HB.out.2.2.1 c1.out
  have j5:(0:Int)≤(k:Int):=T00 _
  clear d2
  by_cases he:er=0
  rotate_left
  ·have HE:Hid (F9 M l o (.len d f g head ls)= .err er):=by
    rw [a8.out,Z8o (by rw [List.drop_zero];exact x) he];exact A5 rfl
   have g3:((er:Int)==0)=false:=by simp;omega
   have g4:¬(er:Int)=0:=by omega
   clear x he c1
   go_wp2
   go_ret
   exact ⟨er,rfl,.bad (by unfold P8;rw [←j.out.1];exact H4.out) HE.out (fun _=>⟨rfl,rfl,rfl⟩) ⟨rfl,rfl⟩⟩
  subst he
  have b0:=(P7 x).1
  rw [j.out.2.2.1] at b0
  have f8:=A5 x
  have z:=V2j k b0 hG (by rw [T02];have:=HB.out.2.1;omega) (F3 HB.out.1 q) (by rw [←j.out.1];exact f4) (by rw [←j.out.1];exact V6c H4.out)
  rw [←j.out.1] at z
  have z:=A5 z
  clear x c1 H4
  go_wp2_with fail
  with_reducible refine z.out.mono ?_
  rintro e w5 ⟨l',y,n,a1,rfl,c2,h5⟩
  have H5:=A5 (W2x h5)
  have HL:=A5 (X8e (N:=f+g) f8.out c2 (by rw [←j.out.1];omega))
  have d4:=A5 (W68 (F3 HB.out.1 q) c2)
  have j6:(0:Int)≤(n:Int):=T00 _
  clear c2 h5 z
  by_cases b8:a1=0
  rotate_left
  ·obtain ⟨a,ha⟩:=HL.out.1 b8
   have HE:Hid (F9 M l o (.len d f g head ls)= .err a1):=by
    rw [a8.out,ha];exact A5 rfl
   have g3:((a1:Int)==0)=false:=by simp;omega
   have g4:¬(a1:Int)=0:=by omega
   clear ha b8
   go_wp2
   go_ret
   exact ⟨a1,rfl,.bad (by unfold P8;rw [←j.out.1];exact H5.out) HE.out (fun _=>⟨rfl,rfl,rfl⟩) ⟨rfl,rfl⟩⟩
  subst b8
  obtain ⟨i1,c4⟩:=d4.out rfl
  by_cases d7:K < n
  ·obtain ⟨a,ha⟩:=HL.out.2.1 rfl (by have:=j.out.1;have:=j.out.2.1;omega)
   have HE:Hid (F9 M l o (.len d f g head ls)= .err 2):=by
    rw [a8.out,ha];exact A5 rfl
   have d5:(K:Int) < (n:Int):=by omega
   clear ha d7
   go_wp2
   go_ret
   exact ⟨2,rfl,.bad (by unfold P8;rw [←j.out.1];exact H5.out) HE.out (fun h=>by cases h) ⟨rfl,rfl⟩⟩
  obtain ⟨a,ha,e3⟩:=HL.out.2.2 rfl (by have:=j.out.1;have:=j.out.2.1;omega)
  have HE:Hid (F9 M l o (.len d f g head ls)= .go (.len d f g head (ls++T04 n y)) l' o):=by
   rw [a8.out,ha,e3];exact A5 rfl
  have d5:¬(K:Int) < (n:Int):=by omega
  have f9:=A5 (Y2y H5.out.drew y n ⟨i1,c4⟩)
  have c8:w5.cell? ⟨p.b,p.o+8+3+4,none⟩=some (.slice ao N m):=F0 H5.out 15 _ rfl
  have i3:∀ob,(w5.alloc ob).cell? ⟨p.b,p.o+8+3+4,none⟩=some (.slice ao N m):=fun ob=>F0 (H5.out.alloc ob) 15 _ rfl
  clear ha d7 e3 d4 HL
  go_wp2
  go_region_law ((first
   | (refine Z3e _ (by rfl) (.tmp 63) (.tmp 67) 52 (by rfl) 3 i0 (.int .i64 0) 1 8 Tryz.underlying52 g9 h0 h1 h2 (by rfl) (by decide) (.slice ao N m) N (D3 ls) (by rfl) (by exact H7.out.own) (.slice g8 n e2) n (D3 (T04 n y)) (by rfl) (by exact H7.out.swap.own.rd) (S6 _) (by unfold maxLen;omega) (by omega) ?_;intro c3 a2 w8 a3 a4 e1;have H8:=A5 (H7.out.app a3 a4 e1);have g0:w8.cell? ⟨p.b,p.o+8+3+4,none⟩=some (.slice ao N m):=F0 H8.out.third 15 _ rfl;have g1:w8.frozen? ⟨p.b,p.o+8+3+4,none⟩=false:=Y4 H8.out.third 15;clear a3 a4 e1)
   | (go_simp;go_at_call 127;go_must (refine f9.out.mono ?_);rintro e' w6 ⟨g8,e2,rfl,hh⟩;have H7:=A5 (hh.perm (T01 (l₁:=[_,_,_,_])));have j7:w6.cell? ⟨p.b,p.o+8+3+4,none⟩=some (.slice ao N m):=F0 H7.out.third 15 _ rfl;clear hh)))
  all_goals
   have h9:=Z2q H8.out.third 15 (.slice c3 (N+n) a2) ⟨wv,most,a5,lv,5,d,left,a6,f,g,hC,some ⟨t0,0,none⟩,.slice c3 (N+n) a2,cl,cd,fl,fd,en⟩ rfl
   have g2:=A5 (W2x h9.third.drop)
   clear h9 H8 g0 g1
   go_wp2
   go_ret
   refine ⟨0,rfl,Y4r.on (ls':=ls++T04 n y) (Ts':=Ts) (c':=⟨wv,most,a5,lv,5,d,left,a6,f,g,hC,some ⟨t0,0,none⟩,.slice c3 (N+n) a2,cl,cd,fl,fd,en⟩) HI.out HE.out ?_ ⟨rfl,rfl,rfl,rfl,rfl,t0,rfl,s.out⟩ f3.out rfl rfl⟩
   unfold P8
   rw [List.length_append,List.length_replicate,←j.out.1,T7]
   exact g2.out
end
end Go.Proofs.YtbkbkmgogbgofaaGreatDoor
