/- The claim's texts, put together and shortened by a program (names, spaces). -/
import Derived.Test.YtbkbkmgogbgofaaGreatDoorZk06
import Derived.Test.YtbkbkmgogbgofaaGreatDoorZk31
import Derived.Test.YtbkbkmgogbgofaaGreatDoorZk05
import Derived.Test.YtbkbkmgogbgofaaGreatDoorZk04
import Derived.Deep.DeepCutAuto
import Derived.Deep.CutBlock
import Derived.Test.YtbkbkmgogbgofaaGreatDoorZk16
import Derived.Test.YtbkbkmgogbgofaaGreatDoorZk03
open List renaming mem_cons_of_mem→T00,perm_middle→T01,length_append→T02,mem_cons_self→T03,length_singleton→T05,length_drop→T06
open Int renaming natCast_nonneg→T04
namespace Go.Proofs.YtbkbkmgogbgofaaGreatDoor
set_option maxRecDepth 100000
set_option maxHeartbeats 6400000
open Go.RowKit
section
variable {w0 w:World} {Rs:List A6}
theorem A4.builtR {w0 w w':World} {v:Value} {l:List Nat} {Rs:List A6} (h:A4 w0 w Rs) (hb:Z6p w w' v l):A4 w0 w' (B0 5 1 v l.length (D9 l)::Rs):=h.pushOwn hb.1 hb.2.1 hb.2.2
theorem A4.nilN (h:A4 w0 w Rs) (e:TypeId) (size:Nat):A4 w0 w (B0 e size (.slice none 0 0) 0 []::Rs):=h.nil e size
theorem A4.nth5 {R1 R2 R3 R4 R5:A6} (h:A4 w0 w (R1::R2::R3::R4::R5::Rs)):A4 w0 w (R5::R1::R2::R3::R4::Rs):=h.perm (T01 (l₁:=[R1,R2,R3,R4]))
theorem A4.nth6 {R1 R2 R3 R4 R5 R6:A6} (h:A4 w0 w (R1::R2::R3::R4::R5::R6::Rs)):A4 w0 w (R6::R1::R2::R3::R4::R5::Rs):=h.perm (T01 (l₁:=[R1,R2,R3,R4,R5]))
theorem A4.nth7 {R1 R2 R3 R4 R5 R6 R7:A6} (h:A4 w0 w (R1::R2::R3::R4::R5::R6::R7::Rs)):A4 w0 w (R7::R1::R2::R3::R4::R5::R6::Rs):=h.perm (T01 (l₁:=[R1,R2,R3,R4,R5,R6]))
def Y4l (l:List Nat):List Value:=D3 (l.map fun (x:Nat)=>(x:Int))
theorem X14 (a:List Nat) (b:Nat):Y4l (a++[b])=Y4l a++D3 [(b:Int)]:=by unfold Y4l;rw [List.map_append,T7];rfl
def Y6p (w0 w:World) (Rs:List A6) (B:Nat) (bo:Option Addr) (bc m M:Nat) (all:List Nat) (e a rest:Nat) (O:List Nat) (T:List E3) (ks ss:List Nat):Prop:=
 ∃ (oo:Option Addr) (oc k:Nat) (ko:Option Addr) (kc nk:Nat) (so:Option Addr) (sc ns:Nat) (tt:Option Addr) (tc nt:Nat) (li di lc dc:Value),k=O.length∧nk=ks.length∧ns=ss.length∧nt=T.length∧
  A4 w0 w (S2 B (.slice oo k oc) e (.int .i64 (rest:Int)) (.slice ko nk kc) (.slice so ns sc) (.slice bo m bc) a (M:Int) li di lc dc (.slice tt nt tc)::rdT 1 (.slice bo m bc) m (D9 all)::
   B0 5 1 (.slice oo k oc) k (D9 O)::B0 3 1 (.slice ko nk kc) nk (Y4l ks)::B0 3 1 (.slice so ns sc) ns (Y4l ss)::B0 112 3 (.slice tt nt tc) nt (I6 T)::Rs)
theorem V09 {w':World} {Rz:List A6} {S:Nat×Nat×List Nat×List E3} {B:Nat} {ko so bo:Option Addr} {nk kc ns sc bc m M nl nd:Nat} {li di:Value} {lit dist:List Int} {all ks ss:List Nat}
  (h:V1u w0 w' (B0 3 1 (.slice ko nk kc) nk (Y4l ks)::B0 3 1 (.slice so ns sc) ns (Y4l ss)::Rz) S B (.int .i64 ((0:Nat):Int)) (.slice ko nk kc) (.slice so ns sc) bo bc m M nl nd li di lit dist all) (hk:nk=ks.length) (hs:ns=ss.length):
  ∃a',(S.1=0→a'=S.2.1)∧Y6p w0 w' Rz B bo bc m M all S.1 a' 0 S.2.2.1 S.2.2.2 ks ss:=by
 obtain ⟨a,b,k,a',d,f,g,i,j,l,n,o,p⟩:=h
 exact ⟨a',o,a,b,k,ko,kc,nk,so,sc,ns,d,f,g,li,di,i,j,l,hk,hs,n,p.third.drop.third.drop.fourth.drop.fourth.nth6.nth6.nth6.nth6.nth6⟩
theorem Y1e:(∀y∈I5,0≤y∧y≤15)∧(∀y∈G7,0≤y∧y≤15)∧I5.length=288∧G7.length=32:=by decide+kernel
theorem A4.k4 {R1 R2 R3 R4:A6} (h:A4 w0 w (R1::R2::R3::R4::Rs)):A4 w0 w (R1::R3::R4::R2::Rs):=h.perm (List.Perm.cons _ (T01 (l₁:=[R3,R4])).symm)
theorem A4.s5 {R1 R2 R3 R4 R5:A6} (h:A4 w0 w (R1::R2::R3::R4::R5::Rs)):A4 w0 w (R1::R3::R4::R5::R2::Rs):=h.perm (List.Perm.cons _ (T01 (l₁:=[R3,R4,R5])).symm)
def V5a (w0 w':World) (Rs:List A6) (S:W3w) (B:Nat) (bits:List Nat) (M:Nat):Prop:=∃ (bo:Option Addr) (bc m a':Nat),m=bits.length∧Y6p w0 w' Rs B bo bc m M bits S.e a' S.rest S.out S.tk S.kinds S.stops
theorem X8a {Rz:List A6} (v:Value) (l:List Nat) (mo:Int)
  (h:A4 w0 w Rz) (hrd:Rd w 1 v l.length (D9 l)) (hb:∀b∈l,b < 256) (hl:l.length < 480000) (hmo:mo < 1000000000) (hmo2: -1000000000 < mo):
  Calls Tryz.prog 22 #[v,.int .i64 mo] w fun e' w'=>∃B,e'= .returned (S4 B)∧V5a w0 w' Rz (T6 (D7 l) mo.toNat ((D7 l).length+1) 0 [] [] [] []) B (D7 l) mo.toNat:=by
 obtain ⟨i0,l0,l1,l2,l3⟩:=info_parts Y3g
 have H:=A5 h
 have j2:=A5 (W9k v l w hrd hb (by omega))
 obtain ⟨M,hM⟩:∃M,M=mo.toNat:=⟨_,rfl⟩
 rw [←hM]
 obtain ⟨m,hm⟩:∃m,m=(D7 l).length:=⟨_,rfl⟩
 have t6:m≤3840000:=by rw [hm,E1];omega
 rw [←hm]
 have n:Hid (isBits (D7 l)):=A5 (M8 l)
 have f2:(D7 l).length=m:=hm.symm
 generalize D7 l=all at*
 generalize hS:T6 all M (m+1) 0 [] [] [] []=S
 have HS:=A5 hS
 have s:=A5 hm
 have j3:Hid ((mo < 0→(0:Int)=(M:Int))∧(¬mo < 0→mo=(M:Int))∧M < 1000000000):=A5 ⟨fun h=>by omega,fun h=>by omega,by omega⟩
 have t8:M < 1000000000:=by omega
 clear h hrd hS hm hb hl hmo hmo2 hM
 go_enter Tryz.func22,Tryz.ntmps22
 go_wp2_with fail
 refine j2.out.mono ?_
 rintro e' w1 ⟨v1,rfl,g5⟩
 have h1:=H.out.builtR g5
 rw [f2] at h1
 obtain ⟨bo,bc,g9,_,_⟩:=g5.1.form
 subst g9
 rw [f2] at h1⊢
 have H1:=A5 h1
 clear j2 g5 h1
 have b8:∀wl (mv:Int),A4 w0 wl (E8 w1.heap.size [.slice none 0 0,.int .i64 0,.int .i64 0,.slice none 0 0,.slice none 0 0,.slice bo m bc,.int .i64 0,.int .i64 mv,.slice none 0 0,.slice none 0 0,.slice none 0 0,.slice none 0 0,.slice none 0 0] 56::B0 5 1 (.slice bo m bc) m (D9 all)::Rz)→mv=(M:Int)→
   Y6p w0 wl Rz w1.heap.size bo bc m M all 0 0 0 [] [] [] []:=fun wl mv p hmv=>by
  subst hmv
  have h2:=((((p.swap.toRd.swap.nilN 112 3).third.third.nilN 3 1).third.third.nilN 3 1).third.third.nilN 5 1).third.third
  exact ⟨none,0,0,none,0,0,none,0,0,none,0,0,.slice none 0 0,.slice none 0 0,.slice none 0 0,.slice none 0 0,rfl,rfl,rfl,rfl,h2⟩
 have t:=A5 b8
 have d8:=A5 (H1.out.newObj [.slice none 0 0,.int .i64 0,.int .i64 0,.slice none 0 0,.slice none 0 0,.slice bo m bc,.int .i64 0,.int .i64 mo,.slice none 0 0,.slice none 0 0,.slice none 0 0,.slice none 0 0,.slice none 0 0] 56)
 have f7:=d8.out.obj.frozen 7
 have c7:=d8.out.obj.cell (i:=7) rfl
 clear b8
 go_upto_if 15 with (fail)
 go_cut [5] (fun s5 wx=>s5= .pointer (some ⟨w1.heap.size,0,none⟩)∧Hid (Y6p w0 wx Rz w1.heap.size bo bc m M all 0 0 0 [] [] [] []))
 case first=>
  by_cases f3:mo < 0
  ·go_wp2
   go_meet
   case rel=>exact ⟨rfl,A5 (t.out _ 0 (H1.out.newObj [.slice none 0 0,.int .i64 0,.int .i64 0,.slice none 0 0,.slice none 0 0,.slice bo m bc,.int .i64 0,.int .i64 0,.slice none 0 0,.slice none 0 0,.slice none 0 0,.slice none 0 0,.slice none 0 0] 56) (j3.out.1 f3))⟩
  go_wp2
  go_meet
  case rel=>exact ⟨rfl,A5 (t.out _ mo d8.out (j3.out.2.1 f3))⟩
 case rest=>
  obtain ⟨rfl,HI⟩:=hcut
  clear d8 t f7 c7 H1 H
  generalize w1.heap.size=B at*
  go_wp2
  go_loopg [] (m+2) (fun g wr=>∃ (a f:Nat) (O:List Nat) (T:List E3) (ks ss:List Nat),a≤m∧m-a < f∧f < g∧Hid (O.length≤M∧O.length≤258*a∧T.length≤a∧ks.length≤a∧ss.length=ks.length∧S=T6 all M f a O T ks ss)∧Hid (Y6p w0 wr Rz B bo bc m M all 0 a 0 O T ks ss))
  case atStart=>exact ⟨0,m+1,[],[],[],[],by omega,by omega,by omega,A5 ⟨by simp,by simp,by simp,by simp,rfl,HS.out.symm⟩,HI⟩
  case round=>
   obtain ⟨a,f,O,T,ks,ss,v8,hf,hg,HO,HQ⟩:=hrel
   obtain ⟨f',rfl⟩:∃f',f=f'+1:=⟨f-1,by omega⟩
   obtain ⟨oo,oc,k,ko,kc,nk,so,sc,ns,tt,tc,nt,li,di,lc,dc,z,e5,e6,e7,hq⟩:=HQ.out
   cases ht:I8 all a 3 with
   | none=>
    have hT:=Z51 B (.slice oo k oc) 0 (.int .i64 ((0:Nat):Int)) (.slice ko nk kc) (.slice so ns sc) bo bc m a 3 (M:Int) li di lc dc (.slice tt nt tc) all hq ht (by omega) (by decide)
    rw [show ((3:Nat):Int)=3 from rfl] at hT
    unfold S4 at hT
    have HT:=A5 hT
    have b9:Hid (S=⟨5,a,O,T,ks,ss,0⟩):=A5 (by rw [HO.out.2.2.2.2.2,Z0p (Y9c ht)])
    have x:=A5 (And.intro z (And.intro e5 (And.intro e6 e7)))
    clear hT ht hq z e5 e6 e7
    go_wp2_with fail
    refine HT.out.mono ?_
    rintro e' w6 ⟨rfl,p⟩
    have H6:=A5 p
    clear p HT HQ
    go_wp2
    go_ret
    refine ⟨B,rfl,bo,bc,m,a,s.out, ?_⟩
    rw [b9.out]
    exact ⟨oo,oc,k,ko,kc,nk,so,sc,ns,tt,tc,nt,li,di,lc,dc,x.out.1,x.out.2.1,x.out.2.2.1,x.out.2.2.2,H6.out⟩
   | some v3=>
    obtain ⟨l5,l6⟩:=M2 ht
    have u1:v3 < 8:=by rw [l6];exact L8 n.out a 3
    have hT:=X9 B (.slice oo k oc) 0 (.int .i64 ((0:Nat):Int)) (.slice ko nk kc) (.slice so ns sc) bo bc m a 3 v3 (M:Int) li di lc dc (.slice tt nt tc) all hq ht n.out (by omega) (by decide)
    rw [show ((3:Nat):Int)=3 from rfl] at hT
    unfold S4 at hT
    have HT:=A5 hT
    have f9:=A5 ht
    have j6:a+3≤m:=by rw [s.out];exact l5
    obtain ⟨d,g6⟩:∃d,d=v3 / 2:=⟨_,rfl⟩
    obtain ⟨fl,g7⟩:∃fl,fl=v3%2:=⟨_,rfl⟩
    have q4:(v3:Int) / 2=(d:Int):=by omega
    have q5:(v3:Int)%2=(fl:Int):=by omega
    have q6:(v3:Int).tdiv 2=(d:Int):=by rw [g6];rfl
    have q8:(v3:Int).tmod 2=(fl:Int):=by rw [g7];rfl
    have q9:d < 4:=by omega
    have r0:fl < 2:=by omega
    have r1:(0:Int)≤(d:Int):=T04 _
    have r2:(0:Int)≤(v3:Int):=T04 _
    have a4:=A5 (And.intro g6 g7)
    have r3:nk≤3840000:=by have:=HO.out.2.2.2.1;omega
    have x:=A5 (And.intro z (And.intro e5 (And.intro e6 e7)))
    clear hT ht l5 l6 g6 g7 hq z e5 e6 e7
    go_wp2_with fail
    refine HT.out.mono ?_
    rintro e' w6 ⟨rfl,p⟩
    have b1:=p.obj
    have d3:=b1.cell (i:=3) rfl
    have H6:=A5 p
    clear p HT HQ b1
    go_upto_block 2 with (refine D6 rfl (.tmp 33) (.tmp 35) 52 rfl 3 i0 (.int .i64 0) 1 8 Tryz.underlying52 l0 l1 l2 l3 rfl (by decide) _ nk _ rfl (H6.out.fourth.alloc _) _ 1 (D3 [(d:Int)]) rfl (Rd.lit _ [_] _ 1 1 (by decide) rfl) (S6 _) (nk+1) rfl (by unfold maxLen;omega) (by omega) ?_;intro e8 y w7 h7;rw [←X14] at h7;have b1:=h7.swap.obj;have e3:=b1.cell (i:=3) rfl;have g3:=b1.frozen 3;have H7:=A5 ((h7.swap).setObj 3 (.slice e8 (nk+1) y));clear h7 b1)
    go_cut [7] (fun s7 wx=>∃ (bq:Bool) (e a2 a3:Nat) (O2:List Nat) (T2:List E3),s7= .bool bq∧Hid (bq=decide (e=0))∧Hid (I9 all M d (a+3) O T=(e,a3,O2,T2)∧(e=0→a2=a3))∧Hid (Y6p w0 wx Rz B bo bc m M all e a2 0 O2 T2 (ks++[d]) ss))
    case first=>
     have H8:=A5 H7.out.k4
     have u2:k≤258*a:=by have:=HO.out;have:=x.out;omega
     have r7:nt≤a:=by have:=HO.out;have:=x.out;omega
     have j7:k≤M:=by have:=HO.out;have:=x.out;omega
     have c0:Hid (nk+1=(ks++[d]).length):=A5 (by rw [T02,←x.out.2.1];rfl)
     clear H7 H6 d3 e3 g3
     have n6:d=0∨d=1∨d=2∨d=3:=by omega
     rcases n6 with z | z | z | z
     ·have q0:((d:Int)==0)=true:=by rw [z];rfl
      have hs:=W0s B oo oc k _ _ _ bo bc m (a+3) M li di lc dc (.slice tt nt tc) all O H8.out n.out (by omega) (by omega) (by omega)
      unfold S4 at hs
      obtain ⟨qe,qa,qo,hq⟩:∃qe qa qo,N9 all M (a+3) O=(qe,qa,qo):=⟨_,_,_,rfl⟩
      rw [hq] at hs
      have a5:=A5 hs
      have q:Hid (I9 all M d (a+3) O T=(qe,qa,qo,T)):=A5 (by unfold I9;rw [if_pos z,hq])
      clear hs hq z H8
      go_wp2_with fail
      refine a5.out.mono ?_
      rintro e' w8 ⟨rfl,o7,o8,k',a',h1,h2,p⟩
      have HX:=A5 (And.intro h1 (And.intro h2 p))
      clear h1 h2 p a5
      go_wp2
      go_meet
      case rel=>exact ⟨_,qe,a',qa,qo,T,rfl,A5 rfl,A5 ⟨q.out,HX.out.2.1⟩,A5 ⟨o7,o8,k',e8,y,nk+1,so,sc,ns,tt,tc,nt,li,di,lc,dc,HX.out.1,c0.out,x.out.2.2.1,x.out.2.2.2,HX.out.2.2⟩⟩
     ·have q0:((d:Int)==0)=false:=by simp;omega
      have q1:((d:Int)==1)=true:=by rw [z];rfl
      have HF:=A5 (W5v B _ _ _ _ _ _ _ _ _ _ _ _ _ H8.out)
      unfold S4 at HF
      have q:Hid (I9 all M d (a+3) O T=Z1u I5 G7 all M (m+1) (a+3) O T):=A5 (by unfold I9;rw [if_neg (by omega),if_pos z,s.out])
      clear z H8
      go_wp2_with fail
      refine HF.out.mono ?_
      rintro e' w8 ⟨rfl,c4,c5,p⟩
      have hs:=Y6f B oo oc k _ _ _ bo bc m (a+3) M c4 c5 lc dc tt nt tc 288 32 I5 G7 all O T p.nth6.nth6.nth7.nth5.nth7.nth7.nth7 n.out (by omega) (by omega) j7 (by omega) (by omega) Y1e.2.2.1.symm Y1e.2.2.2.symm (by omega) (by omega) Y1e.1 Y1e.2.1
      unfold S4 at hs
      rw [←q.out] at hs
      have a5:=A5 hs
      clear hs p HF
      go_wp2_with fail
      refine a5.out.mono ?_
      rintro e' w9 ⟨rfl,c6⟩
      obtain ⟨a',h3,hi⟩:=V09 c6 c0.out x.out.2.2.1
      have HX:=A5 (And.intro h3 hi)
      clear c6 h3 hi a5
      go_wp2
      go_meet
      case rel=>exact ⟨_,(I9 all M d (a+3) O T).1,a',(I9 all M d (a+3) O T).2.1,(I9 all M d (a+3) O T).2.2.1,(I9 all M d (a+3) O T).2.2.2,rfl,A5 rfl,A5 ⟨rfl,HX.out.1⟩,A5 HX.out.2⟩
     ·have q0:((d:Int)==0)=false:=by simp;omega
      have q1:((d:Int)==1)=false:=by simp;omega
      have q2:((d:Int)==2)=true:=by rw [z];rfl
      have hd:=X6a B (.slice oo k oc) _ _ _ bo bc m (a+3) M li di lc dc (.slice tt nt tc) all H8.out n.out (by omega) (by omega)
      unfold S4 at hd
      have q:Hid (I9 all M d (a+3) O T=if (Q5 all (a+3)).1≠0 then ((Q5 all (a+3)).1,(Q5 all (a+3)).2.1,O,T) else Z1u (Q5 all (a+3)).2.2.1 (Q5 all (a+3)).2.2.2 all M (m+1) (Q5 all (a+3)).2.1 O T):=A5 (by unfold I9;rw [if_neg (by omega),if_neg (by omega),if_pos z,s.out])
      have j:(Q5 all (a+3)).1=0→_:=fun h=>Y2p h
      obtain ⟨de,da,dl,dd,l9⟩:∃de da dl dd,Q5 all (a+3)=(de,da,dl,dd):=⟨_,_,_,_,rfl⟩
      rw [l9] at hd q j
      have HD:=A5 hd
      have HG:=A5 j
      clear z H8 hd l9 j
      by_cases a7:de=0
      ·subst a7
       have j:=HG.out rfl
       have c3:Hid (I9 all M d (a+3) O T=Z1u dl dd all M (m+1) da O T):=A5 (by rw [q.out,if_neg (fun h=>h rfl)])
       have b2:Hid (Calls Tryz.prog 39 #[.pointer (some ⟨B,0,none⟩)] _ fun e' w'=>e'= .returned (.bool true)∧_):=HD
       clear q HD
       go_wp2_with fail
       refine b2.out.mono ?_
       rintro e' w8 ⟨rfl,a7⟩
       rcases a7 with ⟨_,c4,c5,p⟩ | ⟨hne,_⟩
       rotate_left
       ·exact absurd rfl hne
       have hs:=Y6f B oo oc k _ _ _ bo bc m da M c4 c5 lc dc tt nt tc dl.length dd.length dl dd all O T p.nth6.nth6.nth7.nth6.nth7.nth7.nth7 n.out (by have:=j.2.1;have:=s.out;omega) (by omega) j7 (by have:=j.1;omega) (by have:=j.1;omega) rfl rfl j.2.2.1 j.2.2.2.1 j.2.2.2.2.1 j.2.2.2.2.2
       unfold S4 at hs
       rw [←c3.out] at hs
       have a5:=A5 hs
       clear hs p j b2 HG
       go_wp2_with fail
       refine a5.out.mono ?_
       rintro e' w9 ⟨rfl,c6⟩
       obtain ⟨a',h3,hi⟩:=V09 c6 c0.out x.out.2.2.1
       have HX:=A5 (And.intro h3 hi)
       clear c6 h3 hi a5
       go_wp2
       go_meet
       case rel=>exact ⟨_,(I9 all M d (a+3) O T).1,a',(I9 all M d (a+3) O T).2.1,(I9 all M d (a+3) O T).2.2.1,(I9 all M d (a+3) O T).2.2.2,rfl,A5 rfl,A5 ⟨rfl,HX.out.1⟩,A5 HX.out.2⟩
      have c3:Hid (I9 all M d (a+3) O T=(de,da,O,T)):=A5 (by rw [q.out,if_pos a7])
      have j8:decide (de=0)=false:=decide_eq_false a7
      have g0:=A5 a7
      have b2:=A5 HD.out
      simp only [j8] at b2
      clear q HD HG j8 a7
      go_wp2_with fail
      refine b2.out.mono ?_
      rintro e' w8 ⟨rfl,o9⟩
      rcases o9 with ⟨h0,_⟩ | ⟨_,a',c4,c5,p⟩
      ·exact absurd h0 g0.out
      have HX:=A5 p
      clear p b2
      go_wp2
      go_meet
      case rel=>exact ⟨false,de,a',da,O,T,rfl,A5 (decide_eq_false g0.out).symm,A5 ⟨c3.out,fun h=>absurd h g0.out⟩,A5 ⟨oo,oc,k,e8,y,nk+1,so,sc,ns,tt,tc,nt,c4,c5,lc,dc,x.out.1,c0.out,x.out.2.2.1,x.out.2.2.2,HX.out⟩⟩
     have q0:((d:Int)==0)=false:=by simp;omega
     have q1:((d:Int)==1)=false:=by simp;omega
     have q2:((d:Int)==2)=false:=by simp;omega
     have q:Hid (I9 all M d (a+3) O T=(2,a+3,O,T)):=A5 (by unfold I9;rw [if_neg (by omega),if_neg (by omega),if_neg (by omega)])
     have g1:=H8.out.obj.frozen 1
     have e1:=H8.out.obj.cell (i:=1) rfl
     clear z
     go_wp2
     go_meet
     case rel=>exact ⟨false,2,a+3,a+3,O,T,rfl,A5 rfl,A5 ⟨q.out,fun h=>rfl⟩,A5 ⟨oo,oc,k,e8,y,nk+1,so,sc,ns,tt,tc,nt,li,di,lc,dc,x.out.1,c0.out,x.out.2.2.1,x.out.2.2.2,H8.out.setObj 1 (.int .i64 2)⟩⟩
    case rest=>
     obtain ⟨bq,e,a2,a3,O2,T2,rfl,m1,b3,h8⟩:=hcut
     clear H7 H6 d3 e3 g3
     have u4:=A5 HO.out
     cases bq with
     | false=>
      have he:e≠0:=of_decide_eq_false m1.out.symm
      have b9:Hid (S=⟨e,a3,O2,T2,ks++[d],ss,0⟩):=A5 (by
       rw [HO.out.2.2.2.2.2,a4.out.1]
       exact Z0p (Y3d f9.out (by rw [←a4.out.1];exact b3.out.1) he))
      clear he
      go_wp2
      go_ret
      refine ⟨B,rfl,bo,bc,m,a2,s.out, ?_⟩
      rw [b9.out]
      exact h8.out
     | true=>
      have he:e=0:=of_decide_eq_true m1.out.symm
      subst he
      have j9:a2=a3:=b3.out.2 rfl
      subst j9
      have j:=Y3u (kind:=d) (out:=O) (tk:=T) (M:=M) (a:=a+3) n.out (by rw [←s.out];exact j6) HO.out.1 (by rw [b3.out.1])
      rw [b3.out.1] at j
      have k0:Hid (a+3≤a2∧a2≤m∧O2.length≤O.length+258*(a2- (a+3))∧T2.length≤T.length+(a2- (a+3))∧O2.length≤M):=A5 (by rw [s.out];exact j)
      obtain ⟨po,pc,pk,ro,rc,rn,uo,uc,un,xo,xc,xn,h9,i1,i2,i3,h1,h2,h3,h4,p⟩:=h8.out
      have r:=A5 (And.intro h1 (And.intro h2 (And.intro h3 h4)))
      have r9:un≤3840000:=by have:=HO.out.2.2.2.1;have:=HO.out.2.2.2.2.1;omega
      have s1:(0:Int)≤(pk:Int):=T04 _
      have H9:=A5 p
      have e2:=p.obj
      have s0:=e2.cell (i:=0) rfl
      have s4:=e2.cell (i:=4) rfl
      have e4:=A5 e2
      have k1:=A5 p.nth5.swap.apart
      clear j h1 h2 h3 h4 p e2
      have o1:∀o,(wc.alloc o).cell? ⟨B,0,none⟩=some (.slice po pk pc):=fun o=>(e4.out.alloc o).cell (i:=0) rfl
      have o2:∀o,(wc.alloc o).cell? ⟨B,4,none⟩=some (.slice uo un uc):=fun o=>(e4.out.alloc o).cell (i:=4) rfl
      go_upto_region 21 with (fail)
      go_cut [6] (fun s6 wx=>s6= .int .i64 (v3:Int)∧Hid (Y6p w0 wx Rz B bo bc m M all 0 a2 0 O2 T2 (ks++[d]) (ss++[O2.length])))
      case first=>
       go_region_law ((refine Z3e _ (by rfl) (.tmp 68) (.tmp 74) 52 (by rfl) 3 i0 (.int .i64 0) 1 8 Tryz.underlying52 l0 l1 l2 l3 (by rfl) (by decide) (.slice uo un uc) un (Y4l ss) (by rfl) (by exact (H9.out.nth5.own.alloc _).drew) (.slice (some ⟨wc.heap.size,0,none⟩) 1 1) 1 (D3 [(pk:Int)]) (by rfl) (by exact (Rd.lit wc [_] _ 1 1 (by decide) rfl).drew) (S6 _) (by unfold maxLen;omega) (by omega) ?_;intro k8 f4 w2 c9 a8 k9;have k2:=A5 ((e4.out.alloc _).drew.grown a8 k1.out);have f1:=k2.out.frozen 4;have c1:=k2.out.cell (i:=4) rfl;have o3:=A5 ((((H9.out.nth5.alloc _).drew.app c9 a8 k9).swap.setObj 4 (.slice k8 (un+1) f4)).s5);clear c9 a8 k9))
       all_goals
        go_wp2
        go_meet
        case rel=>
         refine ⟨rfl,A5 ⟨po,pc,pk,ro,rc,rn,k8,f4,un+1,xo,xc,xn,h9,i1,i2,i3,r.out.1,r.out.2.1,by rw [T02,←r.out.2.2.1];rfl,r.out.2.2.2, ?_⟩⟩
         rw [X14 ss,←r.out.1]
         exact o3.out
      case rest=>
       obtain ⟨rfl,i4⟩:=hcut
       clear H9 e4 k1 s0 s4 o1 o2 h8 r
       by_cases g4:fl=1
       ·subst g4
        obtain ⟨po,pc,pk,ro,rc,rn,uo,uc,un,xo,xc,xn,h9,i1,i2,i3,h1,h2,h3,h4,p⟩:=i4.out
        have r:=A5 (And.intro h1 (And.intro h2 (And.intro h3 h4)))
        have s6:=p.obj.cell (i:=6) rfl
        have s2:=p.obj.cell (i:=2) rfl
        have g2:=p.obj.frozen 2
        obtain ⟨q7,q3⟩:∃q7,q7=a2+7:=⟨_,rfl⟩
        obtain ⟨R,hR⟩:∃R,R=(a2+7) / 8:=⟨_,rfl⟩
        have u7:(a2:Int)+7=(q7:Int):=by omega
        have u8:(q7:Int) / 8=(R:Int):=by omega
        have u9:(q7:Int).tdiv 8=(R:Int):=by rw [Int.tdiv_eq_ediv_of_nonneg (by omega)];omega
        have s8:(0:Int)≤(q7:Int):=T04 _
        have s9:a2 < 1000000000:=by have:=k0.out.2.1;omega
        have t0:q7 < 1000001000:=by omega
        have b9:Hid (S=⟨0,a2,O2,T2,ks++[d],ss++[O2.length],R⟩):=A5 (by
         rw [HO.out.2.2.2.2.2,hR,a4.out.1]
         exact Z0p (Y0d f9.out (by rw [←a4.out.1];exact b3.out.1) a4.out.2.symm))
        have o4:=A5 (p.setObj 2 (.int .i64 (R:Int)))
        clear q3 hR h1 h2 h3 h4 p i4
        go_wp2
        go_ret
        refine ⟨B,rfl,bo,bc,m,a2,s.out, ?_⟩
        rw [b9.out]
        exact ⟨po,pc,pk,ro,rc,rn,uo,uc,un,xo,xc,xn,h9,i1,i2,i3,r.out.1,r.out.2.1,r.out.2.2.1,r.out.2.2.2,o4.out⟩
       have v0:((fl:Int)==1)=false:=by simp;omega
       have o5:=A5 g4
       have t1:¬(fl:Int)=1:=by omega
       clear g4
       go_wp2
       go_roundg (gk-1)
       case measure=>omega
       case rel=>
        have k3:=k0.out
        have ho:=HO.out
        refine ⟨a2,f',O2,T2,ks++[d],ss++[O2.length],k3.2.1,by omega,by omega,A5 ⟨k3.2.2.2.2,by omega,by omega, ?_, ?_, ?_⟩,i4⟩
        ·rw [T02];simp only [T05];omega
        ·rw [T02,T02];simp only [T05];omega
        rw [ho.2.2.2.2.2,a4.out.1]
        exact Y7c (Z9z f9.out (by rw [←a4.out.1];exact b3.out.1) (by rw [←a4.out.2];exact o5.out))
end
def W1b (B:Nat) (x:Value) (e R:Nat):A6:=exT fun r:List Value=>E8 B (x:: .int .i64 (e:Int):: .int .i64 (R:Int)::r) 56
def Y0z (l:List Nat):Nat:=l.foldl (fun v b=>v*256+b) 0
theorem W4g (l:List Nat) (b:Nat):Y0z (l++[b])=Y0z l*256+b:=by unfold Y0z;rw [List.foldl_append];rfl
theorem V3g:∀ (l:List Nat),(∀b∈l,b < 256)→∀k,l.length≤k→k≤3→Y0z l < 16777216:=by
 have d:∀ (l:List Nat) (v m:Nat),(∀b∈l,b < 256)→v < m→l.foldl (fun v b=>v*256+b) v < m*256^l.length:=fun l=>by
  induction l with
  | nil=>intro v m _ h;simpa using h
  | cons b r ih=>
   intro v m a h
   have f:=ih (v*256+b) (m*256) (fun c hc=>a c (T00 _ hc)) (by have:=a b (T03 ..);omega)
   rw [List.foldl_cons,List.length_cons,Nat.pow_succ,Nat.mul_comm (256^r.length) 256,←Nat.mul_assoc]
   exact f
 intro l a k j n
 have f:=d l 0 1 a (by decide)
 have g:256^l.length≤256^3:=Nat.pow_le_pow_right (by decide) (by omega)
 have i:(256:Nat)^3=16777216:=by decide
 unfold Y0z
 omega
theorem V2d {r:List Nat} (hb:∀b∈r,b < 256) (hl:4≤r.length) {q:Nat} (hq:q < 4294967296):Y0z (r.take 4)=q↔r.take 4=beB q:=by
 match r,hl with
 | a::b::c::d::r,_=>
  have f:=hb a (by simp)
  have g:=hb b (by simp)
  have i:=hb c (by simp)
  have j:=hb d (by simp)
  show ((((0*256+a)*256+b)*256+c)*256+d=q)↔[a,b,c,d]=[q / 16777216%256,q / 65536%256,q / 256%256,q%256]
  simp only [List.cons.injEq,and_true]
  omega
section
variable {w0 w:World} {Rs Rz:List A6}
theorem X8o {B e R:Nat} {x:Value} (h:A4 w0 w (W1b B x e R::Rs)):w.cell? ⟨B,0,none⟩=some x∧w.cell? ⟨B,1,none⟩=some (.int .i64 (e:Int))∧w.cell? ⟨B,2,none⟩=some (.int .i64 (R:Int)):=by
 obtain ⟨r,a⟩:=A4.ex h
 exact ⟨a.obj.cell (i:=0) rfl,a.obj.cell (i:=1) rfl,a.obj.cell (i:=2) rfl⟩
theorem V5n (v:Value) (n:Nat) (l:List Nat) (mo:Int) (M:Nat) (hn:n=l.length) (hM:mo=(M:Int)) (h:A4 w0 w Rz) (hrd:Rd w 1 v n (D9 l)) (hb:∀b∈l,b < 256) (hl:l.length < 480000) (hmo:M < 1000000000):
  Calls Tryz.prog 22 #[v,.int .i64 mo] w fun e' w'=>∃ (B:Nat) (oo:Option Addr) (oc e R:Nat) (O:List Nat),e'= .returned (.pointer (some ⟨B,0,none⟩))∧V79 M l e R O∧
   A4 w0 w' (W1b B (.slice oo O.length oc) e R::B0 5 1 (.slice oo O.length oc) O.length (D9 O)::Rz):=by
 subst hn
 subst hM
 refine (X8a v l (M:Int) h hrd hb hl (by omega) (by omega)).mono ?_
 rw [show ((M:Int)).toNat=M from rfl]
 rintro e' w' ⟨B,rfl,sb,t,x,y,i,oo,oc,k,z,kc,nk,so,j,ns,tt,tc,nt,li,di,lc,dc,m,o,p,q,s⟩
 have d:=s.swap.drop
 have f:=d.third.drop
 have g:=f.third.drop
 have a:=g.third.drop
 rw [m] at a
 exact ⟨B,oo,oc,_,_,_,rfl,V45 hb,A4.mk (R:=fun r:List Value=>E8 B (_:: .int .i64 (_:Int):: .int .i64 (_:Int)::r) 56) _ a⟩
def X9v (w0 w':World) (Rs:List A6) (M:Nat) (L:List Nat) (en:Ending):Prop:=
 ∃ (y:Value) (O:List Nat) (e:Nat),en= .returned (.tuple #[y,.int .i64 (e:Int)])∧Z42 true M L O e∧A4 w0 w' (B0 5 1 y O.length (D9 O)::Rs)
theorem Y0w {M k e B er R:Nat} {L O:List Nat} {y x:Value} (hk:k=O.length) (h:Z42 true M L O e) (hh:A4 w0 w (W1b B x er R::B0 5 1 y k (D9 O)::Rs)):X9v w0 w Rs M L (.returned (.tuple #[y,.int .i64 (e:Int)])):=by
 subst hk
 exact ⟨y,O,e,rfl,h,hh.drop⟩
theorem Y0m {M e:Nat} {L:List Nat} (hz:zhd L=e) (he:e≠0) (h:A4 w0 w Rs):X9v w0 w Rs M L (.returned (.tuple #[.slice none 0 0,.int .i64 (e:Int)])):=
 ⟨_,[],e,rfl,.inl ⟨by omega,hz.symm,rfl⟩,h.nil _ 1⟩
theorem W0d (v:Value) (n:Nat) (L:List Nat) (M:Nat) (Mi:Int) (hMi:Mi=(M:Int)) (hn:n=L.length) (h:A4 w0 w Rs) (hv:∀w',A4 w0 w' Rs→Rd w' 1 v n (D9 L)) (hb:∀b∈L,b < 256) (hl:L.length < 480000) (hM:M < 100000000):
  Calls Tryz.prog 10 #[v,.int .i64 Mi] w fun en w'=>X9v w0 w' Rs M L en:=by
 obtain ⟨vo,vc,rfl,f7,_⟩:=(hv w h).form
 cases L with
 | nil=>
  subst hn
  have H:=A5 (Y0m (M:=M) (L:=[]) (e:=5) rfl (by decide) h)
  clear h hv hb
  go_enter Tryz.func10,Tryz.ntmps10
  go_wp2
  go_ret2
  exact H.out
 | cons a r=>
  obtain ⟨g,c3,rfl,b8⟩:=(hv w h).spot (by rw [hn];exact Nat.succ_pos _)
  have e0:w.cell? ⟨g,c3,none⟩=some (.int .u8 (a:Int)):=b8 0 _ rfl
  have ha:a < 256:=hb a (T03 ..)
  have p:n=r.length+1:=hn
  have k0:(0:Int) < (n:Int):=by omega
  have a7:(a:Int).tmod 16=((a%16:Nat):Int):=rfl
  have y:(a:Int).tdiv 16=((a / 16:Nat):Int):=rfl
  have z:((a / 16:Nat):Int)%256=((a / 16:Nat):Int):=by omega
  by_cases o:Z5i a=true
  rotate_left
  ·have f:¬(a%16=8∧a / 16≤7):=fun hh=>o (decide_eq_true hh)
   have H:=A5 (Y0m (M:=M) (L:=a::r) (e:=2) (by cases r with | nil=>(show (if Z5i a=true then 5 else 2)=2;rw [Bool.eq_false_iff.2 o];rfl) | cons b r=>(show (if (Z5i a && Z8w a b)=true then 0 else 2)=2;rw [Bool.eq_false_iff.2 o];rfl)) (by decide) h)
   clear h hv hb o hn p
   by_cases d4:a%16=8
   ·rw [d4] at a7
    have h7:(7:Int) < ((a / 16:Nat):Int):=by omega
    clear d4 f
    generalize ((a / 16:Nat):Int)=q at y h7 z
    go_enter Tryz.func10,Tryz.ntmps10
    go_wp2
    go_ret2
    exact H.out
   have f4:¬((a%16:Nat):Int)=8:=by omega
   have f5:(((a%16:Nat):Int) != 8)=true:=by simp;omega
   clear d4 f
   have f6:((a%16:Nat):Int)%256=((a%16:Nat):Int):=by omega
   generalize ((a%16:Nat):Int)=q at a7 f4 f5 f6
   go_enter Tryz.func10,Tryz.ntmps10
   go_wp2
   go_ret2
   exact H.out
  have f:=of_decide_eq_true o
  rw [f.1] at a7
  have h7:¬(7:Int) < ((a / 16:Nat):Int):=by omega
  cases r with
  | nil=>
   have g7:(n:Int) < 2:=by have:n=1:=p;omega
   have H:=A5 (Y0m (M:=M) (L:=[a]) (e:=5) (by show (if Z5i a=true then 5 else 2)=5;rw [o];rfl) (by decide) h)
   clear h hv hb o f hn p
   generalize ((a / 16:Nat):Int)=q at y h7 z
   go_enter Tryz.func10,Tryz.ntmps10
   go_wp2
   go_ret2
   exact H.out
  | cons b r=>
   have e1:w.cell? ⟨g,c3+1,none⟩=some (.int .u8 (b:Int)):=b8 1 _ rfl
   have k2:b < 256:=hb b (T00 _ (T03 ..))
   replace p:n=r.length+1+1:=p
   have g7:¬(n:Int) < 2:=by omega
   have k3:(1:Int) < (n:Int):=by omega
   have g8:IntKind.i64.wrap (a:Int)=(a:Int):=IntWalk.i64_in _ (by omega)
   have g9:IntKind.i64.wrap (b:Int)=(b:Int):=IntWalk.i64_in _ (by omega)
   have h1:IntKind.i64.wrap ((a:Int)*256)=(a:Int)*256:=IntWalk.i64_in _ (by omega)
   have h2:IntKind.i64.wrap ((a:Int)*256+(b:Int))=(a:Int)*256+(b:Int):=IntWalk.i64_in _ (by omega)
   have c8:((a:Int)*256+(b:Int)).tmod 31=(((256*a+b)%31:Nat):Int):=by
    rw [show (a:Int)*256+(b:Int)=((256*a+b:Nat):Int) by push_cast;omega]
    rfl
   have a8:(b:Int).tdiv 32=((b / 32:Nat):Int):=rfl
   have a9:((b / 32:Nat):Int)%256=((b / 32:Nat):Int):=by omega
   have b3:((b / 32:Nat):Int).tmod 2=((b / 32%2:Nat):Int):=rfl
   by_cases a6:Z8w a b=true
   rotate_left
   ·have H:=A5 (fun k=>Y0m (M:=M) (L:=a::b::r) (e:=2) (by show (if (Z5i a && Z8w a b)=true then 0 else 2)=2;rw [o,Bool.eq_false_iff.2 a6];rfl) (by decide) (h.drewN k))
    have f0:¬((256*a+b)%31=0∧b / 32%2=0):=fun hh=>a6 (decide_eq_true hh)
    clear h hv hb o a6 f hn p
    generalize ((a / 16:Nat):Int)=q at y h7 z
    by_cases d3:(256*a+b)%31=0
    ·have f1:b / 32%2=1:=by omega
     rw [d3] at c8
     rw [f1] at b3
     clear d3 f1 f0
     generalize ((b / 32:Nat):Int)=q2 at a8 b3 a9
     go_enter Tryz.func10,Tryz.ntmps10
     go_wp2
     go_quiet (fail)
     go_wp2
     go_ret2
     exact H.out _
    have f2:¬(((256*a+b)%31:Nat):Int)=0:=by omega
    have f3:((((256*a+b)%31:Nat):Int) != 0)=true:=by simp;omega
    clear d3 f0
    generalize (((256*a+b)%31:Nat):Int)=q3 at c8 f2 f3
    generalize ((b / 32:Nat):Int)=q2 at a8 b3 a9
    go_enter Tryz.func10,Tryz.ntmps10
    go_wp2
    go_quiet (fail)
    go_wp2
    go_ret2
    exact H.out _
   have b4:=of_decide_eq_true a6
   rw [b4.1] at c8
   rw [b4.2] at b3
   have hz:zhd (a::b::r)=0:=by show (if (Z5i a && Z8w a b)=true then 0 else 2)=0;rw [o,a6];rfl
   obtain ⟨m,hm⟩:∃m,m+2=n:=⟨n-2,by omega⟩
   obtain ⟨a1,c1,g0,d5,c5⟩:=Y2o (Rs:=Rs) (some ⟨g,c3,none⟩) n vc 2 m 2 rfl (a::b::r) hn f7 hm hv
   have HI:=A5 (fun k=>V5n (.slice a1 m c1) m r Mi M (by omega) hMi (h.drewN k) (c5 _ (h.drewN k)) (fun x hx=>hb x (T00 _ (T00 _ hx))) (by have:(a::b::r).length=r.length+1+1:=rfl;omega) (by omega))
   have HZ:=A5 (And.intro hz (And.intro hn (And.intro hv (And.intro hb (And.intro f7 (And.intro hM p))))))
   have k4:n < 480000:=by omega
   clear h hv hb o a6 f b4 c5 hz hn hl p hMi
   generalize ((a / 16:Nat):Int)=q at y h7 z
   generalize ((b / 32:Nat):Int)=q2 at a8 b3 a9
   go_enter Tryz.func10,Tryz.ntmps10
   go_wp2
   go_quiet (fail)
   have e2:=A5 (HI.out nq)
   clear HI
   go_wp2_with fail
   with_reducible refine e2.out.mono ?_
   rintro en w3 ⟨B,po,pc,er,R,O,rfl,hG,h4⟩
   clear e2 d5 g0
   obtain ⟨b0,b1,b2⟩:=X8o h4
   obtain ⟨k,hk⟩:∃k,k=O.length:=⟨_,rfl⟩
   rw [←hk] at h4 b0
   have a0:=h4.swap.own.rd
   have h5:A4 w0 w3 (W1b B (.slice po k pc) er R::B0 5 1 (.slice po k pc) k (D9 O)::Rs):=h4
   have HK:=A5 hk
   have HG:=A5 hG
   have H5:=A5 h5
   have d0:=hG.le
   clear h4 hk hG
   by_cases he:er=0
   rotate_left
   ·have l2:((er:Int) != 0)=true:=by simp;omega
    have l3:¬(er:Int)=0:=by omega
    have HE:=A5 (show Z42 true M (a::b::r) O er by
     rcases HG.out.ends with ⟨_,h8,l',h6⟩ | ⟨h0,_⟩
     ·exact .inr ⟨HZ.out.1,er,l',h6,.inl ⟨h8,rfl⟩⟩
     exact absurd h0 he)
    have s:=A5 (fun j=>Y0w HK.out HE.out (H5.out.drewN j))
    clear a0 d0 he
    go_wp2
    go_quiet (fail)
    go_wp2
    go_ret2
    exact s.out _
   subst he
   have i9:(((0:Nat):Int) != 0)=false:=rfl
   obtain ⟨l',hE,hR,i5⟩:∃l',Z2 M .hd (D7 r) [] 8 l' O∧Q9 l'=r.drop R∧R≤r.length:=by
    rcases HG.out.ends with ⟨h0,_⟩ | ⟨_,l',h6⟩
    ·exact absurd rfl h0
    exact ⟨l',h6⟩
   have p:=HZ.out.2.2.2.2.2.2
   obtain ⟨P,hP⟩:∃P,P=2+R:=⟨_,rfl⟩
   have k6:(2:Int)+(R:Int)=(P:Int):=by omega
   have k7:IntKind.i64.wrap (P:Int)=(P:Int):=IntWalk.i64_in _ (by omega)
   obtain ⟨m2,c7⟩:∃m2,m2+P=n:=⟨n-P,by omega⟩
   obtain ⟨a2,c2,j9,i6,t⟩:=Y2o (Rs:=Rs) (some ⟨g,c3,none⟩) n vc P m2 (P:Int) rfl (a::b::r) HZ.out.2.1 HZ.out.2.2.2.2.1 c7 HZ.out.2.2.1
   have e3:(a::b::r).drop P=r.drop R:=by rw [hP,Nat.add_comm];rfl
   rw [e3] at t
   have a3:m2=(r.drop R).length:=by rw [T06];omega
   have b5:∀x∈r.drop R,x < 256:=fun x hx=>HZ.out.2.2.2.1 x (T00 _ (T00 _ (List.mem_of_mem_drop hx)))
   have HE:Hid (Z42 true M (a::b::r) O (Z44 true O (r.drop R))):=A5 (.inr ⟨HZ.out.1,8,l',hE,.inr ⟨rfl,by rw [hR];rfl⟩⟩)
   have j0:m2≤n:=by omega
   generalize r.drop R=r2 at t a3 b5 HE
   clear hE hR i5 hP c7 p e3
   by_cases b7:m2 < 4
   ·have e4:(m2:Int) < 4:=by omega
    have s:=A5 (Y0w HK.out (show Z42 true M (a::b::r) O 5 by have h6:=HE.out;unfold Z44 at h6;rw [if_pos (by omega)] at h6;exact h6) H5.out)
    clear t a3 b5 HE b7 d0 a0
    go_wp2
    go_ret2
    exact s.out
   have e4:¬(m2:Int) < 4:=by omega
   obtain ⟨g2,g1,rfl,a4⟩:=(t w3 H5.out.drop.drop).spot (by omega)
   have HA:=A5 (show Calls Tryz.prog 23 #[.int .u32 1,.slice po k pc] w3 _ from X36 1 (.slice po k pc) O w3 (by decide) (by rw [←HK.out];exact a0) HG.out.byt (by omega))
   have e6:(adl (1%65536%65521,1 / 65536%65521) O).2*65536+(adl (1%65536%65521,1 / 65536%65521) O).1=K6 1 O:=rfl
   rw [e6] at HA
   have e7:=Y5b O
   have b6:=V2d b5 (by omega) e7
   have c4:Z44 true O r2=if r2.take 4=beB (K6 1 O) then Z4w true (r2.drop 4) else 4:=by unfold Z44;rw [if_neg (by omega)];rfl
   rw [c4] at HE
   generalize K6 1 O=q at HA e7 b6 HE
   have HC:=A5 (And.intro a4 (And.intro b5 a3))
   have HQ:=A5 b6
   have j2:4≤m2:=by omega
   clear a4 b5 a3 t c4 b6 a0 d0 b7 e6
   go_wp2
   go_loopg [7,8] 5 (fun gg t7 t8 wr=>wr=w3∧∃i:Nat,i≤4∧gg=5-i∧t8= .int .i64 (i:Int)∧t7= .int .u32 ((Y0z (r2.take i):Nat):Int))
   case atStart=>exact ⟨rfl,0,by omega,rfl,rfl,rfl⟩
   case round=>
    obtain ⟨rfl,i,l9,rfl,rfl,rfl⟩:=hrel
    by_cases hi:i < 4
    ·have k8:(i:Int) < 4:=by omega
     have k9:(i:Int) < (m2:Int):=by omega
     have l0:(0:Int)≤(i:Int):=by omega
     obtain ⟨c,hc⟩:∃c,r2[i]?=some c:=⟨_,List.getElem?_eq_getElem (by have:=HC.out.2.2;omega)⟩
     have l1:c < 256:=HC.out.2.1 c (List.mem_of_getElem? hc)
     have k1:wr.cell? ⟨g2,g1+i,none⟩=some (.int .u8 (c:Int)):=HC.out.1 i _ (by unfold D9;rw [List.getElem?_map,hc];rfl)
     have e9:=V3g (r2.take i) (fun x hx=>HC.out.2.1 x (List.mem_of_mem_take hx)) i (by rw [List.length_take];omega) (by omega)
     have HN:=A5 (show Y0z (r2.take (i+1))=Y0z (r2.take i)*256+c by rw [Z78 r2 i c hc,W4g])
     generalize Y0z (r2.take i)=V at e9 HN⊢
     have g8:((V:Int)*256)%4294967296=(V:Int)*256:=by omega
     have g9:IntKind.u32.wrap ((V:Int)*256)=(V:Int)*256:=IntWalk.u32_in _ (by omega)
     have h1:((V:Int)*256+(c:Int))%4294967296=(V:Int)*256+(c:Int):=by omega
     have h2:(c:Int)%4294967296=(c:Int):=by omega
     clear hc e9 hi
     go_wp2
     go_roundg (5- (i+1))
     case measure=>omega
     case rel=>exact ⟨rfl,i+1,by omega,rfl,by push_cast;rfl,by rw [HN.out];push_cast;rfl⟩
    obtain rfl:i=4:=by omega
    by_cases hq:Y0z (r2.take 4)=q
    ·have d:=HE.out
     rw [if_pos (HQ.out.1 hq)] at d
     have c0:(r2.drop 4).length+4=m2:=by rw [T06];have:=HC.out.2.2;omega
     by_cases b7:m2=4
     ·have h9:¬(4:Int) < (m2:Int):=by omega
      have s:=A5 (Y0w HK.out (show Z42 true M (a::b::r) O 8 by rw [List.eq_nil_of_length_eq_zero (l:=r2.drop 4) (by omega)] at d;exact d) H5.out)
      clear d c0 b7 hi
      rw [hq]
      clear hq
      go_wp2_with fail
      with_reducible refine HA.out.mono ?_
      rintro en w5 ⟨rfl,rfl⟩
      go_wp2
      go_ret2
      exact s.out
     have h9:(4:Int) < (m2:Int):=by omega
     have s:=A5 (Y0w HK.out (show Z42 true M (a::b::r) O 2 by unfold Z4w at d;rw [if_neg (fun h=>by rw [h] at c0;simp at c0;omega)] at d;exact d) H5.out)
     clear d c0 b7 hi
     rw [hq]
     clear hq
     go_wp2_with fail
     with_reducible refine HA.out.mono ?_
     rintro en w5 ⟨rfl,rfl⟩
     go_wp2
     go_ret2
     exact s.out
    have d:=HE.out
    rw [if_neg (fun h=>hq (HQ.out.2 h))] at d
    have s:=A5 (Y0w HK.out d H5.out)
    have i0:¬((Y0z (r2.take 4):Nat):Int)=(q:Int):=by omega
    have i1:(((Y0z (r2.take 4):Nat):Int) != (q:Int))=true:=by simp;omega
    generalize ((Y0z (r2.take 4):Nat):Int)=V at i0 i1⊢
    clear d hq hi
    go_wp2_with fail
    with_reducible refine HA.out.mono ?_
    rintro en w5 ⟨rfl,rfl⟩
    go_wp2
    go_ret2
    exact s.out
end
section
variable {w0 w:World} {Rs:List A6} {D:Nat} {l:List Nat} {iv:Value} {cl:Bool} {most er sm:Nat}
def X10 (w0 w':World) (Rs:List A6) (D:Nat) (l:List Nat) (iv:Value) (cl:Bool) (most er sm:Nat) (e:Ending):Prop:=
 e= .returned (.int .i64 (zhd l:Nat))∧
  (
  (zhd l=5∧A4 w0 w' (zdT D iv cl most 0 er none sm::B0 5 1 iv l.length (D9 l)::Rs))∨
  (zhd l=2∧A4 w0 w' (zdT D (.slice none 0 0) cl most 4 2 none sm::Rs))∨
  (zhd l=0∧∃B,A4 w0 w' (zdT D (.slice none 0 0) cl most 1 er (some ⟨B,0,none⟩) 1::Z20 (Y0q B) most (.run .hd (D7 (l.drop 2)) [])::Rs)))
theorem Y9h (h:A4 w0 w (zdT D iv cl most 0 er none sm::B0 5 1 iv l.length (D9 l)::Rs)) (hb:∀b∈l,b < 256) (hl:l.length < 1000000) (hm:most < Y5):
  Calls Tryz.prog 42 #[.pointer (some ⟨D,0,none⟩)] w fun e w'=>X10 w0 w' Rs D l iv cl most er sm e:=by
 have hF:=Z5q 2 2 rfl h
 obtain ⟨ao,s,rfl,i,_⟩:=h.drop.own.form
 have c0:=F7 h 0 _ rfl
 cases l with
 | nil=>
  have H:=A5 h
  clear h hF hb
  go_enter Tryz.func42,Tryz.ntmps42
  go_wp2
  go_ret
  exact ⟨rfl,.inl ⟨by trivial,H.out⟩⟩
 | cons a r=>
  obtain ⟨g,q,rfl,f⟩:=h.drop.own.siteZ (Nat.succ_pos _)
  have e0:w.cell? ⟨g,q,none⟩=some (.int .u8 (a:Int)):=f 0 _ rfl
  have ha:a < 256:=hb a (T03 ..)
  have y:=A5 hF
  have H1:=fun w=>A5 (W7b (w:=w) a ha)
  obtain ⟨n,t⟩:∃n,n=(a::r).length:=⟨_,rfl⟩
  have j:n=r.length+1:=t
  have d3:(0:Int) < (n:Int):=by omega
  rw [←t] at h c0 hl i
  have d:Z5i a=true∨Z5i a=false:=by cases Z5i a <;> simp
  rcases d with d | d
  ·rw [d] at H1
   cases r with
   | nil=>
    have b9:(n:Int) < 2:=by have:n=1:=j;omega
    have z:Hid (zhd [a]=5):=A5 (by show (if Z5i a=true then 5 else 2)=5;rw [d];rfl)
    have H:=A5 h
    have HN:=A5 t
    unfold X10
    rw [z.out,←t]
    clear h hF hb d t j f i hl ha
    go_enter Tryz.func42,Tryz.ntmps42
    go_wp2_with fail
    with_reducible refine (H1 _).out.mono ?_
    rintro e w2 ⟨rfl,rfl⟩
    go_wp2
    go_ret
    exact ⟨rfl,.inl ⟨by trivial,H.out⟩⟩
   | cons b r=>
    have e1:w.cell? ⟨g,q+1,none⟩=some (.int .u8 (b:Int)):=f 1 _ rfl
    have a0:b < 256:=hb b (T00 _ (T03 ..))
    have b9:¬(n:Int) < 2:=by have:n=r.length+1+1:=j;omega
    have d4:(1:Int) < (n:Int):=by have:n=r.length+1+1:=j;omega
    have H2:=fun w=>A5 (W9s (w:=w) a b ha a0)
    have o:Z8w a b=true∨Z8w a b=false:=by cases Z8w a b <;> simp
    rcases o with o | o
    ·rw [o] at H2
     have z:Hid (zhd (a::b::r)=0):=A5 (by show (if (Z5i a && Z8w a b)=true then 0 else 2)=_;rw [d,o];rfl)
     have c2:=F7 h 2 _ rfl
     have HN:=A5 (fun k=>V1f (most:Int) hm (by omega) (h.drewN k))
     have a6:(∀x∈r,x < 256)∧n=(a::b::r).length∧r.length < 100000000:=⟨fun x hx=>hb x (T00 _ (T00 _ hx)),t,by have:n=r.length+1+1:=j;omega⟩
     have HX:=A5 a6
     obtain ⟨m,c5⟩:∃m,m+2=n:=⟨n-2,by omega⟩
     have a7:m=r.length:=by have:n=r.length+1+1:=j;omega
     have c4:=A5 a7
     unfold X10
     rw [z.out,←t]
     clear h hF hb d o t a6 j f hl ha a0 a7
     go_enter Tryz.func42,Tryz.ntmps42
     go_wp2_with fail
     with_reducible refine (H1 _).out.mono ?_
     rintro e w2 ⟨rfl,rfl⟩
     go_wp2
     go_quiet ((go_at_call 66;exact (H2 _).out.mono fun _ _ h=>⟨h.1,_,h.2⟩))
     have a8:=A5 (HN.out nq)
     clear HN
     go_wp2_with fail
     with_reducible refine a8.out.mono ?_
     rintro e w3 ⟨B,rfl,h3⟩
     have h4:=h3.swap
     have d5:=F7 h4 5 _ rfl
     have f5:=X5 h4 5
     have h5:A4 w0 (w3.setCell ⟨D,5,none⟩ (.pointer (some ⟨B,0,none⟩))) (zdT D (.slice (some ⟨g,q,none⟩) n s) cl most 0 er (some ⟨B,0,none⟩) sm::_):=Z18 h4 5 (.pointer (some ⟨B,0,none⟩)) (Z7 (.slice (some ⟨g,q,none⟩) n s) cl most 0 er (some ⟨B,0,none⟩) sm) rfl
     have k0:=F7 h5 0 _ rfl
     have k5:=F7 h5 5 _ rfl
     obtain ⟨a1,q1,c6,d1,b1⟩:=Y2o (w0:=w0) (Rs:=zdT D (.slice (some ⟨g,q,none⟩) n s) cl most 0 er (some ⟨B,0,none⟩) sm::B0 5 1 (.slice (some ⟨g,q,none⟩) n s) n (D9 (a::b::r))::Rs) (some ⟨g,q,none⟩) n s 2 m 2 rfl (a::b::r) HX.out.2.1 i c5 (fun wg hh=>hh.drop.own.rd)
     have y:Hid (Calls Tryz.prog 24 #[.pointer (some ⟨B,0,none⟩),.slice a1 m q1] _ _):=A5 (W53 (p:=Y0q B) (.slice a1 m q1) m r .hd [] [] h5.swap.drew b1 HX.out.1 c4.out (by rw [List.nil_append,E1];have:=HX.out.2.2;unfold Y5;omega))
     clear h3 h4 h5 a8 b1 i c6
     go_wp2
     go_region_held3 (fun w'=>w'.cell? ⟨D,0,none⟩=some (.slice (some ⟨g,q,none⟩) n s)∧w'.cell? ⟨D,5,none⟩=some (.pointer (some ⟨B,0,none⟩))) (first | exact ⟨k0,k5⟩ | exact ⟨j0,j5⟩ | go_keep)
      ((go_at_call 24;refine y.out.mono ?_;rintro e w4 ⟨rfl,h6⟩;have j0:=F7 h6.swap 0 _ rfl;have j5:=F7 h6.swap 5 _ rfl;have H6:=A5 h6.swap;clear h6))
     all_goals
      have q0:=F7 H6.out 0 _ rfl
      have g0:=X5 H6.out 0
      have h7:=Z18 H6.out 0 (.slice none 0 0) (Z7 (.slice none 0 0) cl most 0 er (some ⟨B,0,none⟩) sm) rfl
      have q6:=F7 h7 6 _ rfl
      have g6:=X5 h7 6
      have h8:=Z18 h7 6 (.int .u32 1) (Z7 (.slice none 0 0) cl most 0 er (some ⟨B,0,none⟩) 1) rfl
      have q3:=F7 h8 3 _ rfl
      have g3:=X5 h8 3
      have H9:=A5 (Z18 h8 3 (.int .i64 1) (Z7 (.slice none 0 0) cl most 1 er (some ⟨B,0,none⟩) 1) rfl)
      clear h7 h8 H6
      go_wp2
      go_ret
      exact ⟨rfl,.inr (.inr ⟨by trivial,B,H9.out.third.drop⟩)⟩
    rw [o] at H2
    have z:Hid (zhd (a::b::r)=2):=A5 (by show (if (Z5i a && Z8w a b)=true then 0 else 2)=_;rw [d,o];rfl)
    unfold X10
    rw [z.out,←t]
    have a9:=A5 (fun k=>Z5q 2 2 rfl (h.drewN k))
    clear h hF hb d o t j f i hl ha a0 y
    go_enter Tryz.func42,Tryz.ntmps42
    go_wp2_with fail
    with_reducible refine (H1 _).out.mono ?_
    rintro e w2 ⟨rfl,rfl⟩
    go_wp2
    go_quiet ((go_at_call 66;exact (H2 _).out.mono fun _ _ h=>⟨h.1,_,h.2⟩))
    have y:=A5 (a9.out nq)
    clear a9
    go_wp2_with fail
    with_reducible refine y.out.mono ?_
    rintro e w3 ⟨rfl,h2⟩
    have H3:=A5 h2.swap.drop
    clear h2 y
    go_wp2
    go_ret
    exact ⟨rfl,.inr (.inl ⟨by trivial,H3.out⟩)⟩
  rw [d] at H1
  have z:Hid (zhd (a::r)=2):=A5 (by cases r with | nil=>(show (if Z5i a=true then 5 else 2)=2;rw [d];rfl) | cons b r=>(show (if (Z5i a && Z8w a b)=true then 0 else 2)=2;rw [d];rfl))
  unfold X10
  rw [z.out,←t]
  clear h hb d t j f i hl ha hF
  go_enter Tryz.func42,Tryz.ntmps42
  go_wp2_with fail
  with_reducible refine (H1 _).out.mono ?_
  rintro e w2 ⟨rfl,rfl⟩
  go_wp2_with fail
  with_reducible refine y.out.mono ?_
  rintro e w2 ⟨rfl,h2⟩
  have H2:=A5 h2.swap.drop
  clear h2 y
  go_wp2
  go_ret
  exact ⟨rfl,.inr (.inl ⟨by trivial,H2.out⟩)⟩
end
end Go.Proofs.YtbkbkmgogbgofaaGreatDoor
