/- The claim's texts, put together and shortened by a program (names, spaces). -/
import Derived.Test.YtbkbkmgogbgofaaGreatDoorZt21
import Derived.Test.YtbkbkmgogbgofaaGreatDoorZt13
import Derived.Test.YtbkbkmgogbgofaaGreatDoorProg
import Derived.Test.YtbkbkmgogbgofaaGreatDoorZt03
import Derived.StillTailTactics
import Derived.Test.YtbkbkmgogbgofaaGreatDoorZt01
open List renaming length_append→T01,range→T02,length_drop→T03,mem_cons_self→T04,mem_cons_of_mem→T05,take_append_drop→T07,countP_cons→T08,getElem?_eq_getElem→T09,mem_of_getElem?→T0a,take_length→T0b,take_append_of_le_length→T0c,append_assoc→T0d,countP_le_length→T0e,countP_append→T0f,flatMap_nil→T0g
open Nat renaming le_refl→T00
open Int renaming natCast_nonneg→T06
namespace Go.Proofs.YtbkbkmgogbgofaaGreatDoor
set_option maxRecDepth 100000
set_option maxHeartbeats 6400000
open Go.RowKit
section
variable {w0 w:World} {Rs:List A6} {tr en la cut a P:Nat} {B:D0} {x:List Nat}
theorem X48 (A:Nat) (e:Bool) (st:Nat) (hst:st=if e then 0 else 261) (H:A4 w0 w (inF tr en la (A-cut) x cut P a B::Rs)) (HI:Z18 x cut P a) (hPA:P≤A) (hAx:A≤x.length) (hcA:cut≤A) (hcw:cut=0∨cut+32768≤A) (hlen:x.length < 1000000000) (hb:∀b∈x,b < 256) (htr:tr < 1000000000) (htr0:0 < tr):
  Calls Tryz.prog 74 #[.pointer (some ⟨B.b,B.o,none⟩),.bool e] w fun e' w'=>∃v cut' P' a',e'= .returned v∧cut'≤(L9 32768 258 x tr en la st A).2∧P'≤(L9 32768 258 x tr en la st A).2∧(cut'=0∨cut'+32768≤(L9 32768 258 x tr en la st A).2)∧Z18 x cut' P' a'∧
   A4 w0 w' (Y4r v (L9 32768 258 x tr en la st A).1::inF tr en la ((L9 32768 258 x tr en la st A).2-cut') x cut' P' a' B::Rs):=by
 obtain ⟨i3,f9,g0,g1,g2⟩:=info_parts X00
 obtain ⟨lv,bv,m1,m2,p⟩:=Z3q H
 have hB:=(W8 p).1
 have c0:=hB.cell0 rfl
 have g7:((tr:Int)==0)=false:=by simp;omega
 have e6:decide ((tr:Int)=0)=false:=by simp;omega
 have e7:¬(tr:Int)=0:=by omega
 have g8:(0:Int)≤(st:Int):=T06 _
 have g9:st≤261:=by rw [hst];split <;> omega
 obtain ⟨pl,pn,hp⟩:∃pl pn,L9 32768 258 x tr en la st A=(pl,pn):=⟨_,_,rfl⟩
 rw [hp]
 have HP:=A5 hp
 have HG:=A5 (And.intro HI (And.intro hPA (And.intro hAx (And.intro hcA hcw))))
 have HH:=A5 H
 have b8:=A5 hst
 clear p hB H HI hPA hAx hcA hcw hp hst
 go_enter Tryz.func74,Tryz.ntmps74
 go_upto_if 18 with (fail)
 go_cut [5] (fun s5 wx=>s5= .int .i64 (st:Int)∧wx=w)
 case first=>
  cases e with
  | true=>
   have a7:st=0:=by rw [b8.out];rfl
   subst a7
   go_wp2
   go_meet
   case rel=>exact ⟨rfl,rfl⟩
  | false=>
   have a7:st=261:=by rw [b8.out];rfl
   subst a7
   go_wp2
   go_meet
   case rel=>exact ⟨rfl,rfl⟩
 case rest=>
  obtain ⟨rfl,rfl⟩:=hcut
  go_wp2
  go_loopg [6,7] (x.length+2) (fun gg t6 t7 wr=>∃ (f P1 a1 k:Nat) (ao:Option Addr) (y:Nat) (l1:List E1),f≤x.length∧x.length+1-f < gg∧t6= .slice ao k y∧k≤f∧A≤f∧Hid (k=l1.length)∧
   Hid (l1++(L9 32768 258 x tr en la st f).1=pl∧(L9 32768 258 x tr en la st f).2=pn)∧Hid (Z18 x cut P1 a1∧P1≤f∧cut≤f∧(cut=0∨cut+32768≤f))∧
   Hid (A4 w0 wr (B0 112 3 (.slice ao k y) k (I5 l1)::inF tr en la (f-cut) x cut P1 a1 B::Rs)))
  case atStart=>
   refine ⟨A,P,a,0,none,0,[],HG.out.2.2.1,by omega,rfl,Nat.zero_le _,T00 _,A5 rfl,A5 ?_,A5 ⟨HG.out.1,HG.out.2.1,HG.out.2.2.2.1,HG.out.2.2.2.2⟩,A5 (HH.out.nil 112 3)⟩
   rw [HP.out];exact ⟨rfl,rfl⟩
  case round=>
   obtain ⟨f,P1,a1,k,ao,y,l1,g4,hg,rfl,k9,l0,HK,HL,p,HR⟩:=hrel
   obtain ⟨W1,b4⟩:∃W1,W1=x.length-f:=⟨_,rfl⟩
   have b9:(x.drop cut).length- (f-cut)=W1:=by rw [T03,b4];have:=p.out;omega
   have a8:=X3z HR.out.swap (by rw [T03];omega) (by rw [T03];omega)
   rw [b9] at a8
   have HW:=A5 a8
   have j3:(0:Int)≤(W1:Int):=T06 _
   have a9:=A5 b4
   clear a8 b9 b4
   by_cases hc:st < W1
   rotate_left
   ·have e8:¬(st:Int) < (W1:Int):=by omega
    have a3:=U0 (W:=32768) (L:=258) (x:=x) (tr:=tr) (en:=en) (la:=la) (stay:=st) f (by rw [←a9.out];exact hc)
    have hl:=HL.out
    rw [a3] at hl
    have HE:Hid (l1=pl∧f=pn):=A5 ⟨by rw [←hl.1];simp,hl.2⟩
    have c4:=A5 (fun (wz:World) (Rz:List A6) (h:A4 w0 wz (inF tr en la (f-cut) x cut P1 a1 B::Rz))=>W7n f h p.out.1 p.out.2.1 g4 p.out.2.2.1 p.out.2.2.2 hlen hb)
    clear a3 hl
    go_wp2_with fail
    refine HW.out.mono ?_
    rintro e1 w2 ⟨rfl,k2,rfl⟩
    go_wp2_with fail
    refine (c4.out _ _ (HR.out.drewN k2).swap).mono ?_
    rintro e1 w3 ⟨rfl,d3,P2,a2,d4,b1,a5,s,h3⟩
    have HX:=A5 (And.intro d4 (And.intro b1 (And.intro a5 (And.intro s h3))))
    clear d4 b1 a5 s h3 c4 HW
    go_wp2
    go_ret
    rw [←HE.out.2]
    refine ⟨.slice ao k y,d3,P2,a2,rfl,HX.out.1,HX.out.2.1,HX.out.2.2.1,HX.out.2.2.2.1, ?_⟩
    unfold Y4r
    rw [←HE.out.1,←HK.out]
    exact HX.out.2.2.2.2.swap
   have e8:(st:Int) < (W1:Int):=by omega
   have c1:f < x.length:=by have:=a9.out;omega
   have r:=A5 (fun (wz:World) (Rz:List A6) (h:A4 w0 wz (inF tr en la (f-cut) x cut P1 a1 B::Rz))=>W61 f h p.out.1 p.out.2.1 c1 p.out.2.2.2 hlen hb htr)
   obtain ⟨j,g,m,ht⟩:∃j g m,K5 32768 258 x tr en la f=(j,g,m):=⟨_,_,_,rfl⟩
   have n:=Z7e (W:=32768) (L:=258) (x:=x) (tr:=tr) (en:=en) (la:=la) (by omega) f c1
   have z:=Z3d (W:=32768) (L:=258) (x:=x) (tr:=tr) (en:=en) (la:=la) (stay:=st) f (by rw [←a9.out];exact hc)
   rw [ht] at n z r
   have r:Hid (∀ (wz:World) (Rz:List A6),A4 w0 wz (inF tr en la (f-cut) x cut P1 a1 B::Rz)→Calls Tryz.prog 84 #[.pointer (some ⟨B.b,B.o,none⟩)] wz fun e w'=>e= .returned (.agg #[.int .u8 j,.int .i64 g,.int .i64 m])∧∃P' a',P'≤f+1∧Z18 x cut P' a'∧A4 w0 w' (inF tr en la (f-cut) x cut P' a' B::Rz)):=r
   obtain ⟨q,hq⟩:∃q,q=adv (j,g,m):=⟨_,rfl⟩
   rw [←hq] at n z
   have j4:1≤q:=by rw [hq];exact Z1z _
   have e9:q=max g.toNat 1:=hq
   have a0:0≤g∧g≤258:=by
    rcases n.2.2 with h | ⟨l,d,h,_,h4,_⟩
    ·have:g=0:=congrArg (fun t:E1=>t.2.1) h
     omega
    have:g=(l:Int):=congrArg (fun t:E1=>t.2.1) h
    omega
   have h0:(if g < 1 then 1 else g)=(q:Int):=by split <;> omega
   have f0:f+q≤x.length:=n.1
   have j5:q≤258:=by have:=n.2.1;omega
   obtain ⟨u,hu⟩:∃u,u=f-cut:=⟨_,rfl⟩
   obtain ⟨u2,c7⟩:∃u2,u2=f+q-cut:=⟨_,rfl⟩
   have j6:(u:Int)+(q:Int)=(u2:Int):=by have:=p.out;omega
   have j7:u < 1000000000:=by omega
   have h2:u2 < 2000000000:=by omega
   have j8:(0:Int)≤(u:Int):=T06 _
   have f1:=A5 z
   have HU:=A5 (And.intro hu c7)
   have j9:=A5 a0
   have h8:=a0.1
   have h9:g≤258:=a0.2
   clear n z hq e9 ht hu c7 a0
   go_wp2_with fail
   refine HW.out.mono ?_
   rintro e1 w2 ⟨rfl,k2,rfl⟩
   go_wp2_with fail
   refine (r.out _ _ (HR.out.drewN k2).swap).mono ?_
   rintro e1 w3 ⟨rfl,P2,a2,b1,s,h3⟩
   have f2:=A5 s
   have H4:Hid (A4 w0 (w3.alloc (.cells #[.int .u8 j,.int .i64 g,.int .i64 m] 112)) (E7 w3.heap.size [.int .u8 j,.int .i64 g,.int .i64 m] 112::inF tr en la (f-cut) x cut P2 a2 B::B0 112 3 (.slice ao k y) k (I5 l1)::Rs)):=A5 (h3.newObj _ _)
   have c3:Hid (Rd ((w3.alloc (.cells #[.int .u8 j,.int .i64 g,.int .i64 m] 112)).alloc (.cells #[.int .u8 j,.int .i64 g,.int .i64 m] 112)) 3 (.slice (some ⟨w3.heap.size+1,0,none⟩) 1 1) 1 [.int .u8 j,.int .i64 g,.int .i64 m]):=A5 (by
    have h:=Rd.lit (w3.alloc (.cells #[.int .u8 j,.int .i64 g,.int .i64 m] 112)) [.int .u8 j,.int .i64 g,.int .i64 m] 112 3 1 (by decide) rfl
    rw [show (w3.alloc (.cells #[.int .u8 j,.int .i64 g,.int .i64 m] 112)).heap.size=w3.heap.size+1 by simp] at h
    exact h)
   have t0:=H4.out.obj.cell0 rfl
   have t1:=H4.out.obj.cell (i:=1) rfl
   have t2:=H4.out.obj.cell (i:=2) rfl
   clear s h3 HW r
   go_wp2_with (refine D4 rfl (.tmp 25) (.tmp 27) 54 rfl 112 i3 (.agg #[.int .u8 0,.int .i64 0,.int .i64 0]) 3 24 Tryz.underlying54 f9 g0 g1 g2 rfl (by decide) _ k (I5 l1) rfl (H4.out.third.alloc _) _ 1 [.int .u8 j,.int .i64 g,.int .i64 m] rfl c3.out (by intro u hu;simp at hu;rcases hu with rfl | rfl | rfl <;> rfl) (k+1) rfl (by unfold maxLen;omega) (by omega) ?_;intro f6 d2 w4 h4;have H5:=A5 h4;clear h4)
   obtain ⟨d6,d7,q1,q2,d8⟩:=Z3q H5.out.third
   have h6:A4 w0 w4 (P5 B (Z6j tr en la d6 cut (.map (some q1)) (.map (some q2)) d7 (f-cut))::_):=d8
   rw [←HU.out.1] at h6
   have b0:=h6.objp
   have c8:=b0.cell (i:=8) rfl
   have f8:=b0.frozen 8
   have j1:=H5.out.swap.obj.cell (i:=1) rfl
   have H6:=A5 (h6.drew.setObjP 8 (.int .i64 (u2:Int)))
   clear d8 h6 b0 H4 t0 t1 t2 c3
   go_region
   all_goals
    have h7:A4 w0 _ (inF tr en la u2 x cut P2 a2 B::_):=Z79 d6 d7 q1 q2 H6.out
    have H8:=A5 h7
    clear h7
    go_wp2
    go_roundg (gk-1)
    case measure=>omega
    case rel=>
     refine ⟨f+q,P2,a2,k+1,f6,d2,l1++[(j,g,m)],f0,by omega,rfl,by omega,by omega,A5 (by rw [T01,←HK.out];rfl),A5 ?_,A5 ?_,A5 ?_⟩
     ·have h1:=HL.out
      rw [f1.out] at h1
      exact ⟨by rw [←h1.1];simp,h1.2⟩
     ·have:=p.out
      exact ⟨f2.out,by omega,by omega,by omega⟩
     rw [Z63,←HU.out.2]
     exact H8.out.third.drop.swap
end
def Y2q:List (Nat×Nat×Nat):=[(0,0,0),(4,8,0),(8,16,0),(16,32,0),(16,32,4),(32,64,16),(64,128,16),(128,128,32),(512,258,128),(1024,258,258)]
def V49:List Value:=Y2q.flatMap fun t=>[.int .i64 (t.1:Int),.int .i64 (t.2.1:Int),.int .i64 (t.2.2:Int)]
def Y4l (w:World):Prop:=∀i v,V49[i]?=some v→w.cell? ⟨0,i,none⟩=some v
def Y8l (lev:Int):Nat:=(min (max lev 0) 9).toNat
def lvl (lev:Int):Nat×Nat×Nat:=Y2q[Y8l lev]?.getD (0,0,0)
theorem Y4l.kept {w w':World} (h:Y4l w) (hm:E2 w w' (fun _=>False)):Y4l w':=fun i v hv=>by
 have hc:=h i v hv
 rw [hm.cell (World.block_lt_of_cell? w _ hc) (fun h=>h)];exact hc
theorem Y98:∀k,k < 10→V49[k*3]?=some (.int .i64 (((Y2q[k]?.getD (0,0,0)).1:Nat):Int))∧V49[k*3+1]?=some (.int .i64 (((Y2q[k]?.getD (0,0,0)).2.1:Nat):Int))∧V49[k*3+2]?=some (.int .i64 (((Y2q[k]?.getD (0,0,0)).2.2:Nat):Int)):=by
 intro k a
 match k,a with
 | 0,_ | 1,_ | 2,_ | 3,_ | 4,_ | 5,_ | 6,_ | 7,_ | 8,_ | 9,_=>exact ⟨rfl,rfl,rfl⟩
 | k+10,h=>omega
theorem V2w:∀t∈Y2q,t.1≤1024∧t.2.1≤258∧t.2.2≤258:=by decide
theorem V5s (lev:Int):(lvl lev).1≤1024∧(lvl lev).2.1≤258∧(lvl lev).2.2≤258:=by
 unfold lvl
 cases e:Y2q[Y8l lev]? with
 | none=>decide
 | some t=>exact V2w t (T0a e)
theorem V3d (lev:Int) (h:lev≤0):lvl lev=(0,0,0):=by
 unfold lvl Y8l
 rw [show (min (max lev 0) 9).toNat=0 by omega];rfl
theorem W77 (lev:Int) (h:1≤lev):1≤(lvl lev).1∧1≤(lvl lev).2.1:=by
 have a:Y8l lev < 10∧1≤Y8l lev:=by unfold Y8l;omega
 unfold lvl
 generalize Y8l lev=k at a
 match k,a with
 | 1,_ | 2,_ | 3,_ | 4,_ | 5,_ | 6,_ | 7,_ | 8,_ | 9,_=>decide
 | k+10,h=>omega
section
variable {w0 w:World} {Rs:List A6}
theorem X2i (h:A4 w0 w Rs):
  Calls Tryz.prog 71 #[] w fun e w'=>∃m1 m2,e= .returned (.agg #[.slice none 0 0,.int .i64 0,.map (some m1),.map (some m2),.slice none 0 0])∧A4 w0 w' (Z3n (.map (some m1)) (fun _=>none) 0::Z3n (.map (some m2)) (fun _=>none) 0::Rs):=by
 have b:=A5 h
 have d:∀wg:World,(Instr.makeMap 65 none).run Tryz.prog wg= .ok (.map (some wg.heap.size)) (wg.alloc (.map #[] 0)):=fun wg=>rfl
 clear h
 go_enter Tryz.func71,Tryz.ntmps71
 go_wp2
 have a:=(((b.out.alloc (.cells #[.slice none 0 0,.int .i64 0,.map (some (w.heap.size+1)),.map (some (w.heap.size+1+1)),.slice none 0 0] 68)).newMap (kv:=X4 .u8) (ok:=Z3p) (ev:=fun p:Nat=>Value.int .i64 (p:Int))).newMap (kv:=X4 .u8) (ok:=Z3p) (ev:=fun p:Nat=>Value.int .i64 (p:Int)))
 rw [show (w.alloc (.cells #[.slice none 0 0,.int .i64 0,.map (some (w.heap.size+1)),.map (some (w.heap.size+1+1)),.slice none 0 0] 68)).heap.size=w.heap.size+1 by simp,
  show ((w.alloc (.cells #[.slice none 0 0,.int .i64 0,.map (some (w.heap.size+1)),.map (some (w.heap.size+1+1)),.slice none 0 0] 68)).alloc (.map #[] 0)).heap.size=w.heap.size+1+1 by simp] at a
 refine Z2x rfl _ 5 Tryz.underlying68 rfl (by kernel_rfl) w.heap.size [.slice none 0 0,.int .i64 0,.map (some (w.heap.size+1)),.map (some (w.heap.size+1+1)),.slice none 0 0] 68 rfl rfl ?_ rfl ⟨_,_,rfl,a.swap⟩
 exact ((X6.new w [.slice none 0 0,.int .i64 0,.map (some (w.heap.size+1)),.map (some (w.heap.size+1+1)),.slice none 0 0] 68).alloc _).alloc _
theorem W0r {tr en la m1 m2:Nat} (H:A4 w0 w (Z3n (.map (some m1)) (fun _=>none) 0::Z3n (.map (some m2)) (fun _=>none) 0::Rs)):
  A4 w0 (w.alloc (.cells #[.int .i64 (tr:Int),.int .i64 (en:Int),.int .i64 (la:Int),.slice none 0 0,.int .i64 0,.map (some m1),.map (some m2),.slice none 0 0,.int .i64 0] 70))
   (Y3n tr en la 0 0 [] [] (fun _=>none) (fun _=>none) 0 (.whole w.heap.size 70) (.slice none 0 0) (.slice none 0 0) m1 m2++Rs):=by
 have a:=H.newObjP (Z6j tr en la (.slice none 0 0) 0 (.map (some m1)) (.map (some m2)) (.slice none 0 0) 0) 70
 have b:=(a.nil 39 1).nil 5 1
 exact b.third
theorem V28 (lev:Int) (hl:Y4l w0) (h:A4 w0 w Rs):
  Calls Tryz.prog 46 #[.int .i64 lev] w fun e w'=>∃B:Nat,e= .returned (.pointer (some ⟨B,0,none⟩))∧A4 w0 w' (Z81 (lvl lev).1 (lvl lev).2.1 (lvl lev).2.2 0 0 [] [] (fun _=>none) (fun _=>none) 0 (.whole B 70)::Rs):=by
 have z:=A5 h
 obtain ⟨k,y⟩:∃k,k=Y8l lev:=⟨_,rfl⟩
 have o:k < 10:=by rw [y];unfold Y8l;omega
 obtain ⟨i,j,l,ht⟩:∃i j l,lvl lev=(i,j,l):=⟨_,_,_,rfl⟩
 have p:Y2q[k]?.getD (0,0,0)=(i,j,l):=by rw [y];exact ht
 have q:=Y98 k o
 rw [p] at q
 rw [ht]
 have f:Hid (∀wz,E2 w0 wz (fun _=>False)→wz.cell? ⟨0,k*3,none⟩=some (.int .i64 (i:Int))∧wz.cell? ⟨0,k*3+1,none⟩=some (.int .i64 (j:Int))∧wz.cell? ⟨0,k*3+2,none⟩=some (.int .i64 (l:Int))):=
  A5 fun wz hm=>⟨hl.kept hm _ _ q.1,hl.kept hm _ _ q.2.1,hl.kept hm _ _ q.2.2⟩
 have r:=X2i h.drew
 have m:=A5 r
 have a9:(k:Int) < 10:=by omega
 have b0:(0:Int)≤(k:Int):=T06 _
 have n:(lev < 0∧k=0)∨(0≤lev∧lev≤9∧lev=(k:Int))∨(9 < lev∧k=9):=by
  unfold Y8l at y;omega
 clear ht p q r h hl y
 rcases n with ⟨h1,rfl⟩ | ⟨h1,h2,rfl⟩ | ⟨h1,rfl⟩
 ·have a:=f.out w z.out.mod
  have c0:w.cell? ⟨0,0,none⟩=some (.int .i64 (i:Int)):=a.1
  have c1:w.cell? ⟨0,1,none⟩=some (.int .i64 (j:Int)):=a.2.1
  have c2:w.cell? ⟨0,2,none⟩=some (.int .i64 (l:Int)):=a.2.2
  clear a
  go_enter Tryz.func46,Tryz.ntmps46
  go_wp2
  go_region_law ((first
   | (
    go_simp;go_at_call 71;refine m.out.mono ?_;rintro e d ⟨t,x,rfl,g⟩;have s:=A5 g
    have b:=f.out d g.mod
    have d0:d.cell? ⟨0,0,none⟩=some (.int .i64 (i:Int)):=b.1
    have d1:d.cell? ⟨0,1,none⟩=some (.int .i64 (j:Int)):=b.2.1
    have d2:d.cell? ⟨0,2,none⟩=some (.int .i64 (l:Int)):=b.2.2
    clear g b)))
  all_goals
   go_wp2
   go_ret
   refine ⟨_,rfl,Z79 (.slice none 0 0) (.slice none 0 0) t x ?_⟩
   exact W0r s.out
 ·have a:=f.out w z.out.mod
  have a0:(if (k:Int) < 0 then 0 else (k:Int))=(k:Int):=if_neg (by omega)
  have a1:(if 9 < (k:Int) then 9 else (k:Int))=(k:Int):=if_neg (by omega)
  have c0:w.cell? ⟨0,k*3,none⟩=some (.int .i64 (i:Int)):=a.1
  have c1:w.cell? ⟨0,k*3+1,none⟩=some (.int .i64 (j:Int)):=a.2.1
  have c2:w.cell? ⟨0,k*3+2,none⟩=some (.int .i64 (l:Int)):=a.2.2
  clear a
  go_enter Tryz.func46,Tryz.ntmps46
  go_wp2
  go_region_law ((first
   | (
    go_simp;go_at_call 71;refine m.out.mono ?_;rintro e d ⟨t,x,rfl,g⟩;have s:=A5 g
    have b:=f.out d g.mod
    have d0:d.cell? ⟨0,k*3,none⟩=some (.int .i64 (i:Int)):=b.1
    have d1:d.cell? ⟨0,k*3+1,none⟩=some (.int .i64 (j:Int)):=b.2.1
    have d2:d.cell? ⟨0,k*3+2,none⟩=some (.int .i64 (l:Int)):=b.2.2
    clear g b)))
  all_goals
   go_wp2
   go_ret
   refine ⟨_,rfl,Z79 (.slice none 0 0) (.slice none 0 0) t x ?_⟩
   exact W0r s.out
 have a:=f.out w z.out.mod
 have a0:(if lev < 0 then 0 else lev)=lev:=if_neg (by omega)
 have a1:(if 9 < lev then 9 else lev)=9:=if_pos h1
 have c0:w.cell? ⟨0,27,none⟩=some (.int .i64 (i:Int)):=a.1
 have c1:w.cell? ⟨0,28,none⟩=some (.int .i64 (j:Int)):=a.2.1
 have c2:w.cell? ⟨0,29,none⟩=some (.int .i64 (l:Int)):=a.2.2
 clear a
 go_enter Tryz.func46,Tryz.ntmps46
 go_wp2
 go_region_law ((first
  | (
   go_simp;go_at_call 71;refine m.out.mono ?_;rintro e d ⟨t,x,rfl,g⟩;have s:=A5 g
   have b:=f.out d g.mod
   have d0:d.cell? ⟨0,27,none⟩=some (.int .i64 (i:Int)):=b.1
   have d1:d.cell? ⟨0,28,none⟩=some (.int .i64 (j:Int)):=b.2.1
   have d2:d.cell? ⟨0,29,none⟩=some (.int .i64 (l:Int)):=b.2.2
   clear g b)))
 all_goals
  go_wp2
  go_ret
  refine ⟨_,rfl,Z79 (.slice none 0 0) (.slice none 0 0) t x ?_⟩
  exact W0r s.out
end
structure V5 where
 tr:Nat
 en:Nat
 la:Nat
 x:List Nat
 outs:List E1
 at_:Nat
def told (s:V5) (e:Bool):List E1×Nat:=
 if s.tr=0 then (W0 (s.x.drop s.at_),s.x.length) else L9 32768 258 s.x s.tr s.en s.la (if e then 0 else 261) s.at_
structure Y4d (s:V5):Prop where
 le:s.at_≤s.x.length
 bytes:∀b∈s.x,b < 256
 len:s.x.length < 1000000000
 tries:s.tr≤1024
 outs:N9 s.outs
 means:s.x.length≤most→Q7 [] s.outs=(0,s.x.take s.at_)
structure V0s (lev:Int) (s:V5):Prop where
 lv:(s.tr,s.en,s.la)=lvl lev
 le:s.at_≤s.x.length
 lits:s.tr=0→s.outs=W0 (s.x.take s.at_)
 toks:s.tr≠0→∀y,s.outs++(L9 32768 258 (s.x++y) s.tr s.en s.la 0 s.at_).1=(L9 32768 258 (s.x++y) s.tr s.en s.la 0 0).1
def I9:Z69 where
 St:=V5
 start lev:=⟨(lvl lev).1,(lvl lev).2.1,(lvl lev).2.2,[],[],0⟩
 write s bs:={s with x:=s.x++bs}
 toks s e:=({s with outs:=s.outs++(told s e).1,at_:=(told s e).2},(told s e).1)
 inp s:=s.x
 outs s:=s.outs
 wait s:=s.x.length-s.at_
 one x lev:=if (lvl lev).1=0 then W0 x else (L9 32768 258 x (lvl lev).1 (lvl lev).2.1 (lvl lev).2.2 0 0).1
 Ok:=Y4d
 Clean:=V0s
theorem X1b (a b:List Nat):W0 (a++b)=W0 a++W0 b:=by simp [W0]
theorem Y3r:∀ (l acc:List Nat),acc.length+l.length≤most→Q7 acc (W0 l)=(0,acc++l)
 | [],acc,_=>by simp [W0,Q7]
 | b::r,acc,h=>by
  show Q7 acc (((b:Int),0,0)::W0 r)=_
  rw [Z0c,Y9u (by simp [E8]) rfl (by simp at h;omega),if_pos rfl]
  show Q7 (acc++[((b:Int)).toNat]) (W0 r)=_
  rw [Y3r r _ (by simp at h⊢;omega)]
  simp
theorem X6a (l:List Nat) (h:∀b∈l,b < 256):N9 (W0 l):=by
 intro t a
 obtain ⟨b,d,rfl⟩:=List.mem_map.1 a
 have:=h b d
 show (0:Int)≤(b:Int)∧(b:Int)≤255
 omega
theorem W1k (s:V5) (e:Bool) (h:s.at_≤s.x.length):(told s e).2≤s.x.length:=by
 unfold told
 split
 ·exact T00 _
 exact (W6d (by omega) _ h).1
theorem X6d (s:V5) (e:Bool):s.x.length- (told s e).2≤(if e then 0 else 261):=by
 unfold told
 split
 ·simp
 exact X8e _
theorem W02 (s:V5) (e:Bool) (hb:∀b∈s.x,b < 256):N9 (told s e).1:=by
 unfold told
 split
 ·exact X6a _ fun b h=>hb b (List.mem_of_mem_drop h)
 exact Y47 (by omega) hb _ _ (T00 _)
theorem X93 (s:V5) (e:Bool) (h:s.at_≤s.x.length) (hm:s.x.length≤most):Q7 (s.x.take s.at_) (told s e).1=(0,s.x.take (told s e).2):=by
 unfold told
 split
 ·rw [Y3r _ _ (by rw [List.length_take,T03];omega),T07,T0b]
 exact Y43 (by omega) rfl rfl hm _ _ (T00 _) h
theorem Z3z:V0 I9 where
 ok_start lev:=⟨T00 _,(fun b h=>by cases h),(by show 0 < 1000000000;omega),(V5s lev).1,(fun t h=>by cases h),fun _=>rfl⟩
 ok_write s bs h hb hl:=by
  have hl:s.x.length+bs.length < 1000000000:=hl
  refine ⟨?_, ?_, ?_,h.tries,h.outs, ?_⟩
  ·show s.at_≤(s.x++bs).length
   rw [T01];have:=h.le;omega
  ·intro b d
   exact (List.mem_append.1 d).elim (h.bytes b) (hb b)
  ·show (s.x++bs).length < _
   rw [T01];exact hl
  intro d
  have d:(s.x++bs).length≤most:=d
  rw [T01] at d
  show Q7 [] s.outs=(0,(s.x++bs).take s.at_)
  rw [T0c h.le]
  exact h.means (by omega)
 ok_toks s e h:=by
  refine ⟨W1k s e h.le,h.bytes,h.len,h.tries, ?_, ?_⟩
  ·intro t f
   exact (List.mem_append.1 f).elim (h.outs t) (W02 s e h.bytes t)
  intro d
  show Q7 [] (s.outs++(told s e).1)=(0,s.x.take (told s e).2)
  rw [Z7p,h.means d,if_pos rfl]
  exact X93 s e h.le d
 inp_start _:=rfl
 inp_write _ _:=rfl
 inp_toks _ _:=rfl
 outs_start _:=rfl
 outs_write _ _:=rfl
 outs_toks _ _:=rfl
 bytes s h:=h.outs
 means s h d:=by
  have g:=h.le
  refine ⟨Nat.sub_le _ _, ?_⟩
  show Q7 [] s.outs=(0,s.x.take (s.x.length- (s.x.length-s.at_)))
  rw [show s.x.length- (s.x.length-s.at_)=s.at_ by omega]
  exact h.means d
 wait_end s _:=by
  have h:=X6d s true
  show s.x.length- (told s true).2=0
  rw [if_pos rfl] at h
  omega
 wait_some s _:=X6d s false
 clean_start lev:=⟨rfl,T00 _,fun _=>rfl,fun _ y=>rfl⟩
 clean_write lev s bs h:=⟨h.lv,by show s.at_≤(s.x++bs).length;rw [T01];have:=h.le;omega,fun a=>by
   show s.outs=W0 ((s.x++bs).take s.at_)
   rw [T0c h.le]
   exact h.lits a,fun a y=>by
   show s.outs++(L9 32768 258 (s.x++bs++y) s.tr s.en s.la 0 s.at_).1=(L9 32768 258 (s.x++bs++y) s.tr s.en s.la 0 0).1
   rw [T0d s.x bs y]
   exact h.toks a (bs++y)⟩
 clean_toks lev s h:=⟨h.lv,W1k s false h.le,fun a=>by
   have a:s.tr=0:=a
   show s.outs++(told s false).1=W0 (s.x.take (told s false).2)
   unfold told
   rw [if_pos a,h.lits a,←X1b,T07,T0b],fun a y=>by
   have a:s.tr≠0:=a
   show s.outs++(told s false).1++(L9 32768 258 (s.x++y) s.tr s.en s.la 0 (told s false).2).1=(L9 32768 258 (s.x++y) s.tr s.en s.la 0 0).1
   have e:told s false=L9 32768 258 s.x s.tr s.en s.la 261 s.at_:=by unfold told;rw [if_neg a];rfl
   rw [e,T0d,Y7a y (by omega) (by omega) _ _ (T00 _)]
   exact h.toks a y⟩
 X32 lev s h hc:=by
  show s.outs++(told s true).1=if (lvl lev).1=0 then W0 s.x else (L9 32768 258 s.x (lvl lev).1 (lvl lev).2.1 (lvl lev).2.2 0 0).1
  rw [←hc.lv]
  show s.outs++(told s true).1=if s.tr=0 then W0 s.x else (L9 32768 258 s.x s.tr s.en s.la 0 0).1
  unfold told
  by_cases a:s.tr=0
  ·rw [if_pos a,if_pos a,hc.lits a,←X1b,T07]
  rw [if_neg a,if_neg a]
  have g:=hc.toks a []
  rw [List.append_nil] at g
  exact g
 level0 bs lev _ _ h:=by
  intro t f
  have f:t∈if (lvl lev).1=0 then W0 bs else (L9 32768 258 bs (lvl lev).1 (lvl lev).2.1 (lvl lev).2.2 0 0).1:=f
  rw [V3d lev h,if_pos rfl] at f
  obtain ⟨b,_,rfl⟩:=List.mem_map.1 f
  rfl
 short c n lev _ g _ h3 _:=by
  have i:=W77 lev h3
  show 10*(if (lvl lev).1=0 then W0 (List.replicate n c) else (L9 32768 258 (List.replicate n c) (lvl lev).1 (lvl lev).2.1 (lvl lev).2.2 0 0).1).length < n
  rw [if_neg (by omega)]
  exact W5g (by omega) rfl i.1 i.2 g
structure Y57 (s:V5) (cut P a gone:Nat):Prop where
 le:cut≤s.at_
 some:s.tr≠0→gone=cut∧Z18 s.x cut P a∧P≤s.at_∧(cut=0∨cut+32768≤s.at_)
 none:s.tr=0→cut=s.at_∧P=0∧a=0∧gone=0
def V2z (s:V5) (cut P a gone:Nat) (B:D0):A6:=Z81 s.tr s.en s.la (s.at_-cut) gone (s.x.drop cut) (M5 s.x cut P) (P3 s.x a P) (O6 32768 s.x a) P B
def Y3m (s:V5) (B:D0):A6:=exT fun r:Nat×Nat×Nat×Nat=>Y3p (Y57 s r.1 r.2.1 r.2.2.1 r.2.2.2) (V2z s r.1 r.2.1 r.2.2.1 r.2.2.2 B)
section
variable {w0 w:World} {Rs:List A6}
theorem unT {s:V5} {B:D0} (H:A4 w0 w (Y3m s B::Rs)):∃cut P a gone,Y57 s cut P a gone∧A4 w0 w (V2z s cut P a gone B::Rs):=by
 obtain ⟨⟨cut,P,a,gone⟩,b⟩:=H.ex
 obtain ⟨d,f⟩:=b.fact
 exact ⟨cut,P,a,gone,d,f⟩
theorem mkT {s:V5} {B:D0} (cut P a gone:Nat) (hf:Y57 s cut P a gone) (H:A4 w0 w (V2z s cut P a gone B::Rs)):A4 w0 w (Y3m s B::Rs):=
 A4.mk (R:=fun r:Nat×Nat×Nat×Nat=>Y3p (Y57 s r.1 r.2.1 r.2.2.1 r.2.2.2) (V2z s r.1 r.2.1 r.2.2.1 r.2.2.2 B)) (cut,P,a,gone) (A4.mkFact hf H)
theorem V6d (lev:Int) (hl:Y4l w0) (h:A4 w0 w Rs):
  Calls Tryz.prog 46 #[.int .i64 lev] w fun e w'=>∃B:Nat,e= .returned (.pointer (some ⟨B,0,none⟩))∧A4 w0 w' (Y3m (I9.start lev) (.whole B 70)::Rs):=
 (V28 lev hl h).mono fun e w' ⟨B,he,h1⟩=>⟨B,he,mkT 0 0 0 0 ⟨T00 _,fun _=>⟨rfl,⟨T00 _,.inl rfl,T00 _,by omega,rfl,.inr rfl⟩,T00 _,.inl rfl⟩,fun _=>⟨rfl,rfl,rfl,rfl⟩⟩ (by
  show A4 w0 w' (Z81 (lvl lev).1 (lvl lev).2.1 (lvl lev).2.2 0 0 [] (M5 [] 0 0) (P3 [] 0 0) (O6 32768 [] 0) 0 (.whole B 70)::Rs)
  rw [Y7p,Y3x]
  exact h1)⟩
theorem V0w (s:V5) (B:D0) (v:Value) (n:Nat) (bs:List Nat) (H:A4 w0 w (Y3m s B::Rs)) (hs:Y4d s) (hv:Rd w 1 v n (D7 bs)) (hlen:s.x.length+n < 1000000000):
  Calls Tryz.prog 73 #[.pointer (some ⟨B.b,B.o,none⟩),v] w fun e w'=>e= .returned (.tuple #[])∧A4 w0 w' (Y3m (I9.write s bs) B::Rs):=by
 obtain ⟨d,P,a,f,g,l⟩:=unT H
 have j:P=0∨P+2≤s.x.length:=by
  by_cases c:s.tr=0
  ·exact .inl (g.none c).2.1
  exact (g.some c).2.1.room
 have k:a≤P:=by
  by_cases c:s.tr=0
  ·have:=g.none c;omega
  exact (g.some c).2.1.a_le
 refine (X8x l v n bs hv (by rw [T03];omega)).mono fun e w' ⟨he,h2⟩=>⟨he,mkT d P a f ⟨g.le,fun h=> ?_,fun h=>g.none h⟩ ?_⟩
 ·obtain ⟨m,i,p,q⟩:=g.some h
  exact ⟨m,⟨i.cut_le,i.room.imp id (fun h=>by show P+2≤(s.x++bs).length;rw [T01];omega),i.a_le,i.le_a,i.mod,i.some⟩,p,q⟩
 show A4 w0 w' (Z81 s.tr s.en s.la (s.at_-d) f ((s.x++bs).drop d) (M5 (s.x++bs) d P) (P3 (s.x++bs) a P) (O6 32768 (s.x++bs) a) P B::Rs)
 rw [W40 _ _ _ _ j,W68 _ _ _ _ j,W0a _ _ _ _ P j k,List.drop_append_of_le_length (by have:=g.le;have:=hs.le;omega)]
 exact h2
theorem X6b {tr en la at' gone n:Nat} {B:D0} {bs bk:List Nat} {g h:List Nat→Option Nat} (e:Bool) (h0:tr=0) (H:A4 w0 w (Z81 tr en la at' gone bs bk g h n B::Rs)) (hlen:bs.length < 1000000000):
  Calls Tryz.prog 74 #[.pointer (some ⟨B.b,B.o,none⟩),.bool e] w fun e' w'=>∃v,e'= .returned v∧A4 w0 w' (Y4r v (W0 bs)::Z81 tr en la at' gone [] bk g h n B::Rs):=by
 subst h0
 obtain ⟨p,q,r,s,f⟩:=Z3q H
 have l:=(W8 f).1.cell0 rfl
 have d:=A5 (X2d H hlen)
 have i:(((0:Nat):Int)==0)=true:=rfl
 clear f H
 go_enter Tryz.func74,Tryz.ntmps74
 go_wp2_with fail
 refine d.out.mono ?_
 rintro e m ⟨v,rfl,a⟩
 unfold Y4r at a
 obtain ⟨t,k,rfl,_,_⟩:=a.own.form
 have j:=A5 a
 clear a d
 go_wp2
 go_ret
 exact ⟨_,rfl,j.out⟩
theorem V26 (s:V5) (B:D0) (e:Bool) (H:A4 w0 w (Y3m s B::Rs)) (hs:Y4d s):
  Calls Tryz.prog 74 #[.pointer (some ⟨B.b,B.o,none⟩),.bool e] w fun e' w'=>∃v,e'= .returned v∧A4 w0 w' (Y4r v (told s e).1::Y3m (I9.toks s e).1 B::Rs):=by
 obtain ⟨p,P,a,m,g,n⟩:=unT H
 by_cases c:s.tr=0
 ·obtain ⟨i,j,k,l⟩:=g.none c
  refine (X6b e c n (by rw [T03];have:=hs.len;omega)).mono fun e' w' ⟨v,he,h2⟩=>⟨v,he, ?_⟩
  have d:told s e=(W0 (s.x.drop s.at_),s.x.length):=by unfold told;rw [if_pos c]
  rw [i] at h2
  rw [d]
  refine (mkT (s:=(I9.toks s e).1) (B:=B) s.x.length 0 0 0 ⟨by show s.x.length≤(told s e).2;rw [d];exact T00 _,fun h=>absurd c h,fun _=>⟨by show s.x.length=(told s e).2;rw [d],rfl,rfl,rfl⟩⟩ ?_).swap
  show A4 w0 w' (Z81 s.tr s.en s.la ((told s e).2-s.x.length) 0 (s.x.drop s.x.length) (M5 s.x s.x.length 0) (P3 s.x 0 0) (O6 32768 s.x 0) 0 B::Y4r v (W0 (s.x.drop s.at_))::Rs)
  rw [d,Nat.sub_self,List.drop_length]
  have f:=h2.swap
  rw [Nat.sub_self,j,k,l] at f
  rw [show M5 s.x s.x.length 0=[] by simp [M5]]
  rw [show M5 s.x s.at_ 0=[] by simp [M5]] at f
  exact f
 obtain ⟨i,j,k,l⟩:=g.some c
 subst i
 have d:told s e=L9 32768 258 s.x s.tr s.en s.la (if e then 0 else 261) s.at_:=by unfold told;rw [if_neg c]
 refine (X48 s.at_ e _ rfl n j k hs.le g.le l hs.len hs.bytes (by have:=hs.tries;omega) (by omega)).mono fun e' w' ⟨v,cut2,P2,a2,he,q1,q2,q3,q4,h2⟩=>⟨v,he, ?_⟩
 rw [←d] at q1 q2 q3 h2
 exact (mkT (s:=(I9.toks s e).1) (B:=B) cut2 P2 a2 cut2 ⟨q1,fun _=>⟨rfl,q4,q2,q3⟩,fun h=>absurd h c⟩ h2.swap).swap
end
def lcF (B:Nat→Nat) (v:Nat):Nat→Nat
 | 0=>0
 | m+1=>if B m≤v then m else lcF B v m
theorem W0g {B:Nat→Nat} {v:Nat} (h0:B 0≤v):∀m,0 < m→Z29 B m v (lcF B v m)
 | 0,h=>by omega
 | m+1,_=>by
  unfold lcF
  by_cases c:B m≤v
  ·rw [if_pos c];exact ⟨by omega,c,fun d h1 h2=>by omega⟩
  rw [if_neg c]
  have hm:0 < m:=by
   cases m with
   | zero=>exact absurd h0 c
   | succ m=>omega
  obtain ⟨h1,h2,a⟩:=W0g h0 m hm
  exact ⟨by omega,h2,fun d h4 h5=>if h6:d=m then by subst h6;omega else a d h4 (by omega)⟩
def Y0a (t:E1):Nat:=lcF lB t.2.1.toNat 29
def Z2h (t:E1):Nat:=lcF dB t.2.2.toNat 30
section
variable {t:E1}
theorem Y19 (hs:E8 t=true) (h0:t.2.1≠0):Z29 lB 29 t.2.1.toNat (Y0a t):=by
 have h:=V2 hs h0
 exact W0g (by
         have:lB 0=3:=by decide
         omega) 29 (by decide)
theorem Z6c (hs:E8 t=true) (h0:t.2.1≠0):Z29 dB 30 t.2.2.toNat (Z2h t):=by
 have h:=V2 hs h0
 exact W0g (by
         have:dB 0=1:=by decide
         omega) 30 (by decide)
end
def X0 (t:E1):Nat:=if t.2.1=0 then t.1.toNat else 257+Y0a t
def Y7i (t:E1):Nat:=if t.2.1=0 then 0 else lX (Y0a t)+dX (Z2h t)
theorem Y21 {t:E1} (hs:E8 t=true) (hb:0≤t.1∧t.1≤255):X0 t < 286:=by
 unfold X0
 split
 ·omega
 rename_i h
 have:=(Y19 hs h).1
 omega
def Z6x (lit dist:List Int) (t:E1):List Nat:=
 if t.2.1=0 then D8 lit t.1.toNat
 else D8 lit (257+Y0a t)++(A9 (lX (Y0a t)) (t.2.1.toNat-lB (Y0a t))++(D8 dist (Z2h t)++A9 (dX (Z2h t)) (t.2.2.toNat-dB (Z2h t))))
def P7 (lit dist:List Int) (l:List E1):List Nat:=l.flatMap (Z6x lit dist)++D8 lit 256
theorem Z9n (lit dist:List Int) (t:E1) (l:List E1):P7 lit dist (t::l)=Z6x lit dist t++P7 lit dist l:=by simp [P7]
def X22 (lit dist:List Int) (l:List E1):Prop:=K7 lit 256∧∀t∈l,K7 lit (X0 t)∧(t.2.1≠0→K7 dist (Z2h t))
theorem V4p {lit dist:List Int} {t:E1} (hs:E8 t=true) (hb:0≤t.1∧t.1≤255) (h1:K7 lit (X0 t)) (h2:t.2.1≠0→K7 dist (Z2h t)):Z21 lit dist t (Z6x lit dist t):=by
 obtain ⟨a,n,d⟩:=t
 unfold Z6x
 by_cases f:n=0
 ·have m:=W3u hs f
  have b:d=0:=m
  subst f
  subst b
  rw [if_pos rfl]
  unfold X0 at h1
  rw [if_pos rfl] at h1
  have g:=Z21.lit (lit:=lit) (dist:=dist) a.toNat (by show a.toNat < 256;have:a≤255:=hb.2;omega) h1
  have e:((a.toNat:Nat):Int)=a:=by have:0≤a:=hb.1;omega
  rw [e] at g
  exact g
 rw [if_neg f]
 obtain ⟨l,⟨i,j⟩,k,b⟩:=V2 hs f
 have i:3≤n:=i
 have j:n≤258:=j
 have k:1≤d:=k
 have b:d≤32768:=b
 have l:a=0:=l
 subst l
 unfold X0 at h1
 rw [if_neg f] at h1
 have g:=Z21.ref (lit:=lit) (dist:=dist) n.toNat d.toNat (Y0a (0,n,d)) (Z2h (0,n,d)) (Y19 hs f) (by omega) (by omega) (Z6c hs f) (by omega) (by omega) h1 (h2 f)
 have o:((n.toNat:Nat):Int)=n:=by omega
 have p:((d.toNat:Nat):Int)=d:=by omega
 rw [o,p] at g
 exact g
theorem Y60 {lit dist:List Int}:∀ {l:List E1},(∀t∈l,E8 t=true)→N9 l→X22 lit dist l→Z08 lit dist l (P7 lit dist l)
 | [],_,_,hc=>by
  show Z08 lit dist [] (D8 lit 256)
  exact .nil hc.1
 | t::l,hs,hb,hc=>by
  rw [Z9n]
  have h1:=hc.2 t (T04 ..)
  exact .cons _ _ _ _ (V4p (hs t (T04 ..)) (hb t (T04 ..)) h1.1 h1.2)
   (Y60 (fun s h=>hs s (T05 _ h)) (fun s h=>hb s (T05 _ h)) ⟨hc.1,fun s h=>hc.2 s (T05 _ h)⟩)
def litN (l:List E1) (k:Nat):Nat:=l.countP fun t=>decide (X0 t=k)
def Z5z (l:List E1) (k:Nat):Nat:=l.countP fun t=>decide (t.2.1≠0∧Z2h t=k)
def Z5a (l:List E1):Nat:=(l.map Y7i).sum
def Z5v (l:List E1) (k:Nat):Nat:=litN l k+(if 256=k then 1 else 0)
def Z1j (l:List E1):List Nat:=(T02 286).map (Z5v l)
def Z0o (l:List E1):List Nat:=(T02 30).map (Z5z l)
theorem X26 (l:List E1) (k:Nat):litN l k≤l.length:=T0e
theorem X3o (l:List E1) (k:Nat):Z5z l k≤l.length:=T0e
theorem W2u (l:List E1) (k:Nat):Z5v l k≤l.length+1:=by have:=X26 l k;unfold Z5v;split <;> omega
theorem V3y {l:List E1} (h:l.length < 1048576):∀a∈Z1j l,a≤1048576:=fun a ha=>by
 obtain ⟨k,_,rfl⟩:=List.mem_map.1 ha
 have:=W2u l k;omega
theorem V3g {l:List E1} (h:l.length < 1048576):∀a∈Z0o l,a≤1048576:=fun a ha=>by
 obtain ⟨k,_,rfl⟩:=List.mem_map.1 ha
 have:=X3o l k;omega
theorem N3 (l:List E1):(Z1j l).length=286:=by simp [Z1j]
theorem N5 (l:List E1):(Z0o l).length=30:=by simp [Z0o]
theorem X5q (l:List E1) {k:Nat} (h:k < 286):(Z1j l)[k]?=some (Z5v l k):=by simp [Z1j,h]
theorem X43 (l:List E1) {k:Nat} (h:k < 30):(Z0o l)[k]?=some (Z5z l k):=by simp [Z0o,h]
theorem X68 (l:List E1):0 < Z5v l 256:=by unfold Z5v;rw [if_pos rfl];omega
theorem W84 {l:List E1} {t:E1} (h:t∈l):0 < Z5v l (X0 t):=by
 have:0 < litN l (X0 t):=List.countP_pos_iff.2 ⟨t,h,by simp⟩
 unfold Z5v;omega
theorem W8p {l:List E1} {t:E1} (h:t∈l) (h0:t.2.1≠0):0 < Z5z l (Z2h t):=List.countP_pos_iff.2 ⟨t,h,by simp [h0]⟩
theorem X04 (l:List E1) (t:E1) (k:Nat):litN (l++[t]) k=litN l k+(if X0 t=k then 1 else 0):=by
 simp only [litN,T0f,T08,List.countP_nil,decide_eq_true_eq];omega
theorem X0f (l:List E1) (t:E1) (k:Nat):Z5z (l++[t]) k=Z5z l k+(if t.2.1≠0∧Z2h t=k then 1 else 0):=by
 simp only [Z5z,T0f,T08,List.countP_nil,decide_eq_true_eq];omega
theorem Y9v (l:List E1) (t:E1):Z5a (l++[t])=Z5a l+Y7i t:=by simp [Z5a]
def Z6p (l:List Int) (k:Nat):Nat:=(l[k]?.getD 0).toNat
def Z2l (l:List Int) (g:Nat→Nat):Nat→Nat
 | 0=>0
 | n+1=>Z2l l g n+Z6p l n*g n
theorem Y0o (l:List Int) (g h:Nat→Nat):∀n,Z2l l (fun k=>g k+h k) n=Z2l l g n+Z2l l h n
 | 0=>rfl
 | n+1=>by rw [Z2l,Z2l,Z2l,Y0o l g h n,Nat.mul_add];omega
theorem Z61 (l:List Int) (g:Nat→Nat):∀n,(∀k,k < n→g k=0)→Z2l l g n=0
 | 0,_=>rfl
 | n+1,h=>by rw [Z2l,Z61 l g n (fun k hk=>h k (by omega)),h n (by omega)];rfl
theorem Z78 (l:List Int) (s:Nat):∀n,s < n→Z2l l (fun k=>if s=k then 1 else 0) n=Z6p l s
 | 0,h=>by omega
 | n+1,h=>by
  rw [Z2l]
  by_cases c:s=n
  ·subst c
   rw [Z61 l _ s (fun k hk=>if_neg (by omega)),if_pos rfl];omega
  rw [Z78 l s n (by omega),if_neg c];omega
theorem Q9 (l:List Int) (k:Nat):(D8 l k).length=Z6p l k:=by unfold D8 Z6p;rw [T7]
theorem Y3v (lit dist:List Int) (t:E1):(Z6x lit dist t).length=Z6p lit (X0 t)+(if t.2.1≠0 then Z6p dist (Z2h t) else 0)+Y7i t:=by
 unfold Z6x X0 Y7i
 by_cases h:t.2.1=0
 ·rw [if_pos h,if_pos h,if_pos h,if_neg (fun c=>c h),Q9];omega
 rw [if_neg h,if_neg h,if_neg h,if_pos h]
 simp only [T01,Q9,B5];omega
theorem Y1g {lit dist:List Int}:∀ {l:List E1},(∀t∈l,E8 t=true)→N9 l→(P7 lit dist l).length=Z2l lit (Z5v l) 286+Z2l dist (Z5z l) 30+Z5a l
 | [],_,_=>by
  rw [P7,T0g,List.nil_append,Q9]
  have e:Z5v []=fun k=>if 256=k then 1 else 0:=by funext k;simp [Z5v,litN]
  rw [e,Z78 _ _ _ (by decide),Z61 dist (Z5z []) 30 (fun k _=>rfl)];rfl
 | t::l,hs,hb=>by
  have hs1:=hs t (T04 ..)
  have hb1:=hb t (T04 ..)
  rw [Z9n,T01,Y1g (fun s h=>hs s (T05 _ h)) (fun s h=>hb s (T05 _ h)),Y3v]
  have e1:Z5v (t::l)=fun k=>Z5v l k+(if X0 t=k then 1 else 0):=by
   funext k
   simp only [Z5v,litN,T08,decide_eq_true_eq];omega
  have b:Z5z (t::l)=fun k=>Z5z l k+(if t.2.1≠0∧Z2h t=k then 1 else 0):=by
   funext k
   simp only [Z5z,T08,decide_eq_true_eq]
  have d:Z5a (t::l)=Y7i t+Z5a l:=by simp [Z5a]
  rw [e1,b,d,Y0o,Y0o,Z78 _ _ _ (Y21 hs1 hb1)]
  by_cases a:t.2.1=0
  ·rw [Z61 dist (fun k=>if t.2.1≠0∧Z2h t=k then 1 else 0) 30 (fun k _=>if_neg fun h=>h.1 a),if_neg (fun h=>h a)];omega
  have f:(fun k=>if t.2.1≠0∧Z2h t=k then 1 else 0)=fun k=>if Z2h t=k then 1 else 0:=by funext k;simp [a]
  rw [f,Z78 _ _ _ (Z6c hs1 a).1,if_pos a];omega
theorem Z7u {l:List Int} {g:Nat→Nat} {N:Nat} (hl:∀a∈l,0≤a∧a≤15) (hg:∀k,k < N→g k≤1048576):∀k,k≤N→k≤l.length→Z3m l (((T02 N).map g).map fun (n:Nat)=>(n:Int)) k=Z2l l g k
 | 0,_,_=>rfl
 | k+1,h1,h2=>by
  rw [Z3m,Z2l,Z7u hl hg k (by omega) (by omega)]
  have e1:l.getD k 0=l[k]?.getD 0:=by simp [List.getD]
  have e2:(((T02 N).map g).map fun (n:Nat)=>(n:Int)).getD k 0=((g k:Nat):Int):=by
   have b:k < N:=by omega
   simp [List.getD,b]
  have d:=hl _ (T0a (T09 (show k < l.length by omega)))
  rw [e1,e2,T09 (show k < l.length by omega)]
  unfold Z0t Z6p
  rw [T09 (show k < l.length by omega)]
  simp only [Option.getD_some]
  have:=hg k (by omega)
  rw [if_pos ⟨d.1,by omega⟩,if_pos ⟨T06 _,by omega⟩,Int.toNat_natCast]
theorem X0a {l:List Int} {g:Nat→Nat} {n:Nat} (h:l.length≤n):∀d,Z2l l g (n+d)=Z2l l g n
 | 0=>rfl
 | d+1=>by
  rw [←Nat.add_assoc,Z2l,X0a h d]
  have:Z6p l (n+d)=0:=by unfold Z6p;rw [List.getElem?_eq_none (by omega)];rfl
  rw [this,Nat.zero_mul,Nat.add_zero]
theorem Y31 {l:List Int} {g:Nat→Nat} {N:Nat} (hl:∀a∈l,0≤a∧a≤15) (hg:∀k,k < N→g k≤1048576):Z3m l (((T02 N).map g).map fun (n:Nat)=>(n:Int)) (min l.length (((T02 N).map g).map fun (n:Nat)=>(n:Int)).length)=Z2l l g N:=by
 have b:(((T02 N).map g).map fun (n:Nat)=>(n:Int)).length=N:=by simp
 rw [b]
 by_cases h:l.length≤N
 ·rw [Nat.min_eq_left h,Z7u hl hg _ h (T00 _)]
  have:=X0a (g:=g) (T00 l.length) (N-l.length)
  rw [show l.length+(N-l.length)=N by omega] at this
  exact this.symm
 rw [Nat.min_eq_right (by omega),Z7u hl hg _ (T00 _) (by omega)]
theorem Z4e {l:List Int} {m:Nat} (h:∀a∈l,0≤a∧a≤(m:Int)) (k:Nat):Z6p l k≤m:=by
 unfold Z6p
 cases e:l[k]? with
 | none=>exact Nat.zero_le _
 | some a=>have:=h a (T0a e);show a.toNat≤m;omega
theorem X36 {t:E1} (hs:E8 t=true):Y7i t≤18:=by
 unfold Y7i
 split
 ·omega
 rename_i h
 have a:=X12 _ (Y19 hs h).1
 have b:=X0w _ (Z6c hs h).1
 omega
theorem Z3e {lit dist:List Int} (hl:∀a∈lit,0≤a∧a≤15) (hd:∀a∈dist,0≤a∧a≤15):∀ {l:List E1},(∀t∈l,E8 t=true)→(P7 lit dist l).length≤48*l.length+15
 | [],_=>by
  rw [P7,T0g,List.nil_append,Q9]
  have:=Z4e (m:=15) hl 256
  simpa using this
 | t::l,hs=>by
  have ih:=Z3e hl hd (l:=l) fun s h=>hs s (T05 _ h)
  have h1:=Z4e (m:=15) hl (X0 t)
  have h2:=Z4e (m:=15) hd (Z2h t)
  have h3:=X36 (hs t (T04 ..))
  rw [Z9n,T01,Y3v,List.length_cons]
  split <;> omega
def Z38 (f:List Int):Bool:=f.all fun a=>decide (0≤a∧a≤1048576)
theorem X05 (f:List Int):Z38 f=true↔∀a∈f,0≤a∧a≤1048576:=by simp [Z38]
theorem Z9u (l:List Int) (a:Int):Z38 (l++[a])=(Z38 l && decide (0≤a∧a≤1048576)):=by simp [Z38]
theorem Y5h (l:List Int) (i:Nat) (h:Z38 (l.take i)=false):Z38 l=false:=by
 rw [←T07 i l]
 unfold Z38 at*
 rw [List.all_append,h];rfl
def wtN (n:Nat):Nat:=if 1≤n∧n≤15 then 2^(15-n) else 0
def kr:List Nat→Nat
 | []=>0
 | n::l=>wtN n+kr l
def cst:List Nat→List Nat→Nat
 | a::l,b::f=>a*b+cst l f
 | _,_=>0
theorem V38 (n:Nat):Z23 15 (n:Int)=wtN n:=by
 unfold Z23 wtN
 by_cases h:1≤n∧n≤15
 ·rw [if_pos (by omega),if_pos h];simp
 rw [if_neg (by omega),if_neg h]
theorem V51 (l:List Nat):F0 (l.map fun (n:Nat)=>(n:Int))=kr l:=by
 induction l with
 | nil=>simp [F0,Z6k,kr]
 | cons a l ih=>rw [List.map_cons,sum_cons,V38,ih,kr]
theorem Y5k:wtN 0=0:=by decide
structure V36 (f:List Nat) (m:Nat) (l:List Nat):Prop where
 len:l.length=f.length
 sup:∀ (i a b:Nat),l[i]?=some a→f[i]?=some b→(0 < a↔0 < b)
 le:∀a∈l,a≤m
 whole:kr l=32768
structure V69 (f:List Nat) (m:Nat) (l:List Nat):Prop where
 good:V36 f m l
 least:∀l2,V36 f m l2→cst l f≤cst l2 f
theorem W70 {l:List Nat} {i:Nat} (h:i < l.length):∃a,l[i]?=some a:=⟨_,T09 h⟩
def I3:List Nat→Nat
 | []=>0
 | a::l=>a+I3 l
def U2:List Nat→Nat
 | []=>0
 | a::l=>(if 0 < a then 1 else 0)+U2 l
theorem W2b (n:Nat) (h1:1≤n) (h:n≤15):wtN n=2^(15-n):=by unfold wtN;rw [if_pos ⟨h1,h⟩]
end Go.Proofs.YtbkbkmgogbgofaaGreatDoor
