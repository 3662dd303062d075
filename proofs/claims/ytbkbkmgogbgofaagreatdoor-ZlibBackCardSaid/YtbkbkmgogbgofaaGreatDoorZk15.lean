/- The claim's texts, put together and shortened by a program (names, spaces). -/
import Derived.Test.YtbkbkmgogbgofaaGreatDoorZk14
import Derived.Test.YtbkbkmgogbgofaaGreatDoorZk02
import Derived.Test.YtbkbkmgogbgofaaGreatDoorZk12
import Derived.Test.YtbkbkmgogbgofaaGreatDoorZk13
open List renaming perm_middle→T00,length_drop→T02,length_append→T03,length_cons→T04,append_nil→T05
open Int renaming natCast_nonneg→T01
namespace Go.Proofs.YtbkbkmgogbgofaaGreatDoor
set_option maxRecDepth 100000
set_option maxHeartbeats 6400000
open Go.RowKit
section
variable {w0 w:World} {Rs:List A6} {p:C4} {c:DC} {v:Value} {bs l o got:List Nat} {ls:List Int} {Ts:List (List Int×Nat)} {M:Nat}
theorem W1r (b x:Int):
  Calls Tryz.prog 176 #[.pointer (some ⟨p.b,p.o,none⟩),.int .i64 b,.int .i64 x,.bool false] w fun e w'=>e= .returned (.tuple #[.int .i64 0,.int .i64 3])∧w=w':=by
 go_enter Tryz.func176,Tryz.ntmps176
 go_wp2
 go_ret2
 exact ⟨rfl,rfl⟩
theorem W14 (b:Int) (x:Nat) (hx:x≤32) (hl:l.length < x) (h:A4 w0 w (J9 (J0 p c) v bs l::Rs)):
  Calls Tryz.prog 176 #[.pointer (some ⟨p.b,p.o,none⟩),.int .i64 b,.int .i64 (x:Int),.bool true] w fun e w'=>e= .returned (.tuple #[.int .i64 0,.int .i64 5])∧A4 w0 w' (J9 (J0 p c) v bs l::Rs):=by
 have a:=A5 (Z4u h x (x:Int) rfl hx hl)
 clear h
 go_enter Tryz.func176,Tryz.ntmps176
 go_wp2_with fail
 with_reducible refine a.out.mono ?_
 rintro e g ⟨rfl,d⟩
 have f:=A5 d
 clear d a
 go_wp2
 go_ret2
 exact ⟨rfl,f.out⟩
theorem W20 (b x n:Nat) (hx:x≤13) (hb:b < 100000) (ht:Z07 l x=some n) (hbits:isBits l) (hlen:l.length < Y5) (h:A4 w0 w (J9 (J0 p c) v bs l::Rs)):
  Calls Tryz.prog 176 #[.pointer (some ⟨p.b,p.o,none⟩),.int .i64 (b:Int),.int .i64 (x:Int),.bool true] w fun e w'=>e= .returned (.tuple #[.int .i64 ((b+n:Nat):Int),.int .i64 0])∧A4 w0 w' (J9 (J0 p c) v bs (l.drop x)::Rs):=by
 obtain ⟨j,a⟩:=N1 ht
 have d:=Z34 h x (x:Int) rfl (by omega) j hlen
 rw [←a] at d
 have d:=A5 d
 have k:n < 8192:=by
  rw [a]
  exact Nat.lt_of_lt_of_le (Z0v hbits x) (Nat.pow_le_pow_right (by decide) hx)
 obtain ⟨s,f⟩:∃s,s=b+n:=⟨_,rfl⟩
 rw [←f]
 have g:(b:Int)+(n:Int)=(s:Int):=by omega
 clear h ht a f
 go_enter Tryz.func176,Tryz.ntmps176
 go_wp2_with fail
 with_reducible refine d.out.mono ?_
 rintro e m ⟨rfl,a⟩
 have i:=A5 a
 clear a d
 go_wp2
 go_ret2
 exact ⟨rfl,i.out⟩
theorem V3v {k c:Nat} (hk:256 < k) (hk2:k≤285) (hc:c=k-257):Z1c (k:Int)= .tuple #[.int .i64 (lB c:Int),.int .i64 (lX c:Int),.bool true]:=by
 subst hc
 unfold Z1c
 rw [if_neg (by omega),show ((k:Int)-257).toNat=k-257 by omega]
theorem W93 {k:Nat} (hk:285 < k):Z1c (k:Int)= .tuple #[.int .i64 0,.int .i64 0,.bool false]:=if_pos (.inr (by omega))
theorem W9y {k:Nat} (hk:k < 30):Z0j (k:Int)= .tuple #[.int .i64 (dB k:Int),.int .i64 (dX k:Int),.bool true]:=by
 unfold Z0j
 rw [if_neg (by omega),show ((k:Int)).toNat=k by omega]
theorem W3o {k:Nat} (hk:29 < k):Z0j (k:Int)= .tuple #[.int .i64 0,.int .i64 0,.bool false]:=if_pos (.inr (by omega))
theorem W83 (m:Nat) (hm:m=min o.length 32768) (h:A4 w0 w (J9 (J0 p c) v bs l::B0 5 1 c.wv (L7 o).length (D9 (L7 o))::Rs)):
  Calls Tryz.prog 177 #[.pointer (some ⟨p.b,p.o+3,none⟩)] w fun e w'=>e= .returned (.int .i64 (m:Int))∧w=w':=by
 obtain ⟨f,g,a,s,i,d⟩:=Z1e h
 exact W89 o m (W04 d.mid) hm
theorem W3q (b:Bool) (lit dis:List Int) (k q:Nat) (l0:List Nat) (hk:256 < k) (hk2:k < 288) (h:A4 w0 w (P8 p c v bs l o got ls Ts Rs)) (hi:Z0h M c ls Ts (.tok b lit dis) l0 o got) (hl:l=l0.drop q)
  (hst:F9 M l0 o (.tok b lit dis)=if 285 < k then .err 3 else Y2n b lit dis (k-257) l o):
  Calls Tryz.prog 148 #[.pointer (some ⟨p.b,p.o,none⟩),.int .i64 (k:Int)] w fun e w'=>Y5o w0 w' p v bs M (.tok b lit dis) c l0 o got ls Ts Rs e:=by
 have b8:=hi.cell
 have b0:=hi.fx
 have e5:=hi.ok.ph
 have hb:isBits l:=by rw [hl];exact F3 hi.ok.bits q
 have r:l.length < Y5:=by rw [hl,T02];have:=hi.len;omega
 have HI:=A5 hi
 obtain ⟨wv,most,a6,lv,st,t,left,b7,hA,hB,hC,ht,hv,cl,cd,fl,fd,en⟩:=c
 obtain ⟨rfl,rfl,t1,t2,rfl,rfl,m1,m2⟩:st=6∧t=b∧∃t1 t2,cl=Z05 t1∧cd=Z05 t2∧(lit,t1)∈Ts∧(dis,t2)∈Ts:=b8
 obtain ⟨k1,k2,k3,k4⟩:=e5
 have i1:(0:Int)≤(k:Int):=T01 _
 have x:=A5 (fun w=>Y4e (k:Int) w)
 have H1:=A5 h
 by_cases i:285 < k
 ·rw [if_pos i] at hst
  rw [W93 i] at x
  have f:=A5 hst
  have b9:=A5 (fun w=>W1r (p:=p) (w:=w) 0 0)
  clear h hi hst b0 hb r m1 m2 i
  go_enter Tryz.func148,Tryz.ntmps148
  go_wp2_with fail
  with_reducible refine (x.out _).mono ?_
  rintro e w2 ⟨rfl,rfl⟩
  go_wp2_with fail
  with_reducible refine (b9.out _).mono ?_
  rintro e w2 ⟨rfl,rfl⟩
  go_wp2
  go_ret
  exact ⟨3,rfl,.bad H1.out f.out (fun h=>by cases h) ⟨rfl,rfl⟩⟩
 rw [if_neg i] at hst
 obtain ⟨cc,b2⟩:∃cc,cc=k-257:=⟨_,rfl⟩
 rw [V3v hk (by omega) b2] at x
 rw [←b2] at hst
 have a1:=X0u cc (by omega)
 have c0:=W8f cc (by omega)
 unfold Y2n at hst
 cases htk:Z07 l (lX cc) with
 | none=>
  rw [htk] at hst
  have f:=A5 hst
  have a2:=A5 (W14 ((lB cc:Nat):Int) (lX cc) (by omega) (Z2n htk) h)
  clear h hi hst b0 hb r m1 m2 i htk b2
  go_enter Tryz.func148,Tryz.ntmps148
  go_wp2_with fail
  with_reducible refine (x.out _).mono ?_
  rintro e w2 ⟨rfl,rfl⟩
  go_wp2_with fail
  with_reducible refine a2.out.mono ?_
  rintro e w3 ⟨rfl,h3⟩
  have H3:=A5 h3
  clear h3 a2
  go_wp2
  go_ret
  exact ⟨5,rfl,.bad (l':=l) H3.out f.out (fun _=>⟨rfl,rfl,rfl⟩) ⟨rfl,rfl⟩⟩
 | some more=>
  rw [htk] at hst
  dsimp only at hst
  have c1:more < 2^lX cc:=by rw [(N1 htk).2];exact Z0v hb _
  have e7:=Y55 cc (by omega)
  have g:=W20 (lB cc) (lX cc) more (by omega) (by omega) htk hb r h
  obtain ⟨l1,a8⟩:∃l1,l1=l.drop (lX cc):=⟨_,rfl⟩
  obtain ⟨n,hn⟩:∃n,n=lB cc+more:=⟨_,rfl⟩
  rw [←a8,←hn] at hst
  rw [←a8,←hn] at g
  have d3:isBits l1:=by rw [a8];exact F3 hb _
  have a3:l1.length < Y5:=by rw [a8,T02];omega
  have e8:n≤258:=by omega
  have i2:(0:Int)≤(n:Int):=T01 _
  have g:=A5 g
  have d4:=A5 hst
  have HB:=A5 (And.intro d3 (And.intro a3 (And.intro (Z2v k2) k4)))
  have HM:=A5 (And.intro m1 m2)
  have e9:=A5 b0
  clear h hi hst b0 hb r m1 m2 i htk c1 e7 hl a8 hn b2 d3 a3 k1 k2 k3 k4 H1 a1 c0
  go_enter Tryz.func148,Tryz.ntmps148
  go_wp2_with fail
  with_reducible refine (x.out _).mono ?_
  rintro e w2 ⟨rfl,rfl⟩
  go_wp2_with fail
  with_reducible refine g.out.mono ?_
  rintro e w3 ⟨rfl,h3⟩
  have H3:=A5 h3
  have d5:w3.cell? ⟨p.b,p.o+8+8+1,none⟩=some (.pointer (some ⟨t2,0,none⟩)):=F0 h3 17 _ rfl
  have d6:=A5 (W75 dis t2 (Y2t HM.out.2 h3.drew) HB.out.2.2.1 HB.out.1 HB.out.2.1)
  clear h3 g x
  go_wp2
  go_region_held3 (fun w'=>w'.cell? ⟨p.b,p.o+8+8+1,none⟩=some (.pointer (some ⟨t2,0,none⟩))) (first | exact d7 | exact d5 | go_keep)
   ((go_at_call 146;go_must (refine d6.out.mono ?_);rintro e' w4 ⟨s,q2,er,rfl,hh,c6⟩;have H4:=A5 (Y09 HM.out.2 hh);have d7:w4.cell? ⟨p.b,p.o+8+8+1,none⟩=some (.pointer (some ⟨t2,0,none⟩)):=F0 hh 17 _ rfl;clear hh d6))
  all_goals
   have a4:=Z8j HB.out.1 HB.out.2.2.1.1 c6.out
   have i3:(0:Int)≤(s:Int):=T01 _
   clear d7 H3 d5
   by_cases he:er=0
   rotate_left
   ·have f:=d4.out
    rw [a4] at f
    unfold X1p at f
    rw [if_pos he] at f
    have f:=A5 f
    have j0:((er:Int)==0)=false:=by simp;omega
    have j1:¬(er:Int)=0:=by omega
    clear a4 he c6
    go_wp2
    go_ret
    exact ⟨er,rfl,.bad H4.out f.out (fun _=>⟨rfl,rfl,rfl⟩) ⟨rfl,rfl⟩⟩
   subst he
   have h0:=(P7 a4).1
   have a:=d4.out
   rw [a4] at a
   unfold X1p at a
   rw [if_neg (fun h=>h rfl)] at a
   dsimp only at a
   unfold Y4y at a
   have y:=A5 (fun w=>Y19 (s:Int) w)
   obtain ⟨l2,b3⟩:∃l2,l2=l1.drop q2:=⟨_,rfl⟩
   rw [←b3] at a H4
   have a5:isBits l2:=by rw [b3];exact F3 HB.out.1 _
   have j:l2.length < Y5:=by rw [b3,T02];have:=HB.out.2.1;omega
   clear a4 c6 b3
   by_cases z:29 < s
   ·rw [if_pos z] at a
    rw [W3o z] at y
    have f:=A5 a
    have b9:=A5 (fun w=>W1r (p:=p) (w:=w) 0 0)
    clear a z a5 j
    go_wp2_with fail
    with_reducible refine (y.out _).mono ?_
    rintro e w5 ⟨rfl,rfl⟩
    go_wp2_with fail
    with_reducible refine (b9.out _).mono ?_
    rintro e w5 ⟨rfl,rfl⟩
    go_wp2
    go_ret
    exact ⟨3,rfl,.bad H4.out f.out (fun h=>by cases h) ⟨rfl,rfl⟩⟩
   rw [if_neg z] at a
   rw [W9y (by omega)] at y
   have a1:=Y9l s (by omega)
   have f0:=X62 s (by omega)
   have f1:=X1h s (by omega)
   cases htk:Z07 l2 (dX s) with
   | none=>
    rw [htk] at a
    have f:=A5 a
    have a2:=A5 (W14 ((dB s:Nat):Int) (dX s) (by omega) (Z2n htk) H4.out)
    clear a z a5 j htk H4
    go_wp2_with fail
    with_reducible refine (y.out _).mono ?_
    rintro e w5 ⟨rfl,rfl⟩
    go_wp2_with fail
    with_reducible refine a2.out.mono ?_
    rintro e w6 ⟨rfl,h6⟩
    have H6:=A5 h6
    clear h6 a2
    go_wp2
    go_ret
    exact ⟨5,rfl,.bad H6.out f.out (fun _=>⟨rfl,rfl,rfl⟩) ⟨rfl,rfl⟩⟩
   | some far=>
    rw [htk] at a
    dsimp only at a
    have d8:far < 2^dX s:=by rw [(N1 htk).2];exact Z0v a5 _
    have g:=W20 (dB s) (dX s) far (by omega) (by omega) htk a5 j H4.out
    obtain ⟨d,hd⟩:∃d,d=dB s+far:=⟨_,rfl⟩
    rw [←hd] at g a
    have g:=A5 g
    have h1:d≤32768:=by omega
    have i4:(0:Int)≤(d:Int):=T01 _
    obtain ⟨m,hm⟩:∃m,m=min o.length 32768:=⟨_,rfl⟩
    have i5:(0:Int)≤(m:Int):=T01 _
    have f2:=A5 hm
    have b4:=A5 a
    have b5:o.length < d↔m < d:=by omega
    have b6:=A5 b5
    clear a z a5 j htk H4 d8 hd hm b5 a1 f0 f1
    go_wp2_with fail
    with_reducible refine (y.out _).mono ?_
    rintro e w5 ⟨rfl,rfl⟩
    go_wp2_with fail
    with_reducible refine g.out.mono ?_
    rintro e w6 ⟨rfl,h6⟩
    have H6:=A5 h6
    have c4:=A5 (W83 m f2.out h6)
    clear h6 g y
    go_wp2_with fail
    with_reducible refine c4.out.mono ?_
    rintro e w7 ⟨rfl,rfl⟩
    by_cases b1:m < d
    ·have hI:(m:Int) < (d:Int):=by omega
     have f:=b4.out
     rw [if_pos (b6.out.2 b1)] at f
     have f:=A5 f
     clear b1 c4
     go_wp2
     go_ret
     exact ⟨3,rfl,.bad H6.out f.out (fun h=>by cases h) ⟨rfl,rfl⟩⟩
    have hI:¬(m:Int) < (d:Int):=by omega
    have f:=b4.out
    rw [if_neg (fun h=>b1 (b6.out.1 h))] at f
    have f:=A5 f
    have c9:w6.cell? ⟨p.b,p.o+8+1,none⟩=some (.int .i64 (left:Int)):=F0 H6.out 9 _ rfl
    have f9:w6.frozen? ⟨p.b,p.o+8+1,none⟩=false:=Y4 H6.out 9
    have i7:w6.cell? ⟨p.b,p.o+8+2,none⟩=some (.int .i64 (b7:Int)):=F0 H6.out 10 _ rfl
    have i8:w6.frozen? ⟨p.b,p.o+8+2,none⟩=false:=Y4 H6.out 10
    have c7:w6.cell? ⟨p.b,p.o+7,none⟩=some (.int .i64 6):=F0 H6.out 7 _ rfl
    have f7:w6.frozen? ⟨p.b,p.o+7,none⟩=false:=Y4 H6.out 7
    clear b1 c4
    go_wp2
    go_ret
    have h7:=Z2q (Z2q (Z2q H6.out 9 (.int .i64 (n:Int)) ⟨wv,most,a6,lv,6,t,n,b7,hA,hB,hC,ht,hv,Z05 t1,Z05 t2,fl,fd,en⟩ rfl) 10 (.int .i64 (d:Int)) ⟨wv,most,a6,lv,6,t,n,d,hA,hB,hC,ht,hv,Z05 t1,Z05 t2,fl,fd,en⟩ rfl) 7 (.int .i64 7) ⟨wv,most,a6,lv,7,t,n,d,hA,hB,hC,ht,hv,Z05 t1,Z05 t2,fl,fd,en⟩ rfl
    exact ⟨0,rfl,.on HI.out f.out h7 ⟨rfl,rfl,rfl,rfl,t1,t2,rfl,rfl,HM.out.1,HM.out.2⟩ e9.out rfl rfl⟩
end
section
variable {w0 w:World} {Rs:List A6} {p:C4} {c:DC} {v:Value} {bs l o got:List Nat} {ls:List Int} {Ts:List (List Int×Nat)} {M:Nat}
theorem W0q (b:Bool) (lit dis:List Int) (h:A4 w0 w (P8 p c v bs l o got ls Ts Rs)) (hi:Z0h M c ls Ts (.tok b lit dis) l o got) (hr:0 < c.room):
  Calls Tryz.prog 114 #[.pointer (some ⟨p.b,p.o,none⟩)] w fun e w'=>Y5o w0 w' p v bs M (.tok b lit dis) c l o got ls Ts Rs e:=by
 have a4:=hi.cell
 have b1:=hi.fx
 have c3:=hi.ok.ph
 have hb:=hi.ok.bits
 have m:=hi.len
 have i:=hi.most
 have a2:=hi.big
 have b2:=hi.got
 have n:=hi.top
 have HI:=A5 hi
 have f:=fun (k q:Nat) (l1:List Nat) (hk:256 < k) (hk2:k < 288) (wz:World) (hz:A4 w0 wz (P8 p c v bs l1 o got ls Ts Rs)) (hl:l1=l.drop q) (a:F9 M l o (.tok b lit dis)=if 285 < k then .err 3 else Y2n b lit dis (k-257) l1 o)=>W3q b lit dis k q l hk hk2 hz hi hl a
 have f:=A5 f
 obtain ⟨wv,most,a3,lv,st,j,left,dist,hA,hB,hC,ht,hv,cl,cd,fl,fd,en⟩:=c
 dsimp only at hr i n
 obtain ⟨rfl,rfl,t1,t2,rfl,rfl,m1,m2⟩:st=6∧j=b∧∃t1 t2,cl=Z05 t1∧cd=Z05 t2∧(lit,t1)∈Ts∧(dis,t2)∈Ts:=a4
 obtain ⟨k1,k2,k3,k4⟩:=c3
 have b3:=A5 (W75 lit t1 (Y2t m1 h.drew) (Z2v k1) hb m)
 have c5:w.cell? ⟨p.b,p.o+8+8,none⟩=some (.pointer (some ⟨t1,0,none⟩)):=F0 h 16 _ rfl
 have HB:=A5 (And.intro hb (And.intro m (And.intro (Z2v k1) k3)))
 have HM:=A5 (And.intro m1 m2)
 have b4:=A5 b1
 have z:=A5 (And.intro i (And.intro a2 (And.intro b2 n)))
 clear h hi b1 hb m m1 m2 k1 k2 k3 k4 i a2 b2 n
 go_enter Tryz.func114,Tryz.ntmps114
 go_wp2
 go_region_held3 (fun w'=>w'.cell? ⟨p.b,p.o+8+8,none⟩=some (.pointer (some ⟨t1,0,none⟩))) (first | exact b5 | exact c5 | go_keep)
  ((go_at_call 146;go_must (refine b3.out.mono ?_);rintro e' y ⟨k,q,er,rfl,hh,a9⟩;have x:=A5 (Y09 HM.out.1 hh);have b5:y.cell? ⟨p.b,p.o+8+8,none⟩=some (.pointer (some ⟨t1,0,none⟩)):=F0 hh 16 _ rfl;clear hh b3))
 all_goals
  have a0:=Z8j HB.out.1 HB.out.2.2.1.1 a9.out
  have f0:(0:Int)≤(k:Int):=T01 _
  have a:=W2i (M:=M) (b:=j) (dist:=dis) (out:=o) a0
  unfold Z5p at a
  dsimp only at a
  clear b5
  by_cases he:er=0
  rotate_left
  ·rw [if_pos he] at a
   have HE:=A5 a
   have f6:((er:Int)==0)=false:=by simp;omega
   have f7:¬(er:Int)=0:=by omega
   clear a0 he a9 a f
   go_wp2
   go_ret
   exact ⟨er,rfl,.bad x.out HE.out (fun _=>⟨rfl,rfl,rfl⟩) ⟨rfl,rfl⟩⟩
  subst he
  have d:=(P7 a0).1
  rw [if_neg (fun h=>h rfl)] at a
  clear a0 a9
  by_cases g:k=256
  ·subst g
   rw [if_pos rfl] at a
   unfold Z90 at a
   cases j with
   | true=>
    rw [if_pos rfl] at a
    have HS:=A5 a
    have HE:=A5 (X63 x.out rfl)
    clear a d f
    go_wp2_with fail
    with_reducible refine HE.out.mono ?_
    rintro e w5 ⟨rfl,rfl⟩
    go_wp2
    go_ret
    exact ⟨8,rfl,.over x.out HS.out ⟨rfl,rfl⟩⟩
   | false=>
    rw [if_neg (by decide)] at a
    have HS:=A5 a
    have HE:=A5 (W22 x.out rfl)
    clear a d f
    go_wp2_with fail
    with_reducible refine HE.out.mono ?_
    rintro e w5 ⟨rfl,h5⟩
    have H5:=A5 h5
    clear h5 HE
    go_wp2
    go_ret
    exact ⟨0,rfl,.on HI.out HS.out H5.out rfl b4.out rfl rfl⟩
  have c8:((k:Int)==256)=false:=by simp;omega
  have c9:¬(k:Int)=256:=by omega
  rw [if_neg g] at a
  by_cases s:k < 256
  rotate_left
  ·have a6:(256:Int) < (k:Int):=by omega
   have d0:decide ((256:Int) < (k:Int))=true:=decide_eq_true a6
   rw [if_neg s] at a
   have b8:=A5 (f.out k q _ (by omega) (by have:=HB.out.2.2.2;omega) y x.out rfl a)
   clear a s g f d
   go_wp2_with fail
   with_reducible refine b8.out.mono ?_
   rintro e w5 ⟨e1,rfl,hR⟩
   have HR:=A5 hR
   clear hR b8
   go_wp2
   go_ret
   exact ⟨e1,rfl,HR.out⟩
  have a6:¬(256:Int) < (k:Int):=by omega
  have d0:decide ((256:Int) < (k:Int))=false:=decide_eq_false a6
  rw [if_pos s] at a
  by_cases hm:most=0
  ·subst hm
   rw [if_pos (by have:=z.out.1;omega)] at a
   have HS:=A5 a
   have d4:y.cell? ⟨p.b,p.o+3+1,none⟩=some (.int .i64 0):=F0 x.out 4 _ rfl
   have HQ:=A5 (Y6r (w:=y) p.b (p.o+3) 1 d4)
   clear a s g f d
   go_wp2_with fail
   with_reducible refine HQ.out.mono ?_
   rintro e w5 ⟨rfl,n5,rfl⟩
   go_wp2
   go_ret
   exact ⟨6,rfl,.bad (x.out.drewN _) HS.out (fun h=>by cases h) ⟨rfl,rfl⟩⟩
  obtain ⟨r,rfl⟩:∃r:Nat,a3=(r:Int):=⟨a3.toNat,by omega⟩
  rw [if_neg (by have:=z.out.1;omega)] at a
  have HS:=A5 a
  have d4:y.cell? ⟨p.b,p.o+3+1,none⟩=some (.int .i64 (most:Int)):=F0 x.out 4 _ rfl
  have d5:y.cell? ⟨p.b,p.o+3+2,none⟩=some (.int .i64 (r:Int)):=F0 x.out 5 _ rfl
  have HQ:=Y2x (w:=y) p.b (p.o+3) 1 most r (by omega) d4 d5
  rw [show min (min 1 most) r=1 by omega,show ((1:Nat):Int)=1 from rfl] at HQ
  have HQ:=A5 HQ
  have b6:most < 4000000000000∧got.length < 1000000000:=by have h1:=z.out;unfold Y5 at h1;omega
  have f3:IntKind.u8.wrap (k:Int)=(k:Int):=by simp [IntKind.wrap,IntKind.signed,IntKind.bits];omega
  have d1:1≤most∧1≤r:=by omega
  have a8:=z.out.2.2.2
  clear a s g f d hm
  go_wp2_with fail
  with_reducible refine HQ.out.mono ?_
  rintro e w5 ⟨rfl,n5,rfl⟩
  have h5:A4 w0 ((y.drewN n5).alloc (.cells #[.int .u8 (k:Int)] 5)) (B0 5 1 (.slice (some ⟨y.heap.size,0,none⟩) 1 1) 1 (D9 [k])::_):=(x.out.drewN n5).lit 5 1 (D9 [k]) 1 (by decide) rfl
  have HA:=A5 (X4u o got [k] (.slice (some ⟨y.heap.size,0,none⟩) 1 1) 1 got.length (h5.perm (T00 (l₁:=[_,_,_])).symm) b6.2 d1.1 (by dsimp only;omega) (by decide) b6.1 (by dsimp only;exact a8))
  clear h5 HQ d4 d5
  go_wp2_with fail
  with_reducible refine HA.out.mono ?_
  rintro e w6 ⟨rfl,d9,e0,h6⟩
  have H6:=A5 h6
  clear h6 HA
  go_wp2
  go_ret
  refine ⟨0,rfl,Y4r.outs (t:=[k]) (ls':=ls) (Ts':=Ts) (c':=⟨d9,most-1,(r:Int)- ((1:Nat):Int),e0,6,j,left,dist,hA,hB,hC,ht,hv,Z05 t1,Z05 t2,fl,fd,en⟩) HI.out (.one HS.out) (by simp) ?_ ⟨rfl,rfl,t1,t2,rfl,rfl,HM.out.1,HM.out.2⟩ b4.out (by simp only [T04,List.length_nil];omega) (by simp only [T04,List.length_nil];omega) (by dsimp only;omega)⟩
  unfold P8
  rw [T03]
  exact H6.out
end
section
variable {w0 w:World} {Rs:List A6} {p:C4} {c:DC} {v:Value} {bs l o got:List Nat} {ls:List Int} {Ts:List (List Int×Nat)} {M:Nat}
theorem W7a (ph:Ph) (hG:Y9 w0) (h:A4 w0 w (P8 p c v bs l o got ls Ts Rs)) (hi:Z0h M c ls Ts ph l o got) (hr:0 < c.room):
  Calls Tryz.prog 90 #[.pointer (some ⟨p.b,p.o,none⟩)] w fun e w'=>Y5o w0 w' p v bs M ph c l o got ls Ts Rs e:=by
 have k:w.cell? ⟨p.b,p.o+7,none⟩=some (.int .i64 (c.st:Int)):=F0 h 7 _ rfl
 have a:=hi.cell
 cases ph with
 | hd=>
  have f:=A5 (W03 h hi)
  rw [show c.st=0 from a] at k
  clear h hi hr a
  go_enter Tryz.func90,Tryz.ntmps90
  go_wp2_with fail
  with_reducible refine f.out.mono ?_
  rintro e m ⟨j,rfl,g⟩
  have i:=A5 g
  clear g f
  go_wp2
  go_ret
  exact ⟨j,rfl,i.out⟩
 | sz b=>
  have f:=A5 (W3n b h hi)
  rw [show c.st=1 from a.1] at k
  clear h hi hr a
  go_enter Tryz.func90,Tryz.ntmps90
  go_wp2_with fail
  with_reducible refine f.out.mono ?_
  rintro e m ⟨j,rfl,g⟩
  have i:=A5 g
  clear g f
  go_wp2
  go_ret
  exact ⟨j,rfl,i.out⟩
 | sto b n=>
  have f:=A5 (X4n b n h hi hr)
  rw [show c.st=2 from a.1] at k
  clear h hi hr a
  go_enter Tryz.func90,Tryz.ntmps90
  go_wp2_with fail
  with_reducible refine f.out.mono ?_
  rintro e m ⟨j,rfl,g⟩
  have i:=A5 g
  clear g f
  go_wp2
  go_ret
  exact ⟨j,rfl,i.out⟩
 | cnt b=>
  have f:=A5 (X7w b h hi)
  rw [show c.st=3 from a.1] at k
  clear h hi hr a
  go_enter Tryz.func90,Tryz.ntmps90
  go_wp2_with fail
  with_reducible refine f.out.mono ?_
  rintro e m ⟨j,rfl,g⟩
  have i:=A5 g
  clear g f
  go_wp2
  go_ret
  exact ⟨j,rfl,i.out⟩
 | thd b A B C=>
  have f:=A5 (W3h b A B C hG h hi)
  rw [show c.st=4 from a.1] at k
  clear h hi hr a
  go_enter Tryz.func90,Tryz.ntmps90
  go_wp2_with fail
  with_reducible refine f.out.mono ?_
  rintro e m ⟨j,rfl,g⟩
  have i:=A5 g
  clear g f
  go_wp2
  go_ret
  exact ⟨j,rfl,i.out⟩
 | len b A B head lx=>
  have f:=A5 (X5j b A B head lx hG h hi)
  rw [show c.st=5 from a.1] at k
  clear h hi hr a
  go_enter Tryz.func90,Tryz.ntmps90
  go_wp2_with fail
  with_reducible refine f.out.mono ?_
  rintro e m ⟨j,rfl,g⟩
  have i:=A5 g
  clear g f
  go_wp2
  go_ret
  exact ⟨j,rfl,i.out⟩
 | tok b lit dis=>
  have f:=A5 (W0q b lit dis h hi hr)
  rw [show c.st=6 from a.1] at k
  clear h hi hr a
  go_enter Tryz.func90,Tryz.ntmps90
  go_wp2_with fail
  with_reducible refine f.out.mono ?_
  rintro e m ⟨j,rfl,g⟩
  have i:=A5 g
  clear g f
  go_wp2
  go_ret
  exact ⟨j,rfl,i.out⟩
 | cop b lit dis n d=>
  have f:=A5 (W41 b lit dis n d h hi hr)
  rw [show c.st=7 from a.1] at k
  clear h hi hr a
  go_enter Tryz.func90,Tryz.ntmps90
  go_wp2_with fail
  with_reducible refine f.out.mono ?_
  rintro e m ⟨j,rfl,g⟩
  have i:=A5 g
  clear g f
  go_wp2
  go_ret
  exact ⟨j,rfl,i.out⟩
def X57 (c:DC):Bool:=decide (c.st=8∧c.en≠8)
theorem Y6n (h:A4 w0 w (J9 (J0 p c) v bs l::Rs)):
  Calls Tryz.prog 40 #[.pointer (some ⟨p.b,p.o,none⟩)] w fun e w'=>e= .returned (.bool (X57 c))∧w'=w:=by
 obtain ⟨wv,most,q,lv,g,r,left,s,hA,hB,hC,ht,hv,cl,cd,fl,fd,a⟩:=c
 have i:w.cell? ⟨p.b,p.o+7,none⟩=some (.int .i64 (g:Int)):=F0 h 7 _ rfl
 have d:w.cell? ⟨p.b,p.o+20,none⟩=some (.int .i64 (a:Int)):=F0 h 20 _ rfl
 unfold X57
 dsimp only
 clear h
 by_cases k:g=8
 ·subst k
  by_cases m:a=8
  ·subst m
   have j:w.cell? ⟨p.b,p.o+7,none⟩=some (.int .i64 8):=i
   have n:w.cell? ⟨p.b,p.o+20,none⟩=some (.int .i64 8):=d
   rw [show decide ((8:Nat)=8∧(8:Nat)≠8)=false from by decide]
   clear i d
   go_enter Tryz.func40,Tryz.ntmps40
   go_wp2
   go_ret
   exact ⟨rfl,rfl⟩
  have j:w.cell? ⟨p.b,p.o+7,none⟩=some (.int .i64 8):=i
  have t:((a:Int)==8)=false:=by simp;omega
  have x:¬(a:Int)=8:=by omega
  have y:((a:Int) != 8)=true:=by simp;omega
  have f:decide ((8:Nat)=8∧a≠8)=true:=by simp [m]
  rw [f]
  clear i m f
  go_enter Tryz.func40,Tryz.ntmps40
  go_wp2
  go_ret
  exact ⟨rfl,rfl⟩
 have z:((g:Int)==8)=false:=by simp;omega
 have a0:¬(g:Int)=8:=by omega
 have f:decide (g=8∧a≠8)=false:=by simp [k]
 rw [f]
 clear k f
 go_enter Tryz.func40,Tryz.ntmps40
 go_wp2
 go_ret
 exact ⟨rfl,rfl⟩
theorem Y7y {q:C4} (h:A4 w0 w (J9 q v bs l::Rs)):∃ (ao:Option Addr) (cap s cc:Nat) (bs1:List Nat),Y03 l bs1 s cc∧X7 w q [.slice ao bs1.length cap,.int .u64 (s:Int),.int .i64 (cc:Int)]∧A4 w0 w (J9 q (.slice ao bs1.length cap) bs1 l::Rs):=by
 obtain ⟨ao,n,cap,s,cc,a⟩:=Z1e h
 obtain ⟨bs1,b,d⟩:=W2f a.swap
 obtain ⟨g,f,e,_,_⟩:=d.own.form
 simp only [Value.slice.injEq] at e
 obtain ⟨_,rfl,_⟩:=e
 exact ⟨ao,cap,s,cc,bs1,b,a.objp,Z1r (Y1h b d).swap⟩
theorem X5o {q:C4} {bs1 l1:List Nat} {u:Value} {s cc:Nat} (hf:Y03 l bs1 s cc) (h:A4 w0 w (J9 q u bs1 l1::Rs)):A4 w0 (((w.setCell ⟨q.b,q.o,none⟩ u).setCell ⟨q.b,q.o+1,none⟩ (.int .u64 (s:Int))).setCell ⟨q.b,q.o+2,none⟩ (.int .i64 (cc:Int))) (J9 q u bs1 l::Rs):=by
 obtain ⟨i,n,f,j,k,g⟩:=Z1e h
 have a:=V0w g.swap
 have d:=((a.swap.setObjP0 u).setObjP 1 (.int .u64 (s:Int))).setObjP 2 (.int .i64 (cc:Int))
 exact Z1r (Y1h hf d.swap).swap
theorem W3d {q:C4} (h:A4 w0 w (J9 q v bs l::Rs)):A4 w0 (((w.setCell ⟨q.b,q.o,none⟩ (.slice none 0 0)).setCell ⟨q.b,q.o+1,none⟩ (.int .u64 0)).setCell ⟨q.b,q.o+2,none⟩ (.int .i64 0)) (J9 q (.slice none 0 0) [] []::Rs):=by
 obtain ⟨k,n,i,m,p,j⟩:=Z1e h
 have a:=((j.setObjP0 (.slice none 0 0)).setObjP 1 (.int .u64 0)).setObjP 2 (.int .i64 0)
 have d:=a.swap.drop.nil 5 1
 have f:Y03 [] [] 0 0:=⟨by decide,(fun b hb=>by cases hb),by decide,rfl⟩
 have g:A4 w0 _ (Y7g (.slice none 0 0) [] (.slice none 0 0) [] 0 0::_):=Y1h f d
 exact Z1r (s:=0) (c:=0) g.swap
def W7k (c:DC) (e:Nat):DC:=⟨.slice none 0 0,c.most,c.room,c.lv,8,false,0,0,0,0,0,none,.slice none 0 0,none,none,none,none,e⟩
theorem Y87 (er:Nat) (h:A4 w0 w (J9 (J0 p c) v bs l::Rs)):
  Calls Tryz.prog 91 #[.pointer (some ⟨p.b,p.o,none⟩),.int .i64 (er:Int)] w fun e w'=>e= .returned (.tuple #[])∧∃v' bs',A4 w0 w' (J9 (J0 p (W7k c er)) v' bs' (if er=8 then l else [])::Rs):=by
 obtain ⟨r,most,d,t,st,f,left,g,hA,hB,hC,ht,hv,cl,cd,fl,fd,en⟩:=c
 obtain ⟨x,k⟩:∃x,x=if er=8 then l else []:=⟨_,rfl⟩
 rw [←k]
 have m:=A5 k
 have c7:w.cell? ⟨p.b,p.o+7,none⟩=some (.int .i64 (st:Int)):=F0 h 7 _ rfl
 have y:w.cell? ⟨p.b,p.o+20,none⟩=some (.int .i64 (en:Int)):=F0 h 20 _ rfl
 have f7:w.frozen? ⟨p.b,p.o+7,none⟩=false:=Y4 h 7
 have z:w.frozen? ⟨p.b,p.o+20,none⟩=false:=Y4 h 20
 have h2:=Z2q (Z2q h 7 (.int .i64 8) ⟨r,most,d,t,8,f,left,g,hA,hB,hC,ht,hv,cl,cd,fl,fd,en⟩ rfl) 20 (.int .i64 (er:Int)) ⟨r,most,d,t,8,f,left,g,hA,hB,hC,ht,hv,cl,cd,fl,fd,er⟩ rfl
 have H2:=A5 h2
 clear h h2 k
 go_enter Tryz.func91,Tryz.ntmps91
 go_wp2_with (first
  | ((with_reducible show wpList _ _ _ (⟨none,.store 98 _ _,_,_,_,_⟩::_) _ _);go_must (refine K4 rfl 98 (.tmp 16) (.tmp 13) rfl H2.out 8 [.bool false,.int .i64 0,.int .i64 0,.int .i64 0,.int .i64 0,.int .i64 0,.pointer none,.slice none 0 0,.pointer none,.pointer none] rfl rfl (by kernel_rfl) rfl ⟨r,most,d,t,8,false,0,0,0,0,0,none,.slice none 0 0,none,none,fl,fd,er⟩ rfl ⟨by decide,Nat.le_of_ble_eq_true rfl⟩ ?_);intro w3 h3;have H3:=A5 h3;clear h3)
  | ((with_reducible show wpList _ _ _ (⟨none,.store 96 _ _,_,_,_,_⟩::_) _ _);go_must (refine K4 rfl 96 (.tmp 18) (.tmp 14) rfl H3.out 18 [.pointer none,.pointer none] rfl rfl (by kernel_rfl) rfl ⟨r,most,d,t,8,false,0,0,0,0,0,none,.slice none 0 0,none,none,none,none,er⟩ rfl ⟨by decide,Nat.le_of_ble_eq_true rfl⟩ ?_);intro w4 h4;have H4:=A5 h4;clear h4)
  | fail)
 have j:=A5 (X92 H4.out)
 dsimp only at j
 clear c7 y f7 z
 with_reducible refine j.out.mono ?_
 rintro e w5 ⟨rfl,h5⟩
 have H5:=A5 h5
 have n:=A5 (Y6n h5)
 clear h5 j
 go_wp2_with fail
 with_reducible refine n.out.mono ?_
 rintro e w6 ⟨rfl,rfl⟩
 clear n
 unfold X57
 dsimp only
 by_cases q:er=8
 ·subst q
  rw [show decide ((8:Nat)=8∧(8:Nat)≠8)=false from by decide]
  go_wp2
  go_end0
  have e:x=l:=by have h:=m.out;simpa using h
  exact ⟨rfl,v,bs,by rw [e];exact H5.out⟩
 rw [show decide ((8:Nat)=8∧er≠8)=true by simp [q]]
 have HE:Hid (x=[]):=A5 (m.out.trans (if_neg q))
 obtain ⟨ao,d1,s,cc,d2,hf,a,h7⟩:=Y7y H5.out
 have c0:=a.cell0 rfl
 have c1:=a.cell (i:=1) rfl
 have c2:=a.cell (i:=2) rfl
 have f0:=a.frozen0
 have f1:=a.frozen 1
 have f2:=a.frozen 2
 unfold J0 at c0 c1 c2 f0 f1 f2
 dsimp only at c0 c1 c2 f0 f1 f2
 clear hf a h7 q
 go_wp2
 go_end0
 exact ⟨rfl,.slice none 0 0,[],by rw [HE.out];exact W3d H5.out⟩
end
structure X1r (c:DC) (e:Nat) (l:List Nat):Prop where
 st:c.st=8
 en:c.en=e
 kind:e=2∨e=3∨e=6∨e=8
 bits:isBits l
 len:l.length < Y5
 left:e≠8→l=[]
inductive V3b (w0 w':World) (p:C4) (M:Nat) (ph:Ph) (c:DC) (l o got:List Nat) (ls:List Int) (Ts:List (List Int×Nat)) (Rs:List A6):Nat→Prop
 | go {c':DC} {v':Value} {bs' l' o' t:List Nat} {ls':List Int} {Ts':List (List Int×Nat)} {ph' p1:Ph} {l1 o1:List Nat} (H:A4 w0 w' (P8 p c' v' bs' l' o' (got++t) ls' Ts' Rs)) (hi:Z0h M c' ls' Ts' ph' l' o' (got++t))
   (hs:F9 M l o ph= .go p1 l1 o1) (hr:S8 M p1 l1 o1 ph' l' o') (ho:o'=o++t) (hroom:c'.room+t.length=c.room):V3b w0 w' p M ph c l o got ls Ts Rs 0
 | wait {v':Value} {bs':List Nat} (H:A4 w0 w' (P8 p c v' bs' l o got ls Ts Rs)) (hs:F9 M l o ph= .err 5):V3b w0 w' p M ph c l o got ls Ts Rs 5
 | fin {c':DC} {v':Value} {bs' l':List Nat} {Ts':List (List Int×Nat)} {e:Nat} (H:A4 w0 w' (P8 p c' v' bs' l' [] got [] Ts' Rs)) (hf:X1r c' e l') (hs:F9 M l o ph= .done l'∧e=8∨F9 M l o ph= .err e∧l'=[]) (hroom:c'.room=c.room):V3b w0 w' p M ph c l o got ls Ts Rs e
section
variable {w0 w:World} {Rs:List A6} {p:C4} {c:DC} {v:Value} {bs l o got:List Nat} {ls:List Int} {Ts:List (List Int×Nat)} {M:Nat}
theorem V0k (h:A4 w0 w (P8 p c v bs l o got ls Ts Rs)) (e:Nat) (hs:c.st=8) (he:c.en=e):
  Calls Tryz.prog 79 #[.pointer (some ⟨p.b,p.o,none⟩)] w fun e' w'=>e'= .returned (.int .i64 (e:Int))∧w'=w:=by
 have d:w.cell? ⟨p.b,p.o+7,none⟩=some (.int .i64 8):=by
  have:=F0 h 7 _ rfl
  rw [this,hs];rfl
 have a:w.cell? ⟨p.b,p.o+20,none⟩=some (.int .i64 (e:Int)):=by
  rw [←he];exact F0 h 20 _ rfl
 clear h hs he
 go_enter Tryz.func79,Tryz.ntmps79
 go_wp2
 go_ret
 exact ⟨rfl,rfl⟩
theorem X13 {b:Bool} {l o l':List Nat} (h:Z90 b l o= .done l'):l'=l:=by
 unfold Z90 at h
 split at h
 ·cases h;rfl
 cases h
theorem W5t {M:Nat} {ph:Ph} {l o l':List Nat} (hb:isBits l) (h:F9 M l o ph= .done l'):isBits l'∧l'.length≤l.length:=by
 have f:∀n,l'=l.drop n→isBits l'∧l'.length≤l.length:=fun n e=>by rw [e];exact ⟨F3 hb n,by rw [T02];omega⟩
 cases ph with
 | hd=>
  have a:hdM l o= .done l':=h
  unfold hdM at a
  split at a
  ·cases a
  split at a
  ·cases a
  split at a
  ·cases a
  split at a <;> cases a
 | sz b=>
  have a:szM b l o= .done l':=h
  unfold szM szR at a
  split at a
  ·cases a
  split at a <;> cases a
 | sto b n=>
  have a:Z46 M b n l o= .done l':=h
  unfold Z46 at a
  split at a
  ·exact f 0 (by rw [X13 a];rfl)
  split at a
  ·cases a
  split at a <;> cases a
 | cnt b=>
  have a:Z79 b l o= .done l':=h
  unfold Z79 at a
  split at a
  ·cases a
  split at a <;> cases a
 | thd b A B C=>
  have a:Z75 b A B C l o= .done l':=h
  unfold Z75 at a
  split at a
  ·cases a
  split at a <;> cases a
 | len b A B head ls=>
  have a:Z5f b A B head ls l o= .done l':=h
  unfold Z5f X56 at a
  split at a
  ·split at a <;> cases a
  split at a <;> cases a
 | tok b lit dist=>
  have a:Z5p M b lit dist l o (I7 lit l)= .done l':=h
  unfold Z5p at a
  split at a
  ·cases a
  split at a
  ·exact f _ (X13 a)
  split at a
  ·split at a <;> cases a
  split at a
  ·cases a
  unfold Y2n at a
  split at a
  ·cases a
  unfold X1p at a
  split at a
  ·cases a
  unfold Y4y at a
  split at a
  ·cases a
  split at a
  ·cases a
  split at a <;> cases a
 | cop b lit dist n d=>
  have a:Z4o M b lit dist n d l o= .done l':=h
  unfold Z4o at a
  split at a
  ·cases a
  split at a <;> cases a
theorem Y7k {c':DC} {v':Value} {bs' l':List Nat} {Ts':List (List Int×Nat)} (hw:c'.wv= .slice none 0 0) (hh:c'.hv= .slice none 0 0) {wv hv:Value} {n m:Nat} {xs ys:List Value}
  (h:A4 w0 w (J9 (J0 p c') v' bs' l'::B0 5 1 wv n xs::B0 5 1 c'.lv got.length (D9 got)::B0 3 1 hv m ys::Z27 Ts'::Rs)):A4 w0 w (P8 p c' v' bs' l' [] got [] Ts' Rs):=by
 unfold P8
 rw [hw,hh]
 have a:=Z3f h
 have b:=(a.swap.drop.nil 5 1).swap
 exact b
theorem X7b {ph:Ph} (h:PhC c ls Ts ph):c.st≠8:=by
 cases ph with
 | hd=>rw [show c.st=0 from h];decide
 | sz b=>rw [show c.st=1 from h.1];decide
 | sto b n=>rw [show c.st=2 from h.1];decide
 | cnt b=>rw [show c.st=3 from h.1];decide
 | thd b A B C=>rw [show c.st=4 from h.1];decide
 | len b A B head l=>rw [show c.st=5 from h.1];decide
 | tok b lit dist=>rw [show c.st=6 from h.1];decide
 | cop b lit dist n d=>rw [show c.st=7 from h.1];decide
theorem W97 (ph:Ph) (hG:Y9 w0) (h:A4 w0 w (P8 p c v bs l o got ls Ts Rs)) (hi:Z0h M c ls Ts ph l o got) (hr:0 < c.room):
  Calls Tryz.prog 79 #[.pointer (some ⟨p.b,p.o,none⟩)] w fun e w'=>∃er:Nat,e= .returned (.int .i64 (er:Int))∧V3b w0 w' p M ph c l o got ls Ts Rs er:=by
 have h8:=X7b hi.cell
 have d3:¬(c.st:Int)=8:=by omega
 have d4:((c.st:Int)==8)=false:=by simp;omega
 obtain ⟨k,g,s,r,a5,hf,d,h1⟩:=Y7y h
 obtain ⟨m,y⟩:∃n,n=a5.length:=⟨_,rfl⟩
 rw [←y] at d h1
 have z:=d.cell0 rfl
 have c1:=d.cell (i:=1) rfl
 have c2:=d.cell (i:=2) rfl
 unfold J0 at z c1 c2
 dsimp only at z c1 c2
 have c7:w.cell? ⟨p.b,p.o+7,none⟩=some (.int .i64 (c.st:Int)):=F0 h 7 _ rfl
 have h2:=h1.newObj [.slice k m g,.int .u64 (s:Int),.int .i64 (r:Int)] 86
 have q:A4 w0 (w.alloc (.cells #[.slice k m g,.int .u64 (s:Int),.int .i64 (r:Int)] 86)) (P8 p c (.slice k m g) a5 l o got ls Ts (E8 w.heap.size [.slice k m g,.int .u64 (s:Int),.int .i64 (r:Int)] 86::Rs)):=by
  unfold P8
  exact h2.perm (T00 (l₁:=[_,_,_,_,_])).symm
 have a2:=A5 (W7a ph hG q hi hr)
 have HF:=A5 hf
 have HI:=A5 hi
 have HN:=A5 y
 generalize c.st=st at*
 clear h h1 h2 q hi hf d hr h8 y
 go_enter Tryz.func79,Tryz.ntmps79
 go_wp2_with fail
 with_reducible refine a2.out.mono ?_
 rintro e w2 ⟨er,rfl,hR⟩
 clear a2 z c1 c2 c7
 cases hR with
 | go H hi j hr ho a=>
  rename_i c' l' o' t b5 Ts' e4 p1 l1 o1
  have x:=A5 (And.intro H (And.intro hi (And.intro j (And.intro hr (And.intro ho a)))))
  clear H hi j hr ho a
  go_wp2
  go_ret
  obtain ⟨H,hi,j,hr,ho,a⟩:=x.out
  exact ⟨0,rfl,.go (H.perm (T00 (l₁:=[_,_,_,_,_]))).drop hi j hr ho a⟩
 | over H j a=>
  rename_i c' l'
  have f:=Y87 8 H
  rw [show (((8:Nat)):Int)=8 from rfl,if_pos rfl] at f
  have f:=A5 f
  have x:=A5 (And.intro j a)
  clear H j a
  go_wp2_with fail
  with_reducible refine f.out.mono ?_
  rintro e w3 ⟨rfl,v',b6,q⟩
  have H3:=A5 (Y7k (Rs:=E8 w.heap.size [.slice k m g,.int .u64 (s:Int),.int .i64 (r:Int)] 86::Rs) (c':=W7k c' 8) rfl rfl q)
  clear q f
  go_wp2
  go_ret
  obtain ⟨hb,hl⟩:=W5t HI.out.ok.bits x.out.1
  exact ⟨8,rfl,.fin (c':=W7k c' 8) (H3.out.perm (T00 (l₁:=[_,_,_,_,_]))).drop ⟨rfl,rfl,by decide,hb,Nat.lt_of_le_of_lt hl HI.out.len,fun h=>absurd rfl h⟩ (.inl ⟨x.out.1,rfl⟩) x.out.2.1⟩
 | bad H j h5 a=>
  rename_i c' l' b5 Ts'
  by_cases h:er=5
  ·subst h
   obtain ⟨rfl,rfl,rfl⟩:=h5 rfl
   have b0:=(H.at6:A4 w0 w2 (E8 w.heap.size [.slice k m g,.int .u64 (s:Int),.int .i64 (r:Int)] 86::_)).obj.cell (i:=0) rfl
   have b1:=(H.at6:A4 w0 w2 (E8 w.heap.size [.slice k m g,.int .u64 (s:Int),.int .i64 (r:Int)] 86::_)).obj.cell (i:=1) rfl
   have b2:=(H.at6:A4 w0 w2 (E8 w.heap.size [.slice k m g,.int .u64 (s:Int),.int .i64 (r:Int)] 86::_)).obj.cell (i:=2) rfl
   obtain ⟨a3,n3,d0,s3,e8,h6⟩:=Z1e H
   have d:=h6.objp
   have z:=d.cell0 rfl
   have c1:=d.cell (i:=1) rfl
   have c2:=d.cell (i:=2) rfl
   have f0:=d.frozen0
   have f1:=d.frozen 1
   have f2:=d.frozen 2
   unfold J0 at z c1 c2 f0 f1 f2
   dsimp only at z c1 c2 f0 f1 f2
   have H7:=A5 (X5o HF.out H)
   have HS:=A5 j
   unfold J0 at H7
   dsimp only at H7
   clear H j h5 a h6 d
   go_wp2
   go_ret
   exact ⟨5,rfl,.wait (H7.out.perm (T00 (l₁:=[_,_,_,_,_]))).drop HS.out⟩
  have hk:=V1 j
  have hz:er≠0:=by omega
  have d9:((er:Int)==0)=false:=by simp;omega
  have e0:((er:Int)==5)=false:=by simp;omega
  have e1:¬(er:Int)=0:=by omega
  have e2:¬(er:Int)=5:=by omega
  have a4:er≠8:=by omega
  have f:=Y87 er H
  rw [if_neg a4] at f
  have f:=A5 f
  have x:=A5 (And.intro j (And.intro a (And.intro hk h)))
  clear H j h5 a h hk hz a4
  go_wp2_with fail
  with_reducible refine f.out.mono ?_
  rintro e w3 ⟨rfl,v',b6,q⟩
  have H3:=A5 (Y7k (Rs:=E8 w.heap.size [.slice k m g,.int .u64 (s:Int),.int .i64 (r:Int)] 86::Rs) (c':=W7k c' er) rfl rfl q)
  clear q f
  go_wp2
  go_ret
  obtain ⟨j,a,hk,h5⟩:=x.out
  exact ⟨er,rfl,.fin (c':=W7k c' er) (H3.out.perm (T00 (l₁:=[_,_,_,_,_]))).drop ⟨rfl,rfl,by omega,(fun b hb=>by cases hb),by decide,(fun _=>rfl)⟩ (.inr ⟨j,rfl⟩) a.1⟩
end
inductive DSt where
 | run (ph:Ph) (l o:List Nat)
 | fin (e:Nat) (l:List Nat)
structure W3l where
 c:DC
 v:Value
 bs:List Nat
 ls:List Int
 Ts:List (List Int×Nat)
def DSt.l:DSt→List Nat
 | .run _ l _=>l
 | .fin _ l=>l
def DSt.o:DSt→List Nat
 | .run _ _ o=>o
 | .fin _ _=>[]
def Y7a (c:DC):DC:={c with room:=0}
def W2g (M:Nat) (x:W3l):DSt→Prop
 | .run ph l o=>Z0h M (Y7a x.c) x.ls x.Ts ph l o []
 | .fin e l=>X1r x.c e l∧x.ls=[]
def V6j (p:C4) (x:W3l) (s:DSt):List A6:=P8 p x.c x.v x.bs s.l s.o [] x.ls x.Ts []
def Z20 (p:C4) (M:Nat) (s:DSt):A6:=exT fun x:W3l=>Y46 (W2g M x s) (Z0g (V6j p x s))
section
variable {w0 w:World} {Rs:List A6} {p:C4} {M:Nat}
theorem Z65 {s:DSt} (h:A4 w0 w (Z20 p M s::Rs)):∃x:W3l,W2g M x s∧A4 w0 w (P8 p x.c x.v x.bs s.l s.o [] x.ls x.Ts Rs):=by
 obtain ⟨x,a⟩:=h.ex
 obtain ⟨b,d⟩:=a.fact
 exact ⟨x,b,d.unall⟩
theorem Z48 {s:DSt} (x:W3l) (hf:W2g M x s) (h:A4 w0 w (P8 p x.c x.v x.bs s.l s.o [] x.ls x.Ts Rs)):A4 w0 w (Z20 p M s::Rs):=
 A4.mk (R:=fun x:W3l=>Y46 (W2g M x s) (Z0g (V6j p x s))) x (A4.mkFact hf (A4.all (L:=V6j p x s) h))
theorem V1h {c:DC} {ls:List Int} {Ts:List (List Int×Nat)} {ph:Ph} {r:Int} (h:PhC c ls Ts ph):PhC {c with room:=r} ls Ts ph:=by
 cases ph <;> exact h
theorem Z0h.room2 {c:DC} {ls:List Int} {Ts:List (List Int×Nat)} {ph:Ph} {l o got:List Nat} {r:Int} (h:Z0h M c ls Ts ph l o got) (h1:0≤r) (h2:r≤9223372036854775807):Z0h M {c with room:=r} ls Ts ph l o got:=
 ⟨V1h h.cell,h.fx,h.ok,h.most,h.big,h.len,h.got,h1,h2⟩
theorem Z0h.lv {c:DC} {ls:List Int} {Ts:List (List Int×Nat)} {ph:Ph} {l o got:List Nat} {u:Value} (h:Z0h M c ls Ts ph l o got):Z0h M (Y7a {c with lv:=u}) ls Ts ph l o []:=
 ⟨by have:=h.cell;cases ph <;> exact this,h.fx,h.ok,h.most,h.big,h.len,Nat.zero_le _,(show (0:Int)≤0 by decide),(show (0:Int)≤9223372036854775807 by decide)⟩
theorem W1m {ph ph':Ph} {l o l' o':List Nat} (h:MOk ph l o) (hs:F9 M l o ph= .go ph' l' o'):(mu ph' l':Int)-2*o'.length < (mu ph l:Int)-2*o.length:=by
 obtain ⟨⟨_,_,t,b,_,_⟩,a⟩:=X69 h.bits h.byt h.ph hs
 have d:o'.length=o.length+t.length:=by rw [b,T03]
 rcases a with a | ⟨a,he⟩ <;> omega
theorem V13 {ph ph':Ph} {l o l' o':List Nat} (h:MOk ph l o) (hr:S8 M ph l o ph' l' o'):(mu ph' l':Int)-2*o'.length≤(mu ph l:Int)-2*o.length:=by
 induction hr with
 | refl=>exact Int.le_refl _
 | step hs _ ih=>
  have a:=W1m h hs
  have b:=ih (h.step hs).1
  omega
inductive Z29 (M:Nat) (ph:Ph) (l o:List Nat) (n:Int):List Nat→Nat→DSt→Prop
 | full {ph':Ph} {l' t:List Nat} (ht:(t.length:Int)=max n 0) (hr:S8 M ph l o ph' l' (o++t)):Z29 M ph l o n t 0 (.run ph' l' (o++t))
 | wait {ph':Ph} {l' t:List Nat} (ht:(t.length:Int) < n) (hr:S8 M ph l o ph' l' (o++t)) (hs:F9 M l' (o++t) ph'= .err 5):Z29 M ph l o n t 5 (.run ph' l' (o++t))
 | fin {ph':Ph} {l' l2 t:List Nat} {e er:Nat} (ht:(t.length:Int) < n) (hr:S8 M ph l o ph' l' (o++t)) (hs:F9 M l' (o++t) ph'= .done l2∧e=8∨F9 M l' (o++t) ph'= .err e∧l2=[]) (h5:e≠5)
   (her:er=if t=[] then e else 5):Z29 M ph l o n t er (.fin e l2)
inductive W7j (w0 wr:World) (p:C4) (M:Nat) (ph0:Ph) (l0 o0:List Nat) (n:Nat) (Rs:List A6) (gg:Nat):Nat→Prop
 | on {c:DC} {v:Value} {bs l t:List Nat} {ls:List Int} {Ts:List (List Int×Nat)} {ph:Ph} (H:A4 w0 wr (P8 p c v bs l (o0++t) t ls Ts Rs)) (hi:Z0h M c ls Ts ph l (o0++t) t) (hr:S8 M ph0 l0 o0 ph l (o0++t)) (hroom:c.room+t.length=n)
   (hg:mu ph l+2*c.room.toNat+1 < gg):W7j w0 wr p M ph0 l0 o0 n Rs gg 0
 | wait {c:DC} {v:Value} {bs l t:List Nat} {ls:List Int} {Ts:List (List Int×Nat)} {ph:Ph} (H:A4 w0 wr (P8 p c v bs l (o0++t) t ls Ts Rs)) (hi:Z0h M c ls Ts ph l (o0++t) t) (hr:S8 M ph0 l0 o0 ph l (o0++t)) (hroom:c.room+t.length=n) (h0:0 < c.room)
   (hs:F9 M l (o0++t) ph= .err 5) (hg:0 < gg):W7j w0 wr p M ph0 l0 o0 n Rs gg 5
 | fin {c:DC} {v:Value} {bs l l2 t:List Nat} {Ts:List (List Int×Nat)} {ph:Ph} {e:Nat} (H:A4 w0 wr (P8 p c v bs l2 [] t [] Ts Rs)) (hf:X1r c e l2) (hr:S8 M ph0 l0 o0 ph l (o0++t)) (ht:t.length < n)
   (hs:F9 M l (o0++t) ph= .done l2∧e=8∨F9 M l (o0++t) ph= .err e∧l2=[]) (hg:0 < gg):W7j w0 wr p M ph0 l0 o0 n Rs gg e
theorem Y16 {c:DC} {v:Value} {bs l o got:List Nat} {ls:List Int} {Ts:List (List Int×Nat)} (h:A4 w0 w (P8 p c v bs l o got ls Ts Rs)):
  Calls Tryz.prog 80 #[.pointer (some ⟨p.b,p.o+3,none⟩)] w fun e w'=>e= .returned c.lv∧A4 w0 w' (B0 5 1 c.lv got.length (D9 got)::P8 p {c with lv:= .slice none 0 0} v bs l o [] ls Ts Rs):=by
 refine (W5h got got.length (h.perm (List.Perm.cons _ (List.Perm.swap _ _ _)))).mono ?_
 rintro e w' ⟨rfl,f⟩
 refine ⟨rfl, ?_⟩
 have d:=f.swap.nil 5 1
 exact d.perm (T00 (l₁:=[_,_,_]) (a:=B0 5 1 (.slice none 0 0) 0 [])).symm
theorem Z5r {R1 R2 R3 R4 R5 R6:A6} (h:A4 w0 w (R6::R1::R2::R3::R4::R5::Rs)):A4 w0 w (R1::R2::R3::R4::R5::R6::Rs):=h.perm (T00 (l₁:=[_,_,_,_,_])).symm
theorem X1r.lv {c:DC} {e:Nat} {l:List Nat} {u:Value} (h:X1r c e l):X1r {c with lv:=u} e l:=⟨h.st,h.en,h.kind,h.bits,h.len,h.left⟩
theorem W8v (ph0:Ph) (l0 o0:List Nat) (n:Nat) (hn:0 < n) (hn2:n≤9223372036854775807) (hG:Y9 w0) (h:A4 w0 w (Z20 p M (.run ph0 l0 o0)::Rs)):
  Calls Tryz.prog 68 #[.pointer (some ⟨p.b,p.o,none⟩),.int .i64 (n:Int)] w fun e w'=>∃ (x:Value) (t:List Nat) (er:Nat) (s':DSt),e= .returned (.tuple #[x,.int .i64 (er:Int)])∧Z29 M ph0 l0 o0 n t er s'∧
   A4 w0 w' (B0 5 1 x t.length (D9 t)::Z20 p M s'::Rs):=by
 obtain ⟨x,a7,h1⟩:=Z65 h
 obtain ⟨c,v,bs,ls,Ts⟩:=x
 have c5:w.cell? ⟨p.b,p.o+3+2,none⟩=some (.int .i64 c.room):=F0 h1 5 _ rfl
 have f5:w.frozen? ⟨p.b,p.o+3+2,none⟩=false:=Y4 h1 5
 have h2:=Z2q h1 5 (.int .i64 (n:Int)) {c with room:=(n:Int)} rfl
 have k:Z0h M {c with room:=(n:Int)} ls Ts ph0 l0 o0 []:=(show Z0h M (Y7a c) ls Ts ph0 l0 o0 [] from a7).room2 (by omega) (by omega)
 have b1:Hid (W7j w0 (w.setCell ⟨p.b,p.o+3+2,none⟩ (.int .i64 (n:Int))) p M ph0 l0 o0 n Rs (mu ph0 l0+2*n+2) 0):=by
  refine A5 (.on (c:={c with room:=(n:Int)}) (v:=v) (bs:=bs) (l:=l0) (t:=[]) (ls:=ls) (Ts:=Ts) (ph:=ph0) ?_ ?_ ?_ ?_ ?_)
  ·rw [T05];exact h2
  ·rw [T05];exact k
  ·rw [T05];exact .refl
  ·simp
  show mu ph0 l0+2*((n:Int)).toNat+1 < _
  omega
 clear h h1 h2 k a7
 go_enter Tryz.func68,Tryz.ntmps68
 go_wp2
 go_loopg [6] (mu ph0 l0+2*n+2) (fun gg t6 wr=>∃er:Nat,t6= .int .i64 (er:Int)∧Hid (W7j w0 wr p M ph0 l0 o0 n Rs gg er))
 case atStart=>exact ⟨0,rfl,b1⟩
 case round=>
  obtain ⟨er,rfl,HT⟩:=hrel
  have hT:=HT.out
  cases hT with
  | on H hi y d hg=>
   rename_i c v bs l t ls Ts ph
   have c5:wr.cell? ⟨p.b,p.o+3+2,none⟩=some (.int .i64 c.room):=F0 H 5 _ rfl
   by_cases h0:0 < c.room
   ·have HS:=A5 (W97 ph hG H hi h0)
    clear H HT
    go_wp2_with fail
    with_reducible refine HS.out.mono ?_
    rintro e m ⟨er,rfl,ho⟩
    have HO:=A5 ho
    clear ho HS
    go_wp2
    go_roundg (gk-1)
    case measure=>omega
    case rel=>
     refine ⟨er,rfl,A5 ?_⟩
     have ho:=HO.out
     cases ho with
     | go H k q hr2 ho hroom2=>
      subst ho
      have hm:=W1m hi.ok q
      have a5:=V13 (hi.ok.step q).1 hr2
      have c0:=k.room
      rw [List.append_assoc] at H k hr2 a5
      refine .on H k (y.trans (.step q hr2)) (by rw [T03];omega) ?_
      simp only [T03] at hm a5
      omega
     | wait H q=>exact .wait H hi y d h0 q (by omega)
     | fin H hf q hroom2=>exact .fin H hf y (by omega) q (by omega)
   have hz:c.room=0:=by have:=hi.room;omega
   obtain ⟨ao,r,z,_,_⟩:=H.third.own.form
   have i:=A5 (Y16 H)
   rw [z] at i
   have j:=A5 (And.intro hi (And.intro y d))
   clear H HT hi y
   go_wp2_with fail
   with_reducible refine i.out.mono ?_
   rintro e m ⟨rfl,f⟩
   have H4:=A5 f
   clear f i
   go_wp2
   go_ret2
   exact ⟨_,t,0,.run ph l (o0++t),rfl,.full (by have:=j.out.2.2;omega) j.out.2.1,(Z48 (s:= .run ph l (o0++t)) ⟨{c with lv:= .slice none 0 0},v,bs,ls,Ts⟩ j.out.1.lv (Z5r H4.out)).swap⟩
  | wait H hi y d h0 q hg=>
   rename_i c v bs l t ls Ts ph
   obtain ⟨ao,r,z,_,_⟩:=H.third.own.form
   have i:=A5 (Y16 H)
   rw [z] at i
   have j:=A5 (And.intro hi (And.intro y (And.intro q (And.intro d h0))))
   clear H HT hi y q
   have g:∀m,A4 w0 m (B0 5 1 (.slice ao t.length r) t.length (D9 t)::P8 p {c with lv:= .slice none 0 0} v bs l (o0++t) [] ls Ts Rs)→∃ (x:Value) (t':List Nat) (er:Nat) (s':DSt),(Ending.returned (.tuple #[.slice ao t.length r,.int .i64 5]))= .returned (.tuple #[x,.int .i64 (er:Int)])∧Z29 M ph0 l0 o0 n t' er s'∧A4 w0 m (B0 5 1 x t'.length (D9 t')::Z20 p M s'::Rs):=fun m f=>
    ⟨_,t,5,.run ph l (o0++t),rfl,.wait (by have:=j.out.2.2.2;omega) j.out.2.1 j.out.2.2.1,(Z48 (s:= .run ph l (o0++t)) ⟨{c with lv:= .slice none 0 0},v,bs,ls,Ts⟩ j.out.1.lv (Z5r f)).swap⟩
   have HF:=A5 g
   clear g
   by_cases hl:(0:Int) < (t.length:Int)
   ·go_wp2_with fail
    with_reducible refine i.out.mono ?_
    rintro e m ⟨rfl,f⟩
    have H4:=A5 f
    clear f i
    go_wp2
    go_ret2
    exact HF.out _ H4.out
   go_wp2_with fail
   with_reducible refine i.out.mono ?_
   rintro e m ⟨rfl,f⟩
   have H4:=A5 f
   clear f i
   go_wp2
   go_ret2
   exact HF.out _ H4.out
  | fin H hf y ht q hg=>
   rename_i c v bs l l2 t Ts ph
   obtain ⟨ao,r,z,_,_⟩:=H.third.own.form
   have i:=A5 (Y16 H)
   rw [z] at i
   have hz:er≠0:=by have:=hf.kind;omega
   have h5:er≠5:=by have:=hf.kind;omega
   have c3:((er:Int)==0)=false:=by simp;omega
   have c4:¬(er:Int)=0:=by omega
   have c6:((er:Int) != 0)=true:=by simp;omega
   have j:=A5 (And.intro hf (And.intro y (And.intro q (And.intro ht h5))))
   clear H HT hf y q
   have g:∀m (er':Nat),er'=(if t=[] then er else 5)→A4 w0 m (B0 5 1 (.slice ao t.length r) t.length (D9 t)::P8 p {c with lv:= .slice none 0 0} v bs l2 [] [] [] Ts Rs)→∃ (x:Value) (t':List Nat) (er2:Nat) (s':DSt),(Ending.returned (.tuple #[.slice ao t.length r,.int .i64 (er':Int)]))= .returned (.tuple #[x,.int .i64 (er2:Int)])∧Z29 M ph0 l0 o0 n t' er2 s'∧A4 w0 m (B0 5 1 x t'.length (D9 t')::Z20 p M s'::Rs):=fun m er' he f=>
    ⟨_,t,er',.fin er l2,rfl,.fin (by have:=j.out.2.2.2.1;omega) j.out.2.1 j.out.2.2.1 j.out.2.2.2.2 he,(Z48 (s:= .fin er l2) ⟨{c with lv:= .slice none 0 0},v,bs,[],Ts⟩ ⟨j.out.1.lv,rfl⟩ (Z5r f)).swap⟩
   have HF:=A5 g
   clear g
   by_cases hn:t=[]
   ·have hl:¬(0:Int) < (t.length:Int):=by rw [hn];decide
    replace hn:=A5 hn
    go_wp2_with fail
    with_reducible refine i.out.mono ?_
    rintro e m ⟨rfl,f⟩
    have H4:=A5 f
    clear f i
    go_wp2
    go_ret2
    exact HF.out _ er (by rw [if_pos hn.out]) H4.out
   have hl:(0:Int) < (t.length:Int):=by
    cases t with
    | nil=>exact absurd rfl hn
    | cons a b=>simp only [T04];omega
   go_wp2_with fail
   with_reducible refine i.out.mono ?_
   rintro e m ⟨rfl,f⟩
   have H4:=A5 f
   clear f i
   go_wp2
   go_ret2
   exact HF.out _ 5 (by rw [if_neg hn]) H4.out
end
end Go.Proofs.YtbkbkmgogbgofaaGreatDoor
