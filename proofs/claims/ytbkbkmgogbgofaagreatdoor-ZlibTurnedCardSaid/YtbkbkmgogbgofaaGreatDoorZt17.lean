/- The claim's texts, put together and shortened by a program (names, spaces). -/
import Derived.Test.YtbkbkmgogbgofaaGreatDoorZt16
import Derived.Test.YtbkbkmgogbgofaaGreatDoorZt14
open List renaming length_append→T01,append_nil→T02,length_drop→T03,mem_cons_of_mem→T05,length→T06,take_of_length_le→T07,mem_cons_self→T08
open Nat renaming zero_le→T00,le_refl→T04
namespace Go.Proofs.YtbkbkmgogbgofaaGreatDoor
set_option maxRecDepth 100000
set_option maxHeartbeats 6400000
open Go.RowKit
abbrev Y22 (B:Nat):D0:= .whole B 100
def Z82 (M n:Nat):DSt→List Nat→Nat→DSt→Prop
 | .run ph l o,t,er,s'=>Z2d M ph l o (n:Int) t er s'
 | .fin e l,t,er,s'=>t=[]∧er=e∧s'= .fin e l
section
variable {w0 w:World} {Rs:List A6} {M n er:Nat} {s s':DSt} {t:List Nat}
theorem X9a {p:D0} {ph:Ph} {l o:List Nat} (h:A4 w0 w (Z27 p M (.run ph l o)::Rs)):o.length≤M∧MOk ph l o∧l.length < Y6:=by
 obtain ⟨x,b,_⟩:=Z5u h
 have a:Z0f M (Y84 x.c) x.ls x.Ts ph l o []:=b
 have:=a.most
 exact ⟨by omega,a.ok,a.len⟩
theorem X4g {p:D0} {e:Nat} {l:List Nat} (h:A4 w0 w (Z27 p M (.fin e l)::Rs)):(e=2∨e=3∨e=6∨e=8)∧isBits l∧l.length < Y6:=by
 obtain ⟨x,b,_⟩:=Z5u h
 have a:=(show X2c x.c e l∧x.ls=[] from b).1
 exact ⟨a.kind,a.bits,a.len⟩
theorem W4g {p:D0} (hn:0 < n) (hn2:n≤9223372036854775807) (hG:X7 w0) (h:A4 w0 w (Z27 p M s::Rs)):
  Calls Tryz.prog 68 #[.pointer (some ⟨p.b,p.o,none⟩),.int .i64 (n:Int)] w fun e w'=>∃ (x:Value) (t:List Nat) (er:Nat) (s':DSt),e= .returned (.tuple #[x,.int .i64 (er:Int)])∧Z82 M n s t er s'∧
   A4 w0 w' (B0 5 1 x t.length (D7 t)::Z27 p M s'::Rs):=by
 cases s with
 | run ph l o=>exact V0h ph l o n hn hn2 hG h
 | fin e l=>
  refine (V1m e l n hn h).mono ?_
  rintro d w' ⟨x,rfl,a⟩
  exact ⟨x,[],e,_,rfl,⟨rfl,rfl,rfl⟩,a⟩
theorem Z82.short (h:Z82 M n s t er s') (hn:0 < n):t.length≤n:=by
 cases s with
 | fin e l=>rw [h.1];exact T00 _
 | run ph l o=>
  have h:Z2d M ph l o (n:Int) t er s':=h
  cases h with
  | full h _=>omega
  | wait h _ _=>omega
  | fin h _ _ _ _=>omega
theorem Z82.none (h:Z82 M n s [] er s') (hn:0 < n):(er=5∧∃ph l o,s'= .run ph l o∧F8 M l o ph= .err 5)∨∃l,s'= .fin er l:=by
 cases s with
 | fin e l=>obtain ⟨_,rfl,rfl⟩:=h;exact .inr ⟨l,rfl⟩
 | run ph l o=>
  have h:Z2d M ph l o (n:Int) [] er s':=h
  cases h with
  | full ht _=>
   have a:(([]:List Nat).length:Int)=0:=rfl
   omega
  | wait _ hr hs=>exact .inl ⟨rfl,_,_,_,rfl,hs⟩
  | fin _ _ _ _ her=>rw [if_pos rfl] at her;subst her;exact .inr ⟨_,rfl⟩
def X7g (cl:Bool) (M:Nat) (o:List Nat):DSt→List Nat→Nat→Prop
 | .run ph l ob,out,e=>ob=o∧X29 cl M ph l o out e
 | .fin e0 l,out,e=>W9e cl e0 l o out e
theorem Z82.come {cl:Bool} {o out:List Nat} {e:Nat} (h:Z82 M n s t er s') (hc:X7g cl M o s out e) (hm:∀ph l ob,s= .run ph l ob→MOk ph l ob):∃out',out=t++out'∧X7g cl M (o++t) s' out' e:=by
 cases s with
 | fin e0 l=>
  obtain ⟨rfl,rfl,rfl⟩:=h
  refine ⟨out,rfl, ?_⟩
  rw [T02]
  exact hc
 | run ph l ob=>
  obtain ⟨rfl,hc⟩:=hc
  have h:Z2d M ph l ob (n:Int) t er s':=h
  have hm:=hm ph l ob rfl
  cases h with
  | full _ hr=>obtain ⟨out',b,a⟩:=hc.on hm hr;exact ⟨out',b,rfl,a⟩
  | wait _ hr _=>obtain ⟨out',b,a⟩:=hc.on hm hr;exact ⟨out',b,rfl,a⟩
  | fin _ hr hs _ _=>
   obtain ⟨out',b,a⟩:=hc.on hm hr
   refine ⟨out',b, ?_⟩
   rcases hs with ⟨hs,rfl⟩ | ⟨hs,rfl⟩
   ·exact a.done hs
   exact (a.err hs).1
theorem X5a (l:List Nat) (a b:Nat):((D7 l).drop (a*1)).take (b*1)=D7 ((l.drop a).take b):=by
 simp only [Nat.mul_one,D7,List.map_drop,List.map_take]
theorem Y37 (ao:Option Addr) (n cap a m:Nat) (ai:Int) (hai:ai=(a:Int)) (l:List Nat) (hn:n=l.length) (hnc:n≤cap) (hm:m+a=n) (hv:∀wg,A4 w0 wg Rs→Rd wg 1 (.slice ao n cap) n (D7 l)):
  ∃a1 c1,m≤c1∧(∀wg,(Instr.sliceAt 26 (.slice ao n cap) (some (.int .i64 ai)) none none).run Tryz.prog wg= .ok (.slice a1 m c1) wg)∧∀wg,A4 w0 wg Rs→Rd wg 1 (.slice a1 m c1) m (D7 (l.drop a)):=by
 obtain ⟨i,d,j,f,k⟩:=info_parts Z0u
 obtain ⟨a1,b⟩:∃a1,sliced ao a n cap 1= .slice a1 (n-a) (cap-a):=⟨_,rfl⟩
 subst hai
 obtain rfl:m=n-a:=by omega
 refine ⟨a1,cap-a,by omega,fun wg=> ?_,fun wg h=> ?_⟩
 ·rw [←b]
  exact N8 (P:=Tryz.prog) (w:=wg) 26 5 i 1 Tryz.underlying26 d f ao n cap a n (some (.int .i64 (a:Int))) none ⟨_,rfl⟩ rfl (by omega) (by omega)
 have g:=(hv wg h).cut (L:=a) (H:=n) (by omega) (T04 _)
 rw [X5a,b,T07 (by rw [T03];omega)] at g
 exact g
theorem Own.siteZ {e:TypeId} {ao:Option Addr} {cap k:Nat} {xs:List Value} (h:Own w e 1 (.slice ao k cap) k xs) (hk:0 < k):
  ∃g off,ao=some ⟨g,off,none⟩∧∀j u,xs[j]?=some u→w.cell? ⟨g,off+j,none⟩=some u:=by
 rcases h.2 with ⟨hv,h0⟩ | ⟨g,off,cap',cur,hv,hg,hnc,hc,hsz,hcur⟩
 ·omega
 simp only [Value.slice.injEq,true_and] at hv
 obtain ⟨rfl,rfl⟩:=hv
 exact ⟨g,off,rfl,fun j u hu=>by rw [cell_of_row w g _ cur e (0,0) hg];exact hcur j u hu⟩
end
section
variable {w0 w:World} {Rs:List A6} {D:Nat} {l:List Nat} {iv:Value} {cl:Bool} {most er sm:Nat}
def X0k (w0 w':World) (Rs:List A6) (D:Nat) (l:List Nat) (iv:Value) (cl:Bool) (most er sm:Nat) (e:Ending):Prop:=
 e= .returned (.int .i64 (zhd l:Nat))∧
  (
  (zhd l=5∧A4 w0 w' (zdT D iv cl most 0 er none sm::B0 5 1 iv l.length (D7 l)::Rs))∨
  (zhd l=2∧A4 w0 w' (zdT D (.slice none 0 0) cl most 4 2 none sm::Rs))∨
  (zhd l=0∧∃B,A4 w0 w' (zdT D (.slice none 0 0) cl most 1 er (some ⟨B,0,none⟩) 1::Z27 (Y22 B) most (.run .hd (D6 (l.drop 2)) [])::Rs)))
theorem X03 (h:A4 w0 w (zdT D iv cl most 0 er none sm::B0 5 1 iv l.length (D7 l)::Rs)) (hb:∀b∈l,b < 256) (hl:l.length < 1000000) (hm:most < Y6):
  Calls Tryz.prog 42 #[.pointer (some ⟨D,0,none⟩)] w fun e w'=>X0k w0 w' Rs D l iv cl most er sm e:=by
 have hF:=Z62 2 2 rfl h
 obtain ⟨ao,s,rfl,i,_⟩:=h.drop.own.form
 have c0:=F6 h 0 _ rfl
 cases l with
 | nil=>
  have H:=A5 h
  clear h hF hb
  go_enter Tryz.func42,Tryz.ntmps42
  go_wp2
  go_ret
  exact ⟨rfl,.inl ⟨by trivial,H.out⟩⟩
 | cons a r=>
  obtain ⟨g,q,rfl,f⟩:=h.drop.own.siteZ (Nat.succ_pos _)
  have e0:w.cell? ⟨g,q,none⟩=some (.int .u8 (a:Int)):=f 0 _ rfl
  have ha:a < 256:=hb a (T08 ..)
  have y:=A5 hF
  have H1:=fun w=>A5 (V15 (w:=w) a ha)
  obtain ⟨n,t⟩:∃n,n=(a::r).length:=⟨_,rfl⟩
  have j:n=r.length+1:=t
  have d3:(0:Int) < (n:Int):=by omega
  rw [←t] at h c0 hl i
  have d:Z5d a=true∨Z5d a=false:=by cases Z5d a <;> simp
  rcases d with d | d
  ·rw [d] at H1
   cases r with
   | nil=>
    have b9:(n:Int) < 2:=by have:n=1:=j;omega
    have z:Hid (zhd [a]=5):=A5 (by show (if Z5d a=true then 5 else 2)=5;rw [d];rfl)
    have H:=A5 h
    have HN:=A5 t
    unfold X0k
    rw [z.out,←t]
    clear h hF hb d t j f i hl ha
    go_enter Tryz.func42,Tryz.ntmps42
    go_wp2_with fail
    with_reducible refine (H1 _).out.mono ?_
    rintro e w2 ⟨rfl,rfl⟩
    go_wp2
    go_ret
    exact ⟨rfl,.inl ⟨by trivial,H.out⟩⟩
   | cons b r=>
    have e1:w.cell? ⟨g,q+1,none⟩=some (.int .u8 (b:Int)):=f 1 _ rfl
    have a0:b < 256:=hb b (T05 _ (T08 ..))
    have b9:¬(n:Int) < 2:=by have:n=r.length+1+1:=j;omega
    have d4:(1:Int) < (n:Int):=by have:n=r.length+1+1:=j;omega
    have H2:=fun w=>A5 (W75 (w:=w) a b ha a0)
    have o:Z8v a b=true∨Z8v a b=false:=by cases Z8v a b <;> simp
    rcases o with o | o
    ·rw [o] at H2
     have z:Hid (zhd (a::b::r)=0):=A5 (by show (if (Z5d a && Z8v a b)=true then 0 else 2)=_;rw [d,o];rfl)
     have c2:=F6 h 2 _ rfl
     have HN:=A5 (fun k=>V0b (most:Int) hm (by omega) (h.drewN k))
     have a6:(∀x∈r,x < 256)∧n=(a::b::r).length∧r.length < 100000000:=⟨fun x hx=>hb x (T05 _ (T05 _ hx)),t,by have:n=r.length+1+1:=j;omega⟩
     have HX:=A5 a6
     obtain ⟨m,c5⟩:∃m,m+2=n:=⟨n-2,by omega⟩
     have a7:m=r.length:=by have:n=r.length+1+1:=j;omega
     have c4:=A5 a7
     unfold X0k
     rw [z.out,←t]
     clear h hF hb d o t a6 j f hl ha a0 a7
     go_enter Tryz.func42,Tryz.ntmps42
     go_wp2_with fail
     with_reducible refine (H1 _).out.mono ?_
     rintro e w2 ⟨rfl,rfl⟩
     go_wp2
     go_quiet ((go_at_call 66;exact (H2 _).out.mono fun _ _ h=>⟨h.1,_,h.2⟩))
     have a8:=A5 (HN.out nq)
     clear HN
     go_wp2_with fail
     with_reducible refine a8.out.mono ?_
     rintro e w3 ⟨B,rfl,h3⟩
     have h4:=h3.swap
     have d5:=F6 h4 5 _ rfl
     have f5:=X5 h4 5
     have h5:A4 w0 (w3.setCell ⟨D,5,none⟩ (.pointer (some ⟨B,0,none⟩))) (zdT D (.slice (some ⟨g,q,none⟩) n s) cl most 0 er (some ⟨B,0,none⟩) sm::_):=Z1e h4 5 (.pointer (some ⟨B,0,none⟩)) (Z6 (.slice (some ⟨g,q,none⟩) n s) cl most 0 er (some ⟨B,0,none⟩) sm) rfl
     have k0:=F6 h5 0 _ rfl
     have k5:=F6 h5 5 _ rfl
     obtain ⟨a1,q1,c6,d1,b1⟩:=Y37 (w0:=w0) (Rs:=zdT D (.slice (some ⟨g,q,none⟩) n s) cl most 0 er (some ⟨B,0,none⟩) sm::B0 5 1 (.slice (some ⟨g,q,none⟩) n s) n (D7 (a::b::r))::Rs) (some ⟨g,q,none⟩) n s 2 m 2 rfl (a::b::r) HX.out.2.1 i c5 (fun wg hh=>hh.drop.own.rd)
     have y:Hid (Calls Tryz.prog 24 #[.pointer (some ⟨B,0,none⟩),.slice a1 m q1] _ _):=A5 (W63 (p:=Y22 B) (.slice a1 m q1) m r .hd [] [] h5.swap.drew b1 HX.out.1 c4.out (by rw [List.nil_append,E4];have:=HX.out.2.2;unfold Y6;omega))
     clear h3 h4 h5 a8 b1 i c6
     go_wp2
     go_region_held3 (fun w'=>w'.cell? ⟨D,0,none⟩=some (.slice (some ⟨g,q,none⟩) n s)∧w'.cell? ⟨D,5,none⟩=some (.pointer (some ⟨B,0,none⟩))) (first | exact ⟨k0,k5⟩ | exact ⟨j0,j5⟩ | go_keep)
      ((go_at_call 24;refine y.out.mono ?_;rintro e w4 ⟨rfl,h6⟩;have j0:=F6 h6.swap 0 _ rfl;have j5:=F6 h6.swap 5 _ rfl;have H6:=A5 h6.swap;clear h6))
     all_goals
      have q0:=F6 H6.out 0 _ rfl
      have g0:=X5 H6.out 0
      have h7:=Z1e H6.out 0 (.slice none 0 0) (Z6 (.slice none 0 0) cl most 0 er (some ⟨B,0,none⟩) sm) rfl
      have q6:=F6 h7 6 _ rfl
      have g6:=X5 h7 6
      have h8:=Z1e h7 6 (.int .u32 1) (Z6 (.slice none 0 0) cl most 0 er (some ⟨B,0,none⟩) 1) rfl
      have q3:=F6 h8 3 _ rfl
      have g3:=X5 h8 3
      have H9:=A5 (Z1e h8 3 (.int .i64 1) (Z6 (.slice none 0 0) cl most 1 er (some ⟨B,0,none⟩) 1) rfl)
      clear h7 h8 H6
      go_wp2
      go_ret
      exact ⟨rfl,.inr (.inr ⟨by trivial,B,H9.out.third.drop⟩)⟩
    rw [o] at H2
    have z:Hid (zhd (a::b::r)=2):=A5 (by show (if (Z5d a && Z8v a b)=true then 0 else 2)=_;rw [d,o];rfl)
    unfold X0k
    rw [z.out,←t]
    have a9:=A5 (fun k=>Z62 2 2 rfl (h.drewN k))
    clear h hF hb d o t j f i hl ha a0 y
    go_enter Tryz.func42,Tryz.ntmps42
    go_wp2_with fail
    with_reducible refine (H1 _).out.mono ?_
    rintro e w2 ⟨rfl,rfl⟩
    go_wp2
    go_quiet ((go_at_call 66;exact (H2 _).out.mono fun _ _ h=>⟨h.1,_,h.2⟩))
    have y:=A5 (a9.out nq)
    clear a9
    go_wp2_with fail
    with_reducible refine y.out.mono ?_
    rintro e w3 ⟨rfl,h2⟩
    have H3:=A5 h2.swap.drop
    clear h2 y
    go_wp2
    go_ret
    exact ⟨rfl,.inr (.inl ⟨by trivial,H3.out⟩)⟩
  rw [d] at H1
  have z:Hid (zhd (a::r)=2):=A5 (by cases r with | nil=>(show (if Z5d a=true then 5 else 2)=2;rw [d];rfl) | cons b r=>(show (if (Z5d a && Z8v a b)=true then 0 else 2)=2;rw [d];rfl))
  unfold X0k
  rw [z.out,←t]
  clear h hb d t j f i hl ha hF
  go_enter Tryz.func42,Tryz.ntmps42
  go_wp2_with fail
  with_reducible refine (H1 _).out.mono ?_
  rintro e w2 ⟨rfl,rfl⟩
  go_wp2_with fail
  with_reducible refine y.out.mono ?_
  rintro e w2 ⟨rfl,h2⟩
  have H2:=A5 h2.swap.drop
  clear h2 y
  go_wp2
  go_ret
  exact ⟨rfl,.inr (.inl ⟨by trivial,H2.out⟩)⟩
end
section
variable {w0 w:World} {Rs:List A6} {D B M n:Nat} {o l:List Nat} {iv:Value} {cl:Bool} {most er sm:Nat} {s:DSt}
def V4y (w0 w':World) (Rs:List A6) (D:Nat) (o l:List Nat) (iv:Value) (cl:Bool) (most er:Nat) (e:Ending):Prop:=
 (l.length < 4∧e= .returned (.int .i64 5)∧A4 w0 w' (zdT D iv cl most 2 er none (K6 1 o)::B0 5 1 iv l.length (D7 l)::Rs))∨
 (4≤l.length∧l.take 4≠adB o∧e= .returned (.int .i64 4)∧A4 w0 w' (zdT D (.slice none 0 0) cl most 4 4 none (K6 1 o)::Rs))∨
 (4≤l.length∧l.take 4=adB o∧e= .returned (.int .i64 0)∧∃iv',A4 w0 w' (zdT D iv' cl most 3 er none (K6 1 o)::B0 5 1 iv' (l.drop 4).length (D7 (l.drop 4))::Rs))
theorem W3b (h:A4 w0 w (zdT D iv cl most 2 er none (K6 1 o)::B0 5 1 iv l.length (D7 l)::Rs)) (hb:∀b∈l,b < 256) (hl:l.length < 1000000000):
  Calls Tryz.prog 44 #[.pointer (some ⟨D,0,none⟩)] w fun e w'=>V4y w0 w' Rs D o l iv cl most er e:=by
 obtain ⟨i0,a8,d5,a9,d7⟩:=info_parts Z0u
 have d:=h.drop.own
 obtain ⟨k,a,rfl,s,_⟩:=d.form
 have r:adB o=beB (K6 1 o):=rfl
 unfold V4y
 generalize K6 1 o=q at h r⊢
 have c0:=F6 h 0 _ rfl
 have c6:=F6 h 6 _ rfl
 obtain ⟨n,hn⟩:∃n,n=l.length:=⟨_,rfl⟩
 rw [←hn] at h d s c0 hl⊢
 by_cases h8:n < 4
 ·have hI:(n:Int) < 4:=by omega
  have H:=A5 h
  have t:=A5 h8
  clear h d hn h8
  go_enter Tryz.func44,Tryz.ntmps44
  go_wp2
  go_ret
  exact .inl ⟨t.out,rfl,H.out⟩
 have hI:¬(n:Int) < 4:=by omega
 have b3:=fun wg=>N8 (P:=Tryz.prog) (w:=wg) 26 5 i0 1 Tryz.underlying26 a8 a9 k n a 0 4 none (some (.int .i64 4)) rfl ⟨_,rfl⟩ (T00 _) (by omega)
 rw [Z17 k 4 a 1 d.spotless] at b3
 have HP:=A5 (X72 (.slice none 0 0) 0 q [] (by decide) (h.drew.nil 5 1))
 have a5:∀y w3,A4 w0 w3 (B0 5 1 y (0+4) (D7 ([]++beB q))::zdT D (.slice k n a) cl most 2 er none q::B0 5 1 (.slice k n a) n (D7 l)::Rs)→_:=fun y w3 g=>
  V35 (.slice k 4 a) y (l.take 4) (beB q) 4 4 (by
   have hr:=(g.third.own.rd).front (H:=4) (by omega)
   rw [Nat.mul_one] at hr
   simp only [D7,←List.map_take] at hr⊢
   exact hr) g.own.rd (fun b hb'=>hb b (List.mem_of_mem_take hb')) (W2s q)
 have p:=A5 a5
 have b5:=d.cut (L:=4) (by omega) (T04 n)
 have i:=Z42 k 4 n a 1 n
 have a6:=fun wg=>N8 (P:=Tryz.prog) (w:=wg) 26 5 i0 1 Tryz.underlying26 a8 a9 k n a 4 n (some (.int .i64 4)) none ⟨_,rfl⟩ rfl (by omega) s
 have t:=A5 (And.intro (show 4≤n by omega) (And.intro hn hb))
 have b6:∃a1 m,sliced k 4 n a 1= .slice a1 m (a-4)∧m=(l.drop 4).length:=by
  unfold sliced
  exact ⟨_,_,rfl,by rw [T03,←hn]⟩
 obtain ⟨a1,m,a2,hm⟩:=b6
 rw [a2] at a6 i
 have b7:=A5 i
 have b8:=A5 a2
 have HM:=A5 hm
 clear a5 d hn h8 hb b5 i a2 hm
 rw [r]
 by_cases f:l.take 4=beB q
 ·rw [decide_eq_true f] at p
  have HE:=A5 f
  clear f h
  go_enter Tryz.func44,Tryz.ntmps44
  go_wp2
  go_region_held3 (fun w'=>w'.cell? ⟨D,0,none⟩=some (.slice k n a)∧w'.cell? ⟨D,6,none⟩=some (.int .u32 (q:Int))) (first | exact ⟨c0,c6⟩ | exact ⟨d0,d6⟩ | go_keep)
   ((first
    | (go_at_call 21;refine HP.out.mono ?_;rintro e w3 ⟨y,rfl,g⟩;have d0:=F6 g.drop 0 _ rfl;have d6:=F6 g.drop 6 _ rfl;have x:=A5 g;clear g)
    | (go_at_call 70;refine (p.out _ _ x.out).mono ?_;rintro e w4 ⟨rfl,rfl⟩)))
  all_goals
   have h4:=x.out.drop
   have j:=h4.drop.own
   have z:=j.cut (L:=4) t.out.1 (T04 n)
   rw [b8.out,X5a,T07 (by have:=t.out.2.1;rw [T03];omega)] at z
   have h5:=(h4.swap.recut z b7.out).swap
   have k0:=F6 h5 0 _ rfl
   have m0:=X5 h5 0
   have h6:=Z1e h5 0 (.slice a1 m (a-4)) (Z6 (.slice a1 m (a-4)) cl most 2 er none q) rfl
   have k3:=F6 h6 3 _ rfl
   have m3:=X5 h6 3
   have H7:=A5 (Z1e h6 3 (.int .i64 3) (Z6 (.slice a1 m (a-4)) cl most 3 er none q) rfl)
   clear h4 j z h5 h6 x
   go_wp2
   go_ret
   refine .inr (.inr ⟨t.out.1,HE.out,rfl,.slice a1 m (a-4), ?_⟩)
   have h8:=H7.out
   rw [show n-4=(l.drop 4).length by rw [T03,←t.out.2.1]] at h8
   exact h8
 rw [decide_eq_false f] at p
 have HE:=A5 f
 clear f h a6
 go_enter Tryz.func44,Tryz.ntmps44
 go_wp2
 go_region_held3 (fun w'=>w'.cell? ⟨D,0,none⟩=some (.slice k n a)∧w'.cell? ⟨D,6,none⟩=some (.int .u32 (q:Int))) (first | exact ⟨c0,c6⟩ | exact ⟨d0,d6⟩ | go_keep)
  ((first
   | (go_at_call 21;refine HP.out.mono ?_;rintro e w3 ⟨y,rfl,g⟩;have d0:=F6 g.drop 0 _ rfl;have d6:=F6 g.drop 6 _ rfl;have x:=A5 g;clear g)
   | (go_at_call 70;refine (p.out _ _ x.out).mono ?_;rintro e w4 ⟨rfl,rfl⟩)))
 all_goals
  have HF:=A5 (Z62 4 4 rfl x.out.drop)
  clear x
  go_wp2_with fail
  with_reducible refine HF.out.mono ?_
  rintro e w5 ⟨rfl,h5⟩
  have H5:=A5 h5.swap.drop
  clear h5 HF
  go_wp2
  go_ret
  exact .inr (.inl ⟨t.out.1,HE.out,rfl,H5.out⟩)
def V4q (w0 w':World) (Rs:List A6) (D B M n:Nat) (o:List Nat) (cl:Bool) (most er:Nat) (s:DSt) (e:Ending):Prop:=
 ∃ (t:List Nat) (e1:Nat) (s':DSt),Z82 M n s t e1 s'∧
  (
  (t≠[]∧∃x,e= .returned (.tuple #[x,.int .i64 0])∧A4 w0 w' (B0 5 1 x t.length (D7 t)::zdT D (.slice none 0 0) cl most 1 er (some ⟨B,0,none⟩) (K6 1 (o++t))::Z27 (Y22 B) M s'::Rs))∨
  (t=[]∧e1=5∧e= .returned (.tuple #[.slice none 0 0,.int .i64 5])∧A4 w0 w' (zdT D (.slice none 0 0) cl most 1 er (some ⟨B,0,none⟩) (K6 1 o)::Z27 (Y22 B) M s'::Rs))∨
  (t=[]∧(e1≠5∧e1≠8∧e1≠0)∧e= .returned (.tuple #[.slice none 0 0,.int .i64 (e1:Int)])∧A4 w0 w' (zdT D (.slice none 0 0) cl most 4 e1 none (K6 1 o)::Rs))∨
  (t=[]∧e1=8∧∃l2 iv',s'= .fin 8 l2∧(isBits l2∧l2.length < Y6)∧e= .returned (.tuple #[.slice none 0 0,.int .i64 0])∧A4 w0 w' (zdT D iv' cl most 2 er none (K6 1 o)::B0 5 1 iv' (R0 l2).length (D7 (R0 l2))::Rs)))
theorem X4c (hn:0 < n) (hn2:n≤9223372036854775807) (hGl:X7 w0) (h:A4 w0 w (zdT D (.slice none 0 0) cl most 1 er (some ⟨B,0,none⟩) (K6 1 o)::Z27 (Y22 B) M s::Rs))
  (hml:∀t er s',Z82 M n s t er s'→(∀b∈t,b < 256)∧t.length < 1000000000):
  Calls Tryz.prog 43 #[.pointer (some ⟨D,0,none⟩),.int .i64 (n:Int)] w fun e w'=>V4q w0 w' Rs D B M n o cl most er s e:=by
 have c5:=F6 h 5 _ rfl
 have HT:Hid (Calls Tryz.prog 68 #[.pointer (some ⟨B,0,none⟩),.int .i64 (n:Int)] w _):=A5 (W4g (p:=Y22 B) hn hn2 hGl h.swap)
 have z:=A5 (And.intro hn hml)
 have HQ:=A5 (fun t=>(Y0t 1 o t).symm)
 have a2:=A5 (Y59 o)
 clear h hml
 unfold V4q
 obtain ⟨q,hq⟩:∃q,q=K6 1 o:=⟨_,rfl⟩
 rw [←hq] at HT HQ a2⊢
 clear hq
 go_enter Tryz.func43,Tryz.ntmps43
 go_wp2_with fail
 with_reducible refine HT.out.mono ?_
 rintro e w2 ⟨x,t,j,s',rfl,k,l⟩
 clear HT
 obtain ⟨ao,a5,rfl,d,_⟩:=l.own.form
 obtain ⟨g,i⟩:=z.out.2 t j s' k
 by_cases ht:t=[]
 rotate_left
 ·have a4:0 < t.length:=List.length_pos_iff.2 ht
  have HA:=A5 (X18 q (.slice ao t.length a5) t w2 a2.out l.own.rd g i)
  have f:A4 w0 w2 (zdT D (.slice none 0 0) cl most 1 er (some ⟨B,0,none⟩) q::Z27 (Y22 B) M s'::B0 5 1 (.slice ao t.length a5) t.length (D7 t)::Rs):=l.third.mid
  have a:=A5 (And.intro k ht)
  have d6:=F6 f 6 _ rfl
  have f6:=X5 f 6
  have H5:=A5 (Z1e f 6 (.int .u32 (K6 q t:Nat)) (Z6 (.slice none 0 0) cl most 1 er (some ⟨B,0,none⟩) (K6 1 (o++t))) (by rw [←HQ.out t];rfl))
  obtain ⟨T,y⟩:∃T,T=t.length:=⟨_,rfl⟩
  rw [←y] at HA H5 a4⊢
  have c7:(0:Int) < (T:Int):=by omega
  have HE:=A5 y
  clear k l f z g i d ht y a4
  go_wp2_with fail
  with_reducible refine HA.out.mono ?_
  rintro e w3 ⟨rfl,rfl⟩
  clear HA
  go_wp2
  go_ret2
  refine ⟨t,j,s',a.out.1,.inl ⟨a.out.2,_,rfl, ?_⟩⟩
  have h6:=H5.out
  rw [←HE.out]
  exact h6.third
 subst ht
 rw [List.length_nil] at l d
 have f:A4 w0 w2 (zdT D (.slice none 0 0) cl most 1 er (some ⟨B,0,none⟩) q::Z27 (Y22 B) M s'::Rs):=l.drop.swap
 rcases k.none z.out.1 with ⟨rfl,_⟩ | ⟨l2,rfl⟩
 ·have a:=A5 k
  have H3:=A5 f
  clear k l f z g i d
  go_wp2
  go_ret2
  exact ⟨[],5,_,a.out,.inr (.inl ⟨rfl,rfl,rfl,H3.out⟩)⟩
 obtain ⟨hk,r⟩:=X4g f.drop
 by_cases h8:j=8
 ·subst h8
  have HR:Hid (Calls Tryz.prog 69 #[.pointer (some ⟨B,0,none⟩)] w2 _):=A5 (V0v (p:=Y22 B) 8 l2 f.swap)
  have a:=A5 (And.intro k r)
  have d5:=F6 f 5 _ rfl
  clear k l f z g i d hk r
  go_wp2_with fail
  with_reducible refine HR.out.mono ?_
  rintro e w3 ⟨x3,rfl,h4⟩
  obtain ⟨xo,xc,rfl,_,_⟩:=h4.own.form
  have m:A4 w0 w3 (zdT D (.slice none 0 0) cl most 1 er (some ⟨B,0,none⟩) q::B0 5 1 (.slice xo (R0 l2).length xc) (R0 l2).length (D7 (R0 l2))::Rs):=h4.third.third.drop
  have k0:=F6 m 0 _ rfl
  have m0:=X5 m 0
  have h6:=Z1e m 0 (.slice xo (R0 l2).length xc) (Z6 (.slice xo (R0 l2).length xc) cl most 1 er (some ⟨B,0,none⟩) q) rfl
  have k5:=F6 h6 5 _ rfl
  have m5:=X5 h6 5
  have h7:=Z1e h6 5 (.pointer none) (Z6 (.slice xo (R0 l2).length xc) cl most 1 er none q) rfl
  have k3:=F6 h7 3 _ rfl
  have m3:=X5 h7 3
  have H8:=A5 (Z1e h7 3 (.int .i64 2) (Z6 (.slice xo (R0 l2).length xc) cl most 2 er none q) rfl)
  clear h4 m h6 h7 HR
  go_wp2
  go_ret2
  exact ⟨[],8,_,a.out.1,.inr (.inr (.inr ⟨rfl,rfl,l2,_,rfl,a.out.2,rfl,H8.out⟩))⟩
 have m:j≠5:=by omega
 have c3:¬(j:Int)=5:=by omega
 have c4:¬(j:Int)=8:=by omega
 have a3:=A5 (Z62 j j rfl f)
 have a:=A5 (And.intro k (And.intro m (And.intro h8 (show j≠0 by omega))))
 clear k l f z g i d m h8 hk r
 go_wp2_with fail
 with_reducible refine a3.out.mono ?_
 rintro e w3 ⟨rfl,h4⟩
 have H4:=A5 (h4.swap.drop)
 clear h4 a3
 go_wp2
 go_ret2
 exact ⟨[],j,_,a.out.1,.inr (.inr (.inl ⟨rfl,a.out.2,rfl,H4.out⟩))⟩
end
section
variable {w0 w:World} {Rs:List A6} {D:Nat} {iv:Value} {cl:Bool} {most er sm:Nat} {sp:Option Addr} {R:Value→Int→World→Prop}
theorem Y6f (n:Int) (h:A4 w0 w (zdT D iv cl most 0 er sp sm::Rs)) (hc:Calls Tryz.prog 42 #[.pointer (some ⟨D,0,none⟩)] w fun e w'=>∃k,e= .returned (.int .i64 k)∧R (.slice none 0 0) k w'):
  Calls Tryz.prog 25 #[.pointer (some ⟨D,0,none⟩),.int .i64 n] w fun e w'=>∃x k,e= .returned (.tuple #[x,.int .i64 k])∧R x k w':=by
 have f:=F6 h 3 _ rfl
 have a:=A5 hc
 clear h hc
 go_enter Tryz.func25,Tryz.ntmps25
 go_wp2_with fail
 with_reducible refine a.out.mono ?_
 rintro e g ⟨k,rfl,b⟩
 have d:=A5 b
 clear b a
 go_wp2
 go_ret2
 exact ⟨_,_,rfl,d.out⟩
theorem W0l (n:Int) (h:A4 w0 w (zdT D iv cl most 1 er sp sm::Rs)) (hc:Calls Tryz.prog 43 #[.pointer (some ⟨D,0,none⟩),.int .i64 n] w fun e w'=>∃x k,e= .returned (.tuple #[x,.int .i64 k])∧R x k w'):
  Calls Tryz.prog 25 #[.pointer (some ⟨D,0,none⟩),.int .i64 n] w fun e w'=>∃x k,e= .returned (.tuple #[x,.int .i64 k])∧R x k w':=by
 have f:=F6 h 3 _ rfl
 have a:=A5 hc
 clear h hc
 go_enter Tryz.func25,Tryz.ntmps25
 go_wp2_with fail
 with_reducible refine a.out.mono ?_
 rintro e g ⟨x,k,rfl,b⟩
 have d:=A5 b
 clear b a
 go_wp2
 go_ret2
 exact ⟨_,_,rfl,d.out⟩
theorem X8h (n:Int) (h:A4 w0 w (zdT D iv cl most 2 er sp sm::Rs)) (hc:Calls Tryz.prog 44 #[.pointer (some ⟨D,0,none⟩)] w fun e w'=>∃k,e= .returned (.int .i64 k)∧R (.slice none 0 0) k w'):
  Calls Tryz.prog 25 #[.pointer (some ⟨D,0,none⟩),.int .i64 n] w fun e w'=>∃x k,e= .returned (.tuple #[x,.int .i64 k])∧R x k w':=by
 have f:=F6 h 3 _ rfl
 have a:=A5 hc
 clear h hc
 go_enter Tryz.func25,Tryz.ntmps25
 go_wp2_with fail
 with_reducible refine a.out.mono ?_
 rintro e g ⟨k,rfl,b⟩
 have d:=A5 b
 clear b a
 go_wp2
 go_ret2
 exact ⟨_,_,rfl,d.out⟩
theorem W0f (n:Int) (h:A4 w0 w (zdT D iv cl most 3 er sp sm::Rs)) (hc:Calls Tryz.prog 45 #[.pointer (some ⟨D,0,none⟩)] w fun e w'=>∃k,e= .returned (.int .i64 k)∧R (.slice none 0 0) k w'):
  Calls Tryz.prog 25 #[.pointer (some ⟨D,0,none⟩),.int .i64 n] w fun e w'=>∃x k,e= .returned (.tuple #[x,.int .i64 k])∧R x k w':=by
 have f:=F6 h 3 _ rfl
 have a:=A5 hc
 clear h hc
 go_enter Tryz.func25,Tryz.ntmps25
 go_wp2_with fail
 with_reducible refine a.out.mono ?_
 rintro e g ⟨k,rfl,b⟩
 have d:=A5 b
 clear b a
 go_wp2
 go_ret2
 exact ⟨_,_,rfl,d.out⟩
theorem W0h (n:Int) (h:A4 w0 w (zdT D iv cl most 4 er sp sm::Rs)):
  Calls Tryz.prog 25 #[.pointer (some ⟨D,0,none⟩),.int .i64 n] w fun e w'=>∃x k,e= .returned (.tuple #[x,.int .i64 k])∧x= .slice none 0 0∧k=(er:Int)∧A4 w0 w' (zdT D iv cl most 4 er sp sm::Rs):=by
 have a:=F6 h 3 _ rfl
 have b:=F6 h 4 _ rfl
 have H:=A5 h.drew
 clear h
 go_enter Tryz.func25,Tryz.ntmps25
 go_wp2
 go_region
 all_goals
  go_wp2
  go_ret2
  exact ⟨_,_,rfl,rfl,rfl,H.out⟩
end
inductive ZSt where
 | hdr (l:List Nat)
 | str (B:Nat) (s:DSt) (o:List Nat)
 | tot (o l:List Nat)
 | fin (o l:List Nat)
 | bad (e sm:Nat)
def zL (D:Nat) (cl:Bool) (M:Nat) (iv:Value):ZSt→List A6
 | .hdr l=>[zdT D iv cl M 0 0 none 0,B0 5 1 iv l.length (D7 l)]
 | .str B s o=>[zdT D (.slice none 0 0) cl M 1 0 (some ⟨B,0,none⟩) (K6 1 o),Z27 (Y22 B) M s]
 | .tot o l=>[zdT D iv cl M 2 0 none (K6 1 o),B0 5 1 iv l.length (D7 l)]
 | .fin o l=>[zdT D iv cl M 3 0 none (K6 1 o),B0 5 1 iv l.length (D7 l)]
 | .bad e sm=>[zdT D (.slice none 0 0) cl M 4 e none sm]
def zT (D:Nat) (cl:Bool) (M:Nat) (st:ZSt):A6:=exT fun iv:Value=>Z0e (zL D cl M iv st)
def ZOk:ZSt→Prop
 | .hdr l=>(∀b∈l,b < 256)∧l.length < 1000000
 | .str _ _ _=>True
 | .tot _ l=>(∀b∈l,b < 256)∧l.length < 1000000000
 | .fin _ _=>True
 | .bad e _=>e≠0
def Y1t (cl:Bool) (M:Nat):ZSt→List Nat→Nat→Prop
 | .hdr l,out,e=>zhd l=5∧out=[]∧e=5
 | .str _ s o,out,e=>X7g cl M o s out e
 | .tot o l,out,e=>out=[]∧e=Z3o cl o l
 | .fin _ l,out,e=>out=[]∧e=Z2k cl l
 | .bad e0 _,out,e=>out=[]∧e=e0
def zmu:ZSt→Nat
 | .hdr _=>0
 | .str _ _ _=>3
 | .tot _ _=>2
 | .fin _ _=>1
 | .bad _ _=>0
inductive W6j (n:Nat) (cl:Bool) (M:Nat) (st:ZSt) (out:List Nat) (e:Nat):List Nat→Nat→ZSt→Prop
 | on {t out':List Nat} {st':ZSt} (ht:t.length≤n) (ho:out=t++out') (hc:Y1t cl M st' out' e) (hk:ZOk st') (hmu:zmu st'+(n-t.length) < zmu st+n):W6j n cl M st out e t 0 st'
 | off {st':ZSt} (ho:out=[]) (hc:Y1t cl M st' [] e) (hk:ZOk st') (he:e≠0):W6j n cl M st out e [] e st'
theorem S4.leZ {M:Nat} {p p':Ph} {l l' o o':List Nat} (h:S4 M p l o p' l' o') (ho:o.length≤M):o'.length≤M:=by
 induction h with
 | refl=>exact ho
 | step hs _ ih=>
  refine ih ?_
  rcases Nat.lt_or_ge M _ with h1 | h1
  ·have a:=(X0v (T04 M) hs).2 h1 ho
   rw [hs] at a
   cases a
  exact h1
section
variable {w0 w:World} {Rs:List A6} {D n M:Nat} {out:List Nat} {e:Nat} {cl:Bool} {st:ZSt}
theorem X31 (h:A4 w0 w (zT D cl M st::Rs)):∃iv,A4 w0 w (zL D cl M iv st++Rs):=by
 obtain ⟨p,a⟩:=h.ex
 exact ⟨p,a.unall⟩
theorem S1 (iv:Value) (h:A4 w0 w (zL D cl M iv st++Rs)):A4 w0 w (zT D cl M st::Rs):=
 A4.mk (R:=fun iv:Value=>Z0e (zL D cl M iv st)) iv (A4.all h)
theorem Z82.facts {s s':DSt} {t:List Nat} {er:Nat} (h:Z82 M n s t er s') (hm:∀ph l o,s= .run ph l o→o.length≤M∧MOk ph l o):(∀b∈t,b < 256)∧t.length≤M:=by
 cases s with
 | fin e l=>rw [h.1];exact ⟨(fun b hb=>by cases hb),T00 _⟩
 | run ph l o=>
  obtain ⟨f,g⟩:=hm _ _ _ rfl
  have h:Z2d M ph l o (n:Int) t er s':=h
  have a:∀ {ph':Ph} {l':List Nat},S4 M ph l o ph' l' (o++t)→(∀b∈t,b < 256)∧t.length≤M:=fun hr=>by
   have d:=hr.leZ f
   rw [T01] at d
   exact ⟨fun b hb=>(g.reach hr).1.byt b (List.mem_append_right _ hb),by omega⟩
  cases h with
  | full _ hr=>exact a hr
  | wait _ hr _=>exact a hr
  | fin _ hr _ _ _=>exact a hr
theorem V00 (cl:Bool) (l:List Nat):Z2k cl l≠0:=by
 unfold Z2k
 split
 ·split <;> decide
 decide
def X65 (w0 w':World) (Rs:List A6) (D n:Nat) (cl:Bool) (M:Nat) (st:ZSt) (out:List Nat) (e:Nat) (x:Value) (k:Int):Prop:=
 ∃ (t:List Nat) (er:Nat) (st':ZSt),k=(er:Int)∧W6j n cl M st out e t er st'∧A4 w0 w' (B0 5 1 x t.length (D7 t)::zT D cl M st'::Rs)
theorem W5i (hG:X7 w0) (hn:0 < n) (hn2:n≤9223372036854775807) (hM:M < 100000000) (h:A4 w0 w (zT D cl M st::Rs)) (hok:ZOk st) (hc:Y1t cl M st out e):
  Calls Tryz.prog 25 #[.pointer (some ⟨D,0,none⟩),.int .i64 (n:Int)] w fun en w'=>∃x k,en= .returned (.tuple #[x,.int .i64 k])∧X65 w0 w' Rs D n cl M st out e x k:=by
 obtain ⟨g,d⟩:=X31 h
 cases st with
 | hdr l=>
  have d:A4 w0 w (zdT D g cl M 0 0 none 0::B0 5 1 g l.length (D7 l)::Rs):=d
  obtain ⟨hz,rfl,rfl⟩:zhd l=5∧out=[]∧e=5:=hc
  obtain ⟨i,j⟩:(∀b∈l,b < 256)∧l.length < 1000000:=hok
  refine Y6f (R:=fun x k w'=>X65 w0 w' Rs D n cl M (.hdr l) [] 5 x k) n d ((X03 d i j (by unfold Y6;omega)).mono ?_)
  rintro en w' ⟨rfl,⟨_,a⟩ | ⟨h0,_⟩ | ⟨h0,_⟩⟩
  ·rw [hz]
   exact ⟨5,rfl,[],5,.hdr l,rfl,.off rfl ⟨hz,rfl,rfl⟩ ⟨i,j⟩ (by decide),(S1 g (show A4 w0 w' (_::_::Rs) from a)).nil 5 1⟩
  ·omega
  omega
 | str B s o=>
  have d:A4 w0 w (zdT D (.slice none 0 0) cl M 1 0 (some ⟨B,0,none⟩) (K6 1 o)::Z27 (Y22 B) M s::Rs):=d
  have hc:X7g cl M o s out e:=hc
  have hm:∀ph l ob,s= .run ph l ob→ob.length≤M∧MOk ph l ob:=fun ph l ob hs=>by
   subst hs
   obtain ⟨a,z,_⟩:=X9a d.drop
   exact ⟨a,z⟩
  refine W0l (R:=fun x k w'=>X65 w0 w' Rs D n cl M (.str B s o) out e x k) n d ((X4c hn hn2 hG d (fun t er s' r=> ?_)).mono ?_)
  ·obtain ⟨a,z⟩:=r.facts hm
   exact ⟨a,by omega⟩
  rintro en w' ⟨t,e1,s',r,p⟩
  obtain ⟨out',f,m⟩:=r.come hc (fun ph l ob hs=>(hm ph l ob hs).2)
  rcases p with ⟨ht,x,rfl,a⟩ | ⟨rfl,rfl,rfl,a⟩ | ⟨rfl,⟨h5,h8,h0⟩,rfl,a⟩ | ⟨rfl,rfl,l2,q,rfl,hfin,rfl,a⟩
  ·have b1:0 < t.length:=List.length_pos_iff.2 ht
   have a4:=r.short hn
   refine ⟨x,0,rfl,t,0,.str B s' (o++t),rfl,.on a4 f m trivial (by show 3+(n-t.length) < 3+n;omega), ?_⟩
   exact (S1 (.slice none 0 0) (show A4 w0 w' (_::_::_::Rs) from a.swap.mid)).swap
  ·rw [T02] at m
   have hh:out'=[]∧e=5∧X7g cl M o s' [] 5:=by
    rcases r.none hn with ⟨_,ph,l,ob,rfl,hs⟩ | ⟨l2,rfl⟩
    ·obtain ⟨rfl,y⟩:=m
     obtain ⟨_,rfl,rfl⟩:=y.err (L:=[]) hs
     exact ⟨rfl,rfl,rfl,y⟩
    have:=(X4g a.drop).1
    omega
   obtain ⟨rfl,rfl,a7⟩:=hh
   subst f
   exact ⟨_,5,rfl,[],5,.str B s' o,rfl,.off rfl a7 trivial (by decide),(S1 (.slice none 0 0) (show A4 w0 w' (_::_::Rs) from a)).nil 5 1⟩
  ·rcases r.none hn with ⟨h9,_⟩ | ⟨l2,rfl⟩
   ·exact absurd h9 h5
   obtain ⟨rfl,hF⟩:W9e cl e1 l2 (o++[]) out' e:=m
   obtain rfl:e=e1:=by
    rcases hF with ⟨_,h⟩ | ⟨h,_⟩
    ·exact h
    exact absurd h h8
   subst f
   exact ⟨_,(e:Int),rfl,[],e,.bad e (K6 1 o),rfl,.off rfl ⟨rfl,rfl⟩ h0 h0,(S1 g (show A4 w0 w' (_::Rs) from a)).nil 5 1⟩
  obtain ⟨rfl,hF⟩:W9e cl 8 l2 (o++[]) out' e:=m
  rw [T02] at hF
  have a5:e=Z3o cl o (R0 l2):=by
   rcases hF with ⟨h,_⟩ | ⟨_,h⟩
   ·exact absurd rfl h
   exact h
  subst f
  refine ⟨_,0,rfl,[],0,.tot o (R0 l2),rfl,.on (out':=[]) (T00 _) rfl ⟨rfl,a5⟩ ⟨?_, ?_⟩ (by show 2+(n-0) < 3+n;omega),(S1 q (show A4 w0 w' (_::_::Rs) from a)).nil 5 1⟩
  ·exact Y5g _ fun b hb=>hfin.1 b (List.mem_of_mem_drop hb)
  have h6:=hfin.2
  unfold R0
  rw [Q5,T03]
  unfold Y6 at h6
  omega
 | tot o l=>
  have d:A4 w0 w (zdT D g cl M 2 0 none (K6 1 o)::B0 5 1 g l.length (D7 l)::Rs):=d
  obtain ⟨rfl,rfl⟩:out=[]∧e=Z3o cl o l:=hc
  obtain ⟨i,j⟩:(∀b∈l,b < 256)∧l.length < 1000000000:=hok
  refine X8h (R:=fun x k w'=>X65 w0 w' Rs D n cl M (.tot o l) [] (Z3o cl o l) x k) n d ((W3b d i j).mono ?_)
  unfold Z3o
  rintro en w' (⟨h4,rfl,a⟩ | ⟨h4,hx,rfl,a⟩ | ⟨h4,hx,rfl,q,a⟩)
  ·rw [if_pos h4]
   exact ⟨5,rfl,[],5,.tot o l,rfl,.off rfl ⟨rfl,by unfold Z3o;rw [if_pos h4]⟩ ⟨i,j⟩ (by decide),(S1 g (show A4 w0 w' (_::_::Rs) from a)).nil 5 1⟩
  ·rw [if_neg (by omega),if_neg hx]
   exact ⟨4,rfl,[],4,.bad 4 (K6 1 o),rfl,.off rfl ⟨rfl,rfl⟩ (show (4:Nat)≠0 by decide) (by decide),(S1 g (show A4 w0 w' (_::Rs) from a)).nil 5 1⟩
  rw [if_neg (by omega),if_pos hx]
  exact ⟨0,rfl,[],0,.fin o (l.drop 4),rfl,.on (out':=[]) (T00 _) rfl ⟨rfl,rfl⟩ trivial (by show 1+(n-0) < 2+n;omega),(S1 q (show A4 w0 w' (_::_::Rs) from a)).nil 5 1⟩
 | fin o l=>
  have d:A4 w0 w (zdT D g cl M 3 0 none (K6 1 o)::B0 5 1 g l.length (D7 l)::Rs):=d
  obtain ⟨rfl,rfl⟩:out=[]∧e=Z2k cl l:=hc
  refine W0f (R:=fun x k w'=>X65 w0 w' Rs D n cl M (.fin o l) [] (Z2k cl l) x k) n d ((W4a d).mono ?_)
  rintro en w' ⟨rfl,⟨rfl,a⟩ | ⟨hl,a⟩⟩
  ·exact ⟨_,rfl,[],_,.fin o [],rfl,.off rfl ⟨rfl,rfl⟩ trivial (V00 _ _),(S1 g (show A4 w0 w' (_::_::Rs) from a)).nil 5 1⟩
  have z:Z2k cl l=2:=by unfold Z2k;rw [if_neg hl]
  rw [z]
  exact ⟨_,rfl,[],_,.bad 2 (K6 1 o),rfl,.off rfl ⟨rfl,rfl⟩ (show (2:Nat)≠0 by decide) (by decide),(S1 g (show A4 w0 w' (_::Rs) from a)).nil 5 1⟩
 | bad e0 sm=>
  have d:A4 w0 w (zdT D (.slice none 0 0) cl M 4 e0 none sm::Rs):=d
  obtain ⟨rfl,rfl⟩:out=[]∧e=e0:=hc
  refine (W0h n d).mono ?_
  rintro en w' ⟨x,k,rfl,rfl,rfl,a⟩
  exact ⟨_,_,rfl,[],e,.bad e sm,rfl,.off rfl ⟨rfl,rfl⟩ hok hok,(S1 g (show A4 w0 w' (_::Rs) from a)).nil 5 1⟩
end
def TkZ (w0 wr:World) (Rs:List A6) (D n:Nat) (cl:Bool) (M:Nat) (out:List Nat) (e g:Nat) (v:Value) (t:List Nat) (er:Nat):Prop:=
 ∃ (st:ZSt) (out':List Nat),out=t++out'∧t.length≤n∧Y1t cl M st out' e∧ZOk st∧A4 w0 wr (B0 5 1 v t.length (D7 t)::zT D cl M st::Rs)∧
  (er=0∧zmu st+(n-t.length) < g∨er=e∧er≠0∧out'=[]∧0 < g∧t.length < n)
def X75 (w0 w':World) (Rs:List A6) (D n:Nat) (cl:Bool) (M:Nat) (out:List Nat) (e:Nat) (en:Ending):Prop:=
 ∃ (x:Value) (t:List Nat) (er:Nat) (st:ZSt) (out':List Nat),en= .returned (.tuple #[x,.int .i64 (er:Int)])∧out=t++out'∧Y1t cl M st out' e∧ZOk st∧
  A4 w0 w' (B0 5 1 x t.length (D7 t)::zT D cl M st::Rs)∧(er=0∧t.length=n∨t.length < n∧out'=[]∧er=if t=[] then e else 5)
section
variable {w0 w:World} {Rs:List A6} {D n M:Nat} {out:List Nat} {e:Nat} {cl:Bool} {st:ZSt}
theorem X8i (hG:X7 w0) (hn2:n≤9223372036854775807) (hM:M < 100000000) (h:A4 w0 w (zT D cl M st::Rs)) (hok:ZOk st) (hc:Y1t cl M st out e) (ho:out.length < 100000000):
  Calls Tryz.prog 26 #[.int .i64 (n:Int),.func (.func 25) #[.pointer (some ⟨D,0,none⟩)] #[]] w fun en w'=>X75 w0 w' Rs D n cl M out e en:=by
 obtain ⟨i0,c0,c1,c2,c3⟩:=info_parts Z0u
 have d2:1000000000≤maxLen:=by decide
 have H0:Hid (TkZ w0 w Rs D n cl M out e (zmu st+n+1) (.slice none 0 0) [] 0):=
  A5 ⟨st,out,rfl,T00 _,hc,hok,h.nil _ 1,.inl ⟨rfl,by simp⟩⟩
 have HO:=A5 (And.intro hG (And.intro hn2 (And.intro ho hM)))
 clear h hok hc hn2 hG ho hM
 go_enter Tryz.func26,Tryz.ntmps26
 go_wp2
 go_loopg [6,7] (zmu st+n+1) (fun g t6 t7 wr=>∃ (ao:Option Addr) (y:Nat) (t:List Nat) (er:Nat),t6= .slice ao t.length y∧t7= .int .i64 (er:Int)∧Hid (TkZ w0 wr Rs D n cl M out e g (.slice ao t.length y) t er))
 case atStart=>exact ⟨none,0,[],0,rfl,rfl,H0⟩
 case round=>
  obtain ⟨ao,y,t,er,rfl,rfl,HT⟩:=hrel
  obtain ⟨z,b0,a,o,b,d,h1,a1⟩:=HT.out
  clear HT H0
  have l:t.length < 100000000:=by
   have:=congrArg T06 a
   have:=HO.out.2.2.1
   rw [T01] at*
   omega
  obtain ⟨T,i⟩:∃T,T=t.length:=⟨_,rfl⟩
  rw [←i] at h1⊢
  rcases a1 with ⟨rfl,hg⟩ | ⟨rfl,he0,rfl,hg,f⟩
  ·by_cases a7:T < n
   rotate_left
   ·obtain rfl:T=n:=by omega
    have a5:¬(T:Int) < (T:Int):=by omega
    have H1:=A5 h1
    have p:=A5 (And.intro a (And.intro b (And.intro d i)))
    clear a o b d h1 hg i l a7
    go_wp2
    go_ret2
    obtain ⟨a,b,d,i⟩:=p.out
    have j:=H1.out
    rw [i] at j⊢
    exact ⟨_,t,0,z,b0,rfl,a,b,d,j,.inl ⟨rfl,rfl⟩⟩
   have a5:(T:Int) < (n:Int):=by omega
   obtain ⟨q,hq⟩:∃q,q=n-T:=⟨_,rfl⟩
   have d3:(n:Int)- (T:Int)=(q:Int):=by omega
   have d4:IntKind.i64.wrap (q:Int)=(q:Int):=IntWalk.i64_in _ (by have:=HO.out.2.1;omega)
   have HS:=A5 (W5i (n:=q) HO.out.1 (by omega) (by have:=HO.out.2.1;omega) HO.out.2.2.2 h1.swap d b)
   have d5:0 < gk:=by omega
   have p:=A5 (And.intro a (And.intro o (And.intro hg (And.intro i (And.intro hq l)))))
   clear a o b d h1 hg i hq l a7
   go_wp2_with fail
   with_reducible refine HS.out.mono ?_
   rintro en w2 ⟨x,k,rfl,s,b8,a8,rfl,hR,j⟩
   obtain ⟨xo,xc,rfl,c5,_⟩:=j.own.form
   have a6:s.length≤q∧s.length < 100000000:=by
    have h3:=congrArg T06 p.out.1
    have h4:=HO.out.2.2.1
    rw [T01] at h3
    cases hR with
    | on ht ho hc hk hmu=>
     have h5:=congrArg T06 ho
     rw [T01] at h5
     exact ⟨ht,by omega⟩
    | off _ _ _ _=>exact ⟨T00 _,by decide⟩
   obtain ⟨K,hK⟩:∃K,K=T+s.length:=⟨_,rfl⟩
   have d8:K < 1000000000:=by have:=p.out.2.2.2.2.2;have:=p.out.2.2.2.1;omega
   have H3:=A5 j.third
   have HX:=A5 (j.own.rd)
   have HR:=A5 hR
   have HK:=A5 hK
   have b2:=A5 a6
   clear j hR hK HS a6 c5
   go_wp2_with ((with_reducible show wpList _ _ _ (⟨some 28,_,_,_,_,_⟩::_) _ _);go_must (refine D4 rfl (.tmp 26) (.tmp 27) 26 rfl 5 i0 (.int .u8 0) 1 1 Tryz.underlying26 c0 c1 c2 c3 rfl (by decide) _ T (D7 t) rfl H3.out _ s.length (D7 s) rfl HX.out (T3 _) K HK.out (by omega) (by omega) ?_);intro yo yc w7 h7;have H7:=A5 h7;clear h7)
   go_roundg (gk-1)
   case measure=>omega
   case rel=>
    obtain ⟨a,o,hg,i,hq,l⟩:=p.out
    have m:K=(t++s).length:=by rw [HK.out,T01,i]
    have hE:=b2.out.1
    refine ⟨yo,yc,t++s,b8,by rw [←m],rfl,A5 ?_⟩
    rw [←m]
    have h9:=H7.out
    rw [←K4,m] at h9
    have b4:=HR.out
    cases b4 with
    | on ht ho hc hk hmu=>
     rename_i a9
     subst ho
     refine ⟨a8,a9,by rw [a,List.append_assoc],by rw [T01];omega,hc,hk, ?_,.inl ⟨rfl, ?_⟩⟩
     ·rw [m]
      exact h9.swap.drop
     rw [T01];omega
    | off ho hc hk he=>
     subst ho
     refine ⟨a8,[],by rw [a];simp,by rw [T02];omega,hc,hk, ?_,.inr ⟨rfl,he,rfl, ?_, ?_⟩⟩
     ·rw [m]
      exact h9.swap.drop
     ·omega
     rw [T02];omega
  have e3:¬(er:Int)=0:=by omega
  have e4:((er:Int) != 0)=true:=by simp;omega
  have H1:=A5 h1
  have p:=A5 (And.intro a (And.intro b (And.intro d (And.intro i f))))
  clear a o b d h1 hg l f
  by_cases r:T=0
  ·have b5:¬(0:Int) < (T:Int):=by omega
   have HN:=A5 (List.eq_nil_of_length_eq_zero (i.symm.trans r))
   clear r i
   go_wp2
   go_ret2
   obtain ⟨a,b,d,i,f⟩:=p.out
   have j:=H1.out
   rw [i] at j⊢
   exact ⟨_,t,er,z,[],rfl,a,b,d,j,.inr ⟨f,rfl,by rw [if_pos HN.out]⟩⟩
  have b5:(0:Int) < (T:Int):=by omega
  have HN:=A5 (show t≠[] from fun h=>r (by rw [i,h];rfl))
  clear r i
  go_wp2
  go_ret2
  obtain ⟨a,b,d,i,f⟩:=p.out
  have j:=H1.out
  rw [i] at j⊢
  exact ⟨_,t,5,z,[],rfl,a,b,d,j,.inr ⟨f,rfl,by rw [if_neg HN.out]⟩⟩
theorem W3v (hG:X7 w0) (hn2:n≤9223372036854775807) (hM:M < 100000000) (h:A4 w0 w (zT D cl M st::Rs)) (hok:ZOk st) (hc:Y1t cl M st out e) (ho:out.length < 100000000):
  Calls Tryz.prog 14 #[.pointer (some ⟨D,0,none⟩),.int .i64 (n:Int)] w fun en w'=>X75 w0 w' Rs D n cl M out e en:=by
 have d:=A5 (X8i hG hn2 hM h hok hc ho)
 clear h hok hc
 go_enter Tryz.func14,Tryz.ntmps14
 go_wp2_with fail
 with_reducible refine d.out.mono ?_
 rintro en j ⟨x,t,i,b,a,rfl,f⟩
 have g:=A5 f
 clear f d
 go_wp2
 go_ret2
 exact ⟨x,t,i,b,a,rfl,g.out⟩
end
end Go.Proofs.YtbkbkmgogbgofaaGreatDoor
