/- The claim's texts, put together and shortened by a program (names, spaces). -/
import Derived.Test.YtbkbkmgogbgofaaGreatDoorZk15
import Derived.Test.YtbkbkmgogbgofaaGreatDoorProg
import Derived.Test.YtbkbkmgogbgofaaGreatDoorZk01
import Derived.Laws.BitsAllLaws
import Derived.Deep.LoopGhost
import Derived.Maps.RangeWalk
import Derived.Test.YtbkbkmgogbgofaaGreatDoorZk07
import Derived.Test.YtbkbkmgogbgofaaGreatDoorZk02
import Derived.Lib.AppendStr
import Derived.Lib.BytesEntry
import Derived.Laws.IdiomStrings
import Derived.Test.YtbkbkmgogbgofaaGreatDoorZk04
import Derived.Deep.RegionHeld3
open List renaming length_drop→T03,take_of_length_le→T04,getElem?_eq_getElem→T05,drop_zero→T08,length_map→T09,length_append→T0a,mem_of_getElem?→T0b,length_take→T0c,mem_of_mem_drop→T0d,mem_of_mem_take→T0e,drop_of_length_le→T0f
open Nat renaming mod_lt→T00,zero_le→T01,le_refl→T02,mul_one→T07
open Int renaming natCast_nonneg→T06
namespace Go.Proofs.YtbkbkmgogbgofaaGreatDoor
set_option maxRecDepth 100000
set_option maxHeartbeats 6400000
open Go.RowKit
section
variable {w0 w:World} {Rs:List A6} {p:C4} {M:Nat}
theorem V3y {q:C4} {v:Value} {bs l:List Nat} (h:A4 w0 w (J9 q v bs l::Rs)):A4 w0 w (W3b q l::Rs):=by
 obtain ⟨y,n,i,s,c,j⟩:=Z1e h
 obtain ⟨d,a,m⟩:=W2f j.swap
 obtain ⟨F,⟨z,F2,f,⟨o,g⟩,p,r⟩,t,x⟩:=m.swap.pair
 refine ⟨F,⟨_,⟨d,s,c,⟨f.1,o,fun e=>p q.b ((f.2 q.b).2 rfl) ((g q.b).2 e),a.fits,a.byt⟩,a.few,a.is⟩,fun k=> ?_⟩,t,x⟩
 rw [r,f.2,g]
 exact Iff.rfl
theorem V2x {q:C4} {l:List Nat} (h:A4 w0 w (W3b q l::Rs)):∃v bs,A4 w0 w (J9 q v bs l::Rs):=by
 obtain ⟨F,⟨d,⟨bs,s,c,⟨g,b,f,i,j⟩,k,m⟩,n⟩,a⟩:=h
 exact ⟨d,bs,F,⟨d,⟨bs,s,c,⟨g,b,f,i,j⟩,k,m⟩,b,f,.inl rfl,n⟩,a⟩
def V6b (M:Nat):DC:=⟨.slice none 0 0,M,0,.slice none 0 0,0,false,0,0,0,0,0,none,.slice none 0 0,none,none,none,none,0⟩
theorem V2l (hM:M < Y5):Z0h M (Y7a (V6b M)) [] [] .hd [] [] []:=
 ⟨rfl,.inl ⟨rfl,rfl⟩,⟨(fun b hb=>by cases hb),(fun b hb=>by cases hb),trivial⟩,rfl,hM,(by decide),T02 _,(show (0:Int)≤0 by decide),(show (0:Int)≤9223372036854775807 by decide)⟩
theorem W3a (hM:M < Y5) (h:A4 w0 w Rs):A4 w0 (w.alloc (.cells #[.slice none 0 0,.int .u64 0,.int .i64 0,.slice none 0 0,.int .i64 (M:Int),.int .i64 0,.slice none 0 0,.int .i64 0,.bool false,.int .i64 0,.int .i64 0,.int .i64 0,.int .i64 0,.int .i64 0,.pointer none,.slice none 0 0,.pointer none,.pointer none,.pointer none,.pointer none,.int .i64 0] 100))
  (Z20 (.whole w.heap.size 100) M (.run .hd [] [])::Rs):=by
 have a:=h.newObjP [.slice none 0 0,.int .u64 0,.int .i64 0,.slice none 0 0,.int .i64 (M:Int),.int .i64 0,.slice none 0 0,.int .i64 0,.bool false,.int .i64 0,.int .i64 0,.int .i64 0,.int .i64 0,.int .i64 0,.pointer none,.slice none 0 0,.pointer none,.pointer none,.pointer none,.pointer none,.int .i64 0] 100
 have f:A4 w0 _ (Q0 (J0 (.whole w.heap.size 100) (V6b M)) [.slice none 0 0,.int .u64 ((0:Nat):Int),.int .i64 ((0:Nat):Int)]::Rs):=a
 have g:Y03 [] [] 0 0:=⟨by decide,(fun b hb=>by cases hb),by decide,rfl⟩
 have i:=Y1h (d:= .slice none 0 0) g (f.nil 5 1)
 have j:=Z1r (s:=0) (c:=0) i.swap
 refine Z48 (s:= .run .hd [] []) ⟨V6b M,.slice none 0 0,[],[],[]⟩ (V2l hM) ?_
 have k:A4 w0 _ (Z27 []::J9 _ _ _ _::Rs):=A4.all (L:=[]) j
 have l:=((k.nil 3 1).nil 5 1).nil 5 1
 exact l.perm (List.perm_middle (l₁:=[_,_,_,_]))
theorem V1f (most:Int) (hM:M < Y5) (hm:max most 0=(M:Int)) (h:A4 w0 w Rs):
  Calls Tryz.prog 67 #[.int .i64 most] w fun e w'=>∃B:Nat,e= .returned (.pointer (some ⟨B,0,none⟩))∧A4 w0 w' (Z20 (.whole B 100) M (.run .hd [] [])::Rs):=by
 have a:=A5 (W3a hM h)
 clear h
 by_cases f:(0:Int) < most
 ·obtain rfl:most=(M:Int):=by omega
  clear hm
  go_enter Tryz.func67,Tryz.ntmps67
  go_wp2
  all_goals go_ret
  all_goals first | exact ⟨_,rfl,a.out⟩ | omega
 obtain rfl:M=0:=by omega
 have d:most≤0:=by omega
 have b:Hid (A4 w0 (w.alloc (.cells #[.slice none 0 0,.int .u64 0,.int .i64 0,.slice none 0 0,.int .i64 0,.int .i64 0,.slice none 0 0,.int .i64 0,.bool false,.int .i64 0,.int .i64 0,.int .i64 0,.int .i64 0,.int .i64 0,.pointer none,.slice none 0 0,.pointer none,.pointer none,.pointer none,.pointer none,.int .i64 0] 100)) _):=A5 a.out
 clear hm a
 go_enter Tryz.func67,Tryz.ntmps67
 go_wp2
 all_goals go_ret
 all_goals first | exact ⟨_,rfl,b.out⟩ | (obtain rfl:most=0:=(by omega);exact ⟨_,rfl,b.out⟩) | omega
theorem MOk.fed {ph:Ph} {l o:List Nat} (h:MOk ph l o) (news:List Nat):MOk ph (l++D7 news) o:=by
 refine ⟨D8 h.bits (M8 _),h.byt, ?_⟩
 have:=h.ph
 cases ph with
 | sto b n=>exact ⟨by have:=this.1;rw [T0a,E1];omega,this.2⟩
 | _=>exact this
theorem Z0h.fed {c:DC} {ls:List Int} {Ts:List (List Int×Nat)} {ph:Ph} {l o got:List Nat} (h:Z0h M c ls Ts ph l o got) (news:List Nat) (hl:(l++D7 news).length < Y5):Z0h M c ls Ts ph (l++D7 news) o got:=
 ⟨h.cell,h.fx,h.ok.fed news,h.most,h.big,hl,h.got,h.room,h.top⟩
theorem W53 (b:Value) (n:Nat) (news:List Nat) (ph:Ph) (l o:List Nat) (h:A4 w0 w (Z20 p M (.run ph l o)::Rs)) (hv:∀w',A4 w0 w' Rs→Rd w' 1 b n (D9 news)) (hb:∀x∈news,x < 256) (hn:n=news.length) (hl:(l++D7 news).length < Y5):
  Calls Tryz.prog 24 #[.pointer (some ⟨p.b,p.o,none⟩),b] w fun e w'=>e= .returned (.tuple #[])∧A4 w0 w' (Z20 p M (.run ph (l++D7 news) o)::Rs):=by
 obtain ⟨x,a,f⟩:=Z65 h
 obtain ⟨c,v,bs,i,Ts⟩:=x
 have f:A4 w0 w (P8 p c v bs l o [] i Ts Rs):=f
 have a:Z0h M (Y7a c) i Ts ph l o []:=a
 have g:=Y6n f
 have k:c.st≠8:=X7b (c:=Y7a c) a.cell
 rw [show X57 c=false by unfold X57;exact decide_eq_false (fun h=>k h.1)] at g
 have d:l.length < 1099511600000∧n < 1099511627776:=by rw [T0a,E1] at hl;unfold Y5 at hl;constructor <;> omega
 have m:Calls Tryz.prog 41 #[.pointer (some ⟨p.b,p.o,none⟩),b] w _:=V5w (B:=J0 p c) (V3y f) b n news (hv w h.drop) hb d.2 d.1
 have q:=A5 m
 have r:=A5 g
 have t:=A5 (And.intro a hl)
 clear h f g a hv hl d k m
 go_enter Tryz.func24,Tryz.ntmps24
 go_wp2_with fail
 with_reducible refine r.out.mono ?_
 rintro e w2 ⟨rfl,rfl⟩
 go_wp2_with fail
 with_reducible refine q.out.mono ?_
 rintro e w2 ⟨rfl,y⟩
 have z:=A5 y
 clear y q r
 go_wp2
 go_end0
 refine ⟨rfl, ?_⟩
 obtain ⟨v',j,h3⟩:=V2x z.out
 exact Z48 (s:= .run ph (l++D7 news) o) ⟨c,v',j,i,Ts⟩ (t.out.1.fed news t.out.2) h3
theorem V1r (er:Nat) (l:List Nat) (n:Nat) (hn:0 < n) (h:A4 w0 w (Z20 p M (.fin er l)::Rs)):
  Calls Tryz.prog 68 #[.pointer (some ⟨p.b,p.o,none⟩),.int .i64 (n:Int)] w fun e w'=>∃ (x:Value),e= .returned (.tuple #[x,.int .i64 (er:Int)])∧
   A4 w0 w' (B0 5 1 x 0 (D9 [])::Z20 p M (.fin er l)::Rs):=by
 obtain ⟨x,a,d⟩:=Z65 h
 obtain ⟨c,v,m,ls,Ts⟩:=x
 obtain ⟨a,q⟩:X1r c er l∧ls=[]:=a
 subst q
 have d:A4 w0 w (P8 p c v m l [] [] [] Ts Rs):=d
 have f5:w.frozen? ⟨p.b,p.o+3+2,none⟩=false:=Y4 d 5
 have c5:w.cell? ⟨p.b,p.o+3+2,none⟩=some (.int .i64 c.room):=F0 d 5 _ rfl
 have g:=Z2q d 5 (.int .i64 (n:Int)) {c with room:=(n:Int)} rfl
 have z:(w.setCell ⟨p.b,p.o+3+2,none⟩ (.int .i64 (n:Int))).cell? ⟨p.b,p.o+3+2,none⟩=some (.int .i64 (n:Int)):=F0 g 5 _ rfl
 have HS:=A5 (V0k g er a.st a.en)
 have i:A4 w0 _ (P8 p {c with room:=(n:Int)} v m l [] [] [] Ts Rs):=g
 obtain ⟨ao,a7,r,_,_⟩:=i.third.own.form
 have j:=A5 (Y16 i)
 rw [r] at j
 have hz:er≠0:=by have:=a.kind;omega
 have a1:((er:Int)==0)=false:=by simp;omega
 have a2:¬(er:Int)=0:=by omega
 have a3:((er:Int) != 0)=true:=by simp;omega
 have f:=A5 a
 clear h d g a i
 go_enter Tryz.func68,Tryz.ntmps68
 go_wp2
 go_loopg [6] 2 (fun gg t6 wr=>∃k:Nat,t6= .int .i64 (k:Int)∧Hid (wr=w.setCell ⟨p.b,p.o+3+2,none⟩ (.int .i64 (n:Int))∧(k=0∧1 < gg∨k=er∧0 < gg)))
 case atStart=>exact ⟨0,rfl,A5 ⟨rfl,.inl ⟨rfl,by decide⟩⟩⟩
 case round=>
  obtain ⟨k,rfl,t⟩:=hrel
  obtain ⟨rfl,⟨rfl,hg⟩ | ⟨rfl,hg⟩⟩:=t.out
  ·clear t
   go_wp2_with fail
   with_reducible refine HS.out.mono ?_
   rintro e w3 ⟨rfl,rfl⟩
   go_wp2
   go_roundg (gk-1)
   case measure=>omega
   case rel=>exact ⟨er,rfl,A5 ⟨rfl,.inr ⟨rfl,by omega⟩⟩⟩
  clear t
  go_wp2_with fail
  with_reducible refine j.out.mono ?_
  rintro e w3 ⟨rfl,y⟩
  have H4:=A5 y
  clear y j
  go_wp2
  go_ret2
  exact ⟨_,rfl,(Z48 (s:= .fin k l) ⟨{c with room:=(n:Int),lv:= .slice none 0 0},v,m,[],Ts⟩ ⟨⟨f.out.st,f.out.en,f.out.kind,f.out.bits,f.out.len,f.out.left⟩,rfl⟩ (Z5r H4.out)).swap⟩
def Q9 (l:List Nat):List Nat:=D4 (l.drop (l.length%8))
theorem W8j (l:List Nat) (h:l.length < Y5):Z49 l 9223372036854775807=(Q9 l).length:=by
 unfold Z49 Q9
 rw [O7]
 unfold Y5 at h
 have:(l.drop (l.length%8)).length≤l.length:=by rw [T03];omega
 omega
theorem V1y (er:Nat) (l:List Nat) (h:A4 w0 w (Z20 p M (.fin er l)::Rs)):
  Calls Tryz.prog 69 #[.pointer (some ⟨p.b,p.o,none⟩)] w fun e w'=>∃ (x:Value),e= .returned x∧
   A4 w0 w' (B0 5 1 x (Q9 l).length (D9 (Q9 l))::Z20 p M (.fin er ((l.drop (l.length%8)).drop (8*(Q9 l).length)))::Rs):=by
 obtain ⟨x,a,f⟩:=Z65 h
 obtain ⟨c,v,m,q,Ts⟩:=x
 obtain ⟨a,i⟩:X1r c er l∧q=[]:=a
 subst i
 have f:A4 w0 w (P8 p c v m l [] [] [] Ts Rs):=f
 have r:w.cell? ⟨p.b,p.o+7,none⟩=some (.int .i64 8):=by
  have:=F0 f 7 _ rfl
  rw [this,a.st];rfl
 have g:=V4w f 9223372036854775807 a.len
 rw [W8j l a.len,show (D4 (l.drop (l.length%8)))=Q9 l from rfl,List.take_length] at g
 have j:=A5 g
 have d:=A5 a
 clear h f a g
 go_enter Tryz.func69,Tryz.ntmps69
 go_wp2_with fail
 with_reducible refine j.out.mono ?_
 rintro e t ⟨x,rfl,k⟩
 have n:=A5 k
 clear k j
 go_wp2
 go_ret
 refine ⟨x,rfl,(Z48 (s:= .fin er _) ⟨c,v,m,[],Ts⟩ ⟨⟨d.out.st,d.out.en,d.out.kind,F3 (F3 d.out.bits _) _, ?_,fun h=> ?_⟩,rfl⟩ (Z5r n.out)).swap⟩
 ·have:=d.out.len
  simp only [T03]
  omega
 rw [d.out.left h]
 rfl
end
def adl (p:Nat×Nat) (l:List Nat):Nat×Nat:=l.foldl (fun p b=>((p.1+b)%65521,(p.2+(p.1+b)%65521)%65521)) p
theorem W9o (p:Nat×Nat) (b:Nat) (l:List Nat):adl p (b::l)=adl ((p.1+b)%65521,(p.2+(p.1+b)%65521)%65521) l:=rfl
theorem Z9f (p:Nat×Nat) (l m:List Nat):adl p (l++m)=adl (adl p l) m:=by simp [adl]
theorem W9i (p:Nat×Nat) (l:List Nat) (b:Nat):adl p (l++[b])=(((adl p l).1+b)%65521,((adl p l).2+((adl p l).1+b)%65521)%65521):=by rw [Z9f];rfl
theorem V21 {p:Nat×Nat} (h1:p.1 < 65521) (h2:p.2 < 65521) (l:List Nat):(adl p l).1 < 65521∧(adl p l).2 < 65521:=by
 induction l generalizing p with
 | nil=>exact ⟨h1,h2⟩
 | cons b l ih=>exact ih (T00 _ (by decide)) (T00 _ (by decide))
theorem Y70 {k:IntKind} {a b:Int} (h:a=b):Ending.returned (.int k a)= .returned (.int k b):=by rw [h]
theorem Z78 (l:List Nat) (k b:Nat) (h:l[k]?=some b):l.take (k+1)=l.take k++[b]:=by
 rw [List.take_add_one,h];rfl
theorem X36 (c:Nat) (v:Value) (l:List Nat) (w:World) (hc:c < 4294967296) (hv:Rd w 1 v l.length (D9 l)) (hb:∀b∈l,b < 256) (hl:l.length < 1000000000):
  Calls Tryz.prog 23 #[.int .u32 (c:Int),v] w fun e w'=>
   e= .returned (.int .u32 (((adl (c%65536%65521,c / 65536%65521) l).2*65536+(adl (c%65536%65521,c / 65536%65521) l).1:Nat):Int))∧w=w':=by
 obtain ⟨ao,b8,rfl,_,_⟩:=hv.form
 obtain ⟨n,hn⟩:∃n,n=l.length:=⟨_,rfl⟩
 rw [←hn] at hv hl⊢
 have HN:=A5 hn
 obtain ⟨o,s⟩:∃o,o=c%65536%65521:=⟨_,rfl⟩
 obtain ⟨p,t⟩:∃p,p=c / 65536%65521:=⟨_,rfl⟩
 have a2:(c:Int)%65536%65521=(o:Int):=by omega
 have a3:(c:Int) / 65536%65521=(p:Int):=by omega
 have a4:o < 65521:=by omega
 have a5:p < 65521:=by omega
 rw [←s,←t]
 clear hn s t
 go_enter Tryz.func23,Tryz.ntmps23
 go_wp2
 rw [a2,a3]
 go_loopg [5,6,7] (n+1) (fun k t5 t6 t7 wr=>∃ (i x y:Nat),i≤n∧n-i < k∧t7= .int .i64 (i:Int)∧t5= .int .u32 (x:Int)∧t6= .int .u32 (y:Int)∧x < 65521∧y < 65521∧Hid (adl (o,p) (l.take i)=(x,y))∧wr=w)
 case atStart=>exact ⟨0,o,p,by omega,by omega,rfl,rfl,rfl,a4,a5,rfl,rfl⟩
 case round=>
  obtain ⟨i,x,y,hi,hk,rfl,rfl,rfl,hx,hy,HP,rfl⟩:=hrel
  by_cases b7:i < n
  ·obtain ⟨g,b9,rfl,a⟩:=hv.spot (by omega)
   obtain ⟨b,d⟩:∃b,l[i]?=some b:=⟨l[i]'(by have:=HN.out;omega),T05 _⟩
   have a6:=hb b (T0b d)
   have b3:=a i _ (by rw [Z3,d];rfl)
   have b4:(0:Int)≤(i:Int):=T06 _
   have a7:(i:Int) < (n:Int):=by omega
   obtain ⟨m,z⟩:∃m,m=(x+b)%65521:=⟨_,rfl⟩
   obtain ⟨y2,a1⟩:∃y2,y2=(y+m)%65521:=⟨_,rfl⟩
   have f:((x:Int)+(b:Int))%65521=(m:Int):=by omega
   have j:((y:Int)+(m:Int))%65521=(y2:Int):=by omega
   have q:m < 65521:=by omega
   have r:y2 < 65521:=by omega
   have HT:=A5 (Z78 l i b d)
   have a8:=A5 z
   have a9:=A5 a1
   clear a d z a1
   go_wp2
   go_roundg (gk-1)
   case measure=>omega
   case rel=>exact ⟨i+1,m,y2,by omega,by omega,by go_num,by first | rfl | rw [f],by first | rfl | rw [j] | rw [f,j],q,r,by unfold Hid;rw [HT.out,W9i,HP.out,←a8.out,←a9.out],rfl⟩
  have a7:¬(i:Int) < (n:Int):=by omega
  have HL:=A5 (T04 (l:=l) (i:=i) (by have:=HN.out;omega))
  go_wp2
  go_ret
  exact ⟨Y70 (by rw [←HL.out,HP.out];first | done | go_num),rfl⟩
theorem X9j (x:Nat) (w:World) (hx:x < 4294967296):
  Calls Tryz.prog 49 #[.int .u32 (x:Int)] w fun e w'=>e= .returned (.tuple #[.int .u64 ((x%65536%65521:Nat):Int),.int .u64 ((x / 65536%65521:Nat):Int)])∧w=w':=by
 have d:=u32_and_nat x 65535 hx (by decide)
 rw [nat_mask16] at d
 obtain ⟨a,b⟩:∃a,a=x%65536:=⟨_,rfl⟩
 have g:bits .and .u32 (x:Int) 65535=(a:Int):=by rw [b];exact d
 obtain ⟨y,f⟩:∃y,y=x / 65536:=⟨_,rfl⟩
 have i:(x:Int) / 65536=(y:Int):=by omega
 have j:a < 65536:=by omega
 have k:y < 65536:=by omega
 rw [←b,←f]
 clear d b f
 go_enter Tryz.func49,Tryz.ntmps49
 go_wp2
 go_ret2
 exact ⟨rfl,rfl⟩
theorem X7n (x y:Nat) (w:World) (hx:x < 65536) (hy:y < 65536):
  Calls Tryz.prog 50 #[.int .u64 (x:Int),.int .u64 (y:Int)] w fun e w'=>e= .returned (.int .u32 ((y*65536+x:Nat):Int))∧w=w':=by
 have a:bits .or .u64 ((y*65536:Nat):Int) (x:Int)=((y*65536+x:Nat):Int):=by
  rw [u64_or_nat _ _ (by omega) (by omega),nat_join 16 (y*65536) x (by omega) (by omega)]
 have d:=A5 a
 clear a
 go_enter Tryz.func50,Tryz.ntmps50
 go_wp2
 go_ret
 exact ⟨Y70 (by have b:=d.out;rw [Int.natCast_mul] at b;show bits .or .u64 ((y:Int)*((65536:Nat):Int)) (x:Int)%4294967296=_;rw [b];omega),rfl⟩
def raw (p:Nat×Nat) (l:List Nat):Nat×Nat:=l.foldl (fun p b=>(p.1+b,p.2+(p.1+b))) p
theorem V1q (p:Nat×Nat) (l:List Nat) (b:Nat):raw p (l++[b])=((raw p l).1+b,(raw p l).2+((raw p l).1+b)):=by simp [raw]
theorem V4l (l:List Nat):∀x y:Nat,((raw (x,y) l).1%65521,(raw (x,y) l).2%65521)=adl (x%65521,y%65521) l:=by
 induction l with
 | nil=>intro x y;rfl
 | cons b l ih=>
  intro x y
  rw [W9o]
  have h:=ih (x+b) (y+(x+b))
  show ((raw (x+b,y+(x+b)) l).1%65521,(raw (x+b,y+(x+b)) l).2%65521)=_
  rw [h]
  congr 2
  ·show (x+b)%65521=(x%65521+b)%65521
   omega
  show (y+(x+b))%65521=(y%65521+(x%65521+b)%65521)%65521
  omega
theorem V66 (l:List Nat) (hb:∀b∈l,b < 256):∀x y:Nat,(raw (x,y) l).1≤x+255*l.length∧(raw (x,y) l).2≤y+l.length*(x+255*l.length):=by
 induction l with
 | nil=>intro x y;simp [raw]
 | cons b l ih=>
  intro x y
  have h:=ih (fun c hc=>hb c (by simp [hc])) (x+b) (y+(x+b))
  have a:=hb b (by simp)
  show (raw (x+b,y+(x+b)) l).1≤_∧(raw (x+b,y+(x+b)) l).2≤_
  rw [List.length_cons]
  refine ⟨by omega, ?_⟩
  have d:l.length*(x+b+255*l.length)≤l.length*(x+255*(l.length+1)):=Nat.mul_le_mul_left _ (by omega)
  have f:(l.length+1)*(x+255*(l.length+1))=l.length*(x+255*(l.length+1))+(x+255*(l.length+1)):=by rw [Nat.add_mul,Nat.one_mul]
  omega
theorem V5o (l:List Nat) (hb:∀b∈l,b < 256) (hl:l.length≤1048576) (x y:Nat) (hx:x < 65521) (hy:y < 65521):(raw (x,y) l).1 < 300000000∧(raw (x,y) l).2 < 300000000000000:=by
 have h:=V66 l hb x y
 have a:l.length*(x+255*l.length)≤1048576*267452401:=Nat.mul_le_mul hl (by omega)
 omega
theorem V4a (x y:Nat) (l:List Nat) (hx:x < 65521) (hy:y < 65521):adl (x,y) l=((raw (x,y) l).1%65521,(raw (x,y) l).2%65521):=by
 rw [V4l,Nat.mod_eq_of_lt hx,Nat.mod_eq_of_lt hy]
theorem W5o:(Tryz.prog.info? 5).map (fun i=>(i.zero,i.size,i.bytes))=some (some (.int .u8 0),1,1):=by kernel_rfl
def K6 (c:Nat) (l:List Nat):Nat:=(adl (c%65536%65521,c / 65536%65521) l).2*65536+(adl (c%65536%65521,c / 65536%65521) l).1
theorem Y9b (c:Nat) (v:Value) (l:List Nat) (w:World) (hc:c < 4294967296) (hv:Rd w 1 v l.length (D9 l)) (hb:∀b∈l,b < 256) (hl:l.length < 1000000000):
  Calls Tryz.prog 29 #[.int .u32 (c:Int),v] w fun e w'=>e= .returned (.int .u32 ((K6 c l:Nat):Int))∧w=w':=by
 obtain ⟨ao,c3,rfl,_,_⟩:=hv.form
 obtain ⟨n,hn⟩:∃n,n=l.length:=⟨_,rfl⟩
 obtain ⟨x0,b4⟩:∃x0,x0=c%65536%65521:=⟨_,rfl⟩
 obtain ⟨y0,b5⟩:∃y0,y0=c / 65536%65521:=⟨_,rfl⟩
 have d0:x0 < 65521:=by omega
 have d1:y0 < 65521:=by omega
 unfold K6
 rw [←b4,←b5]
 have d2:=A5 b4
 have d3:=A5 b5
 have HV:Hid (Rd w 1 (.slice ao n c3) n (D9 l)):=by unfold Hid;rw [hn];exact hv
 rw [←hn] at hl⊢
 have HN:=A5 hn
 clear hn hv b4 b5
 obtain ⟨i,hi,g4,c4,g5⟩:=info_parts W5o
 have HC:=A5 (X9j c w hc)
 rw [←d2.out,←d3.out] at HC
 go_enter Tryz.func29,Tryz.ntmps29
 go_wp2_with fail
 refine HC.out.mono ?_
 rintro e w' ⟨rfl,rfl⟩
 go_wp2
 clear HC
 go_loopg [1,5,6] (n+1) (fun k t1 t5 t6 wr=>∃ (o m x y:Nat) (a':Option Addr) (a:Nat),o+m=n∧m < k∧t1= .slice a' m a∧t5= .int .u64 (x:Int)∧t6= .int .u64 (y:Int)∧x < 65521∧y < 65521∧Hid (Rd w 1 (.slice a' m a) m (D9 (l.drop o)))∧Hid (adl (x0,y0) (l.take o)=(x,y))∧wr=w)
 case atStart=>exact ⟨0,n,x0,y0,ao,c3,by omega,by omega,rfl,rfl,rfl,d0,d1,HV,rfl,rfl⟩
 case round=>
  obtain ⟨o,m,x,y,a',a,c6,g6,rfl,rfl,rfl,hx,hy,HR,HA,rfl⟩:=hrel
  have f3:(0:Int)≤(m:Int):=T06 _
  by_cases e2:0 < m
  rotate_left
  ·have a7:¬(0:Int) < (m:Int):=by omega
   have HM:Hid (n≤o):=by unfold Hid;omega
   have e0:=A5 (X7n x y wr (by omega) (by omega))
   go_wp2_with fail
   refine e0.out.mono ?_
   rintro e w' ⟨rfl,rfl⟩
   go_wp2
   go_ret
   refine ⟨Y70 ?_,rfl⟩
   have h1:=HA.out
   rw [T04 (by have h1:=HN.out;have h2:=HM.out;omega)] at h1
   rw [h1]
   simp
  have a7:(0:Int) < (m:Int):=by omega
  obtain ⟨q,hq⟩:∃q,q=min m 1048576:=⟨_,rfl⟩
  have f4:(if (1048576:Int) < (m:Int) then (1048576:Int) else (m:Int))=(q:Int):=by
   by_cases h:(1048576:Int) < (m:Int)
   ·rw [if_pos h];omega
   rw [if_neg h];omega
  have b8:q≤m:=by omega
  have e1:q≤1048576:=by omega
  have f5:0 < q:=by omega
  have HQ:=A5 hq
  have a0:=A5 c6
  clear hq c6
  have f6:m < 1000000000:=by have:=a0.out;omega
  obtain ⟨wo,rfl⟩:∃wo:World,wo=wr:=⟨_,rfl⟩
  obtain ⟨gx,rfl⟩:∃g,g=gk:=⟨gk,rfl⟩
  go_wp2_with ((with_reducible show wpList _ _ _ (⟨some 23,_,_,_,_,_⟩::_) _ _);refine Z5j (w:=wo) rfl 26 (.tmp 21) none (some (.tmp 22)) rfl 5 i 1 Tryz.underlying26 hi c4 a' m a 0 q (D9 (l.drop o)) rfl HR.out rfl ⟨_,rfl⟩ (T01 _) b8 ?_;simp only [Nat.sub_zero,T07,T08];intro a2 a5 _)
  obtain ⟨L,hL⟩:∃L,L=(l.drop o).take q:=⟨_,rfl⟩
  have b9:L.length=q:=by have h1:=a0.out;have h2:=HN.out;rw [hL,T0c,T03];omega
  have c1:∀b∈L,b < 256:=fun b hb'=>hb b (T0d (T0e (hL ▸ hb')))
  have d6:Hid (Rd wo 1 (.slice a2 q a) q (D9 L)):=by
   unfold Hid;rw [hL];simpa [D9,List.map_take] using a5
  have HL:=A5 hL
  have a9:=A5 b9
  have c2:=A5 c1
  clear hL b9 c1 a5
  go_loopg [5,6,25] (q+1) (fun k t5 t6 t25 wr=>∃ (j X Y:Nat),j≤q∧q-j < k∧t25= .int .i64 (j:Int)∧t5= .int .u64 (X:Int)∧t6= .int .u64 (Y:Int)∧X < 300000000∧Y < 300000000000000∧Hid (raw (x,y) (L.take j)=(X,Y))∧wr=wo)
  case atStart=>exact ⟨0,x,y,by omega,by omega,rfl,rfl,rfl,by omega,by omega,rfl,rfl⟩
  case round=>
   obtain ⟨j,X,Y,hj,g8,rfl,rfl,rfl,hX,hY,HP,rfl⟩:=hrel
   have f8:(0:Int)≤(j:Int):=T06 _
   by_cases g2:j < q
   ·obtain ⟨g,g9,rfl,s⟩:=d6.out.spot (by omega)
    obtain ⟨b,a4⟩:∃b,L[j]?=some b:=⟨L[j]'(by have:=a9.out;omega),T05 _⟩
    have d7:=c2.out b (T0b a4)
    have f9:=s j _ (by rw [Z3,a4];rfl)
    have d8:(j:Int) < (q:Int):=by omega
    obtain ⟨d,t⟩:∃d,d=X+b:=⟨_,rfl⟩
    obtain ⟨r,z⟩:∃r,r=Y+d:=⟨_,rfl⟩
    have f:(X:Int)+(b:Int)=(d:Int):=by omega
    have p:(Y:Int)+(d:Int)=(r:Int):=by omega
    have HT:=A5 (Z78 L j b a4)
    have b0:raw (x,y) (L.take (j+1))=(d,r):=by rw [HT.out,V1q,HP.out,←t,z]
    have a1:=V5o (L.take (j+1)) (fun c hc=>c2.out c (T0e hc)) (by have:=a9.out;rw [T0c];omega) x y hx hy
    rw [b0] at a1
    have b1:d < 300000000:=a1.1
    have b2:r < 300000000000000:=a1.2
    have b3:=A5 b0
    clear s a4 t z b0 a1
    go_wp2
    go_roundg (gk-1)
    case measure=>omega
    case rel=>exact ⟨j+1,d,r,by omega,by omega,by go_num,by first | rfl | rw [f],by first | rfl | rw [f,p] | rw [p],b1,b2,b3,rfl⟩
   obtain rfl:j=q:=by omega
   have d8:¬(j:Int) < (j:Int):=by omega
   obtain ⟨d,t⟩:∃d,d=X%65521:=⟨_,rfl⟩
   obtain ⟨r,z⟩:∃r,r=Y%65521:=⟨_,rfl⟩
   have f:(X:Int)%65521=(d:Int):=by omega
   have p:(Y:Int)%65521=(r:Int):=by omega
   have b1:d < 65521:=by omega
   have b2:r < 65521:=by omega
   have b3:Hid (adl (x0,y0) (l.take (o+j))=(d,r)):=by
    unfold Hid
    have h1:l.take (o+j)=l.take o++L:=by rw [HL.out,List.take_add]
    have h2:=HP.out
    rw [T04 (by have:=a9.out;omega)] at h2
    rw [h1,Z9f,HA.out,V4a x y L hx hy,h2,t,z]
   clear t z
   go_wp2_with ((with_reducible show wpList _ _ _ (⟨some 43,_,_,_,_,_⟩::_) _ _);refine Z5j rfl 26 (.tmp 41) (some (.tmp 42)) none rfl 5 i 1 Tryz.underlying26 hi c4 a' m a j m (D9 (l.drop o)) rfl HR.out ⟨_,rfl⟩ rfl b8 (T02 _) ?_;intro a3 a6 _)
   have d9:Hid (Rd wr 1 (.slice a3 (m-j) (a-j)) (m-j) (D9 (l.drop (o+j)))):=by
    unfold Hid
    have e:D9 (l.drop (o+j))=((D9 (l.drop o)).drop (j*1)).take ((m-j)*1):=by
     have h1:=a0.out
     have h2:=HN.out
     rw [T07,T07]
     unfold D9
     rw [←List.map_drop,List.drop_drop,T04 (by simp;omega)]
    rw [e];exact a6
   clear a6
   go_roundg (gx-1)
   case measure=>omega
   case rel=>exact ⟨o+j,m-j,d,r,a3,a-j,by have:=a0.out;omega,by omega,rfl,by first | rfl | rw [f],by first | rfl | rw [p],b1,b2,d9,b3,rfl⟩
theorem Y1l (c:Nat) (l m:List Nat):K6 c (l++m)=K6 (K6 c l) m:=by
 unfold K6
 have h:=V21 (p:=(c%65536%65521,c / 65536%65521)) (T00 _ (by decide)) (T00 _ (by decide)) l
 rw [Z9f]
 obtain ⟨p,d⟩:∃p,p=adl (c%65536%65521,c / 65536%65521) l:=⟨_,rfl⟩
 rw [←d] at h⊢
 obtain ⟨x,y⟩:=p
 simp only at h⊢
 have a:(y*65536+x)%65536%65521=x:=by omega
 have b:(y*65536+x) / 65536%65521=y:=by omega
 rw [a,b]
def beB (v:Nat):List Nat:=[v / 16777216%256,v / 65536%256,v / 256%256,v%256]
def adB (o:List Nat):List Nat:=beB (K6 1 o)
theorem Y01 (v:Nat):(beB v).length=4:=rfl
theorem X2d (v:Nat):∀b∈beB v,b < 256:=fun b hb=>by
 simp only [beB,List.mem_cons,List.mem_nil_iff,or_false] at hb
 omega
theorem Y5b (o:List Nat):K6 1 o < 4294967296:=by
 unfold K6
 have h:=V21 (p:=(1%65536%65521,1 / 65536%65521)) (T00 _ (by decide)) (T00 _ (by decide)) o
 omega
def Z5i (a:Nat):Bool:=decide (a%16=8∧a / 16≤7)
def Z8w (a b:Nat):Bool:=decide ((256*a+b)%31=0∧b / 32%2=0)
def zhd:List Nat→Nat
 | []=>5
 | [a]=>if Z5i a then 5 else 2
 | a::b::_=>if Z5i a && Z8w a b then 0 else 2
def Z4w (cl:Bool) (l:List Nat):Nat:=if l=[] then (if cl then 8 else 5) else 2
def Z44 (cl:Bool) (o r:List Nat):Nat:=if r.length < 4 then 5 else if r.take 4=adB o then Z4w cl (r.drop 4) else 4
def X1z (cl:Bool) (M:Nat) (ph:Ph) (L o out:List Nat) (e:Nat):Prop:=
 ∃e0 l',Z2 M ph L o e0 l' (o++out)∧(e0≠8∧e=e0∨e0=8∧e=Z44 cl (o++out) (Q9 l'))
def W6u (cl:Bool) (e0:Nat) (L o out:List Nat) (e:Nat):Prop:=out=[]∧(e0≠8∧e=e0∨e0=8∧e=Z44 cl o (Q9 L))
def Z42 (cl:Bool) (M:Nat) (l out:List Nat) (e:Nat):Prop:=zhd l≠0∧e=zhd l∧out=[]∨zhd l=0∧X1z cl M .hd (D7 (l.drop 2)) [] out e
theorem Z42.det {cl:Bool} {M e e':Nat} {l o o':List Nat} (h:Z42 cl M l o e) (h2:Z42 cl M l o' e'):o=o'∧e=e':=by
 rcases h with ⟨h0,rfl,rfl⟩ | ⟨h0,e0,l1,hE,hT⟩
 ·rcases h2 with ⟨_,rfl,rfl⟩ | ⟨h1,_⟩
  ·exact ⟨rfl,rfl⟩
  exact absurd h1 h0
 rcases h2 with ⟨h1,_⟩ | ⟨_,e1,l2,hE2,hT2⟩
 ·exact absurd h0 h1
 obtain ⟨rfl,rfl,a⟩:=hE.det hE2
 have a:o=o':=a
 subst a
 refine ⟨rfl, ?_⟩
 rcases hT with ⟨h4,rfl⟩ | ⟨h4,rfl⟩ <;> rcases hT2 with ⟨h5,rfl⟩ | ⟨h5,rfl⟩ <;> first | rfl | exact absurd h4 h5 | exact absurd h5 h4
theorem Z2.growsZ {M:Nat} {p:Ph} {l l' o o':List Nat} {e:Nat} (h:Z2 M p l o e l' o') (hm:MOk p l o):∃t,o'=o++t:=(hm.ends h).2
theorem Z2.leZ {M:Nat} {p:Ph} {l l' o o':List Nat} {e:Nat} (h:Z2 M p l o e l' o') (ho:o.length≤M):o'.length≤M:=by
 induction h with
 | done _=>exact ho
 | err _=>exact ho
 | go hs _ ih=>
  refine ih ?_
  rcases Nat.lt_or_ge M _ with h1 | h1
  ·have a:=(X0n (T02 M) hs).2 h1 ho
   rw [hs] at a
   cases a
  exact h1
section
variable {cl:Bool} {M e:Nat} {ph ph':Ph} {l l' l2 o t out:List Nat}
theorem X1z.on (h:X1z cl M ph l o out e) (hm:MOk ph l o) (hr:S8 M ph l o ph' l' (o++t)):∃out',out=t++out'∧X1z cl M ph' l' (o++t) out' e:=by
 obtain ⟨g,i,j,b⟩:=h
 have a:=Z2.behind hr j
 obtain ⟨d,f⟩:=a.growsZ (hm.reach hr).1
 rw [f] at a b
 obtain rfl:out=t++d:=List.append_cancel_left (by rw [f,List.append_assoc])
 exact ⟨d,rfl,g,i,a,b⟩
theorem X1z.done (h:X1z cl M ph l o out e) (hd:F9 M l o ph= .done l2):W6u cl 8 l2 o out e:=by
 obtain ⟨f,g,b,a⟩:=h
 obtain ⟨rfl,rfl,d⟩:=(Z2.done hd).det b
 obtain rfl:out=[]:=List.self_eq_append_right.1 d
 rw [List.append_nil] at a
 exact ⟨rfl,a⟩
theorem X1z.err {e1:Nat} {L:List Nat} (h:X1z cl M ph l o out e) (hd:F9 M l o ph= .err e1):W6u cl e1 L o out e∧out=[]∧e=e1:=by
 obtain ⟨g,i,b,d⟩:=h
 obtain ⟨rfl,rfl,f⟩:=(Z2.err hd).det b
 obtain rfl:out=[]:=List.self_eq_append_right.1 f
 have a:e1≠8:=by rcases V1 hd with h | h | h | h <;> omega
 rcases d with ⟨_,rfl⟩ | ⟨h9,_⟩
 ·exact ⟨⟨rfl,.inl ⟨a,rfl⟩⟩,rfl,rfl⟩
 exact absurd h9 a
end
theorem Y23 {G:List Nat} (hG:∀b∈G,b < 256) (k:Nat):Q9 ((D7 G).drop k)=G.drop ((k+7) / 8):=by
 unfold Q9
 have a:((D7 G).drop k).length=8*G.length-k:=by rw [T03,E1]
 rw [a]
 by_cases d:k≤8*G.length
 ·rw [List.drop_drop,show k+(8*G.length-k)%8=8*((k+7) / 8) by omega,Z9x]
  have:=Z0e (G.drop ((k+7) / 8)) [] (fun b hb=>hG b (T0d hb)) (by decide)
  rwa [List.append_nil] at this
 rw [T0f (l:=D7 G) (by rw [E1];omega),T0f (l:=G) (by omega),List.drop_nil]
 rfl
structure V79 (M:Nat) (l:List Nat) (e R:Nat) (O:List Nat):Prop where
 ends:(e≠0∧e≠8∧∃l',Z2 M .hd (D7 l) [] e l' O)∨(e=0∧∃l',Z2 M .hd (D7 l) [] 8 l' O∧Q9 l'=l.drop R∧R≤l.length)
 le:O.length≤M
 byt:∀b∈O,b < 256
theorem V45 {M:Nat} {l:List Nat} (hb:∀b∈l,b < 256):V79 M l (T6 (D7 l) M ((D7 l).length+1) 0 [] [] [] []).e (T6 (D7 l) M ((D7 l).length+1) 0 [] [] [] []).rest (T6 (D7 l) M ((D7 l).length+1) 0 [] [] [] []).out:=by
 rcases Z9w (M:=M) (M8 l) (by rw [E1];omega) ((D7 l).length+1) 0 [] [] [] [] (by omega) (T01 _) (T01 _) with ⟨h1,h2⟩ | ⟨h1,h2,h3,h4,h5,h6⟩
 ·rw [T08] at h2
  exact ⟨.inl ⟨h1.ne.1,h1.ne.2,_,h2⟩,h2.leZ (T01 _),((MOk.start (M8 _)).ends h2).1⟩
 rw [T08] at h6
 refine ⟨.inr ⟨h1,_,h6, ?_, ?_⟩,h4,((MOk.start (M8 _)).ends h6).1⟩
 ·rw [Y23 hb,h3]
 have d:(T6 (D7 l) M ((D7 l).length+1) 0 [] [] [] []).a≤8*l.length:=by
  rw [←E1]
  exact h2
 rw [h3]
 omega
structure W84 (S x:List Nat):Prop where
 byt:∀b∈S,b < 256
 xbyt:∀b∈x,b < 256
 ends:∀N r,x.length≤N→(∀b∈r,b < 256)→∃l',Z2 N .hd (D7 (S++r)) [] 8 l' x∧Q9 l'=r
theorem V2r {S x:List Nat} (hS:∀b∈S,b < 256) (h:∀N,x.length≤N→∃tk ks ss p,T6 (D7 S) N ((D7 S).length+1) 0 [] [] [] []=⟨0,p,x,tk,ks,ss,S.length⟩):W84 S x:=by
 have d:∀N,x.length≤N→∃a,Z2 N .hd (D7 S) [] 8 ((D7 S).drop a) x∧S.length=(a+7) / 8∧a≤8*S.length:=fun N hN=>by
  obtain ⟨tk,ks,ss,p,f⟩:=h N hN
  rcases Z9w (M:=N) (M8 S) (by rw [E1];omega) ((D7 S).length+1) 0 [] [] [] [] (by omega) (T01 _) (T01 _) with ⟨g,_⟩ | ⟨g,h3,h4,h5,h6,h7⟩
  ·rw [f] at g
   exact absurd rfl g.ne.1
  rw [f] at h3 h4 h7
  rw [E1] at h3
  exact ⟨_,h7,h4,h3⟩
 refine ⟨hS, ?_,fun N r hN hr=> ?_⟩
 ·obtain ⟨a,i,_⟩:=d x.length (T02 _)
  exact ((MOk.start (M8 _)).ends i).1
 obtain ⟨a,i,j,k⟩:=d N hN
 have f:=i.more (M8 r) (by rw [E1];omega) (MOk.start (M8 S)) (by decide)
 rw [if_pos rfl,←M7] at f
 refine ⟨_,f, ?_⟩
 have g:(D7 S).drop a++D7 r=(D7 (S++r)).drop a:=by rw [M7,List.drop_append_of_le_length (by rw [E1];omega)]
 rw [g,Y23 (fun b hb=>(List.mem_append.1 hb).elim (hS b) (hr b)),←j,List.drop_left]
def X05 (S:List Nat) (x:List Nat):List Nat:=120::156::(S++adB x)
theorem X83 {S x t:List Nat} {N:Nat} (hS:W84 S x) (hN:x.length≤N) (ht:∀b∈t,b < 256) (cl:Bool):Z42 cl N (120::156::(S++t)) x (Z44 cl x t):=by
 obtain ⟨a,d,f⟩:=hS.ends N t hN ht
 exact .inr ⟨show (if Z5i 120 && Z8w 120 156 then 0 else 2)=0 by decide,8,a,d,.inr ⟨rfl,by rw [f];rfl⟩⟩
def Y8o (l:List Nat):ByteArray:=⟨(l.map UInt8.ofNat).toArray⟩
def V23 (l:List Nat):Value:= .string (Y8o l)
def V02 (s:ByteArray):List Nat:=s.data.toList.map UInt8.toNat
section
variable {P:Program} {w:World}
theorem X22 (src dst e:TypeId) (hs:P.underlying src=some (.slice e)) (he:P.underlying e=some (.int .u8)) (hd:P.underlying dst=some .string) (v:Value) (l:List Nat) (n:Nat) (hv:Rd w 1 v n (D9 l)) (hb:∀b∈l,b < 256):
  (convert src dst v).run P w= .ok (V23 l) w:=by
 obtain ⟨k,o,d,rfl,p,q,r,g⟩:=hv
 have f:l.length=n:=by unfold D9 at k;rw [T09] at k;omega
 rcases g with rfl | ⟨b,off,rfl,g⟩
 ·obtain rfl:l=[]:=List.eq_nil_of_length_eq_zero f
  cases o with
  | none=>rw [run_convert_bytes_string w src dst e none 0 d hs he hd];rfl
  | some a=>exact run_convert_bytes_back w src dst e a d [] hs he hd (fun j hj=>absurd hj (Nat.not_lt_zero _))
 have i:=run_convert_bytes_back (P:=P) w src dst e ⟨b,off,none⟩ d (l.map UInt8.ofNat) hs he hd (fun j hj=>by
  rw [T09] at hj
  rw [Addr.add_lit]
  refine g j _ ?_
  have m:=hb l[j] (List.getElem_mem _)
  unfold D9
  rw [List.getElem?_map,T05 hj,List.getElem_map,UInt8.toNat_ofNat',show l[j]%2^8=l[j] by omega]
  rfl)
 rw [T09,f] at i
 exact i
theorem Z1j {ops:Array Oper} {rest:List Oper} {o:Oper} {ac:Act} {Q:Exit→Act→World→Prop} (hgd:o.guard=none) (src dst:TypeId) (x:Operand)
  (ho:o.op= .convert src dst x) (e:TypeId) (hs:P.underlying src=some (.slice e)) (he:P.underlying e=some (.int .u8)) (hd:P.underlying dst=some .string)
  (v:Value) (l:List Nat) (n:Nat) (hx:ac.eval x=v) (hv:Rd w 1 v n (D9 l)) (hb:∀b∈l,b < 256)
  (h:wpList P ops Q rest (ac.put o.dst (V23 l)) w):wpList P ops Q (o::rest) ac w:=by
 refine wpList_plain hgd fun K hK=> ?_
 have a:=X22 (P:=P) src dst e hs he hd v l n hv hb
 unfold Oper.wp execOp
 simp only [ho,hx,a,Sem.run_bind,Sem.run_pure,Result.andThen_ok]
 exact hK _ _ h
end
theorem V00 {a b:List Nat} (ha:∀x∈a,x < 256) (hb:∀x∈b,x < 256) (h:Y8o a=Y8o b):a=b:=by
 have d:∀l:List Nat,(∀x∈l,x < 256)→V02 (Y8o l)=l:=fun l hl=>by
  unfold V02 Y8o
  rw [List.map_map]
  conv=>rhs;rw [←List.map_id l]
  refine List.map_congr_left fun x hx=> ?_
  have:=hl x hx
  simp only [Function.comp,UInt8.toNat_ofNat',id,show x%2^8=x by omega]
 rw [←d a ha,←d b hb,h]
section
variable {w:World}
theorem V4c (x y:Value) (a b:List Nat) (n m:Nat) (hx:Rd w 1 x n (D9 a)) (hy:Rd w 1 y m (D9 b)) (ha:∀x∈a,x < 256) (hb:∀x∈b,x < 256):
  Calls Tryz.prog 70 #[x,y] w fun e w'=>e= .returned (.bool (decide (a=b)))∧w'=w:=by
 obtain ⟨t,z,rfl,_,_⟩:=hx.form
 obtain ⟨bo,bc,rfl,_,_⟩:=hy.form
 have j:=A5 (And.intro hx ha)
 have k:=A5 (And.intro hy hb)
 have q:=A5 (@V00 a b ha hb)
 clear hx hy ha hb
 by_cases d:a=b
 ·subst d
  rw [show decide (a=a)=true from decide_eq_true rfl]
  obtain ⟨s,i⟩:∃s,s=Y8o a:=⟨_,rfl⟩
  have l:=A5 (show V23 a= .string s by rw [i];rfl)
  clear i
  go_enter Tryz.func70,Tryz.ntmps70
  go_wp2_with (first
   | (refine Z1j rfl 26 9 (.tmp 5) rfl 5 Tryz.underlying26 Tryz.underlying5 Tryz.underlying9 _ a n rfl j.out.1 j.out.2 ?_;rw [l.out])
   | (refine Z1j rfl 26 9 (.tmp 7) rfl 5 Tryz.underlying26 Tryz.underlying5 Tryz.underlying9 _ a m rfl k.out.1 k.out.2 ?_;rw [l.out]))
  go_ret
  simp
 rw [show decide (a=b)=false from decide_eq_false d]
 have f:Y8o a≠Y8o b:=fun h=>d (q.out h)
 obtain ⟨s,i⟩:∃s,s=Y8o a:=⟨_,rfl⟩
 obtain ⟨o,g⟩:∃s,s=Y8o b:=⟨_,rfl⟩
 have l:=A5 (show V23 a= .string s by rw [i];rfl)
 have p:=A5 (show V23 b= .string o by rw [g];rfl)
 rw [←i,←g] at f
 have r:Hid ((s.toList==o.toList)=false):=by
  refine A5 ?_
  rw [ByteArray.toList_eq,ByteArray.toList_eq,beq_eq_false_iff_ne]
  intro h
  refine f ?_
  cases s;cases o
  exact congrArg _ (Array.toList_inj.1 h)
 clear i g d f
 go_enter Tryz.func70,Tryz.ntmps70
 go_wp2_with (first
  | (refine Z1j rfl 26 9 (.tmp 5) rfl 5 Tryz.underlying26 Tryz.underlying5 Tryz.underlying9 _ a n rfl j.out.1 j.out.2 ?_;rw [l.out])
  | (refine Z1j rfl 26 9 (.tmp 7) rfl 5 Tryz.underlying26 Tryz.underlying5 Tryz.underlying9 _ b m rfl k.out.1 k.out.2 ?_;rw [p.out]))
 go_ret
 exact ⟨by show Ending.returned (.bool (s.toList==o.toList))=_;rw [r.out],rfl⟩
end
theorem Z1o:(Tryz.prog.info? 5).map (fun i=>(i.zero,i.size,i.bytes))=some (some (.int .u8 0),1,1):=by kernel_rfl
def Z7 (iv:Value) (cl:Bool) (most st er:Nat) (sp:Option Addr) (sm:Nat):List Value:=
 [iv,.bool cl,.int .i64 (most:Int),.int .i64 (st:Int),.int .i64 (er:Int),.pointer sp,.int .u32 (sm:Int)]
def zdT (D:Nat) (iv:Value) (cl:Bool) (most st er:Nat) (sp:Option Addr) (sm:Nat):A6:=E8 D (Z7 iv cl most st er sp sm) 61
section
variable {w0 w:World} {Rs:List A6} {D:Nat} {l:List Nat} {iv:Value} {cl:Bool} {most st er sm:Nat} {sp:Option Addr}
theorem F7 (h:A4 w0 w (zdT D iv cl most st er sp sm::Rs)) (k:Nat) (u:Value) (hu:(Z7 iv cl most st er sp sm)[k]?=some u):w.cell? ⟨D,k,none⟩=some u:=h.obj.cell hu
theorem X5 (h:A4 w0 w (zdT D iv cl most st er sp sm::Rs)) (k:Nat):w.frozen? ⟨D,k,none⟩=false:=h.obj.frozen k
theorem Z18 (h:A4 w0 w (zdT D iv cl most st er sp sm::Rs)) (k:Nat) (u:Value) (cs:List Value) (hc:(Z7 iv cl most st er sp sm).set k u=cs):
  A4 w0 (w.setCell ⟨D,k,none⟩ u) (E8 D cs 61::Rs):=by
 rw [←hc]
 exact A4.setObj h k u
theorem Z5q (e0:Nat) (ki:Int) (hki:ki=(e0:Int)) (h:A4 w0 w (zdT D iv cl most st er sp sm::Rs)):
  Calls Tryz.prog 65 #[.pointer (some ⟨D,0,none⟩),.int .i64 ki] w fun e w'=>e= .returned (.int .i64 ki)∧
   A4 w0 w' (zdT D (.slice none 0 0) cl most 4 e0 none sm::Rs):=by
 subst hki
 have g:=F7 h 3 _ rfl
 have i:=X5 h 3
 have a:=Z18 h 3 (.int .i64 4) (Z7 iv cl most 4 er sp sm) rfl
 have j:=F7 a 4 _ rfl
 have k:=X5 a 4
 have b:=Z18 a 4 (.int .i64 (e0:Int)) (Z7 iv cl most 4 e0 sp sm) rfl
 have l:=F7 b 0 _ rfl
 have m:=X5 b 0
 have d:=Z18 b 0 (.slice none 0 0) (Z7 (.slice none 0 0) cl most 4 e0 sp sm) rfl
 have n:=F7 d 5 _ rfl
 have o:=X5 d 5
 have f:=A5 (Z18 d 5 (.pointer none) (Z7 (.slice none 0 0) cl most 4 e0 none sm) rfl)
 clear h a b d
 go_enter Tryz.func65,Tryz.ntmps65
 go_wp2
 go_ret
 exact ⟨rfl,f.out⟩
theorem Z7e (h:A4 w0 w (zdT D iv cl most st er sp sm::Rs)):
  Calls Tryz.prog 13 #[.pointer (some ⟨D,0,none⟩)] w fun e w'=>e= .returned (.tuple #[])∧A4 w0 w' (zdT D iv true most st er sp sm::Rs):=by
 have a:=F7 h 1 _ rfl
 have b:=X5 h 1
 have H:=A5 (Z18 h 1 (.bool true) (Z7 iv true most st er sp sm) rfl)
 clear h
 go_enter Tryz.func13,Tryz.ntmps13
 go_wp2
 go_end0
 exact ⟨rfl,H.out⟩
theorem W50 (h:A4 w0 w (zdT D iv cl most 3 er sp sm::B0 5 1 iv l.length (D9 l)::Rs)):
  Calls Tryz.prog 45 #[.pointer (some ⟨D,0,none⟩)] w fun e w'=>e= .returned (.int .i64 (Z4w cl l:Nat))∧
   (l=[]∧A4 w0 w' (zdT D iv cl most 3 er sp sm::B0 5 1 iv l.length (D9 l)::Rs)∨l≠[]∧A4 w0 w' (zdT D (.slice none 0 0) cl most 4 2 none sm::Rs)):=by
 obtain ⟨q,k,rfl,_,_⟩:=h.drop.own.form
 have i:=F7 h 0 _ rfl
 have m:=F7 h 1 _ rfl
 obtain ⟨n,b⟩:∃n,n=l.length:=⟨_,rfl⟩
 rw [←b] at h i⊢
 by_cases a:l=[]
 ·obtain rfl:n=0:=by rw [b,a];rfl
  rw [a] at h⊢
  have H:=A5 h
  clear h b a
  cases cl with
  | true=>
   go_enter Tryz.func45,Tryz.ntmps45
   go_wp2
   go_ret
   exact ⟨by rw [show Z4w true []=8 by decide];rfl,.inl ⟨by trivial,H.out⟩⟩
  | false=>
   go_enter Tryz.func45,Tryz.ntmps45
   go_wp2
   go_ret
   exact ⟨by rw [show Z4w false []=5 by decide];rfl,.inl ⟨by trivial,H.out⟩⟩
 have o:(0:Int) < (n:Int):=by have:=List.length_pos_iff.2 a;omega
 have d:=A5 (Z5q 2 2 rfl h)
 have f:=A5 a
 clear h b a
 go_enter Tryz.func45,Tryz.ntmps45
 go_wp2_with fail
 with_reducible refine d.out.mono ?_
 rintro e p ⟨rfl,g⟩
 have j:=A5 g
 clear g d
 go_wp2
 go_ret
 exact ⟨by unfold Z4w;rw [if_neg f.out];rfl,.inr ⟨f.out,j.out.swap.drop⟩⟩
end
section
variable {w:World}
theorem W6z (a:Nat) (h:a < 256):bits .and .u8 (a:Int) 15=((a%16:Nat):Int):=by
 have b:∀a < 256,bits .and .u8 ((a:Nat):Int) 15=((a%16:Nat):Int):=by decide+kernel
 exact b a h
theorem W7v (b:Nat) (h:b < 256):bits .and .u8 (b:Int) 32=((32*(b / 32%2):Nat):Int):=by
 have a:∀b < 256,bits .and .u8 ((b:Nat):Int) 32=((32*(b / 32%2):Nat):Int):=by decide+kernel
 exact a b h
theorem W7b (a:Nat) (ha:a < 256):Calls Tryz.prog 64 #[.int .u8 (a:Int)] w fun e w'=>e= .returned (.bool (Z5i a))∧w'=w:=by
 have i:=W6z a ha
 by_cases d:a%16=8
 ·rw [d] at i
  by_cases f:a / 16≤7
  ·have g:(a:Int) / 16≤7:=by omega
   have b:Z5i a=true:=decide_eq_true ⟨d,f⟩
   rw [b]
   clear d f b ha
   go_enter Tryz.func64,Tryz.ntmps64
   go_wp2
   go_ret
   exact ⟨rfl,rfl⟩
  have g:¬(a:Int) / 16≤7:=by omega
  have b:Z5i a=false:=decide_eq_false fun h=>f h.2
  rw [b]
  clear d f b ha
  go_enter Tryz.func64,Tryz.ntmps64
  go_wp2
  go_ret
  exact ⟨rfl,rfl⟩
 have g:¬((a%16:Nat):Int)=8:=by omega
 have b:Z5i a=false:=decide_eq_false fun h=>d h.1
 rw [b]
 generalize ((a%16:Nat):Int)=q at i g
 clear d b ha
 go_enter Tryz.func64,Tryz.ntmps64
 go_wp2
 go_ret
 exact ⟨rfl,rfl⟩
theorem W9s (a b:Nat) (ha:a < 256) (hb:b < 256):Calls Tryz.prog 66 #[.int .u8 (a:Int),.int .u8 (b:Int)] w fun e w'=>e= .returned (.bool (Z8w a b))∧w'=w:=by
 have k:=W7v b hb
 have l:IntKind.i64.wrap (a:Int)=(a:Int):=IntWalk.i64_in _ (by omega)
 have m:IntKind.i64.wrap (b:Int)=(b:Int):=IntWalk.i64_in _ (by omega)
 have n:IntKind.i64.wrap ((a:Int)*256)=(a:Int)*256:=IntWalk.i64_in _ (by omega)
 have o:IntKind.i64.wrap ((a:Int)*256+(b:Int))=(a:Int)*256+(b:Int):=IntWalk.i64_in _ (by omega)
 have g:((a:Int)*256+(b:Int)).tmod 31=(((256*a+b)%31:Nat):Int):=by
  rw [show (a:Int)*256+(b:Int)=((256*a+b:Nat):Int) by push_cast;omega]
  rfl
 by_cases f:(256*a+b)%31=0
 ·rw [f] at g
  by_cases j:b / 32%2=0
  ·rw [j] at k
   have d:Z8w a b=true:=decide_eq_true ⟨f,j⟩
   rw [d]
   clear f j d ha hb
   go_enter Tryz.func66,Tryz.ntmps66
   go_wp2
   go_ret
   exact ⟨rfl,rfl⟩
  have i:b / 32%2=1:=by omega
  rw [i] at k
  have d:Z8w a b=false:=decide_eq_false fun h=>j h.2
  rw [d]
  clear f j d ha hb i
  go_enter Tryz.func66,Tryz.ntmps66
  go_wp2
  go_ret
  exact ⟨rfl,rfl⟩
 have p:¬(((256*a+b)%31:Nat):Int)=0:=by omega
 have d:Z8w a b=false:=decide_eq_false fun h=>f h.1
 rw [d]
 generalize (((256*a+b)%31:Nat):Int)=q at g p
 clear f d ha hb
 go_enter Tryz.func66,Tryz.ntmps66
 go_wp2
 go_ret
 exact ⟨rfl,rfl⟩
end
section
variable {w0 w:World} {Rs:List A6}
theorem W4p (s:Nat):([.int .u8 ((s:Int) / 16777216%256),.int .u8 ((s:Int) / 65536%256),.int .u8 ((s:Int) / 256%256),.int .u8 ((s:Int)%256)]:List Value)=D9 (beB s):=by
 have a:((s / 16777216%256:Nat):Int)=(s:Int) / 16777216%256:=by omega
 have b:((s / 65536%256:Nat):Int)=(s:Int) / 65536%256:=by omega
 have d:((s / 256%256:Nat):Int)=(s:Int) / 256%256:=by omega
 have f:((s%256:Nat):Int)=(s:Int)%256:=by omega
 rw [←a,←b,←d,←f]
 rfl
theorem X64 (v:Value) (n s:Nat) (xs:List Nat) (hn2:n < 100000000) (h:A4 w0 w (B0 5 1 v n (D9 xs)::Rs)):
  Calls Tryz.prog 21 #[v,.int .u32 (s:Int)] w fun e w'=>∃d,e= .returned d∧A4 w0 w' (B0 5 1 d (n+4) (D9 (xs++beB s))::Rs):=by
 obtain ⟨p,a,b,f,g⟩:=info_parts Z1o
 have k:1000000000≤maxLen:=by decide
 obtain ⟨y,q,rfl,_,_⟩:=h.own.form
 have l:=A5 (W4p s)
 have m:Hid (Rd (w.alloc (.cells #[.int .u8 ((s:Int) / 16777216%256),.int .u8 ((s:Int) / 65536%256),.int .u8 ((s:Int) / 256%256),.int .u8 ((s:Int)%256)] 5)) 1 (.slice (some ⟨w.heap.size,0,none⟩) 4 4) 4 (D9 (beB s))):=A5 (by rw [←l.out];exact Rd.lit w _ 5 1 4 (by decide) rfl)
 have H:=A5 h
 clear h
 go_enter Tryz.func21,Tryz.ntmps21
 go_wp2_with ((with_reducible show wpList _ _ _ (⟨some 18,_,_,_,_,_⟩::_) _ _);go_must (refine D6 rfl (.tmp 5) (.tmp 17) 26 rfl 5 p (.int .u8 0) 1 1 Tryz.underlying26 a b f g rfl (by decide) _ n (D9 xs) rfl (H.out.alloc _) _ 4 (D9 (beB s)) rfl m.out (T0 _) (n+4) rfl (by omega) (by omega) ?_);intro r t x j;have o:=A5 j;clear j)
 go_ret
 have i:=o.out
 rw [←J8] at i
 exact ⟨_,rfl,i⟩
end
end Go.Proofs.YtbkbkmgogbgofaaGreatDoor
