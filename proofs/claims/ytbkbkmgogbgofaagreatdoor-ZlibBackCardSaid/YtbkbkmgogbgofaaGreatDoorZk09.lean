/- The claim's texts, put together and shortened by a program (names, spaces). -/
import Derived.Test.YtbkbkmgogbgofaaGreatDoorZk08
import Derived.Test.YtbkbkmgogbgofaaGreatDoorZk04
import Derived.Test.YtbkbkmgogbgofaaGreatDoorZk01
open List renaming append_assoc→T01,length_drop→T05,append_nil→T07,drop_eq_nil_of_le→T0a,length→T0b,length_append→T0g,take_of_length_le→T0i,drop_append→T0j,set_cons_zero→T0r,set_cons_succ→T0s,take_append_of_le_length→T0t
open Nat renaming mod_lt→T00,lt_of_le_of_lt→T02,shiftRight_eq_div_pow→T03,pow_le_pow_right→T04,le_refl→T06,lt_of_lt_of_le→T08,pow_add→T09,le_trans→T0c,div_le_self→T0d,add_comm→T0e,two_pow_pos→T0f,mul_one→T0h,zero_le→T0k,testBit_mod_two_pow→T0l,testBit_shiftRight→T0m,testBit_shiftLeft→T0n,testBit_lt_two_pow→T0o,div_lt_iff_lt_mul→T0p,testBit_div_two_pow→T0q
namespace Go.Proofs.YtbkbkmgogbgofaaGreatDoor
set_option maxRecDepth 100000
set_option maxHeartbeats 6400000
open Go.RowKit
def rv1 (x:Nat):Nat:=(x >>> 1 &&& 1431655765) ||| ((x &&& 1431655765) <<< 1%4294967296)
def rv2 (x:Nat):Nat:=(x >>> 2 &&& 858993459) ||| ((x &&& 858993459) <<< 2%4294967296)
def rv4 (x:Nat):Nat:=(x >>> 4 &&& 252645135) ||| ((x &&& 252645135) <<< 4%4294967296)
def rv8 (x:Nat):Nat:=(x >>> 8 &&& 16711935) ||| ((x &&& 16711935) <<< 8%4294967296)
def X7r (x:Nat):Nat:=(x >>> 16) ||| (x <<< 16%4294967296)
def Y7s (x:Nat):Nat:=X7r (rv8 (rv4 (rv2 (rv1 x))))
theorem X6s {a b:Nat} (ha:a < 4294967296) (hb:b < 4294967296):a ||| b < 4294967296:=Nat.or_lt_two_pow (n:=32) ha hb
theorem Y7x {a b:Nat} (hb:b < 4294967296):a &&& b < 4294967296:=T02 Nat.and_le_right hb
theorem V59 (x:Nat):rv1 x < 4294967296:=X6s (Y7x (by decide)) (T00 _ (by decide))
theorem V5b (x:Nat):rv2 x < 4294967296:=X6s (Y7x (by decide)) (T00 _ (by decide))
theorem V6f (x:Nat):rv4 x < 4294967296:=X6s (Y7x (by decide)) (T00 _ (by decide))
theorem W0a (x:Nat):rv8 x < 4294967296:=X6s (Y7x (by decide)) (T00 _ (by decide))
theorem V38 (x:Nat) (h:x < 4294967296):X7r x < 4294967296:=X6s (by rw [T03];exact T02 (T0d _ _) h) (T00 _ (by decide))
theorem W9v (x:Nat):Y7s x < 4294967296:=V38 _ (W0a _)
theorem W2w (x i:Nat) (h:i < 32):(x%4294967296).testBit i=x.testBit i:=by
 have:=T0l x 32 i
 rw [show (2:Nat)^32=4294967296 from rfl] at this
 rw [this];simp [h]
theorem X4a (x s m i:Nat) (hi:i < 32):((x >>> s &&& m) ||| ((x &&& m) <<< s%4294967296)).testBit i=((x.testBit (s+i) && m.testBit i) || (decide (s≤i) && (x.testBit (i-s) && m.testBit (i-s)))):=by
 rw [Nat.testBit_or,W2w _ _ hi,Nat.testBit_and,T0m,T0n,Nat.testBit_and]
theorem W6n {x s m i:Nat} (hi:i < 32) (h1:m.testBit i=true) (h2:(decide (s≤i) && m.testBit (i-s))=false):((x >>> s &&& m) ||| ((x &&& m) <<< s%4294967296)).testBit i=x.testBit (s+i):=by
 rw [X4a _ _ _ _ hi,h1]
 cases hd:decide (s≤i) <;> simp_all
theorem W8l {x s m i:Nat} (hi:i < 32) (h1:m.testBit i=false) (h2:(decide (s≤i) && m.testBit (i-s))=true):((x >>> s &&& m) ||| ((x &&& m) <<< s%4294967296)).testBit i=x.testBit (i-s):=by
 rw [X4a _ _ _ _ hi,h1]
 simp only [Bool.and_eq_true] at h2
 simp [h2.1,h2.2]
def fl (s i:Nat):Nat:=if i / s%2=0 then i+s else i-s
theorem V7f:∀i,i < 32→((1431655765:Nat).testBit i=decide (i / 1%2=0))∧(decide (1≤i) && (1431655765:Nat).testBit (i-1))= !decide (i / 1%2=0):=by decide
theorem V70:∀i,i < 32→((858993459:Nat).testBit i=decide (i / 2%2=0))∧(decide (2≤i) && (858993459:Nat).testBit (i-2))= !decide (i / 2%2=0):=by decide
theorem V73:∀i,i < 32→((252645135:Nat).testBit i=decide (i / 4%2=0))∧(decide (4≤i) && (252645135:Nat).testBit (i-4))= !decide (i / 4%2=0):=by decide
theorem V6p:∀i,i < 32→((16711935:Nat).testBit i=decide (i / 8%2=0))∧(decide (8≤i) && (16711935:Nat).testBit (i-8))= !decide (i / 8%2=0):=by decide
theorem Y2d (x s m i:Nat) (hi:i < 32) (h:(m.testBit i=decide (i / s%2=0))∧(decide (s≤i) && m.testBit (i-s))= !decide (i / s%2=0)):
  ((x >>> s &&& m) ||| ((x &&& m) <<< s%4294967296)).testBit i=x.testBit (fl s i):=by
 by_cases a:i / s%2=0
 ·rw [W6n hi (by rw [h.1];simp [a]) (by rw [h.2];simp [a]),fl,if_pos a,T0e]
 rw [W8l hi (by rw [h.1];simp [a]) (by rw [h.2];simp [a]),fl,if_neg a]
theorem V4q (x i:Nat) (hx:x < 4294967296) (hi:i < 32):(X7r x).testBit i=x.testBit (fl 16 i):=by
 unfold X7r
 rw [Nat.testBit_or,W2w _ _ hi,T0m,T0n]
 by_cases h:i < 16
 ·have e:i / 16%2=0:=by omega
  rw [fl,if_pos e,T0e]
  have:decide (i≥16)=false:=by simp;omega
  rw [this];simp
 have e:¬i / 16%2=0:=by omega
 have a:x.testBit (16+i)=false:=T0o (T08 hx (T04 (n:=2) (by decide) (show 32≤16+i by omega)))
 rw [fl,if_neg e,a]
 have:decide (i≥16)=true:=by simp;omega
 rw [this];simp
theorem V6e:∀i,i < 32→fl 16 i < 32∧fl 8 (fl 16 i) < 32∧fl 4 (fl 8 (fl 16 i)) < 32∧fl 2 (fl 4 (fl 8 (fl 16 i))) < 32∧fl 1 (fl 2 (fl 4 (fl 8 (fl 16 i))))=31-i:=by decide
theorem X8g (x i:Nat) (hi:i < 32):(Y7s x).testBit i=x.testBit (31-i):=by
 obtain ⟨a,b,d,f,g⟩:=V6e i hi
 rw [Y7s,V4q _ _ (W0a _) hi,rv8,Y2d _ _ _ _ a (V6p _ a),rv4,Y2d _ _ _ _ b (V73 _ b),rv2,Y2d _ _ _ _ d (V70 _ d),rv1,Y2d _ _ _ _ f (V7f _ f),g]
theorem V19 (x i:Nat):x / 2^i%2=(x.testBit i).toNat:=by
 rw [←Nat.toNat_testBit]
def Z4j (v n:Nat):Nat:=Y7s v / 2^(32-n)
theorem X3i (v n:Nat) (hn:n≤32):Z4j v n < 2^n:=by
 rw [Z4j,T0p (T0f _),←T09,show n+(32-n)=32 by omega]
 exact W9v v
theorem W90 (v n i:Nat) (hn:n≤32) (hi:i < n):Z4j v n / 2^(n-1-i)%2=v / 2^i%2:=by
 rw [Z4j,Nat.div_div_eq_div_mul,←T09,V19,V19,X8g _ _ (by omega)]
 congr 2
 omega
theorem X9d (v n:Nat) (hn:n≤32):Z4j (Z4j v n) n=v%2^n:=by
 apply Nat.eq_of_testBit_eq
 intro i
 rw [T0l]
 by_cases b:i < n
 ·have a:(Z4j (Z4j v n) n).testBit i=v.testBit i:=by
   rw [Z4j,T0q,X8g _ _ (by omega),Z4j,T0q,X8g _ _ (by omega)]
   congr 1
   omega
  rw [a];simp [b]
 have a:(Z4j (Z4j v n) n).testBit i=false:=T0o (T08 (X3i _ n hn) (T04 (by decide) (by omega)))
 rw [a];simp [b]
theorem Z4g (a b:Nat) (ha:a < 4294967296) (hb:b < 4294967296):bits .and .u32 (a:Int) (b:Int)=((a &&& b:Nat):Int):=
 (bits_nat .u32 32 (by decide) (fun n h0 h1=>IntWalk.u32_in n (by omega)) a b ha hb).1
theorem X0o (a b:Nat) (ha:a < 4294967296) (hb:b < 4294967296):bits .or .u32 (a:Int) (b:Int)=((a ||| b:Nat):Int):=
 (bits_nat .u32 32 (by decide) (fun n h0 h1=>IntWalk.u32_in n (by omega)) a b ha hb).2
theorem Z8p (x s m:Nat) (p:Int) (hp:p=((2^s:Nat):Int)) (hx:x < 4294967296) (hm:m < 4294967296):
  bits .or .u32 (bits .and .u32 ((x:Int) / p) (m:Int)) (bits .and .u32 (x:Int) (m:Int)*p%4294967296)=(((x >>> s &&& m) ||| ((x &&& m) <<< s%4294967296):Nat):Int):=by
 have a:(x:Int) / p=((x >>> s:Nat):Int):=by rw [hp,T03];exact (Int.natCast_ediv _ _).symm
 have b:x >>> s < 4294967296:=by rw [T03];exact T02 (T0d _ _) hx
 rw [a,Z4g _ _ b hm,Z4g _ _ hx hm,hp]
 have d:(((x &&& m:Nat):Int)*((2^s:Nat):Int)%4294967296)=((((x &&& m) <<< s)%4294967296:Nat):Int):=by
  rw [Nat.shiftLeft_eq]
  generalize (x &&& m)=t
  generalize 2^s=q
  rw [←Int.natCast_mul];omega
 rw [d,X0o _ _ (Y7x hm) (T00 _ (by decide))]
theorem V1d (x:Nat) (hx:x < 4294967296):bits .or .u32 ((x:Int) / 65536) ((x:Int)*65536%4294967296)=((X7r x:Nat):Int):=by
 have a:(x:Int) / (65536:Int)=((x >>> 16:Nat):Int):=by rw [T03];omega
 have b:((x:Int)*(65536:Int)%(4294967296:Int))=((x <<< 16%4294967296:Nat):Int):=by rw [Nat.shiftLeft_eq];omega
 have d:x >>> 16 < 4294967296:=by rw [T03];exact T02 (T0d _ _) hx
 rw [a,b,X0o _ _ d (T00 _ (by decide))];rfl
theorem X31 (x:Nat) (w:World) (hx:x < 4294967296):
  Calls Tryz.prog 198 #[.int .u32 (x:Int)] w fun e w'=>e= .returned (.int .u32 ((X7r (rv8 x):Nat):Int))∧w=w':=by
 have f:bits .or .u32 (bits .and .u32 ((x:Int) / 256) 16711935) (bits .and .u32 (x:Int) 16711935*256%4294967296)=((rv8 x:Nat):Int):=Z8p x 8 16711935 256 rfl hx (by decide)
 obtain ⟨y,b⟩:∃y,y=rv8 x:=⟨_,rfl⟩
 have a:y < 4294967296:=by rw [b];exact W0a x
 rw [←b] at f⊢
 have g:=V1d y a
 obtain ⟨z,d⟩:∃z,z=X7r y:=⟨_,rfl⟩
 rw [←d] at g⊢
 clear b d
 go_enter Tryz.func198,Tryz.ntmps198
 go_wp2
 go_ret
 exact ⟨rfl,rfl⟩
theorem W61 (x:Nat) (w:World) (hx:x < 4294967296):
  Calls Tryz.prog 194 #[.int .u32 (x:Int)] w fun e w'=>e= .returned (.int .u32 ((Y7s x:Nat):Int))∧w=w':=by
 have j:bits .or .u32 (bits .and .u32 ((x:Int) / 2) 1431655765) (bits .and .u32 (x:Int) 1431655765*2%4294967296)=((rv1 x:Nat):Int):=Z8p x 1 1431655765 2 rfl hx (by decide)
 unfold Y7s
 obtain ⟨y,f⟩:∃y,y=rv1 x:=⟨_,rfl⟩
 have a:y < 4294967296:=by rw [f];exact V59 x
 rw [←f] at j⊢
 have k:bits .or .u32 (bits .and .u32 ((y:Int) / 4) 858993459) (bits .and .u32 (y:Int) 858993459*4%4294967296)=((rv2 y:Nat):Int):=Z8p y 2 858993459 4 rfl a (by decide)
 obtain ⟨z,g⟩:∃z,z=rv2 y:=⟨_,rfl⟩
 have b:z < 4294967296:=by rw [g];exact V5b y
 rw [←g] at k⊢
 have l:bits .or .u32 (bits .and .u32 ((z:Int) / 16) 252645135) (bits .and .u32 (z:Int) 252645135*16%4294967296)=((rv4 z:Nat):Int):=Z8p z 4 252645135 16 rfl b (by decide)
 obtain ⟨u,i⟩:∃u,u=rv4 z:=⟨_,rfl⟩
 have d:u < 4294967296:=by rw [i];exact V6f z
 rw [←i] at l⊢
 clear f g i
 go_enter Tryz.func194,Tryz.ntmps194
 go_wp2_with (go_at_call 198;refine (X31 u _ d).mono ?_;rintro e w' ⟨rfl,rfl⟩)
 go_ret
 exact ⟨rfl,rfl⟩
theorem Z8a (v n:Nat) (w:World) (hv:v < 4294967296) (hn:n≤32):
  Calls Tryz.prog 175 #[.int .u32 (v:Int),.int .i64 (n:Int)] w fun e w'=>e= .returned (.int .u32 ((Z4j v n:Nat):Int))∧w=w':=by
 obtain ⟨r,b⟩:∃r,r=Y7s v:=⟨_,rfl⟩
 have a:(r:Int) / 2^(32-n)=((Z4j v n:Nat):Int):=by
  rw [Z4j,←b,Y8];exact (Int.natCast_ediv _ _).symm
 have d:=A5 b
 have f:=A5 a
 clear b a
 go_enter Tryz.func175,Tryz.ntmps175
 go_wp2_with (first | (go_at_call 106;refine (Y1r _ _ ⟨by omega,by omega⟩).mono ?_;rintro e w' ⟨rfl,rfl⟩) | (go_at_call 194;refine (W61 v _ hv).mono ?_;rw [←d.out];rintro e w' ⟨rfl,rfl⟩))
 go_ret
 rw [←f.out]
 exact ⟨rfl,rfl⟩
def RIs (w:World) (B:C4) (d:Value) (bs:List Nat) (s c:Nat):Prop:=
 X7 w B [d,.int .u64 (s:Int),.int .i64 (c:Int)]∧Own w 5 1 d bs.length (D9 bs)∧d.ownBlock≠some B.b∧s < 2^c∧(∀b∈bs,b < 256)
def Rr (w:World) (B:C4) (d:Value) (l:List Nat):Prop:=∃bs s c,RIs w B d bs s c∧c≤39∧l=A9 c s++D7 bs
def V0q (w w':World) (B:C4) (d:Value) (l':List Nat):Prop:=∃d',Rr w' B d' l'∧E5 w w' (Z1l B.b d)∧Y9d w d d'
theorem X0i {bs:List Nat} {s c:Nat}:(A9 c s++D7 bs).length=c+8*bs.length:=by rw [T0g,E1,B5]
theorem RIs.kept {w w':World} {B:C4} {d:Value} {bs:List Nat} {s c:Nat} (h:RIs w B d bs s c) {S:Nat→Prop} (hm:E5 w w' S) (hS:∀k,Z1l B.b d k→¬S k):RIs w' B d bs s c:=
 ⟨h.1.kept hm (hS B.b (.inl rfl)),h.2.1.kept hm (fun k hk=>hS k (.inr hk)),h.2.2⟩
theorem Rr.kept {w w':World} {B:C4} {d:Value} {l:List Nat} (h:Rr w B d l) {S:Nat→Prop} (hm:E5 w w' S) (hS:∀k,Z1l B.b d k→¬S k):Rr w' B d l:=by
 obtain ⟨a,s,c,f,r⟩:=h
 exact ⟨a,s,c,f.kept hm hS,r⟩
theorem Rr.lt {w:World} {B:C4} {d:Value} {l:List Nat} (h:Rr w B d l):∀k,Z1l B.b d k→k < w.heap.size:=by
 obtain ⟨g,s,c,a,_⟩:=h
 rintro k (rfl | f)
 ·exact a.1.lt
 exact a.2.1.lt k f
theorem Rr.isBits {w:World} {B:C4} {d:Value} {l:List Nat} (h:Rr w B d l):isBits l:=by
 obtain ⟨a,s,c,_,_,rfl⟩:=h
 exact D8 (F5 _ _) (M8 _)
theorem Y89 (B:C4) (d:Value) (bs:List Nat) (s c n:Nat) (w:World) (h:RIs w B d bs s c) (hn:n≤c) (hc:c≤39):
  Calls Tryz.prog 94 #[.pointer (some ⟨B.b,B.o,none⟩),.int .i64 (n:Int)] w fun e w'=>e= .returned (.tuple #[])∧RIs w' B d bs (s / 2^n) (c-n)∧E5 w w' (fun k=>k=B.b):=by
 obtain ⟨j,l,m,x,f⟩:=h
 obtain ⟨q,r⟩:∃q,q=s / 2^n:=⟨_,rfl⟩
 have t:E5 w ((w.setCell ⟨B.b,B.o+1,none⟩ (.int .u64 (q:Int))).setCell ⟨B.b,B.o+2,none⟩ (.int .i64 ((c:Int)- (n:Int)))) (fun k=>k=B.b):=
  ((E5.refl w (fun k=>k=B.b)).setCell (p:=⟨B.b,B.o+1,none⟩) (.inr rfl) _).setCell (p:=⟨B.b,B.o+2,none⟩) (.inr rfl) _
 have g:Hid (RIs ((w.setCell ⟨B.b,B.o+1,none⟩ (.int .u64 (q:Int))).setCell ⟨B.b,B.o+2,none⟩ (.int .i64 ((c:Int)- (n:Int)))) B d bs q (c-n)∧E5 w ((w.setCell ⟨B.b,B.o+1,none⟩ (.int .u64 (q:Int))).setCell ⟨B.b,B.o+2,none⟩ (.int .i64 ((c:Int)- (n:Int)))) (fun k=>k=B.b)):=by
  refine ⟨⟨?_,l.kept t (fun k hk e=>m (by rw [hk,e])),m, ?_,f⟩,t⟩
  ·have:=(j.set 1 (.int .u64 (q:Int))).set 2 (.int .i64 ((c:Int)- (n:Int)))
   simp only [T0r,T0s] at this
   rw [show ((c-n:Nat):Int)=(c:Int)- (n:Int) by omega]
   exact this
  rw [r,T0p (T0f n),←T09]
  rw [show c-n+n=c by omega];exact x
 have a:(s:Int) / 2^n=(q:Int):=by rw [r,Y8];simp
 have y:=A5 a
 have z:=A5 r
 have c1:=j.cell (i:=1) rfl
 have c2:=j.cell (i:=2) rfl
 have f1:=j.frozen 1
 have f2:=j.frozen 2
 clear t r x a
 go_enter Tryz.func94,Tryz.ntmps94
 go_wp2
 go_end0
 rw [y.out,←z.out]
 exact ⟨rfl,g.out⟩
theorem X4o {w:World} {B:C4} {bs:List Nat} {s c n:Nat} {a a':Option Addr} {cap L:Nat} (hL:L=bs.length-n) (hb:X7 w B [.slice a bs.length cap,.int .u64 (s:Int),.int .i64 (c:Int)]) (hne:Value.ownBlock (.slice a bs.length cap)≠some B.b)
  (hs:s < 2^c) (hb256:∀b∈bs,b < 256)
  (hown:Own w 5 1 (.slice a' L (cap-n)) L (((D9 bs).drop (n*1)).take (L*1))) (hbl:Value.ownBlock (.slice a' L (cap-n))=Value.ownBlock (.slice a bs.length cap)):
  RIs (w.setCell ⟨B.b,B.o,none⟩ (.slice a' L (cap-n))) B (.slice a' L (cap-n)) (bs.drop n) s c:=by
 have d:E5 w (w.setCell ⟨B.b,B.o,none⟩ (.slice a' L (cap-n))) (fun k=>k=B.b):=(E5.refl w (fun k=>k=B.b)).setCell (p:=⟨B.b,B.o,none⟩) (.inr rfl) _
 have e:((D9 bs).drop (n*1)).take (L*1)=D9 (bs.drop n):=by
  rw [T0h,T0h,T0i (by rw [T05,E6];omega)];simp [D9]
 rw [e] at hown
 refine ⟨hb.set0 _, ?_,by rw [hbl];exact hne,hs,fun b hb'=>hb256 b (List.mem_of_mem_drop hb')⟩
 rw [T05,←hL]
 exact hown.kept d (fun k hk e=>hne (by rw [←hbl,hk,e]))
theorem W9b {w:World} {B:C4} {bs:List Nat} {s c:Nat} {d:Value} (hd:RIs w B d bs s c) (h0:bs=[]):
  RIs (w.setCell ⟨B.b,B.o,none⟩ (.slice none 0 0)) B (.slice none 0 0) bs s c:=by
 subst h0
 exact ⟨hd.1.set0 _,Own.nil _ _ _,by simp [Value.ownBlock],hd.2.2.2.1,by simp⟩
theorem X5z (B:C4) (d:Value) (bs:List Nat) (s c n:Nat) (w:World) (h:RIs w B d bs s c) (hn:n≤bs.length) (hbl:bs.length < 1099511627776):
  Calls Tryz.prog 95 #[.pointer (some ⟨B.b,B.o,none⟩),.int .i64 (n:Int)] w fun e w'=>e= .returned (.tuple #[])∧∃d',RIs w' B d' (bs.drop n) s c∧E5 w w' (fun k=>k=B.b)∧(d'.ownBlock=d.ownBlock∨d'.ownBlock=none):=by
 obtain ⟨i,hi,b1,m,b2⟩:=info_parts Tryz.infoByte
 obtain ⟨x,j,q,hs,l⟩:=h
 obtain ⟨a,r,rfl,a5,a6⟩:=j.form
 have c0:=x.cell0 rfl
 have f0:=x.frozen0
 have HS:=A5 hs
 obtain ⟨L,hL⟩:∃L,L=bs.length-n:=⟨_,rfl⟩
 have t:=A5 hL
 have a7:L < 1099511627776:=by omega
 by_cases z:L=0
 ·have y:((L:Int)==0)=true:=by rw [z];rfl
  have hz:bs.drop n=[]:=T0a (by omega)
  have HZ:=A5 hz
  clear hs hL z hz
  go_enter Tryz.func95,Tryz.ntmps95
  go_wp2_with ((with_reducible show wpList _ _ _ (⟨some 10,_,_,_,_,_⟩::_) _ _);refine Z7q (w:=w) rfl 26 (.tmp 8) (some (.tmp 9)) none rfl 5 i 1 Tryz.underlying26 hi m a bs.length r n bs.length (D9 bs) rfl j ⟨_,rfl⟩ rfl hn (T06 _) ?_;rw [←t.out];intro a' f g)
  go_end0
  have hR:=X4o t.out x q HS.out l f g
  refine ⟨rfl,_,W9b hR HZ.out, ?_,.inr rfl⟩
  exact ((E5.refl w (fun k=>k=B.b)).setCell (p:=⟨B.b,B.o,none⟩) (.inr rfl) _).setCell (p:=⟨B.b,B.o,none⟩) (.inr rfl) _
 have y:((L:Int)==0)=false:=by simp;omega
 clear hs hL z
 go_enter Tryz.func95,Tryz.ntmps95
 go_wp2_with ((with_reducible show wpList _ _ _ (⟨some 10,_,_,_,_,_⟩::_) _ _);refine Z7q (w:=w) rfl 26 (.tmp 8) (some (.tmp 9)) none rfl 5 i 1 Tryz.underlying26 hi m a bs.length r n bs.length (D9 bs) rfl j ⟨_,rfl⟩ rfl hn (T06 _) ?_;rw [←t.out];intro a' f g)
 go_end0
 exact ⟨rfl,_,X4o t.out x q HS.out l f g,(E5.refl w (fun k=>k=B.b)).setCell (p:=⟨B.b,B.o,none⟩) (.inr rfl) _,.inl g⟩
theorem V1i {w w1:World} {B:C4} {bs news:List Nat} {s c:Nat} {ao ao1:Option Addr} {cap cap1 n:Nat} (hb:X7 w B [.slice ao bs.length cap,.int .u64 (s:Int),.int .i64 (c:Int)]) (hne:Value.ownBlock (.slice ao bs.length cap)≠some B.b)
  (hs:s < 2^c) (hc:c≤39) (hb256:∀b∈bs,b < 256) (hn256:∀b∈news,b < 256) (hn:n=news.length)
  (hown1:Own w1 5 1 (.slice ao1 (bs.length+n) cap1) (bs.length+n) (D9 bs++D9 news)) (hgrow:w.grownBy w1 (Value.ownBlock (.slice ao bs.length cap)))
  (hat:Value.ownBlock (.slice ao1 (bs.length+n) cap1)=Value.ownBlock (.slice ao bs.length cap)∨Value.ownBlock (.slice ao1 (bs.length+n) cap1)=some w.heap.size):
  V0q w (w1.setCell ⟨B.b,B.o,none⟩ (.slice ao1 (bs.length+n) cap1)) B (.slice ao bs.length cap) ((A9 c s++D7 bs)++D7 news):=by
 subst hn
 have a:Value.ownBlock (.slice ao1 (bs.length+news.length) cap1)≠some B.b:=by
  rcases hat with h | h
  ·rw [h];exact hne
  rw [h];intro e;injection e with e;have:=hb.lt;omega
 have d:=hb.grown hgrow hne
 have f:E5 w w1 (Z1l B.b (.slice ao bs.length cap)):=(E5.refl w _).grown hgrow fun k hk=> .inr (.inr hk)
 refine ⟨.slice ao1 (bs.length+news.length) cap1,⟨bs++news,s,c,⟨d.set0 _, ?_,a,hs, ?_⟩,hc, ?_⟩,f.setCell (.inr (.inl rfl)) _, ?_⟩
 ·rw [T0g,J8]
  exact hown1.kept ((E5.refl w1 (fun k=>k=B.b)).setCell (p:=⟨B.b,B.o,none⟩) (.inr rfl) _) (fun k hk e=>a (by rw [hk,e]))
 ·intro b g
  rcases List.mem_append.1 g with h | h
  ·exact hb256 b h
  exact hn256 b h
 ·rw [M7,T01]
 rcases hat with h | h
 ·exact .inl h
 exact .inr fun k hk=>by rw [h] at hk;injection hk with hk;omega
theorem W6t (B:C4) (d v:Value) (l news:List Nat) (n:Nat) (w:World) (h:Rr w B d l) (hl:l.length < 1099511600000) (hv:Rd w 1 v n (D9 news))
  (hn256:∀b∈news,b < 256) (hnl:n < 1099511627776):
  Calls Tryz.prog 41 #[.pointer (some ⟨B.b,B.o,none⟩),v] w fun e w'=>e= .returned (.tuple #[])∧V0q w w' B d (l++D7 news):=by
 obtain ⟨i,hi,x,y,z⟩:=info_parts Tryz.infoByte
 obtain ⟨q,s,c,⟨r,f,p,hs,j⟩,hc,k⟩:=h
 have hn:n=news.length:=by have:=hv.1;rw [E6] at this;omega
 obtain ⟨ao,a0,rfl,a5,a6⟩:=f.form
 have a2:q.length < 1099511600007:=by have h1:=congrArg T0b k;rw [X0i] at h1;omega
 have HN:=A5 hn
 have HL:=A5 k
 have HS:=A5 hs
 have c0:=r.cell0 rfl
 have f0:=r.frozen0
 clear hn k hs
 go_enter Tryz.func41,Tryz.ntmps41
 go_wp2_with (at_builtin;refine Z4c _ rfl (.tmp 10) (.tmp 11) 26 rfl 5 i (.int .u8 0) 1 1 Tryz.underlying26 hi x y z rfl (by decide) (.slice ao q.length a0) q.length (D9 q) rfl f v n (D9 news) rfl hv (T0 _) (by unfold maxLen;omega) (by omega) ?_;intro b1 a3 w2 g a t;have m:=r.grown a p;have e0:=m.cell0 rfl;have g0:=m.frozen0)
 go_end0
 rw [HL.out]
 exact ⟨rfl,V1i r p HS.out hc j hn256 HN.out g a t⟩
theorem Z7s (B:C4) (d:Value) (l:List Nat) (w:World) (h:Rr w B d l) (hl:l.length < 1099511627000):
  Calls Tryz.prog 93 #[.pointer (some ⟨B.b,B.o,none⟩)] w fun e w'=>e= .returned (.int .i64 (l.length:Int))∧∃n,w'=w.drewN n:=by
 obtain ⟨k,s,c,⟨m,f,x,y,j⟩,hc,g⟩:=h
 obtain ⟨ao,z,rfl,p,q⟩:=f.form
 have a:l.length=c+8*k.length:=by rw [g,X0i]
 have r:k.length < 1099511627000:=by omega
 have t:=A5 a
 have c0:=m.cell0 rfl
 have c2:=m.cell (i:=2) rfl
 clear a g y
 go_enter Tryz.func93,Tryz.ntmps93
 go_wp2
 go_quiet (fail)
 go_wp2
 go_ret
 exact ⟨by rw [t.out];rfl,_,rfl⟩
def Y84 (w w':World) (B:C4) (d:Value) (l':List Nat):Prop:=∃d',Rr w' B d' l'∧E5 w w' (fun k=>k=B.b)∧(d'.ownBlock=d.ownBlock∨d'.ownBlock=none)
theorem Y0b (B:C4) (d:Value) (l:List Nat) (w:World) (h:Rr w B d l):
  Calls Tryz.prog 92 #[.pointer (some ⟨B.b,B.o,none⟩)] w fun e w'=>e= .returned (.tuple #[])∧Y84 w w' B d (l.drop (l.length%8)):=by
 obtain ⟨j,s,c,q,y,g⟩:=h
 have k:=q
 obtain ⟨z,r,a0,hs,n⟩:=q
 have f:l.length=c+8*j.length:=by rw [g,X0i]
 have a:l.drop (l.length%8)=A9 (c-c%8) (s / 2^(c%8))++D7 j:=by
  rw [f,show (c+8*j.length)%8=c%8 by omega,g]
  have p:=Z0m (c%8) (c-c%8) s
  rw [show c%8+(c-c%8)=c by omega] at p
  rw [p,T01,T0j,B5,Nat.sub_self,T0a (by rw [B5];omega)]
  rfl
 have t:=A5 a
 have c2:=z.cell (i:=2) rfl
 clear f a g hs
 go_enter Tryz.func92,Tryz.ntmps92
 go_wp2_with fail
 rw [show ((c:Int)%8)=((c%8:Nat):Int) by omega]
 refine (Y89 B d j s c (c%8) w k (by omega) y).mono ?_
 rintro e w1 ⟨rfl,m,x⟩
 go_wp2
 go_end0
 rw [t.out]
 exact ⟨rfl,d,⟨j,_,_,m,by omega,rfl⟩,x,.inl rfl⟩
def W29 (w:World) (B:C4) (d:Value) (L:List Nat) (n k:Nat) (wr:World):Prop:=
 ∃d' bs s c,RIs wr B d' bs s c∧A9 c s++D7 bs=L∧c≤39∧n-c≤k∧E5 w wr (fun k=>k=B.b)∧(d'.ownBlock=d.ownBlock∨d'.ownBlock=none)
theorem W4h (s v c:Nat) (hs:s < 2^c) (hc:c < 32) (hv:v < 256):
  bits .or .u64 (s:Int) (IntKind.u64.wrap ((v:Int)*2^c))=((s+2^c*v:Nat):Int):=by
 have a:(2:Nat)^c≤2^31:=T04 (by decide) (by omega)
 have d:2^c*v < 2^31*256:=T02 (Nat.mul_le_mul_right _ a) (by omega)
 have b:IntKind.u64.wrap ((v:Int)*2^c)=((2^c*v:Nat):Int):=by
  have:((v:Int)*2^c)=((2^c*v:Nat):Int):=by rw [Y8,Nat.mul_comm];simp
  rw [this,IntWalk.u64_in _ (by omega)]
 rw [b,bits_or_u64_nat s _ (by omega) (by omega),Nat.or_comm,←Nat.two_pow_add_eq_or_of_lt hs,T0e]
theorem W80 {w:World} {B:C4} {d:Value} {bs:List Nat} {s c v q:Nat} (h:RIs w B d bs s c) (hv:v < 256) (hq:q=s+2^c*v):
  RIs ((w.setCell ⟨B.b,B.o+1,none⟩ (.int .u64 (q:Int))).setCell ⟨B.b,B.o+2,none⟩ (.int .i64 ((c:Int)+8))).drew B d bs q (c+8)∧
   E5 w ((w.setCell ⟨B.b,B.o+1,none⟩ (.int .u64 (q:Int))).setCell ⟨B.b,B.o+2,none⟩ (.int .i64 ((c:Int)+8))).drew (fun k=>k=B.b):=by
 obtain ⟨j,f,g,m,a⟩:=h
 have i:E5 w ((w.setCell ⟨B.b,B.o+1,none⟩ (.int .u64 (q:Int))).setCell ⟨B.b,B.o+2,none⟩ (.int .i64 ((c:Int)+8))).drew (fun k=>k=B.b):=
  ((((E5.refl w (fun k=>k=B.b)).setCell (p:=⟨B.b,B.o+1,none⟩) (.inr rfl) _).setCell (p:=⟨B.b,B.o+2,none⟩) (.inr rfl) _)).drew
 refine ⟨⟨?_,f.kept i (fun k hk e=>g (by rw [hk,e])),g, ?_,a⟩,i⟩
 ·have:=(j.set 1 (.int .u64 (q:Int))).set 2 (.int .i64 ((c:Int)+8))
  simp only [T0r,T0s] at this
  exact this
 rw [hq,T09]
 have l:2^c*v+2^c≤2^c*2^8:=by
  rw [←Nat.mul_succ];exact Nat.mul_le_mul_left _ hv
 omega
theorem V1n (B:C4) (d:Value) (l:List Nat) (n:Nat) (w:World) (h:Rr w B d l) (hn:n≤32) (hnl:n≤l.length) (hl:l.length < 1099511627000):
  Calls Tryz.prog 191 #[.pointer (some ⟨B.b,B.o,none⟩),.int .i64 (n:Int)] w fun e w'=>e= .returned (.tuple #[])∧W29 w B d l n 0 w':=by
 have c3:=A5 h.lt
 have y:W29 w B d l n n w:=by
  obtain ⟨bs,s,c,hR,hc,b1⟩:=h
  exact ⟨d,bs,s,c,hR,b1.symm,hc,by omega,E5.refl _ _,.inl rfl⟩
 go_enter Tryz.func191,Tryz.ntmps191
 go_wp2
 go_loopg [] n (fun k wr=>W29 w B d l n k wr)
 case atStart=>exact y
 case round=>
  obtain ⟨d',bs,s,c,hR,hL,hc,d0,hM,hO⟩:=hrel
  have t:=hR
  obtain ⟨hb,j,d2,hs,f⟩:=hR
  have c1:=hb.cell (i:=1) rfl
  have c2:=hb.cell (i:=2) rfl
  have f1:=hb.frozen 1
  have f2:=hb.frozen 2
  have a:l.length=c+8*bs.length:=by rw [←hL,X0i]
  have HL:=A5 hL
  by_cases c7:c < n
  rotate_left
  ·go_wp2
   go_end0
   exact ⟨rfl,d',bs,s,c,t,HL.out,hc,by omega,hM,hO⟩
  match bs,t,j,f,a,HL,hL with
  | [],_,_,_,a,_,_=>simp at a;omega
  | b::bt,t,j,f,a,HL,hL=>
  obtain ⟨q,hq⟩:∃q,q=s+2^c*b:=⟨_,rfl⟩
  have a1:b < 256:=f b (by simp)
  have z:=W4h s b c hs (by omega) a1
  rw [←hq] at z
  have x:=A5 (W80 t a1 hq)
  have m:A9 (c+8) q++D7 bt=l:=by
   rw [←hL,hq,Z52 c 8 s b hs,Q6,T01]
  have Hos:=A5 z
  have HJ:=A5 m
  obtain ⟨ao,d4,rfl,b6,b7⟩:=j.form
  obtain ⟨g,r,rfl,b3⟩:∃g r,ao=some ⟨g,r,none⟩∧wr.cell? ⟨g,r,none⟩=some (.int .u8 (b:Int)):=by
   obtain ⟨_,d5,b8,hv,_,_,_,h0 | ⟨g,r,hg,hr⟩⟩:=j.rd
   ·simp at h0
   simp only [Value.slice.injEq,true_and] at hv
   obtain ⟨rfl,rfl⟩:=hv
   exact ⟨g,r,hg,by have:=hr 0 (.int .u8 (b:Int)) (by simp [D9]);simpa using this⟩
  have c0:=hb.cell0 rfl
  have c5:bt.length < 1099511627000:=by simp at a;omega
  have c6:(0:Int) < (((b::bt).length:Nat):Int):=by simp
  clear hL hs z hq m a
  go_wp2
  refine wp_region_still_tail 17 (by kernel_rfl) (by kernel_rfl) ?_
  simp only [List.take_succ_cons,List.take_zero,List.drop_succ_cons,List.drop_zero]
  change wpStill _ _ wr.drew _ _ _
  iterate 17 still_step
  refine wpStill_nil ?_
  rw [IntWalk.u64_in (b:Int) (by omega),Hos.out]
  go_wp2_with fail
  refine (X5z B _ (b::bt) q (c+8) 1 _ x.out.1 (by simp) (by simp;omega)).mono ?_
  rintro e w1 ⟨rfl,d1,a8,a9,p⟩
  go_wp2
  go_roundg (gk-1)
  case measure=>omega
  case rel=>
   have a7:=x.out.2.trans a9 (fun _ _ h=>h)
   refine ⟨d1,bt,q,c+8,a8,HJ.out,by omega,by omega, ?_, ?_⟩
   ·exact hM.trans a7 (fun _ _ h=>h)
   rcases p with p | p
   ·rw [p];exact hO
   exact .inr p
theorem X9b {c s n:Nat} {t:List Nat} (h:n≤c):E4 ((A9 c s++t).take n)=s%2^n:=by
 rw [T0t (by rw [B5];exact h)]
 have a:=Z0m n (c-n) s
 rw [show n+(c-n)=c by omega] at a
 rw [a,T0t (by rw [B5];omega),T0i (by rw [B5];omega),Z22]
theorem V0f (B:C4) (d:Value) (l:List Nat) (n:Nat) (w:World) (h:Rr w B d l) (hn:n≤32) (hnl:l.length < n):
  Calls Tryz.prog 170 #[.pointer (some ⟨B.b,B.o,none⟩),.int .i64 (n:Int)] w fun e w'=>e= .returned (.tuple #[.int .u32 0,.bool false])∧∃k,w'=w.drewN k:=by
 have a:(l.length:Int) < (n:Int):=by omega
 go_enter Tryz.func170,Tryz.ntmps170
 go_wp2_with (first | (go_at_call 106;refine (Y1r _ _ ⟨by omega,by omega⟩).mono ?_;rintro e w' ⟨rfl,rfl⟩) | (go_at_call 93;refine (Z7s B d l w h (by omega)).mono ?_;rintro e w' ⟨rfl,k,rfl⟩))
 go_ret2
 exact ⟨rfl,_,rfl⟩
theorem X6q (B:C4) (d:Value) (l:List Nat) (n:Nat) (w:World) (h:Rr w B d l) (hn:n≤32) (hnl:n≤l.length) (hl:l.length < 1099511627000):
  Calls Tryz.prog 170 #[.pointer (some ⟨B.b,B.o,none⟩),.int .i64 (n:Int)] w fun e w'=>e= .returned (.tuple #[.int .u32 ((E4 (l.take n):Nat):Int),.bool true])∧W29 w B d l n 0 w':=by
 have hd:decide ((l.length:Int) < (n:Int))=false:=by simp;omega
 have z:=A5 h.lt
 have g:=A5 h.isBits
 go_enter Tryz.func170,Tryz.ntmps170
 go_wp2_with (first | (go_at_call 106;refine (Y1r _ _ ⟨by omega,by omega⟩).mono ?_;rintro e w' ⟨rfl,rfl⟩) | (go_at_call 93;refine (Z7s B d l w h (by omega)).mono ?_;rintro e w' ⟨rfl,k,rfl⟩) | fail)
 have h2:Rr (w.drewN k) B d l:=h.kept (S:=fun _=>False) ((E5.refl w _).drewN k) (fun _ _ h=>h)
 refine (V1n B d l n (w.drewN k) h2 hn hnl hl).mono ?_
 rintro e w2 ⟨rfl,d',bs,s,c,a,t,hc,x,hM,hO⟩
 have hs:=A5 a.2.2.2.1
 have j:=A5 a
 have c1:=a.1.cell (i:=1) rfl
 have HL:=A5 t
 have p:s < 18446744073709551616:=T08 a.2.2.2.1 (T0c (T04 (by decide) (show c≤64 by omega)) (by decide))
 obtain ⟨m,f⟩:∃m,m=s%2^n:=⟨_,rfl⟩
 have y:m < 4294967296:=by
  rw [f];exact T08 (T00 _ (T0f n)) (T04 (by decide) hn)
 have q:Hid (E4 (l.take n)=m):=by
  show E4 (l.take n)=m
  rw [←t,X9b (by omega),f]
 have r:=A5 f
 clear a t f
 go_wp2_with (go_at_call 107;refine (Y9q s n m _ p hn r.out).mono ?_;rintro e w3 ⟨rfl,rfl⟩)
 go_ret2
 rw [q.out]
 refine ⟨rfl,d',bs,s,c,j.out,HL.out,hc,x, ?_,hO⟩
 exact (((E5.refl w (fun k=>k=B.b)).drewN k).trans hM fun _ _ h=>h)
theorem V2u (B:C4) (d:Value) (l:List Nat) (n:Nat) (w:World) (h:Rr w B d l) (hn:n≤32) (hnl:l.length < n):
  Calls Tryz.prog 140 #[.pointer (some ⟨B.b,B.o,none⟩),.int .i64 (n:Int)] w fun e w'=>e= .returned (.tuple #[.int .u32 0,.bool false])∧∃k,w'=w.drewN k:=by
 go_enter Tryz.func140,Tryz.ntmps140
 go_wp2_with (go_at_call 170;refine (V0f B d l n w h hn hnl).mono ?_;rintro e w' ⟨rfl,k,rfl⟩)
 go_ret2
 exact ⟨rfl,_,rfl⟩
theorem V3e (B:C4) (d:Value) (l:List Nat) (n:Nat) (w:World) (h:Rr w B d l) (hn:n≤32) (hnl:n≤l.length) (hl:l.length < 1099511627000):
  Calls Tryz.prog 140 #[.pointer (some ⟨B.b,B.o,none⟩),.int .i64 (n:Int)] w fun e w'=>e= .returned (.tuple #[.int .u32 ((E4 (l.take n):Nat):Int),.bool true])∧Y84 w w' B d (l.drop n):=by
 have p:=A5 h.lt
 go_enter Tryz.func140,Tryz.ntmps140
 go_wp2_with fail
 refine (X6q B d l n w h hn hnl hl).mono ?_
 rintro e r ⟨rfl,i,j,s,c,t,k,x,y,z,hO⟩
 have q:=A5 k
 clear k
 obtain ⟨m,hm⟩:∃m,m=E4 (l.take n):=⟨_,rfl⟩
 rw [←hm]
 go_wp2_with fail
 refine (Y89 B i j s c n r t (by omega) x).mono ?_
 rintro e w2 ⟨rfl,a,f⟩
 go_wp2
 go_ret2
 refine ⟨rfl,i,⟨j,_,_,a,by omega, ?_⟩,z.trans f (fun _ _ h=>h),hO⟩
 rw [←q.out,List.drop_append_of_le_length (by rw [B5];omega)]
 have g:=Z0m n (c-n) s
 rw [show n+(c-n)=c by omega] at g
 rw [g,T0j,B5,Nat.sub_self,T0a (by rw [B5];omega)]
 rfl
def W8h (w:World) (H:Nat) (B:C4) (d:Value) (bs:List Nat) (L:List Nat) (n k:Nat) (v:Value) (wr:World):Prop:=
 ∃outs s c a5 c5,v= .slice a5 (outs.length) c5∧outs.length≤n∧Own wr 5 1 v outs.length (D9 outs)∧RIs wr B d bs s c∧c%8=0∧c≤39∧c≤k∧D7 outs++A9 c s=L∧(∀b∈outs,b < 256)∧
  E5 w wr (fun k=>k=B.b∨H≤k)∧(∀k,v.ownBlock=some k→H≤k)
theorem W7h {w wr w1 w2:World} {H:Nat} {B:C4} {d:Value} {bs outs L:List Nat} {n s c:Nat} {a5 a1:Option Addr} {c5 c1 j:Nat} {x:Int} {o:Obj} (hx:x=((s%256:Nat):Int)) (hj:j=outs.length) (hjn:j < n) (hc8:8≤c) (hcm:c%8=0) (hc:c≤39)
  (hL:D7 outs++A9 c s=L) (h256:∀b∈outs,b < 256) (hM:E5 w wr (fun k=>k=B.b∨H≤k)) (hfr:∀k,Value.ownBlock (.slice a5 j c5)=some k→H≤k) (hHw:H≤wr.heap.size) (hBH:B.b < H)
  (hown1:Own w1 5 1 (.slice a1 (j+1) c1) (j+1) (D9 outs++[.int .u8 x])) (hgrow:(wr.alloc o).grownBy w1 (Value.ownBlock (.slice a5 j c5)))
  (hat:Value.ownBlock (.slice a1 (j+1) c1)=Value.ownBlock (.slice a5 j c5)∨Value.ownBlock (.slice a1 (j+1) c1)=some (wr.alloc o).heap.size)
  (hR2:RIs w2 B d bs (s / 2^8) (c-8)) (hM2:E5 w1 w2 (fun k=>k=B.b)):W8h w H B d bs L n (c-8) (.slice a1 (j+1) c1) w2:=by
 subst hj hx
 have i:(wr.alloc o).heap.size=wr.heap.size+1:=by show (wr.heap.push o).size=_;simp
 have a:∀k,Value.ownBlock (.slice a1 (outs.length+1) c1)=some k→H≤k:=by
  intro k g
  rcases hat with h | h
  ·exact hfr k (h ▸ g)
  rw [h,i] at g;injection g with g;omega
 have f:(outs++[s%256]).length=outs.length+1:=by simp
 have l:E5 w w1 (fun k=>k=B.b∨H≤k):=(hM.alloc o).grown hgrow fun k g=> .inr (.inr (hfr k g))
 refine ⟨outs++[s%256],s / 2^8,c-8,a1,c1,by rw [f],by omega, ?_,hR2,by omega,by omega,T06 _, ?_, ?_,l.trans hM2 (fun k _ e=> .inl e),a⟩
 ·rw [f]
  have e:D9 outs++[Value.int .u8 ((s%256:Nat):Int)]=D9 (outs++[s%256]):=by rw [J8];rfl
  rw [e] at hown1
  exact hown1.kept hM2 (fun k g e=>by have:=a k g;omega)
 ·rw [←hL,M7,Q6,Z62,T07,T01]
  congr 1
  have p:=Z0m 8 (c-8) s
  rw [show 8+(c-8)=c by omega] at p
  rw [p,show s%256=s%2^8 from rfl,Z0r]
 intro b m
 rcases List.mem_append.1 m with h | h
 ·exact h256 b h
 simp at h;omega
def Z49 (l:List Nat) (n:Int):Nat:=min n.toNat ((l.drop (l.length%8)).length / 8)
theorem V24 {outs bs:List Nat} {c s N more:Nat} {l1:List Nat} (hL:l1=(D7 outs++A9 c s)++D7 bs) (hc:c=0∨outs.length=N) (hcm:c%8=0) (ho:outs.length≤N) (hN:N≤l1.length / 8)
  (hmore:more=N-outs.length) (h256:∀b∈outs,b < 256) (hb256:∀b∈bs,b < 256):
  outs++bs.take more=(D4 l1).take N∧A9 c s++D7 (bs.drop more)=l1.drop (8*N)∧more≤bs.length:=by
 have d:=congrArg T0b hL
 simp only [T0g,E1,B5] at d
 rcases hc with rfl | hc
 ·simp only [A9,T07] at hL
  have i:l1=D7 (outs++bs)++[]:=by rw [hL,M7,T07]
  have j:D4 l1=outs++bs:=by
   rw [i];exact Z0e _ _ (fun b a=>(List.mem_append.1 a).elim (h256 b) (hb256 b)) (by simp)
  refine ⟨?_, ?_,by omega⟩
  ·rw [j,List.take_append,T0i ho,hmore]
  rw [i,T07,Z9x,T0j,T0a ho,hmore];simp [A9]
 have k:more=0:=by omega
 subst k
 refine ⟨?_, ?_,by omega⟩
 ·have f:l1=D7 outs++(A9 c s++D7 bs):=by rw [hL,T01]
  have l:∃g:List Nat,A9 c s=D7 g∧∀b∈g,b < 256:=by
   obtain ⟨m,p⟩:∃m,c=8*m:=⟨c / 8,by omega⟩
   subst p
   clear hL d f hcm hc
   induction m generalizing s with
   | zero=>exact ⟨[],rfl,by simp⟩
   | succ m ih=>
    obtain ⟨g,n,o⟩:=ih (s:=s / 2^8)
    refine ⟨s%256::g, ?_, ?_⟩
    ·rw [Q6,←n,show 8*(m+1)=8+8*m by omega,Z0m,show s%256=s%2^8 from rfl,Z0r]
    intro b a
    rcases List.mem_cons.1 a with rfl | h
    ·omega
    exact o b h
  obtain ⟨g,n,o⟩:=l
  have j:D4 l1=outs++(g++bs):=by
   have:l1=D7 (outs++(g++bs))++[]:=by rw [f,n,M7,M7,T07]
   rw [this]
   exact Z0e _ _ (fun b a=>by
    rcases List.mem_append.1 a with h | h
    ·exact h256 b h
    rcases List.mem_append.1 h with h | h
    ·exact o b h
    exact hb256 b h) (by simp)
  rw [j,←hc];simp
 rw [hL,←hc,T01,←E1 outs,List.drop_left];simp
theorem V0z {w2:World} {H N:Nat} {B:C4} {d:Value} {bs:List Nat} {s c:Nat} {v:Value} (hv:∃a5 c5,v= .slice a5 0 c5) (hown:Own w2 5 1 v 0 []) (hR:RIs w2 B d bs s c) (hcm:c%8=0) (hc:c≤39) (hfr:∀k,v.ownBlock=some k→H≤k):
  W8h w2 H B d bs (A9 c s) N c v w2:=by
 obtain ⟨a5,c5,rfl⟩:=hv
 exact ⟨[],s,c,a5,c5,rfl,T0k _,hown,hR,hcm,hc,T06 _,rfl,by simp,E5.refl _ _,hfr⟩
theorem W79 {w w1 w2 wr w5 w6:World} {H N more s c k:Nat} {B:C4} {d d1 d' v:Value} {l1 outs bs:List Nat} {ao5:Option Addr} {c5 j:Nat} (hM1:E5 w w1 (fun k=>k=B.b)) (hmv1:d1.ownBlock=d.ownBlock∨d1.ownBlock=none) (hH:H=w1.heap.size)
  (hgrow2:(w1.drewN k).grownBy w2 none) (hMr:E5 w2 wr (fun k=>k=B.b∨H≤k)) (hfr:∀k,Value.ownBlock (.slice ao5 j c5)=some k→H≤k) (hgrow:wr.grownBy w5 (Value.ownBlock (.slice ao5 j c5)))
  (hat:v.ownBlock=Value.ownBlock (.slice ao5 j c5)∨v.ownBlock=some wr.heap.size)
  (hfin:outs++bs.take more=(D4 l1).take N∧A9 c s++D7 (bs.drop more)=l1.drop (8*N)∧more≤bs.length)
  (hown5:Own w5 5 1 v N (D9 (outs++bs.take more))) (hc:c≤39)
  (hR6:RIs w6 B d' (bs.drop more) s c) (hM6:E5 w5 w6 (fun k=>k=B.b)) (hd':d'.ownBlock=d1.ownBlock∨d'.ownBlock=none) (hBH:B.b < H):
  Own w6 5 1 v N (D9 ((D4 l1).take N))∧Y84 w w6 B d (l1.drop (8*N))∧(∀k,v.ownBlock=some k→w.heap.size≤k):=by
 have i:E5 w1 w2 (fun _=>False):=((E5.refl w1 _).drewN k).grown hgrow2 (fun k a=>by cases a)
 have m:H≤wr.heap.size:=by rw [hH];exact T0c i.size hMr.size
 have g:∀k,v.ownBlock=some k→H≤k:=by
  intro k a
  rcases hat with h | h
  ·exact hfr k (h ▸ a)
  rw [h] at a;injection a with a;omega
 have l:E5 w1 w6 (fun k=>k=B.b):=by
  refine ((i.mono (T:=fun k=>k=B.b) (fun _ _ h=>h.elim)).trans hMr ?_).trans ?_ (T:=fun k=>k=B.b∨H≤k) ?_
  ·intro k a f;rcases f with f | f
   ·exact f
   omega
  ·exact ((E5.refl wr (fun k=>k=B.b∨H≤k)).grown hgrow fun k a=> .inr (.inr (hfr k a))).trans hM6 (fun k _ e=> .inl e)
  intro k a f;rcases f with f | f
  ·exact f
  omega
 refine ⟨?_,⟨d',⟨_,_,_,hR6,hc,hfin.2.1.symm⟩,hM1.same l, ?_⟩,fun k a=>T0c hM1.size (by rw [←hH];exact g k a)⟩
 ·rw [←hfin.1]
  exact hown5.kept hM6 (fun k a e=>by have:=g k a;omega)
 rcases hd' with h | h
 ·rw [h];exact hmv1
 exact .inr h
theorem W3e (B:C4) (d:Value) (l:List Nat) (n:Int) (w:World) (h:Rr w B d l) (hl:l.length < 1099511600000) (h0:Z49 l n=0):
  Calls Tryz.prog 81 #[.pointer (some ⟨B.b,B.o,none⟩),.int .i64 n] w fun e w'=>e= .returned (.slice none 0 0)∧Y84 w w' B d (l.drop (l.length%8)):=by
 obtain ⟨g,a⟩:∃g,g=l.drop (l.length%8):=⟨_,rfl⟩
 have p:g.length < 1099511600000:=by rw [a,T05];omega
 unfold Z49 at h0
 rw [←a] at h0⊢
 have s:=A5 a
 clear a
 have f:n≤(g.length:Int) / 8∧n < 1∨(g.length:Int) / 8 < n∧(g.length:Int) / 8 < 1:=by omega
 rcases f with ⟨hnl,hn1⟩ | ⟨hnl,hn1⟩
 all_goals
  go_enter Tryz.func81,Tryz.ntmps81
  go_wp2_with fail
  refine (Y0b B d l w h).mono ?_
  rw [←s.out]
  rintro e q ⟨rfl,r,i,m,j⟩
  go_wp2_with (go_at_call 93;refine (Z7s B r g q i (by omega)).mono ?_;rintro e w' ⟨rfl,k,rfl⟩)
  go_ret
  exact ⟨rfl,r,i.kept (S:=fun _=>False) ((E5.refl q _).drewN k) (fun _ _ h=>h),m.drewN k,j⟩
theorem W6a (B:C4) (d:Value) (l:List Nat) (n:Int) (N:Nat) (w:World) (h:Rr w B d l) (hl:l.length < 1099511600000) (hN:Z49 l n=N) (hN0:0 < N):
  Calls Tryz.prog 81 #[.pointer (some ⟨B.b,B.o,none⟩),.int .i64 n] w fun e w'=>∃v,e= .returned v∧Own w' 5 1 v N (D9 ((D4 (l.drop (l.length%8))).take N))∧
   Y84 w w' B d ((l.drop (l.length%8)).drop (8*N))∧(∀k,v.ownBlock=some k→w.heap.size≤k):=by
 obtain ⟨i,hi,c3,a6,c4⟩:=info_parts Tryz.infoByte
 obtain ⟨l1,a7⟩:∃l1,l1=l.drop (l.length%8):=⟨_,rfl⟩
 have g7:l1.length < 1099511600000:=by rw [a7,T05];omega
 unfold Z49 at hN
 rw [←a7] at hN⊢
 have HL:=A5 a7
 have e4:N≤l1.length / 8:=by omega
 clear a7
 have b3:n=(N:Int)∧(N:Int)≤(l1.length:Int) / 8∨(l1.length:Int) / 8 < n∧(l1.length:Int) / 8=(N:Int):=by omega
 have h6:(1:Int)≤(N:Int):=by omega
 have h7:N < 1099511600000:=by omega
 clear hN
 rcases b3 with ⟨rfl,hnl⟩ | ⟨hnl,hq⟩
 all_goals
  go_enter Tryz.func81,Tryz.ntmps81
  go_wp2_with fail
  refine (Y0b B d l w h).mono ?_
  rw [←HL.out]
  rintro e w1 ⟨rfl,d1,b8,f6,d6⟩
  have x:=A5 b8
  go_wp2_with (first
   | (go_at_call 93;refine (Z7s B d1 l1 w1 b8 (by omega)).mono ?_;rintro e w' ⟨rfl,k,rfl⟩)
   | (at_make;refine Go.wpList_make_own _ rfl _ _ 26 rfl 0 5 i (.int .u8 0) 1 Tryz.underlying26 hi c3 a6 .i64 .i64 _ N rfl rfl rfl (by rw [c4];omega) (by unfold maxLen;omega) (T0k _) ?_;intro w2 z m))
  have hH:w1.heap.size=(w1.drewN k).heap.size:=rfl
  obtain ⟨H,a0⟩:∃H,H=w1.heap.size:=⟨_,rfl⟩
  have b4:E5 w1 w2 (fun _=>False):=((E5.refl w1 _).drewN k).grown m (fun k hk=>by cases hk)
  have e5:=x.out.kept b4 (fun _ _ h=>h)
  have c9:B.b < H:=by rw [a0];exact x.out.lt B.b (.inl rfl)
  have e6:H≤w2.heap.size:=by rw [a0];exact b4.size
  obtain ⟨r,s,c,f,hc,t⟩:=e5
  have e7:c%8=0:=by
   have h1:=congrArg T0b t
   rw [X0i] at h1
   have h2:l1.length%8=0:=by rw [HL.out,T05];omega
   omega
  have e9:=V0z (N:=N) (H:=H) ⟨_,_,rfl⟩ (Own.of_row z) f e7 hc (fun k hk=>by simp only [Value.ownBlock,Option.some.injEq] at hk;rw [←hk,a0];exact T06 _)
  have h9:r.length < 1099511600000:=by have h1:=congrArg T0b t;rw [X0i] at h1;omega
  have d0:=f.2.1.form
  have b5:=f.2.2.2.2
  have f0:=A5 t
  have HH:=A5 a0
  have f1:=A5 m
  have d2:∀k,Z1l B.b d1 k→¬H≤k:=fun k hk=>by have:=x.out.lt k hk;omega
  have HdH:=A5 d2
  clear b8 t a0 m b4 z f hH d2
  obtain ⟨ao,a8,rfl,_,_⟩:=d0
  go_loopg [5] c (fun k t5 wr=>W8h w2 H B (.slice ao r.length a8) r (A9 c s) N k t5 wr)
  case atStart=>exact e9
  case round=>
   obtain ⟨g,s',c',a5,c5,rfl,d8,a1,f,b1,c6,i8,d9,b2,c7,a2⟩:=hrel
   obtain ⟨j,hj⟩:∃j,j=g.length:=⟨_,rfl⟩
   rw [←hj] at a1 a2 d8⊢
   have HJ:=A5 hj
   have d3:=A5 d9
   have f2:H≤wr.heap.size:=T0c e6 c7.size
   have c0:=f.1.cell0 rfl
   have c1:=f.1.cell (i:=1) rfl
   have c2:=f.1.cell (i:=2) rfl
   have b6:=A5 f
   clear hj d9 f
   by_cases d5:8≤c'∧j < N
   ·obtain ⟨e0,g6⟩:=d5
    have i1:(0:Int) < (c':Int):=by omega
    go_wp2_with (first
     | (at_builtin;refine Y3z rfl (.tmp 31) (.tmp 37) 26 rfl 5 i (.int .u8 0) 1 Tryz.underlying26 hi c3 a6 c4 rfl (.slice a5 j c5) j (D9 g) rfl a1 rfl rfl (by unfold maxLen;omega) (by omega) ?_;intro f8 d7 w3 b9 a a4)
     | (go_at_call 94;refine (Y89 B (.slice ao r.length a8) r s' c' 8 w3 (b6.out.kept (((E5.refl wr (fun k=>H≤k)).alloc _).grown a (fun k hk=> .inr (a2 k hk))) HdH.out) e0 c6).mono ?_;rintro e w4 ⟨rfl,f9,g0⟩))
    go_roundg (c'-8)
    case measure=>omega
    case rel=>exact W7h (by omega) HJ.out g6 e0 b1 c6 d3.out b2 c7 a2 f2 c9 b9 a a4 f9 g0
   obtain ⟨more,q⟩:∃more,more=N-j:=⟨_,rfl⟩
   have a9:l1=(D7 g++A9 c' s')++D7 r:=by rw [d3.out];exact f0.out
   have y:=V24 (N:=N) (more:=more) a9 (by have:=HJ.out;omega) b1 (by rw [←HJ.out];exact d8) e4 (by rw [←HJ.out];exact q) b2 b5
   have d4:more≤r.length:=y.2.2
   have HF:=A5 y
   have f3:=A5 q
   have i3:(N:Int)- (j:Int)=(more:Int):=by omega
   have b7:¬(0:Int) < (c':Int)∨(0:Int) < (c':Int)∧¬(j:Int) < (N:Int):=by omega
   clear y a9
   rcases b7 with b7 | ⟨b7,hex2⟩
   all_goals
    clear q d5
    go_wp2_with (first
     | ((with_reducible show wpList _ _ _ (⟨some 51,_,_,_,_,_⟩::_) _ _);refine Z5j (w:=wr) rfl 26 (.tmp 49) none (some (.tmp 50)) rfl 5 i 1 Tryz.underlying26 hi a6 ao r.length a8 0 more (D9 r) rfl b6.out.2.1.rd rfl ⟨_,rfl⟩ (T0k _) d4 ?_;simp only [Nat.sub_zero,T0h,List.drop_zero];intro a' h0 h3)
     | (at_builtin;refine Z4c _ rfl (.tmp 45) (.tmp 51) 26 rfl 5 i (.int .u8 0) 1 1 Tryz.underlying26 hi c3 a6 c4 rfl (by decide) (.slice a5 j c5) j (D9 g) rfl a1 _ more ((D9 r).take more) rfl (by assumption) (by intro u hu;exact T0 _ u (List.mem_of_mem_take hu)) (by unfold maxLen;omega) (by omega) ?_;intro f8 d7 w5 p a a4)
     | (go_at_call 95;refine (X5z B (.slice ao r.length a8) r s' c' more w5 (b6.out.kept ((E5.refl wr (fun k=>H≤k)).grown a (fun k hk=> .inr (a2 k hk))) HdH.out) d4 (by omega)).mono ?_;rintro e w6 ⟨rfl,d',g1,g2,g3⟩))
    go_ret
    refine ⟨_,rfl, ?_⟩
    have f4:j+more=N:=by have:=f3.out;omega
    rw [f4] at p a4⊢
    have f5:=HF.out
    rw [show D9 g++(D9 r).take more=D9 (g++r.take more) by rw [J8];simp [D9]] at p
    exact W79 f6 d6 HH.out f1.out c7 a2 a a4 f5 p c6 g1 g2 g3 c9
end Go.Proofs.YtbkbkmgogbgofaaGreatDoor
