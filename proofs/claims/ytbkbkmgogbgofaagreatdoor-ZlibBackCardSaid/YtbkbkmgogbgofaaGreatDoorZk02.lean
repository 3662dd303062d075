/- The claim's texts, put together and shortened by a program (names, spaces). -/
import Derived.Test.YtbkbkmgogbgofaaGreatDoorZk01
import Derived.Test.YtbkbkmgogbgofaaGreatDoorProg
import Derived.StillTailTactics
open List renaming mem_of_getElem?→T01,range→T02,take_append_of_le_length→T07,getElem?_eq_getElem→T09,length_append→T0d,replicate→T0e,countP_eq_zero→T0h,take_of_length_le→T0i
open Nat renaming two_pow_pos→T03,lt_of_lt_of_le→T05,pow_succ→T06,add_mul→T08,mod_lt→T0a,mul_comm→T0b,le_refl→T0c,lt_of_mul_lt_mul_right→T0f,le_div_iff_mul_le→T0g,div_div_eq_div_mul→T0j
open Int renaming natCast_nonneg→T00,eq_ofNat_of_zero_le→T04
namespace Go.Proofs.YtbkbkmgogbgofaaGreatDoor
set_option maxRecDepth 100000
set_option maxHeartbeats 6400000
open Go.RowKit
def hit (l:List Int) (b i:Nat):Bool:=match l[i]? with
 | some a=>Q2 a && decide (b / 2^(15-a.toNat)=G0 l i)
 | none=>false
def V6y (l:List Int) (b i:Nat):Nat:=(T02 i).countP (hit l b)
theorem X2c (l:List Int) (b i p:Nat) (h:l[i]?=some (p:Int)) (hp:1≤p) (hp2:p≤15):hit l b i=decide (b / 2^(15-p)=G0 l i):=by
 have:Q2 (p:Int)=true:=by simp [Q2];omega
 simp [hit,h,this]
theorem X4t (l:List Int) (b i:Nat) (h:l[i]?=some 0):hit l b i=false:=by simp [hit,h,Q2]
theorem W6d (l:List Int) (i p:Nat) (h:l[i]?=some (p:Int)) (hp:1≤p) (hp2:p≤15) (hs:F4 l≤32768):G0 l i < 2^p:=by
 obtain ⟨m,rfl⟩:∃m,p=m+1:=⟨p-1,by omega⟩
 have b:=W52 l i m h (by omega)
 have d:0 < 2^(14-m):=T03 _
 have f:2^(m+1)*2^(14-m)=32768:=by rw [←Nat.pow_add,show m+1+(14-m)=15 by omega]
 refine T0f (a:=2^(14-m)) ?_
 omega
theorem W3u (l:List Int) (i k p q:Nat) (h:l[i]?=some (p:Int)) (h2:l[k]?=some (q:Int)) (hp:1≤p) (hq:q≤15) (hpq:p≤q) (hne:k≠i):G0 l k / 2^(q-p)≠G0 l i:=by
 obtain ⟨m,rfl⟩:∃m,p=m+1:=⟨p-1,by omega⟩
 obtain ⟨r,rfl⟩:∃r,q=r+1:=⟨q-1,by omega⟩
 have g:0 < 2^(14-r):=T03 _
 by_cases j:m < r∨m=r∧i < k
 ·have b:=Z8g l i k m r h h2 (by omega) (by omega) j
  rw [show 14-m=(r+1- (m+1))+(14-r) by omega,Nat.pow_add] at b
  have d:G0 l i*2^(r+1- (m+1))+2^(r+1- (m+1))≤G0 l k:=by
   refine Nat.le_of_mul_le_mul_right ?_ g
   rw [T08,Nat.mul_assoc];exact b
  have f:G0 l i+1≤G0 l k / 2^(r+1- (m+1)):=by
   rw [T0g (T03 _),T08,Nat.one_mul];exact d
  omega
 obtain ⟨rfl,f⟩:r=m∧k < i:=by omega
 have b:=Z8g l k i r r h2 h (by omega) (by omega) (.inr ⟨rfl,f⟩)
 have d:G0 l k < G0 l i:=T0f (a:=2^(14-r)) (by omega)
 rw [Nat.sub_self,Nat.pow_zero,Nat.div_one];omega
theorem X0t {p:Nat→Bool}:∀ {n i:Nat},i < n→p i=true→(∀k,k < n→p k=true→k=i)→(T02 n).countP p=1
 | 0,i,h,_,_=>by omega
 | n+1,i,h,hi,hu=>by
  rw [List.range_succ,List.countP_append,List.countP_singleton]
  by_cases e:i=n
  ·subst e
   rw [hi,if_pos rfl]
   have:(T02 i).countP p=0:=by
    rw [T0h]
    intro k b a
    have d:=List.mem_range.1 b
    have:=hu k (by omega) a
    omega
   omega
  rw [if_neg,X0t (show i < n by omega) hi fun k b a=>hu k (by omega) a]
  intro a
  exact e (hu n (by omega) a).symm
theorem V4i (l:List Int) (b:Nat) (hl:∀a∈l,0≤a∧a≤15) (hs:F4 l=32768) (hb:b < 32768):V6y l b l.length=1:=by
 obtain ⟨i,m,j,h2,h3,h4⟩:=Y40 l b 15 (by omega) (by show b < F4 l;omega)
 have n:=(List.getElem?_eq_some_iff.1 j).1
 have hw:0 < 2^(14-m):=T03 _
 refine X0t n ?_ ?_
 ·rw [X2c l b i (m+1) j (by omega) (by omega),decide_eq_true_eq,show 15- (m+1)=14-m by omega]
  refine Nat.div_eq_of_lt_le h3 ?_
  rw [T08,Nat.one_mul];exact h4
 intro k z g
 have f:l[k]?=some l[k]:=T09 z
 have t:=hl _ (T01 f)
 obtain ⟨q,hq⟩:=T04 t.1
 rw [hq] at f
 by_cases p:q=0
 ·subst p
  rw [X4t l b k f] at g
  cases g
 obtain ⟨r,rfl⟩:∃r,q=r+1:=⟨q-1,by omega⟩
 have d:r≤14:=by omega
 rw [X2c l b k (r+1) f (by omega) (by omega),decide_eq_true_eq,show 15- (r+1)=14-r by omega] at g
 have o:0 < 2^(14-r):=T03 _
 have x:=Nat.div_add_mod b (2^(14-r))
 have h6:=T0a b o
 rw [g,T0b] at x
 by_cases s:k=i
 ·exact s
 exfalso
 by_cases y:r < m∨r=m∧k < i
 ·have:=Z8g l k i r m f j d (by omega) y
  omega
 have:=Z8g l i k m r j f (by omega) d (by omega)
 omega
def hiN (l:List Nat):Nat:=l.foldl (fun v b=>2*v+b) 0
def W7 (n c:Nat):List Nat:=(T02 n).map fun k=>c / 2^(n-1-k)%2
theorem V14 (l:List Nat) (b:Nat):hiN (l++[b])=2*hiN l+b:=by simp [hiN]
theorem Z7l (l:List Nat) (n b:Nat) (h:l[n]?=some b):hiN (l.take (n+1))=2*hiN (l.take n)+b:=by
 rw [List.take_add_one,h];exact V14 _ _
theorem W0r (l:List Nat) (hb:isBits l):∀n,hiN (l.take n) < 2^n
 | 0=>by simp [hiN]
 | n+1=>by
  have ih:=W0r l hb n
  rw [T06]
  cases h:l[n]? with
  | none=>
   have hl:=List.getElem?_eq_none_iff.1 h
   rw [T0i (by omega)]
   rw [T0i hl] at ih
   omega
  | some b=>
   rw [Z7l l n b h]
   have:=hb b (T01 h)
   omega
theorem X26 (l:List Nat) (hb:isBits l) (n:Nat):∀d,n+d≤l.length→hiN (l.take (n+d)) / 2^d=hiN (l.take n)
 | 0,_=>by simp
 | d+1,h=>by
  have ih:=X26 l hb n d (by omega)
  have hg:l[n+d]?=some l[n+d]:=T09 _
  have hbb:=hb _ (T01 hg)
  rw [←Nat.add_assoc,Z7l l (n+d) _ hg,T06,T0b (2^d) 2,←T0j,show (2*hiN (l.take (n+d))+l[n+d]) / 2=hiN (l.take (n+d)) by omega]
  exact ih
theorem T9 (n c:Nat):(W7 n c).length=n:=by simp [W7]
theorem Z57 (n c:Nat):isBits (W7 n c):=by
 intro b a
 obtain ⟨k,_,rfl⟩:=List.mem_map.1 a
 have:=T0a (c / 2^(n-1-k)) (show 0 < 2 by decide)
 omega
theorem Z9e (n c:Nat):∀k,k≤n→hiN ((W7 n c).take k)=c / 2^(n-k)%2^k
 | 0,_=>by simp [hiN,Nat.mod_one]
 | k+1,h=>by
  have hg:(W7 n c)[k]?=some (c / 2^(n-1-k)%2):=by simp [W7,show k < n by omega]
  rw [Z7l _ _ _ hg,Z9e n c k (by omega),show n-1-k=n- (k+1) by omega,show n-k=(n- (k+1))+1 by omega,T06 2 (n- (k+1)),←T0j]
  generalize c / 2^(n- (k+1))=x
  have h1:=Nat.mod_mul_right_div_self x 2 (2^k)
  have h2:=Nat.mod_mul_right_mod x 2 (2^k)
  have h3:=Nat.div_add_mod (x%(2*2^k)) 2
  rw [T06,T0b (2^k) 2]
  omega
theorem W8g (n c:Nat) (hc:c < 2^n) (rest:List Nat):hiN ((W7 n c++rest).take n)=c:=by
 rw [T07 (by rw [T9];omega),Z9e n c n (T0c _),Nat.sub_self,Nat.pow_zero,Nat.div_one,Nat.mod_eq_of_lt hc]
def lng (l:List Int):Nat:=l.foldr (fun a m=>max a.toNat m) 0
theorem V11 (l:List Int):∀a∈l,a.toNat≤lng l:=by
 induction l with
 | nil=>simp
 | cons b l ih=>
  intro a d
  show a.toNat≤max b.toNat (lng l)
  rcases List.mem_cons.1 d with rfl | d
  ·omega
  have:=ih a d;omega
theorem V3i (l:List Int) (n:Nat) (h:∀a∈l,a.toNat≤n):lng l≤n:=by
 induction l with
 | nil=>exact Nat.zero_le _
 | cons b l ih=>
  have d:=h b List.mem_cons_self
  have f:=ih fun a ha=>h a (List.mem_cons_of_mem _ ha)
  show max b.toNat (lng l)≤n
  omega
def Hit (l:List Int) (bs:List Nat) (i n:Nat):Prop:=l[i]?=some (n:Int)∧1≤n∧n≤bs.length∧hiN (bs.take n)=G0 l i
theorem Hit.long {l:List Int} {bs:List Nat} {i n:Nat} (h:Hit l bs i n):n≤lng l:=by
 have:=V11 l _ (T01 h.1)
 simpa using this
theorem Hit.one {l:List Int} {bs:List Nat} (hb:isBits bs) (hl:∀a∈l,0≤a∧a≤15) {i n j m:Nat} (h:Hit l bs i n) (h2:Hit l bs j m):i=j∧n=m:=by
 have b:∀ {i n j m:Nat},Hit l bs i n→Hit l bs j m→n≤m→i=j:=fun {i n j m} h h2 hnm=>by
  by_cases e:j=i
  ·exact e.symm
  exfalso
  have f:=hl _ (T01 h2.1)
  have d:=W3u l i j n m h.1 h2.1 h.2.1 (by omega) hnm e
  apply d
  rw [←h2.2.2.2,←h.2.2.2]
  have:=X26 bs hb n (m-n) (by have:=h2.2.2.1;omega)
  rw [show n+(m-n)=m by omega] at this
  exact this
 have e:i=j:=by
  rcases Nat.le_total n m with d | d
  ·exact b h h2 d
  exact (b h2 h d).symm
 subst e
 have:=h.1.symm.trans h2.1
 simp only [Option.some.injEq] at this
 exact ⟨rfl,by omega⟩
theorem Hit.more {l:List Int} {bs:List Nat} {i n:Nat} (h:Hit l bs i n) (cs:List Nat):Hit l (bs++cs) i n:=
 ⟨h.1,h.2.1,by rw [T0d];have:=h.2.2.1;omega,by rw [T07 h.2.2.1];exact h.2.2.2⟩
theorem Hit.less {l:List Int} {bs cs:List Nat} {i n:Nat} (h:Hit l (bs++cs) i n) (hn:n≤bs.length):Hit l bs i n:=
 ⟨h.1,h.2.1,hn,by have:=h.2.2.2;rw [T07 hn] at this;exact this⟩
theorem Hit.written {l:List Int} (hs:F4 l≤32768) {i n:Nat} (h:l[i]?=some (n:Int)) (hn:1≤n) (hn2:n≤15) (rest:List Nat):Hit l (W7 n (G0 l i)++rest) i n:=
 ⟨h,hn,by rw [T0d,T9];omega,W8g n _ (W6d l i n h hn hn2 hs) rest⟩
theorem Hit.whole {l:List Int} (hl:∀a∈l,0≤a∧a≤15) (hs:F4 l=32768) {bs:List Nat} (hb:isBits bs) (hlen:lng l≤bs.length):∃i n,Hit l bs i n:=by
 have g:isBits (bs++T0e 15 0):=by
  intro b h
  rcases List.mem_append.1 h with h | h
  ·exact hb b h
  have:=List.eq_of_mem_replicate h;omega
 obtain ⟨x,t⟩:∃x,x=hiN ((bs++T0e 15 0).take 15):=⟨_,rfl⟩
 have m:x < 32768:=by rw [t];exact W0r _ g 15
 have y:=V4i l x hl hs m
 have z:∃i,i < l.length∧hit l x i=true:=by
  by_cases s:∃i,i < l.length∧hit l x i=true
  ·exact s
  exfalso
  unfold V6y at y
  have:(T02 l.length).countP (hit l x)=0:=by
   rw [T0h]
   intro i r f
   exact s ⟨i,List.mem_range.1 r,f⟩
  omega
 obtain ⟨i,r,f⟩:=z
 have d:l[i]?=some l[i]:=T09 r
 have hr:=hl _ (T01 d)
 obtain ⟨p,hp⟩:=T04 hr.1
 rw [hp] at d
 have j:p≤15:=by omega
 by_cases q:p=0
 ·subst q
  rw [X4t l x i d] at f;cases f
 rw [X2c l x i p d (by omega) j,decide_eq_true_eq] at f
 have o:=V11 l _ (T01 d)
 have k:p≤bs.length:=by simp at o;omega
 refine ⟨i,p,d,by omega,k, ?_⟩
 rw [←f,t]
 have:=X26 (bs++T0e 15 0) g p (15-p) (by simp;omega)
 rw [show p+(15-p)=15 by omega,T07 k] at this
 exact this.symm
def O9 (l:List Int) (bs:List Nat) (k n e:Nat):Prop:=
 (e=0∧Hit l bs k n)∨(k=0∧n=0∧(∀i m,¬Hit l bs i m)∧e=if bs.length < lng l∨bs=[] then 5 else 3)
theorem O9.one {l:List Int} {bs:List Nat} (hb:isBits bs) (hl:∀a∈l,0≤a∧a≤15) {k n e k2 n2 e2:Nat} (h:O9 l bs k n e) (h2:O9 l bs k2 n2 e2):k=k2∧n=n2∧e=e2:=by
 rcases h with ⟨rfl,h⟩ | ⟨rfl,rfl,h,rfl⟩ <;> rcases h2 with ⟨rfl,h2⟩ | ⟨rfl,rfl,h2,rfl⟩
 ·obtain ⟨a,b⟩:=h.one hb hl h2
  exact ⟨a,b,rfl⟩
 ·exact absurd h (h2 _ _)
 ·exact absurd h2 (h _ _)
 exact ⟨rfl,rfl,rfl⟩
theorem O9.errs {l:List Int} {bs:List Nat} {k n e:Nat} (h:O9 l bs k n e):e=0∨e=3∨e=5:=by
 rcases h with ⟨rfl,_⟩ | ⟨_,_,_,rfl⟩
 ·exact .inl rfl
 split
 ·exact .inr (.inr rfl)
 exact .inr (.inl rfl)
theorem O9.part {l:List Int} {bs cs:List Nat} {k n e:Nat} (h:O9 l bs k n e) (he:e≠5):O9 l (bs++cs) k n e:=by
 rcases h with ⟨rfl,h⟩ | ⟨rfl,rfl,h,rfl⟩
 ·exact .inl ⟨rfl,h.more cs⟩
 by_cases a:bs.length < lng l∨bs=[]
 ·rw [if_pos a] at he;exact absurd rfl he
 have f:lng l≤bs.length:=by
  have:¬bs.length < lng l:=fun h=>a (.inl h)
  omega
 have b:bs≠[]:=fun h=>a (.inr h)
 refine .inr ⟨rfl,rfl,fun i m hh=>h i m (hh.less (by have:=hh.long;omega)), ?_⟩
 rw [if_neg a,if_neg]
 rintro (d | d)
 ·rw [T0d] at d;omega
 exact b (List.append_eq_nil_iff.1 d).1
def sb (g c:Nat):Nat:=if c < g then c else (g+c%g)*2^(c / g-1)
def sx (g c:Nat):Nat:=if c < g then 0 else c / g-1
def lB (k:Nat):Nat:=if k=28 then 258 else 3+sb 4 k
def lX (k:Nat):Nat:=if k=28 then 0 else sx 4 k
def dB (k:Nat):Nat:=1+sb 2 k
def dX (k:Nat):Nat:=sx 2 k
def Z1w (B:Nat→Nat) (m v c:Nat):Prop:=c < m∧B c≤v∧∀d,c < d→d < m→v < B d
theorem Z1w.same {B:Nat→Nat} {m v c d:Nat} (h:Z1w B m v c) (h':Z1w B m v d):c=d:=by
 obtain ⟨a,i,b⟩:=h
 obtain ⟨f,j,g⟩:=h'
 rcases Nat.lt_trichotomy c d with h | h | h
 ·have:=b d h f;omega
 ·exact h
 have:=g c h a;omega
theorem V3s:∀k,k < 27→lB (k+1)=lB k+2^lX k:=by decide+kernel
theorem V2t:∀k,k < 29→dB (k+1)=dB k+2^dX k:=by decide+kernel
theorem V6d:∀k,k < 29→∀j,j < k→lB j < lB k:=by decide+kernel
theorem V6i:∀k,k < 30→∀j,j < k→dB j < dB k:=by decide+kernel
theorem X0u:∀k,k < 29→lX k≤5:=by decide+kernel
theorem Y9l:∀k,k < 30→dX k≤13:=by decide+kernel
theorem W8f:∀k,k < 29→3≤lB k∧lB k≤258:=by decide+kernel
theorem X62:∀k,k < 30→1≤dB k∧dB k≤24577:=by decide+kernel
theorem V4o:∀k,k < 28→lB (k+1)≤lB k+2^lX k:=by decide+kernel
theorem V3x:∀k,k < 29→dB (k+1)≤dB k+2^dX k:=by decide+kernel
theorem X6j {v c:Nat} (h:Z1w lB 29 v c) (hv:v≤258):v-lB c < 2^lX c:=by
 obtain ⟨g,d,f⟩:=h
 by_cases b:c=28
 ·subst b
  have e:lB 28=258:=by decide
  have a:lX 28=0:=by decide
  rw [e] at d⊢
  rw [a]
  simp;omega
 have:=f (c+1) (by omega) (by omega)
 have:=V4o c (by omega)
 omega
theorem Y8y {v c:Nat} (h:Z1w dB 30 v c) (hv:v≤32768):v-dB c < 2^dX c:=by
 obtain ⟨g,d,f⟩:=h
 by_cases b:c=29
 ·subst b
  have e:dB 29=24577:=by decide
  have a:dX 29=13:=by decide
  rw [e] at d⊢
  rw [a]
  omega
 have:=f (c+1) (by omega) (by omega)
 have:=V3x c (by omega)
 omega
theorem X0y (c g:Nat) (hc:c < 1000) (hg:1≤g) (hg2:g≤4) (he:c / g≤15) (w:World):
  Calls Tryz.prog 183 #[.int .i64 (c:Int),.int .i64 (g:Int)] w fun e w'=>e= .returned (.tuple #[.int .i64 ((sb g c:Nat):Int),.int .i64 ((sx g c:Nat):Int)])∧w=w':=by
 have m:(0:Int)≤(c:Int):=T00 _
 have n:(0:Int)≤(g:Int):=T00 _
 rcases Nat.lt_or_ge c g with h | h
 ·have d:sb g c=c:=if_pos h
  have f:sx g c=0:=if_pos h
  rw [d,f]
  have o:(c:Int) < (g:Int):=by omega
  go_enter Tryz.func183,Tryz.ntmps183
  go_wp2
  go_ret2
  exact ⟨rfl,rfl⟩
 have o:¬(c:Int) < (g:Int):=by omega
 obtain ⟨x,i⟩:∃x,x=c / g-1:=⟨_,rfl⟩
 obtain ⟨r,j⟩:∃r,r=c%g:=⟨_,rfl⟩
 have d:sb g c=(g+r)*2^x:=by rw [j,i];exact if_neg (by omega)
 have f:sx g c=x:=by rw [i];exact if_neg (by omega)
 rw [d,f]
 have p:r < g:=by rw [j];exact T0a _ (by omega)
 have a:x≤14:=by omega
 have z:1≤c / g:=(T0g (by omega)).2 (by omega)
 have hq:(c:Int) / (g:Int)-1=(x:Int):=by rw [i];omega
 have hm:(c:Int)%(g:Int)=(r:Int):=by rw [j];rfl
 have q:¬(g:Int)=0:=by omega
 have s:(0:Int)≤(x:Int):=T00 _
 have t:(0:Int)≤(r:Int):=T00 _
 obtain ⟨y,k⟩:∃y,y=(g+r)*2^x:=⟨_,rfl⟩
 rw [←k]
 have b:((g:Int)+(r:Int))*2^x=(y:Int):=by rw [k];push_cast;rfl
 have l:y≤8*2^14:=by rw [k];exact Nat.mul_le_mul (by omega) (Nat.pow_le_pow_right (by decide) a)
 have hw:wrap64 (((g:Int)+(r:Int))*2^x)=(y:Int):=by rw [b];unfold wrap64;omega
 clear i j d f b k l
 go_enter Tryz.func183,Tryz.ntmps183
 go_wp2
 go_ret2
 exact ⟨rfl,rfl⟩
def Z1c (code:Int):Value:=if code < 257∨285 < code then .tuple #[.int .i64 0,.int .i64 0,.bool false] else .tuple #[.int .i64 ((lB (code-257).toNat:Nat):Int),.int .i64 ((lX (code-257).toNat:Nat):Int),.bool true]
def Z0j (code:Int):Value:=if code < 0∨30≤code then .tuple #[.int .i64 0,.int .i64 0,.bool false] else .tuple #[.int .i64 ((dB code.toNat:Nat):Int),.int .i64 ((dX code.toNat:Nat):Int),.bool true]
theorem Z6m (k:Nat) (hk:k < 29):Z1c ((257+k:Nat):Int)= .tuple #[.int .i64 ((lB k:Nat):Int),.int .i64 ((lX k:Nat):Int),.bool true]:=by
 unfold Z1c
 rw [if_neg (by omega),show (((257+k:Nat):Int)-257).toNat=k by omega]
theorem Z7w (k:Nat) (hk:k < 30):Z0j (k:Int)= .tuple #[.int .i64 ((dB k:Nat):Int),.int .i64 ((dX k:Nat):Int),.bool true]:=by
 unfold Z0j
 rw [if_neg (by omega),Int.toNat_natCast]
theorem Y4e (code:Int) (w:World):
  Calls Tryz.prog 162 #[.int .i64 code] w fun e w'=>e= .returned (Z1c code)∧w=w':=by
 rcases (by omega:code < 257∨285 < code∨code=285∨(257≤code∧code < 285)) with h | h | rfl | ⟨h1,h2⟩
 ·have e:Z1c code= .tuple #[.int .i64 0,.int .i64 0,.bool false]:=if_pos (.inl h)
  rw [e]
  clear e
  go_enter Tryz.func162,Tryz.ntmps162
  go_wp2
  go_ret3
  exact ⟨rfl,rfl⟩
 ·have e:Z1c code= .tuple #[.int .i64 0,.int .i64 0,.bool false]:=if_pos (.inr h)
  rw [e]
  have n:¬code < 257:=by omega
  clear e
  go_enter Tryz.func162,Tryz.ntmps162
  go_wp2
  go_ret3
  exact ⟨rfl,rfl⟩
 ·have e:Z1c 285= .tuple #[.int .i64 258,.int .i64 0,.bool true]:=by
   have:=Z6m 28 (by decide)
   rw [show lB 28=258 by decide,show lX 28=0 by decide] at this
   exact this
  rw [e]
  clear e
  go_enter Tryz.func162,Tryz.ntmps162
  go_wp2
  go_ret3
  exact ⟨rfl,rfl⟩
 obtain ⟨k,rfl⟩:∃k:Nat,code=((257+k:Nat):Int):=⟨(code-257).toNat,by omega⟩
 have o:k < 28:=by omega
 rw [Z6m k (by omega)]
 have a:lB k=3+sb 4 k:=if_neg (by omega)
 have b:lX k=sx 4 k:=if_neg (by omega)
 rw [a,b]
 have p:sb 4 k≤1000:=by have:=(W8f k (by omega)).2;omega
 have d:((257+k:Nat):Int)-257=(k:Int):=by omega
 have f:((257+k:Nat):Int)≠285:=by omega
 have g:=A5 (X0y k 4 (by omega) (by decide) (by decide) (by omega) w)
 generalize sb 4 k=y at*
 generalize sx 4 k=x at*
 generalize ((257+k:Nat):Int)=code at*
 have i:(code==285)=false:=by simp;omega
 have j:¬code < 257:=by omega
 have l:¬285 < code:=by omega
 have m:(0:Int)≤(y:Int):=T00 _
 clear a b h1 h2
 go_enter Tryz.func162,Tryz.ntmps162
 go_wp2_with fail
 refine g.out.mono ?_
 rintro e q ⟨rfl,rfl⟩
 go_wp2
 go_ret3
 exact ⟨by push_cast;rfl,rfl⟩
theorem Y19 (code:Int) (w:World):
  Calls Tryz.prog 163 #[.int .i64 code] w fun e w'=>e= .returned (Z0j code)∧w=w':=by
 rcases (by omega:code < 0∨30≤code∨(0≤code∧code < 30)) with h | h | ⟨h1,h2⟩
 ·have e:Z0j code= .tuple #[.int .i64 0,.int .i64 0,.bool false]:=if_pos (.inl h)
  rw [e]
  clear e
  go_enter Tryz.func163,Tryz.ntmps163
  go_wp2
  go_ret3
  exact ⟨rfl,rfl⟩
 ·have e:Z0j code= .tuple #[.int .i64 0,.int .i64 0,.bool false]:=if_pos (.inr h)
  rw [e]
  have l:¬code < 0:=by omega
  clear e
  go_enter Tryz.func163,Tryz.ntmps163
  go_wp2
  go_ret3
  exact ⟨rfl,rfl⟩
 obtain ⟨k,rfl⟩:=T04 h1
 have a:k < 30:=by omega
 rw [Z7w k a]
 have b:dB k=1+sb 2 k:=rfl
 have d:dX k=sx 2 k:=rfl
 rw [b,d]
 have m:sb 2 k≤30000:=by have:=(X62 k a).2;omega
 have f:=A5 (X0y k 2 (by omega) (by decide) (by decide) (by omega) w)
 generalize sb 2 k=y at*
 generalize sx 2 k=x at*
 have g:¬(k:Int) < 0:=by omega
 have i:¬30≤(k:Int):=by omega
 have j:(0:Int)≤(y:Int):=T00 _
 clear b d h1 h2
 go_enter Tryz.func163,Tryz.ntmps163
 go_wp2_with fail
 refine f.out.mono ?_
 rintro e n ⟨rfl,rfl⟩
 go_wp2
 go_ret3
 exact ⟨by push_cast;rfl,rfl⟩
theorem Y27 (n:Int) (w:World):
  Calls Tryz.prog 152 #[.int .i64 n] w fun e w'=>e= .returned (.bool (decide (3≤n∧n≤258)))∧w=w':=by
 rcases (by omega:n < 3∨(3≤n∧258 < n)∨(3≤n∧n≤258)) with h | ⟨h,h2⟩ | ⟨h,h2⟩
 ·have e:decide (3≤n∧n≤258)=false:=decide_eq_false (by omega)
  rw [e]
  have a:¬3≤n:=by omega
  clear e
  go_enter Tryz.func152,Tryz.ntmps152
  go_wp2
  go_ret
  exact ⟨rfl,rfl⟩
 ·have e:decide (3≤n∧n≤258)=false:=decide_eq_false (by omega)
  rw [e]
  have a:decide (n≤258)=false:=decide_eq_false (by omega)
  clear e
  go_enter Tryz.func152,Tryz.ntmps152
  go_wp2
  go_ret
  exact ⟨rfl,rfl⟩
 have e:decide (3≤n∧n≤258)=true:=decide_eq_true (by omega)
 rw [e]
 have a:decide (n≤258)=true:=decide_eq_true (by omega)
 clear e
 go_enter Tryz.func152,Tryz.ntmps152
 go_wp2
 go_ret
 exact ⟨rfl,rfl⟩
theorem Z7x (n:Int) (w:World):
  Calls Tryz.prog 153 #[.int .i64 n] w fun e w'=>e= .returned (.bool (decide (1≤n∧n≤32768)))∧w=w':=by
 rcases (by omega:n < 1∨(1≤n∧32768 < n)∨(1≤n∧n≤32768)) with h | ⟨h,h2⟩ | ⟨h,h2⟩
 ·have e:decide (1≤n∧n≤32768)=false:=decide_eq_false (by omega)
  rw [e]
  have a:¬1≤n:=by omega
  clear e
  go_enter Tryz.func153,Tryz.ntmps153
  go_wp2
  go_ret
  exact ⟨rfl,rfl⟩
 ·have e:decide (1≤n∧n≤32768)=false:=decide_eq_false (by omega)
  rw [e]
  have a:decide (n≤32768)=false:=decide_eq_false (by omega)
  clear e
  go_enter Tryz.func153,Tryz.ntmps153
  go_wp2
  go_ret
  exact ⟨rfl,rfl⟩
 have e:decide (1≤n∧n≤32768)=true:=decide_eq_true (by omega)
 rw [e]
 have a:decide (n≤32768)=true:=decide_eq_true (by omega)
 clear e
 go_enter Tryz.func153,Tryz.ntmps153
 go_wp2
 go_ret
 exact ⟨rfl,rfl⟩
theorem X4c (F:FuncId) (B X:Nat→Nat) (lo m v:Nat) (hm1:1≤m) (hm:m≤1000) (hlo:lo≤1000) (hv:v≤100000) (hB0:B 0≤v) (hasc:∀k,k < m→∀j,j < k→B j < B k) (hBb:∀k,k < m→B k≤100000)
  (hcf:∀args w,(callFunc F args).run Tryz.prog w= .ok (.enter F args) w) (hF:∀k,k < m→∀w,Calls Tryz.prog F #[.int .i64 ((lo+k:Nat):Int)] w fun e w'=>e= .returned (.tuple #[.int .i64 ((B k:Nat):Int),.int .i64 ((X k:Nat):Int),.bool true])∧w=w') (w:World):
  Calls Tryz.prog 161 #[.int .i64 (v:Int),.int .i64 (lo:Int),.int .i64 ((lo+m:Nat):Int),.func (.func F) #[] #[]] w fun e w'=>∃c q x z:Nat,Z1w B m v c∧q=lo+c∧x=X c∧z=v-B c∧e= .returned (.tuple #[.int .i64 (q:Int),.int .i64 (x:Int),.int .i64 (z:Int)])∧w=w':=by
 have HF:=A5 hF
 have HA:=A5 (And.intro hasc hBb)
 clear hF hasc hBb
 go_enter Tryz.func161,Tryz.ntmps161
 go_wp2
 go_loopg [1,2] (m+2) (fun k t1 t2 wr=>∃a b:Nat,a < b∧b≤m∧b-a < k∧t1= .int .i64 ((lo+a:Nat):Int)∧t2= .int .i64 ((lo+b:Nat):Int)∧Hid (B a≤v∧∀d,b≤d→d < m→v < B d)∧wr=w)
 case atStart=>exact ⟨0,m,by omega,by omega,by omega,rfl,rfl,A5 ⟨hB0,fun d h1 h2=>by omega⟩,rfl⟩
 case round=>
  obtain ⟨a,b,c3,b7,hk,rfl,rfl,HI,rfl⟩:=hrel
  have s:(0:Int)≤((lo+a:Nat):Int):=T00 _
  have a7:(0:Int)≤((lo+b:Nat):Int):=T00 _
  by_cases hd:b-a=1
  ·have hI:¬(1:Int) < ((lo+b:Nat):Int)- ((lo+a:Nat):Int):=by omega
   have i:=A5 (HF.out a (by omega) wr)
   have a8:=HA.out.2 a (by omega)
   have HS:Hid (Z1w B m v a):=A5 ⟨by omega,HI.out.1,fun d h1 h2=>HI.out.2 d (by omega) h2⟩
   have a9:=HI.out.1
   obtain ⟨y,o⟩:∃y,y=B a:=⟨_,rfl⟩
   have t:=A5 o
   rw [←o] at a9 a8 i
   have a0:(v:Int)- (y:Int)=((v-y:Nat):Int):=by omega
   have c1:(0:Int)≤(v:Int):=T00 _
   have c2:(0:Int)≤(y:Int):=T00 _
   have l:((lo+a:Nat):Int)≤3000:=by omega
   have a1:((lo+b:Nat):Int)≤3000:=by omega
   obtain ⟨la,f⟩:∃z:Int,z=((lo+a:Nat):Int):=⟨_,rfl⟩
   have n:=A5 f
   rw [←f] at hI i s l⊢
   generalize ((lo+b:Nat):Int)=lb at*
   clear o f
   go_wp2_with fail
   refine i.out.mono ?_
   rintro e w1 ⟨rfl,rfl⟩
   go_wp2
   go_ret3
   exact ⟨a,lo+a,X a,v-B a,HS.out,rfl,rfl,rfl,by rw [←t.out,←n.out];rfl,rfl⟩
  obtain ⟨c,hc⟩:∃c,c=(a+b) / 2:=⟨_,rfl⟩
  have b0:a < c:=by omega
  have b1:c < b:=by omega
  have hI:(1:Int) < ((lo+b:Nat):Int)- ((lo+a:Nat):Int):=by omega
  have g:(((lo+a:Nat):Int)+((lo+b:Nat):Int)) / 2=((lo+c:Nat):Int):=by omega
  have i:=A5 (HF.out c (by omega) wr)
  have b2:=HA.out.2 c (by omega)
  have a2:=A5 (HA.out.1)
  obtain ⟨y,o⟩:∃y,y=B c:=⟨_,rfl⟩
  have t:=A5 o
  rw [←o] at b2 i
  have l:((lo+a:Nat):Int)≤3000:=by omega
  have a1:((lo+b:Nat):Int)≤3000:=by omega
  have b3:((lo+c:Nat):Int)≤3000:=by omega
  have b4:(0:Int)≤((lo+c:Nat):Int):=T00 _
  obtain ⟨la,f⟩:∃z:Int,z=((lo+a:Nat):Int):=⟨_,rfl⟩
  obtain ⟨lb,p⟩:∃z:Int,z=((lo+b:Nat):Int):=⟨_,rfl⟩
  obtain ⟨lc,r⟩:∃z:Int,z=((lo+c:Nat):Int):=⟨_,rfl⟩
  have n:=A5 f
  have b5:=A5 p
  have a3:=A5 r
  rw [←f] at hI g s l⊢
  rw [←p] at hI g a7 a1⊢
  rw [←r] at g b4 b3 i
  clear o hc f p r
  by_cases b6:y≤v
  ·have a0:(y:Int)≤(v:Int):=by omega
   go_wp2_with fail
   refine i.out.mono ?_
   rintro e w1 ⟨rfl,rfl⟩
   go_wp2
   go_roundg (gk-1)
   case measure=>omega
   case rel=>exact ⟨c,b,b1,b7,by omega,by rw [←a3.out],by rw [←b5.out],A5 ⟨by rw [←t.out];exact b6,HI.out.2⟩,rfl⟩
  have a0:¬(y:Int)≤(v:Int):=by omega
  go_wp2_with fail
  refine i.out.mono ?_
  rintro e w1 ⟨rfl,rfl⟩
  go_wp2
  go_roundg (gk-1)
  case measure=>omega
  case rel=>
   refine ⟨a,c,b0,by omega,by omega,by rw [←n.out],by rw [←a3.out],A5 ⟨HI.out.1,fun d h1 h2=> ?_⟩,rfl⟩
   rcases Nat.eq_or_lt_of_le h1 with rfl | h3
   ·rw [←t.out];omega
   have:=a2.out d h2 c h3
   rw [←t.out] at this;omega
def Z8m (n:Int) (v:Value):Prop:=((n < 3∨258 < n)∧v= .tuple #[.int .i64 0,.int .i64 0,.int .i64 0])∨∃k c q x z:Nat,n=(k:Int)∧3≤k∧k≤258∧Z1w lB 29 k c∧q=257+c∧x=lX c∧z=k-lB c∧v= .tuple #[.int .i64 (q:Int),.int .i64 (x:Int),.int .i64 (z:Int)]
def Z6k (n:Int) (v:Value):Prop:=((n < 1∨32768 < n)∧v= .tuple #[.int .i64 0,.int .i64 0,.int .i64 0])∨∃k c q x z:Nat,n=(k:Int)∧1≤k∧k≤32768∧Z1w dB 30 k c∧q=0+c∧x=dX c∧z=k-dB c∧v= .tuple #[.int .i64 (q:Int),.int .i64 (x:Int),.int .i64 (z:Int)]
theorem Y4j (n:Int) (w:World):
  Calls Tryz.prog 130 #[.int .i64 n] w fun e w'=>(∃v,e= .returned v∧Z8m n v)∧w=w':=by
 have a:=A5 (Y27 n w)
 rcases (by omega:(n < 3∨258 < n)∨(3≤n∧n≤258)) with h | ⟨h,h2⟩
 ·have e:decide (3≤n∧n≤258)=false:=decide_eq_false (by omega)
  rw [e] at a
  have o:Hid (Z8m n (.tuple #[.int .i64 0,.int .i64 0,.int .i64 0])):=A5 (.inl ⟨h,rfl⟩)
  clear e h
  go_enter Tryz.func130,Tryz.ntmps130
  go_wp2_with fail
  refine a.out.mono ?_
  rintro e f ⟨rfl,rfl⟩
  go_wp2
  go_ret3
  exact ⟨⟨_,rfl,o.out⟩,rfl⟩
 have e:decide (3≤n∧n≤258)=true:=decide_eq_true (by omega)
 rw [e] at a
 obtain ⟨k,rfl⟩:=T04 (show 0≤n by omega)
 have p:=A5 (X4c 162 lB lX 257 29 k (by decide) (by decide) (by decide) (by omega) (by have:lB 0=3:=(by decide);omega) V6d (fun j hj=>by have:=W8f j hj;omega) (fun _ _=>rfl)
  (fun j hj w=>by
   have b:=Y4e ((257+j:Nat):Int) w
   rw [Z6m j hj] at b
   exact b) w)
 have d:=A5 (And.intro (show 3≤k by omega) (show k≤258 by omega))
 clear e h h2
 go_enter Tryz.func130,Tryz.ntmps130
 go_wp2_with fail
 refine a.out.mono ?_
 rintro e f ⟨rfl,rfl⟩
 go_wp2_with fail
 refine p.out.mono ?_
 rintro e f ⟨c,q,x,z,g,i,l,m,rfl,rfl⟩
 have r:=A5 g
 have s:=A5 i
 have t:=A5 l
 have y:=A5 m
 clear g i l m
 go_wp2
 go_ret3
 exact ⟨⟨_,rfl,.inr ⟨k,c,q,x,z,rfl,d.out.1,d.out.2,r.out,s.out,t.out,y.out,rfl⟩⟩,rfl⟩
theorem Y1g (n:Int) (w:World):
  Calls Tryz.prog 131 #[.int .i64 n] w fun e w'=>(∃v,e= .returned v∧Z6k n v)∧w=w':=by
 have a:=A5 (Z7x n w)
 rcases (by omega:(n < 1∨32768 < n)∨(1≤n∧n≤32768)) with h | ⟨h,h2⟩
 ·have e:decide (1≤n∧n≤32768)=false:=decide_eq_false (by omega)
  rw [e] at a
  have o:Hid (Z6k n (.tuple #[.int .i64 0,.int .i64 0,.int .i64 0])):=A5 (.inl ⟨h,rfl⟩)
  clear e h
  go_enter Tryz.func131,Tryz.ntmps131
  go_wp2_with fail
  refine a.out.mono ?_
  rintro e f ⟨rfl,rfl⟩
  go_wp2
  go_ret3
  exact ⟨⟨_,rfl,o.out⟩,rfl⟩
 have e:decide (1≤n∧n≤32768)=true:=decide_eq_true (by omega)
 rw [e] at a
 obtain ⟨k,rfl⟩:=T04 (show 0≤n by omega)
 have p:=A5 (X4c 163 dB dX 0 30 k (by decide) (by decide) (by decide) (by omega) (by have:dB 0=1:=(by decide);omega) V6i (fun j hj=>by have:=X62 j hj;omega) (fun _ _=>rfl)
  (fun j hj w=>by
   have b:=Y19 (j:Int) w
   rw [Z7w j hj] at b
   rw [Nat.zero_add]
   exact b) w)
 have d:=A5 (And.intro (show 1≤k by omega) (show k≤32768 by omega))
 clear e h h2
 go_enter Tryz.func131,Tryz.ntmps131
 go_wp2_with fail
 refine a.out.mono ?_
 rintro e f ⟨rfl,rfl⟩
 go_wp2_with fail
 refine p.out.mono ?_
 rintro e f ⟨c,q,x,z,g,i,l,m,rfl,rfl⟩
 have r:=A5 g
 have s:=A5 i
 have t:=A5 l
 have y:=A5 m
 clear g i l m
 go_wp2
 go_ret3
 exact ⟨⟨_,rfl,.inr ⟨k,c,q,x,z,rfl,d.out.1,d.out.2,r.out,s.out,t.out,y.out,rfl⟩⟩,rfl⟩
def Res:=World→(Nat→Prop)→Prop
def Res.Local (R:Res):Prop:=∀w w' F S,R w F→E5 w w' S→(∀k,F k→¬S k)→R w' F
structure A6 where
 res:Res
 loc:res.Local
def N3 (w0 w:World):(Nat→Prop)→List A6→Prop
 | _,[]=>E5 w0 w (fun _=>False)
 | U,R::Rs=>∃F:Nat→Prop,R.res w F∧(∀k,F k→w0.heap.size≤k∧k < w.heap.size∧¬U k)∧N3 w0 w (fun k=>U k∨F k) Rs
def A4 (w0 w:World) (Rs:List A6):Prop:=N3 w0 w (fun _=>False) Rs
theorem N3.mod {w0 w:World}:∀ {Rs:List A6} {U:Nat→Prop},N3 w0 w U Rs→E5 w0 w (fun _=>False)
 | [],_,h=>h
 | _::_,_,⟨_,_,_,h⟩=>N3.mod h
theorem N3.less {w0 w:World}:∀ {Rs:List A6} {U V:Nat→Prop},N3 w0 w U Rs→(∀k,V k→U k)→N3 w0 w V Rs
 | [],_,_,h,_=>h
 | _::_,_,_,⟨F,h1,h2,h3⟩,hv=>⟨F,h1,fun k hk=>⟨(h2 k hk).1,(h2 k hk).2.1,fun hV=>(h2 k hk).2.2 (hv k hV)⟩,h3.less fun k hk=>hk.imp (hv k) id⟩
theorem N3.more {w0 w:World}:∀ {Rs:List A6} {U V:Nat→Prop},N3 w0 w U Rs→(∀k,V k→U k∨w.heap.size≤k)→N3 w0 w V Rs
 | [],_,_,h,_=>h
 | _::_,U,V,⟨F,h1,h2,h3⟩,hv=>⟨F,h1,fun k hk=>⟨(h2 k hk).1,(h2 k hk).2.1,fun hV=>(hv k hV).elim (h2 k hk).2.2 (fun h=>by have:=(h2 k hk).2.1;omega)⟩,
   h3.more fun k hk=>hk.elim (fun h=>(hv k h).imp .inl id) (fun h=> .inl (.inr h))⟩
theorem N3.step {w0 w w':World} {S:Nat→Prop} (hm:E5 w w' S):∀ {Rs:List A6} {U:Nat→Prop},N3 w0 w U Rs→(∀k,S k→k < w.heap.size→w0.heap.size≤k)→(∀k,S k→k < w.heap.size→U k)→N3 w0 w' U Rs
 | [],_,h,h0,_=>by
  have hM:E5 w0 w (fun _=>False):=h
  exact hM.trans hm (fun k hk hs=>absurd (h0 k hs (T05 hk hM.size)) (by omega))
 | R::_,_,⟨F,h1,h2,h3⟩,h0,hu=>
  ⟨F,R.loc w w' F S h1 hm (fun k hk hs=>(h2 k hk).2.2 (hu k hs (h2 k hk).2.1)),fun k hk=>⟨(h2 k hk).1,T05 (h2 k hk).2.1 hm.size,(h2 k hk).2.2⟩,
   h3.step hm h0 fun k hs hk=> .inl (hu k hs hk)⟩
theorem A4.mod {w0 w:World} {Rs:List A6} (h:A4 w0 w Rs):E5 w0 w (fun _=>False):=N3.mod h
theorem A4.start (w:World):A4 w w []:=E5.refl w _
theorem A4.take {w0 w:World} {R:A6} {Rs:List A6} (h:A4 w0 w (R::Rs)):
  ∃F:Nat→Prop,R.res w F∧(∀k,F k→w0.heap.size≤k∧k < w.heap.size)∧
   ∀ (w':World) (R':A6) (F':Nat→Prop),R'.res w' F'→E5 w w' F→(∀k,F' k→F k∨w.heap.size≤k)→(∀k,F' k→k < w'.heap.size)→A4 w0 w' (R'::Rs):=by
 obtain ⟨F,f,a,b⟩:=h
 refine ⟨F,f,fun k hk=>⟨(a k hk).1,(a k hk).2.1⟩,fun w' R' F' hR hm hF hlt=>⟨F',hR,fun k hk=>⟨?_,hlt k hk,fun h=>h⟩, ?_⟩⟩
 ·rcases hF k hk with hf | hf
  ·exact (a k hf).1
  exact Nat.le_trans (N3.mod b).size hf
 have d:=(b.more (V:=fun k=>(False∨F k)∨F' k) fun k hk=>by
  rcases hk with hk | hk
  ·exact .inl hk
  rcases hF k hk with hf | hf
  ·exact .inl (.inr hf)
  exact .inr hf).step hm (fun k hk _=>(a k hk).1) (fun k hk _=> .inl (.inr hk))
 exact d.less fun k hk=>by
  rcases hk with hk | hk
  ·exact hk.elim
  exact .inr hk
theorem A4.push {w0 w w':World} {Rs:List A6} (h:A4 w0 w Rs) (R:A6) (F:Nat→Prop) (hR:R.res w' F) (hm:E5 w w' (fun _=>False)) (hF:∀k,F k→w.heap.size≤k∧k < w'.heap.size):A4 w0 w' (R::Rs):=by
 refine ⟨F,hR,fun k hk=>⟨Nat.le_trans (N3.mod h).size (hF k hk).1,(hF k hk).2,fun h=>h⟩, ?_⟩
 exact ((N3.more h (V:=fun k=>False∨F k) fun k hk=>by
  rcases hk with hk | hk
  ·exact hk.elim
  exact .inr (hF k hk).1)).step hm (fun _ h=>h.elim) (fun _ h=>h.elim)
theorem A4.same {w0 w w':World} {Rs:List A6} (h:A4 w0 w Rs) (hm:E5 w w' (fun _=>False)):A4 w0 w' Rs:=N3.step hm h (fun _ h=>h.elim) (fun _ h=>h.elim)
theorem A4.alloc {w0 w:World} {Rs:List A6} (h:A4 w0 w Rs) (o:Obj):A4 w0 (w.alloc o) Rs:=h.same ((E5.refl w _).alloc o)
theorem A4.drew {w0 w:World} {Rs:List A6} (h:A4 w0 w Rs):A4 w0 w.drew Rs:=h.same (E5.refl w _).drew
theorem A4.drewN {w0 w:World} {Rs:List A6} (h:A4 w0 w Rs) (n:Nat):A4 w0 (w.drewN n) Rs:=h.same ((E5.refl w _).drewN n)
theorem A4.drop {w0 w:World} {R:A6} {Rs:List A6} (h:A4 w0 w (R::Rs)):A4 w0 w Rs:=by
 obtain ⟨F,b,d,a⟩:=h
 exact a.less fun _ h=>h.elim
theorem N3.swap {w0 w:World} {R1 R2:A6} {Rs:List A6} {U:Nat→Prop} (h:N3 w0 w U (R1::R2::Rs)):N3 w0 w U (R2::R1::Rs):=by
 obtain ⟨d,f,b,g,i,a,j⟩:=h
 refine ⟨g,i,fun k hk=>⟨(a k hk).1,(a k hk).2.1,fun hu=>(a k hk).2.2 (.inl hu)⟩,d,f,fun k hk=>⟨(b k hk).1,(b k hk).2.1,fun hu=> ?_⟩,j.less fun k hk=> ?_⟩
 ·rcases hu with hu | hu
  ·exact (b k hk).2.2 hu
  exact (a k hu).2.2 (.inr hk)
 rcases hk with (hk | hk) | hk
 ·exact .inl (.inl hk)
 ·exact .inr hk
 exact .inl (.inr hk)
theorem N3.perm {w0 w:World} {Rs Rs':List A6} (hp:Rs.Perm Rs'):∀ {U:Nat→Prop},N3 w0 w U Rs→N3 w0 w U Rs':=by
 induction hp with
 | nil=>exact fun h=>h
 | cons x _ ih=>exact fun ⟨F,h1,h2,h3⟩=>⟨F,h1,h2,ih h3⟩
 | swap x y l=>exact fun h=>N3.swap h
 | trans _ _ ih1 ih2=>exact fun h=>ih2 (ih1 h)
theorem A4.perm {w0 w:World} {Rs Rs':List A6} (h:A4 w0 w Rs) (hp:Rs.Perm Rs'):A4 w0 w Rs':=N3.perm hp h
theorem A4.swap {w0 w:World} {R1 R2:A6} {Rs:List A6} (h:A4 w0 w (R1::R2::Rs)):A4 w0 w (R2::R1::Rs):=N3.swap h
theorem A4.third {w0 w:World} {R1 R2 R3:A6} {Rs:List A6} (h:A4 w0 w (R1::R2::R3::Rs)):A4 w0 w (R3::R1::R2::Rs):=
 h.perm ((List.Perm.cons R1 (List.Perm.swap R3 R2 Rs)).trans (List.Perm.swap R3 R1 (R2::Rs)))
theorem A4.fourth {w0 w:World} {R1 R2 R3 R4:A6} {Rs:List A6} (h:A4 w0 w (R1::R2::R3::R4::Rs)):A4 w0 w (R4::R1::R2::R3::Rs):=
 h.perm (((List.Perm.cons R1 ((List.Perm.cons R2 (List.Perm.swap R4 R3 Rs)).trans (List.Perm.swap R4 R2 (R3::Rs))))).trans (List.Perm.swap R4 R1 (R2::R3::Rs)))
theorem A4.split {w0 w w':World} {R1 R2:A6} {Rs:List A6} {F F1 F2:Nat→Prop} (h:N3 w0 w (fun k=>False∨F k) Rs) (hF:∀k,F k→w0.heap.size≤k∧k < w.heap.size) (h1:R1.res w' F1) (h2:R2.res w' F2) (hm:E5 w w' F)
  (s1:∀k,F1 k→F k) (s2:∀k,F2 k→F k) (dis:∀k,F1 k→¬F2 k):A4 w0 w' (R1::R2::Rs):=by
 have a:=N3.step hm h (fun k hk _=>(hF k hk).1) (fun k hk _=> .inr hk)
 refine ⟨F1,h1,fun k hk=>⟨(hF k (s1 k hk)).1,T05 (hF k (s1 k hk)).2 hm.size,fun h=>h⟩,F2,h2,fun k hk=>⟨(hF k (s2 k hk)).1,T05 (hF k (s2 k hk)).2 hm.size,fun hu=> ?_⟩,a.less fun k hk=> ?_⟩
 ·rcases hu with hu | hu
  ·exact hu
  exact dis k hu hk
 rcases hk with (hk | hk) | hk
 ·exact .inl hk
 ·exact .inr (s1 k hk)
 exact .inr (s2 k hk)
theorem A4.one {w0 w:World} {R1:A6} {Rs:List A6} (h:A4 w0 w (R1::Rs)):A4 w0 w [R1]:=by
 obtain ⟨F,a,b,d⟩:=h
 exact ⟨F,a,b,N3.mod d⟩
theorem A4.two {w0 w:World} {R1 R2:A6} {Rs:List A6} (h:A4 w0 w (R1::R2::Rs)):A4 w0 w [R1,R2]:=by
 obtain ⟨F,a,b,d,f,g,i⟩:=h
 exact ⟨F,a,b,d,f,g,N3.mod i⟩
theorem A4.old {w0 w:World} {Rs:List A6} (h:A4 w0 w Rs) {size:Nat} {v:Value} {n:Nat} {xs:List Value} (hv:Rd w0 size v n xs):Rd w size v n xs:=hv.kept h.mod (fun _ _ h=>h)
def B0 (e:TypeId) (size:Nat) (v:Value) (n:Nat) (xs:List Value):A6 where
 res:=fun w F=>Own w e size v n xs∧∀k,F k↔v.ownBlock=some k
 loc:=fun _ _ _ _ h hm hS=>⟨h.1.kept hm (fun k hk=>hS k ((h.2 k).2 hk)),h.2⟩
theorem A4.own {w0 w:World} {e:TypeId} {size:Nat} {v:Value} {n:Nat} {xs:List Value} {Rs:List A6} (h:A4 w0 w (B0 e size v n xs::Rs)):Own w e size v n xs:=by
 obtain ⟨F,a,_⟩:=h
 exact a.1
theorem A4.fresh {w0 w:World} {e:TypeId} {size:Nat} {v:Value} {n:Nat} {xs:List Value} {Rs:List A6} (h:A4 w0 w (B0 e size v n xs::Rs)):∀k,v.ownBlock=some k→w0.heap.size≤k:=by
 obtain ⟨F,a,b,_⟩:=h
 exact fun k hk=>(b k ((a.2 k).2 hk)).1
theorem A4.nil {w0 w:World} {Rs:List A6} (h:A4 w0 w Rs) (e:TypeId) (size:Nat):A4 w0 w (B0 e size (.slice none 0 0) 0 []::Rs):=
 h.push _ (fun _=>False) ⟨Own.nil w e size,fun k=>by simp [Value.ownBlock]⟩ (E5.refl w _) (fun _ h=>h.elim)
theorem A4.lit {w0 w:World} {Rs:List A6} (h:A4 w0 w Rs) (e:TypeId) (size:Nat) (cs:List Value) (n:Nat) (hm:n≤maxLen) (hs:cs.length=n*size):
  A4 w0 (w.alloc (.cells cs.toArray e)) (B0 e size (.slice (some ⟨w.heap.size,0,none⟩) n n) n cs::Rs):=
 h.push _ (fun k=>k=w.heap.size) ⟨Own.lit w cs n hm hs,fun k=>by simp [Value.ownBlock,eq_comm]⟩ ((E5.refl w _).alloc _) (fun k hk=>by subst hk;exact ⟨T0c _,by simp⟩)
theorem A4.app {w0 w w':World} {e:TypeId} {size:Nat} {v v':Value} {n n':Nat} {xs xs':List Value} {Rs:List A6} (h:A4 w0 w (B0 e size v n xs::Rs)) (hown:Own w' e size v' n' xs') (hgrow:w.grownBy w' v.ownBlock)
  (hat:v'.ownBlock=v.ownBlock∨v'.ownBlock=some w.heap.size):A4 w0 w' (B0 e size v' n' xs'::Rs):=by
 obtain ⟨F,b,d,a⟩:=h.take
 refine a w' _ (fun k=>v'.ownBlock=some k) ⟨hown,fun k=>Iff.rfl⟩ ((E5.refl w F).grown hgrow fun k hk=> .inr ((b.2 k).2 hk)) (fun k hk=> ?_) hown.lt
 rcases hat with ha | ha
 ·exact .inl ((b.2 k).2 (ha ▸ hk))
 rw [ha] at hk;injection hk with hk;exact .inr (by omega)
theorem A4.pushOwn {w0 w w':World} {Rs:List A6} {e:TypeId} {size:Nat} {v:Value} {n:Nat} {xs:List Value} (h:A4 w0 w Rs) (hown:Own w' e size v n xs) (hm:E5 w w' (fun _=>False)) (hfr:∀k,v.ownBlock=some k→w.heap.size≤k):
  A4 w0 w' (B0 e size v n xs::Rs):=
 h.push _ (fun k=>v.ownBlock=some k) ⟨hown,fun _=>Iff.rfl⟩ hm (fun k hk=>⟨hfr k hk,hown.lt k hk⟩)
theorem A4.recut {w0 w:World} {e:TypeId} {size:Nat} {v v':Value} {n n':Nat} {xs xs':List Value} {Rs:List A6} (h:A4 w0 w (B0 e size v n xs::Rs)) (hown:Own w e size v' n' xs') (hb:v'.ownBlock=v.ownBlock):A4 w0 w (B0 e size v' n' xs'::Rs):=by
 obtain ⟨F,b,d,a⟩:=h.take
 exact a w _ F ⟨hown,fun k=>by rw [hb];exact b.2 k⟩ (E5.refl w F) (fun k hk=> .inl hk) (fun k hk=>(d k hk).2)
def E8 (B:Nat) (cs:List Value) (T:TypeId):A6 where
 res:=fun w F=>X6 w B cs T∧∀k,F k↔k=B
 loc:=fun _ _ _ _ h hm hS=>⟨h.1.kept hm (hS B ((h.2 B).2 rfl)),h.2⟩
theorem A4.obj {w0 w:World} {B:Nat} {cs:List Value} {T:TypeId} {Rs:List A6} (h:A4 w0 w (E8 B cs T::Rs)):X6 w B cs T:=by
 obtain ⟨F,a,_⟩:=h
 exact a.1
theorem A4.newObj {w0 w:World} {Rs:List A6} (h:A4 w0 w Rs) (cs:List Value) (T:TypeId):A4 w0 (w.alloc (.cells cs.toArray T)) (E8 w.heap.size cs T::Rs):=
 h.push _ (fun k=>k=w.heap.size) ⟨X6.new w cs T,fun _=>Iff.rfl⟩ ((E5.refl w _).alloc _) (fun k hk=>by subst hk;exact ⟨T0c _,by simp⟩)
theorem A4.setObj {w0 w:World} {B:Nat} {cs:List Value} {T:TypeId} {Rs:List A6} (h:A4 w0 w (E8 B cs T::Rs)) (i:Nat) (u:Value):A4 w0 (w.setCell ⟨B,i,none⟩ u) (E8 B (cs.set i u) T::Rs):=by
 obtain ⟨F,b,d,a⟩:=h.take
 exact a _ _ F ⟨b.1.set i u,b.2⟩ ((E5.refl w F).setCell (p:=⟨B,i,none⟩) (.inr ((b.2 B).2 rfl)) u) (fun k hk=> .inl hk) (fun k hk=>by simpa [World.setCell] using (d k hk).2)
def V0x (R1 R2:A6):A6 where
 res:=fun w F=>∃F1 F2:Nat→Prop,R1.res w F1∧R2.res w F2∧(∀k,F1 k→¬F2 k)∧∀k,F k↔F1 k∨F2 k
 loc:=fun w w' _ S ⟨F1,F2,h1,h2,hd,hF⟩ hm hS=>
  ⟨F1,F2,R1.loc w w' F1 S h1 hm fun k hk=>hS k ((hF k).2 (.inl hk)),R2.loc w w' F2 S h2 hm fun k hk=>hS k ((hF k).2 (.inr hk)),hd,hF⟩
def exT {α:Type} (R:α→A6):A6 where
 res:=fun w F=>∃a,(R a).res w F
 loc:=fun w w' F S ⟨a,h⟩ hm hS=>⟨a,(R a).loc w w' F S h hm hS⟩
def Y46 (p:Prop) (R:A6):A6 where
 res:=fun w F=>p∧R.res w F
 loc:=fun w w' F S ⟨hp,h⟩ hm hS=>⟨hp,R.loc w w' F S h hm hS⟩
theorem A4.unpair {w0 w:World} {R1 R2:A6} {Rs:List A6} (h:A4 w0 w (V0x R1 R2::Rs)):A4 w0 w (R1::R2::Rs):=by
 obtain ⟨F,⟨f,g,i,j,l,a⟩,d,m⟩:=h
 refine ⟨f,i,fun k hk=>d k ((a k).2 (.inl hk)),g,j,fun k hk=>⟨(d k ((a k).2 (.inr hk))).1,(d k ((a k).2 (.inr hk))).2.1, ?_⟩,m.less fun k hk=> ?_⟩
 ·rintro (b | b)
  ·exact b
  exact l k b hk
 rcases hk with (hk | hk) | hk
 ·exact .inl hk
 ·exact .inr ((a k).2 (.inl hk))
 exact .inr ((a k).2 (.inr hk))
theorem A4.pair {w0 w:World} {R1 R2:A6} {Rs:List A6} (h:A4 w0 w (R1::R2::Rs)):A4 w0 w (V0x R1 R2::Rs):=by
 obtain ⟨b,f,g,d,i,a,j⟩:=h
 refine ⟨fun k=>b k∨d k,⟨b,d,f,i,fun k hk hk2=>(a k hk2).2.2 (.inr hk),fun _=>Iff.rfl⟩,fun k hk=> ?_,j.less fun k hk=> ?_⟩
 ·rcases hk with hk | hk
  ·exact g k hk
  exact ⟨(a k hk).1,(a k hk).2.1,fun hu=>hu⟩
 rcases hk with hk | hk | hk
 ·exact .inl (.inl hk)
 ·exact .inl (.inr hk)
 exact .inr hk
theorem A4.ex {w0 w:World} {α:Type} {R:α→A6} {Rs:List A6} (h:A4 w0 w (exT R::Rs)):∃a,A4 w0 w (R a::Rs):=by
 obtain ⟨F,⟨a,b⟩,d,f⟩:=h
 exact ⟨a,F,b,d,f⟩
theorem A4.mk {w0 w:World} {α:Type} {R:α→A6} {Rs:List A6} (a:α) (h:A4 w0 w (R a::Rs)):A4 w0 w (exT R::Rs):=by
 obtain ⟨F,b,d,f⟩:=h
 exact ⟨F,⟨a,b⟩,d,f⟩
theorem A4.fact {w0 w:World} {p:Prop} {R:A6} {Rs:List A6} (h:A4 w0 w (Y46 p R::Rs)):p∧A4 w0 w (R::Rs):=by
 obtain ⟨F,⟨a,b⟩,d,f⟩:=h
 exact ⟨a,F,b,d,f⟩
theorem A4.mkFact {w0 w:World} {p:Prop} {R:A6} {Rs:List A6} (hp:p) (h:A4 w0 w (R::Rs)):A4 w0 w (Y46 p R::Rs):=by
 obtain ⟨F,a,b,d⟩:=h
 exact ⟨F,⟨hp,a⟩,b,d⟩
theorem A4.apart {w0 w:World} {B:Nat} {cs:List Value} {T e:TypeId} {size n:Nat} {v:Value} {xs:List Value} {Rs:List A6} (h:A4 w0 w (E8 B cs T::B0 e size v n xs::Rs)):v.ownBlock≠some B:=by
 obtain ⟨F,⟨_,a⟩,f,g,⟨_,b⟩,d,_⟩:=h
 intro e
 exact (d B ((b B).2 e)).2.2 (.inr ((a B).2 rfl))
theorem A4.apart2 {w0 w:World} {e e':TypeId} {size n size' n':Nat} {v v':Value} {xs xs':List Value} {Rs:List A6} (h:A4 w0 w (B0 e size v n xs::B0 e' size' v' n' xs'::Rs)):∀k,v.ownBlock=some k→v'.ownBlock≠some k:=by
 obtain ⟨F,⟨_,b⟩,g,i,⟨_,d⟩,f,_⟩:=h
 intro k a e
 exact (f k ((d k).2 e)).2.2 (.inr ((b k).2 a))
theorem A4.turnOwn {w0 w w':World} {e:TypeId} {size n n':Nat} {v v':Value} {xs xs':List Value} {Rs:List A6} (h:A4 w0 w (B0 e size v n xs::Rs)) (hown:Own w' e size v' n' xs') (hb:v'.ownBlock=v.ownBlock) (hm:E5 w w' (fun k=>v.ownBlock=some k)):
  A4 w0 w' (B0 e size v' n' xs'::Rs):=by
 obtain ⟨F,b,d,a⟩:=h.take
 exact a w' _ F ⟨hown,fun k=>by rw [hb];exact b.2 k⟩ (hm.mono fun k _ hk=>(b.2 k).2 hk) (fun k hk=> .inl hk) (fun k hk=>T05 (d k hk).2 hm.size)
end Go.Proofs.YtbkbkmgogbgofaaGreatDoor
