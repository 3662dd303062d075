/- The claim's texts, put together and shortened by a program (names, spaces). -/
import Derived.Test.YtbkbkmgogbgofaaGreatDoorZk16
import Derived.Test.YtbkbkmgogbgofaaGreatDoorZk30
import Derived.Test.YtbkbkmgogbgofaaGreatDoorZk05
import Derived.Test.YtbkbkmgogbgofaaGreatDoorZk02
import Derived.Test.YtbkbkmgogbgofaaGreatDoorZk01
import Derived.Deep.Slices
import Derived.OpenShut
import Derived.ProofKit
import Derived.Test.YtbkbkmgogbgofaaGreatDoorZk07
import Derived.Test.YtbkbkmgogbgofaaGreatDoorZk10
import Derived.Deep.DeepCutAuto
import Derived.Test.YtbkbkmgogbgofaaGreatDoorZk14
import Derived.Test.YtbkbkmgogbgofaaGreatDoorZk06
import Derived.Test.YtbkbkmgogbgofaaGreatDoorZk08
open List renaming replicate→T01,length_append→T02,length_drop→T04,getElem?_eq_getElem→T05,append_nil→T07,getElem?_map→T09,replicate_zero→T0b,replicate_succ'→T0c,append_assoc→T0d,length_replicate→T0e,eq_nil_of_length_eq_zero→T0f,mem_append_right→T0h,take_of_length_le→T0i,getElem?_eq_none→T0j
open Nat renaming mul_one→T03,le_refl→T06,zero_le→T08,zero_add→T0a
open Int renaming natCast_nonneg→T00
open Option renaming map_eq_some_iff→T0g
namespace Go.Proofs.YtbkbkmgogbgofaaGreatDoor
set_option maxRecDepth 100000
set_option maxHeartbeats 6400000
open Go.RowKit
abbrev Z4r (E:Nat):C4:= .whole E 78
def ecz (x:List Nat) (E:Nat) (hv:Value):List Value:=[.pointer (some ⟨E,0,none⟩),.int .u32 ((K6 1 x:Nat):Int),hv]
def zeO (B:Nat) (x:List Nat) (E:Nat) (hv:Value):A6:=E8 B (ecz x E hv) 48
def zeT (B:Nat) (x:List Nat) (s:O6 U5) (H:List Nat):A6:=exT fun p:Nat×Value=>Z0g [zeO B x p.1 p.2,B0 5 1 p.2 H.length (D9 H),Q8 s (Z4r p.1)]
def zsT (B:Nat) (x acc H:List Nat):A6:=exT fun p:Nat×Value=>Z0g [zeO B x p.1 p.2,B0 5 1 p.2 H.length (D9 H),Z33 acc (Z4r p.1)]
section
variable {w0 w:World} {Rs:List A6} {S:A6} {B E:Nat} {x H acc T:List Nat} {s:O6 U5} {hv:Value}
theorem X2g (h:A4 w0 w (zeT B x s H::Rs)):∃E hv,A4 w0 w (zeO B x E hv::B0 5 1 hv H.length (D9 H)::Q8 s (Z4r E)::Rs):=by
 obtain ⟨p,a⟩:=h.ex
 exact ⟨p.1,p.2,a.unall⟩
theorem X35 (E:Nat) (hv:Value) (h:A4 w0 w (zeO B x E hv::B0 5 1 hv H.length (D9 H)::Q8 s (Z4r E)::Rs)):A4 w0 w (zeT B x s H::Rs):=
 A4.mk (R:=fun p:Nat×Value=>Z0g [zeO B x p.1 p.2,B0 5 1 p.2 H.length (D9 H),Q8 s (Z4r p.1)]) (E,hv) (A4.all (L:=[zeO B x E hv,B0 5 1 hv H.length (D9 H),Q8 s (Z4r E)]) h)
theorem W1k (h:A4 w0 w (zsT B x acc H::Rs)):∃E hv,A4 w0 w (zeO B x E hv::B0 5 1 hv H.length (D9 H)::Z33 acc (Z4r E)::Rs):=by
 obtain ⟨p,a⟩:=h.ex
 exact ⟨p.1,p.2,a.unall⟩
theorem X2o (E:Nat) (hv:Value) (h:A4 w0 w (zeO B x E hv::B0 5 1 hv H.length (D9 H)::Z33 acc (Z4r E)::Rs)):A4 w0 w (zsT B x acc H::Rs):=
 A4.mk (R:=fun p:Nat×Value=>Z0g [zeO B x p.1 p.2,B0 5 1 p.2 H.length (D9 H),Z33 acc (Z4r p.1)]) (E,hv) (A4.all (L:=[zeO B x E hv,B0 5 1 hv H.length (D9 H),Z33 acc (Z4r E)]) h)
theorem Y6u {P:Program} {ops:Array Oper} {o:Oper} {a:Act} {K:Act→World→Prop} {Q:Exit→Act→World→Prop} {Ee:Prop} (hgd:o.guard=none) (s x:Operand) (t:TypeId)
  (ho:o.op= .call {callee:= .builtin .append,args:=#[s,x],argTypes:=#[t,t]})
  (e:TypeId) (i:TypeInfo) (z:Value) (size bytes:Nat) (ht:P.underlying t=some (.slice e)) (hi:P.info? e=some i) (hz:i.zero=some z)
  (hsize:i.size=size) (hby:i.bytes=bytes) (hzs:z.cells.size=size) (hsz:0 < size)
  (v:Value) (n:Nat) (xs:List Value) (hs:a.eval s=v) (hh:A4 w0 w (B0 e size v n xs::Rs))
  (y:Value) (m:Nat) (news:List Value) (hx:a.eval x=y) (hsrc:Rd w size y m news) (h1:∀u∈news,u.oneCell'=true) (N:Nat) (hN:N=n+m)
  (h63:N≤maxLen) (hbytes:N*bytes≤140737488355328)
  (h:∀ao cap w',A4 w0 w' (B0 e size (.slice ao N cap) N (xs++news)::Rs)→K (a.put o.dst (.slice ao N cap)) w'):
  if Region.wanted o (yielded ops a.tmps)=true then Oper.wp P o a w K Q else Ee:=by
 subst hN
 exact Z3e _ hgd s x t ho e i z size bytes ht hi hz hsize hby hzs hsz v n xs hs hh.own y m news hx hsrc h1 h63 hbytes fun ao cap w' h2 h3 h4=>h ao cap w' (hh.app h2 h3 h4)
theorem Z02 (h:A4 w0 w (zeO B x E hv::Rs)) (k:Nat) (u:Value) (hu:(ecz x E hv)[k]?=some u):w.cell? ⟨B,k,none⟩=some u:=h.obj.cell hu
theorem Y29 (h:A4 w0 w (zeO B x E hv::Rs)) (k:Nat):w.frozen? ⟨B,k,none⟩=false:=h.obj.frozen k
theorem W94 (h:A4 w0 w (zeO B x E hv::Rs)) (u:Value):A4 w0 (w.setCell ⟨B,2,none⟩ u) (zeO B x E u::Rs):=A4.setObj h 2 u
theorem V6l {x2:List Nat} (h:A4 w0 w (zeO B x E hv::Rs)) (n:Nat) (hn:n=K6 1 x2):A4 w0 (w.setCell ⟨B,1,none⟩ (.int .u32 (n:Int))) (zeO B x2 E hv::Rs):=by
 subst hn
 exact A4.setObj h 1 _
theorem Z9k {ST ST':A6} (D:List Nat) (h:A4 w0 w (ST::zeO B x E hv::B0 5 1 hv H.length (D9 H)::Rs)) (hD:H.length+D.length < 100000000)
  (hT:∀w' Q,A4 w0 w' (ST::Q)→Calls Tryz.prog 19 #[.pointer (some ⟨E,0,none⟩)] w' fun e w2=>∃d,e= .returned d∧A4 w0 w2 (B0 5 1 d D.length (D9 D)::ST'::Q)):
  Calls Tryz.prog 8 #[.pointer (some ⟨B,0,none⟩)] w fun e w'=>∃d,e= .returned d∧A4 w0 w' (B0 5 1 d (H++D).length (D9 (H++D))::zeO B x E (.slice none 0 0)::ST'::Rs):=by
 obtain ⟨i0,j,k,l,o⟩:=info_parts Z1o
 have y:1000000000≤maxLen:=by decide
 obtain ⟨ho,hc,rfl,_,_⟩:=h.third.own.form
 have z:=Z02 h.swap 0 _ rfl
 have q:=Z02 h.swap 2 _ rfl
 obtain ⟨m,t⟩:∃m,m=H.length:=⟨_,rfl⟩
 obtain ⟨n,p⟩:∃n,n=D.length:=⟨_,rfl⟩
 rw [T02]
 rw [←t] at h q hD⊢
 have g:=A5 (hT _ _ h.drew)
 have HN:=A5 p
 rw [←p] at hD g⊢
 clear h t hT p
 go_enter Tryz.func8,Tryz.ntmps8
 go_wp2
 go_region_law ((first
  | (refine Y6u (by rfl) (.tmp 9) (.tmp 15) 26 (by rfl) 5 i0 (.int .u8 0) 1 1 Tryz.underlying26 j k l o (by rfl) (by decide) (.slice ho m hc) m (D9 H) (by rfl) (by exact s.out) (.slice dO n dc) n (D9 D) (by rfl) (by exact b.out) (T0 _) (m+n) rfl (by omega) (by omega) ?_;intro ao a3 w3 f;have r:=A5 f;have f3:=Y29 f.fourth 2;have e3:=Z02 f.fourth 2 _ rfl;clear f)
  | (go_simp;go_at_call 19;with_reducible refine g.out.mono ?_;rintro e w2 ⟨d,rfl,a⟩;obtain ⟨dO,dc,rfl,_,_⟩:=a.own.form;have d0:=Z02 a.third 0 _ rfl;have d3:=Z02 a.third 2 _ rfl;have b:=A5 a.own.rd;have s:=A5 a.fourth;clear a)))
 all_goals
  have i:=(W94 r.out.fourth (.slice none 0 0))
  rw [←J8] at i
  have H4:=A5 i
  clear i r s b g d0 d3 z q
  go_wp2
  go_ret
  refine ⟨_,rfl, ?_⟩
  exact H4.out.swap.third.drop
theorem W4i (K8:Int) (hl:Y4v w0) (h:A4 w0 w Rs):
  Calls Tryz.prog 5 #[.int .i64 K8] w fun e w'=>∃B:Nat,e= .returned (.pointer (some ⟨B,0,none⟩))∧A4 w0 w' (zeT B [] (Z4m K5 K8) [120,156]::Rs):=by
 have d:=A5 (show Calls Tryz.prog 17 #[.int .i64 K8] w fun e w'=>∃E:Nat,e= .returned (.pointer (some ⟨E,0,none⟩))∧A4 w0 w' (Q8 (Z4m K5 K8) (Z4r E)::Rs) from V18 K8 hl h)
 clear h hl
 go_enter Tryz.func5,Tryz.ntmps5
 go_wp2_with fail
 with_reducible refine d.out.mono ?_
 rintro j a ⟨E,rfl,g⟩
 have f:=g.lit 5 1 [.int .u8 120,.int .u8 156] 2 (by decide) rfl
 have b:=f.newObj [.pointer (some ⟨E,0,none⟩),.int .u32 1,.slice (some ⟨a.heap.size,0,none⟩) 2 2] 48
 rw [show (a.alloc (.cells #[.int .u8 120,.int .u8 156] 5)).heap.size=a.heap.size+1 by simp] at b
 have i:=A5 b
 clear g f b d
 go_wp2
 go_ret
 exact ⟨_,rfl,X35 E (.slice (some ⟨a.heap.size,0,none⟩) 2 2) (by unfold zeO ecz;rw [show K6 1 []=1 by decide];exact i.out)⟩
theorem V2k {e:Nat} (h:A4 w0 w (Q8 s (Z4r E)::S::Rs)) (hO:Z4p w0) (HI:O4 K5 x s T e) (he:e≤1000000) (v:Value) (n:Nat) (b:List Nat) (hv:Z04 w0 S 1 v n (D9 b)) (hb:∀c∈b,c < 256) (hx:x.length+b.length≤most):
  Calls Tryz.prog 28 #[.pointer (some ⟨E,0,none⟩),v] w fun e w'=>e= .returned (.int .i64 0)∧A4 w0 w' (Q8 (Z1d K5 (I0 D2) s b) (Z4r E)::S::Rs):=X8m h hO HI he v n b hv hb hx
theorem X87 {e:Nat} (b:List Nat) (v:Value) (h:A4 w0 w (zeO B x E hv::S::Q8 s (Z4r E)::Rs)) (hO:Z4p w0) (HI:O4 K5 x s T e) (he:e≤1000000) (hr:Z04 w0 S 1 v b.length (D9 b)) (hb:∀c∈b,c < 256) (hx:x.length+b.length≤most):
  Calls Tryz.prog 18 #[.pointer (some ⟨B,0,none⟩),v] w fun en w'=>en= .returned (.int .i64 0)∧A4 w0 w' (zeO B (x++b) E hv::S::Q8 (Z1d K5 (I0 D2) s b) (Z4r E)::Rs):=by
 obtain ⟨j,k,rfl,_,_⟩:=(hr.rd h.drop).form
 have q:=Z02 h 0 _ rfl
 have d:=A5 (V2k h.third.mid hO HI he (.slice j b.length k) b.length b hr hb hx)
 have l:most=16777216:=rfl
 have f:=A5 (fun w' (h':A4 w0 w' (zeO B x E hv::S::Q8 (Z1d K5 (I0 D2) s b) (Z4r E)::Rs))=>Y9b (K6 1 x) (.slice j b.length k) b w' (Y5b x) (hr.rd h'.drop) hb (by omega))
 have m:=A5 (Y1l 1 x b)
 clear h hO HI he hr hb hx
 generalize b.length=n at d f⊢
 go_enter Tryz.func18,Tryz.ntmps18
 go_wp2_with fail
 with_reducible refine d.out.mono ?_
 rintro en p ⟨rfl,i⟩
 have a:A4 w0 p (zeO B x E hv::S::Q8 (Z1d K5 (I0 D2) s b) (Z4r E)::Rs):=i.third.mid
 have g:=A5 (f.out _ a)
 have r:=Z02 a 1 _ rfl
 have t:=Y29 a 1
 have o:=A5 (V6l a (K6 (K6 1 x) b) m.out.symm)
 clear i a f d
 go_wp2_with fail
 with_reducible refine g.out.mono ?_
 rintro en y ⟨rfl,rfl⟩
 clear g
 go_wp2
 go_ret
 exact ⟨rfl,o.out⟩
theorem X5m {e:Nat} (b:List Nat) (v:Value) (h:A4 w0 w (zeT B x s H::S::Rs)) (hO:Z4p w0) (HI:O4 K5 x s T e) (he:e≤1000000) (hr:Z04 w0 S 1 v b.length (D9 b)) (hb:∀c∈b,c < 256) (hx:x.length+b.length≤most):
  Calls Tryz.prog 7 #[.pointer (some ⟨B,0,none⟩),v] w fun en w'=>en= .returned (.int .i64 0)∧A4 w0 w' (zeT B (x++b) (Z1d K5 (I0 D2) s b) H::S::Rs):=by
 obtain ⟨E,i,f⟩:=X2g h
 obtain ⟨k,l,rfl,_,_⟩:=(hr.rd h.drop).form
 have a:=A5 (X87 b _ f.fourth.swap.mid2.mid hO HI he hr hb hx)
 clear h f hO HI he hr hb hx
 go_enter Tryz.func7,Tryz.ntmps7
 go_wp2_with fail
 with_reducible refine a.out.mono ?_
 rintro en j ⟨rfl,d⟩
 have g:=A5 d
 clear d a
 go_wp2
 go_ret
 exact ⟨rfl,X35 E i g.out.mid2'.mid⟩
theorem X3t (h:A4 w0 w (zeT B x s H::Rs)) (hl:H.length+(D4 s.acc).length < 100000000):
  Calls Tryz.prog 8 #[.pointer (some ⟨B,0,none⟩)] w fun e w'=>∃d,e= .returned d∧A4 w0 w' (B0 5 1 d (H++D4 s.acc).length (D9 (H++D4 s.acc))::zeT B x (Z4y s) []::Rs):=by
 obtain ⟨E,i,f⟩:=X2g h
 refine (Z9k (D4 s.acc) f.third hl fun w' Q hh=>(show Calls Tryz.prog 19 #[.pointer (some ⟨E,0,none⟩)] w' fun e a=>∃d,e= .returned d∧A4 w0 a (B0 5 1 d (D4 s.acc).length (D9 (D4 s.acc))::Q8 (Z4y s) (Z4r E)::Q) from W63 hh)).mono ?_
 rintro g a ⟨d,rfl,b⟩
 exact ⟨d,rfl,(X35 E (.slice none 0 0) (b.swap.mid.nil 5 1).swap).swap⟩
theorem X6f (h:A4 w0 w (zsT B x acc H::Rs)) (hl:H.length+(D4 acc).length < 100000000):
  Calls Tryz.prog 8 #[.pointer (some ⟨B,0,none⟩)] w fun e w'=>∃d,e= .returned d∧A4 w0 w' (B0 5 1 d (H++D4 acc).length (D9 (H++D4 acc))::zsT B x (acc.drop (8*(D4 acc).length)) []::Rs):=by
 obtain ⟨E,i,f⟩:=W1k h
 refine (Z9k (D4 acc) f.third hl fun w' Q hh=>(show Calls Tryz.prog 19 #[.pointer (some ⟨E,0,none⟩)] w' fun e a=>∃d,e= .returned d∧A4 w0 a (B0 5 1 d (D4 acc).length (D9 (D4 acc))::Z33 (acc.drop (8*(D4 acc).length)) (Z4r E)::Q) from Y6s hh)).mono ?_
 rintro g a ⟨d,rfl,b⟩
 exact ⟨d,rfl,(X2o E (.slice none 0 0) (b.swap.mid.nil 5 1).swap).swap⟩
end
section
variable {w0 w:World} {Rs:List A6} {S:A6} {B E:Nat} {x H acc T b:List Nat} {s:O6 U5} {hv v:Value}
theorem X4v {e:Nat} (h:A4 w0 w (zeT B x s H::Rs)) (hO:Z4p w0) (HI:O4 K5 x s T e) (he:e≤100000) (hx:x.length≤most) (hl:H.length+(D4 (L3 K5 (I0 D2) s)).length < 90000000):
  Calls Tryz.prog 9 #[.pointer (some ⟨B,0,none⟩)] w fun en w'=>en= .returned (.int .i64 0)∧
   A4 w0 w' (zsT B x ((L3 K5 (I0 D2) s).drop (8*(D4 (L3 K5 (I0 D2) s)).length)) (H++D4 (L3 K5 (I0 D2) s)++adB x)::Rs):=by
 obtain ⟨E,hv,p⟩:=X2g h
 have c0:=Z02 p 0 _ rfl
 have l:=A5 (show Calls Tryz.prog 20 #[.pointer (some ⟨E,0,none⟩)] w fun e w'=>e= .returned (.int .i64 0)∧A4 w0 w' (Z33 (L3 K5 (I0 D2) s) (Z4r E)::_) from X8n p.third hO HI hx he)
 clear h hO HI he hx p
 generalize L3 K5 (I0 D2) s=C at l hl⊢
 have r:Hid (∀k,A4 w0 k (Z33 C (Z4r E)::zeO B x E hv::B0 5 1 hv H.length (D9 H)::Rs)→_):=A5 fun k g=>Z9k (D4 C) g.drew (by omega) fun w' Q hh=>(show Calls Tryz.prog 19 #[.pointer (some ⟨E,0,none⟩)] w' fun e k=>∃d,e= .returned d∧A4 w0 k (B0 5 1 d (D4 C).length (D9 (D4 C))::Z33 (C.drop (8*(D4 C).length)) (Z4r E)::Q) from Y6s hh)
 have hQ:=Y5b x
 have a:adB x=beB (K6 1 x):=rfl
 rw [a]
 obtain ⟨n,q⟩:∃n,n=(H++D4 C).length:=⟨_,rfl⟩
 have m:n < 100000000:=by rw [q,T02];omega
 have t:Hid (∀d o Q,A4 w0 o (B0 5 1 d n (D9 (H++D4 C))::Q)→_):=A5 fun d o Q b=>X64 d n (K6 1 x) (H++D4 C) m b
 have j:=A5 q
 clear a hl hQ
 go_enter Tryz.func9,Tryz.ntmps9
 go_wp2_with fail
 with_reducible refine l.out.mono ?_
 rintro en k ⟨rfl,g⟩
 have f:=A5 (r.out _ g)
 rw [←j.out] at f
 have c1:=Z02 g.swap 1 _ rfl
 have c2:=Z02 g.swap 2 _ rfl
 have f2:=Y29 g.swap 2
 clear g r l q
 go_wp2
 go_region_law ((first
  | (go_simp;go_at_call 8;with_reducible refine f.out.mono ?_;rintro e o ⟨d,rfl,b⟩;obtain ⟨dO,dc,rfl,_,_⟩:=b.own.form;have d1:=Z02 b.swap 1 _ rfl;have d2:=Z02 b.swap 2 _ rfl;have g2:=Y29 b.swap 2;have z:=A5 b;clear b)
  | (go_simp;go_at_call 21;refine (t.out _ _ _ z.out).mono ?_;rintro e w4 ⟨y,rfl,i⟩;obtain ⟨yO,yc,rfl,_,_⟩:=i.own.form;have k1:=Z02 i.swap 1 _ rfl;have k2:=Z02 i.swap 2 _ rfl;have l2:=Y29 i.swap 2;have H4:=A5 i;clear i)))
 all_goals
  have H5:=A5 (W94 H4.out.swap (.slice yO (n+4) yc))
  clear H4 z f t c1 c2 f2
  go_wp2
  go_ret
  refine ⟨rfl,X2o E (.slice yO (n+4) yc) ?_⟩
  rw [T02,←j.out]
  exact H5.out
theorem Y76 (C:List Nat):D4 (C.drop (8*(D4 C).length))=[]:=by
 refine T0f ?_
 rw [O7,O7,T04]
 omega
theorem X1i (S x:List Nat):(X05 S x).length=S.length+6:=by
 have a:(adB x).length=4:=Y01 (K6 1 x)
 have b:(S++adB x).length=S.length+(adB x).length:=T02
 unfold X05
 generalize adB x=A at a b⊢
 show (S++A).length+1+1=_
 omega
theorem V40 (o:List Nat):∀c∈adB o,c < 256:=X2d _
theorem W39 {S x t:List Nat} (hS:W84 S x) (ht:∀c∈t,c < 256):∀c∈120::156::(S++t),c < 256:=fun c hc=>by
 rcases List.mem_cons.1 hc with rfl | hc
 ·decide
 rcases List.mem_cons.1 hc with rfl | hc
 ·decide
 exact (List.mem_append.1 hc).elim (hS.byt c) (ht c)
theorem X6g {e:Nat} (h:A4 w0 w (zeT B x s H::Rs)) (hO:Z4p w0) (HI:O4 K5 x s T e) (he:e≤1000000) (hv:Rd w0 1 v b.length (D9 b)) (hb:∀c∈b,c < 256) (hx:x.length+b.length≤most):
  Calls Tryz.prog 7 #[.pointer (some ⟨B,0,none⟩),v] w fun en w'=>en= .returned (.int .i64 0)∧A4 w0 w' (zeT B (x++b) (Z1d K5 (I0 D2) s b) H::Rs):=
 (X5m b v h.addNon.swap hO HI he (Z04.old hv (by decide)) hb hx).mono fun _ _ ⟨h1,h2⟩=>⟨h1,h2.swap.drop⟩
end
section
variable {w0 w:World} {Rs:List A6} {p:C4} {M:Nat}
end
structure Y1z (P:Program) (α:Type) where
 t:TypeId
 size:Nat
 good:World→List Value→α→Prop
 sized:P.cellsOf t=size
 long:∀w cs a,good w cs a→cs.length=size
 opens:∀ {H:Type} {enc:TypeId×Value→H} {W:World} {fuel:Nat} {cs:List Value} {x:DataW H×List MemPlace},
  DataW.trod enc P W 0 (fun _=>true) true fuel t cs=some x→∃a,good W cs a
section
variable {P:Program}
def V54 (t:TypeId) (k:IntKind) (ht:P.underlying t=some (.int k)) (hc:P.cellsOf t=1):Y1z P Int where
 t:=t
 size:=1
 good:=fun _ cs n=>cs=[.int k n]∧(Lit.int k n).wf=true
 sized:=hc
 long:=fun _ _ _ h=>by rw [h.1];rfl
 opens:=fun h=>by
  obtain ⟨n,h1,_,h2⟩:=DataW.trod_int ht h
  exact ⟨n,h1,h2⟩
def Z6o {α:Type} (S:Y1z P α) (W:World) (v:Value) (l:List α):Prop:=
 ∃ao cap,v= .slice ao l.length cap∧l.length≤cap∧cap≤maxLen∧(ao=none→cap=0)∧(l.length=0∨∃g off,ao=some ⟨g,off,none⟩∧
  ∀i a,l[i]?=some a→∃xs,S.good W xs a∧∀j u,xs[j]?=some u→W.cell? ⟨g,off+i*S.size+j,none⟩=some u)
def W2r {α:Type} (S:Y1z P α) (t:TypeId) (ht:P.underlying t=some (.slice S.t)) (hc:P.cellsOf t=1) (hs:0 < S.size) [Inhabited α]:Y1z P (List α) where
 t:=t
 size:=1
 good:=fun W cs l=>∃v,cs=[v]∧Z6o S W v l
 sized:=hc
 long:=fun _ _ _ h=>by obtain ⟨v,h,_⟩:=h;rw [h];rfl
 opens:=fun {H enc W fuel cs x} h=>by
  rcases Go.Deep.open_slice ht h with ⟨hcs,_⟩ | ⟨ad,l,c,m,n,D,Pl,hcs,_,hl,hm,hmm,_,hel⟩
  ·exact ⟨[],_,hcs,none,0,rfl,T06 _,T08 _,fun _=>rfl,.inl rfl⟩
  ·simp only [if_true] at hmm
   subst hmm
   rw [S.sized] at hel
   by_cases h0:l=0
   ·subst h0
    exact ⟨[],_,hcs,some ad,m,rfl,by simp,hm,(fun h=>by cases h),.inl rfl⟩
   ·obtain ⟨g,off,spot⟩:=ad
    have hspot:spot=none:=by
     obtain ⟨cs',hc0,_⟩:=hel 0 (by omega)
     obtain ⟨_,hcl,hcc⟩:=World.cells?_some hc0
     have hx:=hcc 0 hs
     rw [T05 (by omega)] at hx
     have:=World.cell?_spot hx
     simpa [Addr.add] using this
    subst hspot
    obtain ⟨A,hA⟩:=Go.Deep.choose_lt (α:=α) (n:=l) (p:=fun i a=>∃xs,S.good W xs a∧∀j u,xs[j]?=some u→W.cell? ⟨g,off+i*S.size+j,none⟩=some u) (fun i hi=>by
     obtain ⟨cs',hc0,ht⟩:=hel i (by omega)
     obtain ⟨a,ha⟩:=S.opens ht
     obtain ⟨_,hcl,hcc⟩:=World.cells?_some hc0
     refine ⟨a,cs',ha,fun j u hu=> ?_⟩
     have hj:=hcc j (by have:=(List.getElem?_eq_some_iff.1 hu).1;omega)
     rw [Addr.add_lit,Addr.add_lit] at hj
     rw [hj];exact hu)
    refine ⟨(List.range l).map A,_,hcs,some ⟨g,off,none⟩,m,by simp,by simpa using hl,hm,(fun h=>by cases h),.inr ⟨g,off,rfl,fun i a hi=> ?_⟩⟩
    have hil:i < l:=by have:=(List.getElem?_eq_some_iff.1 hi).1;simpa using this
    rw [T09,List.getElem?_range hil] at hi
    simp only [Option.map_some,Option.some.injEq] at hi
    subst hi
    exact hA i hil
theorem Z6o.rd {α:Type} {S:Y1z P α} {W:World} {v:Value} {l:List α} (h:Z6o S W v l) (f:α→Value) (hf:∀W xs a,S.good W xs a→xs=[f a]) (hs:S.size=1):Rd W 1 v l.length (l.map f):=by
 obtain ⟨i,d,k,m,n,o,b⟩:=h
 refine ⟨by simp,i,d,k,m,n,o, ?_⟩
 rcases b with b | ⟨g,off,b,h6⟩
 ·exact .inl b
 refine .inr ⟨g,off,b,fun j u hu=> ?_⟩
 rw [T09,T0g] at hu
 obtain ⟨a,p,rfl⟩:=hu
 obtain ⟨xs,q,r⟩:=h6 j a p
 have:=r 0 (f a) (by rw [hf W xs a q];rfl)
 rwa [hs,T03,Nat.add_zero] at this
theorem Z6o.each {α:Type} {S:Y1z P α} {W:World} {v:Value} {l:List α} (h:Z6o S W v l) {i:Nat} {a:α} (ha:l[i]?=some a):∃xs,S.good W xs a:=by
 obtain ⟨k,d,m,n,o,p,b⟩:=h
 have j:=(List.getElem?_eq_some_iff.1 ha).1
 rcases b with b | ⟨g,off,b,h6⟩
 ·omega
 obtain ⟨xs,f,_⟩:=h6 i a ha
 exact ⟨xs,f⟩
theorem Z6o.bytes {t:TypeId} {ht:P.underlying t=some (.int .u8)} {hc:P.cellsOf t=1} {W:World} {v:Value} {l:List Int} (h:Z6o (V54 t .u8 ht hc) W v l):
  ∃b:List Nat,b.length=l.length∧(∀x∈b,x < 256)∧Rd W 1 v b.length (D9 b):=by
 have f:∀x∈l,0≤x∧x≤255:=by
  intro x d
  obtain ⟨i,j⟩:=List.mem_iff_getElem?.1 d
  obtain ⟨k,g,m⟩:=h.each j
  exact bounds_u8 m
 refine ⟨l.map Int.toNat,by simp,fun x d=> ?_, ?_⟩
 ·obtain ⟨y,o,rfl⟩:=List.mem_map.1 d
  have:=f y o;omega
 have g:=h.rd (fun n=> .int .u8 n) (fun W k a hg=>hg.1) rfl
 have e:D9 (l.map Int.toNat)=l.map (fun n=>Value.int .u8 n):=by
  unfold D9
  rw [List.map_map]
  refine List.map_congr_left fun x d=> ?_
  have:=f x d
  simp only [Function.comp]
  rw [Int.toNat_of_nonneg this.1]
 rw [e,List.length_map]
 exact g
end
def V7s:Y1z Tryz.prog Int:=V54 5 .u8 Tryz.underlying5 (by kernel_rfl)
def W7t:Y1z Tryz.prog (List Int):=W2r V7s 26 Tryz.underlying26 (by kernel_rfl) (by decide)
theorem V5z {w:World} {v:Value} {l:List Int} (h:W7t.good w [v] l):∃bs:List Nat,(∀b∈bs,b < 256)∧Rd w 1 v bs.length (D9 bs):=by
 obtain ⟨a,d,f⟩:=h
 obtain rfl:v=a:=by simpa using d
 obtain ⟨b,_,g,i⟩:=f.bytes
 exact ⟨b,g,i⟩
section
variable {w0 w:World} {Rs:List A6}
theorem W46 (h:A4 w0 w Rs) (v u:Value) (a b:List Nat) (hab:a=b) (hv:Rd w 1 v a.length (D9 a)) (hu:Rd w 1 u b.length (D9 b)) (hal:a.length < 8000000000):
  Calls Tryz.prog 15 #[v,u] w fun e w'=>e= .returned (.bool true)∧A4 w0 w' Rs:=
 (V5f h v u a b hv hu hal).mono fun _ _ ⟨h1,h2⟩=>⟨by rw [h1,decide_eq_true hab],h2⟩
end
def Y5h:Y1z Tryz.prog (List (List Int)):=W2r W7t 22 Tryz.underlying22 (by kernel_rfl) (by decide)
def W1f (w:World) (v:Value) (T:List (List Nat×Value)):Prop:=Rd w 1 v T.length (T.map Prod.snd)∧∀p∈T,(∀b∈p.1,b < 256)∧Rd w 1 p.2 p.1.length (D9 p.1)
theorem V04 {w:World} {v:Value} {l:List (List Int)} (h:Y5h.good w [v] l):∃T,T.length=l.length∧W1f w v T:=by
 obtain ⟨v',s,t,a,rfl,x,m,y,f⟩:=h
 obtain rfl:v=_:=by simpa using s
 rcases f with f | ⟨g,off,rfl,h6⟩
 ·refine ⟨[],by rw [f];rfl,⟨rfl,t,a,by rw [f];rfl,T08 _,m,y,.inl rfl⟩,fun p hp=>by cases hp⟩
 have r:Inhabited (List Nat×Value):=⟨([],.bool false)⟩
 obtain ⟨A,o⟩:=Go.Deep.choose_lt (α:=List Nat×Value) (n:=l.length) (p:=fun i p=>(∀b∈p.1,b < 256)∧Rd w 1 p.2 p.1.length (D9 p.1)∧w.cell? ⟨g,off+i,none⟩=some p.2) (fun i d=>by
  obtain ⟨xs,z,hc⟩:=h6 i l[i] (T05 d)
  obtain ⟨u,rfl,k⟩:=z
  obtain ⟨bs,hb,hr⟩:=V5z (l:=l[i]) ⟨u,rfl,k⟩
  refine ⟨(bs,u),hb,hr, ?_⟩
  have:=hc 0 u rfl
  rw [Nat.add_zero,show i*(W7t).size=i*1 from rfl,T03] at this
  exact this)
 refine ⟨(List.range l.length).map A,by simp,⟨by simp,some ⟨g,off,none⟩,a,by simp,by simpa using x,m,(fun h=>by cases h),.inr ⟨g,off,rfl,fun j u k=> ?_⟩⟩,fun p hp=> ?_⟩
 ·rw [List.map_map,T09,T0g] at k
  obtain ⟨i,d,rfl⟩:=k
  obtain ⟨q,rfl⟩:=List.getElem?_eq_some_iff.1 d
  rw [List.length_range] at q
  rw [List.getElem_range]
  exact (o j q).2.2
 obtain ⟨i,d,rfl⟩:=List.mem_map.1 hp
 have:=o i (List.mem_range.1 d)
 exact ⟨this.1,this.2.1⟩
section
variable {M:Z5h} {F:Nat→List E3→List Nat→Nat→List Nat} {x:List Nat} {s:O6 M.St} {O:List Nat} {e:Nat}
theorem X3c (L:V0 M) (HF:Z19 F) (h:O4 M x s (D7 O) e) (hO:∀b∈O,b < 256) (hl:x.length≤most):
  W84 (O++D4 (L3 M F s)) x∧(O++D4 (L3 M F s)).length≤x.length+6*(x.length / 16384+e+1)+1:=by
 obtain ⟨k,l,r,m⟩:=X0s L HF h hl
 generalize L3 M F s=C at*
 have i:C.length%8=0:=by rw [T02,E1] at k;omega
 have a:isBits C:=fun b hb2=>l b (T0h _ hb2)
 have j:D7 (D4 C)=C:=Z91 _ a i
 have d:D7 (O++D4 C)=D7 O++C:=by rw [M7,j]
 have f:=congrArg List.length d
 rw [E1] at f
 refine ⟨V2r (fun b hb2=>(List.mem_append.1 hb2).elim (hO b) (Z69 _ a b)) fun N hN=> ?_,by omega⟩
 rw [d]
 obtain ⟨n,o,q,p,g,_⟩:=m N hN
 refine ⟨n,o,q,p, ?_⟩
 rw [g]
 congr 1
 omega
theorem Y45 (h:O4 M x s (D7 O) e) (hO:∀b∈O,b < 256):O4 M x (Z4y s) (D7 (O++D4 s.acc)) e∧(∀b∈O++D4 s.acc,b < 256)∧O.length+(D4 s.acc).length≤x.length+6*(x.length / 16384+e):=by
 have d:=(W73 h).1
 rw [←M7] at d
 obtain ⟨P,k,l,a⟩:=h.mid
 refine ⟨d,fun b hb=>(List.mem_append.1 hb).elim (hO b) (Z69 _ (fun b hb=>a.ch.bits01 b (T0h _ hb)) b), ?_⟩
 have f:=a.size
 have g:=a.cnt
 have i:=a.sum
 have j:=a.le
 rw [T02,E1] at f
 rw [O7]
 omega
end
section
variable {w0 w:World} {Rs:List A6} {B E:Nat} {x acc H:List Nat} {hv:Value}
theorem X4s (h:A4 w0 w (zsT B x acc H::Rs)):
  Calls Tryz.prog 7 #[.pointer (some ⟨B,0,none⟩),.slice none 0 0] w fun en w'=>en= .returned (.int .i64 8)∧A4 w0 w' (zsT B x acc H::Rs):=by
 obtain ⟨E,k,f⟩:=W1k h
 have i:=Z02 f 0 _ rfl
 have b:=A5 (show Calls Tryz.prog 28 #[.pointer (some ⟨E,0,none⟩),.slice none 0 0] w _ from X5c f.third (.slice none 0 0))
 clear h f
 have g:Hid (Calls Tryz.prog 18 #[.pointer (some ⟨B,0,none⟩),.slice none 0 0] w fun en w'=>en= .returned (.int .i64 8)∧A4 w0 w' (zsT B x acc H::Rs)):=by
  refine A5 ?_
  go_enter Tryz.func18,Tryz.ntmps18
  go_wp2_with fail
  with_reducible refine b.out.mono ?_
  rintro en j ⟨rfl,a⟩
  have d:=A5 a
  clear a b
  go_wp2
  go_ret
  exact ⟨rfl,X2o E k d.out.third.third⟩
 clear b i
 go_enter Tryz.func7,Tryz.ntmps7
 go_wp2_with fail
 with_reducible refine g.out.mono ?_
 rintro en j ⟨rfl,a⟩
 have d:=A5 a
 clear a g
 go_wp2
 go_ret
 exact ⟨rfl,d.out⟩
end
abbrev Y0q (B:Nat):C4:= .whole B 100
def Z7o (M n:Nat):DSt→List Nat→Nat→DSt→Prop
 | .run ph l o,t,er,s'=>Z29 M ph l o (n:Int) t er s'
 | .fin e l,t,er,s'=>t=[]∧er=e∧s'= .fin e l
section
variable {w0 w:World} {Rs:List A6} {M n er:Nat} {s s':DSt} {t:List Nat}
theorem W05 {p:C4} {ph:Ph} {l o:List Nat} (h:A4 w0 w (Z20 p M (.run ph l o)::Rs)):o.length≤M∧MOk ph l o∧l.length < Y5:=by
 obtain ⟨x,b,_⟩:=Z65 h
 have a:Z0h M (Y7a x.c) x.ls x.Ts ph l o []:=b
 have:=a.most
 exact ⟨by omega,a.ok,a.len⟩
theorem X4d {p:C4} {e:Nat} {l:List Nat} (h:A4 w0 w (Z20 p M (.fin e l)::Rs)):(e=2∨e=3∨e=6∨e=8)∧isBits l∧l.length < Y5:=by
 obtain ⟨x,b,_⟩:=Z65 h
 have a:=(show X1r x.c e l∧x.ls=[] from b).1
 exact ⟨a.kind,a.bits,a.len⟩
theorem W38 {p:C4} (hn:0 < n) (hn2:n≤9223372036854775807) (hG:Y9 w0) (h:A4 w0 w (Z20 p M s::Rs)):
  Calls Tryz.prog 68 #[.pointer (some ⟨p.b,p.o,none⟩),.int .i64 (n:Int)] w fun e w'=>∃ (x:Value) (t:List Nat) (er:Nat) (s':DSt),e= .returned (.tuple #[x,.int .i64 (er:Int)])∧Z7o M n s t er s'∧
   A4 w0 w' (B0 5 1 x t.length (D9 t)::Z20 p M s'::Rs):=by
 cases s with
 | run ph l o=>exact W8v ph l o n hn hn2 hG h
 | fin e l=>
  refine (V1r e l n hn h).mono ?_
  rintro d w' ⟨x,rfl,a⟩
  exact ⟨x,[],e,_,rfl,⟨rfl,rfl,rfl⟩,a⟩
theorem Z7o.short (h:Z7o M n s t er s') (hn:0 < n):t.length≤n:=by
 cases s with
 | fin e l=>rw [h.1];exact T08 _
 | run ph l o=>
  have h:Z29 M ph l o (n:Int) t er s':=h
  cases h with
  | full h _=>omega
  | wait h _ _=>omega
  | fin h _ _ _ _=>omega
theorem Z7o.none (h:Z7o M n s [] er s') (hn:0 < n):(er=5∧∃ph l o,s'= .run ph l o∧F9 M l o ph= .err 5)∨∃l,s'= .fin er l:=by
 cases s with
 | fin e l=>obtain ⟨_,rfl,rfl⟩:=h;exact .inr ⟨l,rfl⟩
 | run ph l o=>
  have h:Z29 M ph l o (n:Int) [] er s':=h
  cases h with
  | full ht _=>
   have a:(([]:List Nat).length:Int)=0:=rfl
   omega
  | wait _ hr hs=>exact .inl ⟨rfl,_,_,_,rfl,hs⟩
  | fin _ _ _ _ her=>rw [if_pos rfl] at her;subst her;exact .inr ⟨_,rfl⟩
def X6z (cl:Bool) (M:Nat) (o:List Nat):DSt→List Nat→Nat→Prop
 | .run ph l ob,out,e=>ob=o∧X1z cl M ph l o out e
 | .fin e0 l,out,e=>W6u cl e0 l o out e
theorem Z7o.come {cl:Bool} {o out:List Nat} {e:Nat} (h:Z7o M n s t er s') (hc:X6z cl M o s out e) (hm:∀ph l ob,s= .run ph l ob→MOk ph l ob):∃out',out=t++out'∧X6z cl M (o++t) s' out' e:=by
 cases s with
 | fin e0 l=>
  obtain ⟨rfl,rfl,rfl⟩:=h
  refine ⟨out,rfl, ?_⟩
  rw [T07]
  exact hc
 | run ph l ob=>
  obtain ⟨rfl,hc⟩:=hc
  have h:Z29 M ph l ob (n:Int) t er s':=h
  have hm:=hm ph l ob rfl
  cases h with
  | full _ hr=>obtain ⟨out',b,a⟩:=hc.on hm hr;exact ⟨out',b,rfl,a⟩
  | wait _ hr _=>obtain ⟨out',b,a⟩:=hc.on hm hr;exact ⟨out',b,rfl,a⟩
  | fin _ hr hs _ _=>
   obtain ⟨out',b,a⟩:=hc.on hm hr
   refine ⟨out',b, ?_⟩
   rcases hs with ⟨hs,rfl⟩ | ⟨hs,rfl⟩
   ·exact a.done hs
   exact (a.err hs).1
theorem X7j (l:List Nat) (a b:Nat):((D9 l).drop (a*1)).take (b*1)=D9 ((l.drop a).take b):=by
 simp only [T03,D9,List.map_drop,List.map_take]
theorem Y2o (ao:Option Addr) (n cap a m:Nat) (ai:Int) (hai:ai=(a:Int)) (l:List Nat) (hn:n=l.length) (hnc:n≤cap) (hm:m+a=n) (hv:∀wg,A4 w0 wg Rs→Rd wg 1 (.slice ao n cap) n (D9 l)):
  ∃a1 c1,m≤c1∧(∀wg,(Instr.sliceAt 26 (.slice ao n cap) (some (.int .i64 ai)) none none).run Tryz.prog wg= .ok (.slice a1 m c1) wg)∧∀wg,A4 w0 wg Rs→Rd wg 1 (.slice a1 m c1) m (D9 (l.drop a)):=by
 obtain ⟨i,d,j,f,k⟩:=info_parts Z1o
 obtain ⟨a1,b⟩:∃a1,sliced ao a n cap 1= .slice a1 (n-a) (cap-a):=⟨_,rfl⟩
 subst hai
 obtain rfl:m=n-a:=by omega
 refine ⟨a1,cap-a,by omega,fun wg=> ?_,fun wg h=> ?_⟩
 ·rw [←b]
  exact O0 (P:=Tryz.prog) (w:=wg) 26 5 i 1 Tryz.underlying26 d f ao n cap a n (some (.int .i64 (a:Int))) none ⟨_,rfl⟩ rfl (by omega) (by omega)
 have g:=(hv wg h).cut (L:=a) (H:=n) (by omega) (T06 _)
 rw [X7j,b,T0i (by rw [T04];omega)] at g
 exact g
theorem Own.siteZ {e:TypeId} {ao:Option Addr} {cap k:Nat} {xs:List Value} (h:Own w e 1 (.slice ao k cap) k xs) (hk:0 < k):
  ∃g off,ao=some ⟨g,off,none⟩∧∀j u,xs[j]?=some u→w.cell? ⟨g,off+j,none⟩=some u:=by
 rcases h.2 with ⟨hv,h0⟩ | ⟨g,off,cap',cur,hv,hg,hnc,hc,hsz,hcur⟩
 ·omega
 simp only [Value.slice.injEq,true_and] at hv
 obtain ⟨rfl,rfl⟩:=hv
 exact ⟨g,off,rfl,fun j u hu=>by rw [cell_of_row w g _ cur e (0,0) hg];exact hcur j u hu⟩
end
section
variable {w0 w:World} {Rs:List A6}
def V60 (w0 w':World) (Rs:List A6) (S:Nat×Nat×List Int×List Int) (B:Nat) (o r kk s:Value) (bo:Option Addr) (bc m M:Nat) (lc dc tk:Value) (all:List Nat):Prop:=
 (S.1=0∧∃ (li di:Value),A4 w0 w' (S2 B o 0 r kk s (.slice bo m bc) S.2.1 (M:Int) li di lc dc tk::rdT 1 (.slice bo m bc) m (D9 all)::Y8l 1 li S.2.2.1.length (D3 S.2.2.1) di S.2.2.2.length (D3 S.2.2.2)::Rs))∨
 (S.1≠0∧∃ (a':Nat) (li di:Value),A4 w0 w' (S2 B o S.1 r kk s (.slice bo m bc) a' (M:Int) li di lc dc tk::rdT 1 (.slice bo m bc) m (D9 all)::Rs))
theorem V0o {l:List Int} {mm:Int} (h:D0 l mm=0):∀y∈l,0≤y∧y≤mm:=by
 unfold D0 at h
 split at h
 ·cases h
 rename_i a
 simp only [U4,Bool.or_eq_true,decide_eq_true_eq,Bool.not_eq_true',not_or,Bool.not_eq_false] at a
 exact (Z1p l mm).1 a.2
theorem X2i (z:Value) (n:Nat) (hz:z.cells=#[z]):(madeCells z.cells (n*1)).toList=T01 n z:=by
 rw [T03,hz]
 refine List.ext_getElem? fun j=> ?_
 by_cases a:j < n
 ·simp [madeCells,a,Nat.mod_one]
 rw [T0j (by simp [madeCells];omega),T0j (by simp;omega)]
theorem X2t (w:World) (o:Obj):(w.alloc o).heap.size=w.heap.size+1:=by
 show (w.heap.push o).size=_
 simp
theorem A4.cut2 {w0 w:World} {Rs:List A6} {e:TypeId} {lo:Option Addr} {n lcap:Nat} {xs:List Value} (h:A4 w0 w (B0 e 1 (.slice lo n lcap) n xs::Rs)) (A:Nat) (hA:A≤n):A4 w0 w (Y8l 1 (.slice lo A lcap) A (xs.take A) (sliced lo A n lcap 1) (n-A) (xs.drop A)::Rs):=by
 have i:=h.own.rd.1
 have a:=h.own.rd.front hA
 have b:=h.own.rd.cut (L:=A) (H:=n) hA (T06 _)
 rw [T03] at a
 rw [T03,T03,T0i (by rw [T04];omega)] at b
 obtain ⟨F,f,g⟩:=h
 have d:∀k,Value.ownBlock (.slice lo A lcap)=some k→Value.ownBlock (.slice lo n lcap)=some k:=fun k hk=>by
  clear a b f g
  cases lo <;> exact hk
 refine ⟨F,⟨⟨a,fun k hk=>(f.2 k).2 (d k hk)⟩,⟨b,fun k hk=>(f.2 k).2 ?_⟩⟩,g⟩
 rw [←Z3u lo A n lcap 1 n];exact hk
theorem V1z:∀i,i < 19→M5[i]?.getD 0 < 19:=by decide
theorem W7n:∀i,i < 19→([16,17,18,0,8,7,9,6,10,5,11,4,12,3,13,2,14,1,15]:List Int)[i]?=some ((M5[i]?.getD 0:Nat):Int):=by decide
theorem V0h (i ov:Nat) (h:i < 19) (ho:ov=M5[i]?.getD 0):(D3 [16,17,18,0,8,7,9,6,10,5,11,4,12,3,13,2,14,1,15])[i]?=some (.int .i64 (ov:Int)):=by
 rw [G5,W7n i h,ho];rfl
theorem W0z (l:List Int) (i:Nat) (b:Int):D3 (l.set i b)=(D3 l).set i (.int .i64 b):=by simp [D3,List.map_set]
theorem X6a (B:Nat) (o r kk s:Value) (bo:Option Addr) (bc m a M:Nat) (li di lc dc tk:Value) (all:List Nat)
  (h:A4 w0 w (S2 B o 0 r kk s (.slice bo m bc) a (M:Int) li di lc dc tk::rdT 1 (.slice bo m bc) m (D9 all)::Rs)) (hb:isBits all) (ha:a≤m) (hm2:m < 1000000000):
  Calls Tryz.prog 39 #[S4 B] w fun e' w'=>e'= .returned (.bool (decide ((Q5 all a).1=0)))∧V60 w0 w' Rs (Q5 all a) B o r kk s bo bc m M lc dc tk all:=by
 obtain ⟨i0,e5,i7,e6,i8⟩:=info_parts Y3g
 have hm:m=all.length:=by have:=h.drop.rdv.1;rw [E6] at this;omega
 have HM:=A5 hm
 have d3:=A5 hb
 have H:=A5 h
 generalize hS:Q5 all a=S at*
 have HS:=A5 hS
 have q:=h.obj
 have c1:=q.cell (i:=1) rfl
 have c5:=q.cell (i:=5) rfl
 have c6:=q.cell (i:=6) rfl
 have f1:=q.frozen 1
 have z0:(0:Int)≤(a:Int):=T00 _
 obtain ⟨z,hz⟩:∃z,z=a+14:=⟨_,rfl⟩
 have m8:(a:Int)+14=(z:Int):=by omega
 have u9:(0:Int)≤(z:Int):=T00 _
 have HZ:=A5 hz
 unfold S4
 by_cases a2:m < z
 ·have b1:decide (m < z)=true:=decide_eq_true a2
  have b2:decide ((m:Int) < (z:Int))=true:=decide_eq_true (by omega)
  have b:Hid (S=(5,a,[],[])):=A5 (by rw [←hS];unfold Q5;exact if_pos (by rw [←hm,←hz];exact a2))
  have m9:IntKind.i64.wrap ((a:Int)+14)=(z:Int):=by rw [m8];exact IntWalk.i64_in _ (by omega)
  clear h hb hm hS q hz a2
  go_enter Tryz.func39,Tryz.ntmps39
  go_wp2
  go_quiet (fail)
  go_wp2
  go_ret
  exact ⟨by rw [b.out];rfl,.inr ⟨by rw [b.out];exact fun h=>(by cases h),a,li,di,by rw [b.out];exact (H.out.drewN _).setObj 1 _⟩⟩
 have b1:decide (m < z)=false:=decide_eq_false a2
 have b2:decide ((m:Int) < (z:Int))=false:=decide_eq_false (by omega)
 obtain ⟨v1,e3⟩:∃v,v=E4 ((all.drop a).take 5):=⟨_,rfl⟩
 obtain ⟨v2,f7⟩:∃v,v=E4 ((all.drop (a+5)).take 5):=⟨_,rfl⟩
 obtain ⟨v3,j8⟩:∃v,v=E4 ((all.drop (a+10)).take 4):=⟨_,rfl⟩
 have n0:v1 < 32:=by rw [e3];exact L8 hb a 5
 have n1:v2 < 32:=by rw [f7];exact L8 hb _ 5
 have n2:v3 < 16:=by rw [j8];exact L8 hb _ 4
 have j2:=A5 (fun w1 (d:A4 w0 w1 (S2 B o 0 r kk s (.slice bo m bc) a (M:Int) li di lc dc tk::rdT 1 (.slice bo m bc) m (D9 all)::Rs))=>X9 B o 0 r kk s bo bc m a 5 v1 (M:Int) li di lc dc tk all d (by rw [e3];exact Y1w (by rw [←hm];omega)) hb (by omega) (by decide))
 have t:=A5 (fun w1 (d:A4 w0 w1 (S2 B o 0 r kk s (.slice bo m bc) (a+5) (M:Int) li di lc dc tk::rdT 1 (.slice bo m bc) m (D9 all)::Rs))=>X9 B o 0 r kk s bo bc m (a+5) 5 v2 (M:Int) li di lc dc tk all d (by rw [f7];exact Y1w (by rw [←hm];omega)) hb (by omega) (by decide))
 have j3:=A5 (fun w1 (d:A4 w0 w1 (S2 B o 0 r kk s (.slice bo m bc) (a+5+5) (M:Int) li di lc dc tk::rdT 1 (.slice bo m bc) m (D9 all)::Rs))=>X9 B o 0 r kk s bo bc m (a+5+5) 4 v3 (M:Int) li di lc dc tk all d (by rw [show a+5+5=a+10 by omega,j8];exact Y1w (by rw [←hm];omega)) hb (by omega) (by decide))
 have h5:((5:Nat):Int)=5:=rfl
 have h4:((4:Nat):Int)=4:=rfl
 have k6:a+5+5+4=z:=by omega
 rw [h5] at j2 t
 rw [h4,k6] at j3
 unfold S4 at j2 t j3
 obtain ⟨A,hA⟩:∃A,A=v1+257:=⟨_,rfl⟩
 obtain ⟨Bn,r0⟩:∃Bn,Bn=v2+1:=⟨_,rfl⟩
 obtain ⟨C,hC⟩:∃C,C=v3+4:=⟨_,rfl⟩
 have z4:(v1:Int)+257=(A:Int):=by omega
 have z5:(v2:Int)+1=(Bn:Int):=by omega
 have z6:(v3:Int)+4=(C:Int):=by omega
 have z7:(0:Int)≤(A:Int):=T00 _
 have z8:(0:Int)≤(Bn:Int):=T00 _
 have z9:(0:Int)≤(C:Int):=T00 _
 have d7:Hid (S=Q5.dynRun all z A Bn C):=A5 (by rw [←hS];unfold Q5;rw [if_neg (by rw [←hm,←hz];exact a2),←e3,←f7,←j8,←hz,hA,r0,hC])
 have A0:A≤300:=by omega
 have A1:Bn≤40:=by omega
 have A2:C≤19:=by omega
 have s9:z≤m:=by omega
 have m9:IntKind.i64.wrap ((a:Int)+14)=(z:Int):=by rw [m8];exact IntWalk.i64_in _ (by omega)
 have t0:257≤A:=by omega
 have A3:1≤Bn:=by omega
 clear h hb hm hS q hz a2 e3 f7 j8 hA r0 hC h5 h4 k6 HZ n0 n1 n2
 go_enter Tryz.func39,Tryz.ntmps39
 go_wp2
 go_quiet (fail)
 have n3:=A5 (j2.out _ (H.out.drewN nq))
 clear m9 c1 c5 c6 f1 j2 H
 go_wp2_with fail
 refine n3.out.mono ?_
 rintro e' w2 ⟨rfl,d⟩
 have n4:=A5 (t.out _ d)
 clear d n3 t
 go_wp2_with fail
 refine n4.out.mono ?_
 rintro e' w3 ⟨rfl,d⟩
 have n5:=A5 (j3.out _ d)
 clear d n4 j3
 go_wp2_with fail
 refine n5.out.mono ?_
 rintro e' w4 ⟨rfl,d⟩
 have H4:=A5 d
 have q:=d.obj
 have d1:=q.cell (i:=1) rfl
 have g1:=q.frozen 1
 clear d n5 q
 by_cases b9:286 < A∨30 < Bn
 ·have b:Hid (S=(2,z,[],[])):=A5 (by rw [d7.out];unfold Q5.dynRun;exact if_pos b9)
  have hc:(decide ((286:Int) < (A:Int))=true∧decide (286 < A)=true)∨(decide ((286:Int) < (A:Int))=false∧decide (286 < A)=false∧decide ((30:Int) < (Bn:Int))=true∧decide (30 < Bn)=true):=by
   by_cases h:286 < A
   ·exact .inl ⟨decide_eq_true (by omega),decide_eq_true h⟩
   exact .inr ⟨decide_eq_false (by omega),decide_eq_false h,decide_eq_true (by omega),decide_eq_true (by omega)⟩
  clear b9
  rcases hc with ⟨q1,q2⟩ | ⟨q1,q2,q3,q4⟩
  all_goals
   go_wp2
   go_ret
   exact ⟨by rw [b.out];rfl,.inr ⟨by rw [b.out];exact fun h=>(by cases h),z,li,di,by rw [b.out];exact H4.out.setObj 1 _⟩⟩
 have q1:decide ((286:Int) < (A:Int))=false:=decide_eq_false (by omega)
 have q2:decide (286 < A)=false:=decide_eq_false (by omega)
 have q3:decide ((30:Int) < (Bn:Int))=false:=decide_eq_false (by omega)
 have q4:decide (30 < Bn)=false:=decide_eq_false (by omega)
 have t2:A≤286:=by omega
 have v7:Bn≤30:=by omega
 have j4:Hid (S=if all.length < z+3*C then (5,z,[],[]) else if D0 (F6 all z C) 7≠0∨Z1g all z C=false then (3,z+3*C,[],[]) else Q5.dynEnd A (Z1m (F6 all z C) all (A+Bn) (all.length+1) (z+3*C) [])):=A5 (by rw [d7.out];unfold Q5.dynRun;exact if_neg b9)
 have H5:=A5 ((H4.out.lit 3 1 (D3 [16,17,18,0,8,7,9,6,10,5,11,4,12,3,13,2,14,1,15]) 19 (by decide) rfl).toRd)
 clear b9 d7
 go_wp2_with (refine wpList_make_own rfl 52 (.const (.int .i64 19)) (.const (.int .i64 19)) rfl 3 i0 (.int .i64 0) 1 Tryz.underlying52 e5 i7 e6 .i64 19 rfl rfl (by rw [i8];decide) (by decide) ?_;intro hv w5 zs q0 q5 q6 e3 q7;have H6:=A5 (H5.out.pushOwn q0 q5 q6))
 have H7:Hid (A4 w0 w5 (S2 B o 0 r kk s (.slice bo m bc) z (M:Int) li di lc dc tk::rdT 1 (.slice bo m bc) m (D9 all)::B0 3 1 hv 19 (D3 (F6 all z 0))::rdT 1 (.slice (some ⟨w4.heap.size,0,none⟩) 19 19) 19 (D3 [16,17,18,0,8,7,9,6,10,5,11,4,12,3,13,2,14,1,15])::Rs)):=A5 (by
  have h:=H6.out
  rw [q7,X2i _ _ rfl] at h
  exact h.third.fourth.swap)
 have f7:hv= .slice (some ⟨w4.heap.size+1,0,none⟩) 19 19:=by rw [e3,X2t]
 clear e3
 subst f7
 obtain ⟨OB,r1⟩:∃OB,OB=w4.heap.size:=⟨_,rfl⟩
 rw [←r1] at H7⊢
 clear r1 H6 H5 q5 q6 q0 q7 H4 d1 g1
 go_loopg [11,12] (C+2) (fun g t11 t12 wr=>∃i p:Nat,i≤C∧C-i < g∧t12= .int .i64 (i:Int)∧t11= .bool (Z1g all z i)∧p=z+3*i∧p≤m∧Hid (A4 w0 wr (S2 B o 0 r kk s (.slice bo m bc) p (M:Int) li di lc dc tk::rdT 1 (.slice bo m bc) m (D9 all)::B0 3 1 (.slice (some ⟨OB+1,0,none⟩) 19 19) 19 (D3 (F6 all z i))::rdT 1 (.slice (some ⟨OB,0,none⟩) 19 19) 19 (D3 [16,17,18,0,8,7,9,6,10,5,11,4,12,3,13,2,14,1,15])::Rs)))
 case atStart=>exact ⟨0,z,by omega,by omega,rfl,rfl,by omega,s9,H7⟩
 case round=>
  obtain ⟨i,p,hi,hg,rfl,rfl,hp,r2,HH⟩:=hrel
  have x1:(0:Int)≤(i:Int):=T00 _
  by_cases B9:i < C
  ·have t3:(i:Int) < (C:Int):=by omega
   have h3:((3:Nat):Int)=3:=rfl
   cases ht:I8 all p 3 with
   | none=>
    have hT:=Z51 B o 0 r kk s bo bc m p 3 (M:Int) li di lc dc tk all HH.out ht (by omega) (by decide)
    rw [h3] at hT
    unfold S4 at hT
    have HT:=A5 hT
    have b:Hid (S=(5,z,[],[])):=A5 (by rw [j4.out,if_pos (by have:=Y9t ht;omega)])
    clear hT ht
    go_wp2_with fail
    refine HT.out.mono ?_
    rintro e' w6 ⟨rfl,d⟩
    have H8:=A5 d.drop.drop.drop
    have H9:=A5 (d.fourth.drop.third.drop)
    clear d HT HH
    go_wp2
    go_ret
    exact ⟨by rw [b.out];rfl,.inr ⟨by rw [b.out];exact fun h=>(by cases h),p,li,di,by rw [b.out];exact H9.out⟩⟩
   | some v=>
    obtain ⟨a7,b4⟩:=M2 ht
    have A7:v < 8:=by rw [b4];exact L8 d3.out p 3
    have hT:=X9 B o 0 r kk s bo bc m p 3 v (M:Int) li di lc dc tk all HH.out ht d3.out (by omega) (by decide)
    rw [h3] at hT
    unfold S4 at hT
    have HT:=A5 hT
    have k7:p+3≤m:=by rw [HM.out];exact a7
    obtain ⟨ov,j9⟩:∃ov,ov=M5[i]?.getD 0:=⟨_,rfl⟩
    have l5:ov < 19:=by rw [j9];exact V1z i (by omega)
    have t4:Hid (F6 all z (i+1)=(F6 all z i).set ov (v:Int)):=A5 (by rw [F6,←j9,←hp,←b4])
    have n6:Hid (Z1g all z (i+1)=(Z1g all z i || decide (0 < v))):=A5 (by rw [Z1g,←hp,←b4])
    have n7:=V0h i ov (by omega) j9
    have A8:(0:Int)≤(v:Int):=T00 _
    have x3:(0:Int)≤(ov:Int):=T00 _
    have s0:(ov:Int) < 19:=by omega
    clear hT ht a7 b4 j9
    go_wp2_with fail
    refine HT.out.mono ?_
    rintro e' w6 ⟨rfl,d⟩
    obtain ⟨gh,oh,r3,j0,r4,l0⟩:=d.drop.drop.own.site (by omega)
    simp only [Option.some.injEq,Addr.mk.injEq,and_true] at r3
    obtain ⟨rfl,rfl⟩:=r3
    obtain ⟨C5,C6,r5,f3⟩:=d.drop.drop.drop.rdv.spot (by omega)
    simp only [Option.some.injEq,Addr.mk.injEq,and_true] at r5
    obtain ⟨rfl,rfl⟩:=r5
    have k1:=f3 i _ n7
    rw [T0a] at k1
    have t5:(F6 all z i).length=19:=V3 all z i
    obtain ⟨y,hy⟩:∃y,(F6 all z i)[ov]?=some y:=⟨(F6 all z i)[ov]'(by omega),T05 _⟩
    have k2:=j0 ov (.int .i64 y) (by rw [G5,hy];rfl)
    have k3:=r4 ov
    rw [T0a] at k2 k3
    have h9:=d.third.putOwn (l0 ov (.int .i64 (v:Int)) l5) (E5.set w6 (OB+1) (0+ov) _)
    rw [←W0z,←t4.out,T0a] at h9
    have H9:=A5 h9.swap.third.swap
    clear d HT HH j0 r4 l0 f3 hy h9 n7 t5
    have c4:Z1g all z i=true∨Z1g all z i=false:=by cases Z1g all z i <;> simp
    rcases c4 with c4 | c4
    ·rw [c4]
     have g6:Hid (Z1g all z (i+1)=true):=A5 (by rw [n6.out,c4];rfl)
     go_wp2
     go_roundg (gk-1)
     case measure=>omega
     case rel=>exact ⟨i+1,p+3,by omega,by omega,by go_num,by rw [g6.out],by omega,k7,H9⟩
    rw [c4]
    have g6:Hid (Z1g all z (i+1)=decide (0 < v)):=A5 (by rw [n6.out,c4];rfl)
    go_wp2
    go_roundg (gk-1)
    case measure=>omega
    case rel=>exact ⟨i+1,p+3,by omega,by omega,by go_num,by rw [g6.out],by omega,k7,H9⟩
  have t3:¬(i:Int) < (C:Int):=by omega
  obtain rfl:i=C:=by omega
  have e2:Hid (¬(D0 (F6 all z i) 7=0∧Z1g all z i=true)→S=(3,p,[],[])):=A5 (fun h=>by
   rw [j4.out,if_neg (by rw [←HM.out];omega),if_pos,hp]
   by_cases h1:D0 (F6 all z i) 7=0
   ·right
    cases h2:Z1g all z i with
    | false=>rfl
    | true=>exact absurd ⟨h1,h2⟩ h
   exact .inl h1)
  have g7:Hid (D0 (F6 all z i) 7=0→Z1g all z i=true→S=Q5.dynEnd A (Z1m (F6 all z i) all (A+Bn) (m+1) p [])):=A5 (fun h1 h2=>by
   rw [j4.out,if_neg (by rw [←HM.out];omega),if_neg (by rw [h1,h2];simp),←HM.out,hp])
  have l6:(F6 all z i).length=19:=V3 all z i
  have l7:=A5 (fun w1 (hv:Rd w1 1 (.slice (some ⟨OB+1,0,none⟩) 19 19) (F6 all z i).length (D3 (F6 all z i)))=>Z68 (.slice (some ⟨OB+1,0,none⟩) 19 19) (F6 all z i) 7 w1 hv (by omega))
  rw [l6] at l7
  have l8:=A5 l6
  have k8:Hid (D0 (F6 all z i) 7=0→∀y∈F6 all z i,0≤y∧y≤15):=A5 (fun h y hy=>by have:=V0o h y hy;omega)
  generalize F6 all z i=HD at*
  generalize Z1g all z i=any at*
  clear l6 j4
  have n8:=HH.out.drop.drop.own.rd
  have d5:=A5 (l7.out wr n8)
  have q:=HH.out.obj
  have d1:=q.cell (i:=1) rfl
  have g1:=q.frozen 1
  clear n8 l7 q
  generalize C0:D0 HD 7=ck at*
  by_cases b9:ck=0∧any=true
  rotate_left
  ·have b:=A5 (e2.out b9)
   have c4:(ck≠0)∨(ck=0∧any=false):=by
    by_cases h:ck=0
    ·exact .inr ⟨h,by cases any with | false=>rfl | true=>exact absurd ⟨h,rfl⟩ b9⟩
    exact .inl h
   clear e2 g7 b9
   rcases c4 with c4 | ⟨rfl,rfl⟩
   ·have b7:((ck:Int) != 0)=true:=by simp;exact c4
    clear c4
    go_wp2_with fail
    refine d5.out.mono ?_
    rintro e' w6 ⟨rfl,rfl⟩
    have H9:=A5 ((HH.out.setObj 1 (.int .i64 3)).fourth.drop.third.drop)
    go_wp2
    go_ret
    exact ⟨by rw [b.out];rfl,.inr ⟨by rw [b.out];exact fun h=>(by cases h),p,li,di,by rw [b.out];exact H9.out⟩⟩
   go_wp2_with fail
   refine d5.out.mono ?_
   rintro e' w6 ⟨rfl,rfl⟩
   have H9:=A5 ((HH.out.setObj 1 (.int .i64 3)).fourth.drop.third.drop)
   go_wp2
   go_ret
   exact ⟨by rw [b.out];rfl,.inr ⟨by rw [b.out];exact fun h=>(by cases h),p,li,di,by rw [b.out];exact H9.out⟩⟩
  obtain ⟨rfl,rfl⟩:=b9
  have n9:=A5 (k8.out rfl)
  have o0:=A5 (g7.out rfl rfl)
  have o1:=A5 (Y3j HH.out (.slice (some ⟨OB+1,0,none⟩) 19 19) HD 19 HH.out.drop.drop.own.rd l8.out.symm (by decide))
  obtain ⟨N0,m4⟩:∃N0,N0=A+Bn:=⟨_,rfl⟩
  have x5:(A:Int)+(Bn:Int)=(N0:Int):=by omega
  have x6:(0:Int)≤(N0:Int):=T00 _
  have x7:N0≤316:=by omega
  rw [←m4] at o0
  have t6:=A5 m4
  clear e2 g7 k8 m4
  go_wp2_with fail
  refine d5.out.mono ?_
  rintro e' w6 ⟨rfl,rfl⟩
  go_wp2_with fail
  refine o1.out.mono ?_
  rintro e' w7 ⟨cv,rfl,d⟩
  obtain ⟨co,cc,rfl,_,_⟩:=d.own.form
  have H8:=A5 ((d.swap.third.swap.nil 3 1).swap.third.swap)
  clear d d5 o1 HH d1 g1
  go_wp2
  go_loopg [16] (m+3) (fun g t16 wr=>∃ (p n f:Nat) (L:List Int) (lo:Option Addr) (l:Nat),p≤m∧m-p < f∧f < g∧n≤N0∧t16= .slice lo n l∧Hid (n=L.length∧S=Q5.dynEnd A (Z1m HD all N0 f p L))∧Hid (A4 w0 wr (S2 B o 0 r kk s (.slice bo m bc) p (M:Int) li di lc dc tk::rdT 1 (.slice bo m bc) m (D9 all)::B0 3 1 (.slice lo n l) n (D3 L)::B0 44 1 (.slice co 19 cc) 19 (D5 .u32 (G1 HD))::B0 3 1 (.slice (some ⟨OB+1,0,none⟩) 19 19) 19 (D3 HD)::rdT 1 (.slice (some ⟨OB,0,none⟩) 19 19) 19 (D3 [16,17,18,0,8,7,9,6,10,5,11,4,12,3,13,2,14,1,15])::Rs)))
  case atStart=>exact ⟨p,0,m+1,[],none,0,by omega,by omega,by omega,by omega,rfl,A5 ⟨rfl,o0.out⟩,H8⟩
  case round=>
   obtain ⟨p,n,f,L,lo,l,r2,C7,C8,C9,rfl,HO,HQ⟩:=hrel
   obtain ⟨gx,rfl⟩:∃g,g=gk:=⟨gk,rfl⟩
   have B1:(0:Int)≤(n:Int):=T00 _
   obtain ⟨f,rfl⟩:∃f',f=f'+1:=⟨f-1,by omega⟩
   by_cases C1:n < N0
   rotate_left
   ·have t7:¬(n:Int) < (N0:Int):=by omega
    obtain rfl:n=N0:=by omega
    have o7:S=Q5.dynEnd A (0,p,L):=by rw [HO.out.2,Z8f (by rw [←HO.out.1];exact T06 _)]
    have u2:=HQ.out.third.own.le
    have o8:A≤n:=by have:=t6.out;omega
    have o9:256 < A:=by omega
    have B6:∀wg,(Instr.sliceAt 52 (.slice lo n l) none (some (.int .i64 (A:Int))) none).run Tryz.prog wg= .ok (.slice lo A l) wg:=fun wg=>by
     rw [←Z14 lo A l 1 HQ.out.third.own.spotless]
     exact O0 52 3 i0 1 Tryz.underlying52 e5 e6 lo n l 0 A _ _ rfl ⟨_,rfl⟩ (by omega) (by omega)
    have p0:∀wg,(Instr.sliceAt 52 (.slice lo n l) (some (.int .i64 (A:Int))) none none).run Tryz.prog wg= .ok (sliced lo A n l 1) wg:=fun wg=>
     O0 52 3 i0 1 Tryz.underlying52 e5 e6 lo n l A n _ _ ⟨_,rfl⟩ rfl o8 u2
    have h2:=HQ.out.third.cut2 A o8
    have p2:(D3 L).take A=D3 (L.take A):=by simp [D3,List.map_take]
    have p3:(D3 L).drop A=D3 (L.drop A):=by simp [D3,List.map_drop]
    rw [p2,p3] at h2
    have a7:(L.take A).length=A:=by rw [List.length_take,←HO.out.1];omega
    have i5:(L.drop A).length=n-A:=by rw [T04,←HO.out.1]
    unfold sliced at p0 h2
    generalize (if l=A then lo else lo.map fun (x:Addr)=>x.add (A*1))=lb at p0 h2
    have h3:=((h2.swap.setObj 8 (.slice lo A l)).setObj 9 (.slice lb (n-A) (l-A)))
    have q:=HQ.out.obj
    have c8:=q.cell (i:=8) rfl
    have c9:=q.cell (i:=9) rfl
    have f8:=q.frozen 8
    have f9:=q.frozen 9
    have H3:=A5 h3
    obtain ⟨y,hy⟩:∃y,L[256]?=some y:=⟨L[256]'(by have:=HO.out.1;omega),T05 _⟩
    obtain ⟨gl,ol,rfl,f6⟩:=h3.swap.rdv2.1.spot (by omega)
    have B7:=f6 256 (.int .i64 y) (by rw [G5,List.getElem?_take_of_lt o9,hy];rfl)
    have d5:=A5 (Z68 (.slice (some ⟨gl,ol,none⟩) A l) (L.take A) 15 _ (by rw [a7];exact h3.swap.rdv2.1) (by omega))
    have m1:=A5 (Z68 (.slice lb (n-A) (l-A)) (L.drop A) 15 _ (by rw [i5];exact h3.swap.rdv2.2) (by omega))
    have p4:S=if D0 (L.take A) 15≠0∨D0 (L.drop A) 15≠0∨y=0 then (3,p,L.take A,L.drop A) else (0,p,L.take A,L.drop A):=by
     rw [o7];unfold Q5.dynEnd
     dsimp only
     rw [if_neg (fun h=>h rfl),hy,Option.getD_some]
    have p5:=A5 (And.intro a7 i5)
    have d7:=A5 p4
    have i6:=h3.obj
    have e1:=i6.cell (i:=1) rfl
    have e8:=i6.cell (i:=8) rfl
    have e9:=i6.cell (i:=9) rfl
    have k1:=i6.frozen 1
    generalize C2:D0 (L.take A) 15=q1' at*
    generalize C3:D0 (L.drop A) 15=q2' at*
    have s2:(256:Int) < (A:Int):=by omega
    clear o7 h2 p2 p3 a7 i5 h3 q i6 hy f6 p4 HQ
    by_cases f0:q1'=0
    rotate_left
    ·have b7:((q1':Int) != 0)=true:=by simp;exact f0
     have b:Hid (S=(3,p,L.take A,L.drop A)):=A5 (by rw [d7.out,if_pos (.inl f0)])
     clear f0
     go_wp2_with fail
     refine d5.out.mono ?_
     rintro e' w8 ⟨rfl,rfl⟩
     go_wp2
     go_ret
     exact ⟨by rw [b.out];rfl,.inr ⟨by rw [b.out];exact fun h=>(by cases h),p,_,_,by rw [b.out];exact (H3.out.setObj 1 (.int .i64 3)).swap.drop.third.drop.third.drop.third.drop⟩⟩
    subst f0
    by_cases f2:q2'=0
    ·subst f2
     by_cases j7:y=0
     ·subst j7
      have b:Hid (S=(3,p,L.take A,L.drop A)):=A5 (by rw [d7.out,if_pos (by simp)])
      go_wp2_with fail
      refine d5.out.mono ?_
      rintro e' w8 ⟨rfl,rfl⟩
      go_wp2_with fail
      refine m1.out.mono ?_
      rintro e' w8 ⟨rfl,rfl⟩
      go_wp2
      go_ret
      exact ⟨by rw [b.out];rfl,.inr ⟨by rw [b.out];exact fun h=>(by cases h),p,_,_,by rw [b.out];exact (H3.out.setObj 1 (.int .i64 3)).swap.drop.third.drop.third.drop.third.drop⟩⟩
     have B8:(y==0)=false:=by simp;exact j7
     have b:Hid (S=(0,p,L.take A,L.drop A)):=A5 (by rw [d7.out,if_neg (by simp;exact j7)])
     clear j7
     go_wp2_with fail
     refine d5.out.mono ?_
     rintro e' w8 ⟨rfl,rfl⟩
     go_wp2_with fail
     refine m1.out.mono ?_
     rintro e' w8 ⟨rfl,rfl⟩
     go_wp2
     go_ret
     exact ⟨by rw [b.out];rfl,.inl ⟨by rw [b.out],_,_,by rw [b.out];simp only [p5.out.1,p5.out.2];exact (H3.out.third.swap.fourth.drop.fourth.drop.fourth.drop.swap.third.swap.third)⟩⟩
    have b7:((q2':Int) != 0)=true:=by simp;exact f2
    have b:Hid (S=(3,p,L.take A,L.drop A)):=A5 (by rw [d7.out,if_pos (.inr (.inl f2))])
    clear f2
    go_wp2_with fail
    refine d5.out.mono ?_
    rintro e' w8 ⟨rfl,rfl⟩
    go_wp2_with fail
    refine m1.out.mono ?_
    rintro e' w8 ⟨rfl,rfl⟩
    go_wp2
    go_ret
    exact ⟨by rw [b.out];rfl,.inr ⟨by rw [b.out];exact fun h=>(by cases h),p,_,_,by rw [b.out];exact (H3.out.setObj 1 (.int .i64 3)).swap.drop.third.drop.third.drop.third.drop⟩⟩
   have t7:(n:Int) < (N0:Int):=by omega
   have a6:Hid (¬N0≤L.length):=A5 (by rw [←HO.out.1];omega)
   obtain ⟨⟨ks,ns,es⟩,g4⟩:∃sy,I7 HD (all.drop p)=sy:=⟨_,rfl⟩
   have HC:=Y00 B o 0 r kk s bo bc m p (M:Int) li di lc dc tk all (.slice (some ⟨OB+1,0,none⟩) 19 19) (.slice co 19 cc) HD 19 HQ.out HQ.out.drop.drop.drop.drop.own.rd HQ.out.drop.drop.drop.own.rd l8.out.symm n9.out (by decide) d3.out r2 hm2
   rw [g4] at HC
   simp only at HC
   unfold S4 at HC
   by_cases g0:es=0
   rotate_left
   ·have a1:=A5 (HC.mono fun _ _ h=>(h.resolve_left fun h=>g0 h.1).2)
    have b:Hid (S=(es,p,[],[])∧es≠0):=A5 ⟨by rw [HO.out.2,Z0b a6.out (Z8o g4 g0)];unfold Q5.dynEnd;exact if_pos g0,g0⟩
    clear g4 HC g0
    go_wp2_with fail
    refine a1.out.mono ?_
    rintro e' w8 ⟨rfl,d⟩
    have g8:=A5 d
    clear d a1 HQ
    go_wp2
    go_ret
    exact ⟨by rw [b.out.1];simp [b.out.2],.inr ⟨by rw [b.out.1];exact b.out.2,p,li,di,by rw [b.out.1];exact g8.out.third.drop.third.drop.third.drop.third.drop⟩⟩
   subst g0
   obtain ⟨u5,u6,r6⟩:=P7 g4
   rw [l8.out] at u5
   rw [T04,←HM.out] at r6
   have a1:=A5 (HC.mono fun _ _ h=>(h.resolve_right fun h=>h.1 rfl).2)
   obtain ⟨p1,m5⟩:∃p1,p1=p+ns:=⟨_,rfl⟩
   rw [←m5] at a1
   have o2:p1≤m:=by omega
   have B2:p+1≤p1:=by omega
   have x8:(0:Int)≤(ks:Int):=T00 _
   have a8:Hid (E7 HD all N0 p L=E7.lenRun all N0 p1 ks L):=A5 (by rw [Z54 g4,m5])
   clear g4 HC r6 u6 m5
   by_cases p7:ks < 16
   ·have t8:(ks:Int) < 16:=by omega
    have b:Hid (S=Q5.dynEnd A (Z1m HD all N0 f p1 (L++[(ks:Int)]))):=A5 (by rw [HO.out.2,Z2x a6.out (by rw [a8.out];exact X1n p7)])
    go_wp2_with fail
    refine a1.out.mono ?_
    rintro e' w8 ⟨rfl,d⟩
    have g8:=A5 d
    clear d a1 HQ
    go_wp2_with (refine D6 rfl (.tmp 124) (.tmp 126) 52 rfl 3 i0 (.int .i64 0) 1 8 Tryz.underlying52 e5 i7 e6 i8 rfl (by decide) _ n _ rfl (g8.out.third.alloc _) _ 1 (D3 [(ks:Int)]) rfl (Rd.lit _ [_] _ 1 1 (by decide) rfl) (S6 _) (n+1) rfl (by unfold maxLen;omega) (by omega) ?_;intro m2 e4 w9 h9;rw [←T7] at h9;have H9:=A5 (h9.swap.third.swap);clear h9)
    go_roundg (gx-1)
    case measure=>omega
    case rel=>exact ⟨p1,n+1,f,L++[(ks:Int)],_,_,o2,by omega,by omega,by omega,rfl,A5 ⟨by rw [T02,←HO.out.1];rfl,b.out⟩,H9⟩
   have t8:¬(ks:Int) < 16:=by omega
   rcases (by omega:ks=16∨ks=17∨ks=18) with rfl | rfl | rfl
   ·by_cases p8:n=0
    ·subst p8
     have t9:Hid (L=[]):=A5 (T0f HO.out.1.symm)
     have b:Hid (S=(2,p1,[],[])):=A5 (by rw [HO.out.2,Z0b a6.out (by rw [a8.out];exact X6n rfl t9.out)];rfl)
     go_wp2_with fail
     refine a1.out.mono ?_
     rintro e' w8 ⟨rfl,d⟩
     have q:=d.obj
     have d1:=q.cell (i:=1) rfl
     have g1:=q.frozen 1
     have g8:=A5 d
     clear d a1 HQ q
     go_wp2
     go_ret
     exact ⟨by rw [b.out];rfl,.inr ⟨by rw [b.out];exact fun h=>(by cases h),p1,li,di,by rw [b.out];exact (g8.out.setObj 1 (.int .i64 2)).third.drop.third.drop.third.drop.third.drop⟩⟩
    have u0:1≤n:=by omega
    have o3:((16:Int)==16)=true:=by decide
    have B3:((n:Int)==0)=false:=by simp;omega
    have B4:decide (n=0)=false:=decide_eq_false (by omega)
    have a3:Hid (¬((16:Nat)=16∧L=[])):=A5 (fun h=>by have h1:=HO.out.1;rw [h.2] at h1;simp at h1;omega)
    obtain ⟨y,hy⟩:∃y,L[n-1]?=some y:=⟨L[n-1]'(by have:=HO.out.1;omega),T05 _⟩
    obtain ⟨qn,m6⟩:∃qn,qn=n-1:=⟨_,rfl⟩
    have x9:(n:Int)-1=(qn:Int):=by omega
    have y0:(0:Int)≤(qn:Int):=T00 _
    have y1:(qn:Int) < (n:Int):=by omega
    rw [←m6] at hy
    obtain ⟨gl,ol,rfl,_,_,_⟩:=HQ.out.drop.drop.own.site (by omega)
    have HY:Hid (L[qn]?=some y∧L.getLast?.getD 0=y∧qn < n):=A5 ⟨hy,by rw [List.getLast?_eq_getElem?,←HO.out.1,←m6,hy];rfl,by omega⟩
    clear m6 hy
    cases ht:I8 all p1 2 with
    | none=>
     have hT:=fun w1 (d:A4 w0 w1 (S2 B o 0 r kk s (.slice bo m bc) p1 (M:Int) li di lc dc tk::rdT 1 (.slice bo m bc) m (D9 all)::B0 3 1 (.slice (some ⟨gl,ol,none⟩) n l) n (D3 L)::B0 44 1 (.slice co 19 cc) 19 (D5 .u32 (G1 HD))::B0 3 1 (.slice (some ⟨OB+1,0,none⟩) 19 19) 19 (D3 HD)::rdT 1 (.slice (some ⟨OB,0,none⟩) 19 19) 19 (D3 [16,17,18,0,8,7,9,6,10,5,11,4,12,3,13,2,14,1,15])::Rs))=>Z51 B o 0 r kk s bo bc m p1 2 (M:Int) li di lc dc tk all d ht (by omega) (by decide)
     rw [show ((2:Nat):Int)=2 from rfl] at hT
     unfold S4 at hT
     have HT:=A5 hT
     have b:Hid (S=(5,p1,[],[])):=A5 (by rw [HO.out.2,Z0b a6.out (by rw [a8.out];exact Y5c (wd:=2) (by decide) a3.out (by decide) ht)];rfl)
     clear hT ht
     go_wp2_with fail
     refine a1.out.mono ?_
     rintro e' w8 ⟨rfl,d⟩
     have t:=A5 (HT.out w8 d)
     clear d a1 HQ HT
     go_wp2_with fail
     refine t.out.mono ?_
     rintro e' w9 ⟨rfl,d⟩
     have H9:=A5 d
     clear d t
     go_wp2
     go_ret
     exact ⟨by rw [b.out];rfl,.inr ⟨by rw [b.out];exact fun h=>(by cases h),p1,li,di,by rw [b.out];exact H9.out.third.drop.third.drop.third.drop.third.drop⟩⟩
    | some more=>
     obtain ⟨a7,b4⟩:=M2 ht
     have a9:more < 2^2:=by rw [b4];exact L8 d3.out p1 2
     have hT:=fun w1 (d:A4 w0 w1 (S2 B o 0 r kk s (.slice bo m bc) p1 (M:Int) li di lc dc tk::rdT 1 (.slice bo m bc) m (D9 all)::B0 3 1 (.slice (some ⟨gl,ol,none⟩) n l) n (D3 L)::B0 44 1 (.slice co 19 cc) 19 (D5 .u32 (G1 HD))::B0 3 1 (.slice (some ⟨OB+1,0,none⟩) 19 19) 19 (D3 HD)::rdT 1 (.slice (some ⟨OB,0,none⟩) 19 19) 19 (D3 [16,17,18,0,8,7,9,6,10,5,11,4,12,3,13,2,14,1,15])::Rs))=>X9 B o 0 r kk s bo bc m p1 2 more (M:Int) li di lc dc tk all d ht d3.out (by omega) (by decide)
     rw [show ((2:Nat):Int)=2 from rfl] at hT
     unfold S4 at hT
     have HT:=A5 hT
     have o4:more≤128:=by omega
     have e7:(0:Int)≤(more:Int):=T00 _
     obtain ⟨k,b3⟩:∃k,k=3+more:=⟨_,rfl⟩
     have g9:(3:Int)+(more:Int)=(k:Int):=by omega
     have h0:(0:Int)≤(k:Int):=T00 _
     obtain ⟨tot,c3⟩:∃tot,tot=n+k:=⟨_,rfl⟩
     have h6:(n:Int)+(k:Int)=(tot:Int):=by omega
     have h7:(0:Int)≤(tot:Int):=T00 _
     have d8:p1+2≤m:=by rw [HM.out];exact a7
     have h8:k≤140:=by omega
     by_cases a2:N0 < tot
     ·have i1:(N0:Int) < (tot:Int):=by omega
      have b:Hid (S=(2,p1+2,[],[])):=A5 (by rw [HO.out.2,Z0b a6.out (by rw [a8.out];exact Y1o (wd:=2) (ba:=3) (by decide) a3.out (by decide) (by decide) ht (by rw [←HO.out.1];omega))];rfl)
      clear hT ht b3 c3 a7 b4 a9
      go_wp2_with fail
      refine a1.out.mono ?_
      rintro e' w8 ⟨rfl,d⟩
      have t:=A5 (HT.out w8 d)
      clear d a1 HQ HT
      go_wp2_with fail
      refine t.out.mono ?_
      rintro e' w9 ⟨rfl,d⟩
      have q:=d.obj
      have d1:=q.cell (i:=1) rfl
      have g1:=q.frozen 1
      obtain ⟨u7,u8,d9,e0,_,_⟩:=d.drop.drop.own.site (by omega)
      simp only [Option.some.injEq,Addr.mk.injEq,and_true] at d9
      obtain ⟨rfl,rfl⟩:=d9
      have l1:=e0 qn _ (by rw [G5,HY.out.1];rfl)
      clear e0
      have H9:=A5 d
      clear d t q
      go_wp2
      go_ret
      exact ⟨by rw [b.out];rfl,.inr ⟨by rw [b.out];exact fun h=>(by cases h),p1+2,li,di,by rw [b.out];exact (H9.out.setObj 1 (.int .i64 2)).third.drop.third.drop.third.drop.third.drop⟩⟩
     have i1:decide ((N0:Int) < (tot:Int))=false:=decide_eq_false (by omega)
     have k9:decide (N0 < tot)=false:=decide_eq_false (by omega)
     have b:Hid (S=Q5.dynEnd A (Z1m HD all N0 f (p1+2) (L++T01 k y))):=A5 (by rw [HO.out.2,Z2x a6.out (by rw [a8.out];exact Z87 (wd:=2) (ba:=3) (by decide) a3.out (by decide) (by decide) ht (by rw [←HO.out.1];omega)),b3];rw [if_pos rfl,HY.out.2.1])
     have c7:n+k≤N0:=by omega
     have i2:=A5 HO.out.1
     clear hT ht b3 c3 a7 b4 a9 a2
     go_wp2_with fail
     refine a1.out.mono ?_
     rintro e' w8 ⟨rfl,d⟩
     have t:=A5 (HT.out w8 d)
     clear d a1 HQ HT
     go_wp2_with fail
     refine t.out.mono ?_
     rintro e' w9 ⟨rfl,d⟩
     obtain ⟨u7,u8,d9,e0,_,_⟩:=d.drop.drop.own.site (by omega)
     simp only [Option.some.injEq,Addr.mk.injEq,and_true] at d9
     obtain ⟨rfl,rfl⟩:=d9
     have l1:=e0 qn _ (by rw [G5,HY.out.1];rfl)
     clear e0
     have H9:Hid (A4 w0 w9 (S2 B o 0 r kk s (.slice bo m bc) (p1+2) (M:Int) li di lc dc tk::rdT 1 (.slice bo m bc) m (D9 all)::B0 3 1 (.slice (some ⟨gl,ol,none⟩) (n+0) l) (n+0) (D3 (L++T01 0 y))::B0 44 1 (.slice co 19 cc) 19 (D5 .u32 (G1 HD))::B0 3 1 (.slice (some ⟨OB+1,0,none⟩) 19 19) 19 (D3 HD)::rdT 1 (.slice (some ⟨OB,0,none⟩) 19 19) 19 (D3 [16,17,18,0,8,7,9,6,10,5,11,4,12,3,13,2,14,1,15])::Rs)):=A5 (by rw [T0b,T07];exact d)
     clear d t
     go_wp2
     go_loopg [16,24] (k+2) (fun g t16 t24 wr=>∃ (j:Nat) (d0:Option Addr) (a4:Nat),j≤k∧k-j < g∧t24= .int .i64 (j:Int)∧t16= .slice d0 (n+j) a4∧Hid (A4 w0 wr (S2 B o 0 r kk s (.slice bo m bc) (p1+2) (M:Int) li di lc dc tk::rdT 1 (.slice bo m bc) m (D9 all)::B0 3 1 (.slice d0 (n+j) a4) (n+j) (D3 (L++T01 j y))::B0 44 1 (.slice co 19 cc) 19 (D5 .u32 (G1 HD))::B0 3 1 (.slice (some ⟨OB+1,0,none⟩) 19 19) 19 (D3 HD)::rdT 1 (.slice (some ⟨OB,0,none⟩) 19 19) 19 (D3 [16,17,18,0,8,7,9,6,10,5,11,4,12,3,13,2,14,1,15])::Rs)))
     case atStart=>exact ⟨0,_,_,by omega,by omega,rfl,rfl,H9⟩
     case round=>
      obtain ⟨j,d0,a4,hj,r9,rfl,rfl,HJ⟩:=hrel
      have o5:(0:Int)≤(j:Int):=T00 _
      by_cases p9:j < k
      ·have i3:(j:Int) < (k:Int):=by omega
       have HX:Hid (L++T01 (j+1) y=L++T01 j y++[y]):=A5 (by rw [T0c,T0d])
       go_wp2_with (refine D6 rfl (.tmp 177) (.tmp 179) 52 rfl 3 i0 (.int .i64 0) 1 8 Tryz.underlying52 e5 i7 e6 i8 rfl (by decide) _ (n+j) _ rfl (HJ.out.third.alloc _) _ 1 (D3 [y]) rfl (Rd.lit _ [_] _ 1 1 (by decide) rfl) (S6 _) (n+j+1) rfl (by unfold maxLen;omega) (by omega) ?_;intro m2 e4 q9 h9;rw [←T7,←HX.out] at h9;have i4:=A5 (h9.swap.third.swap);clear h9)
       go_roundg (gk-1)
       case measure=>omega
       case rel=>exact ⟨j+1,_,_,by omega,by omega,by go_num,rfl,i4⟩
      have i3:¬(j:Int) < (k:Int):=by omega
      obtain rfl:j=k:=by omega
      go_wp2
      go_roundg (gx-1)
      case measure=>omega
      case rel=>exact ⟨p1+2,n+j,f,_,_,_,d8,by omega,by omega,c7,rfl,A5 ⟨by rw [T02,T0e,←i2.out],b.out⟩,HJ⟩
   ·have o3:((17:Int)==16)=false:=by decide
    have a3:Hid (¬((17:Nat)=16∧L=[])):=A5 (fun h=>absurd h.1 (by decide))
    cases ht:I8 all p1 3 with
    | none=>
     have hT:=fun w1 (d:A4 w0 w1 (S2 B o 0 r kk s (.slice bo m bc) p1 (M:Int) li di lc dc tk::rdT 1 (.slice bo m bc) m (D9 all)::B0 3 1 (.slice lo n l) n (D3 L)::B0 44 1 (.slice co 19 cc) 19 (D5 .u32 (G1 HD))::B0 3 1 (.slice (some ⟨OB+1,0,none⟩) 19 19) 19 (D3 HD)::rdT 1 (.slice (some ⟨OB,0,none⟩) 19 19) 19 (D3 [16,17,18,0,8,7,9,6,10,5,11,4,12,3,13,2,14,1,15])::Rs))=>Z51 B o 0 r kk s bo bc m p1 3 (M:Int) li di lc dc tk all d ht (by omega) (by decide)
     rw [show ((3:Nat):Int)=3 from rfl] at hT
     unfold S4 at hT
     have HT:=A5 hT
     have b:Hid (S=(5,p1,[],[])):=A5 (by rw [HO.out.2,Z0b a6.out (by rw [a8.out];exact Y5c (wd:=3) (by decide) a3.out (by decide) ht)];rfl)
     clear hT ht
     go_wp2_with fail
     refine a1.out.mono ?_
     rintro e' w8 ⟨rfl,d⟩
     have t:=A5 (HT.out w8 d)
     clear d a1 HQ HT
     go_wp2_with fail
     refine t.out.mono ?_
     rintro e' w9 ⟨rfl,d⟩
     have H9:=A5 d
     clear d t
     go_wp2
     go_ret
     exact ⟨by rw [b.out];rfl,.inr ⟨by rw [b.out];exact fun h=>(by cases h),p1,li,di,by rw [b.out];exact H9.out.third.drop.third.drop.third.drop.third.drop⟩⟩
    | some more=>
     obtain ⟨a7,b4⟩:=M2 ht
     have a9:more < 2^3:=by rw [b4];exact L8 d3.out p1 3
     have hT:=fun w1 (d:A4 w0 w1 (S2 B o 0 r kk s (.slice bo m bc) p1 (M:Int) li di lc dc tk::rdT 1 (.slice bo m bc) m (D9 all)::B0 3 1 (.slice lo n l) n (D3 L)::B0 44 1 (.slice co 19 cc) 19 (D5 .u32 (G1 HD))::B0 3 1 (.slice (some ⟨OB+1,0,none⟩) 19 19) 19 (D3 HD)::rdT 1 (.slice (some ⟨OB,0,none⟩) 19 19) 19 (D3 [16,17,18,0,8,7,9,6,10,5,11,4,12,3,13,2,14,1,15])::Rs))=>X9 B o 0 r kk s bo bc m p1 3 more (M:Int) li di lc dc tk all d ht d3.out (by omega) (by decide)
     rw [show ((3:Nat):Int)=3 from rfl] at hT
     unfold S4 at hT
     have HT:=A5 hT
     have o4:more≤128:=by omega
     have e7:(0:Int)≤(more:Int):=T00 _
     obtain ⟨k,b3⟩:∃k,k=3+more:=⟨_,rfl⟩
     have g9:(3:Int)+(more:Int)=(k:Int):=by omega
     have h0:(0:Int)≤(k:Int):=T00 _
     obtain ⟨tot,c3⟩:∃tot,tot=n+k:=⟨_,rfl⟩
     have h6:(n:Int)+(k:Int)=(tot:Int):=by omega
     have h7:(0:Int)≤(tot:Int):=T00 _
     have d8:p1+3≤m:=by rw [HM.out];exact a7
     have h8:k≤140:=by omega
     by_cases a2:N0 < tot
     ·have i1:(N0:Int) < (tot:Int):=by omega
      have b:Hid (S=(2,p1+3,[],[])):=A5 (by rw [HO.out.2,Z0b a6.out (by rw [a8.out];exact Y1o (wd:=3) (ba:=3) (by decide) a3.out (by decide) (by decide) ht (by rw [←HO.out.1];omega))];rfl)
      clear hT ht b3 c3 a7 b4 a9
      go_wp2_with fail
      refine a1.out.mono ?_
      rintro e' w8 ⟨rfl,d⟩
      have t:=A5 (HT.out w8 d)
      clear d a1 HQ HT
      go_wp2_with fail
      refine t.out.mono ?_
      rintro e' w9 ⟨rfl,d⟩
      have q:=d.obj
      have d1:=q.cell (i:=1) rfl
      have g1:=q.frozen 1
      have H9:=A5 d
      clear d t q
      go_wp2
      go_ret
      exact ⟨by rw [b.out];rfl,.inr ⟨by rw [b.out];exact fun h=>(by cases h),p1+3,li,di,by rw [b.out];exact (H9.out.setObj 1 (.int .i64 2)).third.drop.third.drop.third.drop.third.drop⟩⟩
     have i1:decide ((N0:Int) < (tot:Int))=false:=decide_eq_false (by omega)
     have k9:decide (N0 < tot)=false:=decide_eq_false (by omega)
     have b:Hid (S=Q5.dynEnd A (Z1m HD all N0 f (p1+3) (L++T01 k 0))):=A5 (by rw [HO.out.2,Z2x a6.out (by rw [a8.out];exact Z87 (wd:=3) (ba:=3) (by decide) a3.out (by decide) (by decide) ht (by rw [←HO.out.1];omega)),b3];rfl)
     have c7:n+k≤N0:=by omega
     have i2:=A5 HO.out.1
     clear hT ht b3 c3 a7 b4 a9 a2
     go_wp2_with fail
     refine a1.out.mono ?_
     rintro e' w8 ⟨rfl,d⟩
     have t:=A5 (HT.out w8 d)
     clear d a1 HQ HT
     go_wp2_with fail
     refine t.out.mono ?_
     rintro e' w9 ⟨rfl,d⟩
     have H9:Hid (A4 w0 w9 (S2 B o 0 r kk s (.slice bo m bc) (p1+3) (M:Int) li di lc dc tk::rdT 1 (.slice bo m bc) m (D9 all)::B0 3 1 (.slice lo (n+0) l) (n+0) (D3 (L++T01 0 0))::B0 44 1 (.slice co 19 cc) 19 (D5 .u32 (G1 HD))::B0 3 1 (.slice (some ⟨OB+1,0,none⟩) 19 19) 19 (D3 HD)::rdT 1 (.slice (some ⟨OB,0,none⟩) 19 19) 19 (D3 [16,17,18,0,8,7,9,6,10,5,11,4,12,3,13,2,14,1,15])::Rs)):=A5 (by rw [T0b,T07];exact d)
     clear d t
     go_wp2
     go_loopg [16,24] (k+2) (fun g t16 t24 wr=>∃ (j:Nat) (d0:Option Addr) (a4:Nat),j≤k∧k-j < g∧t24= .int .i64 (j:Int)∧t16= .slice d0 (n+j) a4∧Hid (A4 w0 wr (S2 B o 0 r kk s (.slice bo m bc) (p1+3) (M:Int) li di lc dc tk::rdT 1 (.slice bo m bc) m (D9 all)::B0 3 1 (.slice d0 (n+j) a4) (n+j) (D3 (L++T01 j 0))::B0 44 1 (.slice co 19 cc) 19 (D5 .u32 (G1 HD))::B0 3 1 (.slice (some ⟨OB+1,0,none⟩) 19 19) 19 (D3 HD)::rdT 1 (.slice (some ⟨OB,0,none⟩) 19 19) 19 (D3 [16,17,18,0,8,7,9,6,10,5,11,4,12,3,13,2,14,1,15])::Rs)))
     case atStart=>exact ⟨0,_,_,by omega,by omega,rfl,rfl,H9⟩
     case round=>
      obtain ⟨j,d0,a4,hj,r9,rfl,rfl,HJ⟩:=hrel
      have o5:(0:Int)≤(j:Int):=T00 _
      by_cases p9:j < k
      ·have i3:(j:Int) < (k:Int):=by omega
       have HX:Hid (L++T01 (j+1) 0=L++T01 j 0++[0]):=A5 (by rw [T0c,T0d])
       go_wp2_with (refine D6 rfl (.tmp 177) (.tmp 179) 52 rfl 3 i0 (.int .i64 0) 1 8 Tryz.underlying52 e5 i7 e6 i8 rfl (by decide) _ (n+j) _ rfl (HJ.out.third.alloc _) _ 1 (D3 [0]) rfl (Rd.lit _ [_] _ 1 1 (by decide) rfl) (S6 _) (n+j+1) rfl (by unfold maxLen;omega) (by omega) ?_;intro m2 e4 q9 h9;rw [←T7,←HX.out] at h9;have i4:=A5 (h9.swap.third.swap);clear h9)
       go_roundg (gk-1)
       case measure=>omega
       case rel=>exact ⟨j+1,_,_,by omega,by omega,by go_num,rfl,i4⟩
      have i3:¬(j:Int) < (k:Int):=by omega
      obtain rfl:j=k:=by omega
      go_wp2
      go_roundg (gx-1)
      case measure=>omega
      case rel=>exact ⟨p1+3,n+j,f,_,_,_,d8,by omega,by omega,c7,rfl,A5 ⟨by rw [T02,T0e,←i2.out],b.out⟩,HJ⟩
   have o3:((18:Int)==16)=false:=by decide
   have a3:Hid (¬((18:Nat)=16∧L=[])):=A5 (fun h=>absurd h.1 (by decide))
   cases ht:I8 all p1 7 with
   | none=>
    have hT:=fun w1 (d:A4 w0 w1 (S2 B o 0 r kk s (.slice bo m bc) p1 (M:Int) li di lc dc tk::rdT 1 (.slice bo m bc) m (D9 all)::B0 3 1 (.slice lo n l) n (D3 L)::B0 44 1 (.slice co 19 cc) 19 (D5 .u32 (G1 HD))::B0 3 1 (.slice (some ⟨OB+1,0,none⟩) 19 19) 19 (D3 HD)::rdT 1 (.slice (some ⟨OB,0,none⟩) 19 19) 19 (D3 [16,17,18,0,8,7,9,6,10,5,11,4,12,3,13,2,14,1,15])::Rs))=>Z51 B o 0 r kk s bo bc m p1 7 (M:Int) li di lc dc tk all d ht (by omega) (by decide)
    rw [show ((7:Nat):Int)=7 from rfl] at hT
    unfold S4 at hT
    have HT:=A5 hT
    have b:Hid (S=(5,p1,[],[])):=A5 (by rw [HO.out.2,Z0b a6.out (by rw [a8.out];exact Y5c (wd:=7) (by decide) a3.out (by decide) ht)];rfl)
    clear hT ht
    go_wp2_with fail
    refine a1.out.mono ?_
    rintro e' w8 ⟨rfl,d⟩
    have t:=A5 (HT.out w8 d)
    clear d a1 HQ HT
    go_wp2_with fail
    refine t.out.mono ?_
    rintro e' w9 ⟨rfl,d⟩
    have H9:=A5 d
    clear d t
    go_wp2
    go_ret
    exact ⟨by rw [b.out];rfl,.inr ⟨by rw [b.out];exact fun h=>(by cases h),p1,li,di,by rw [b.out];exact H9.out.third.drop.third.drop.third.drop.third.drop⟩⟩
   | some more=>
    obtain ⟨a7,b4⟩:=M2 ht
    have a9:more < 2^7:=by rw [b4];exact L8 d3.out p1 7
    have hT:=fun w1 (d:A4 w0 w1 (S2 B o 0 r kk s (.slice bo m bc) p1 (M:Int) li di lc dc tk::rdT 1 (.slice bo m bc) m (D9 all)::B0 3 1 (.slice lo n l) n (D3 L)::B0 44 1 (.slice co 19 cc) 19 (D5 .u32 (G1 HD))::B0 3 1 (.slice (some ⟨OB+1,0,none⟩) 19 19) 19 (D3 HD)::rdT 1 (.slice (some ⟨OB,0,none⟩) 19 19) 19 (D3 [16,17,18,0,8,7,9,6,10,5,11,4,12,3,13,2,14,1,15])::Rs))=>X9 B o 0 r kk s bo bc m p1 7 more (M:Int) li di lc dc tk all d ht d3.out (by omega) (by decide)
    rw [show ((7:Nat):Int)=7 from rfl] at hT
    unfold S4 at hT
    have HT:=A5 hT
    have o4:more≤128:=by omega
    have e7:(0:Int)≤(more:Int):=T00 _
    obtain ⟨k,b3⟩:∃k,k=11+more:=⟨_,rfl⟩
    have g9:(11:Int)+(more:Int)=(k:Int):=by omega
    have h0:(0:Int)≤(k:Int):=T00 _
    obtain ⟨tot,c3⟩:∃tot,tot=n+k:=⟨_,rfl⟩
    have h6:(n:Int)+(k:Int)=(tot:Int):=by omega
    have h7:(0:Int)≤(tot:Int):=T00 _
    have d8:p1+7≤m:=by rw [HM.out];exact a7
    have h8:k≤140:=by omega
    by_cases a2:N0 < tot
    ·have i1:(N0:Int) < (tot:Int):=by omega
     have b:Hid (S=(2,p1+7,[],[])):=A5 (by rw [HO.out.2,Z0b a6.out (by rw [a8.out];exact Y1o (wd:=7) (ba:=11) (by decide) a3.out (by decide) (by decide) ht (by rw [←HO.out.1];omega))];rfl)
     clear hT ht b3 c3 a7 b4 a9
     go_wp2_with fail
     refine a1.out.mono ?_
     rintro e' w8 ⟨rfl,d⟩
     have t:=A5 (HT.out w8 d)
     clear d a1 HQ HT
     go_wp2_with fail
     refine t.out.mono ?_
     rintro e' w9 ⟨rfl,d⟩
     have q:=d.obj
     have d1:=q.cell (i:=1) rfl
     have g1:=q.frozen 1
     have H9:=A5 d
     clear d t q
     go_wp2
     go_ret
     exact ⟨by rw [b.out];rfl,.inr ⟨by rw [b.out];exact fun h=>(by cases h),p1+7,li,di,by rw [b.out];exact (H9.out.setObj 1 (.int .i64 2)).third.drop.third.drop.third.drop.third.drop⟩⟩
    have i1:decide ((N0:Int) < (tot:Int))=false:=decide_eq_false (by omega)
    have k9:decide (N0 < tot)=false:=decide_eq_false (by omega)
    have b:Hid (S=Q5.dynEnd A (Z1m HD all N0 f (p1+7) (L++T01 k 0))):=A5 (by rw [HO.out.2,Z2x a6.out (by rw [a8.out];exact Z87 (wd:=7) (ba:=11) (by decide) a3.out (by decide) (by decide) ht (by rw [←HO.out.1];omega)),b3];rfl)
    have c7:n+k≤N0:=by omega
    have i2:=A5 HO.out.1
    clear hT ht b3 c3 a7 b4 a9 a2
    go_wp2_with fail
    refine a1.out.mono ?_
    rintro e' w8 ⟨rfl,d⟩
    have t:=A5 (HT.out w8 d)
    clear d a1 HQ HT
    go_wp2_with fail
    refine t.out.mono ?_
    rintro e' w9 ⟨rfl,d⟩
    have H9:Hid (A4 w0 w9 (S2 B o 0 r kk s (.slice bo m bc) (p1+7) (M:Int) li di lc dc tk::rdT 1 (.slice bo m bc) m (D9 all)::B0 3 1 (.slice lo (n+0) l) (n+0) (D3 (L++T01 0 0))::B0 44 1 (.slice co 19 cc) 19 (D5 .u32 (G1 HD))::B0 3 1 (.slice (some ⟨OB+1,0,none⟩) 19 19) 19 (D3 HD)::rdT 1 (.slice (some ⟨OB,0,none⟩) 19 19) 19 (D3 [16,17,18,0,8,7,9,6,10,5,11,4,12,3,13,2,14,1,15])::Rs)):=A5 (by rw [T0b,T07];exact d)
    clear d t
    go_wp2
    go_loopg [16,24] (k+2) (fun g t16 t24 wr=>∃ (j:Nat) (d0:Option Addr) (a4:Nat),j≤k∧k-j < g∧t24= .int .i64 (j:Int)∧t16= .slice d0 (n+j) a4∧Hid (A4 w0 wr (S2 B o 0 r kk s (.slice bo m bc) (p1+7) (M:Int) li di lc dc tk::rdT 1 (.slice bo m bc) m (D9 all)::B0 3 1 (.slice d0 (n+j) a4) (n+j) (D3 (L++T01 j 0))::B0 44 1 (.slice co 19 cc) 19 (D5 .u32 (G1 HD))::B0 3 1 (.slice (some ⟨OB+1,0,none⟩) 19 19) 19 (D3 HD)::rdT 1 (.slice (some ⟨OB,0,none⟩) 19 19) 19 (D3 [16,17,18,0,8,7,9,6,10,5,11,4,12,3,13,2,14,1,15])::Rs)))
    case atStart=>exact ⟨0,_,_,by omega,by omega,rfl,rfl,H9⟩
    case round=>
     obtain ⟨j,d0,a4,hj,r9,rfl,rfl,HJ⟩:=hrel
     have o5:(0:Int)≤(j:Int):=T00 _
     by_cases p9:j < k
     ·have i3:(j:Int) < (k:Int):=by omega
      have HX:Hid (L++T01 (j+1) 0=L++T01 j 0++[0]):=A5 (by rw [T0c,T0d])
      go_wp2_with (refine D6 rfl (.tmp 177) (.tmp 179) 52 rfl 3 i0 (.int .i64 0) 1 8 Tryz.underlying52 e5 i7 e6 i8 rfl (by decide) _ (n+j) _ rfl (HJ.out.third.alloc _) _ 1 (D3 [0]) rfl (Rd.lit _ [_] _ 1 1 (by decide) rfl) (S6 _) (n+j+1) rfl (by unfold maxLen;omega) (by omega) ?_;intro m2 e4 q9 h9;rw [←T7,←HX.out] at h9;have i4:=A5 (h9.swap.third.swap);clear h9)
      go_roundg (gk-1)
      case measure=>omega
      case rel=>exact ⟨j+1,_,_,by omega,by omega,by go_num,rfl,i4⟩
     have i3:¬(j:Int) < (k:Int):=by omega
     obtain rfl:j=k:=by omega
     go_wp2
     go_roundg (gx-1)
     case measure=>omega
     case rel=>exact ⟨p1+7,n+j,f,_,_,_,d8,by omega,by omega,c7,rfl,A5 ⟨by rw [T02,T0e,←i2.out],b.out⟩,HJ⟩
end
end Go.Proofs.YtbkbkmgogbgofaaGreatDoor
