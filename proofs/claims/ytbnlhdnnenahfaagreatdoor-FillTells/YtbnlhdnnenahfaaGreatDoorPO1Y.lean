/-
  What the texts PolyGeo, PRings, RPCheck, RPArea, RPOn, RPBox, FillMath, TTame, PLit say, so far as this seat's proofs need it.
-/
import Derived.Test.YtbnlhdnnenahfaaGreatDoorRXY
import Derived.Test.YtbnlhdnnenahfaaGreatDoorPK4Y
set_option maxHeartbeats 16000000
set_option maxRecDepth 20000
namespace Go.Proofs.YtbnlhdnnenahfaaGreatDoor
theorem pY {A B D E:Int}(hA:0<=A)(hAB:A<B)(hE:0<E)(hDE:D<E):D*A-B*E<0:=by
 have h1:D*A<=E*A:=Int.mul_le_mul_of_nonneg_right (by omega) hA;have h2:E*A<E*B:=Int.mul_lt_mul_of_pos_left hAB hE;rw[Int.mul_comm B E];omega
theorem Dr {A B D E:Int}(hA:0<=A)(hAB:A<B)(hE:E<0)(hDE:E<D):0<D*A-B*E:=by
 have h:=pY (A:=A) (B:=B) (D:= -D) (E:= -E) hA hAB (by omega) (by omega);rw[Int.neg_mul,Int.mul_neg]at h;omega
theorem pf {p q:Int×Int}{x y:Int}(hp:p.1<x)(hq:q.1<x)(h1:p.2<=y)(h2:y<q.2):crs p q x y<0:=by
 unfold crs;exact pY (by omega) (by omega) (by omega) (by omega)
theorem qS {p q:Int×Int}{x y:Int}(hp:x<p.1)(hq:x<q.1)(h1:p.2<=y)(h2:y<q.2):0<crs p q x y:=by
 unfold crs;exact Dr (by omega) (by omega) (by omega) (by omega)
theorem yK {p q:Int×Int}{x y:Int}(hp:p.1<x)(hq:q.1<x):crB p q x y=false:=by
 refine Bool.eq_false_iff.2 fun h=>?_;rcases dw.1 h with⟨h1,h2,h3⟩ | ⟨h1,h2,h3⟩
 · have:=pf hp hq h1 h2;omega
 · have:=pf hq hp h2 h1;rw[mm p q]at this;omega
theorem Bb {p q:Int×Int}{x y:Int}(hp:x<p.1)(hq:x<q.1):bi (crB p q x y)=bi (decide (p.2<=y))+bi (decide (q.2<=y))+-(2*(bi (decide (p.2<=y))*bi (decide (q.2<=y)))):=by
 by_cases h1:p.2<=y <;>by_cases h2:q.2<=y
 · have e:crB p q x y=false:=Bool.eq_false_iff.2 fun h=>by rcases dw.1 h with h | h <;>omega
   rw[e];simp[h1,h2,bi]
 · have e:crB p q x y=true:=dw.2 (.inl ⟨h1,by omega,qS hp hq h1 (by omega)⟩);rw[e];simp[h1,h2,bi]
 · have e:crB p q x y=true:=dw.2 (.inr ⟨by omega,h2,by
    have:=qS hq hp h2 (by omega);rw[mm p q]at this;omega⟩)
   rw[e];simp[h1,h2,bi]
 · have e:crB p q x y=false:=Bool.eq_false_iff.2 fun h=>by rcases dw.1 h with h | h <;>omega
   rw[e];simp[h1,h2,bi]
theorem Bd {L:List (Int×Int)}{x y:Int}(h:∀p∈L,x<p.1):crN L x y%2=0:=by
 unfold crN;rw[gr (g:=fun p q=>bi (decide (p.2<=y))+bi (decide (q.2<=y))+-(2*(bi (decide (p.2<=y))*bi (decide (q.2<=y))))) fun p hp q hq=>Bb (h p hp) (h q hq),
  uq (fun p q=>bi (decide (p.2<=y))+bi (decide (q.2<=y))),uq (fun p q=>bi (decide (p.2<=y))),Bi (fun q=>bi (decide (q.2<=y))),EP,EO]
 omega
theorem yL {L:List (Int×Int)}{x y:Int}(h:∀p∈L,p.1<x):crN L x y=0:=by
 unfold crN;rw[gr (g:=fun _ _=>0) fun p hp q hq=>by rw[yK (h p hp) (h q hq)];rfl,jq]
theorem Be {L:List (Int×Int)}{x y:Int}(h:∀p∈L,p.2<=y):crN L x y=0:=by
 unfold crN;rw[gr (g:=fun _ _=>0) fun p hp q hq=>by
  have e:crB p q x y=false:=Bool.eq_false_iff.2 fun k=>by
   have h1:=h p hp;have h2:=h q hq;rcases dw.1 k with k | k <;>omega
  rw[e];rfl,jq]
theorem yM {L:List (Int×Int)}{x y:Int}(h:∀p∈L,y<p.2):crN L x y=0:=by
 unfold crN;rw[gr (g:=fun _ _=>0) fun p hp q hq=>by
  have e:crB p q x y=false:=Bool.eq_false_iff.2 fun k=>by
   have h1:=h p hp;have h2:=h q hq;rcases dw.1 k with k | k <;>omega
  rw[e];rfl,jq]
theorem gO {L:List (Int×Int)}{x y:Int}(h:(∀p∈L,x<p.1)∨(∀p∈L,p.1<x)∨(∀p∈L,p.2<y)∨(∀p∈L,y<p.2)):onN L x y=0:=by
 unfold onN;rw[gr (g:=fun _ _=>0) fun p hp q hq=>by
  have e:onB p q x y=false:=Bool.eq_false_iff.2 fun k=>by
   have k:=ji.1 k;rcases h with h | h | h | h
   all_goals
    have h1:=h p hp;have h2:=h q hq;omega
  rw[e];rfl,jq]
theorem He (f:Int×Int->Int×Int->Int)(p q s t:Int×Int):cyc f [p,q,s,t]=f p q+f q s+f s t+f t p:=by
 simp[cyc,bs,pt]
theorem uV {a c b x y:Int}:onB (a,b) (c,b) x y=true↔y=b/\min a c<=x/\x<=max a c:=by
 rw[ji];unfold crs;simp only;constructor
 · intro h;omega
 · rintro⟨rfl,h1,h2⟩;refine⟨by rw[Int.sub_self,Int.mul_zero,Int.zero_mul];rfl,h1,h2,by omega,by omega⟩
theorem uW {a b d x y:Int}:onB (a,b) (a,d) x y=true↔x=a/\min b d<=y/\y<=max b d:=by
 rw[ji];unfold crs;simp only;constructor
 · intro h;omega
 · rintro⟨rfl,h1,h2⟩;refine⟨by rw[Int.sub_self,Int.mul_zero,Int.zero_mul];rfl,by omega,by omega,h1,h2⟩
theorem ul {a c b x y:Int}:crB (a,b) (c,b) x y=false:=Bool.eq_false_iff.2 fun h=>by
 rcases dw.1 h with h | h <;>simp only at h <;>omega
theorem un {a b d x y:Int}:crB (a,b) (a,d) x y=true↔((b<=y/\y<d)∨(y<b/\d<=y))/\x<a:=by
 rw[dw];unfold crs;simp only[Int.sub_self,Int.zero_mul,Int.zero_sub];constructor
 · rintro(⟨h1,h2,h3⟩ | ⟨h1,h2,h3⟩)
   · refine⟨.inl ⟨h1,h2⟩,?_⟩;by_cases c:x<a
     · exact c
     · have:=Int.mul_nonneg (show 0<=d-b by omega) (show 0<=x-a by omega);omega
   · refine⟨.inr ⟨h1,h2⟩,?_⟩;by_cases c:x<a
     · exact c
     · have:=Int.mul_nonneg (show 0<=b-d by omega) (show 0<=x-a by omega);rw[show b-d= -(d-b)by omega,Int.neg_mul]at this;omega
 · rintro⟨h1 | h1,h2⟩
   · refine .inl ⟨h1.1,h1.2,?_⟩;have:=Int.mul_pos (show 0<d-b by omega) (show 0<a-x by omega);rw[show a-x= -(x-a)by omega,Int.mul_neg]at this;exact this
   · refine .inr ⟨h1.1,h1.2,?_⟩;have:=Int.mul_pos (show 0<b-d by omega) (show 0<a-x by omega);rw[show a-x= -(x-a)by omega,show b-d= -(d-b)by omega,Int.mul_neg,Int.neg_mul]at this;omega
def cE (a b c d:Int):List (Int×Int):=[(a,b),(c,b),(c,d),(a,d)]
theorem fy (b:Bool)(P:Prop)(h:b=true↔P):(bi b=1/\P)∨(bi b=0/\¬P):=by
 cases b with
 | true=>exact .inl ⟨rfl,h.1 rfl⟩
 | false=>exact .inr ⟨rfl,fun k=>by have:=h.2 k;cases this⟩
theorem qL {a b c d x y:Int}:0<onN (cE a b c d) x y↔(min a c<=x/\x<=max a c/\min b d<=y/\y<=max b d)/\(y=b∨y=d∨x=a∨x=c):=by
 unfold onN cE;rw[He];have h1:=fy _ _ (uV (a:=a) (c:=c) (b:=b) (x:=x) (y:=y));have h2:=fy _ _ (uW (a:=c) (b:=b) (d:=d) (x:=x) (y:=y));have h3:=fy _ _ (uV (a:=c) (c:=a) (b:=d) (x:=x) (y:=y));have h4:=fy _ _ (uW (a:=a) (b:=d) (d:=b) (x:=x) (y:=y));generalize bi (onB (a,b) (c,b) x y)=u1 at *;generalize bi (onB (c,b) (c,d) x y)=u2 at *;generalize bi (onB (c,d) (a,d) x y)=u3 at *;generalize bi (onB (a,d) (a,b) x y)=u4 at *;omega
theorem yv {a b c d x y:Int}:crN (cE a b c d) x y%2=1↔(min a c<=x/\x<max a c)/\(min b d<=y/\y<max b d):=by
 unfold crN cE;rw[He,ul,ul];have h2:=fy _ _ (un (a:=c) (b:=b) (d:=d) (x:=x) (y:=y));have h4:=fy _ _ (un (a:=a) (b:=d) (d:=b) (x:=x) (y:=y));have e0:bi false=0:=rfl;rw[e0];generalize bi (crB (c,b) (c,d) x y)=u2 at *;generalize bi (crB (a,d) (a,b) x y)=u4 at *;omega
theorem Hc {a b c d x y:Int}(_:a≠c)(_:b≠d):(0<onN (cE a b c d) x y∨crN (cE a b c d) x y%2=1)↔min a c<=x/\x<=max a c/\min b d<=y/\y<=max b d:=by
 rw[qL,yv];omega
theorem AZ {a b c d x y:Int}(_:a=c∨b=d):(0<onN (cE a b c d) x y∨crN (cE a b c d) x y%2=1)↔(min a c<=x/\x<=max a c/\min b d<=y/\y<=max b d)/\0<onN (cE a b c d) x y:=by
 rw[qL,yv];omega
end Go.Proofs.YtbnlhdnnenahfaaGreatDoor
namespace Go.Proofs.YtbnlhdnnenahfaaGreatDoor
open Go.RowKit
def RingL (w:World)(v:Value)(L:List (Int×Int)):Prop:=∃(p:Option Addr) (cap:Nat),v=.slice p L.length cap/\L.length<=cap/\∀(j:Nat) (hj:j<L.length),∃g o,p=some ⟨g,o,none⟩/\w.cell? ⟨g,o+j*2,none⟩=some (.int .i64 L[j].1)/\w.cell? ⟨g,o+j*2+1,none⟩=some (.int .i64 L[j].2)
theorem RingL.keep {w w':World}{v:Value}{L:List (Int×Int)}(h:RingL w v L)(hb:Below w.heap.size w w'):RingL w' v L:=by
 obtain⟨p,c,e,h1,h2⟩:=h;refine⟨p,c,e,h1,fun j hj=>?_⟩;obtain⟨g,o,h3,h4,h5⟩:=h2 j hj;exact⟨g,o,h3,aa hb h4,aa hb h5⟩
def RingsL (w:World)(v:Value)(G:List (List (Int×Int))):Prop:=∃(p:Option Addr) (cap:Nat),v=.slice p G.length cap/\G.length<=cap/\∀(j:Nat) (hj:j<G.length),∃g o s,p=some ⟨g,o,none⟩/\w.cell? ⟨g,o+j,none⟩=some s/\RingL w s G[j]
theorem RingsL.keep {w w':World}{v:Value}{G:List (List (Int×Int))}(h:RingsL w v G)(hb:Below w.heap.size w w'):RingsL w' v G:=by
 obtain⟨p,c,e,h1,h2⟩:=h;refine⟨p,c,e,h1,fun j hj=>?_⟩;obtain⟨g,o,s,h3,h4,h5⟩:=h2 j hj;exact⟨g,o,s,h3,aa hb h4,h5.keep hb⟩
def aH:List (List (Int×Int))->Nat
 | []=>0
 | L :: G=>L.length+aH G
theorem kb (L:List (Int×Int)):∀G:List (List (Int×Int)),aH (G++[L])=aH G+L.length
 | []=>by show L.length+0=0+L.length;omega
 | M :: G=>by show M.length+aH (G++[L])=M.length+aH G+L.length;rw[kb L G];omega
theorem dO:∀ {G:List (List (Int×Int))}{L:List (Int×Int)},L∈G->L.length<=aH G
 | M :: G,L,h=>by
  rcases List.mem_cons.1 h with rfl | h
  · show L.length<=L.length+aH G;omega
  · have:=dO h;show L.length<=M.length+aH G;omega
def aW (p:Int×Int):Prop:=0<=p.1/\p.1<1073741824/\0<=p.2/\p.2<1073741824
def ChkG (G:List (List (Int×Int)))(t:Int):Prop :=
 ((20<G.length∨500<aH G)/\t=7) ∨
 ((¬(20<G.length∨500<aH G))/\(G=[]∨∃L∈G,L.length<3)/\t=1) ∨
 ((¬(20<G.length∨500<aH G))/\G≠[]/\(∀L∈G,3<=L.length)/\(∃L∈G,∃p∈L,¬aW p)/\t=4) ∨
 ((¬(20<G.length∨500<aH G))/\G≠[]/\(∀L∈G,3<=L.length)/\(∀L∈G,∀p∈L,aW p)/\t=0)
theorem ChkG.one {G:List (List (Int×Int))}{t t':Int}(h:ChkG G t)(h':ChkG G t'):t=t':=by
 rcases h with⟨a,rfl⟩ | ⟨a,b,rfl⟩ | ⟨a,b,c,d,rfl⟩ | ⟨a,b,c,d,rfl⟩ <;>rcases h' with⟨a',rfl⟩ | ⟨a',b',rfl⟩ | ⟨a',b',c',d',rfl⟩ | ⟨a',b',c',d',rfl⟩
 all_goals first
  | rfl
  | exact absurd a a'
  | exact absurd a' a
  | (exfalso;rcases b with b | ⟨L,hL,h3⟩
     · exact b' b
     · have:=c' L hL;omega)
  | (exfalso;rcases b' with b' | ⟨L,hL,h3⟩
     · exact b b'
     · have:=c L hL;omega)
  | (exfalso;obtain⟨L,hL,p,hp,hn⟩:=d;exact hn (d' L hL p hp))
  | (exfalso;obtain⟨L,hL,p,hp,hn⟩:=d';exact hn (d L hL p hp))
def bv (G:List (List (Int×Int))):Prop:=ChkG G 0
theorem bI {G:List (List (Int×Int))}:bv G↔G.length<=20/\aH G<=500/\G≠[]/\(∀L∈G,3<=L.length)/\(∀L∈G,∀p∈L,aW p):=by
 unfold bv ChkG;constructor
 · rintro(⟨_,h⟩ | ⟨_,_,h⟩ | ⟨_,_,_,_,h⟩ | ⟨a,b,c,d,_⟩)
   · omega
   · omega
   · omega
   · exact⟨by omega,by omega,b,c,d⟩
 · rintro⟨a,b,c,d,e⟩;exact .inr (.inr (.inr ⟨by omega,c,d,e,rfl⟩))
theorem bV {G:List (List (Int×Int))}{t:Int}(h:ChkG G t):t=0↔bv G:=⟨fun e=>by unfold bv;rw[←e];exact h,fun k=>h.one k⟩
def ct (x y:Int):Prop:=x < -2147483648∨2147483648<x∨y < -2147483648∨2147483648<y
def onG:List (List (Int×Int))->Int->Int->Int
 | [],_,_=>0
 | L :: G,x,y=>onN L x y+onG G x y
def crG:List (List (Int×Int))->Int->Int->Int
 | [],_,_=>0
 | L :: G,x,y=>crN L x y+crG G x y
theorem nT (x y:Int):∀G:List (List (Int×Int)),0<=onG G x y
 | []=>Int.le_refl 0
 | L :: G=>by
  have h1:=xe L x y;have h2:=nT x y G;show 0<=onN L x y+onG G x y
  omega
theorem oJ (x y:Int)(M:List (List (Int×Int))):∀G:List (List (Int×Int)),onG (G++M) x y=onG G x y+onG M x y
 | []=>by show onG M x y=0+onG M x y;omega
 | L :: G=>by show onN L x y+onG (G++M) x y=onN L x y+onG G x y+onG M x y;rw[oJ x y M G];omega
theorem uo (x y:Int)(M:List (List (Int×Int))):∀G:List (List (Int×Int)),crG (G++M) x y=crG G x y+crG M x y
 | []=>by show crG M x y=0+crG M x y;omega
 | L :: G=>by show crN L x y+crG (G++M) x y=crN L x y+crG G x y+crG M x y;rw[uo x y M G];omega
theorem rD (x y:Int){G:List (List (Int×Int))}{i:Nat}(h:i<G.length):onG (G.take (i+1)) x y=onG (G.take i) x y+onN G[i] x y:=by
 rw[List.take_succ_eq_append_getElem h,oJ];show _+(onN _ x y+0)=_
 omega
theorem Bc (x y:Int){G:List (List (Int×Int))}{i:Nat}(h:i<G.length):crG (G.take (i+1)) x y=crG (G.take i) x y+crN G[i] x y:=by
 rw[List.take_succ_eq_append_getElem h,uo];show _+(crN _ x y+0)=_
 omega
theorem qN {G:List (List (Int×Int))}{i:Nat}(h:i<G.length):aH (G.take (i+1))=aH (G.take i)+G[i].length:=by
 rw[List.take_succ_eq_append_getElem h,kb]
def OnT (G:List (List (Int×Int)))(x y:Int):Prop:=bv G/\(¬ct x y)/\0<onG G x y
def InT (G:List (List (Int×Int)))(x y:Int):Prop:=bv G/\(¬ct x y)/\(0<onG G x y∨crG G x y%2=1)
def Bx (C:List (Int×Int))(lo hi:Int×Int):Prop :=
 (∀p∈C,lo.1<=p.1/\p.1<=hi.1/\lo.2<=p.2/\p.2<=hi.2)/\(∃p∈C,p.1=lo.1)/\(∃p∈C,p.2=lo.2)/\(∃p∈C,p.1=hi.1)/\∃p∈C,p.2=hi.2
theorem Bx.one {C:List (Int×Int)}{lo hi lo' hi':Int×Int}(h:Bx C lo hi)(h':Bx C lo' hi'):lo=lo'/\hi=hi':=by
 obtain⟨a,⟨p1,m1,e1⟩,⟨p2,m2,e2⟩,⟨p3,m3,e3⟩,p4,m4,e4⟩:=h;obtain⟨a',⟨q1,n1,f1⟩,⟨q2,n2,f2⟩,⟨q3,n3,f3⟩,q4,n4,f4⟩:=h';have k1:=a' p1 m1;have k2:=a' p2 m2;have k3:=a' p3 m3;have k4:=a' p4 m4;have l1:=a q1 n1;have l2:=a q2 n2;have l3:=a q3 n3;have l4:=a q4 n4;exact⟨Prod.ext (by omega) (by omega),Prod.ext (by omega) (by omega)⟩
def BoxT (G:List (List (Int×Int)))(lo hi:Int×Int):Prop:=(bv G/\Bx G.flatten lo hi)∨((¬bv G)/\lo=(0,0)/\hi=(0,0))
theorem BoxT.one {G:List (List (Int×Int))}{lo hi lo' hi':Int×Int}(h:BoxT G lo hi)(h':BoxT G lo' hi'):lo=lo'/\hi=hi':=by
 rcases h with⟨a,b⟩ | ⟨a,rfl,rfl⟩ <;>rcases h' with⟨a',b'⟩ | ⟨a',rfl,rfl⟩
 · exact b.one b'
 · exact absurd a a'
 · exact absurd a' a
 · exact⟨rfl,rfl⟩
theorem Cz {R:List (Int×Int)}:bv [R]↔3<=R.length/\R.length<=500/\∀p∈R,aW p:=by
 rw[bI];have e:aH [R]=R.length:=by show R.length+0=_;omega
 rw[e];constructor
 · rintro⟨_,a,_,b,c⟩;exact⟨b R (List.mem_singleton.2 rfl),a,c R (List.mem_singleton.2 rfl)⟩
 · rintro⟨a,b,c⟩;exact⟨by simp,b,by simp,fun L hL=>by rw[List.mem_singleton.1 hL];exact a,fun L hL=>by rw[List.mem_singleton.1 hL];exact c⟩
theorem Fv (R:List (Int×Int))(x y:Int):onG [R] x y=onN R x y:=by show onN R x y+0=_;omega
theorem EG (R:List (Int×Int))(x y:Int):crG [R] x y=crN R x y:=by show crN R x y+0=_;omega
def fD (f:Int×Int->Int×Int->Int)(L:List (Int×Int))(k:Nat):Int:=bs (fun k=>f (pt L k) (pt L ((k+1)%L.length))) k
theorem kB (f:Int×Int->Int×Int->Int)(L:List (Int×Int))(k:Nat):fD f L (k+1)=fD f L k+f (pt L k) (pt L ((k+1)%L.length)):=rfl
def sgn (n:Int):Int:=if n<0 then -1 else if 0<n then 1 else 0
theorem Iu {p q:Int×Int}{x y:Int}:sgn (crs p q x y)=if decide ((q.1-p.1)*(y-p.2)<(q.2-p.2)*(x-p.1))=true then -1 else if decide ((q.2-p.2)*(x-p.1)<(q.1-p.1)*(y-p.2))=true then 1 else 0:=by
 unfold sgn crs;simp only[decide_eq_true_eq];by_cases h1:(q.1-p.1)*(y-p.2)<(q.2-p.2)*(x-p.1)
 · rw[if_pos (by omega),if_pos h1]
 · rw[if_neg (by omega),if_neg h1];by_cases h2:(q.2-p.2)*(x-p.1)<(q.1-p.1)*(y-p.2)
   · rw[if_pos (by omega),if_pos h2]
   · rw[if_neg (by omega),if_neg h2]
theorem Dt {n:Int}:sgn n=0↔n=0:=by
 unfold sgn;by_cases h1:n<0
 · rw[if_pos h1];omega
 · rw[if_neg h1];by_cases h2:0<n
   · rw[if_pos h2];omega
   · rw[if_neg h2];omega
theorem Gx {n:Int}:0<sgn n↔0<n:=by
 unfold sgn;by_cases h1:n<0
 · rw[if_pos h1];omega
 · rw[if_neg h1];by_cases h2:0<n
   · rw[if_pos h2];omega
   · rw[if_neg h2];omega
theorem Gw {n:Int}:sgn n<0↔n<0:=by
 unfold sgn;by_cases h1:n<0
 · rw[if_pos h1];omega
 · rw[if_neg h1];by_cases h2:0<n
   · rw[if_pos h2];omega
   · rw[if_neg h2];omega
def fi:List (List (Int×Int))->Nat
 | []=>0
 | L :: G=>min L.length 1000+fi G
theorem o8 (L:List (Int×Int)):∀G:List (List (Int×Int)),fi (G++[L])=fi G+min L.length 1000
 | []=>by show min L.length 1000+0=0+min L.length 1000;omega
 | M :: G=>by show min M.length 1000+fi (G++[L])=min M.length 1000+fi G+min L.length 1000;rw[o8 L G];omega
theorem yy {G:List (List (Int×Int))}{i:Nat}(h:i<G.length):fi (G.take (i+1))=fi (G.take i)+min G[i].length 1000:=by
 rw[List.take_succ_eq_append_getElem h,o8]
theorem mh:∀G:List (List (Int×Int)),500<fi G↔500<aH G
 | []=>Iff.rfl
 | L :: G=>by
  have ih:=mh G;have h1:∀K:List (List (Int×Int)),fi K<=aH K/\(fi K=aH K∨1000<=fi K):=fun K=>by
   induction K with
   | nil=>exact⟨Nat.le_refl _,.inl rfl⟩
   | cons M K ih =>
    show min M.length 1000+fi K<=M.length+aH K/\(min M.length 1000+fi K=M.length+aH K∨1000<=min M.length 1000+fi K)
    omega
  have h2:=h1 (L :: G);omega
theorem pV (s:Value)(G:List (List (Int×Int)))(hn:G.length<=1000000)(hl:∀L∈G,L.length<=140737488355328)(w:World)(hG:RingsL w s G) :
 Calls Tryz.prog 17 #[s] w fun e w'=>(∃t,e=.returned (.int .i64 t)/\ChkG G t)/\Below w.heap.size w w':=by
 obtain⟨p,cap,hs,-,hc⟩:=hG;obtain⟨m,em⟩:∃m,G.length=m:=⟨_,rfl⟩
 have EM:=ab em;rw[em]at hs hn;subst hs;have HC:=ab hc;have HL:=ab hl;clear em hc hl
 go_enter Tryz.func17,Tryz.ntmps17
 go_wp2_with fail;go_loopw [3,4] (fun v3 v4 wr=>∃i c:Nat,i<=m/\i<=30/\c<=1000*i/\v4=.int .i64 (i:Int)/\v3=.int .i64 (c:Int)/\Hid (c=fi (G.take i))/\Below w.heap.size w wr) (fun _ v4 _=>30-(intOf v4).toNat)
 case atStart=>exact⟨0,0,by omega,by omega,by omega,rfl,rfl,ab rfl,Below.refl _ _⟩
 case round =>
  obtain⟨i,c,hi,hi30,hc1,rfl,rfl,hS,hB⟩:=hrel;by_cases hgo:i<m/\i<30
  · obtain⟨h1,h2⟩:=hgo;have h1':(i:Int)<(m:Int):=by omega
    have h2':(i:Int)<30:=by omega
    have hiG:i<G.length:=by rw[EM.out];exact h1
    obtain⟨g,o,s,rfl,x1,hR⟩:=HC.out i hiG;replace x1:=aa hB x1;obtain⟨p',c',rfl,-,-⟩:=hR;have hll:=HL.out _ (List.getElem_mem hiG);have NX:=ab (yy hiG);obtain⟨l,el⟩:∃l,G[i].length=l:=⟨_,rfl⟩
    rw[el]at x1 NX hll;obtain⟨b,eb⟩:∃b:Nat,min l 1000=b:=⟨_,rfl⟩
    have eb2:min (l:Int) 1000=(b:Int):=by omega
    have hb2:b<=1000:=by omega
    have hS2:Hid (c+b=fi (G.take (i+1))):=ab (by rw[NX.out,←hS.out,eb]);clear el NX hS eb;go_wp2_with fail;go_roundw
    case rel=>exact⟨i+1,c+b,by omega,by omega,by omega,by go_num,by go_num,hS2,hB⟩
    case measure=>simp[intOf];omega
  · have hend:i=m∨(i=30/\30<m):=by omega
    by_cases h20:20<m
    · have h20':(20:Int)<(m:Int):=by omega
      have hT:Hid (ChkG G 7):=ab (.inl ⟨.inl (by rw[EM.out];exact h20),rfl⟩);clear hS;rcases hend with rfl | ⟨rfl,h30⟩
      · have h1':decide ((i:Int)<(i:Int))=false:=by simp
        go_wp2_with fail;go_ret;exact⟨⟨7,rfl,hT.out⟩,hB⟩
      · have h1':(30:Int)<(m:Int):=by omega
        have h2':decide (((30:Nat):Int)<30)=false:=by decide
        go_wp2_with fail;go_ret;exact⟨⟨7,rfl,hT.out⟩,hB⟩
    · obtain rfl:i=m:=by omega
      have h1':decide ((i:Int)<(i:Int))=false:=by simp
      have h20':decide ((20:Int)<(i:Int))=false:=df (by omega);have e:G.take i=G:=List.take_of_length_le (by rw[EM.out];omega);rw[e]at hS;clear hend hgo e;by_cases h5:500<c
      · have h5':(500:Int)<(c:Int):=by omega
        have hT:Hid (ChkG G 7):=ab (.inl ⟨.inr ((mh G).1 (by rw[←hS.out];exact h5)),rfl⟩);go_wp2_with fail;go_ret;exact⟨⟨7,rfl,hT.out⟩,hB⟩
      have h5':decide ((500:Int)<(c:Int))=false:=df (by omega);have NB:Hid (¬(20<G.length∨500<aH G)):=ab (by
       rw[←mh,EM.out,←hS.out];omega)
      clear hS;by_cases h0:i=0
      · have hT:Hid (ChkG G 1):=ab (.inr (.inl ⟨NB.out,.inl (List.length_eq_zero_iff.1 (by rw[EM.out];exact h0)),rfl⟩));subst h0;go_wp2_with fail;go_ret;exact⟨⟨1,rfl,hT.out⟩,hB⟩
      have h0':((i:Int) == 0)=false:=by simp;omega
      have NE:Hid (G≠[]):=ab fun h=>h0 (by rw[←EM.out,h];rfl);go_wp2_with fail;go_loopw [5] (fun v5 wr=>∃k:Nat,k<=i/\v5=.int .i64 (k:Int)/\Hid (∀(j:Nat) (hj:j<G.length),j<k->3<=G[j].length)/\Below w.heap.size w wr) (fun v5 _=>i-(intOf v5).toNat)
      case atStart=>exact⟨0,by omega,rfl,ab fun j _ h=>absurd h (Nat.not_lt_zero _),hB⟩
      case round =>
       clear hB;obtain⟨k,hk,rfl,hI,hB⟩:=hrel;by_cases hki:k<i
       · have hki':(k:Int)<(i:Int):=by omega
         have hkG:k<G.length:=by rw[EM.out];exact hki
         obtain⟨g,o,s,rfl,x1,hR⟩:=HC.out k hkG;replace x1:=aa hB x1;obtain⟨p',c',rfl,-,-⟩:=hR;by_cases h3:G[k].length<3
         · have hT:Hid (ChkG G 1):=ab (.inr (.inl ⟨NB.out,.inr ⟨_,List.getElem_mem hkG,h3⟩,rfl⟩));have h3':(G[k].length:Int)<3:=by omega
           clear hI;go_wp2_with fail;go_ret;exact⟨⟨1,rfl,hT.out⟩,hB⟩
         · have h3':decide ((G[k].length:Int)<3)=false:=df (by omega);have hI2:Hid (∀(j:Nat) (hj:j<G.length),j<k+1->3<=G[j].length):=ab fun j hj h=>by
            rcases Nat.lt_or_ge j k with q | q
            · exact hI.out j hj q
            · obtain rfl:j=k:=by omega
              omega
           clear hI;generalize G[k].length=l at *;go_wp2_with fail;go_roundw
           case rel=>exact⟨k+1,by omega,by go_num,hI2,hB⟩
           case measure=>simp[intOf];omega
       · obtain rfl:k=i:=by omega
         have hki':decide ((k:Int)<(k:Int))=false:=by simp
         have L3:Hid (∀L∈G,3<=L.length):=ab fun L hL=>by
          obtain⟨j,hj,rfl⟩:=List.mem_iff_getElem.1 hL;exact hI.out j hj (by rw[←EM.out];exact hj)
         clear hI hki;go_wp2_with fail;go_loopw [6] (fun v6 wr=>∃q:Nat,q<=k/\v6=.int .i64 (q:Int)/\Hid (∀(j:Nat) (hj:j<G.length),j<q->∀x∈G[j],aW x)/\Below w.heap.size w wr) (fun v6 _=>k-(intOf v6).toNat)
         case atStart=>exact⟨0,by omega,rfl,ab fun j _ h=>absurd h (Nat.not_lt_zero _),hB⟩
         case round =>
          clear hB;obtain⟨q,hq,rfl,hI,hB⟩:=hrel;by_cases hqk:q<k
          · have hqk':(q:Int)<(k:Int):=by omega
            have hqG:q<G.length:=by rw[EM.out];exact hqk
            obtain⟨g,o,s,rfl,x1,hR⟩:=HC.out q hqG;have X1:=ab x1;obtain⟨p',c',rfl,-,hcc⟩:=hR;have HCC:=ab hcc;have hmem:=ab (List.getElem_mem hqG);have hll:=HL.out _ hmem.out;obtain⟨R,eR⟩:∃R,G[q]=R:=⟨_,rfl⟩
            have ER:=ab eR;rw[eR]at X1 HCC hmem hll;clear x1 hcc eR;obtain⟨l,el⟩:∃l,R.length=l:=⟨_,rfl⟩
            have EL:=ab el;rw[el]at X1 hll;clear el;go_wp2_with fail;go_loopw [7] (fun v7 wr=>∃t:Nat,t<=l/\v7=.int .i64 (t:Int)/\Hid (∀(j:Nat) (hj:j<R.length),j<t->aW R[j])/\Below w.heap.size w wr) (fun v7 _=>l-(intOf v7).toNat)
            case atStart=>exact⟨0,by omega,rfl,ab fun j _ h=>absurd h (Nat.not_lt_zero _),hB⟩
            case round =>
             clear hB;obtain⟨t,ht,rfl,hJ,hB⟩:=hrel;have x1:=aa hB X1.out;by_cases htl:t<l
             · have htl':(t:Int)<(l:Int):=by omega
               have htR:t<R.length:=by rw[EL.out];exact htl
               obtain⟨g',o',rfl,y0,y1⟩:=HCC.out t htR;replace y0:=aa hB y0;replace y1:=aa hB y1;have WO:=ab fun w=>jM R[t].1 R[t].2 w;cases hv:dA R[t].1 R[t].2 with
               | true =>
                have hI2:Hid (∀(j:Nat) (hj:j<R.length),j<t+1->aW R[j]):=ab fun j hj h=>by
                 rcases Nat.lt_or_ge j t with c | c
                 · exact hJ.out j hj c
                 · obtain rfl:j=t:=by omega
                   exact ij hv
                rw[hv]at WO;clear hJ hv;generalize R[t].1=a at *;generalize R[t].2=b at *;go_wp2_with fail
                go_quiet ((go_at_call 40;exact Calls.quiet_of_same (WO.out _)))
                go_wp2_with fail;go_roundw
                case rel=>exact⟨t+1,by omega,by go_num,hI2,by first | exact hB | exact aB hB _⟩
                case measure=>simp[intOf];omega
               | false =>
                have hT:Hid (ChkG G 4):=ab (.inr (.inr (.inl ⟨NB.out,NE.out,L3.out,⟨R,hmem.out,_,List.getElem_mem htR,fun h=>Fg hv h⟩,rfl⟩)));rw[hv]at WO;clear hJ hv;generalize R[t].1=a at *;generalize R[t].2=b at *;go_wp2_with fail
                go_quiet ((go_at_call 40;exact Calls.quiet_of_same (WO.out _)))
                go_wp2_with fail;go_ret;exact⟨⟨4,rfl,hT.out⟩,by first | exact hB | exact aB hB _⟩
             · obtain rfl:t=l:=by omega
               have htl':decide ((t:Int)<(t:Int))=false:=by simp
               have hI2:Hid (∀(j:Nat) (hj:j<G.length),j<q+1->∀x∈G[j],aW x):=ab fun j hj h=>by
                rcases Nat.lt_or_ge j q with c | c
                · exact hI.out j hj c
                · obtain rfl:j=q:=by omega
                  rw[ER.out];intro x hx;obtain⟨a,ha,rfl⟩:=List.mem_iff_getElem.1 hx;exact hJ.out a ha (by rw[←EL.out];exact ha)
               clear hI hJ htl;go_wp2_with fail;go_roundw
               case rel=>exact⟨q+1,by omega,by go_num,hI2,hB⟩
               case measure=>simp[intOf];omega
          · obtain rfl:q=k:=by omega
            have hqk':decide ((q:Int)<(q:Int))=false:=by simp
            have hT:Hid (ChkG G 0):=ab (.inr (.inr (.inr ⟨NB.out,NE.out,L3.out,fun L hL=>by
             obtain⟨j,hj,rfl⟩:=List.mem_iff_getElem.1 hL;exact hI.out j hj (by rw[←EM.out];exact hj),rfl⟩)))
            clear hI hqk;go_wp2_with fail;go_ret;exact⟨⟨0,rfl,hT.out⟩,hB⟩
theorem mD (s:Value)(G:List (List (Int×Int)))(hn:G.length<=1000000)(hl:∀L∈G,L.length<=1000000)(w:World)(hG:RingsL w s G) :
 Calls Tryz.prog 17 #[s] w fun e w'=>(∃t,e=.returned (.int .i64 t)/\ChkG G t)/\Below w.heap.size w w' :=
 pV s G hn (fun L hL=>Nat.le_trans (hl L hL) (by omega)) w hG
theorem oH {k l:Nat}(h:k<l):∃j:Nat,(k+1)%l=j/\j<l/\((k:Int)+1)%(l:Int)=(j:Int)/\((k:Int)+1).tmod (l:Int)=(j:Int):=by
 have h1:=Nat.mod_lt (k+1) (show 0<l by omega);have e:(((k+1)%l:Nat):Int)=((k:Int)+1)%(l:Int):=by push_cast;rfl
 exact⟨_,rfl,h1,e.symm,by rw[Int.tmod_eq_emod_of_nonneg (by omega)];exact e.symm⟩
theorem ra (x y:Int)(b:Bool)(h:(x < -2147483648/\b=true)∨(decide (x < -2147483648)=false/\2147483648<x/\b=true)∨(decide (x < -2147483648)=false/\decide (2147483648<x)=false/\y < -2147483648/\b=true)∨(decide (x < -2147483648)=false/\decide (2147483648<x)=false/\decide (y < -2147483648)=false/\2147483648<y/\b=true)∨(decide (x < -2147483648)=false/\decide (2147483648<x)=false/\decide (y < -2147483648)=false/\decide (2147483648<y)=false/\b=false))(w:World) :
 Calls Tryz.prog 120 #[.int .i64 x,.int .i64 y] w fun e w'=>e=.returned (.bool b)/\w'=w:=by
 rcases h with⟨h1,rfl⟩ | ⟨h1,h2,rfl⟩ | ⟨h1,h2,h3,rfl⟩ | ⟨h1,h2,h3,h4,rfl⟩ | ⟨h1,h2,h3,h4,rfl⟩
 all_goals
  go_enter Tryz.func120,Tryz.ntmps120
  go_wp2;go_ret;exact⟨rfl,rfl⟩
theorem uE {x y:Int}(h:ct x y)(w:World):Calls Tryz.prog 120 #[.int .i64 x,.int .i64 y] w fun e w'=>e=.returned (.bool true)/\w'=w:=by
 refine ra x y true ?_ w;unfold ct at h;simp only[decide_eq_false_iff_not,and_true,and_false,or_false,Bool.true_eq_false];omega
theorem yX {x y:Int}(h:¬ct x y)(w:World):Calls Tryz.prog 120 #[.int .i64 x,.int .i64 y] w fun e w'=>e=.returned (.bool false)/\w'=w:=by
 refine ra x y false ?_ w;unfold ct at h;simp only[decide_eq_false_iff_not,and_true,and_false,false_or,Bool.false_eq_true];omega
theorem qR {p q:Int×Int}{x y:Int}(hp:aW p)(hq:aW q)(hf:¬ct x y)(w:World) :
 Calls Tryz.prog 122 #[.agg #[.int .i64 p.1,.int .i64 p.2],.agg #[.int .i64 q.1,.int .i64 q.2],.int .i64 x,.int .i64 y] w fun e w'=>e=.returned (.int .i64 (sgn (crs p q x y)))/\Below w.heap.size w w':=by
 unfold aW at hp hq;unfold ct at hf;exact kc p.1 p.2 q.1 q.2 x y _ Iu (by omega) (by omega) (by omega) (by omega) (by omega) (by omega) (by omega) (by omega) (by omega) (by omega) (by omega) (by omega) w
theorem Fx (c x y p0 p1 q0 q1:Int) :
 ((c == 0)=false)∨((c == 0)=true/\decide (min p0 q0<=x)=false)∨((c == 0)=true/\min p0 q0<=x/\decide (x<=max p0 q0)=false)∨((c == 0)=true/\min p0 q0<=x/\x<=max p0 q0/\decide (min p1 q1<=y)=false) ∨
 ((c == 0)=true/\min p0 q0<=x/\x<=max p0 q0/\min p1 q1<=y/\decide (y<=max p1 q1)=false)∨((c == 0)=true/\min p0 q0<=x/\x<=max p0 q0/\min p1 q1<=y/\y<=max p1 q1):=by
 simp only[decide_eq_false_iff_not,beq_iff_eq,beq_eq_false_iff_ne,ne_eq];omega
theorem JW (s:Value)(G:List (List (Int×Int)))(x y:Int)(b:Bool)(hb:b=true↔OnT G x y)(hn:G.length<=1000000)(hl:∀L∈G,L.length<=1000000)(w:World)(hG:RingsL w s G) :
 Calls Tryz.prog 123 #[s,.int .i64 x,.int .i64 y] w fun e w'=>e=.returned (.bool b)/\Below w.heap.size w w':=by
 have PC:=ab (mD s G hn hl w hG);have HG:=ab hG;obtain⟨p,cap,hs,-,-⟩:=hG;obtain⟨m,em⟩:∃m,G.length=m:=⟨_,rfl⟩
 have EM:=ab em;rw[em]at hs;subst hs;have HBb:=ab hb;clear em hb;by_cases hok:bv G
 · have PC2:Hid (Calls Tryz.prog 17 #[.slice p m cap] w fun e w'=>e=.returned (.int .i64 0)/\Below w.heap.size w w'):=ab (PC.out.mono fun e w' ⟨⟨t,he,ht⟩,hb⟩=>⟨by rw[he,(bV ht).2 hok],hb⟩);have OK:=ab (bI.1 hok);have hm20:m<=20:=by have:=OK.out.1;rw[EM.out]at this;exact this
   clear PC;by_cases hf:ct x y
   · have FA:=ab fun w=>uE hf w;have hbf:b=false:=by
      cases hb1:b with
      | false=>rfl
      | true=>exact absurd hf (HBb.out.1 hb1).2.1
     subst hbf;clear hf hok
     go_enter Tryz.func123,Tryz.ntmps123
     go_wp2_with fail;refine PC2.out.mono ?_;rintro e w1 ⟨rfl,b1⟩;go_wp2_with fail;refine(FA.out _).mono ?_;rintro e w2 ⟨rfl,rfl⟩;go_wp2_with fail;go_ret;exact⟨rfl,b1⟩
   · have FA:=ab fun w=>yX hf w;have HF:=ab hf;have xy: -2147483648<=x/\x<=2147483648∧-2147483648<=y/\y<=2147483648:=by unfold ct at hf;omega
     obtain⟨x1',x2',y1',y2'⟩:=xy;have HB2:Hid (b=true↔0<onG G x y):=ab (HBb.out.trans ⟨fun h=>h.2.2,fun h=>⟨hok,hf,h⟩⟩);clear HBb hf hok
     go_enter Tryz.func123,Tryz.ntmps123
     go_wp2_with fail;refine PC2.out.mono ?_;rintro e w1 ⟨rfl,b1⟩;have H1:=ab (HG.out.keep b1);have B1:=ab b1;clear b1 PC2 HG;obtain⟨p',cap',e',-,hc⟩:=H1.out;simp only[Value.slice.injEq]at e';obtain⟨rfl,-,rfl⟩:=e';have HC:=ab hc;clear hc;go_wp2_with fail;refine(FA.out _).mono ?_;rintro e w2 ⟨rfl,rfl⟩;obtain⟨wq,rfl⟩:∃z,z=w2:=⟨_,rfl⟩
     clear FA H1;go_wp2_with fail;go_loopw [7] (fun v7 wr=>∃i:Nat,i<=m/\v7=.int .i64 (i:Int)/\Hid (onG (G.take i) x y=0)/\Hid (Below wq.heap.size wq wr)) (fun v7 _=>m-(intOf v7).toNat)
     case atStart=>exact⟨0,by omega,rfl,ab rfl,ab (Below.refl _ _)⟩
     case round =>
      obtain⟨i,hi,rfl,hZ,hB⟩:=hrel;by_cases him:i<m
      · have him':(i:Int)<(m:Int):=by omega
        have hiG:i<G.length:=by rw[EM.out];exact him
        obtain⟨g,o,s,rfl,z0,hR⟩:=HC.out i hiG;replace z0:=aa hB.out z0;replace hR:=hR.keep hB.out;obtain⟨pR,cR,rfl,-,hcR⟩:=hR;have HCR:=ab hcR;have hmem:=List.getElem_mem hiG;have IW:=ab (OK.out.2.2.2.2 _ hmem);have hlen:=dO hmem;have h500:=OK.out.2.1;have ALL:Hid (0<onN G[i] x y->b=true):=ab fun h=>HB2.out.2 (by
         have e:=rD x y hiG;have e2:onG G x y=onG (G.take (i+1)) x y+onG (G.drop (i+1)) x y:=by rw[←oJ,List.take_append_drop]
         have:=nT x y (G.drop (i+1));rw[hZ.out]at e;omega)
        have NXT:Hid (onN G[i] x y=0->onG (G.take (i+1)) x y=0):=ab fun h=>by rw[rD x y hiG,hZ.out,h];rfl
        obtain⟨R,eR⟩:∃R,G[i]=R:=⟨_,rfl⟩
        rw[eR]at z0 HCR IW hlen ALL NXT;obtain⟨l,el⟩:∃l,R.length=l:=⟨_,rfl⟩
        have EL:=ab el;rw[el]at z0 hlen;have hl500:l<=500:=by omega
        clear hcR hmem h500 hlen eR el hZ;go_wp2_with fail;clear z0;obtain⟨wi,rfl⟩:∃z,z=wr:=⟨_,rfl⟩
        go_loopw [9] (fun v9 wr=>∃k:Nat,k<=l/\v9=.int .i64 (k:Int)/\Hid (fD (fun p q=>bi (onB p q x y)) R k=0)/\Hid (Below wi.heap.size wi wr)) (fun v9 _=>l-(intOf v9).toNat)
        case atStart=>exact⟨0,by omega,rfl,ab rfl,ab (Below.refl _ _)⟩
        case round =>
         obtain⟨k,hk,rfl,hP,hX⟩:=hrel;by_cases hkl:k<l
         · have hkl':(k:Int)<(l:Int):=by omega
           have hl0:¬((l:Int)=0):=by omega
           have hl00:((l:Int) == 0)=false:=by simp;omega
           have hkR:k<R.length:=by rw[EL.out];exact hkl
           obtain⟨j,ej,hj,ej1,ej2⟩:=oH hkl;have hjR:j<R.length:=by rw[EL.out];exact hj
           have hj':(j:Int)<(l:Int):=by omega
           obtain⟨g',o',rfl,x0,x1⟩:=HCR.out k hkR;obtain⟨g2,o2,e',y0,y1⟩:=HCR.out j hjR;simp only[Option.some.injEq,Addr.mk.injEq,and_true]at e';obtain⟨rfl,rfl⟩:=e';replace x0:=aa hX.out x0;replace x1:=aa hX.out x1;replace y0:=aa hX.out y0;replace y1:=aa hX.out y1;have hg:=World.block_lt_of_cell? _ _ x0;have CR:=ab fun w=>qR (IW.out _ (List.getElem_mem hkR)) (IW.out _ (List.getElem_mem hjR)) HF.out w;have NX:Hid (fD (fun p q=>bi (onB p q x y)) R (k+1)=bi (onB R[k] R[j] x y)):=ab (by
            rw[kB,gh hkR,EL.out,ej,gh hjR,hP.out];omega)
           have POS:Hid (onB R[k] R[j] x y=true->b=true):=ab fun h=>ALL.out (Fw.2 ⟨k,hkR,by rw[gh hkR,EL.out,ej,gh hjR];exact h⟩);have ON:Hid (onB R[k] R[j] x y=true↔sgn (crs R[k] R[j] x y)=0/\min R[k].1 R[j].1<=x/\x<=max R[k].1 R[j].1/\min R[k].2 R[j].2<=y/\y<=max R[k].2 R[j].2):=ab (by rw[Dt];exact ji);clear ej hP;generalize sgn (crs R[k] R[j] x y)=c at *;generalize onB R[k] R[j] x y=ob at *;generalize R[k].1=p0 at *;generalize R[k].2=p1 at *;generalize R[j].1=q0 at *;generalize R[j].2=q1 at *;have hw:=Fx c x y p0 p1 q0 q1;go_wp2_with fail
           go_cut [10,11]from 30 to 89 (fun v10 v11 wx=>∃P Q:Nat,v10=.pointer (some ⟨P,0,none⟩)/\v11=.pointer (some ⟨Q,0,none⟩)/\wx.cell? ⟨P,0,none⟩=some (.int .i64 p0)/\wx.cell? ⟨P,1,none⟩=some (.int .i64 p1)/\wx.cell? ⟨Q,0,none⟩=some (.int .i64 q0)/\wx.cell? ⟨Q,1,none⟩=some (.int .i64 q1)/\Below wr.heap.size wr wx)
           case first =>
            clear hw
            go_big_region
            all_goals
             go_wp2;go_meet
             first
              | exact⟨wr.heap.size,wr.heap.size+1,rfl,rfl,by go_simp,by go_simp,by go_simp,by go_simp,by go_grown⟩
              | exact⟨wr.heap.size+1,wr.heap.size,rfl,rfl,by go_simp,by go_simp,by go_simp,by go_simp,by go_grown⟩
           case rest =>
            clear x0 x1 y0 y1 hg;obtain⟨P,Q,rfl,rfl,m0,m1,n0,n1,hX2⟩:=hcut;have hX3:=ab (ae hX.out hX2);clear hX hX2;go_wp2_with fail;refine(CR.out _).mono ?_;rintro e w3 ⟨rfl,b3⟩;replace m0:=aa b3 m0;replace m1:=aa b3 m1;replace n0:=aa b3 n0;replace n1:=aa b3 n1;have hX4:=ab (ae hX3.out b3);clear hX3 b3 CR;have hcase:(ob=true/\((c == 0)=true/\min p0 q0<=x/\x<=max p0 q0/\min p1 q1<=y/\y<=max p1 q1))∨ob=false:=by
             cases hob:ob with
             | false=>exact .inr rfl
             | true=>exact .inl ⟨rfl,by have:=ON.out.1 hob;simp only[beq_iff_eq];exact this⟩
            rcases hcase with⟨rfl,h1,h2,h3,h4,h5⟩ | rfl
            · have hbt:=POS.out rfl;subst hbt;clear hw ON NX POS;go_wp2_with fail;go_ret;exact⟨rfl,ae B1.out (ae hB.out hX4.out)⟩
            · have hP2:Hid (fD (fun p q=>bi (onB p q x y)) R (k+1)=0):=ab (by rw[NX.out];rfl);have hnot:¬((c == 0)=true/\min p0 q0<=x/\x<=max p0 q0/\min p1 q1<=y/\y<=max p1 q1):=fun h=>by
               have:=ON.out.2 ⟨by simpa using h.1,h.2⟩;cases this
              clear ON NX POS;rcases hw with h1 | ⟨h1,h2⟩ | ⟨h1,h2,h3⟩ | ⟨h1,h2,h3,h4⟩ | ⟨h1,h2,h3,h4,h5⟩ | h1
              · clear hnot;go_wp2_with fail;go_roundw
                case rel=>exact⟨k+1,by omega,by go_num,hP2,hX4⟩
                case measure=>simp[intOf];omega
              · clear hnot;go_wp2_with fail;go_roundw
                case rel=>exact⟨k+1,by omega,by go_num,hP2,hX4⟩
                case measure=>simp[intOf];omega
              · clear hnot;go_wp2_with fail;go_roundw
                case rel=>exact⟨k+1,by omega,by go_num,hP2,hX4⟩
                case measure=>simp[intOf];omega
              · clear hnot;go_wp2_with fail;go_roundw
                case rel=>exact⟨k+1,by omega,by go_num,hP2,hX4⟩
                case measure=>simp[intOf];omega
              · clear hnot;go_wp2_with fail;go_roundw
                case rel=>exact⟨k+1,by omega,by go_num,hP2,hX4⟩
                case measure=>simp[intOf];omega
              · exact absurd h1 hnot
         · obtain rfl:k=l:=by omega
           have hkl':decide ((k:Int)<(k:Int))=false:=by simp
           have hZ2:=ab (NXT.out (by rw[←EL.out]at hP;exact hP.out));have hB2:=ab (ae hB.out hX.out);clear hP hX hkl hB;go_wp2_with fail;go_roundw
           case rel=>exact⟨i+1,by omega,by go_num,hZ2,hB2⟩
           case measure=>simp[intOf];omega
      · obtain rfl:i=m:=by omega
        have him':decide ((i:Int)<(i:Int))=false:=by simp
        have hbf:b=false:=by
         cases hb1:b with
         | false=>rfl
         | true =>
          have h:=HB2.out.1 hb1;have e:G.take i=G:=List.take_of_length_le (by rw[EM.out];omega);have h2:=hZ.out;rw[e]at h2;omega
        subst hbf;clear hZ him;go_wp2_with fail;go_ret;exact⟨rfl,ae B1.out hB.out⟩
 · have hbf:b=false:=by
    cases hb1:b with
    | false=>rfl
    | true=>exact absurd (HBb.out.1 hb1).1 hok
   subst hbf;have PC2:Hid (Calls Tryz.prog 17 #[.slice p m cap] w fun e w'=>(∃t,e=.returned (.int .i64 t)/\(t != 0)=true)/\Below w.heap.size w w'):=ab (PC.out.mono fun e w' ⟨⟨t,he,ht⟩,hb⟩=>⟨⟨t,he,by simp;exact fun e=>hok ((bV ht).1 e)⟩,hb⟩);clear PC hok HG
   go_enter Tryz.func123,Tryz.ntmps123
   go_wp2_with fail;refine PC2.out.mono ?_;rintro e w1 ⟨⟨t,rfl,ht⟩,b1⟩;go_wp2_with fail;go_ret;exact⟨rfl,b1⟩
theorem Bx.snoc {C:List (Int×Int)}{a1 a2 b1 b2:Int}{p:Int×Int}(h:Bx C (a1,a2) (b1,b2)):Bx (C++[p]) (min a1 p.1,min a2 p.2) (max b1 p.1,max b2 p.2):=by
 obtain⟨h0,⟨q1,m1,e1⟩,⟨q2,m2,e2⟩,⟨q3,m3,e3⟩,q4,m4,e4⟩:=h;have hp:p∈C++[p]:=List.mem_append.2 (.inr (List.mem_singleton.2 rfl));have hm:∀ {q},q∈C->q∈C++[p]:=fun h=>List.mem_append.2 (.inl h);dsimp only at *;refine⟨fun q hq=>?_,?_,?_,?_,?_⟩
 · rcases List.mem_append.1 hq with h | h
   · have:=h0 q h;dsimp only;omega
   · rw[List.mem_singleton.1 h];dsimp only;omega
 · by_cases h:a1<=p.1
   · exact⟨q1,hm m1,by dsimp only;omega⟩
   · exact⟨p,hp,by dsimp only;omega⟩
 · by_cases h:a2<=p.2
   · exact⟨q2,hm m2,by dsimp only;omega⟩
   · exact⟨p,hp,by dsimp only;omega⟩
 · by_cases h:p.1<=b1
   · exact⟨q3,hm m3,by dsimp only;omega⟩
   · exact⟨p,hp,by dsimp only;omega⟩
 · by_cases h:p.2<=b2
   · exact⟨q4,hm m4,by dsimp only;omega⟩
   · exact⟨p,hp,by dsimp only;omega⟩
theorem Bx.same {C D:List (Int×Int)}{lo hi:Int×Int}(h:Bx C lo hi)(e:∀p,p∈C↔p∈D):Bx D lo hi:=by
 obtain⟨h0,⟨q1,m1,e1⟩,⟨q2,m2,e2⟩,⟨q3,m3,e3⟩,q4,m4,e4⟩:=h;exact⟨fun p hp=>h0 p ((e p).2 hp),⟨q1,(e _).1 m1,e1⟩,⟨q2,(e _).1 m2,e2⟩,⟨q3,(e _).1 m3,e3⟩,q4,(e _).1 m4,e4⟩
theorem Bx.one' (p:Int×Int):Bx [p] (p.1,p.2) (p.1,p.2) :=
 ⟨fun q hq=>by rw[List.mem_singleton.1 hq];exact⟨Int.le_refl _,Int.le_refl _,Int.le_refl _,Int.le_refl _⟩,⟨p,List.mem_singleton.2 rfl,rfl⟩,⟨p,List.mem_singleton.2 rfl,rfl⟩,⟨p,List.mem_singleton.2 rfl,rfl⟩,p,List.mem_singleton.2 rfl,rfl⟩
theorem zP (s:Value)(G:List (List (Int×Int)))(hn:G.length<=1000000)(hl:∀L∈G,L.length<=1000000)(w:World)(hG:RingsL w s G) :
 Calls Tryz.prog 18 #[s] w fun e w'=>(∃lo hi:Int×Int,e=.returned (.tuple #[.agg #[.int .i64 lo.1,.int .i64 lo.2],.agg #[.int .i64 hi.1,.int .i64 hi.2]])/\BoxT G lo hi)/\Below w.heap.size w w':=by
 have PC:=ab fun w h=>mD s G hn hl w h;have HG:=ab hG;obtain⟨p,cap,hs,-,hc⟩:=hG;obtain⟨m,em⟩:∃m,G.length=m:=⟨_,rfl⟩
 have EM:=ab em;rw[em]at hs;subst hs;have HC:=ab hc;clear em hc;have B2:=ab (ae (ag w (.cells #[.int .i64 0,.int .i64 0] 26)) (ag _ (.cells #[.int .i64 0,.int .i64 0] 26)));have PC2:=ab (PC.out _ (HG.out.keep B2.out));clear PC HG;by_cases hok:bv G
 · have OK:=ab (bI.1 hok);have PC3:=ab (PC2.out.mono fun e w' ⟨⟨t,he,ht⟩,hb⟩=>(⟨by rw[he,(bV ht).2 hok],hb⟩:e=Ending.returned (.int .i64 0)/\_));have hm0:0<m:=by
    have:=OK.out.2.2.1;rw[←EM.out];exact List.length_pos_iff.2 this
   have h0G:0<G.length:=by rw[EM.out];exact hm0
   have h3:=OK.out.2.2.2.1 _ (List.getElem_mem h0G);have HOK:=ab hok;clear PC2 hok
   go_enter Tryz.func18,Tryz.ntmps18
   go_wp2_with fail;refine PC3.out.mono ?_;rintro e w1 ⟨rfl,b1⟩;have B3:=ab (ae B2.out b1);have rc:w1.cell? ⟨w.heap.size,0,none⟩=some (.int .i64 0)/\w1.cell? ⟨w.heap.size,1,none⟩=some (.int .i64 0)/\w1.cell? ⟨w.heap.size+1,0,none⟩=some (.int .i64 0)/\w1.cell? ⟨w.heap.size+1,1,none⟩=some (.int .i64 0)/\w1.frozen? ⟨w.heap.size,0,none⟩=false/\w1.frozen? ⟨w.heap.size,1,none⟩=false/\w1.frozen? ⟨w.heap.size+1,0,none⟩=false/\w1.frozen? ⟨w.heap.size+1,1,none⟩=false:=⟨aa b1 (by go_simp),aa b1 (by go_simp),aa b1 (by go_simp),aa b1 (by go_simp),ac b1 (v:=.int .i64 0) (by go_simp) (by go_simp),ac b1 (v:=.int .i64 0) (by go_simp) (by go_simp),ac b1 (v:=.int .i64 0) (by go_simp) (by go_simp),ac b1 (v:=.int .i64 0) (by go_simp) (by go_simp)⟩
   obtain⟨r0,r1,r2,r3,s0',s1',s2',s3'⟩:=rc;clear B2 PC3 b1;obtain⟨g,o,s0,rfl,x0,hR⟩:=HC.out 0 h0G;obtain⟨p0,c0,rfl,-,hc0⟩:=hR;obtain⟨g0,o0,rfl,y0,y1⟩:=hc0 0 (by omega);have hb1:w.heap.size+1<w1.heap.size:=World.block_lt_of_cell? _ _ r2;have hgb:g<w.heap.size:=World.block_lt_of_cell? _ _ x0;have hg0b:g0<w.heap.size:=World.block_lt_of_cell? _ _ y0;replace x0:=aa B3.out x0;replace y0:=aa B3.out y0;replace y1:=aa B3.out y1;simp only[Nat.zero_mul,Nat.add_zero]at x0 y0 y1;obtain⟨l0,el0⟩:∃l0,G[0].length=l0:=⟨_,rfl⟩
   have hg1:g<w1.heap.size:=by omega
   have hg2:g0<w1.heap.size:=by omega
   have I0:=ab (Bx.one' G[0][0]);have M0:Hid (G[0][0]∈G.flatten):=ab (List.mem_flatten.2 ⟨_,List.getElem_mem h0G,List.getElem_mem _⟩);obtain⟨P0,eP0⟩:∃q,G[0][0]=q:=⟨_,rfl⟩
   rw[eP0]at y0 y1 I0 M0;rw[el0]at x0 h3;have hl0:0<(l0:Int):=by omega
   clear hc0 el0 eP0;go_wp2_with fail
   go_cut [4,5]from 9 (fun v4 v5 wx=>∃P Q:Nat,v4=.pointer (some ⟨P,0,none⟩)/\v5=.pointer (some ⟨Q,0,none⟩)/\P≠Q/\w1.heap.size<=P/\w1.heap.size<=Q/\wx.cell? ⟨P,0,none⟩=some (.int .i64 P0.1)/\wx.cell? ⟨P,1,none⟩=some (.int .i64 P0.2)/\wx.cell? ⟨Q,0,none⟩=some (.int .i64 P0.1)/\wx.cell? ⟨Q,1,none⟩=some (.int .i64 P0.2)/\wx.frozen? ⟨P,0,none⟩=false/\wx.frozen? ⟨P,1,none⟩=false/\wx.frozen? ⟨Q,0,none⟩=false/\wx.frozen? ⟨Q,1,none⟩=false/\Below w1.heap.size w1 wx)
   case first =>
    go_big_region
    all_goals
     go_wp2;go_meet
     first
      | exact⟨w1.heap.size,w1.heap.size+1,rfl,rfl,by omega,by omega,by omega,by go_simp,by go_simp,by go_simp,by go_simp,by go_simp,by go_simp,by go_simp,by go_simp,by go_grown⟩
      | exact⟨w1.heap.size+1,w1.heap.size,rfl,rfl,by omega,by omega,by omega,by go_simp,by go_simp,by go_simp,by go_simp,by go_simp,by go_simp,by go_simp,by go_simp,by go_grown⟩
   case rest =>
    clear x0 y0 y1;obtain⟨P,Q,rfl,rfl,hPQ,hP,hQ,m0,m1,n0,n1,f0,f1,f2,f3,hX⟩:=hcut;have hB4:=ab (ae B3.out hX);replace s0':=ac hX r0 s0';replace s1':=ac hX r1 s1';replace s2':=ac hX r2 s2';replace s3':=ac hX r3 s3';replace r0:=aa hX r0;replace r1:=aa hX r1;replace r2:=aa hX r2;replace r3:=aa hX r3;have kP:w.heap.size≠P/\w.heap.size+1≠P/\w.heap.size≠Q/\w.heap.size+1≠Q/\w.heap.size<=P/\w.heap.size<=Q:=by omega
    obtain⟨k1,k2,k3,k4,k5,k6⟩:=kP;clear hX B3 hP hQ hg1 hg2 hgb hg0b hb1 hl0 h3;go_wp2_with fail;go_loopw [6] (fun v6 wr=>∃(i:Nat) (a1 a2 b1 b2:Int),i<=m/\v6=.int .i64 (i:Int)/\wr.cell? ⟨P,0,none⟩=some (.int .i64 a1)/\wr.cell? ⟨P,1,none⟩=some (.int .i64 a2)/\wr.cell? ⟨Q,0,none⟩=some (.int .i64 b1)/\wr.cell? ⟨Q,1,none⟩=some (.int .i64 b2)/\wr.cell? ⟨w.heap.size,0,none⟩=some (.int .i64 0)/\wr.cell? ⟨w.heap.size,1,none⟩=some (.int .i64 0)/\wr.cell? ⟨w.heap.size+1,0,none⟩=some (.int .i64 0)/\wr.cell? ⟨w.heap.size+1,1,none⟩=some (.int .i64 0)/\wr.frozen? ⟨P,0,none⟩=false/\wr.frozen? ⟨P,1,none⟩=false/\wr.frozen? ⟨Q,0,none⟩=false/\wr.frozen? ⟨Q,1,none⟩=false/\wr.frozen? ⟨w.heap.size,0,none⟩=false/\wr.frozen? ⟨w.heap.size,1,none⟩=false/\wr.frozen? ⟨w.heap.size+1,0,none⟩=false/\wr.frozen? ⟨w.heap.size+1,1,none⟩=false/\Hid (Bx (P0 :: (G.take i).flatten) (a1,a2) (b1,b2))/\Hid (Below w.heap.size w wr)) (fun v6 _=>m-(intOf v6).toNat)
    case atStart=>exact⟨0,P0.1,P0.2,P0.1,P0.2,by omega,rfl,m0,m1,n0,n1,r0,r1,r2,r3,f0,f1,f2,f3,s0',s1',s2',s3',ab I0.out,hB4⟩
    case round =>
     clear m0 m1 n0 n1 r0 r1 r2 r3 f0 f1 f2 f3 s0' s1' s2' s3' hB4 I0;obtain⟨i,a1,a2,b1,b2,hi,rfl,m0,m1,n0,n1,r0,r1,r2,r3,f0,f1,f2,f3,s0',s1',s2',s3',hI,hB⟩:=hrel;by_cases him:i<m
     · have him':(i:Int)<(m:Int):=by omega
       have hiG:i<G.length:=by rw[EM.out];exact him
       obtain⟨g',o',s',e',z0,hR⟩:=HC.out i hiG;simp only[Option.some.injEq,Addr.mk.injEq,and_true]at e';obtain⟨rfl,rfl⟩:=e';have hgB:g<w.heap.size:=World.block_lt_of_cell? _ _ z0;have gP:P≠g/\Q≠g:=by omega
       obtain⟨gP,gQ⟩:=gP;obtain⟨pR,cR,rfl,-,hcR⟩:=hR;have HCR:=ab hcR;have hlen:=hl _ (List.getElem_mem hiG);have NXT:Hid ((G.take (i+1)).flatten=(G.take i).flatten++G[i]):=ab (by rw[List.take_succ_eq_append_getElem hiG,List.flatten_append,List.flatten_cons,List.flatten_nil,List.append_nil]);obtain⟨R,eR⟩:∃R,G[i]=R:=⟨_,rfl⟩
       rw[eR]at z0 HCR hlen NXT;obtain⟨l,el⟩:∃l,R.length=l:=⟨_,rfl⟩
       have EL:=ab el;rw[el]at z0 hlen;have Z0:=ab z0;obtain⟨wi,ewi⟩:∃z,z=wr:=⟨_,rfl⟩
       replace z0:=aa hB.out z0;clear hcR eR el;go_wp2_with fail;clear z0;go_loopw [7] (fun v7 wr=>∃(k:Nat) (a1 a2 b1 b2:Int),k<=l/\v7=.int .i64 (k:Int)/\wr.cell? ⟨P,0,none⟩=some (.int .i64 a1)/\wr.cell? ⟨P,1,none⟩=some (.int .i64 a2)/\wr.cell? ⟨Q,0,none⟩=some (.int .i64 b1)/\wr.cell? ⟨Q,1,none⟩=some (.int .i64 b2)/\wr.cell? ⟨w.heap.size,0,none⟩=some (.int .i64 0)/\wr.cell? ⟨w.heap.size,1,none⟩=some (.int .i64 0)/\wr.cell? ⟨w.heap.size+1,0,none⟩=some (.int .i64 0)/\wr.cell? ⟨w.heap.size+1,1,none⟩=some (.int .i64 0)/\wr.frozen? ⟨P,0,none⟩=false/\wr.frozen? ⟨P,1,none⟩=false/\wr.frozen? ⟨Q,0,none⟩=false/\wr.frozen? ⟨Q,1,none⟩=false/\wr.frozen? ⟨w.heap.size,0,none⟩=false/\wr.frozen? ⟨w.heap.size,1,none⟩=false/\wr.frozen? ⟨w.heap.size+1,0,none⟩=false/\wr.frozen? ⟨w.heap.size+1,1,none⟩=false/\Hid (Bx (P0 :: ((G.take i).flatten++R.take k)) (a1,a2) (b1,b2))/\Hid (Below w.heap.size w wr)) (fun v7 _=>l-(intOf v7).toNat)
       case atStart=>exact⟨0,a1,a2,b1,b2,by omega,rfl,m0,m1,n0,n1,r0,r1,r2,r3,f0,f1,f2,f3,s0',s1',s2',s3',ab (by rw[List.take_zero,List.append_nil];exact hI.out),hB⟩
       case round =>
        clear m0 m1 n0 n1 r0 r1 r2 r3 f0 f1 f2 f3 s0' s1' s2' s3' hI hB ewi wi a1 a2 b1 b2;obtain⟨k,a1,a2,b1,b2,hk,rfl,m0,m1,n0,n1,r0,r1,r2,r3,f0,f1,f2,f3,s0',s1',s2',s3',hI,hB⟩:=hrel;have z0:=aa hB.out Z0.out;by_cases hkl:k<l
        · have hkl':(k:Int)<(l:Int):=by omega
          have hkR:k<R.length:=by rw[EL.out];exact hkl
          obtain⟨g',o',rfl,x0,x1⟩:=HCR.out k hkR;have hg'B:g'<w.heap.size:=World.block_lt_of_cell? _ _ x0;have gP':P≠g'/\Q≠g':=by omega
          obtain⟨gP',gQ'⟩:=gP';have hI2:Hid (Bx (P0 :: ((G.take i).flatten++R.take (k+1))) (min a1 R[k].1,min a2 R[k].2) (max b1 R[k].1,max b2 R[k].2)):=ab (by
           rw[List.take_succ_eq_append_getElem hkR,←List.append_assoc,←List.cons_append];exact hI.out.snoc)
          clear hI;generalize R[k].1=p1 at *;generalize R[k].2=p2 at *;have X0:=ab x0;have X1:=ab x1;clear x0 x1;go_wp2_with fail;clear z0;go_loopw [8] (fun v8 wr=>∃(a:Nat) (c1 c2 d1 d2:Int),a<=2/\v8=.int .i64 (a:Int)/\wr.cell? ⟨P,0,none⟩=some (.int .i64 c1)/\wr.cell? ⟨P,1,none⟩=some (.int .i64 c2)/\wr.cell? ⟨Q,0,none⟩=some (.int .i64 d1)/\wr.cell? ⟨Q,1,none⟩=some (.int .i64 d2)/\wr.cell? ⟨w.heap.size,0,none⟩=some (.int .i64 0)/\wr.cell? ⟨w.heap.size,1,none⟩=some (.int .i64 0)/\wr.cell? ⟨w.heap.size+1,0,none⟩=some (.int .i64 0)/\wr.cell? ⟨w.heap.size+1,1,none⟩=some (.int .i64 0)/\wr.frozen? ⟨P,0,none⟩=false/\wr.frozen? ⟨P,1,none⟩=false/\wr.frozen? ⟨Q,0,none⟩=false/\wr.frozen? ⟨Q,1,none⟩=false/\wr.frozen? ⟨w.heap.size,0,none⟩=false/\wr.frozen? ⟨w.heap.size,1,none⟩=false/\wr.frozen? ⟨w.heap.size+1,0,none⟩=false/\wr.frozen? ⟨w.heap.size+1,1,none⟩=false/\Hid ((a=0/\c1=a1/\c2=a2/\d1=b1/\d2=b2)∨(a=1/\c1=min a1 p1/\c2=a2/\d1=max b1 p1/\d2=b2)∨(a=2/\c1=min a1 p1/\c2=min a2 p2/\d1=max b1 p1/\d2=max b2 p2))/\Hid (Below w.heap.size w wr)) (fun v8 _=>2-(intOf v8).toNat)
          case atStart=>exact⟨0,a1,a2,b1,b2,by omega,rfl,m0,m1,n0,n1,r0,r1,r2,r3,f0,f1,f2,f3,s0',s1',s2',s3',ab (.inl ⟨rfl,rfl,rfl,rfl,rfl⟩),hB⟩
          case round =>
           clear m0 m1 n0 n1 r0 r1 r2 r3 f0 f1 f2 f3 s0' s1' s2' s3' hB;obtain⟨a,c1,c2,d1,d2,ha,rfl,m0,m1,n0,n1,r0,r1,r2,r3,f0,f1,f2,f3,s0',s1',s2',s3',hC,hB⟩:=hrel;rcases hC.out with⟨rfl,rfl,rfl,rfl,rfl⟩ | ⟨rfl,rfl,rfl,rfl,rfl⟩ | ⟨rfl,rfl,rfl,rfl,rfl⟩
           · clear hC;have z0:=aa hB.out Z0.out;have x0:=aa hB.out X0.out;go_wp2_with fail
             go_big_region
             all_goals
              go_wp2_with fail
              go_big_region
              all_goals
               go_wp2_with fail;go_roundw
               case rel=>exact⟨1,_,_,_,_,by omega,by go_num,by go_simp,by go_simp,by go_simp,by go_simp,by go_simp,by go_simp,by go_simp,by go_simp,by go_simp,by go_simp,by go_simp,by go_simp,by go_simp,by go_simp,by go_simp,by go_simp,ab (.inr (.inl ⟨rfl,rfl,rfl,rfl,rfl⟩)),ab (by have:=hB.out;go_grown)⟩
               case measure=>simp[intOf]
           · clear hC;have z0:=aa hB.out Z0.out;have x1:=aa hB.out X1.out;go_wp2_with fail
             go_big_region
             all_goals
              go_wp2_with fail
              go_big_region
              all_goals
               go_wp2_with fail;go_roundw
               case rel=>exact⟨2,_,_,_,_,by omega,by go_num,by go_simp,by go_simp,by go_simp,by go_simp,by go_simp,by go_simp,by go_simp,by go_simp,by go_simp,by go_simp,by go_simp,by go_simp,by go_simp,by go_simp,by go_simp,by go_simp,ab (.inr (.inr ⟨rfl,rfl,rfl,rfl,rfl⟩)),ab (by have:=hB.out;go_grown)⟩
               case measure=>simp[intOf]
           · have h22:decide (((2:Nat):Int)<2)=false:=by decide
             clear hC;go_wp2_with fail;go_roundw
             case rel=>exact⟨k+1,_,_,_,_,by omega,by go_num,m0,m1,n0,n1,r0,r1,r2,r3,f0,f1,f2,f3,s0',s1',s2',s3',hI2,hB⟩
             case measure=>simp[intOf];omega
        · obtain rfl:k=l:=by omega
          have hkl':decide ((k:Int)<(k:Int))=false:=by simp
          have hI2:Hid (Bx (P0 :: (G.take (i+1)).flatten) (a1,a2) (b1,b2)):=ab (by
           rw[NXT.out];have:=hI.out;rw[←EL.out,List.take_length]at this;exact this)
          clear hI hkl;go_wp2_with fail;go_roundw
          case rel=>exact⟨i+1,a1,a2,b1,b2,by omega,by go_num,m0,m1,n0,n1,r0,r1,r2,r3,f0,f1,f2,f3,s0',s1',s2',s3',hI2,hB⟩
          case measure=>simp[intOf];omega
     · obtain rfl:i=m:=by omega
       have him':decide ((i:Int)<(i:Int))=false:=by simp
       have hT:Hid (BoxT G (a1,a2) (b1,b2)):=ab (.inl ⟨HOK.out,by
        have:=hI.out;rw[←EM.out,List.take_length]at this;refine this.same fun p=>⟨fun h=>?_,fun h=>List.mem_cons_of_mem _ h⟩
        rcases List.mem_cons.1 h with rfl | h
        · exact M0.out
        · exact h⟩)
       clear hI him HOK M0;go_wp2_with fail
       go_big_region
       all_goals
        go_wp2_with fail;exact bodyPost_ret (v:=.tuple #[.agg #[.int .i64 a1,.int .i64 a2],.agg #[.int .i64 b1,.int .i64 b2]]) (by simp[results,Tryz.results18,go_sem,r0,r1,r2,r3]) rfl ⟨⟨(a1,a2),(b1,b2),rfl,hT.out⟩,by have:=hB.out;go_grown⟩
 · have HN:Hid (BoxT G (0,0) (0,0)):=ab (.inr ⟨hok,rfl,rfl⟩);have PC3:=ab (PC2.out.mono fun e w' ⟨⟨t,he,ht⟩,hb⟩=>(⟨⟨t,he,by simp only[bne_iff_ne,ne_eq];rw[bV ht];exact hok⟩,hb⟩:(∃t:Int,e=Ending.returned (.int .i64 t)/\(t != 0)=true)/\_));clear PC2 HC EM hn hl hok
   go_enter Tryz.func18,Tryz.ntmps18
   go_wp2_with fail;refine PC3.out.mono ?_;rintro e w1 ⟨⟨t,rfl,ht⟩,b1⟩;have B3:=ab (ae B2.out b1);have rc:w1.cell? ⟨w.heap.size,0,none⟩=some (.int .i64 0)/\w1.cell? ⟨w.heap.size,1,none⟩=some (.int .i64 0)/\w1.cell? ⟨w.heap.size+1,0,none⟩=some (.int .i64 0)/\w1.cell? ⟨w.heap.size+1,1,none⟩=some (.int .i64 0)/\w1.frozen? ⟨w.heap.size,0,none⟩=false/\w1.frozen? ⟨w.heap.size,1,none⟩=false/\w1.frozen? ⟨w.heap.size+1,0,none⟩=false/\w1.frozen? ⟨w.heap.size+1,1,none⟩=false:=⟨aa b1 (by go_simp),aa b1 (by go_simp),aa b1 (by go_simp),aa b1 (by go_simp),ac b1 (v:=.int .i64 0) (by go_simp) (by go_simp),ac b1 (v:=.int .i64 0) (by go_simp) (by go_simp),ac b1 (v:=.int .i64 0) (by go_simp) (by go_simp),ac b1 (v:=.int .i64 0) (by go_simp) (by go_simp)⟩
   obtain⟨r0,r1,r2,r3,s0',s1',s2',s3'⟩:=rc;clear B2 PC3 b1;go_wp2_with fail;exact bodyPost_ret (v:=.tuple #[.agg #[.int .i64 0,.int .i64 0],.agg #[.int .i64 0,.int .i64 0]]) (by simp[results,Tryz.results18,go_sem,r0,r1,r2,r3]) rfl ⟨⟨(0,0),(0,0),rfl,HN.out⟩,by have:=B3.out;go_grown⟩
end Go.Proofs.YtbnlhdnnenahfaaGreatDoor
namespace Go.Proofs.YtbnlhdnnenahfaaGreatDoor
def inR (L:List (Int×Int))(x y:Int):Prop:=0<onN L x y∨crN L x y%2=1
theorem Ex {a b c d x y:Int}:inR (cE a b c d) x y↔min a c<=x/\x<=max a c/\min b d<=y/\y<=max b d:=by
 unfold inR;by_cases h:a=c∨b=d
 · rw[AZ h];constructor
   · exact fun k=>k.1
   · intro k;refine⟨k,qL.2 ⟨k,?_⟩⟩;omega
 · exact Hc (by omega) (by omega)
end Go.Proofs.YtbnlhdnnenahfaaGreatDoor
namespace Go.Proofs.YtbnlhdnnenahfaaGreatDoor
open Go.RowKit
def dS:List (Int×Int)->List Value
 | []=>[]
 | p :: L=>.int .i64 p.1 :: .int .i64 p.2 :: dS L
theorem po (a b:Int):∀L:List (Int×Int),dS (L++[(a,b)])=dS L++[.int .i64 a,.int .i64 b]
 | []=>rfl
 | p :: L=>by show _ :: _ :: dS (L++[(a,b)])=_;rw[po a b L];rfl
theorem ii:∀(L:List (Int×Int)) (j:Nat) (hj:j<L.length),(dS L)[j*2]?=some (.int .i64 L[j].1)/\(dS L)[j*2+1]?=some (.int .i64 L[j].2)
 | p :: L,0,_=>⟨rfl,rfl⟩
 | p :: L,j+1,hj=>by
  have ih:=ii L j (by simpa using hj);rw[show(j+1)*2=j*2+1+1 by omega];exact ih
theorem Dd {w:World}{base n:Nat}{v:Value}{L:List (Int×Int)}(h:w.ownsRow base 26 2 v n (dS L))(hn:L.length=n):RingL w v L:=by
 rcases h.2 with⟨rfl,h0⟩ | ⟨g,cap,cur,rfl,hb,hg,hnc,_⟩
 · exact⟨none,0,by rw[hn,h0],by omega,fun j hj=>by omega⟩
 · refine⟨_,cap,by rw[hn],by omega,fun j hj=>⟨g,0,rfl,?_,?_⟩⟩
   · rw[Nat.zero_add,h.cellAt (j*2) (by omega),(ii L j hj).1]
   · rw[Nat.zero_add,h.cellAt (j*2+1) (by omega),(ii L j hj).2]
theorem Jl:(Tryz.prog.info? 26).map (fun i=>(i.zero,i.size,i.bytes))=some (some (.agg #[.int .i64 0,.int .i64 0]),2,16):=by kernel_rfl
theorem Jm:(Tryz.prog.info? 27).map (fun i=>(i.zero,i.size,i.bytes))=some (some (.slice none 0 0),1,24):=by kernel_rfl
def RowsP (w:World)(base:Nat)(v:Value)(G:List (List (Int×Int)))(S:List Value):Prop :=
 S.length=G.length/\w.ownsRow base 27 1 v G.length S/\∀(j:Nat) (hj:j<S.length) (hG:j<G.length),w.ownsRow base 26 2 S[j] G[j].length (dS G[j])
theorem RowsP.nil' (w:World)(base:Nat):RowsP w base (.slice none 0 0) [] []:=⟨rfl,World.ownsRow_nil _ _ _ _,fun _ hj=>absurd hj (Nat.not_lt_zero _)⟩
theorem RowsP.keep {w w':World}{base:Nat}{v:Value}{G:List (List (Int×Int))}{S:List Value}(h:RowsP w base v G S)(hb:Below w.heap.size w w'):RowsP w' base v G S :=
 ⟨h.1,ai hb h.2.1,fun j hj hG=>ai hb (h.2.2 j hj hG)⟩
theorem kA:(26:TypeId)≠27:=by decide
theorem RowsP.push {w w':World}{base:Nat}{v v' x:Value}{G:List (List (Int×Int))}{S:List Value}{g:List (Int×Int)}(h:RowsP w base v G S)(hx:w.ownsRow base 26 2 x g.length (dS g))
 (ho:w'.ownsRow base 27 1 v' (G.length+1) (S++[x])) (hg:w.grownBy w' v.ownBlock):RowsP w' base v' (G++[g]) (S++[x]):=by
 refine⟨by simp[h.1],by rw[List.length_append];exact ho,fun j hj hG=>?_⟩;have kx:=hx.kept hg (nU hx h.2.1 kA).kept;by_cases hj2:j<S.length
 · have hj3:j<G.length:=by rw[←h.1];exact hj2
   have:=h.2.2 j hj2 hj3;have k:=this.kept hg (nU this h.2.1 kA).kept
   simpa[List.getElem_append_left,hj2,hj3]using k
 · have e:j=S.length:=by simp at hj;omega
   subst e;have e2:S.length=G.length:=h.1
   simpa[e2]using kx
theorem RowsP.rings {w:World}{base:Nat}{v:Value}{G:List (List (Int×Int))}{S:List Value}(h:RowsP w base v G S):RingsL w v G:=by
 obtain⟨h1,h2,h3⟩:=h;rcases h2.2 with⟨rfl,h0⟩ | ⟨g,cap,cur,rfl,_,_,hnc,_⟩
 · exact⟨none,0,by rw[h0],by omega,fun j hj=>by omega⟩
 · refine⟨_,cap,rfl,hnc,fun j hj=>?_⟩;have hj2:j<S.length:=by omega
   refine⟨g,0,S[j],rfl,?_,Dd (h3 j hj2 hj) rfl⟩;rw[Nat.zero_add,h2.cellAt j (by omega),List.getElem?_eq_getElem hj2]
theorem DW (w:World)(x y:Int)(e:TypeId):∀j u,([.int .i64 x,.int .i64 y]:List Value)[j]?=some u->(w.alloc (.cells #[.int .i64 x,.int .i64 y] e)).cell? ((⟨w.heap.size,0,none⟩:Addr).add j)=some u:=by
 intro j u hj
 match j,hj with
 | 0,hj=>simp at hj;subst hj;go_simp
 | 1,hj=>simp at hj;subst hj;go_simp
theorem DX (x y:Int):∀u∈([.int .i64 x,.int .i64 y]:List Value),u.oneCell'=true:=by
 intro u hu;simp at hu;rcases hu with rfl | rfl <;>rfl
theorem ry (x z:Int)(hz:0<z):∃U u:Int,bits .and .i64 x 4294967295=U/\0<=U/\U<4294967296/\U%z=u/\U.tmod z=u/\0<=u/\u<z:=by
 have h:=mp x 32 (by omega);rw[show(((2^32-1:Nat)):Int)=4294967295 by decide,show(((2^32:Nat)):Int)=4294967296 by decide]at h;rw[h];refine⟨_,_,rfl,by omega,by omega,rfl,Int.tmod_eq_emod_of_nonneg (by omega),Int.emod_nonneg _ (by omega),Int.emod_lt_of_pos _ hz⟩
theorem ka (w:World)(j:Nat)(xs:Array Value)(e:TypeId):(w.alloc (.cells xs e)).cell? ⟨w.heap.size,j,none⟩=xs[j]? :=
 cell_of_row _ w.heap.size j xs e (0,0) (by show(w.heap.push _)[w.heap.size]?=_;simp)
theorem Cm (w:World)(L:List (Int×Int))(e:TypeId):RingL (w.alloc (.cells (dS L).toArray e)) (.slice (some ⟨w.heap.size,0,none⟩) L.length L.length) L:=by
 refine⟨_,_,rfl,Nat.le_refl _,fun j hj=>⟨w.heap.size,0,rfl,?_,?_⟩⟩
 · rw[Nat.zero_add,ka,List.getElem?_toArray,(ii L j hj).1]
 · rw[Nat.zero_add,ka,List.getElem?_toArray,(ii L j hj).2]
theorem zi (w:World)(G:List (List (Int×Int)))(S:List Value)(e:TypeId)(hs:S.length=G.length)(h:∀(j:Nat) (hj:j<S.length) (hG:j<G.length),RingL w S[j] G[j]):RingsL (w.alloc (.cells S.toArray e)) (.slice (some ⟨w.heap.size,0,none⟩) G.length G.length) G:=by
 refine⟨_,_,rfl,Nat.le_refl _,fun j hj=>⟨w.heap.size,0,S[j]'(by omega),rfl,?_,?_⟩⟩
 · rw[Nat.zero_add,ka,List.getElem?_toArray,List.getElem?_eq_getElem (by omega)]
 · exact(h j (by omega) hj).keep (ag w _)
theorem wU (w:World)(L:List (Int×Int))(s:Value)(e:TypeId)(h:RingL w s L):RingsL (w.alloc (.cells #[s] e)) (.slice (some ⟨w.heap.size,0,none⟩) 1 1) [L] :=
 zi w [L] [s] e rfl fun j hj _=>by
  have:j=0:=by simp at hj;exact hj
  subst this;exact h
theorem Dv (w:World)(o:Obj):(w.alloc o).heap.size=w.heap.size+1:=by simp
theorem nC (w:World)(o:Obj)(L:List (Int×Int))(s:Value)(e:TypeId)(h:RingL (w.alloc o) s L):RingsL ((w.alloc o).alloc (.cells #[s] e)) (.slice (some ⟨w.heap.size+1,0,none⟩) 1 1) [L]:=by
 have k:=wU (w.alloc o) L s e h
 rwa [Dv]at k
theorem zY (w:World):RingsL w (.slice none 0 0) []:=⟨none,0,rfl,Nat.le_refl _,fun _ hj=>absurd hj (Nat.not_lt_zero _)⟩
theorem py {x y:Int}:∀ {G:List (List (Int×Int))},((∀L∈G,∀p∈L,x<p.1)∨(∀L∈G,∀p∈L,p.1<x)∨(∀L∈G,∀p∈L,p.2<y)∨(∀L∈G,∀p∈L,y<p.2))->onG G x y=0/\crG G x y%2=0
 | [],_=>⟨rfl,rfl⟩
 | L :: G,h=>by
  have hG:onG G x y=0/\crG G x y%2=0:=py (by
   rcases h with h | h | h | h
   · exact .inl fun M hM=>h M (List.mem_cons_of_mem _ hM)
   · exact .inr (.inl fun M hM=>h M (List.mem_cons_of_mem _ hM))
   · exact .inr (.inr (.inl fun M hM=>h M (List.mem_cons_of_mem _ hM)))
   · exact .inr (.inr (.inr fun M hM=>h M (List.mem_cons_of_mem _ hM))))
  have hL:onN L x y=0/\crN L x y%2=0:=by
   have m:L∈L :: G:=List.mem_cons_self ..;rcases h with h | h | h | h
   · exact⟨gO (.inl (h L m)),Bd (h L m)⟩
   · exact⟨gO (.inr (.inl (h L m))),by rw[yL (h L m)];rfl⟩
   · exact⟨gO (.inr (.inr (.inl (h L m)))),by rw[Be fun p hp=>by have:=h L m p hp;omega];rfl⟩
   · exact⟨gO (.inr (.inr (.inr (h L m)))),by rw[yM (h L m)];rfl⟩
  show onN L x y+onG G x y=0/\(crN L x y+crG G x y)%2=0
  omega
theorem I9 {a b c d:Int}(ha:0<=a/\a<1073741824)(hb:0<=b/\b<1073741824)(hc:0<=c/\c<1073741824)(hd:0<=d/\d<1073741824):∀p∈cE a b c d,aW p:=fun p hp=>by
 unfold cE at hp;simp only[List.mem_cons,List.not_mem_nil,or_false]at hp;unfold aW;rcases hp with rfl | rfl | rfl | rfl <;>exact⟨by omega,by omega,by omega,by omega⟩
end Go.Proofs.YtbnlhdnnenahfaaGreatDoor
