/-
  What the texts PolyMath, CovMath, CovHex say, so far as this seat's proofs need it.
-/
import Derived.Test.YtbnlhdnnenahfaaGreatDoorMY
namespace Go.Proofs.YtbnlhdnnenahfaaGreatDoor
def bs (h:Nat->Int):Nat->Int
 | 0=>0
 | n+1=>bs h n+h n
theorem jS {h k:Nat->Int}:∀ {n:Nat},(∀i,i<n->h i=k i)->bs h n=bs k n
 | 0,_=>rfl
 | n+1,e=>by
  show bs h n+h n=bs k n+k n
  rw[jS fun i hi=>e i (by omega),e n (by omega)]
theorem qd:∀n:Nat,bs (fun _=>0) n=0
 | 0=>rfl
 | n+1=>by show bs _ n+0=0;rw[qd n];rfl
theorem ss (h k:Nat->Int):∀n:Nat,bs (fun i=>h i+k i) n=bs h n+bs k n
 | 0=>rfl
 | n+1=>by
  show bs (fun i=>h i+k i) n+(h n+k n)=bs h n+h n+(bs k n+k n)
  rw[ss h k n];omega
theorem sw (h:Nat->Int):∀n:Nat,bs (fun i=> -h i) n= -bs h n
 | 0=>rfl
 | n+1=>by
  show bs (fun i=> -h i) n+-h n= -(bs h n+h n)
  rw[sw h n];omega
theorem su (c:Int)(h:Nat->Int):∀n:Nat,bs (fun i=>c*h i) n=c*bs h n
 | 0=>by show(0:Int)=c*0;rw[Int.mul_zero]
 | n+1=>by
  show bs (fun i=>c*h i) n+c*h n=c*(bs h n+h n)
  rw[su c h n,Int.mul_add]
theorem qc (h:Nat->Int):∀n:Nat,bs h (n+1)=h 0+bs (fun i=>h (i+1)) n
 | 0=>by show 0+h 0=h 0+0;omega
 | n+1=>by
  show bs h (n+1)+h (n+1)=h 0+(bs (fun i=>h (i+1)) n+h (n+1))
  rw[qc h n];omega
theorem Ao (h:Nat->Int):∀n:Nat,bs (fun i=>h ((i+1)%n)) n=bs h n
 | 0=>rfl
 | n+1=>by
  show bs (fun i=>h ((i+1)%(n+1))) n+h ((n+1)%(n+1))=_
  rw[Nat.mod_self,qc,jS (k:=fun i=>h (i+1)) fun i hi=>by rw[Nat.mod_eq_of_lt (by omega)]];omega
theorem iZ {h:Nat->Int}:∀ {n:Nat},(∀i,i<n->0<=h i)->0<=bs h n
 | 0,_=>Int.le_refl 0
 | n+1,e=>by
  have h1:=iZ (n:=n) fun i hi=>e i (by omega);have h2:=e n (by omega);show 0<=bs h n+h n
  omega
theorem sy {h:Nat->Int}:∀ {n:Nat},(∀i,i<n->0<=h i)->(0<bs h n↔∃i,i<n/\0<h i)
 | 0,_=>⟨fun k=>absurd k (by show ¬(0:Int)<0;omega),fun⟨i,hi,_⟩=>absurd hi (Nat.not_lt_zero _)⟩
 | n+1,e=>by
  have h1:=iZ (n:=n) fun i hi=>e i (by omega);have ih:=sy (n:=n) fun i hi=>e i (by omega);have h2:=e n (by omega);show 0<bs h n+h n↔_
  constructor
  · intro k;by_cases c:0<h n
    · exact⟨n,by omega,c⟩
    · obtain⟨i,hi,hp⟩:=ih.1 (by omega);exact⟨i,by omega,hp⟩
  · rintro⟨i,hi,hp⟩;by_cases c:i=n
    · subst c;omega
    · have:=ih.2 ⟨i,by omega,hp⟩;omega
def pt (L:List (Int×Int))(k:Nat):Int×Int:=L.getD k (0,0)
theorem gh {L:List (Int×Int)}{k:Nat}(h:k<L.length):pt L k=L[k]:=by unfold pt;simp[h]
def cyc (f:Int×Int->Int×Int->Int)(L:List (Int×Int)):Int:=bs (fun k=>f (pt L k) (pt L ((k+1)%L.length))) L.length
theorem gr {f g:Int×Int->Int×Int->Int}{L:List (Int×Int)}(h:∀p∈L,∀q∈L,f p q=g p q):cyc f L=cyc g L:=by
 unfold cyc;refine jS fun k hk=>?_;have h2:(k+1)%L.length<L.length:=Nat.mod_lt _ (by omega);rw[gh hk,gh h2];exact h _ (List.getElem_mem hk) _ (List.getElem_mem h2)
theorem uq (f g:Int×Int->Int×Int->Int)(L:List (Int×Int)):cyc (fun p q=>f p q+g p q) L=cyc f L+cyc g L:=ss _ _ _
theorem EP (f:Int×Int->Int×Int->Int)(L:List (Int×Int)):cyc (fun p q=> -f p q) L= -cyc f L:=sw _ _
theorem EO (c:Int)(f:Int×Int->Int×Int->Int)(L:List (Int×Int)):cyc (fun p q=>c*f p q) L=c*cyc f L:=su _ _ _
theorem jq (L:List (Int×Int)):cyc (fun _ _=>0) L=0:=qd _
theorem Bi (g:Int×Int->Int)(L:List (Int×Int)):cyc (fun _ q=>g q) L=cyc (fun p _=>g p) L:=Ao (fun k=>g (pt L k)) L.length
theorem vZ {f:Int×Int->Int×Int->Int}(h:∀p q,0<=f p q)(L:List (Int×Int)):0<=cyc f L:=iZ fun _ _=>h _ _
theorem EU {f:Int×Int->Int×Int->Int}(h:∀p q,0<=f p q)(L:List (Int×Int)):0<cyc f L↔∃k,k<L.length/\0<f (pt L k) (pt L ((k+1)%L.length)):=sy fun _ _=>h _ _
def crs (p q:Int×Int)(x y:Int):Int:=(q.1-p.1)*(y-p.2)-(q.2-p.2)*(x-p.1)
theorem mm (p q:Int×Int)(x y:Int):crs q p x y= -crs p q x y:=by unfold crs;grind
def onB (p q:Int×Int)(x y:Int):Bool:=decide (crs p q x y=0) && (decide (min p.1 q.1<=x) && (decide (x<=max p.1 q.1) && (decide (min p.2 q.2<=y) && decide (y<=max p.2 q.2))))
theorem ji {p q:Int×Int}{x y:Int}:onB p q x y=true↔crs p q x y=0/\min p.1 q.1<=x/\x<=max p.1 q.1/\min p.2 q.2<=y/\y<=max p.2 q.2:=by
 unfold onB;simp only[Bool.and_eq_true,decide_eq_true_eq]
def crB (p q:Int×Int)(x y:Int):Bool:=(decide (p.2<=y) && (decide (y<q.2) && decide (0<crs p q x y))) || (decide (y<p.2) && (decide (q.2<=y) && decide (crs p q x y<0)))
theorem dw {p q:Int×Int}{x y:Int}:crB p q x y=true↔(p.2<=y/\y<q.2/\0<crs p q x y)∨(y<p.2/\q.2<=y/\crs p q x y<0):=by
 unfold crB;simp only[Bool.or_eq_true,Bool.and_eq_true,decide_eq_true_eq]
theorem qJ {a b:Bool}(h:a=true↔b=true):a=b:=by cases a <;>cases b <;>simp_all
def bi (b:Bool):Int:=if b then 1 else 0
theorem qI (b:Bool):0<=bi b/\bi b<=1:=by cases b <;>decide
theorem Hb (b:Bool):0<bi b↔b=true:=by cases b <;>decide
def onN (L:List (Int×Int))(x y:Int):Int:=cyc (fun p q=>bi (onB p q x y)) L
def crN (L:List (Int×Int))(x y:Int):Int:=cyc (fun p q=>bi (crB p q x y)) L
theorem xe (L:List (Int×Int))(x y:Int):0<=onN L x y:=vZ (fun _ _=>(qI _).1) L
theorem Fw {L:List (Int×Int)}{x y:Int}:0<onN L x y↔∃k,k<L.length/\onB (pt L k) (pt L ((k+1)%L.length)) x y=true:=by
 unfold onN;rw[EU fun _ _=>(qI _).1];simp only[Hb]
def lin (p q:Int×Int)(X Y M:Int):Int:=(q.1-p.1)*(Y-M*p.2)-(q.2-p.2)*(X-M*p.1)
theorem ld (p q:Int×Int)(x y:Int):lin p q x y 1=crs p q x y:=by unfold lin crs;rw[Int.one_mul,Int.one_mul]
theorem mr (p q:Int×Int)(a b X Y M X' Y' M':Int):lin p q (a*X+b*X') (a*Y+b*Y') (a*M+b*M')=a*lin p q X Y M+b*lin p q X' Y' M':=by unfold lin;grind
def nx (i:Nat):Nat:=(i+1)%6
theorem nN (i:Nat):nx i<6:=Nat.mod_lt _ (by omega)
def InK (h:Nat->Int×Int)(X Y M:Int):Prop:=∀i,i<6->0<=lin (h i) (h (nx i)) X Y M
theorem InK.comb {h:Nat->Int×Int}{X Y M X' Y' M' a b:Int}(k:InK h X Y M)(k':InK h X' Y' M')(ha:0<=a)(hb:0<=b):InK h (a*X+b*X') (a*Y+b*Y') (a*M+b*M'):=fun i hi=>by
 rw[mr];have h1:=Int.mul_nonneg ha (k i hi);have h2:=Int.mul_nonneg hb (k' i hi);omega
def Bent (h:Nat->Int×Int):Prop:=(∀i,i<6->∀j,j<6->0<=crs (h i) (h (nx i)) (h j).1 (h j).2)/\∀i,i<6->0<crs (h i) (h (nx i)) (h (nx (nx i))).1 (h (nx (nx i))).2
theorem Bent.corner {h:Nat->Int×Int}(k:Bent h){j:Nat}(hj:j<6):InK h (h j).1 (h j).2 1:=fun i hi=>by rw[ld];exact k.1 i hi j hj
theorem DV {P:Nat->Prop}(h1:∃i,i<6/\P i)(h2:∃j,j<6/\¬P j):∃i,i<6/\P i/\¬P (nx i):=by
 by_cases h:∃i,i<6/\P i/\¬P (nx i)
 · exact h
 · exfalso
   have s:∀i,i<6->P i->P (nx i):=fun i hi hp=>by
    by_cases c:P (nx i)
    · exact c
    · exact absurd ⟨i,hi,hp,c⟩ h
   have s0:P 0->P 1:=s 0 (by omega);have s1:P 1->P 2:=s 1 (by omega);have s2:P 2->P 3:=s 2 (by omega);have s3:P 3->P 4:=s 3 (by omega);have s4:P 4->P 5:=s 4 (by omega);have s5:P 5->P 0:=s 5 (by omega);obtain⟨i,hi,hp⟩:=h1;obtain⟨j,hj,hn⟩:=h2;have p0:P 0:=by
    obtain rfl | rfl | rfl | rfl | rfl | rfl:i=0∨i=1∨i=2∨i=3∨i=4∨i=5:=by omega
    · exact hp
    · exact s5 (s4 (s3 (s2 (s1 hp))))
    · exact s5 (s4 (s3 (s2 hp)))
    · exact s5 (s4 (s3 hp))
    · exact s5 (s4 hp)
    · exact s5 hp
   obtain rfl | rfl | rfl | rfl | rfl | rfl:j=0∨j=1∨j=2∨j=3∨j=4∨j=5:=by omega
   · exact hn p0
   · exact hn (s0 p0)
   · exact hn (s1 (s0 p0))
   · exact hn (s2 (s1 (s0 p0)))
   · exact hn (s3 (s2 (s1 (s0 p0))))
   · exact hn (s4 (s3 (s2 (s1 (s0 p0)))))
theorem JV {h:Nat->Int×Int}(hk:Bent h){cx cy:Int}(hx:∃i,i<6/\cx<=(h i).1)(hy:∃i,i<6/\cy<=(h i).2)
 (he:∀i,i<6->∃s t:Int,0<=s/\0<=t/\0<=crs (h i) (h (nx i)) (cx+s) (cy+t)):∃X Y M:Int,0<M/\InK h X Y M/\M*cx<=X/\M*cy<=Y:=by
 obtain⟨k,hk6,hky⟩:=hy;by_cases hkx:cx<=(h k).1
 · exact⟨_,_,1,by omega,hk.corner hk6,by omega,by omega⟩
 · obtain⟨i,hi,hp,hq⟩:=DV (P:=fun i=>cx<=(h i).1) hx ⟨k,hk6,hkx⟩;have hv:=hk.1 i hi k hk6;have hb:=hk.corner hi;have hb':=hk.corner (nN i);obtain⟨s,t,hs,ht,hst⟩:=he i hi;by_cases hpy:cy<=(h i).2
   · exact⟨_,_,1,by omega,hb,by omega,by omega⟩
   · generalize h (nx i)=q at *;generalize h i=p at *;generalize h k=v at *;by_cases hL:0<=crs p q cx cy
     · have hc:=hb.comb hb' (a:=cx-q.1) (b:=p.1-cx) (by omega) (by omega);refine⟨_,_,_,?_,hc,?_,?_⟩
       · omega
       · have e:(cx-q.1)*p.1+(p.1-cx)*q.1=((cx-q.1)*1+(p.1-cx)*1)*cx:=by grind
         omega
       · have e:(cx-q.1)*p.2+(p.1-cx)*q.2-((cx-q.1)*1+(p.1-cx)*1)*cy=crs p q cx cy:=by unfold crs;grind
         omega
     · exfalso
       by_cases hd:q.2<p.2
       · have h1:=Int.mul_neg_of_neg_of_pos (a:=q.1-p.1) (b:=v.2-p.2) (by omega) (by omega);have h2:=Int.mul_pos_of_neg_of_neg (a:=q.2-p.2) (b:=v.1-p.1) (by omega) (by omega);unfold crs at hv;omega
       · have e:crs p q (cx+s) (cy+t)=crs p q cx cy-(p.1-q.1)*t-(q.2-p.2)*s:=by unfold crs;grind
         have h1:=Int.mul_nonneg (a:=p.1-q.1) (b:=t) (by omega) ht;have h2:=Int.mul_nonneg (a:=q.2-p.2) (b:=s) (by omega) hs;omega
def rot (h:Nat->Int×Int):Nat->Int×Int:=fun i=>((h i).2,-(h i).1)
theorem g9 (h:Nat->Int×Int)(i j:Nat)(x y:Int):crs (rot h i) (rot h j) y (-x)=crs (h i) (h j) x y:=by unfold crs rot;grind
theorem lw (h:Nat->Int×Int)(i j:Nat)(X Y M:Int):lin (rot h i) (rot h j) Y (-X) M=lin (h i) (h j) X Y M:=by unfold lin rot;grind
theorem gc {h:Nat->Int×Int}(k:Bent h):Bent (rot h) :=
 ⟨fun i hi j hj=>by have:=k.1 i hi j hj;rw[←g9]at this;exact this,fun i hi=>by have:=k.2 i hi;rw[←g9]at this;exact this⟩
theorem jk {h:Nat->Int×Int}{X Y M:Int}(k:InK (rot h) Y (-X) M):InK h X Y M:=fun i hi=>by have:=k i hi;rwa [lw]at this
theorem Cr {C:Int->Int->Int->Prop}(F:Int->Int->Int->Int)(hF:∀a b X Y M X' Y' M',F (a*X+b*X') (a*Y+b*Y') (a*M+b*M')=a*F X Y M+b*F X' Y' M')
 (hC:∀a b X Y M X' Y' M',0<=a->0<=b->C X Y M->C X' Y' M'->C (a*X+b*X') (a*Y+b*Y') (a*M+b*M')) {lo hi:Int} (hlh:lo<=hi)
 (h1:∃X Y M,0<M/\C X Y M/\F X Y M<=M*hi) (h2:∃X Y M,0<M/\C X Y M/\M*lo<=F X Y M):∃X Y M,0<M/\C X Y M/\M*lo<=F X Y M/\F X Y M<=M*hi:=by
 obtain⟨X,Y,M,hM,c1,f1⟩:=h1;obtain⟨X',Y',M',hM',c2,f2⟩:=h2;by_cases k1:M*lo<=F X Y M
 · exact⟨X,Y,M,hM,c1,k1,f1⟩
 · by_cases k2:F X' Y' M'<=M'*hi
   · exact⟨X',Y',M',hM',c2,f2,k2⟩
   · have g1:M'*lo<=M'*hi:=Int.mul_le_mul_of_nonneg_left hlh (by omega);obtain⟨a,ea⟩:∃a,F X' Y' M'-M'*lo=a:=⟨_,rfl⟩
     obtain⟨b,eb⟩:∃b,M*lo-F X Y M=b:=⟨_,rfl⟩
     have ha:0<a:=by omega
     have hb:0<b:=by omega
     have hM2:0<a*M+b*M':=by
      have h1:=Int.mul_pos ha hM;have h2:=Int.mul_pos hb hM';omega
     have e:F (a*X+b*X') (a*Y+b*Y') (a*M+b*M')=(a*M+b*M')*lo:=by
      rw[hF,show F X' Y' M'=M'*lo+a by omega,show F X Y M=M*lo-b by omega]
      grind
     refine⟨_,_,_,hM2,hC a b X Y M X' Y' M' (by omega) (by omega) c1 c2,by omega,?_⟩;rw[e];exact Int.mul_le_mul_of_nonneg_left hlh (by omega)
theorem jL {h:Nat->Int×Int}(hk:Bent h){l1 l2 u1 u2:Int}(h1:l1<=u1)(h2:l2<=u2)(hx:∃i,i<6/\l1<=(h i).1)(hy:∃i,i<6/\l2<=(h i).2)
 (he:∀i,i<6->0<=crs (h i) (h (nx i)) l1 l2∨0<=crs (h i) (h (nx i)) u1 l2∨0<=crs (h i) (h (nx i)) u1 u2∨0<=crs (h i) (h (nx i)) l1 u2):∃X Y M:Int,0<M/\InK h X Y M/\M*l1<=X/\M*l2<=Y :=
 JV hk hx hy fun i hi=>by
  rcases he i hi with k | k | k | k
  · exact⟨0,0,by omega,by omega,by rw[Int.add_zero,Int.add_zero];exact k⟩
  · exact⟨u1-l1,0,by omega,by omega,by rw[show l1+(u1-l1)=u1 by omega,Int.add_zero];exact k⟩
  · exact⟨u1-l1,u2-l2,by omega,by omega,by rw[show l1+(u1-l1)=u1 by omega,show l2+(u2-l2)=u2 by omega];exact k⟩
  · exact⟨0,u2-l2,by omega,by omega,by rw[show l2+(u2-l2)=u2 by omega,Int.add_zero];exact k⟩
def Unparted (h:Nat->Int×Int)(l1 l2 u1 u2:Int):Prop :=
 ((∃i,i<6/\l1<=(h i).1)/\(∃i,i<6/\(h i).1<=u1))/\((∃i,i<6/\l2<=(h i).2)/\(∃i,i<6/\(h i).2<=u2)) /\
 ∀i,i<6->0<=crs (h i) (h (nx i)) l1 l2∨0<=crs (h i) (h (nx i)) u1 l2∨0<=crs (h i) (h (nx i)) u1 u2∨0<=crs (h i) (h (nx i)) l1 u2
theorem Unparted.rot {h:Nat->Int×Int}{l1 l2 u1 u2:Int}(k:Unparted h l1 l2 u1 u2):Unparted (rot h) l2 (-u1) u2 (-l1):=by
 obtain⟨⟨⟨a,ha,a1⟩,b,hb,b1⟩,⟨⟨c,hc,c1⟩,d,hd,d1⟩,he⟩:=k;refine⟨⟨⟨c,hc,c1⟩,d,hd,d1⟩,⟨⟨b,hb,?_⟩,a,ha,?_⟩,fun i hi=>?_⟩
 · show -u1≤-(h b).1;omega
 · show -(h a).1≤-l1;omega
 · rw[g9,g9,g9,g9];rcases he i hi with k | k | k | k
   · exact .inr (.inr (.inr k))
   · exact .inl k
   · exact .inr (.inl k)
   · exact .inr (.inr (.inl k))
def vK (h:Nat->Int×Int)(l1 l2 u1 u2:Int):Prop:=∃X Y M:Int,0<M/\InK h X Y M/\(M*l1<=X/\X<=M*u1)/\M*l2<=Y/\Y<=M*u2
theorem rz {h:Nat->Int×Int}{l1 l2 u1 u2:Int}(hk:Bent h)(h1:l1<=u1)(h2:l2<=u2)(hu:Unparted h l1 l2 u1 u2):vK h l1 l2 u1 u2:=by
 have hk1:=gc hk;have hk2:=gc hk1;have hk3:=gc hk2;have hu1:=hu.rot;have hu2:=hu1.rot;have hu3:=hu2.rot;obtain⟨X1,Y1,M1,m1,i1,x1,y1⟩:=jL hk h1 h2 hu.1.1 hu.2.1.1 hu.2.2;obtain⟨X2,Y2,M2,m2,i2,x2,y2⟩:=jL hk1 h2 (by omega) hu1.1.1 hu1.2.1.1 hu1.2.2;obtain⟨X3,Y3,M3,m3,i3,x3,y3⟩:=jL hk2 (by omega) (by omega) hu2.1.1 hu2.2.1.1 hu2.2.2;obtain⟨X4,Y4,M4,m4,i4,x4,y4⟩:=jL hk3 (by omega) (by omega) hu3.1.1 hu3.2.1.1 hu3.2.2;have j2:InK h (-Y2) X2 M2:=jk (by rw[Int.neg_neg];exact i2);have j3:InK h (-X3) (-Y3) M3:=jk (jk (by rw[Int.neg_neg,Int.neg_neg];exact i3));have j4:InK h Y4 (-X4) M4:=jk (jk (jk (by rw[Int.neg_neg,Int.neg_neg];exact i4)));have hC:=fun(a b X Y M X' Y' M':Int) (ha:0<=a) (hb:0<=b) (k:InK h X Y M) (k':InK h X' Y' M')=>k.comb k' ha hb;obtain⟨X5,Y5,M5,m5,i5,x5,z5⟩:=Cr (C:=fun X Y M=>InK h X Y M/\M*l2<=Y) (fun X _ _=>X) (fun _ _ _ _ _ _ _ _=>rfl) (fun a b X Y M X' Y' M' ha hb k k'=>⟨hC a b X Y M X' Y' M' ha hb k.1 k'.1,by
  have g1:=Int.mul_le_mul_of_nonneg_left k.2 ha;have g2:=Int.mul_le_mul_of_nonneg_left k'.2 hb;have e:(a*M+b*M')*l2=a*(M*l2)+b*(M'*l2):=by grind
  omega⟩) h1 ⟨-Y2,X2,M2,m2,⟨j2,x2⟩,by have:M2*(-u1)= -(M2*u1):=Int.mul_neg _ _;omega⟩ ⟨X1,Y1,M1,m1,⟨i1,y1⟩,x1⟩
 obtain⟨X6,Y6,M6,m6,i6,x6,z6⟩:=Cr (C:=fun X Y M=>InK h X Y M/\Y<=M*u2) (fun X _ _=>X) (fun _ _ _ _ _ _ _ _=>rfl) (fun a b X Y M X' Y' M' ha hb k k'=>⟨hC a b X Y M X' Y' M' ha hb k.1 k'.1,by
  have g1:=Int.mul_le_mul_of_nonneg_left k.2 ha;have g2:=Int.mul_le_mul_of_nonneg_left k'.2 hb;have e:(a*M+b*M')*u2=a*(M*u2)+b*(M'*u2):=by grind
  omega⟩) h1 ⟨-X3,-Y3,M3,m3,⟨j3,by have:M3*(-u2)= -(M3*u2):=Int.mul_neg _ _;omega⟩,by have:M3*(-u1)= -(M3*u1):=Int.mul_neg _ _;omega⟩
  ⟨Y4,-X4,M4,m4,⟨j4,by have:M4*(-u2)= -(M4*u2):=Int.mul_neg _ _;omega⟩,by have:M4*(- -l1)=M4*l1:=by rw [Int.neg_neg]
                                                                          omega⟩
 obtain⟨X7,Y7,M7,m7,i7,x7,z7⟩:=Cr (C:=fun X Y M=>InK h X Y M/\M*l1<=X/\X<=M*u1) (fun _ Y _=>Y) (fun _ _ _ _ _ _ _ _=>rfl) (fun a b X Y M X' Y' M' ha hb k k'=>⟨hC a b X Y M X' Y' M' ha hb k.1 k'.1,by
  have g1:=Int.mul_le_mul_of_nonneg_left k.2.1 ha;have g2:=Int.mul_le_mul_of_nonneg_left k'.2.1 hb;have g3:=Int.mul_le_mul_of_nonneg_left k.2.2 ha;have g4:=Int.mul_le_mul_of_nonneg_left k'.2.2 hb;have e1:(a*M+b*M')*l1=a*(M*l1)+b*(M'*l1):=by grind
  have e2:(a*M+b*M')*u1=a*(M*u1)+b*(M'*u1):=by grind
  omega⟩) h2 ⟨X6,Y6,M6,m6,⟨i6.1,x6,z6⟩,i6.2⟩ ⟨X5,Y5,M5,m5,⟨i5.1,x5,z5⟩,i5.2⟩
 exact⟨X7,Y7,M7,m7,i7.1,i7.2,x7,z7⟩
theorem rf (f:Nat->Int):∀n,0<n->∃j,j<n/\∀i,i<n->f i<=f j
 | 0,h=>absurd h (Nat.lt_irrefl _)
 | 1,_=>⟨0,by omega,fun i hi=>by rw[show i=0 by omega];omega⟩
 | n+2,_=>by
  obtain⟨j,hj,k⟩:=rf f (n+1) (by omega);by_cases c:f j<=f (n+1)
  · exact⟨n+1,by omega,fun i hi=>by
     by_cases e:i=n+1
     · rw[e];omega
     · have:=k i (by omega);omega⟩
  · exact⟨j,by omega,fun i hi=>by
     by_cases e:i=n+1
     · rw[e];omega
     · exact k i (by omega)⟩
theorem gT {h:Nat->Int×Int}(hk:Bent h){X Y M c:Int}(hM:0<M)(hi:InK h X Y M)(hX:M*c<=X):∃i,i<6/\c<=(h i).1:=by
 obtain⟨j,hj,hm⟩:=rf (fun i=>(h i).1) 6 (by omega);refine⟨j,hj,?_⟩;by_cases hc:c<=(h j).1
 · exact hc
 · exfalso
   obtain⟨i,hi6,e⟩:∃i,i<6/\nx i=j:=⟨(j+5)%6,Nat.mod_lt _ (by omega),by unfold nx;omega⟩
   have k1:=hi i hi6;have k2:=hi (nx i) (nN i);have k3:=hk.2 i hi6;have g1:=hm i hi6;have g2:=hm (nx (nx i)) (nN _);rw[←e]at g1 g2 hc;generalize h (nx (nx i))=r at *;generalize h (nx i)=q at *;generalize h i=p at *;have hw:0<X-M*q.1:=by
    have:=Int.mul_lt_mul_of_pos_left (show q.1<c by omega) hM;omega
   have e1:(X-M*q.1)*crs p q r.1 r.2= -(lin q r X Y M*(q.1-p.1))-(lin p q X Y M*(q.1-r.1)):=by unfold lin crs;grind
   have s1:=Int.mul_pos hw k3;have s2:=Int.mul_nonneg k2 (show 0<=q.1-p.1 by omega);have s3:=Int.mul_nonneg k1 (show 0<=q.1-r.1 by omega);omega
theorem Cl (p q:Int×Int){l1 l2 u1 u2 X Y M:Int}(hM:0<M)(h:(M*l1<=X/\X<=M*u1)/\M*l2<=Y/\Y<=M*u2)(k:0<=lin p q X Y M) :
 0<=crs p q l1 l2∨0<=crs p q u1 l2∨0<=crs p q u1 u2∨0<=crs p q l1 u2:=by
 have key:∀x y:Int,(q.1-p.1)*Y<=(q.1-p.1)*(M*y)→-((q.2-p.2)*X)≤-((q.2-p.2)*(M*x))->0<=crs p q x y:=fun x y h1 h2=>by
  by_cases c:0<=crs p q x y
  · exact c
  · exfalso
    have e:M*crs p q x y=lin p q X Y M+((q.1-p.1)*(M*y)-(q.1-p.1)*Y)+((q.2-p.2)*X-(q.2-p.2)*(M*x)):=by unfold lin crs;grind
    have:=Int.mul_neg_of_pos_of_neg hM (show crs p q x y<0 by omega);omega
 by_cases d1:0<=q.1-p.1
 · have a1:=Int.mul_le_mul_of_nonneg_left h.2.2 d1;by_cases d2:0<=q.2-p.2
   · exact .inr (.inr (.inr (key _ _ a1 (by have:=Int.mul_le_mul_of_nonneg_left h.1.1 d2;omega))))
   · exact .inr (.inr (.inl (key _ _ a1 (by have:=Int.mul_le_mul_of_nonpos_left (show q.2-p.2<=0 by omega) h.1.2;omega))))
 · have a1:=Int.mul_le_mul_of_nonpos_left (show q.1-p.1<=0 by omega) h.2.1;by_cases d2:0<=q.2-p.2
   · exact .inl (key _ _ a1 (by have:=Int.mul_le_mul_of_nonneg_left h.1.1 d2;omega))
   · exact .inr (.inl (key _ _ a1 (by have:=Int.mul_le_mul_of_nonpos_left (show q.2-p.2<=0 by omega) h.1.2;omega)))
theorem l9 {h:Nat->Int×Int}{l1 l2 u1 u2:Int}(hk:Bent h)(hm:vK h l1 l2 u1 u2):Unparted h l1 l2 u1 u2:=by
 obtain⟨X,Y,M,hM,hi,hb⟩:=hm;have hk1:=gc hk;have hk2:=gc hk1;have hk3:=gc hk2;have i1:InK (rot h) Y (-X) M:=fun i k=>by rw[lw];exact hi i k
 have i2:InK (rot (rot h)) (-X) (-Y) M:=fun i k=>by rw[lw];exact i1 i k
 have i3:InK (rot (rot (rot h))) (-Y) (- -X) M:=fun i k=>by rw[lw];exact i2 i k
 obtain⟨b,hb6,b1⟩:=gT hk2 (c:= -u1) hM i2 (by have:M*(-u1)= -(M*u1):=Int.mul_neg _ _;omega);obtain⟨d,hd6,d1⟩:=gT hk3 (c:= -u2) hM i3 (by have:M*(-u2)= -(M*u2):=Int.mul_neg _ _;omega);refine⟨⟨gT hk hM hi hb.1.1,b,hb6,?_⟩,⟨gT hk1 hM i1 hb.2.1,d,hd6,?_⟩,fun i hi6=>Cl _ _ hM hb (hi i hi6)⟩
 · have: -u1≤-(h b).1:=b1;omega
 · have: -u2≤-(h d).2:=d1;omega
def hv (K:Nat)(a b:Int)(i:Nat):Int×Int:=(coX K a b (bR i) (bS i),coY K a b (bR i) (bS i))
def reA (K:Nat)(a:Int)(X Y M:Int):Int:=nuA K X Y-3*(a*(M*dvK K))
def reB (K:Nat)(b:Int)(X Y M:Int):Int:=nuB K X Y-3*(b*(M*dvK K))
theorem Fl (K:Nat)(a b X Y M p q r s:Int) :
 lin (coX K a b p q,coY K a b p q) (coX K a b r s,coY K a b r s) X Y M=(r-p)*(reB K b X Y M-M*dvK K*q)-(s-q)*(reA K a X Y M-M*dvK K*p):=by
 unfold lin reA reB coX coY poX poY ctA ctB nuA nuB dvK sev aw cjA cjB
 grind
theorem ik (K:Nat)(a b X Y M:Int) :
 lin (hv K a b 0) (hv K a b 1) X Y M=3*(M*dvK K)-(reA K a X Y M+2*reB K b X Y M)/\lin (hv K a b 1) (hv K a b 2) X Y M=3*(M*dvK K)-(reB K b X Y M-reA K a X Y M) /\
 lin (hv K a b 2) (hv K a b 3) X Y M=3*(M*dvK K)+(2*reA K a X Y M+reB K b X Y M)/\lin (hv K a b 3) (hv K a b 4) X Y M=3*(M*dvK K)+(reA K a X Y M+2*reB K b X Y M) /\
 lin (hv K a b 4) (hv K a b 5) X Y M=3*(M*dvK K)+(reB K b X Y M-reA K a X Y M)/\lin (hv K a b 5) (hv K a b 0) X Y M=3*(M*dvK K)-(2*reA K a X Y M+reB K b X Y M):=by
 have f:=fun p q r s=>Fl K a b X Y M p q r s;refine⟨(f 1 1 (-1) 2).trans ?_,(f (-1) 2 (-2) 1).trans ?_,(f (-2) 1 (-1) (-1)).trans ?_,(f (-1) (-1) 1 (-2)).trans ?_,(f 1 (-2) 2 (-1)).trans ?_,(f 2 (-1) 1 1).trans ?_⟩
 all_goals grind
theorem aS:nx 0=1/\nx 1=2/\nx 2=3/\nx 3=4/\nx 4=5/\nx 5=0:=⟨rfl,rfl,rfl,rfl,rfl,rfl⟩
theorem la (K:Nat)(a b X Y M:Int):InK (hv K a b) X Y M↔Hex (3*(M*dvK K)) (reA K a X Y M) (reB K b X Y M):=by
 obtain⟨e0,e1,e2,e3,e4,e5⟩:=ik K a b X Y M;constructor
 · intro h;have h0:=h 0 (by omega);have h1:=h 1 (by omega);have h2:=h 2 (by omega);have h3:=h 3 (by omega);have h4:=h 4 (by omega);have h5:=h 5 (by omega);rw[aS.1,e0]at h0;rw[aS.2.1,e1]at h1;rw[aS.2.2.1,e2]at h2;rw[aS.2.2.2.1,e3]at h3;rw[aS.2.2.2.2.1,e4]at h4;rw[aS.2.2.2.2.2,e5]at h5;unfold Hex;omega
 · intro h i hi;unfold Hex at h;obtain rfl | rfl | rfl | rfl | rfl | rfl:i=0∨i=1∨i=2∨i=3∨i=4∨i=5:=by omega
   · rw[aS.1,e0];omega
   · rw[aS.2.1,e1];omega
   · rw[aS.2.2.1,e2];omega
   · rw[aS.2.2.2.1,e3];omega
   · rw[aS.2.2.2.2.1,e4];omega
   · rw[aS.2.2.2.2.2,e5];omega
theorem kF (K:Nat)(a b p q:Int):reA K a (coX K a b p q) (coY K a b p q) 1=dvK K*p/\reB K b (coX K a b p q) (coY K a b p q) 1=dvK K*q:=by
 unfold reA reB coX coY poX poY ctA ctB nuA nuB dvK sev aw cjA cjB;constructor <;>grind
theorem k9 {K:Nat}(hK:K<=12)(a b:Int):Bent (hv K a b):=by
 have hd:=(bX hK).1;refine⟨fun i hi j hj=>?_,fun i hi=>?_⟩
 · rw[←ld];refine(la K a b _ _ 1).2 ?_ i hi;have h:=kF K a b (bR j) (bS j);unfold hv;dsimp only;rw[h.1,h.2];obtain rfl | rfl | rfl | rfl | rfl | rfl:j=0∨j=1∨j=2∨j=3∨j=4∨j=5:=by omega
   all_goals
    simp only[bR,bS,Hex];omega
 · rw[←ld];have h:=fun p q=>kF K a b p q;have f:=fun p q=>ik K a b (coX K a b p q) (coY K a b p q) 1;obtain rfl | rfl | rfl | rfl | rfl | rfl:i=0∨i=1∨i=2∨i=3∨i=4∨i=5:=by omega
   · have k:=(f (-2) 1).1;rw[(h (-2) 1).1,(h (-2) 1).2]at k;show 0<lin (hv K a b 0) (hv K a b 1) _ _ 1
     exact k.symm ▸ (by omega)
   · have k:=(f (-1) (-1)).2.1;rw[(h (-1) (-1)).1,(h (-1) (-1)).2]at k;show 0<lin (hv K a b 1) (hv K a b 2) _ _ 1
     exact k.symm ▸ (by omega)
   · have k:=(f 1 (-2)).2.2.1;rw[(h 1 (-2)).1,(h 1 (-2)).2]at k;show 0<lin (hv K a b 2) (hv K a b 3) _ _ 1
     exact k.symm ▸ (by omega)
   · have k:=(f 2 (-1)).2.2.2.1;rw[(h 2 (-1)).1,(h 2 (-1)).2]at k;show 0<lin (hv K a b 3) (hv K a b 4) _ _ 1
     exact k.symm ▸ (by omega)
   · have k:=(f 1 1).2.2.2.2.1;rw[(h 1 1).1,(h 1 1).2]at k;show 0<lin (hv K a b 4) (hv K a b 5) _ _ 1
     exact k.symm ▸ (by omega)
   · have k:=(f (-1) 2).2.2.2.2.2;rw[(h (-1) 2).1,(h (-1) 2).2]at k;show 0<lin (hv K a b 5) (hv K a b 0) _ _ 1
     exact k.symm ▸ (by omega)
theorem ju {u w:Nat->Int}(V:Nat->Prop)(hu:∀i,0<=u i)(hw:∀i,V i->0<w i):∀n,(∃i,i<n/\V i)->∃e,e<n/\V e/\∀f,f<n->V f->u e*w f<=u f*w e
 | 0,h=>by obtain⟨i,hi,_⟩:=h;omega
 | n+1,h=>by
  by_cases hb:∃i,i<n/\V i
  · obtain⟨e,he,ve,hm⟩:=ju V hu hw n hb;by_cases hn:V n
    · by_cases c:u e*w n<=u n*w e
      · exact⟨e,by omega,ve,fun f hf vf=>by
         by_cases k:f=n
         · rw[k];exact c
         · exact hm f (by omega) vf⟩
      · refine⟨n,by omega,hn,fun f hf vf=>?_⟩;by_cases k:f=n
        · rw[k];omega
        · have h1:=hm f (by omega) vf;have h2:=Int.mul_le_mul_of_nonneg_right (show u n*w e<=u e*w n by omega) (Int.le_of_lt (hw f vf));have h3:=Int.mul_le_mul_of_nonneg_right h1 (Int.le_of_lt (hw n hn));have e1:u n*w e*w f=w e*(u n*w f):=by grind
          have e2:u e*w n*w f=u e*w f*w n:=by grind
          have e3:u f*w e*w n=w e*(u f*w n):=by grind
          have h4:w e*(u n*w f)<=w e*(u f*w n):=by omega
          exact Int.le_of_mul_le_mul_left h4 (hw e ve)
    · exact⟨e,by omega,ve,fun f hf vf=>by
       by_cases k:f=n
       · rw[k]at vf;exact absurd vf hn
       · exact hm f (by omega) vf⟩
  · obtain⟨i,hi,vi⟩:=h;have e:i=n:=by
     by_cases k:i=n
     · exact k
     · exact absurd ⟨i,by omega,vi⟩ hb
    subst e;refine⟨i,hi,vi,fun f hf vf=>?_⟩;by_cases k:f=i
    · rw[k];omega
    · exact absurd ⟨f,by omega,vf⟩ hb
theorem zh {h:Nat->Int×Int}{X Y M x y:Int}(hp:InK h X Y M)(ht:¬InK h x y 1) :
 ∃(e:Nat) (a b:Int),e<6/\0<a/\0<=b/\lin (h e) (h (nx e)) x y 1<0/\InK h (a*X+b*x) (a*Y+b*y) (a*M+b*1)/\lin (h e) (h (nx e)) (a*X+b*x) (a*Y+b*y) (a*M+b*1)=0:=by
 have hv:∃i,i<6/\lin (h i) (h (nx i)) x y 1<0:=by
  by_cases c:∃i,i<6/\lin (h i) (h (nx i)) x y 1<0
  · exact c
  · exact absurd (fun i hi=>by
     by_cases k:0<=lin (h i) (h (nx i)) x y 1
     · exact k
     · exact absurd ⟨i,hi,by omega⟩ c) ht
 obtain⟨e,he,ve,hm⟩:=ju (u:=fun i=>if i<6 then lin (h i) (h (nx i)) X Y M else 0) (w:=fun i=> -lin (h i) (h (nx i)) x y 1) (fun i=>lin (h i) (h (nx i)) x y 1<0)
  (fun i=>by
    split
    · exact hp i (by assumption)
    · exact Int.le_refl 0) (fun i hi=>by omega) 6 hv
 have he0:=hp e he;refine⟨e,-lin (h e) (h (nx e)) x y 1,lin (h e) (h (nx e)) X Y M,he,by omega,he0,ve,fun f hf=>?_,?_⟩
 · rw[mr];by_cases vf:lin (h f) (h (nx f)) x y 1<0
   · have h1:=hm f hf vf;rw[if_pos he,if_pos hf]at h1;have e1:lin (h e) (h (nx e)) X Y M*-lin (h f) (h (nx f)) x y 1= -(lin (h e) (h (nx e)) X Y M*lin (h f) (h (nx f)) x y 1):=Int.mul_neg _ _;have e2:lin (h f) (h (nx f)) X Y M*-lin (h e) (h (nx e)) x y 1= -lin (h e) (h (nx e)) x y 1*lin (h f) (h (nx f)) X Y M:=Int.mul_comm _ _;omega
   · have h1:=Int.mul_nonneg (show 0≤-lin (h e) (h (nx e)) x y 1 by omega) (hp f hf);have h2:=Int.mul_nonneg he0 (show 0<=lin (h f) (h (nx f)) x y 1 by omega);omega
 · rw[mr];have: -lin (h e) (h (nx e)) x y 1*lin (h e) (h (nx e)) X Y M= -(lin (h e) (h (nx e)) X Y M*lin (h e) (h (nx e)) x y 1):=by grind
   omega
def sA (i:Nat):Int:=if i=0 then 0 else if i=1 then -1 else if i=2 then -1 else if i=3 then 0 else if i=4 then 1 else 1
def sB (i:Nat):Int:=if i=0 then 1 else if i=1 then 1 else if i=2 then 0 else if i=3 then -1 else if i=4 then -1 else 0
theorem JA {i:Nat}(hi:i<6):stp (sA i) (sB i)=1:=by
 obtain rfl | rfl | rfl | rfl | rfl | rfl:i=0∨i=1∨i=2∨i=3∨i=4∨i=5:=by omega
 all_goals decide
theorem lu (K:Nat)(a b X Y M p q:Int):reA K (a+p) X Y M=reA K a X Y M-3*(M*dvK K)*p/\reB K (b+q) X Y M=reB K b X Y M-3*(M*dvK K)*q:=by
 unfold reA reB;constructor <;>grind
theorem qC {K:Nat}{a b X Y M:Int}{e:Nat}(he:e<6)(hp:InK (hv K a b) X Y M)(h0:lin (hv K a b e) (hv K a b (nx e)) X Y M=0):InK (hv K (a+sA e) (b+sB e)) X Y M:=by
 rw[la]at hp ⊢;obtain⟨e0,e1,e2,e3,e4,e5⟩:=ik K a b X Y M;rw[(lu K a b X Y M (sA e) (sB e)).1,(lu K a b X Y M (sA e) (sB e)).2];generalize reA K a X Y M=A at *;generalize reB K b X Y M=B at *;generalize 3*(M*dvK K)=H at *;obtain rfl | rfl | rfl | rfl | rfl | rfl:e=0∨e=1∨e=2∨e=3∨e=4∨e=5:=by omega
 · rw[aS.1,e0]at h0;unfold Hex sA sB at *;simp only[if_true]at *;omega
 · rw[aS.2.1,e1]at h0;unfold Hex sA sB at *;simp at *;omega
 · rw[aS.2.2.1,e2]at h0;unfold Hex sA sB at *;simp at *;omega
 · rw[aS.2.2.2.1,e3]at h0;unfold Hex sA sB at *;simp at *;omega
 · rw[aS.2.2.2.2.1,e4]at h0;unfold Hex sA sB at *;simp at *;omega
 · rw[aS.2.2.2.2.2,e5]at h0;unfold Hex sA sB at *;simp at *;omega
theorem Ic {K:Nat}{a b x y:Int}{e:Nat}(hd:1<=dvK K)(he:e<6)(h0:lin (hv K a b e) (hv K a b (nx e)) x y 1<0) :
 aw (reA K (a+sA e) x y 1) (reB K (b+sB e) x y 1)<aw (reA K a x y 1) (reB K b x y 1):=by
 obtain⟨e0,e1,e2,e3,e4,e5⟩:=ik K a b x y 1;rw[(lu K a b x y 1 (sA e) (sB e)).1,(lu K a b x y 1 (sA e) (sB e)).2];generalize reA K a x y 1=A at *;generalize reB K b x y 1=B at *;have hH:0<3*(1*dvK K):=by omega
 generalize 3*(1*dvK K)=H at *;have key:∀m n:Int,aw m n=1->H<m*(2*A+B)+n*(A+2*B)->aw (A-H*m) (B-H*n)<aw A B:=fun m n h1 h2=>by
  have h3:=xd A B m n H;rw[h1,Int.mul_comm m H,Int.mul_comm n H]at h3;have h4:=Int.mul_lt_mul_of_pos_left h2 hH;have h5:H*(1*H)=H*H:=by rw[Int.one_mul]
  omega
 obtain rfl | rfl | rfl | rfl | rfl | rfl:e=0∨e=1∨e=2∨e=3∨e=4∨e=5:=by omega
 · rw[aS.1,e0]at h0;exact key 0 1 rfl (by omega)
 · rw[aS.2.1,e1]at h0;exact key (-1) 1 rfl (by omega)
 · rw[aS.2.2.1,e2]at h0;exact key (-1) 0 rfl (by omega)
 · rw[aS.2.2.2.1,e3]at h0;exact key 0 (-1) rfl (by omega)
 · rw[aS.2.2.2.2.1,e4]at h0;exact key 1 (-1) rfl (by omega)
 · rw[aS.2.2.2.2.2,e5]at h0;exact key 1 0 rfl (by omega)
def Tou (K:Nat)(l1 l2 u1 u2 a b:Int):Prop:=vK (hv K a b) (3*l1) (3*l2) (3*u1) (3*u2)
theorem rC (K:Nat)(x y:Int):nuA K (3*x) (3*y)=3*nuA K x y/\nuB K (3*x) (3*y)=3*nuB K x y:=by
 unfold nuA nuB;constructor <;>grind
theorem me (K:Nat)(a b x y:Int):InK (hv K a b) (3*x) (3*y) 1↔a7 (dvK K) (nuA K x y) (nuB K x y) a b:=by
 rw[la];unfold reA reB a7;rw[(rC K x y).1,(rC K x y).2,Int.one_mul];unfold Hex;omega
theorem nn {d s t p q:Int}(hd:0<d)(h0: -(2*d)<2*s+t/\2*s+t<2*d)(h1: -(2*d)<s+2*t/\s+2*t<2*d)(h2: -(2*d)<s-t/\s-t<2*d)(h:Hex d (s-p*d) (t-q*d)):stp p q<=1:=by
 unfold Hex at h;have key:∀m:Int,-(3*d)<m*d->m*d<3*d→-2<=m/\m<=2:=fun m h1 h2=>by
  constructor
  · by_cases c: -2<=m
    · exact c
    · have:=Int.mul_le_mul_of_nonneg_right (show m≤-3 by omega) (Int.le_of_lt hd);omega
  · by_cases c:m<=2
    · exact c
    · have:=Int.mul_le_mul_of_nonneg_right (show 3<=m by omega) (Int.le_of_lt hd);omega
 have e0:(2*p+q)*d=2*(p*d)+q*d:=by grind
 have e1:(p+2*q)*d=p*d+2*(q*d):=by grind
 have e2:(p-q)*d=p*d-q*d:=by grind
 have k0:=key (2*p+q) (by omega) (by omega);have k1:=key (p+2*q) (by omega) (by omega);have k2:=key (p-q) (by omega) (by omega);exact oj (by omega) (by omega) (by omega) (by omega)
theorem pu {d u v a b a' b':Int}(hd:0<d)(h:a7 d u v a b)(h':a7 d u v a' b'):stp (a'-a) (b'-b)<=1:=by
 have e1:a'*d=a*d+(a'-a)*d:=by grind
 have e2:b'*d=b*d+(b'-b)*d:=by grind
 refine nn (s:=u-a*d) (t:=v-b*d) hd ?_ ?_ ?_ ?_
 · unfold a7 Hex at h;omega
 · unfold a7 Hex at h;omega
 · unfold a7 Hex at h;omega
 · unfold a7 at h';rw[e1,e2]at h';rw[show u-a*d-(a'-a)*d=u-(a*d+(a'-a)*d)by omega,show v-b*d-(b'-b)*d=v-(b*d+(b'-b)*d)by omega];exact h'
theorem qK {l u a b X x M:Int}(ha:0<=a)(hb:0<=b)(h:M*l<=X/\X<=M*u)(h':l<=x/\x<=u):(a*M+b*1)*l<=a*X+b*x/\a*X+b*x<=(a*M+b*1)*u:=by
 have h1:=Int.mul_le_mul_of_nonneg_left h.1 ha;have h2:=Int.mul_le_mul_of_nonneg_left h.2 ha;have h3:=Int.mul_le_mul_of_nonneg_left h'.1 hb;have h4:=Int.mul_le_mul_of_nonneg_left h'.2 hb;have e1:(a*M+b*1)*l=a*(M*l)+b*l:=by grind
 have e2:(a*M+b*1)*u=a*(M*u)+b*u:=by grind
 omega
theorem sD {K:Nat}{l1 l2 u1 u2 a b x y:Int}(hx:l1<=x/\x<=u1)(hy:l2<=y/\y<=u2)(h:a7 (dvK K) (nuA K x y) (nuB K x y) a b):Tou K l1 l2 u1 u2 a b :=
 ⟨3*x,3*y,1,by omega,(me K a b x y).2 h,by omega,by omega⟩
theorem GH {K:Nat}(hK:K<=12){l1 l2 u1 u2 x y sa sb:Int}(hx:l1<=x/\x<=u1)(hy:l2<=y/\y<=u2)(hs:a7 (dvK K) (nuA K x y) (nuB K x y) sa sb)(P:Int->Int->Prop)(h0:P sa sb)
 (hstep:∀a b a' b',stp (a-a') (b-b')=1->Tou K l1 l2 u1 u2 a' b'->P a' b'->Tou K l1 l2 u1 u2 a b->P a b):∀a b,Tou K l1 l2 u1 u2 a b->P a b:=by
 have hd:=(bX hK).1;have key:∀(n:Nat) a b,(aw (reA K a (3*x) (3*y) 1) (reB K b (3*x) (3*y) 1)).toNat<n->Tou K l1 l2 u1 u2 a b->P a b:=by
  intro n;induction n with
  | zero=>intro a b h;omega
  | succ n ih =>
   intro a b hn hT;by_cases ht:InK (hv K a b) (3*x) (3*y) 1
   · have h1:=pu (by omega) ((me K a b x y).1 ht) hs;by_cases e:sa-a=0/\sb-b=0
     · rw[show a=sa by omega,show b=sb by omega];exact h0
     · have h2:=dF (sa-a) (sb-b);have h3:stp (sa-a) (sb-b)=1:=by omega
       rw[jQ]at h3;exact hstep a b sa sb h3 (sD hx hy hs) h0 hT
   · have hT0:=hT;obtain⟨X,Y,M,hM,hp,hX,hY⟩:=hT;obtain⟨e,p,q,he,hp0,hq0,hv,hr,hz⟩:=zh hp ht;have h1:=qC he hr hz;have hT2:Tou K l1 l2 u1 u2 (a+sA e) (b+sB e):=⟨_,_,_,by have:=Int.mul_pos hp0 hM;omega,h1,qK (by omega) hq0 hX (by omega),qK (by omega) hq0 hY (by omega)⟩
     have h2:=Ic hd he hv;have h3:=mw (reA K (a+sA e) (3*x) (3*y) 1) (reB K (b+sB e) (3*x) (3*y) 1);refine hstep a b _ _ ?_ hT2 (ih _ _ (by omega) hT2) hT0;rw[jQ,show a+sA e-a=sA e by omega,show b+sB e-b=sB e by omega];exact JA he
 exact fun a b hT=>key _ a b (Nat.lt_succ_self _) hT
theorem sF {K:Nat}(hK:K<=12){l1 l2 u1 u2 a b:Int}(h:Tou K l1 l2 u1 u2 a b) :
 ∃x y,(l1<=x/\x<=u1)/\(l2<=y/\y<=u2)/\∀a' b',a7 (dvK K) (nuA K x y) (nuB K x y) a' b'->stp (a'-a) (b'-b)<=1:=by
 obtain⟨X,Y,M,hM,hp,hX,hY⟩:=h;have hM3:0<3*M:=by omega
 obtain⟨x,ex⟩:∃x,X / (3*M)=x:=⟨_,rfl⟩
 obtain⟨y,ey⟩:∃y,Y / (3*M)=y:=⟨_,rfl⟩
 have x1:=Int.mul_ediv_add_emod X (3*M);have y1:=Int.mul_ediv_add_emod Y (3*M);have x2:=Int.emod_nonneg X (show 3*M≠0 by omega);have x3:=Int.emod_lt_of_pos X hM3;have y2:=Int.emod_nonneg Y (show 3*M≠0 by omega);have y3:=Int.emod_lt_of_pos Y hM3;rw[ex]at x1;rw[ey]at y1;have floor:∀ {l u z Z:Int},M*(3*l)<=Z->Z<=M*(3*u)->Z / (3*M)=z->l<=z/\z<=u:=fun {l u z Z} h1 h2 e=>by
  constructor
  · rw[←e];exact(Int.le_ediv_iff_mul_le hM3).2 (by rw[show l*(3*M)=M*(3*l)by grind];exact h1)
  · rw[←e];have:=Int.ediv_le_ediv hM3 h2;rw[show M*(3*u)=u*(3*M)by grind,Int.mul_ediv_cancel _ (by omega)]at this;exact this
 refine⟨x,y,floor hX.1 hX.2 ex,floor hY.1 hY.2 ey,fun a' b' h'=>?_⟩;have hd:=(bX hK).1;have hsv:=(gd hK).1;rw[la]at hp;obtain⟨r,er⟩:∃r,X%(3*M)=r:=⟨_,rfl⟩
 obtain⟨t,et⟩:∃t,Y%(3*M)=t:=⟨_,rfl⟩
 rw[er]at x1 x2 x3;rw[et]at y1 y2 y3;have eA:reA K a X Y M=3*(M*(nuA K x y-a*dvK K))+nuA K r t:=by
  rw[←x1,←y1];unfold reA nuA;grind
 have eB:reB K b X Y M=3*(M*(nuB K x y-b*dvK K))+nuB K r t:=by
  rw[←x1,←y1];unfold reB nuB;grind
 obtain⟨c1,c2,c3,c4,c5,c6,c7,c8⟩:=ud hK;have q1:=aV (a:=45*r-26*t) (A:=135*M) (b:=cjA K) (B:=sev K) (by omega) (by omega);have q2:=aV (a:=52*t) (A:=156*M) (b:=cjB K) (B:=sev K) (by omega) (by omega);have q3:=aV (a:=45*r-26*t) (A:=135*M) (b:=cjB K) (B:=sev K) (by omega) (by omega);have q4:=aV (a:=52*t) (A:=156*M) (b:=cjA K) (B:=sev K) (by omega) (by omega);have m1:135*M*sev K=135*(M*sev K):=by grind
 have m2:156*M*sev K=156*(M*sev K):=by grind
 rw[m1]at q1 q3;rw[m2]at q2 q4;have hMs:=Int.mul_pos hM hsv;have nA:nuA K r t=(45*r-26*t)*cjA K-52*t*cjB K:=rfl;have nB:nuB K r t=(45*r-26*t)*cjB K+52*t*cjA K+52*t*cjB K:=rfl;have hD:M*dvK K=2340*(M*sev K):=by unfold dvK;grind
 rw[eA,eB,hD]at hp;obtain⟨S,eS⟩:∃S,nuA K x y-a*dvK K=S:=⟨_,rfl⟩
 obtain⟨T,eT⟩:∃T,nuB K x y-b*dvK K=T:=⟨_,rfl⟩
 rw[eS,eT]at hp;have low:∀m:Int,-(3*(M*m))<=3*(2340*(M*sev K))+1400*(M*sev K)->3*(M*m)<=3*(2340*(M*sev K))+1400*(M*sev K)→-(2*dvK K)<m/\m<2*dvK K:=fun m h1 h2=>by
  have k2:M*(2*dvK K)=4680*(M*sev K):=by unfold dvK;grind
  constructor
  · by_cases c: -(2*dvK K)<m
    · exact c
    · have:=Int.mul_le_mul_of_nonneg_left (show m≤-(2*dvK K)by omega) (Int.le_of_lt hM);rw[Int.mul_neg]at this;omega
  · by_cases c:m<2*dvK K
    · exact c
    · have:=Int.mul_le_mul_of_nonneg_left (show 2*dvK K<=m by omega) (Int.le_of_lt hM);omega
 unfold Hex at hp;have f0:M*(2*S+T)=2*(M*S)+M*T:=by grind
 have f1:M*(S+2*T)=M*S+2*(M*T):=by grind
 have f2:M*(S-T)=M*S-M*T:=by grind
 refine nn (d:=dvK K) (s:=S) (t:=T) (by omega) (low _ (by omega) (by omega)) (low _ (by omega) (by omega)) (low _ (by omega) (by omega)) ?_;unfold a7 at h';rw[show S-(a'-a)*dvK K=nuA K x y-a'*dvK K by rw[←eS];grind,show T-(b'-b)*dvK K=nuB K x y-b'*dvK K by rw[←eT];grind];exact h'
end Go.Proofs.YtbnlhdnnenahfaaGreatDoor
