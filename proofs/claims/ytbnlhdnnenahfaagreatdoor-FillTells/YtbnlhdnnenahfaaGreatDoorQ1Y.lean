/-
  What the texts CovForm, QBox, QFault, QCmp, QSpot say, so far as this seat's proofs need it.
-/
import Derived.Test.YtbnlhdnnenahfaaGreatDoorRXY
set_option maxHeartbeats 8000000
set_option maxRecDepth 100000
namespace Go.Proofs.YtbnlhdnnenahfaaGreatDoor
open Go.RowKit
def TellsCC (K r:Nat)(l1 l2 u1 u2:Int)(e:Ending)(w':World):Prop :=
 (∃s L,e=.returned (.tuple #[s,.int .i64 0])/\RowAt 0 w' s L/\aq L/\(∀x,x∈L↔TW K l1 l2 u1 u2 x r/\bZ K l1 l2 u1 u2 x=true)/\L.length<=20000) ∨
 ((∃p c,e=.returned (.tuple #[.slice p 0 c,.int .i64 7]))/\Many K l1 l2 u1 u2 r 20000)
theorem TellsCC.row {K r:Nat}{l1 l2 u1 u2:Int}{e:Ending}{w:World}(h:TellsCC K r l1 l2 u1 u2 e w)(hn:¬Many K l1 l2 u1 u2 r 20000) :
 ∃s L,e=.returned (.tuple #[s,.int .i64 0])/\RowAt 0 w s L/\aq L/\(∀x,x∈L↔TW K l1 l2 u1 u2 x r/\bZ K l1 l2 u1 u2 x=true)/\L.length<=20000:=h.elim id fun k=>absurd k.2 hn
theorem uF {K r:Nat}(hK:K<=12){l1 l2 u1 u2:Int}(hx:u1-l1<=8*szK K)(hy:u2-l2<=8*szK K):¬Many K l1 l2 u1 u2 r 20000:=fun⟨L,h1,h2,h3⟩=>by
 have:=Ey hK hx hy h1 h2;omega
def inB (l1 l2 u1 u2 x y:Int):Bool:=decide (l1<=x/\x<=u1/\l2<=y/\y<=u2)
theorem BZ (l1 l2 u1 u2 x y:Int):(decide (l1<=x)=false/\inB l1 l2 u1 u2 x y=false)∨(l1<=x/\decide (x<=u1)=false/\inB l1 l2 u1 u2 x y=false)∨(l1<=x/\x<=u1/\decide (l2<=y)=false/\inB l1 l2 u1 u2 x y=false) ∨
 (l1<=x/\x<=u1/\l2<=y/\decide (y<=u2)=false/\inB l1 l2 u1 u2 x y=false)∨(l1<=x/\x<=u1/\l2<=y/\y<=u2/\inB l1 l2 u1 u2 x y=true):=by
 unfold inB;simp only[decide_eq_false_iff_not,decide_eq_true_eq];omega
theorem oP (l1 l2 u1 u2 x y:Int)(w:World):Calls Tryz.prog 32 #[.agg #[.int .i64 l1,.int .i64 l2,.int .i64 u1,.int .i64 u2],.agg #[.int .i64 x,.int .i64 y]] w fun e w'=>e=.returned (.bool (inB l1 l2 u1 u2 x y))/\Below w.heap.size w w':=by
 have hw:=BZ l1 l2 u1 u2 x y;generalize inB l1 l2 u1 u2 x y=b at *;rcases hw with⟨h1,rfl⟩ | ⟨h1,h2,rfl⟩ | ⟨h1,h2,h3,rfl⟩ | ⟨h1,h2,h3,h4,rfl⟩ | ⟨h1,h2,h3,h4,rfl⟩
 all_goals
  go_enter Tryz.func32,Tryz.ntmps32
  go_wp2;go_ret;exact⟨rfl,by go_grown⟩
theorem f9 (l1 l2 u1 u2:Int)(b:Bool)(h:(u1<l1/\b=true)∨(decide (u1<l1)=false/\u2<l2/\b=true)∨(decide (u1<l1)=false/\decide (u2<l2)=false/\b=false))(w:World) :
 Calls Tryz.prog 91 #[.agg #[.int .i64 l1,.int .i64 l2,.int .i64 u1,.int .i64 u2]] w fun e w'=>e=.returned (.bool b)/\Below w.heap.size w w':=by
 rcases h with⟨h1,rfl⟩ | ⟨h1,h2,rfl⟩ | ⟨h1,h2,rfl⟩
 all_goals
  go_enter Tryz.func91,Tryz.ntmps91
  go_wp2;go_ret;exact⟨rfl,by go_grown⟩
theorem C8 (l1 l2 u1 u2:Int)(p q:Bool)(hp:inB (-2147483648) (-2147483648) 2147483648 2147483648 l1 l2=p)(hq:inB (-2147483648) (-2147483648) 2147483648 2147483648 u1 u2=q)(w:World) :
 Calls Tryz.prog 139 #[.agg #[.int .i64 l1,.int .i64 l2,.int .i64 u1,.int .i64 u2]] w fun e w'=>e=.returned (.bool (p && q))/\Below w.heap.size w w':=by
 have H1:=ab fun w=>(by have:=oP (-2147483648) (-2147483648) 2147483648 2147483648 l1 l2 w;rwa [hp]at this:Calls Tryz.prog 32 #[.agg #[.int .i64 (-2147483648),.int .i64 (-2147483648),.int .i64 2147483648,.int .i64 2147483648],.agg #[.int .i64 l1,.int .i64 l2]] w fun e w'=>e=.returned (.bool p)/\Below w.heap.size w w')
 have H2:=ab fun w=>(by have:=oP (-2147483648) (-2147483648) 2147483648 2147483648 u1 u2 w;rwa [hq]at this:Calls Tryz.prog 32 #[.agg #[.int .i64 (-2147483648),.int .i64 (-2147483648),.int .i64 2147483648,.int .i64 2147483648],.agg #[.int .i64 u1,.int .i64 u2]] w fun e w'=>e=.returned (.bool q)/\Below w.heap.size w w')
 clear hp hq;cases p
 ·
  go_enter Tryz.func139,Tryz.ntmps139
  go_wp2_with fail;refine(H1.out _).mono ?_;rintro e w1 ⟨rfl,d1⟩;have c1:Below w.heap.size w w1:=Below.trans (by go_grown) (d1.mono (by simp;try omega));have hB:=c1;clear c1 d1;go_wp2;go_ret;exact⟨by simp,hB⟩
 ·
  go_enter Tryz.func139,Tryz.ntmps139
  go_wp2_with fail;refine(H1.out _).mono ?_;rintro e w1 ⟨rfl,d1⟩;have c1:Below w.heap.size w w1:=Below.trans (by go_grown) (d1.mono (by simp;try omega));have s0:w1.cell? ⟨w.heap.size,0,none⟩=some (.int .i64 l1):=aa d1 (by go_simp);have qs0:=World.block_lt_of_cell? _ _ s0;have s1:w1.cell? ⟨w.heap.size,1,none⟩=some (.int .i64 l2):=aa d1 (by go_simp);have s2:w1.cell? ⟨w.heap.size,2,none⟩=some (.int .i64 u1):=aa d1 (by go_simp);have s3:w1.cell? ⟨w.heap.size,3,none⟩=some (.int .i64 u2):=aa d1 (by go_simp);have t0:w1.cell? ⟨w.heap.size+1,0,none⟩=some (.int .i64 (-2147483648)):=aa d1 (by go_simp);have qt0:=World.block_lt_of_cell? _ _ t0;have t1:w1.cell? ⟨w.heap.size+1,1,none⟩=some (.int .i64 (-2147483648)):=aa d1 (by go_simp);have t2:w1.cell? ⟨w.heap.size+1,2,none⟩=some (.int .i64 2147483648):=aa d1 (by go_simp);have t3:w1.cell? ⟨w.heap.size+1,3,none⟩=some (.int .i64 2147483648):=aa d1 (by go_simp);have hB:=c1;clear c1 d1;go_wp2_with fail;refine(H2.out _).mono ?_;rintro e w2 ⟨rfl,d2⟩;have c2:Below w1.heap.size w1 w2:=Below.trans (by go_grown) (d2.mono (by simp;try omega));replace s0:=aa c2 s0;replace qs0:=World.block_lt_of_cell? _ _ s0;replace s1:=aa c2 s1;replace s2:=aa c2 s2;replace s3:=aa c2 s3;replace t0:=aa c2 t0;replace qt0:=World.block_lt_of_cell? _ _ t0;replace t1:=aa c2 t1;replace t2:=aa c2 t2;replace t3:=aa c2 t3;replace hB:=ae hB c2;clear c2 d2;go_wp2;go_ret;exact⟨by simp,hB⟩
def Box4 (B:Nat)(l1 l2 u1 u2:Int)(W:World):Prop:=W.cell? ⟨B,0,none⟩=some (.int .i64 l1)/\W.cell? ⟨B,1,none⟩=some (.int .i64 l2)/\W.cell? ⟨B,2,none⟩=some (.int .i64 u1)/\W.cell? ⟨B,3,none⟩=some (.int .i64 u2)
theorem Box4.keep {B:Nat}{l1 l2 u1 u2:Int}{W W':World}(h:Box4 B l1 l2 u1 u2 W)(hb:Below W.heap.size W W'):Box4 B l1 l2 u1 u2 W':=⟨aa hb h.1,aa hb h.2.1,aa hb h.2.2.1,aa hb h.2.2.2⟩
theorem ix (w:World)(e:TypeId)(l1 l2 u1 u2:Int):Box4 w.heap.size l1 l2 u1 u2 (w.alloc (.cells #[.int .i64 l1,.int .i64 l2,.int .i64 u1,.int .i64 u2] e)):=⟨by go_simp,by go_simp,by go_simp,by go_simp⟩
theorem rX (l1 l2 u1 u2 r t:Int)(p q:Bool)(tb:Bool)
 (h:(r<0/\t=1)∨(decide (r<0)=false/\12<r/\t=1)∨(decide (r<0)=false/\decide (12<r)=false/\((p=false/\t=4)∨(p=true/\q=false/\t=4)∨(p=true/\q=true/\tb=true/\t=1)∨(p=true/\q=true/\tb=false/\t=0))))
 (W1:∀w,Calls Tryz.prog 90 #[.int .i64 l1,.int .i64 l2] w fun e w'=>e=.returned (.bool p)/\Below w.heap.size w w')
 (W2:∀w,Calls Tryz.prog 90 #[.int .i64 u1,.int .i64 u2] w fun e w'=>e=.returned (.bool q)/\Below w.heap.size w w')
 (TU:∀w,Calls Tryz.prog 91 #[.agg #[.int .i64 l1,.int .i64 l2,.int .i64 u1,.int .i64 u2]] w fun e w'=>e=.returned (.bool tb)/\Below w.heap.size w w') (w:World) :
 Calls Tryz.prog 58 #[.agg #[.int .i64 l1,.int .i64 l2,.int .i64 u1,.int .i64 u2],.int .i64 r] w fun e w'=>e=.returned (.int .i64 t)/\Below w.heap.size w w':=by
 replace W1:Hid _:=W1;replace W2:Hid _:=W2;replace TU:Hid _:=TU;have S0:=ab (ix w 66 l1 l2 u1 u2);have B0:=ab (ag w (.cells #[.int .i64 l1,.int .i64 l2,.int .i64 u1,.int .i64 u2] 66));obtain⟨y0,y1,y2,y3⟩:=S0.out;rcases h with⟨h1,rfl⟩ | ⟨h1,h2,rfl⟩ | ⟨h1,h2,h3⟩
 ·
  go_enter Tryz.func58,Tryz.ntmps58
  go_wp2_with fail;go_ret;exact⟨rfl,B0.out⟩
 ·
  go_enter Tryz.func58,Tryz.ntmps58
  go_wp2_with fail;go_ret;exact⟨rfl,B0.out⟩
 ·
  go_enter Tryz.func58,Tryz.ntmps58
  go_wp2_with fail;generalize w.alloc (.cells #[.int .i64 l1,.int .i64 l2,.int .i64 u1,.int .i64 u2] 66)=w0 at *;refine(W1.out _).mono ?_;rintro e w1 ⟨rfl,b1⟩;have B1:=ab (ae B0.out b1);have S1:=ab (S0.out.keep b1);clear y0 y1 y2 y3 S0 B0 b1 W1;obtain⟨y0,y1,y2,y3⟩:=S1.out;rcases h3 with⟨rfl,rfl⟩ | ⟨rfl,h3⟩ | ⟨rfl,h3⟩ | ⟨rfl,h3⟩
  · go_wp2_with fail;go_ret;exact⟨rfl,B1.out⟩
  all_goals
   go_wp2_with fail;refine(W2.out _).mono ?_;rintro e w2 ⟨rfl,b2⟩;have B2:=ab (ae B1.out b2);have S2:=ab (S1.out.keep b2);clear y0 y1 y2 y3 S1 B1 b2 W2;obtain⟨y0,y1,y2,y3⟩:=S2.out
  · obtain⟨rfl,rfl⟩:=h3;go_wp2_with fail;go_ret;exact⟨rfl,B2.out⟩
  · obtain⟨rfl,rfl,rfl⟩:=h3;go_wp2_with fail;refine(TU.out _).mono ?_;rintro e w3 ⟨rfl,b3⟩;have B3:=ab (ae B2.out b3);clear y0 y1 y2 y3 b3;go_wp2_with fail;go_ret;exact⟨rfl,B3.out⟩
  · obtain⟨rfl,rfl,rfl⟩:=h3;go_wp2_with fail;refine(TU.out _).mono ?_;rintro e w3 ⟨rfl,b3⟩;have B3:=ab (ae B2.out b3);clear y0 y1 y2 y3 b3;go_wp2_with fail;go_ret;exact⟨rfl,B3.out⟩
theorem vg (l1 l2 u1 u2 r t:Int)(h:j7 l1 l2 u1 u2 r t)(w:World) :
 Calls Tryz.prog 58 #[.agg #[.int .i64 l1,.int .i64 l2,.int .i64 u1,.int .i64 u2],.int .i64 r] w fun e w'=>e=.returned (.int .i64 t)/\Below w.heap.size w w':=by
 have TU:∀w,Calls Tryz.prog 91 #[.agg #[.int .i64 l1,.int .i64 l2,.int .i64 u1,.int .i64 u2]] w fun e w'=>e=.returned (.bool (decide (u1<l1∨u2<l2)))/\Below w.heap.size w w':=fun w=>by
  refine f9 l1 l2 u1 u2 _ ?_ w;simp only[decide_eq_false_iff_not,decide_eq_true_eq];omega
 refine rX l1 l2 u1 u2 r t (dA l1 l2) (dA u1 u2) _ ?_ (fun w=>zH l1 l2 _ rfl w) (fun w=>zH u1 u2 _ rfl w) TU w;unfold j7 at h;have e1:dA l1 l2=true↔InW l1 l2:=⟨ij,g7⟩
 have e2:dA u1 u2=true↔InW u1 u2:=⟨ij,g7⟩
 cases p:dA l1 l2 <;>cases q:dA u1 u2 <;>rw[p]at e1 <;>rw[q]at e2 <;>simp only[Bool.false_eq_true,false_iff,true_iff]at e1 e2
 all_goals
  simp only[decide_eq_false_iff_not,decide_eq_true_eq,true_and,false_and,or_false,false_or,Bool.false_eq_true,Bool.true_eq_false];simp only[e1,e2,and_self,and_true,true_and,and_false,false_and,not_false_eq_true,not_true_eq_false,or_false,false_or]at h;omega
theorem gZ (x:Int)(w:World):Calls Tryz.prog 248 #[.int .i64 x] w fun e w'=>e=.returned (.bool false)/\w'=w:=by
 go_enter Tryz.func248,Tryz.ntmps248
 go_wp2;go_ret;exact⟨by simp,rfl⟩
theorem vO (x y:Int)(w:World):Calls Tryz.prog 247 #[.int .i64 x,.int .i64 y] w fun e w'=>e=.returned (.int .i64 (dd x y))/\w'=w:=by
 by_cases h:x<y
 · have e1:dd x y= -1:=by unfold dd;rw[if_pos h]
   rw[e1]
   go_enter Tryz.func247,Tryz.ntmps247
   go_wp2_with fail;refine(gZ _ _).mono ?_;rintro e w1 ⟨rfl,rfl⟩;go_wp2_with fail;refine(gZ _ _).mono ?_;rintro e w1 ⟨rfl,rfl⟩;go_wp2;go_ret;exact⟨rfl,rfl⟩
 · by_cases h2:y<x
   · have e1:dd x y=1:=by unfold dd;rw[if_neg h,if_pos h2]
     have h0:decide (x<y)=false:=df (by omega);clear h;rw[e1]
     go_enter Tryz.func247,Tryz.ntmps247
     go_wp2_with fail;refine(gZ _ _).mono ?_;rintro e w1 ⟨rfl,rfl⟩;go_wp2_with fail;refine(gZ _ _).mono ?_;rintro e w1 ⟨rfl,rfl⟩;go_wp2;go_ret;exact⟨rfl,rfl⟩
   · have e1:dd x y=0:=by unfold dd;rw[if_neg h,if_neg h2]
     have h0:decide (x<y)=false:=df (by omega);have h3:decide (y<x)=false:=df (by omega);clear h h2;rw[e1]
     go_enter Tryz.func247,Tryz.ntmps247
     go_wp2_with fail;refine(gZ _ _).mono ?_;rintro e w1 ⟨rfl,rfl⟩;go_wp2_with fail;refine(gZ _ _).mono ?_;rintro e w1 ⟨rfl,rfl⟩;go_wp2;go_ret;exact⟨rfl,rfl⟩
def orG (G:Nat->Int):Int:=if G 0≠0 then G 0 else if G 1≠0 then G 1 else G 2
theorem Ig {G:Nat->Int}{k:Nat}(hk:k<3)(h:∀j,j<k->G j=0)(hn:G k≠0):orG G=G k:=by
 unfold orG;obtain rfl | rfl | rfl:k=0∨k=1∨k=2:=by omega
 · rw[if_pos hn]
 · rw[if_neg (by rw[h 0 (by omega)];simp),if_pos hn]
 · rw[if_neg (by rw[h 0 (by omega)];simp),if_neg (by rw[h 1 (by omega)];simp)]
theorem CN {G:Nat->Int}(h:∀j,j<3->G j=0):orG G=0:=by
 unfold orG;rw[if_neg (by rw[h 0 (by omega)];simp),if_neg (by rw[h 1 (by omega)];simp),h 2 (by omega)]
theorem JO (g c:Nat)(G:Nat->Int)(Z:Int)(hZ:orG G=Z)(w:World)(hc:∀i,i<3->w.cell? ⟨g,i,none⟩=some (.int .i64 (G i))) :
 Calls Tryz.prog 246 #[.slice (some ⟨g,0,none⟩) 3 c] w fun e w'=>e=.returned (.int .i64 Z)/\w'=w:=by
 have HC:=ab hc;have HZ:=ab hZ;clear hc hZ
 go_enter Tryz.func246,Tryz.ntmps246
 go_wp2_with fail;go_loopw [8] (fun v8 wr=>∃k:Nat,k<=3/\v8=.int .i64 (k:Int)/\Hid (∀j,j<k->G j=0)/\wr=w) (fun v8 _=>3-(intOf v8).toNat)
 case atStart=>exact⟨0,by omega,rfl,ab (fun j hj=>by omega),rfl⟩
 case round =>
  obtain⟨k,hk,rfl,hz,rfl⟩:=hrel;by_cases h3:k<3
  · have h3':(k:Int)<3:=by omega
    have hx:=HC.out k h3;by_cases hn:G k=0
    · have hz2:Hid (∀j,j<k+1->G j=0):=ab fun j hj=>by
       by_cases e:j=k
       · rw[e];exact hn
       · exact hz.out j (by omega)
      rw[hn]at hx;clear hz hn;go_wp2_with fail;go_roundw
      case rel=>exact⟨k+1,by omega,by go_num,hz2,trivial⟩
      case measure=>simp[intOf];omega
    · have hn2:(G k == 0)=false:=by simpa using hn
      have e:=(Ig h3 hz.out hn).symm.trans HZ.out;rw[e]at hx hn2;clear hz e hn;go_wp2;go_ret;exact⟨rfl,rfl⟩
  · have h3':decide ((k:Int)<3)=false:=df (by omega);have e:=ab ((CN fun j hj=>hz.out j (by omega)).symm.trans HZ.out);clear hz h3;go_wp2;go_ret;exact⟨by rw[←e.out];rfl,rfl⟩
theorem EF (x y:Int):orG (fun i=>if i=0 then dd (sp0 x) (sp0 y)else if i=1 then dd (sp1 x) (sp1 y)else dd (sp2 x) (sp2 y))=vT x y:=rfl
def As (p q r:Int)(i:Nat):Int:=if i=0 then p else if i=1 then q else r
theorem Jf (g c:Nat)(p q r Z:Int)(hZ:orG (As p q r)=Z)(w:World)(h0:w.cell? ⟨g,0,none⟩=some (.int .i64 p))(h1:w.cell? ⟨g,1,none⟩=some (.int .i64 q))(h2:w.cell? ⟨g,2,none⟩=some (.int .i64 r)) :
 Calls Tryz.prog 246 #[.slice (some ⟨g,0,none⟩) 3 c] w fun e w'=>e=.returned (.int .i64 Z)/\w'=w :=
 JO g c _ Z hZ w fun i hi=>by
  obtain rfl | rfl | rfl:i=0∨i=1∨i=2:=by omega
  · exact h0
  · exact h1
  · exact h2
theorem fV {w0 a b:World}{p0 p1 p2 p3 p4 p5:Addr}{v0 v1 v2 v3 v4 v5:Value}(hb:Below a.heap.size a b)(h:a.cell? p0=some v0/\a.cell? p1=some v1/\a.cell? p2=some v2/\a.cell? p3=some v3/\a.cell? p4=some v4/\a.cell? p5=some v5/\Below w0.heap.size w0 a) :
 b.cell? p0=some v0/\b.cell? p1=some v1/\b.cell? p2=some v2/\b.cell? p3=some v3/\b.cell? p4=some v4/\b.cell? p5=some v5/\Below w0.heap.size w0 b :=
 ⟨aa hb h.1,aa hb h.2.1,aa hb h.2.2.1,aa hb h.2.2.2.1,aa hb h.2.2.2.2.1,aa hb h.2.2.2.2.2.1,ae h.2.2.2.2.2.2 hb⟩
def spA (x:Int):Value:=.agg #[.int .i64 (sp0 x),.int .i64 (sp1 x),.int .i64 (sp2 x)]
theorem ox (x0 x1 x2 y0 y1 y2 p q r Z:Int)(hZ:orG (As p q r)=Z)(C0:Hid (∀w,Calls Tryz.prog 247 #[.int .i64 x0,.int .i64 y0] w fun e w'=>e=.returned (.int .i64 p)/\w'=w))(C1:Hid (∀w,Calls Tryz.prog 247 #[.int .i64 x1,.int .i64 y1] w fun e w'=>e=.returned (.int .i64 q)/\w'=w))(C2:Hid (∀w,Calls Tryz.prog 247 #[.int .i64 x2,.int .i64 y2] w fun e w'=>e=.returned (.int .i64 r)/\w'=w))(w:World) :
 Calls Tryz.prog 245 #[.agg #[.int .i64 x0,.int .i64 x1,.int .i64 x2],.agg #[.int .i64 y0,.int .i64 y1,.int .i64 y2]] w fun e w'=>e=.returned (.int .i64 Z)/\Below w.heap.size w w':=by
 have OR:=ab fun g c w h0 h1 h2=>Jf g c p q r Z hZ w h0 h1 h2;clear hZ
 go_enter Tryz.func245,Tryz.ntmps245
 go_wp2_with fail;have al:=ae (ag w (.cells #[.int .i64 x0,.int .i64 x1,.int .i64 x2] 185)) (ag (w.alloc (.cells #[.int .i64 x0,.int .i64 x1,.int .i64 x2] 185)) (.cells #[.int .i64 y0,.int .i64 y1,.int .i64 y2] 185));have a0:((w.alloc (.cells #[.int .i64 x0,.int .i64 x1,.int .i64 x2] 185)).alloc (.cells #[.int .i64 y0,.int .i64 y1,.int .i64 y2] 185)).cell? ⟨w.heap.size,0,none⟩=some (.int .i64 x0):=by go_simp
 have a1:((w.alloc (.cells #[.int .i64 x0,.int .i64 x1,.int .i64 x2] 185)).alloc (.cells #[.int .i64 y0,.int .i64 y1,.int .i64 y2] 185)).cell? ⟨w.heap.size,1,none⟩=some (.int .i64 x1):=by go_simp
 have a2:((w.alloc (.cells #[.int .i64 x0,.int .i64 x1,.int .i64 x2] 185)).alloc (.cells #[.int .i64 y0,.int .i64 y1,.int .i64 y2] 185)).cell? ⟨w.heap.size,2,none⟩=some (.int .i64 x2):=by go_simp
 have b0:((w.alloc (.cells #[.int .i64 x0,.int .i64 x1,.int .i64 x2] 185)).alloc (.cells #[.int .i64 y0,.int .i64 y1,.int .i64 y2] 185)).cell? ⟨w.heap.size+1,0,none⟩=some (.int .i64 y0):=by go_simp
 have b1:((w.alloc (.cells #[.int .i64 x0,.int .i64 x1,.int .i64 x2] 185)).alloc (.cells #[.int .i64 y0,.int .i64 y1,.int .i64 y2] 185)).cell? ⟨w.heap.size+1,1,none⟩=some (.int .i64 y1):=by go_simp
 have b2:((w.alloc (.cells #[.int .i64 x0,.int .i64 x1,.int .i64 x2] 185)).alloc (.cells #[.int .i64 y0,.int .i64 y1,.int .i64 y2] 185)).cell? ⟨w.heap.size+1,2,none⟩=some (.int .i64 y2):=by go_simp
 generalize (w.alloc (.cells #[.int .i64 x0,.int .i64 x1,.int .i64 x2] 185)).alloc (.cells #[.int .i64 y0,.int .i64 y1,.int .i64 y2] 185)=W2 at *;have hS0:=fV (aK W2) ⟨a0,a1,a2,b0,b1,b2,al⟩
 go_region_held3 (fun w'=>w'.cell? ⟨w.heap.size,0,none⟩=some (.int .i64 x0)/\w'.cell? ⟨w.heap.size,1,none⟩=some (.int .i64 x1)/\w'.cell? ⟨w.heap.size,2,none⟩=some (.int .i64 x2)/\w'.cell? ⟨w.heap.size+1,0,none⟩=some (.int .i64 y0)/\w'.cell? ⟨w.heap.size+1,1,none⟩=some (.int .i64 y1)/\w'.cell? ⟨w.heap.size+1,2,none⟩=some (.int .i64 y2)/\Below w.heap.size w w') (first | exact hS0 | assumption | exact fV (ag _ _) (by assumption))
  (first | (go_at_call 247;(first | with_reducible refine(C0.out _).mono ?_ | with_reducible refine(C1.out _).mono ?_ | with_reducible refine(C2.out _).mono ?_);rintro e w' ⟨rfl,rfl⟩) | (go_at_call 246;refine(OR.out _ _ _ (by go_simp) (by go_simp) (by go_simp)).mono ?_;rintro e w' ⟨rfl,rfl⟩))
 go_wp2;go_ret;rename_i hS;exact⟨rfl,hS.2.2.2.2.2.2⟩
theorem yx (x y:Int)(w:World):Calls Tryz.prog 245 #[spA x,spA y] w fun e w'=>e=.returned (.int .i64 (vT x y))/\Below w.heap.size w w' :=
 ox _ _ _ _ _ _ _ _ _ _ (EF x y) (ab fun w=>vO _ _ w) (ab fun w=>vO _ _ w) (ab fun w=>vO _ _ w) w
end Go.Proofs.YtbnlhdnnenahfaaGreatDoor
