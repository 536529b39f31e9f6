/-
  What the texts PlaneMath, CellMath, IdentMath, NearMath, LineMath say, so far as this seat's proofs need it.
-/
import Derived.Test.YtbnlhdnnenahfaaGreatDoorPY
namespace Go.Proofs.YtbnlhdnnenahfaaGreatDoor
open Go.RowKit
def sev (K:Nat):Int:=aw (bet K).1 (bet K).2
def cjA (K:Nat):Int:=(bet K).1+(bet K).2
def cjB (K:Nat):Int:= -(bet K).2
theorem lB:∀i:Fin 13,(decide (sev i.val=7^i.val) && decide (1<=sev i.val) && decide (sev i.val<=13841287201)
 && decide (-262144<=(bet i.val).1) && decide ((bet i.val).1<=262144) && decide (-262144<=(bet i.val).2) && decide ((bet i.val).2<=262144) && decide (-262144<=cjA i.val) && decide (cjA i.val<=262144)
 && decide (-sev i.val<=(bet i.val).1) && decide ((bet i.val).1<=sev i.val) && decide (-sev i.val<=(bet i.val).2) && decide ((bet i.val).2<=sev i.val) && decide (-sev i.val<=cjA i.val) && decide (cjA i.val<=sev i.val))=true:=by decide +kernel
theorem oT {K:Nat}(h:K<=12):sev K=7^K:=by
 have:=lB ⟨K,by omega⟩;simp only[Bool.and_eq_true,decide_eq_true_eq]at this;exact this.1.1.1.1.1.1.1.1.1.1.1.1.1.1
theorem gd {K:Nat}(h:K<=12):1<=sev K/\sev K<=13841287201:=by
 have:=lB ⟨K,by omega⟩;simp only[Bool.and_eq_true,decide_eq_true_eq]at this;omega
theorem dH {K:Nat}(h:K<=12): -262144<=(bet K).1/\(bet K).1<=262144∧-262144<=(bet K).2/\(bet K).2<=262144∧-262144<=cjA K/\cjA K<=262144∧-262144<=cjB K/\cjB K<=262144:=by
 have:=lB ⟨K,by omega⟩;simp only[Bool.and_eq_true,decide_eq_true_eq]at this;unfold cjB;omega
theorem ud {K:Nat}(h:K<=12): -sev K<=(bet K).1/\(bet K).1<=sev K∧-sev K<=(bet K).2/\(bet K).2<=sev K∧-sev K<=cjA K/\cjA K<=sev K∧-sev K<=cjB K/\cjB K<=sev K:=by
 have:=lB ⟨K,by omega⟩;simp only[Bool.and_eq_true,decide_eq_true_eq]at this;unfold cjB;omega
theorem aV {a b A B:Int}(ha: -A<=a/\a<=A)(hb: -B<=b/\b<=B): -(A*B)<=a*b/\a*b<=A*B:=by
 have h:(a*b).natAbs<=A.natAbs*B.natAbs:=by rw[Int.natAbs_mul];exact Nat.mul_le_mul (by omega) (by omega)
 have g2:(A.natAbs*B.natAbs:Nat)=(A*B).natAbs:=by rw[Int.natAbs_mul]
 have g3:0<=A*B:=Int.mul_nonneg (by omega) (by omega);omega
def nuA (K:Nat)(x y:Int):Int:=(45*x-26*y)*cjA K-52*y*cjB K
def nuB (K:Nat)(x y:Int):Int:=(45*x-26*y)*cjB K+52*y*cjA K+52*y*cjB K
def dvK (K:Nat):Int:=2340*sev K
theorem bX {K:Nat}(h:K<=12):1<=dvK K/\dvK K<=1125899906842624:=by
 have:=gd h;unfold dvK;omega
def InW (x y:Int):Prop:=0<=x/\x<1073741824/\0<=y/\y<1073741824
theorem If {K:Nat}{x y:Int}(h:K<=12)(hw:InW x y): -(104152956928*sev K)<=nuA K x y/\nuA K x y<=104152956928*sev K∧-(104152956928*sev K)<=nuB K x y/\nuB K x y<=104152956928*sev K:=by
 obtain⟨b1,b2,b3,b4,b5,b6,b7,b8⟩:=ud h;obtain⟨x1,x2,y1,y2⟩:=hw;have h1:=aV (a:=45*x-26*y) (A:=48318382080) (b:=cjA K) (B:=sev K) (by omega) (by omega);have h2:=aV (a:=45*x-26*y) (A:=48318382080) (b:=cjB K) (B:=sev K) (by omega) (by omega);have h3:=aV (a:=52*y) (A:=55834574848) (b:=cjB K) (B:=sev K) (by omega) (by omega);have h4:=aV (a:=52*y) (A:=55834574848) (b:=(bet K).1) (B:=sev K) (by omega) (by omega);have e:52*y*(bet K).1=52*y*cjA K+52*y*cjB K:=by unfold cjA cjB;grind
 rw[e]at h4;unfold nuA nuB;omega
theorem zw {K:Nat}{x y:Int}(h:K<=12)(hw:InW x y): -72057594037927936<=nuA K x y/\nuA K x y<=72057594037927936∧-72057594037927936<=nuB K x y/\nuB K x y<=72057594037927936:=by
 obtain⟨b1,b2,b3,b4,b5,b6,b7,b8⟩:=dH h;obtain⟨x1,x2,y1,y2⟩:=hw;have h1:=aV (a:=45*x-26*y) (A:=48318382080) (b:=cjA K) (B:=262144) (by omega) (by omega);have h2:=aV (a:=45*x-26*y) (A:=48318382080) (b:=cjB K) (B:=262144) (by omega) (by omega);have h3:=aV (a:=52*y) (A:=55834574848) (b:=cjB K) (B:=262144) (by omega) (by omega);have h4:=aV (a:=52*y) (A:=55834574848) (b:=(bet K).1) (B:=262144) (by omega) (by omega);have e:52*y*(bet K).1=52*y*cjA K+52*y*cjB K:=by unfold cjA cjB;grind
 rw[e]at h4;unfold nuA nuB;omega
theorem pC {K:Nat}{x y a b:Int}(h:K<=12)(hw:InW x y)(hn:aU (dvK K) (nuA K x y) (nuB K x y) a b): -67108864<=a/\a<=67108864∧-67108864<=b/\b<=67108864:=by
 have hs:=(gd h).1;have hu:=If h hw;have h1:=hn.1;unfold a7 Hex dvK at h1;generalize nuA K x y=u at *;generalize nuB K x y=v at *;generalize sev K=S at *;have ea:a*(2340*S)=2340*(a*S):=by grind
 have eb:b*(2340*S)=2340*(b*S):=by grind
 rw[ea,eb]at h1;have big:∀j:Int,-(67108865*S)<j*S->j*S<67108865*S→-67108864<=j/\j<=67108864:=by
  intro j h1 h2;constructor
  · by_cases hj: -67108864<=j
    · exact hj
    · exfalso
      have:=Int.mul_le_mul_of_nonneg_right (show j≤-67108865 by omega) (show 0<=S by omega);omega
  · by_cases hj:j<=67108864
    · exact hj
    · exfalso
      have:=Int.mul_le_mul_of_nonneg_right (show 67108865<=j by omega) (show 0<=S by omega);omega
 have ba:=big a (by omega) (by omega);have bb:=big b (by omega) (by omega);omega
def ctA (K:Nat)(a b:Int):Int:=(bet K).1*a-(bet K).2*b
def ctB (K:Nat)(a b:Int):Int:=(bet K).1*b+(bet K).2*a+(bet K).2*b
theorem ic {K:Nat}{a b:Int}(h:K<=12)(ha: -4294967296<=a/\a<=4294967296)(hb: -4294967296<=b/\b<=4294967296): -3377699720527872<=ctA K a b/\ctA K a b<=3377699720527872∧-3377699720527872<=ctB K a b/\ctB K a b<=3377699720527872:=by
 obtain⟨b1,b2,b3,b4,-,-,-,-⟩:=dH h;have h1:=aV (a:=(bet K).1) (A:=262144) (b:=a) (B:=4294967296) (by omega) ha;have h2:=aV (a:=(bet K).1) (A:=262144) (b:=b) (B:=4294967296) (by omega) hb;have h3:=aV (a:=(bet K).2) (A:=262144) (b:=a) (B:=4294967296) (by omega) ha;have h4:=aV (a:=(bet K).2) (A:=262144) (b:=b) (B:=4294967296) (by omega) hb;unfold ctA ctB;omega
def poX (K:Nat)(a b:Int):Int:=52*ctA K a b+26*ctB K a b
def poY (K:Nat)(a b:Int):Int:=45*ctB K a b
theorem qj {d u v a b i k:Int}(h:aU d u v a b):aU d (u+d*i) (v+d*k) (a+i) (b+k):=by
 have key:∀x y,a7 d (u+d*i) (v+d*k) x y↔a7 d u v (x-i) (y-k):=fun x y=>by
  unfold a7;have e1:u+d*i-x*d=u-(x-i)*d:=by rw[Int.sub_mul,Int.mul_comm d i];omega
  have e2:v+d*k-y*d=v-(y-k)*d:=by rw[Int.sub_mul,Int.mul_comm d k];omega
  rw[e1,e2]
 constructor
 · rw[key,show a+i-i=a by omega,show b+k-k=b by omega];exact h.1
 · intro x y hxy;rw[key]at hxy;have:=h.2 _ _ hxy;omega
theorem qi {d x y:Int}(hd:0<d)(h:Hex d (-(x*d)) (-(y*d))):x=0/\y=0:=by
 unfold Hex at h;have bd:∀j:Int,-d<=j*d->j*d<=d→-1<=j/\j<=1:=by
  intro j h1 h2;constructor
  · by_cases hj: -1<=j
    · exact hj
    · exfalso
      have:=Int.mul_le_mul_of_nonneg_right (show j≤-2 by omega) (show 0<=d by omega);omega
  · by_cases hj:j<=1
    · exact hj
    · exfalso
      have:=Int.mul_le_mul_of_nonneg_right (show 2<=j by omega) (show 0<=d by omega);omega
 have bx:=bd x (by omega) (by omega);have by':=bd y (by omega) (by omega);have ci:x= -1∨x=0∨x=1:=by omega
 have ck:y= -1∨y=0∨y=1:=by omega
 rcases ci with rfl | rfl | rfl <;>rcases ck with rfl | rfl | rfl <;>omega
theorem qk {d i k:Int}(hd:0<d):aU d (d*i) (d*k) i k:=by
 have h0:aU d 0 0 0 0:=by
  constructor
  · unfold a7 Hex;simp;omega
  · intro x y h;unfold a7 at h;rw[Int.zero_sub,Int.zero_sub]at h;have hh:=qi hd h;omega
 have:=qj (i:=i) (k:=k) h0
 rwa [Int.zero_add,Int.zero_add,Int.zero_add,Int.zero_add]at this
theorem eh {d:Int}(hd:1<=d)(u v:Int):∃a b,aU d u v a b:=by
 have r1:=Int.emod_nonneg u (b:=d) (by omega);have r2:=Int.emod_lt_of_pos u (b:=d) (by omega);have r3:=Int.emod_nonneg v (b:=d) (by omega);have r4:=Int.emod_lt_of_pos v (b:=d) (by omega);have hp:=pS r1 r2 r3 r4;exact⟨_,_,jC (Int.mul_ediv_add_emod u d).symm (Int.mul_ediv_add_emod v d).symm hp.1 hp.2⟩
theorem zt {K:Nat}(h:K<=12)(a b:Int):aU (dvK K) (nuA K (poX K a b) (poY K a b)) (nuB K (poX K a b) (poY K a b)) a b:=by
 have e1:nuA K (poX K a b) (poY K a b)=dvK K*a:=by unfold nuA dvK sev aw poX poY ctA ctB cjA cjB;grind
 have e2:nuB K (poX K a b) (poY K a b)=dvK K*b:=by unfold nuB dvK sev aw poX poY ctA ctB cjA cjB;grind
 rw[e1,e2];exact qk (by have:=bX h;omega)
def bR:Nat->Int
 | 0=>1 | 1=> -1 | 2=> -2 | 3=> -1 | 4=>1 | _=>2
def bS:Nat->Int
 | 0=>1 | 1=>2 | 2=>1 | 3=> -1 | 4=> -2 | _=> -1
def coX (K:Nat)(a b p q:Int):Int:=poX K (3*a+p) (3*b+q)
def coY (K:Nat)(a b p q:Int):Int:=poY K (3*a+p) (3*b+q)
def dA (x y:Int):Bool:=decide (0<=x/\x<1073741824/\0<=y/\y<1073741824)
theorem ij {x y:Int}(h:dA x y=true):InW x y:=by unfold InW;exact of_decide_eq_true h
theorem Fg {x y:Int}(h:dA x y=false):¬InW x y:=by unfold InW;exact of_decide_eq_false h
theorem g7 {x y:Int}(h:InW x y):dA x y=true:=by unfold InW at h;exact decide_eq_true h
theorem d8 {x y:Int}(h:¬InW x y):dA x y=false:=by unfold InW at h;exact decide_eq_false h
def ia (P:Int->Int->Prop)(e:Ending):Prop:=∃a b:Int,e=.returned (.tuple #[.agg #[.int .i64 a,.int .i64 b],.bool true])/\P a b
def Hf (m:Int):Int:=if m=0 then 0 else if m=1 then 1 else if m=2 then 5 else if m=3 then 6 else if m=4 then 3 else if m=5 then 2 else 4
def ptA (d:Int):Int:=if d=0 then 0 else if d=1 then 1 else if d=2 then 0 else if d=3 then -1 else if d=4 then -1 else if d=5 then 0 else 1
def ptB (d:Int):Int:=if d=0 then 0 else if d=1 then 0 else if d=2 then 1 else if d=3 then 1 else if d=4 then 0 else if d=5 then -1 else -1
def dig (a b:Int):Int:=Hf ((a-2*b)%7)
def aQ (a b:Int):Int:=(3*(a-ptA (dig a b))+(b-ptB (dig a b))) / 7
def aR (a b:Int):Int:=(2*(b-ptB (dig a b))-(a-ptA (dig a b))) / 7
def chA (d P Q:Int):Int:=2*P-Q+ptA d
def chB (d P Q:Int):Int:=P+3*Q+ptB d
theorem fS (a b:Int):0<=dig a b/\dig a b<=6:=by
 unfold dig Hf;have h0:=Int.emod_nonneg (a-2*b) (b:=7) (by omega);have h1:=Int.emod_lt_of_pos (a-2*b) (b:=7) (by omega)
 repeat' split
 all_goals omega
theorem iW {d:Int}(h0:0<=d)(h1:d<=6):d=0∨d=1∨d=2∨d=3∨d=4∨d=5∨d=6:=by omega
theorem oz (a b:Int):(dig a b=0/\(a-2*b)%7=0/\ptA (dig a b)=0/\ptB (dig a b)=0)∨(dig a b=1/\(a-2*b)%7=1/\ptA (dig a b)=1/\ptB (dig a b)=0)∨(dig a b=5/\(a-2*b)%7=2/\ptA (dig a b)=0/\ptB (dig a b)= -1)
 ∨(dig a b=6/\(a-2*b)%7=3/\ptA (dig a b)=1/\ptB (dig a b)= -1)∨(dig a b=3/\(a-2*b)%7=4/\ptA (dig a b)= -1/\ptB (dig a b)=1)∨(dig a b=2/\(a-2*b)%7=5/\ptA (dig a b)=0/\ptB (dig a b)=1)∨(dig a b=4/\(a-2*b)%7=6/\ptA (dig a b)= -1/\ptB (dig a b)=0):=by
 have h0:=Int.emod_nonneg (a-2*b) (b:=7) (by omega);have h1:=Int.emod_lt_of_pos (a-2*b) (b:=7) (by omega);unfold dig;generalize (a-2*b)%7=m at *;have:m=0∨m=1∨m=2∨m=3∨m=4∨m=5∨m=6:=by omega
 rcases this with rfl | rfl | rfl | rfl | rfl | rfl | rfl <;>decide
theorem fB (a b:Int):a=2*aQ a b-aR a b+ptA (dig a b)/\b=aQ a b+3*aR a b+ptB (dig a b):=by
 unfold aQ aR;rcases oz a b with h | h | h | h | h | h | h <;>(obtain⟨-,hm,hA,hB⟩:=h;rw[hA,hB];omega)
theorem kD (d:Int): -1<=ptA d/\ptA d<=1∧-1<=ptB d/\ptB d<=1:=by
 have hA:ptA d=0∨ptA d=1∨ptA d= -1:=by
  unfold ptA;repeat' split
  all_goals omega
 have hB:ptB d=0∨ptB d=1∨ptB d= -1:=by
  unfold ptB;repeat' split
  all_goals omega
 omega
theorem lp {d P Q:Int}(h0:0<=d)(h1:d<=6):dig (chA d P Q) (chB d P Q)=d/\aQ (chA d P Q) (chB d P Q)=P/\aR (chA d P Q) (chB d P Q)=Q:=by
 have hd:dig (chA d P Q) (chB d P Q)=d:=by
  rcases iW h0 h1 with rfl | rfl | rfl | rfl | rfl | rfl | rfl
  · have e:(chA 0 P Q-2*chB 0 P Q)%7=0:=by show(2*P-Q+0-2*(P+3*Q+0))%7=0;omega
    unfold dig;rw[e];rfl
  · have e:(chA 1 P Q-2*chB 1 P Q)%7=1:=by show(2*P-Q+1-2*(P+3*Q+0))%7=1;omega
    unfold dig;rw[e];rfl
  · have e:(chA 2 P Q-2*chB 2 P Q)%7=5:=by show(2*P-Q+0-2*(P+3*Q+1))%7=5;omega
    unfold dig;rw[e];rfl
  · have e:(chA 3 P Q-2*chB 3 P Q)%7=4:=by show(2*P-Q+-1-2*(P+3*Q+1))%7=4;omega
    unfold dig;rw[e];rfl
  · have e:(chA 4 P Q-2*chB 4 P Q)%7=6:=by show(2*P-Q+-1-2*(P+3*Q+0))%7=6;omega
    unfold dig;rw[e];rfl
  · have e:(chA 5 P Q-2*chB 5 P Q)%7=2:=by show(2*P-Q+0-2*(P+3*Q+-1))%7=2;omega
    unfold dig;rw[e];rfl
  · have e:(chA 6 P Q-2*chB 6 P Q)%7=3:=by show(2*P-Q+1-2*(P+3*Q+-1))%7=3;omega
    unfold dig;rw[e];rfl
 refine⟨hd,?_,?_⟩
 · unfold aQ;rw[hd];unfold chA chB;omega
 · unfold aR;rw[hd];unfold chA chB;omega
theorem CV (a b:Int):chA (dig a b) (aQ a b) (aR a b)=a/\chB (dig a b) (aQ a b) (aR a b)=b:=by
 have:=fB a b;unfold chA chB;omega
theorem oK {a b B:Int}(ha: -B<=a/\a<=B)(hb: -B<=b/\b<=B)(_:1<=B): -B<=aQ a b/\aQ a b<=B∧-B<=aR a b/\aR a b<=B:=by
 have h:=fB a b;have p:=kD (dig a b);omega
def ups:Nat->Int->Int->Int×Int
 | 0,a,b=>(a,b)
 | n+1,a,b=>ups n (aQ a b) (aR a b)
theorem mK (n:Nat)(a b:Int):ups (n+1) a b=ups n (aQ a b) (aR a b):=rfl
theorem oX:∀(m n:Nat) (a b:Int),ups (m+n) a b=ups n (ups m a b).1 (ups m a b).2
 | 0,n,a,b=>by rw[Nat.zero_add];rfl
 | m+1,n,a,b=>by rw[Nat.add_right_comm];exact oX m n (aQ a b) (aR a b)
theorem it (n:Nat)(a b:Int):ups (n+1) a b=(aQ (ups n a b).1 (ups n a b).2,aR (ups n a b).1 (ups n a b).2):=by
 rw[oX n 1 a b];rfl
theorem lI {B:Int}(hB:1<=B):∀(n:Nat) {a b:Int},-B<=a/\a<=B→-B<=b/\b<=B->(-B<=(ups n a b).1/\(ups n a b).1<=B)/\(-B<=(ups n a b).2/\(ups n a b).2<=B)
 | 0,_,_,ha,hb=>⟨ha,hb⟩
 | n+1,a,b,ha,hb=>by
  have h:=oK ha hb hB;exact lI hB n ⟨h.1,h.2.1⟩ ⟨h.2.2.1,h.2.2.2⟩
theorem kR {d P Q:Int}(n:Nat)(h0:0<=d)(h1:d<=6):ups (n+1) (chA d P Q) (chB d P Q)=ups n P Q:=by
 have h:=lp (P:=P) (Q:=Q) h0 h1;rw[mK,h.2.1,h.2.2]
def bc (n:Int):Prop:= -1073741824<=n/\n<=1073741824
def aG (n:Int):Prop:= -512<=n/\n<=511
def Ok4 (r a b:Int):Prop:=0<=r/\r<=12/\bc a/\bc b/\aG (ups r.toNat a b).1/\aG (ups r.toNat a b).2
def iS (r a b:Int):Bool:=decide (0<=r/\r<=12/\(-1073741824<=a/\a<=1073741824)/\(-1073741824<=b/\b<=1073741824)/\(-512<=(ups r.toNat a b).1/\(ups r.toNat a b).1<=511)/\(-512<=(ups r.toNat a b).2/\(ups r.toNat a b).2<=511))
theorem jh {r a b:Int}(h:Ok4 r a b):iS r a b=true:=by unfold Ok4 bc aG at h;exact decide_eq_true h
theorem zx {r a b:Int}(h:iS r a b=true):Ok4 r a b:=by unfold Ok4 bc aG;exact of_decide_eq_true h
theorem dD {r a b:Int}(h:¬Ok4 r a b):iS r a b=false:=by unfold Ok4 bc aG at h;exact decide_eq_false h
theorem lh {x y B:Int}(h: -B<=x/\x<=B∧-B<=y/\y<=B):aw x y<=3*(B*B):=by
 have h1:=(aV (a:=x) (b:=x) (A:=B) (B:=B) (by omega) (by omega)).2;have h2:=(aV (a:=x) (b:=y) (A:=B) (B:=B) (by omega) (by omega)).2;have h3:=(aV (a:=y) (b:=y) (A:=B) (B:=B) (by omega) (by omega)).2;unfold aw;omega
theorem pE (d:Int):aw (ptA d) (ptB d)<=1:=by
 by_cases h:0<=d/\d<=6
 · rcases iW h.1 h.2 with rfl | rfl | rfl | rfl | rfl | rfl | rfl <;>decide
 · have hA:ptA d=1:=by unfold ptA;repeat' (rw[if_neg (by omega)])
   have hB:ptB d= -1:=by unfold ptB;repeat' (rw[if_neg (by omega)])
   rw[hA,hB];decide
theorem jD (a b p q:Int):64*aw (a-p) (b-q)<=65*aw a b+4160*aw p q:=by
 have h:=mw (a+64*p) (b+64*q);have e:aw (a+64*p) (b+64*q)+64*aw (a-p) (b-q)=65*aw a b+4160*aw p q:=by unfold aw;grind
 omega
theorem iR (a b p q:Int):64*aw (a+p) (b+q)<=65*aw a b+4160*aw p q:=by
 have h:=jD a b (-p) (-q);have e:aw (-p) (-q)=aw p q:=by unfold aw;grind
 rw[e,show a - -p=a+p by omega,show b - -q=b+q by omega]at h;exact h
theorem pD (P Q:Int):aw (2*P-Q) (P+3*Q)=7*aw P Q:=by unfold aw;grind
theorem Fs (a b:Int):448*aw (aQ a b) (aR a b)<=65*aw a b+4160:=by
 have h:=jD a b (ptA (dig a b)) (ptB (dig a b));have hp:=pE (dig a b);have hs:=fB a b;have e:=pD (aQ a b) (aR a b);rw[show 2*aQ a b-aR a b=a-ptA (dig a b)by omega,show aQ a b+3*aR a b=b-ptB (dig a b)by omega]at e;omega
theorem zu (a b:Int):64*aw a b<=455*aw (aQ a b) (aR a b)+4160:=by
 have hs:=fB a b;have h:=iR (2*aQ a b-aR a b) (aQ a b+3*aR a b) (ptA (dig a b)) (ptB (dig a b));rw[←hs.1,←hs.2,pD]at h;have hp:=pE (dig a b);omega
def upN:Nat->Int
 | 0=>195000
 | r+1=>(448*upN r-4160) / 65
def dnN:Nat->Int
 | 0=>786432
 | r+1=>(455*dnN r+4160) / 64
theorem GU:∀i:Fin 13,decide (62700*7^i.val+200<=upN i.val)=true:=by decide +kernel
theorem EV:∀i:Fin 13,decide (dnN i.val<=100000000000000000)=true:=by decide +kernel
theorem mJ:∀(r:Nat) {a b:Int},aw a b<=upN r->aw (ups r a b).1 (ups r a b).2<=195000
 | 0,_,_,h=>h
 | r+1,a,b,h=>by
  have h1:=Fs a b;have h2:upN (r+1)=(448*upN r-4160) / 65:=rfl;exact mJ r (by omega)
theorem oU {a b N B:Int}(h:aw a b<=N)(hB:0<=B)(hN:4*N<3*((B+1)*(B+1))):(-B<=a/\a<=B)/\(-B<=b/\b<=B):=by
 have e1:4*aw a b=(2*b+a)*(2*b+a)+3*(a*a):=by unfold aw;grind
 have e2:4*aw a b=(2*a+b)*(2*a+b)+3*(b*b):=by unfold aw;grind
 have s1:0<=(2*b+a)*(2*b+a):=by have:=oh (2*b+a);omega
 have s2:0<=(2*a+b)*(2*a+b):=by have:=oh (2*a+b);omega
 have key:∀x:Int,x*x<(B+1)*(B+1)→-B<=x/\x<=B:=by
  intro x hx;have h:(x*x).natAbs=x.natAbs*x.natAbs:=Int.natAbs_mul x x;have k:((B+1)*(B+1)).natAbs=(B+1).natAbs*(B+1).natAbs:=Int.natAbs_mul _ _;have g:0<=x*x:=by have:=oh x;omega
  have hlt:x.natAbs<(B+1).natAbs:=by
   apply Nat.lt_of_not_le;intro hle;have:=Nat.mul_le_mul hle hle;omega
  omega
 exact⟨key a (by omega),key b (by omega)⟩
theorem qG {a b:Int}(h:aw a b<=195000):aG a/\aG b:=by
 have:=oU (B:=510) h (by omega) (by omega);unfold aG;omega
theorem gG:∀(r:Nat) {a b:Int},aw (ups r a b).1 (ups r a b).2<=786432->aw a b<=dnN r
 | 0,_,_,h=>h
 | r+1,a,b,h=>by
  have h1:=gG r (a:=aQ a b) (b:=aR a b) h;have h2:=zu a b;have h3:dnN (r+1)=(455*dnN r+4160) / 64:=rfl;omega
theorem pQ {r:Nat}{a b:Int}(hr:r<=12)(h1:aG (ups r a b).1)(h2:aG (ups r a b).2):(-400000000<=a/\a<=400000000)/\(-400000000<=b/\b<=400000000):=by
 unfold aG at h1 h2;have hN:=lh (x:=(ups r a b).1) (y:=(ups r a b).2) (B:=512) ⟨by omega,by omega,by omega,by omega⟩;have h:=gG r (a:=a) (b:=b) (by omega);have hd:=of_decide_eq_true (EV ⟨r,by omega⟩);have hd':dnN r<=100000000000000000:=hd;exact oU (N:=dnN r) h (by omega) (by omega)
theorem ce {r a b:Int}(h:Ok4 r a b):(-400000000<=a/\a<=400000000)/\(-400000000<=b/\b<=400000000):=pQ (r:=r.toNat) (by have:=h.1;have:=h.2.1;omega) h.2.2.2.2.1 h.2.2.2.2.2
theorem dh {r:Nat}{a b:Int}(hr:r<=12)(h1:aG (ups r a b).1)(h2:aG (ups r a b).2):Ok4 r a b:=by
 have h:=pQ hr h1 h2;exact⟨by omega,by omega,by unfold bc;omega,by unfold bc;omega,h1,h2⟩
theorem ku {r P Q d:Int}(h:Ok4 r P Q)(hr:r<12)(h0:0<=d)(h1:d<=6):Ok4 (r+1) (chA d P Q) (chB d P Q):=by
 have hn:(r+1).toNat=r.toNat+1:=by have:=h.1;omega
 have:=dh (r:=r.toNat+1) (a:=chA d P Q) (b:=chB d P Q) (by have:=h.1;omega) (by rw[kR _ h0 h1];exact h.2.2.2.2.1) (by rw[kR _ h0 h1];exact h.2.2.2.2.2)
 rwa [show((r.toNat+1:Nat):Int)=r+1 by have:=h.1;omega]at this
theorem uU {r a b:Int}(h:Ok4 r a b)(n:Nat)(hn:n<=r):Ok4 (r-n) (ups n a b).1 (ups n a b).2:=by
 have e:r.toNat=n+(r-n).toNat:=by have:=h.1;omega
 have h1:=h.2.2.2.2.1;have h2:=h.2.2.2.2.2;rw[e,oX]at h1 h2;have:=dh (r:=(r-n).toNat) (by have:=h.2.1;omega) h1 h2
 rwa [show(((r-n).toNat:Nat):Int)=r-n by omega]at this
theorem nO {r a b:Int}(h:Ok4 r a b)(hr:0<r):Ok4 (r-1) (aQ a b) (aR a b):=uU h 1 (by omega)
theorem nJ {K:Nat}{x y a b:Int}(h:K<=12)(hw:InW x y)(hn:aU (dvK K) (nuA K x y) (nuB K x y) a b):aw a b<=62700*7^(12-K)+200:=by
 have hs:=(gd h).1;have hp:=oT h;have h1:=hn.1;unfold a7 Hex at h1;have hd:=(bX h).1;have hN:aw (nuA K x y) (nuB K x y)=aw (45*x-26*y) (52*y)*sev K:=by unfold nuA nuB sev cjA cjB aw;grind
 have hX:aw (45*x-26*y) (52*y)=2025*(x*x)+2028*(y*y):=by unfold aw;grind
 obtain⟨x1,x2,y1,y2⟩:=hw;have mx:=aV (a:=x) (b:=x) (A:=1073741824) (B:=1073741824) (by omega) (by omega);have my:=aV (a:=y) (b:=y) (A:=1073741824) (B:=1073741824) (by omega) (by omega);have hM:aw (45*x-26*y) (52*y)<=4053*1152921504606846976:=by rw[hX];omega
 have hr:=lh (x:=nuA K x y-a*dvK K) (y:=nuB K x y-b*dvK K) (B:=dvK K) ⟨by omega,by omega,by omega,by omega⟩;have hW:=jD (nuA K x y) (nuB K x y) (nuA K x y-a*dvK K) (nuB K x y-b*dvK K);rw[show nuA K x y-(nuA K x y-a*dvK K)=a*dvK K by omega,show nuB K x y-(nuB K x y-b*dvK K)=b*dvK K by omega]at hW;have hZ:aw (a*dvK K) (b*dvK K)=aw a b*(dvK K*dvK K):=by unfold aw;grind
 rw[hZ,hN]at hW;generalize aw a b=X at *;generalize aw (45*x-26*y) (52*y)=M at *;have hc:K=0∨K=1∨K=2∨K=3∨K=4∨K=5∨K=6∨K=7∨K=8∨K=9∨K=10∨K=11∨K=12:=by omega
 rcases hc with rfl | rfl | rfl | rfl | rfl | rfl | rfl | rfl | rfl | rfl | rfl | rfl | rfl <;>(unfold dvK at *;rw[hp]at *;clear hN hX hZ hs hd h1 mx my;simp at *;omega)
theorem zq {K:Nat}{x y a b:Int}(h:K<=12)(hw:InW x y)(hn:aU (dvK K) (nuA K x y) (nuB K x y) a b):aw a b<=upN (12-K):=by
 have hT:=of_decide_eq_true (GU ⟨12-K,by omega⟩);have hT':62700*7^(12-K)+200<=upN (12-K):=hT;have:=nJ h hw hn;omega
theorem Fp {K:Nat}{x y a b r:Int}(h:K<=12)(hr:12-r=(K:Int))(hw:InW x y)(hn:aU (dvK K) (nuA K x y) (nuB K x y) a b):Ok4 r a b:=by
 have hb:=qG (mJ (12-K) (zq h hw hn));have:=dh (r:=12-K) (by omega) hb.1 hb.2
 rwa [show((12-K:Nat):Int)=r by omega]at this
theorem tB (a b:Int):aU 7 (3*a+b) (2*b-a) (aQ a b) (aR a b):=by
 have hs:=fB a b;generalize aQ a b=P at *;generalize aR a b=Q at *;rcases oz a b with h | h | h | h | h | h | h <;>
  (obtain⟨-,-,hA,hB⟩:=h
   rw[hA,hB]at hs;clear hA hB;refine⟨?_,fun x y hxy=>?_⟩
   · unfold a7 Hex;omega
   · unfold a7 Hex at hxy;omega)
def dg (w:Int)(r:Nat):Int:=w / 8^(12-r)%8
def wR (w:Int):Int:=w / 72057594037927936%16
def wA (w:Int):Int:=w / 70368744177664%1024-512
def wB (w:Int):Int:=w / 68719476736%1024-512
def gF (d:Nat->Int):Int:=d 1*8589934592+d 2*1073741824+d 3*134217728+d 4*16777216+d 5*2097152+d 6*262144+d 7*32768+d 8*4096+d 9*512+d 10*64+d 11*8+d 12
def dK (R A B:Int):Int:=1152921504606846976+R*72057594037927936+(A+512)*70368744177664+(B+512)*68719476736
def wd (R A B:Int)(d:Nat->Int):Int:=dK R A B+gF d
theorem oo {j:Nat}(h1:1<=j)(h2:j<=12):j=1∨j=2∨j=3∨j=4∨j=5∨j=6∨j=7∨j=8∨j=9∨j=10∨j=11∨j=12:=by omega
theorem D8 (w:Int):dg w 1=w / 8589934592%8/\dg w 2=w / 1073741824%8/\dg w 3=w / 134217728%8/\dg w 4=w / 16777216%8/\dg w 5=w / 2097152%8/\dg w 6=w / 262144%8/\dg w 7=w / 32768%8/\dg w 8=w / 4096%8/\dg w 9=w / 512%8/\dg w 10=w / 64%8/\dg w 11=w / 8%8/\dg w 12=w%8:=by
 refine⟨rfl,rfl,rfl,rfl,rfl,rfl,rfl,rfl,rfl,rfl,rfl,?_⟩;show w / 1%8=w%8
 rw[Int.ediv_one]
theorem dV (w:Int)(j:Nat):0<=dg w j/\dg w j<=7:=by unfold dg;omega
theorem rv {d:Nat->Int}(hd:∀j,1<=j->j<=12->0<=d j/\d j<=7):0<=gF d/\gF d<68719476736:=by
 have h1:=hd 1 (by omega) (by omega);have h2:=hd 2 (by omega) (by omega);have h3:=hd 3 (by omega) (by omega);have h4:=hd 4 (by omega) (by omega);have h5:=hd 5 (by omega) (by omega);have h6:=hd 6 (by omega) (by omega);have h7:=hd 7 (by omega) (by omega);have h8:=hd 8 (by omega) (by omega);have h9:=hd 9 (by omega) (by omega);have h10:=hd 10 (by omega) (by omega);have h11:=hd 11 (by omega) (by omega);have h12:=hd 12 (by omega) (by omega);unfold gF;omega
theorem D9 {R A B:Int}{d:Nat->Int}(hd:∀j,1<=j->j<=12->0<=d j/\d j<=7){j:Nat}(j1:1<=j)(j2:j<=12):dg (wd R A B d) j=d j:=by
 have h1:=hd 1 (by omega) (by omega);have h2:=hd 2 (by omega) (by omega);have h3:=hd 3 (by omega) (by omega);have h4:=hd 4 (by omega) (by omega);have h5:=hd 5 (by omega) (by omega);have h6:=hd 6 (by omega) (by omega);have h7:=hd 7 (by omega) (by omega);have h8:=hd 8 (by omega) (by omega);have h9:=hd 9 (by omega) (by omega);have h10:=hd 10 (by omega) (by omega);have h11:=hd 11 (by omega) (by omega);have h12:=hd 12 (by omega) (by omega);have e:=D8 (wd R A B d);have hw:wd R A B d=(16777216+R*1048576+(A+512)*1024+(B+512))*68719476736+gF d:=by unfold wd dK;omega
 unfold gF at hw;generalize 16777216+R*1048576+(A+512)*1024+(B+512)=H at hw;rw[hw]at e ⊢;rcases oo j1 j2 with rfl | rfl | rfl | rfl | rfl | rfl | rfl | rfl | rfl | rfl | rfl | rfl
 · rw[e.1];clear e;omega
 · rw[e.2.1];clear e;omega
 · rw[e.2.2.1];clear e;omega
 · rw[e.2.2.2.1];clear e;omega
 · rw[e.2.2.2.2.1];clear e;omega
 · rw[e.2.2.2.2.2.1];clear e;omega
 · rw[e.2.2.2.2.2.2.1];clear e;omega
 · rw[e.2.2.2.2.2.2.2.1];clear e;omega
 · rw[e.2.2.2.2.2.2.2.2.1];clear e;omega
 · rw[e.2.2.2.2.2.2.2.2.2.1];clear e;omega
 · rw[e.2.2.2.2.2.2.2.2.2.2.1];clear e;omega
 · rw[e.2.2.2.2.2.2.2.2.2.2.2];clear e;omega
theorem uJ {R A B:Int}{d:Nat->Int}(hR:0<=R/\R<=15)(hA:aG A)(hB:aG B)(hd:∀j,1<=j->j<=12->0<=d j/\d j<=7) :
 wR (wd R A B d)=R/\wA (wd R A B d)=A/\wB (wd R A B d)=B/\wd R A B d / 1152921504606846976=1/\0<=wd R A B d/\wd R A B d<2305843009213693952:=by
 have hl:=rv hd;unfold aG at hA hB;unfold wR wA wB wd dK;omega
theorem JN {w:Int}(h:w / 1152921504606846976=1):wd (wR w) (wA w) (wB w) (dg w)=w:=by
 have e:=D8 w;have s0:w=w / 8*8+w%8:=by clear h e;omega
 have s1:w / 8=w / 64*8+w / 8%8:=by clear h e;omega
 have s2:w / 64=w / 512*8+w / 64%8:=by clear h e;omega
 have s3:w / 512=w / 4096*8+w / 512%8:=by clear h e;omega
 have s4:w / 4096=w / 32768*8+w / 4096%8:=by clear h e;omega
 have s5:w / 32768=w / 262144*8+w / 32768%8:=by clear h e;omega
 have s6:w / 262144=w / 2097152*8+w / 262144%8:=by clear h e;omega
 have s7:w / 2097152=w / 16777216*8+w / 2097152%8:=by clear h e;omega
 have s8:w / 16777216=w / 134217728*8+w / 16777216%8:=by clear h e;omega
 have s9:w / 134217728=w / 1073741824*8+w / 134217728%8:=by clear h e;omega
 have s10:w / 1073741824=w / 8589934592*8+w / 1073741824%8:=by clear h e;omega
 have s11:w / 8589934592=w / 68719476736*8+w / 8589934592%8:=by clear h e;omega
 have t1:w / 68719476736=w / 70368744177664*1024+w / 68719476736%1024:=by clear h e;omega
 have t2:w / 70368744177664=w / 72057594037927936*1024+w / 70368744177664%1024:=by clear h e;omega
 have t3:w / 72057594037927936=w / 1152921504606846976*16+w / 72057594037927936%16:=by clear h e;omega
 unfold wd dK gF wR wA wB;rw[e.1,e.2.1,e.2.2.1,e.2.2.2.1,e.2.2.2.2.1,e.2.2.2.2.2.1,e.2.2.2.2.2.2.1,e.2.2.2.2.2.2.2.1,e.2.2.2.2.2.2.2.2.1,e.2.2.2.2.2.2.2.2.2.1,e.2.2.2.2.2.2.2.2.2.2.1,e.2.2.2.2.2.2.2.2.2.2.2];clear e;generalize w / 8%8=m1 at *;generalize w / 64%8=m2 at *;generalize w / 512%8=m3 at *;generalize w / 4096%8=m4 at *;generalize w / 32768%8=m5 at *;generalize w / 262144%8=m6 at *;generalize w / 2097152%8=m7 at *;generalize w / 16777216%8=m8 at *;generalize w / 134217728%8=m9 at *;generalize w / 1073741824%8=m10 at *;generalize w / 8589934592%8=m11 at *;generalize w%8=m0 at *;generalize w / 68719476736%1024=mB at *;generalize w / 70368744177664%1024=mA at *;generalize w / 72057594037927936%16=mR at *;generalize w / 8=q1 at *;generalize w / 64=q2 at *;generalize w / 512=q3 at *;generalize w / 4096=q4 at *;generalize w / 32768=q5 at *;generalize w / 262144=q6 at *;generalize w / 2097152=q7 at *;generalize w / 16777216=q8 at *;generalize w / 134217728=q9 at *;generalize w / 1073741824=q10 at *;generalize w / 8589934592=q11 at *;generalize w / 68719476736=q12 at *;generalize w / 70368744177664=q13 at *;generalize w / 72057594037927936=q14 at *;generalize w / 1152921504606846976=q15 at *;omega
theorem fe {R A B:Int}{d e:Nat->Int}(h:∀j,1<=j->j<=12->d j=e j):wd R A B d=wd R A B e:=by
 unfold wd gF;rw[h 1 (by omega) (by omega),h 2 (by omega) (by omega),h 3 (by omega) (by omega),h 4 (by omega) (by omega),h 5 (by omega) (by omega),h 6 (by omega) (by omega),h 7 (by omega) (by omega),h 8 (by omega) (by omega),h 9 (by omega) (by omega),h 10 (by omega) (by omega),h 11 (by omega) (by omega),h 12 (by omega) (by omega)]
def fo (w:Int)(j:Nat)(d:Int):Int:=w-dg w j*8^(12-j)+d*8^(12-j)
def oN (f:Nat->Int)(j:Nat)(d:Int):Nat->Int:=fun i=>if i=j then d else f i
theorem oO (f:Nat->Int)(j:Nat)(d:Int):oN f j d j=d:=if_pos rfl
theorem jK (f:Nat->Int){i j:Nat}(d:Int)(h:i≠j):oN f j d i=f i:=if_neg h
theorem Cn (f:Nat->Int){j:Nat}(d:Int)(j1:1<=j)(j2:j<=12):gF (oN f j d)=gF f-f j*8^(12-j)+d*8^(12-j):=by
 unfold gF;rcases oo j1 j2 with rfl | rfl | rfl | rfl | rfl | rfl | rfl | rfl | rfl | rfl | rfl | rfl <;>simp[oN] <;>omega
theorem oS {R A B:Int}{f:Nat->Int}(hd:∀j,1<=j->j<=12->0<=f j/\f j<=7){j:Nat}(d:Int)(j1:1<=j)(j2:j<=12):fo (wd R A B f) j d=wd R A B (oN f j d):=by
 unfold fo;rw[D9 hd j1 j2];unfold wd;rw[Cn f d j1 j2];omega
def dgs (r:Nat)(a b:Int)(j:Nat):Int:=if j<=r then dig (ups (r-j) a b).1 (ups (r-j) a b).2 else 7
def av (r:Nat)(a b:Int):Int:=wd r (ups r a b).1 (ups r a b).2 (dgs r a b)
theorem kX (r:Nat)(a b:Int)(j:Nat):0<=dgs r a b j/\dgs r a b j<=7:=by
 unfold dgs
 split
 · have:=fS (ups (r-j) a b).1 (ups (r-j) a b).2;omega
 · omega
theorem gs (r:Nat)(a b:Int)(j:Nat):dgs r a b j=7↔r<j:=by
 unfold dgs
 split
 · have:=fS (ups (r-j) a b).1 (ups (r-j) a b).2;omega
 · omega
def Whole (w:Int):Prop:=w / 1152921504606846976=1/\wR w<=12/\∀j:Nat,1<=j->j<=12->(dg w j=7↔wR w<(j:Int))
def bW (d:Nat->Int):Nat->Int->Int->Int×Int
 | 0,A,B=>(A,B)
 | n+1,A,B=>(chA (d (n+1)) (bW d n A B).1 (bW d n A B).2,chB (d (n+1)) (bW d n A B).1 (bW d n A B).2)
theorem pi (d:Nat->Int)(A B:Int):bW d 0 A B=(A,B):=rfl
theorem dW (d:Nat->Int)(n:Nat)(A B:Int):bW d (n+1) A B=(chA (d (n+1)) (bW d n A B).1 (bW d n A B).2,chB (d (n+1)) (bW d n A B).1 (bW d n A B).2):=rfl
theorem mZ {d e:Nat->Int}(A B:Int):∀(n:Nat),(∀j,1<=j->j<=n->d j=e j)->bW d n A B=bW e n A B
 | 0,_=>rfl
 | n+1,h=>by rw[dW,dW,mZ A B n fun j h1 h2=>h j h1 (by omega),h (n+1) (by omega) (by omega)]
theorem kZ {d:Nat->Int}(A B:Int):∀(n:Nat),(∀j,1<=j->j<=n->0<=d j/\d j<=6)->∀k,k<=n->ups k (bW d n A B).1 (bW d n A B).2=bW d (n-k) A B
 | 0,_,k,hk=>by obtain rfl:k=0:=by omega
                rfl
 | n+1,h,0,_=>rfl
 | n+1,h,k+1,hk=>by
  have hd:=h (n+1) (by omega) (by omega);rw[dW];rw[kR k hd.1 hd.2,kZ A B n (fun j h1 h2=>h j h1 (by omega)) k (by omega),Nat.add_sub_add_right]
theorem Bm {d:Nat->Int}(A B:Int){n:Nat}(h:∀j,1<=j->j<=n->0<=d j/\d j<=6){j:Nat}(j1:1<=j)(j2:j<=n):dgs n (bW d n A B).1 (bW d n A B).2 j=d j:=by
 unfold dgs;rw[if_pos j2,kZ A B n h (n-j) (by omega),show n-(n-j)=j by omega];obtain⟨k,rfl⟩:∃k,j=k+1:=⟨j-1,by omega⟩
 have hd:=h (k+1) j1 j2;rw[dW];exact(lp hd.1 hd.2).1
theorem vE (r:Nat)(a b:Int):∀k,k<=r->bW (dgs r a b) k (ups r a b).1 (ups r a b).2=ups (r-k) a b
 | 0,_=>rfl
 | k+1,hk=>by
  rw[dW,vE r a b k (by omega)];have e:dgs r a b (k+1)=dig (ups (r-(k+1)) a b).1 (ups (r-(k+1)) a b).2:=by unfold dgs;rw[if_pos hk]
  have h2:ups (r-k) a b=(aQ (ups (r-(k+1)) a b).1 (ups (r-(k+1)) a b).2,aR (ups (r-(k+1)) a b).1 (ups (r-(k+1)) a b).2):=by rw[←it,show r-(k+1)+1=r-k by omega]
  rw[e,h2];have:=CV (ups (r-(k+1)) a b).1 (ups (r-(k+1)) a b).2;rw[this.1,this.2]
theorem tW (r:Nat)(a b:Int):bW (dgs r a b) r (ups r a b).1 (ups r a b).2=(a,b):=by rw[vE r a b r (by omega),Nat.sub_self];rfl
theorem a8 {r:Nat}{a b:Int}(h:Ok4 (r:Int) a b) :
 Whole (av r a b)/\wR (av r a b)=r/\wA (av r a b)=(ups r a b).1/\wB (av r a b)=(ups r a b).2/\(∀j,1<=j->j<=12->dg (av r a b) j=dgs r a b j)/\0<=av r a b/\av r a b<2305843009213693952:=by
 obtain⟨h0,h12,-,-,hA,hB⟩:=h;rw[show((r:Int)).toNat=r by omega]at hA hB;have hh:=uJ (R:=(r:Int)) (d:=dgs r a b) (by omega) hA hB (fun j _ _=>kX r a b j);have hg:∀j,1<=j->j<=12->dg (av r a b) j=dgs r a b j:=fun j j1 j2=>D9 (fun j _ _=>kX r a b j) j1 j2;refine⟨⟨hh.2.2.2.1,?_,?_⟩,hh.1,hh.2.1,hh.2.2.1,hg,hh.2.2.2.2⟩
 · show wR (wd _ _ _ _)<=12;rw[hh.1];exact h12
 · intro j j1 j2;rw[hg j j1 j2,gs,show wR (av r a b)=r from hh.1];omega
def an (w:Int):Int:=(bW (dg w) (wR w).toNat (wA w) (wB w)).1
def ao (w:Int):Int:=(bW (dg w) (wR w).toNat (wA w) (wB w)).2
theorem aE (w:Int):0<=wR w/\wR w<=15:=by unfold wR;omega
theorem lJ (w:Int):aG (wA w)/\aG (wB w):=by unfold wA wB aG;omega
theorem jV {w:Int}(h:Whole w){j:Nat}(j1:1<=j)(j2:(j:Int)<=wR w):0<=dg w j/\dg w j<=6:=by
 have h1:=dV w j;have h2:=h.2.2 j j1 (by have:=h.2.1;omega);have h3:¬dg w j=7:=fun e=>by have:=h2.1 e;omega
 omega
theorem cI {w:Int}(h:Whole w):Ok4 (wR w) (an w) (ao w):=by
 have hr:=aE w;have hb:=lJ w;have hd:∀j,1<=j->j<=(wR w).toNat->0<=dg w j/\dg w j<=6:=fun j j1 j2=>jV h j1 (by omega);have hu:=kZ (wA w) (wB w) (wR w).toNat hd (wR w).toNat (Nat.le_refl _);rw[Nat.sub_self,pi]at hu;have h12:=h.2.1;have:=dh (r:=(wR w).toNat) (a:=an w) (b:=ao w) (by omega) (by unfold an ao;rw[hu];exact hb.1) (by unfold an ao;rw[hu];exact hb.2)
 rwa [show(((wR w).toNat:Nat):Int)=wR w by omega]at this
theorem da {w:Int}(h:Whole w):av (wR w).toNat (an w) (ao w)=w:=by
 have hr:=aE w;have hd:∀j,1<=j->j<=(wR w).toNat->0<=dg w j/\dg w j<=6:=fun j j1 j2=>jV h j1 (by omega);have hu:=kZ (wA w) (wB w) (wR w).toNat hd (wR w).toNat (Nat.le_refl _);rw[Nat.sub_self,pi]at hu;have e:ups (wR w).toNat (an w) (ao w)=(wA w,wB w):=hu;unfold av;rw[e,show(((wR w).toNat:Nat):Int)=wR w by omega];show wd (wR w) (wA w) (wB w) _=w
 rw[fe (e:=dg w),JN h.1];intro j j1 j2;by_cases hj:(j:Int)<=wR w
 · exact Bm (wA w) (wB w) hd j1 (by omega)
 · rw[(gs _ _ _ _).2 (by omega),(h.2.2 j j1 j2).2 (by omega)]
theorem cg {r:Nat}{a b:Int}(h:Ok4 (r:Int) a b):an (av r a b)=a/\ao (av r a b)=b:=by
 have hp:=a8 h;have e:bW (dg (av r a b)) (wR (av r a b)).toNat (wA (av r a b)) (wB (av r a b))=(a,b):=by
  rw[hp.2.1,hp.2.2.1,hp.2.2.2.1,show((r:Int)).toNat=r by omega,←tW r a b];have h12:=h.2.1;rw[mZ _ _ r fun j j1 j2=>hp.2.2.2.2.1 j j1 (by omega)]
 unfold an ao;rw[e];exact⟨rfl,rfl⟩
theorem D5 {r s:Nat}{a b c d:Int}(h:Ok4 (r:Int) a b)(k:Ok4 (s:Int) c d)(e:av r a b=av s c d):r=s/\a=c/\b=d:=by
 have h1:=(a8 h).2.1;have h2:=(a8 k).2.1;have h3:=cg h;have h4:=cg k;rw[e]at h1 h3;exact⟨by omega,by rw[←h3.1,h4.1],by rw[←h3.2,h4.2]⟩
def upW (w:Int):Int:=fo w (wR w).toNat 7-72057594037927936
theorem gm {r:Nat}{a b:Int}(h:Ok4 (r:Int) a b)(hr:0<r):upW (av r a b)=av (r-1) (aQ a b) (aR a b):=by
 have hp:=a8 h;have h12:=h.2.1;unfold upW;rw[hp.2.1,show((r:Int)).toNat=r by omega];unfold av;rw[oS (fun j _ _=>kX r a b j) 7 (by omega) (by omega)];obtain⟨n,rfl⟩:∃n,r=n+1:=⟨r-1,by omega⟩
 rw[show n+1-1=n by omega,mK];have e:∀j,1<=j->j<=12->oN (dgs (n+1) a b) (n+1) 7 j=dgs n (aQ a b) (aR a b) j:=by
  intro j j1 j2;by_cases hj:j=n+1
  · subst hj;rw[oO,(gs _ _ _ _).2 (by omega)]
  · rw[jK _ _ hj];unfold dgs;by_cases hl:j<=n
    · rw[if_pos (by omega),if_pos hl,show n+1-j=(n-j)+1 by omega,mK]
    · rw[if_neg (by omega),if_neg hl]
 rw[fe e];unfold wd dK;rw[show((n+1:Nat):Int)=(n:Int)+1 by omega];omega
def stp (a b:Int):Int:=max (max (max 0 (a.natAbs:Int)) (b.natAbs:Int)) ((a+b).natAbs:Int)
theorem dF (a b:Int):0<=stp a b/\(-(stp a b)<=a/\a<=stp a b)/\(-(stp a b)<=b/\b<=stp a b)/\(-(stp a b)<=a+b/\a+b<=stp a b):=by
 unfold stp;have h1:(a.natAbs:Int)=a∨(a.natAbs:Int)= -a:=by omega
 have h2:(b.natAbs:Int)=b∨(b.natAbs:Int)= -b:=by omega
 have h3:((a+b).natAbs:Int)=a+b∨((a+b).natAbs:Int)= -(a+b):=by omega
 have k1:(a.natAbs:Int) ≥ 0:=by omega
 have k2:(b.natAbs:Int) ≥ 0:=by omega
 have k3:((a+b).natAbs:Int) ≥ 0:=by omega
 generalize (a.natAbs:Int)=x at *;generalize (b.natAbs:Int)=y at *;generalize ((a+b).natAbs:Int)=z at *;omega
theorem oj {a b n:Int}(_:0<=n)(ha: -n<=a/\a<=n)(hb: -n<=b/\b<=n)(hc: -n<=a+b/\a+b<=n):stp a b<=n:=by
 unfold stp;have h1:(a.natAbs:Int)<=n:=by omega
 have h2:(b.natAbs:Int)<=n:=by omega
 have h3:((a+b).natAbs:Int)<=n:=by omega
 omega
theorem sr (a b:Int):stp a b=0∨stp a b=a∨stp a b= -a∨stp a b=b∨stp a b= -b∨stp a b=a+b∨stp a b= -(a+b):=by
 unfold stp;have h1:(a.natAbs:Int)=a∨(a.natAbs:Int)= -a:=by omega
 have h2:(b.natAbs:Int)=b∨(b.natAbs:Int)= -b:=by omega
 have h3:((a+b).natAbs:Int)=a+b∨((a+b).natAbs:Int)= -(a+b):=by omega
 generalize (a.natAbs:Int)=x at *;generalize (b.natAbs:Int)=y at *;generalize ((a+b).natAbs:Int)=z at *;omega
theorem lG {a b n:Int}(h0:0<=n):stp a b=n↔(-n<=a/\a<=n∧-n<=b/\b<=n∧-n<=a+b/\a+b<=n)/\(n=0∨n=a∨n= -a∨n=b∨n= -b∨n=a+b∨n= -(a+b)):=by
 constructor
 · rintro rfl;have h1:=dF a b;exact⟨by omega,sr a b⟩
 · rintro⟨h1,h2⟩;have h3:stp a b<=n:=oj h0 (by omega) (by omega) (by omega);have h4:=dF a b;omega
theorem GE (a b:Int):stp (-a) (-b)=stp a b:=(lG (dF a b).1).2 (by have h1:=dF a b;have h2:=sr a b;omega)
theorem DB {a b:Int}(h:stp a b=0):a=0/\b=0:=by have:=dF a b;omega
theorem GD (a b c d:Int):stp (a+c) (b+d)<=stp a b+stp c d:=by
 have h1:=dF a b;have h2:=dF c d;generalize stp a b=n at *;generalize stp c d=m at *;exact oj (by omega) (by omega) (by omega) (by omega)
theorem GF (a b c d p q:Int):stp (a-p) (b-q)<=stp (a-c) (b-d)+stp (c-p) (d-q):=by
 have:=GD (a-c) (b-d) (c-p) (d-q)
 rwa [show a-c+(c-p)=a-p by omega,show b-d+(d-q)=b-q by omega]at this
theorem jQ (a b c d:Int):stp (a-c) (b-d)=stp (c-a) (d-b):=by
 have:=GE (c-a) (d-b)
 rwa [show -(c-a)=a-c by omega,show -(d-b)=b-d by omega]at this
def sdA (k:Int)(i:Nat)(j:Int):Int:=if i=0 then j else if i=1 then k else if i=2 then k-j else if i=3 then -j else if i=4 then -k else j-k
def sdB (k:Int)(i:Nat)(j:Int):Int:=if i=0 then -k else if i=1 then j-k else if i=2 then j else if i=3 then k else if i=4 then k-j else -j
def uA (i:Nat):Int:=if i=0 then 1 else if i=1 then 0 else if i=2 then -1 else if i=3 then -1 else if i=4 then 0 else 1
def uB (i:Nat):Int:=if i=0 then 0 else if i=1 then 1 else if i=2 then 1 else if i=3 then 0 else if i=4 then -1 else -1
theorem bO {i:Nat}(h:i<6):i=0∨i=1∨i=2∨i=3∨i=4∨i=5:=by omega
theorem Gu (k:Int){i:Nat}(hi:i<6)(j:Int):sdA k i (j+1)=sdA k i j+uA i/\sdB k i (j+1)=sdB k i j+uB i:=by
 rcases bO hi with rfl | rfl | rfl | rfl | rfl | rfl <;>simp[sdA,sdB,uA,uB] <;>omega
theorem vv (k:Int){i:Nat}(hi:i<5):sdA k (i+1) 0=sdA k i k/\sdB k (i+1) 0=sdB k i k:=by
 rcases bO (show i<6 by omega)with rfl | rfl | rfl | rfl | rfl | rfl <;>simp[sdA,sdB] <;>omega
theorem sm (k:Int):sdA k 0 0=0/\sdB k 0 0= -k:=⟨rfl,rfl⟩
theorem vu (k:Int):sdA k 5 k=0/\sdB k 5 k= -k:=⟨by simp[sdA],by simp[sdB]⟩
theorem Ah {k j:Int}{i:Nat}(hi:i<6)(h1:0<=j)(h2:j<=k):stp (sdA k i j) (sdB k i j)=k:=by
 refine(lG (by omega)).2 ?_;rcases bO hi with rfl | rfl | rfl | rfl | rfl | rfl <;>simp[sdA,sdB] <;>omega
theorem Dn {p q k:Int}(hk:0<k)(h:stp p q=k):∃(i:Nat) (j:Int),i<6/\1<=j/\j<=k/\p=sdA k i j/\q=sdB k i j:=by
 rw[lG (by omega)]at h;have:(q= -k/\1<=p)∨(p=k/\1<=q+k/\q<=0)∨(p+q=k/\1<=q)∨(q=k/\p≤-1)∨(p= -k/\q<k/\0<=q)∨(p+q= -k/\1≤-q):=by omega
 rcases this with h1 | h1 | h1 | h1 | h1 | h1
 · exact⟨0,p,by omega,by omega,by omega,by simp[sdA],by simp[sdB] <;>omega⟩
 · exact⟨1,q+k,by omega,by omega,by omega,by simp[sdA] <;>omega,by simp[sdB] <;>omega⟩
 · exact⟨2,q,by omega,by omega,by omega,by simp[sdA] <;>omega,by simp[sdB]⟩
 · exact⟨3,-p,by omega,by omega,by omega,by simp[sdA],by simp[sdB] <;>omega⟩
 · exact⟨4,k-q,by omega,by omega,by omega,by simp[sdA] <;>omega,by simp[sdB] <;>omega⟩
 · exact⟨5,-q,by omega,by omega,by omega,by simp[sdA] <;>omega,by simp[sdB]⟩
theorem Ag {k:Int}{i e:Nat}{j f:Int}(hi:i<6)(he:e<6)(j1:1<=j)(j2:j<=k)(f1:1<=f)(f2:f<=k)(hA:sdA k i j=sdA k e f)(hB:sdB k i j=sdB k e f):i=e/\j=f:=by
 rcases bO hi with rfl | rfl | rfl | rfl | rfl | rfl <;>rcases bO he with rfl | rfl | rfl | rfl | rfl | rfl <;>simp[sdA,sdB]at hA hB ⊢ <;>omega
def sdP (k:Nat)(i n:Nat):List (Int×Int):=(List.range n).map fun(j:Nat)=>(sdA k i ((j:Int)+1),sdB k i ((j:Int)+1))
def bM (k m:Nat):List (Int×Int):=(List.range m).flatMap fun i=>sdP k i k
def cH (k:Nat):List (Int×Int):=if k=0 then [(0,0)]else bM k 6
def jr (n:Nat):List (Int×Int):=(List.range n).flatMap cH
theorem Dm (k i n:Nat):sdP k i (n+1)=sdP k i n++[(sdA k i ((n:Int)+1),sdB k i ((n:Int)+1))]:=by unfold sdP;rw[List.range_succ,List.map_append];rfl
theorem l6 (k m:Nat):bM k (m+1)=bM k m++sdP k m k:=by unfold bM;rw[List.range_succ,List.flatMap_append];simp
theorem we (n:Nat):jr (n+1)=jr n++cH n:=by unfold jr;rw[List.range_succ,List.flatMap_append];simp
theorem vt (k i n:Nat):(sdP k i n).length=n:=by simp[sdP]
theorem jN (k:Nat):∀m,(bM k m).length=m*k
 | 0=>by simp[bM]
 | m+1=>by rw[l6,List.length_append,jN k m,vt,Nat.succ_mul]
theorem sg (k:Nat):(cH k).length=max (6*k) 1:=by
 unfold cH
 split
 · subst_vars;rfl
 · rw[jN];omega
theorem ph:∀n:Nat,(jr (n+1)).length=3*n*(n+1)+1
 | 0=>by decide
 | n+1=>by
  rw[we,List.length_append,ph n,sg];have:3*(n+1)*(n+1+1)=3*n*(n+1)+6*(n+1):=by grind
  omega
theorem jA {k i n:Nat}{x:Int×Int}:x∈sdP k i n↔∃j:Int,1<=j/\j<=n/\x=(sdA k i j,sdB k i j):=by
 unfold sdP;rw[List.mem_map];constructor
 · rintro⟨j,hj,rfl⟩;rw[List.mem_range]at hj;exact⟨(j:Int)+1,by omega,by omega,rfl⟩
 · rintro⟨j,h1,h2,rfl⟩;refine⟨(j-1).toNat,by rw[List.mem_range];omega,?_⟩;rw[show(((j-1).toNat:Nat):Int)+1=j by omega]
theorem wY {k m:Nat}{x:Int×Int}:x∈bM k m↔∃(i:Nat) (j:Int),i<m/\1<=j/\j<=k/\x=(sdA k i j,sdB k i j):=by
 unfold bM;rw[List.mem_flatMap];constructor
 · rintro⟨i,hi,hx⟩;obtain⟨j,h1,h2,h3⟩:=jA.1 hx;exact⟨i,j,List.mem_range.1 hi,h1,h2,h3⟩
 · rintro⟨i,j,hi,h1,h2,h3⟩;exact⟨i,List.mem_range.2 hi,jA.2 ⟨j,h1,h2,h3⟩⟩
theorem mv {k:Nat}{x:Int×Int}:x∈cH k↔stp x.1 x.2=k:=by
 unfold cH
 split
 · rename_i h;subst h;rw[List.mem_singleton];constructor
   · rintro rfl;rfl
   · intro h;have:=DB (by simpa using h);exact Prod.ext this.1 this.2
 · rename_i hk;rw[wY];constructor
   · rintro⟨i,j,hi,h1,h2,rfl⟩;exact Ah hi (by omega) h2
   · intro h;obtain⟨i,j,hi,h1,h2,h3,h4⟩:=Dn (by omega) h;exact⟨i,j,hi,h1,h2,Prod.ext h3 h4⟩
theorem zl {n:Nat}{x:Int×Int}:x∈jr n↔stp x.1 x.2<n:=by
 unfold jr;rw[List.mem_flatMap];have h0:=(dF x.1 x.2).1;constructor
 · rintro⟨k,hk,hx⟩;have h1:=List.mem_range.1 hk;have h2:=mv.1 hx;omega
 · intro h;exact⟨(stp x.1 x.2).toNat,List.mem_range.2 (by omega),mv.2 (by omega)⟩
theorem Af {k i n:Nat}(hi:i<6)(hn:n<=k):(sdP k i n).Nodup:=by
 unfold sdP;refine(List.pairwise_map).2 ?_;refine(List.nodup_range (n:=n)).imp_of_mem ?_;intro a b ha hb hne he;have h1:=List.mem_range.1 ha;have h2:=List.mem_range.1 hb;have:=Ag (k:=k) hi hi (j:=(a:Int)+1) (f:=(b:Int)+1) (by omega) (by omega) (by omega) (by omega) (congrArg Prod.fst he) (congrArg Prod.snd he);omega
theorem so (k:Nat){m:Nat}(hm:m<=6):(bM k m).Nodup:=by
 unfold bM;refine(List.pairwise_flatMap).2 ⟨fun i hi=>Af (by have:=List.mem_range.1 hi;omega) (Nat.le_refl _),?_⟩;refine(List.nodup_range (n:=m)).imp_of_mem ?_;intro a b ha hb hne x hx y hy he;subst he;obtain⟨j,j1,j2,rfl⟩:=jA.1 hx;obtain⟨f,f1,f2,hf⟩:=jA.1 hy;have h1:=List.mem_range.1 ha;have h2:=List.mem_range.1 hb;have:=Ag (k:=k) (i:=a) (e:=b) (by omega) (by omega) j1 j2 f1 f2 (congrArg Prod.fst hf) (congrArg Prod.snd hf);exact hne this.1
theorem xI (k:Nat):(cH k).Nodup:=by
 unfold cH
 split
 · simp
 · exact so k (Nat.le_refl _)
def cZ (r:Nat)(a b:Int):List Int:=if iS (r:Int) a b then [av r a b]else []
def ar (r:Nat)(a b:Int)(P:List (Int×Int)):List Int:=P.flatMap fun p=>cZ r (a+p.1) (b+p.2)
theorem jW {r:Nat}{a b:Int}(h:Ok4 (r:Int) a b):cZ r a b=[av r a b]:=if_pos (jh h)
theorem kS {r:Nat}{a b:Int}(h:¬Ok4 (r:Int) a b):cZ r a b=[]:=by unfold cZ;rw[dD h];rfl
theorem x9 (r:Nat)(a b:Int):(cZ r a b).length<=1:=by unfold cZ;split <;>simp
theorem gN {r:Nat}{a b x:Int}:x∈cZ r a b↔Ok4 (r:Int) a b/\x=av r a b:=by
 by_cases h:Ok4 (r:Int) a b
 · rw[jW h,List.mem_singleton];simp[h]
 · rw[kS h];simp[h]
theorem ge (r:Nat)(a b:Int)(P Q:List (Int×Int)):ar r a b (P++Q)=ar r a b P++ar r a b Q:=by unfold ar;rw[List.flatMap_append]
theorem i9 (r:Nat)(a b:Int)(p:Int×Int):ar r a b [p]=cZ r (a+p.1) (b+p.2):=by unfold ar;simp
theorem ma (r:Nat)(a b:Int):ar r a b []=[]:=rfl
theorem iP {r:Nat}{a b x:Int}{P:List (Int×Int)}:x∈ar r a b P↔∃p q,(p,q)∈P/\Ok4 (r:Int) (a+p) (b+q)/\x=av r (a+p) (b+q):=by
 unfold ar;rw[List.mem_flatMap];constructor
 · rintro⟨⟨p,q⟩,h1,h2⟩;exact⟨p,q,h1,gN.1 h2⟩
 · rintro⟨p,q,h1,h2⟩;exact⟨(p,q),h1,gN.2 h2⟩
theorem j0 {r:Nat}(a b:Int){P:List (Int×Int)}(h:P.Nodup):(ar r a b P).Nodup:=by
 unfold ar;refine(List.pairwise_flatMap).2 ⟨fun p _=>?_,h.imp fun {p q} hne x hx y hy he=>hne ?_⟩
 · unfold cZ;split <;>simp
 · subst he;have h1:=gN.1 hx;have h2:=gN.1 hy;have:=D5 h1.1 h2.1 (h1.2.symm.trans h2.2);exact Prod.ext (by omega) (by omega)
theorem sT (r:Nat)(a b:Int)(p:Int×Int)(P:List (Int×Int)):ar r a b (p :: P)=cZ r (a+p.1) (b+p.2)++ar r a b P:=by unfold ar;rw[List.flatMap_cons]
theorem dm (r:Nat)(a b:Int):∀P:List (Int×Int),(ar r a b P).length<=P.length
 | []=>by simp[ar]
 | p :: P=>by
  have h1:=dm r a b P;have h2:=x9 r (a+p.1) (b+p.2);rw[sT,List.length_append,List.length_cons];omega
def aq (L:List Int):Prop:=L.Pairwise (· < ·)
theorem gU:∀ {L M:List Int},aq L->aq M->(∀x,x∈L↔x∈M)->L=M
 | [],[],_,_,_=>rfl
 | [],m :: M,_,_,h=>by have:=(h m).2 (List.mem_cons_self ..);simp at this
 | l :: L,[],_,_,h=>by have:=(h l).1 (List.mem_cons_self ..);simp at this
 | l :: L,m :: M,hL,hM,h=>by
  have h1:=List.pairwise_cons.1 hL;have h2:=List.pairwise_cons.1 hM;have e:l=m:=by
   rcases List.mem_cons.1 ((h l).1 (List.mem_cons_self ..))with e | e
   · exact e
   · rcases List.mem_cons.1 ((h m).2 (List.mem_cons_self ..))with e2 | e2
     · exact e2.symm
     · have:=h1.1 m e2;have:=h2.1 l e;omega
  subst e;refine congrArg _ (gU h1.2 h2.2 fun x=>?_);constructor
  · intro hx;rcases List.mem_cons.1 ((h x).1 (List.mem_cons_of_mem _ hx))with e | e
    · subst e;have:=h1.1 x hx;omega
    · exact e
  · intro hx;rcases List.mem_cons.1 ((h x).2 (List.mem_cons_of_mem _ hx))with e | e
    · subst e;have:=h2.1 x hx;omega
    · exact e
theorem sf {L:List Int}(h:L.Pairwise (·≤·))(hn:L.Nodup):aq L:=by
 unfold aq;refine(h.and hn).imp ?_;rintro a b ⟨h1,h2⟩;omega
theorem dE {L:List Int}(h:aq L):L.Nodup:=h.imp fun {a b} hab=>by omega
def Rows (r:Nat)(a b:Int)(P:List (Int×Int))(L:List Int):Prop:=L.Perm (ar r a b P)/\aq L
theorem Rows.mem {r:Nat}{a b:Int}{P:List (Int×Int)}{L:List Int}(h:Rows r a b P L)(x:Int):x∈L↔∃p q,(p,q)∈P/\Ok4 (r:Int) (a+p) (b+q)/\x=av r (a+p) (b+q):=by rw[h.1.mem_iff,iP]
theorem Rows.len {r:Nat}{a b:Int}{P:List (Int×Int)}{L:List Int}(h:Rows r a b P L):L.length=(ar r a b P).length:=h.1.length_eq
theorem Rows.one {r:Nat}{a b:Int}{P Q:List (Int×Int)}{L M:List Int}(h:Rows r a b P L)(k:Rows r a b Q M)(hPQ:∀x,x∈P↔x∈Q):L=M :=
 gU h.2 k.2 fun x=>by
  rw[h.mem,k.mem];constructor
  · rintro⟨p,q,h1,h2⟩;exact⟨p,q,(hPQ _).1 h1,h2⟩
  · rintro⟨p,q,h1,h2⟩;exact⟨p,q,(hPQ _).2 h1,h2⟩
def Mid (r:Nat)(a b:Int):Prop:=r<=12/\aw a b<=62700*7^r+200
theorem GT:∀i:Fin 13,decide (65*(62700*7^i.val+200)+4160*1728<=64*upN i.val)=true:=by decide +kernel
theorem Mid.ok {r:Nat}{a b:Int}(h:Mid r a b){p q:Int}(hs:stp p q<=24):Ok4 (r:Int) (a+p) (b+q):=by
 have hp:=dF p q;have hn:=lh (x:=p) (y:=q) (B:=24) (by omega);have hw:=iR a b p q;have hT:=of_decide_eq_true (GT ⟨r,by have:=h.1;omega⟩);have hT':65*(62700*7^r+200)+4160*1728<=64*upN r:=hT;have h2:=h.2;have hb:=qG (mJ r (a:=a+p) (b:=b+q) (by omega));exact dh h.1 hb.1 hb.2
end Go.Proofs.YtbnlhdnnenahfaaGreatDoor
