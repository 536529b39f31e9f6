/-
  What the texts PlaneMath, CellMath, IdentMath, NearMath, LineMath say, so far as this seat's proofs need it.
-/
import Derived.Test.YtdklpgphmoaniaaGreatDoorPX
namespace Go.Proofs.YtdklpgphmoaniaaGreatDoor
open Go.RowKit
def sev (K:Nat):Int:=normE (bet K).1 (bet K).2
def cjA (K:Nat):Int:=(bet K).1+(bet K).2
def cjB (K:Nat):Int:= -(bet K).2
theorem sev_fin:∀ i:Fin 13,(decide (sev i.val=7^i.val) && decide (1≤sev i.val) && decide (sev i.val≤13841287201)
 && decide (-262144≤(bet i.val).1) && decide ((bet i.val).1≤262144) && decide (-262144≤(bet i.val).2) && decide ((bet i.val).2≤262144) && decide (-262144≤cjA i.val) && decide (cjA i.val≤262144)
 && decide (-sev i.val≤(bet i.val).1) && decide ((bet i.val).1≤sev i.val) && decide (-sev i.val≤(bet i.val).2) && decide ((bet i.val).2≤sev i.val) && decide (-sev i.val≤cjA i.val) && decide (cjA i.val≤sev i.val))=true:=by decide +kernel
theorem sev_pow {K:Nat} (h:K≤12):sev K=7^K:=by
 have:=sev_fin ⟨K,by omega⟩
 simp only [Bool.and_eq_true,decide_eq_true_eq] at this
 exact this.1.1.1.1.1.1.1.1.1.1.1.1.1.1
theorem sev_box {K:Nat} (h:K≤12):1≤sev K∧sev K≤13841287201:=by
 have:=sev_fin ⟨K,by omega⟩
 simp only [Bool.and_eq_true,decide_eq_true_eq] at this
 omega
theorem bet_small {K:Nat} (h:K≤12): -262144≤(bet K).1∧(bet K).1≤262144∧-262144≤(bet K).2∧(bet K).2≤262144∧-262144≤cjA K∧cjA K≤262144∧-262144≤cjB K∧cjB K≤262144:=by
 have:=sev_fin ⟨K,by omega⟩
 simp only [Bool.and_eq_true,decide_eq_true_eq] at this
 unfold cjB
 omega
theorem bet_sev {K:Nat} (h:K≤12): -sev K≤(bet K).1∧(bet K).1≤sev K∧-sev K≤(bet K).2∧(bet K).2≤sev K∧-sev K≤cjA K∧cjA K≤sev K∧-sev K≤cjB K∧cjB K≤sev K:=by
 have:=sev_fin ⟨K,by omega⟩
 simp only [Bool.and_eq_true,decide_eq_true_eq] at this
 unfold cjB
 omega
theorem mul_in {a b A B:Int} (ha: -A≤a∧a≤A) (hb: -B≤b∧b≤B): -(A*B)≤a*b∧a*b≤A*B:=by
 have h:(a*b).natAbs≤A.natAbs*B.natAbs:=by rw [Int.natAbs_mul];exact Nat.mul_le_mul (by omega) (by omega)
 have g2:(A.natAbs*B.natAbs:Nat)=(A*B).natAbs:=by rw [Int.natAbs_mul]
 have g3:0≤A*B:=Int.mul_nonneg (by omega) (by omega)
 omega
def nuA (K:Nat) (x y:Int):Int:=(45*x - 26*y)*cjA K - 52*y*cjB K
def nuB (K:Nat) (x y:Int):Int:=(45*x - 26*y)*cjB K+52*y*cjA K+52*y*cjB K
def dvK (K:Nat):Int:=2340*sev K
theorem dvK_box {K:Nat} (h:K≤12):1≤dvK K∧dvK K≤1125899906842624:=by
 have:=sev_box h
 unfold dvK
 omega
def InW (x y:Int):Prop:=0≤x∧x < 1073741824∧0≤y∧y < 1073741824
theorem nu_sev {K:Nat} {x y:Int} (h:K≤12) (hw:InW x y): -(104152956928*sev K)≤nuA K x y∧nuA K x y≤104152956928*sev K∧-(104152956928*sev K)≤nuB K x y∧nuB K x y≤104152956928*sev K:=by
 obtain ⟨b1,b2,b3,b4,b5,b6,b7,b8⟩:=bet_sev h
 obtain ⟨x1,x2,y1,y2⟩:=hw
 have h1:=mul_in (a:=45*x - 26*y) (A:=48318382080) (b:=cjA K) (B:=sev K) (by omega) (by omega)
 have h2:=mul_in (a:=45*x - 26*y) (A:=48318382080) (b:=cjB K) (B:=sev K) (by omega) (by omega)
 have h3:=mul_in (a:=52*y) (A:=55834574848) (b:=cjB K) (B:=sev K) (by omega) (by omega)
 have h4:=mul_in (a:=52*y) (A:=55834574848) (b:=(bet K).1) (B:=sev K) (by omega) (by omega)
 have e:52*y*(bet K).1=52*y*cjA K+52*y*cjB K:=by unfold cjA cjB;grind
 rw [e] at h4
 unfold nuA nuB
 omega
theorem nu_box {K:Nat} {x y:Int} (h:K≤12) (hw:InW x y): -72057594037927936≤nuA K x y∧nuA K x y≤72057594037927936∧-72057594037927936≤nuB K x y∧nuB K x y≤72057594037927936:=by
 obtain ⟨b1,b2,b3,b4,b5,b6,b7,b8⟩:=bet_small h
 obtain ⟨x1,x2,y1,y2⟩:=hw
 have h1:=mul_in (a:=45*x - 26*y) (A:=48318382080) (b:=cjA K) (B:=262144) (by omega) (by omega)
 have h2:=mul_in (a:=45*x - 26*y) (A:=48318382080) (b:=cjB K) (B:=262144) (by omega) (by omega)
 have h3:=mul_in (a:=52*y) (A:=55834574848) (b:=cjB K) (B:=262144) (by omega) (by omega)
 have h4:=mul_in (a:=52*y) (A:=55834574848) (b:=(bet K).1) (B:=262144) (by omega) (by omega)
 have e:52*y*(bet K).1=52*y*cjA K+52*y*cjB K:=by unfold cjA cjB;grind
 rw [e] at h4
 unfold nuA nuB
 omega
theorem near_tame {K:Nat} {x y a b:Int} (h:K≤12) (hw:InW x y) (hn:Nearest (dvK K) (nuA K x y) (nuB K x y) a b): -67108864≤a∧a≤67108864∧-67108864≤b∧b≤67108864:=by
 have hs:=(sev_box h).1
 have hu:=nu_sev h hw
 have h1:=hn.1
 unfold HexAt Hex dvK at h1
 generalize nuA K x y=u at *
 generalize nuB K x y=v at *
 generalize sev K=S at *
 have ea:a*(2340*S)=2340*(a*S):=by grind
 have eb:b*(2340*S)=2340*(b*S):=by grind
 rw [ea,eb] at h1
 have big:∀ j:Int,-(67108865*S) < j*S→j*S < 67108865*S→-67108864≤j∧j≤67108864:=by
  intro j h1 h2
  constructor
  · by_cases hj: -67108864≤j
    · exact hj
    · exfalso
      have:=Int.mul_le_mul_of_nonneg_right (show j≤-67108865 by omega) (show 0≤S by omega)
      omega
  · by_cases hj:j≤67108864
    · exact hj
    · exfalso
      have:=Int.mul_le_mul_of_nonneg_right (show 67108865≤j by omega) (show 0≤S by omega)
      omega
 have ba:=big a (by omega) (by omega)
 have bb:=big b (by omega) (by omega)
 omega
def ctA (K:Nat) (a b:Int):Int:=(bet K).1*a - (bet K).2*b
def ctB (K:Nat) (a b:Int):Int:=(bet K).1*b+(bet K).2*a+(bet K).2*b
theorem ct_box {K:Nat} {a b:Int} (h:K≤12) (ha: -4294967296≤a∧a≤4294967296) (hb: -4294967296≤b∧b≤4294967296): -3377699720527872≤ctA K a b∧ctA K a b≤3377699720527872∧-3377699720527872≤ctB K a b∧ctB K a b≤3377699720527872:=by
 obtain ⟨b1,b2,b3,b4,-,-,-,-⟩:=bet_small h
 have h1:=mul_in (a:=(bet K).1) (A:=262144) (b:=a) (B:=4294967296) (by omega) ha
 have h2:=mul_in (a:=(bet K).1) (A:=262144) (b:=b) (B:=4294967296) (by omega) hb
 have h3:=mul_in (a:=(bet K).2) (A:=262144) (b:=a) (B:=4294967296) (by omega) ha
 have h4:=mul_in (a:=(bet K).2) (A:=262144) (b:=b) (B:=4294967296) (by omega) hb
 unfold ctA ctB
 omega
def poX (K:Nat) (a b:Int):Int:=52*ctA K a b+26*ctB K a b
def poY (K:Nat) (a b:Int):Int:=45*ctB K a b
theorem nearest_moved {d u v a b i k:Int} (h:Nearest d u v a b):Nearest d (u+d*i) (v+d*k) (a+i) (b+k):=by
 have key:∀ x y,HexAt d (u+d*i) (v+d*k) x y↔HexAt d u v (x - i) (y - k):=fun x y=>by
  unfold HexAt
  have e1:u+d*i - x*d=u - (x - i)*d:=by rw [Int.sub_mul,Int.mul_comm d i];omega
  have e2:v+d*k - y*d=v - (y - k)*d:=by rw [Int.sub_mul,Int.mul_comm d k];omega
  rw [e1,e2]
 constructor
 · rw [key,show a+i - i=a by omega,show b+k - k=b by omega];exact h.1
 · intro x y hxy
   rw [key] at hxy
   have:=h.2 _ _ hxy
   omega
theorem near_hex_zero {d x y:Int} (hd:0 < d) (h:Hex d (-(x*d)) (-(y*d))):x=0∧y=0:=by
 unfold Hex at h
 have bd:∀ j:Int,-d≤j*d→j*d≤d→-1≤j∧j≤1:=by
  intro j h1 h2
  constructor
  · by_cases hj: -1≤j
    · exact hj
    · exfalso
      have:=Int.mul_le_mul_of_nonneg_right (show j≤-2 by omega) (show 0≤d by omega)
      omega
  · by_cases hj:j≤1
    · exact hj
    · exfalso
      have:=Int.mul_le_mul_of_nonneg_right (show 2≤j by omega) (show 0≤d by omega)
      omega
 have bx:=bd x (by omega) (by omega)
 have by':=bd y (by omega) (by omega)
 have ci:x= -1∨x=0∨x=1:=by omega
 have ck:y= -1∨y=0∨y=1:=by omega
 rcases ci with rfl | rfl | rfl <;>rcases ck with rfl | rfl | rfl <;>omega
theorem nearest_whole {d i k:Int} (hd:0 < d):Nearest d (d*i) (d*k) i k:=by
 have h0:Nearest d 0 0 0 0:=by
  constructor
  · unfold HexAt Hex;simp;omega
  · intro x y h
    unfold HexAt at h
    rw [Int.zero_sub,Int.zero_sub] at h
    have hh:=near_hex_zero hd h
    omega
 have:=nearest_moved (i:=i) (k:=k) h0
 rwa [Int.zero_add,Int.zero_add,Int.zero_add,Int.zero_add] at this
theorem nearest_some {d:Int} (hd:1≤d) (u v:Int):∃ a b,Nearest d u v a b:=by
 have r1:=Int.emod_nonneg u (b:=d) (by omega)
 have r2:=Int.emod_lt_of_pos u (b:=d) (by omega)
 have r3:=Int.emod_nonneg v (b:=d) (by omega)
 have r4:=Int.emod_lt_of_pos v (b:=d) (by omega)
 have hp:=pick_near r1 r2 r3 r4
 exact ⟨_,_,nearest_of (Int.mul_ediv_add_emod u d).symm (Int.mul_ediv_add_emod v d).symm hp.1 hp.2⟩
theorem near_self {K:Nat} (h:K≤12) (a b:Int):Nearest (dvK K) (nuA K (poX K a b) (poY K a b)) (nuB K (poX K a b) (poY K a b)) a b:=by
 have e1:nuA K (poX K a b) (poY K a b)=dvK K*a:=by unfold nuA dvK sev normE poX poY ctA ctB cjA cjB;grind
 have e2:nuB K (poX K a b) (poY K a b)=dvK K*b:=by unfold nuB dvK sev normE poX poY ctA ctB cjA cjB;grind
 rw [e1,e2]
 exact nearest_whole (by have:=dvK_box h;omega)
theorem near_step {x y a b i k:Int} (h:Nearest (dvK 0) (nuA 0 x y) (nuB 0 x y) a b):Nearest (dvK 0) (nuA 0 (x+52*i+26*k) (y+45*k)) (nuB 0 (x+52*i+26*k) (y+45*k)) (a+i) (b+k):=by
 have c1:cjA 0=1:=rfl
 have c2:cjB 0=0:=rfl
 have cd:dvK 0=2340:=rfl
 have e1:nuA 0 (x+52*i+26*k) (y+45*k)=nuA 0 x y+dvK 0*i:=by unfold nuA;rw [c1,c2,cd];omega
 have e2:nuB 0 (x+52*i+26*k) (y+45*k)=nuB 0 x y+dvK 0*k:=by unfold nuB;rw [c1,c2,cd];omega
 rw [e1,e2]
 exact nearest_moved h
theorem ct_down (K:Nat) (a b:Int):ctA (K+1) a b=ctA K (mulA a b 2 1) (mulB a b 2 1)∧ctB (K+1) a b=ctB K (mulA a b 2 1) (mulB a b 2 1):=by
 have e:bet (K+1)=(mulA (bet K).1 (bet K).2 2 1,mulB (bet K).1 (bet K).2 2 1):=rfl
 unfold ctA ctB
 rw [e]
 unfold mulA mulB
 constructor <;>grind
theorem sev_down (K:Nat):sev (K+1)=7*sev K:=by
 have e:bet (K+1)=(mulA (bet K).1 (bet K).2 2 1,mulB (bet K).1 (bet K).2 2 1):=rfl
 unfold sev
 rw [e]
 unfold mulA mulB normE
 grind
def wayA:Nat→Int
 | 0=>1 | 1=> -1 | 2=> -2 | 3=> -1 | 4=>1 | _=>2
def wayB:Nat→Int
 | 0=>1 | 1=>2 | 2=>1 | 3=> -1 | 4=> -2 | _=> -1
def coX (K:Nat) (a b p q:Int):Int:=poX K (3*a+p) (3*b+q)
def coY (K:Nat) (a b p q:Int):Int:=poY K (3*a+p) (3*b+q)
theorem co_mirror (K:Nat) (a b p q:Int):coX K a b p q+coX K a b (-p) (-q)=6*poX K a b∧coY K a b p q+coY K a b (-p) (-q)=6*poY K a b:=by
 unfold coX coY poX poY ctA ctB
 constructor <;>grind
theorem side_eq (K:Nat) (a b x y p q r s:Int) :
 (coX K a b r s - coX K a b p q)*(3*y - coY K a b p q) - (coY K a b r s - coY K a b p q)*(3*x - coX K a b p q)
   =(r - p)*(3*(nuB K x y - b*dvK K) - dvK K*q) - (s - q)*(3*(nuA K x y - a*dvK K) - dvK K*p):=by
 unfold coX coY poX poY ctA ctB nuA nuB dvK sev normE cjA cjB
 grind
def inWB (x y:Int):Bool:=decide (0≤x∧x < 1073741824∧0≤y∧y < 1073741824)
theorem inWB_yes {x y:Int} (h:inWB x y=true):InW x y:=by unfold InW;exact of_decide_eq_true h
theorem inWB_no {x y:Int} (h:inWB x y=false):¬ InW x y:=by unfold InW;exact of_decide_eq_false h
theorem inWB_mk {x y:Int} (h:InW x y):inWB x y=true:=by unfold InW at h;exact decide_eq_true h
theorem inWB_not {x y:Int} (h:¬ InW x y):inWB x y=false:=by unfold InW at h;exact decide_eq_false h
def TellsP (P:Int→Int→Prop) (e:Ending):Prop:=∃ a b:Int,e=.returned (.tuple #[.agg #[.int .i64 a,.int .i64 b],.bool true])∧P a b
def digI (m:Int):Int:=if m=0 then 0 else if m=1 then 1 else if m=2 then 5 else if m=3 then 6 else if m=4 then 3 else if m=5 then 2 else 4
def ptA (d:Int):Int:=if d=0 then 0 else if d=1 then 1 else if d=2 then 0 else if d=3 then -1 else if d=4 then -1 else if d=5 then 0 else 1
def ptB (d:Int):Int:=if d=0 then 0 else if d=1 then 0 else if d=2 then 1 else if d=3 then 1 else if d=4 then 0 else if d=5 then -1 else -1
def dig (a b:Int):Int:=digI ((a - 2*b)%7)
def parA (a b:Int):Int:=(3*(a - ptA (dig a b))+(b - ptB (dig a b))) / 7
def parB (a b:Int):Int:=(2*(b - ptB (dig a b)) - (a - ptA (dig a b))) / 7
def chA (d P Q:Int):Int:=2*P - Q+ptA d
def chB (d P Q:Int):Int:=P+3*Q+ptB d
theorem dig_box (a b:Int):0≤dig a b∧dig a b≤6:=by
 unfold dig digI
 have h0:=Int.emod_nonneg (a - 2*b) (b:=7) (by omega)
 have h1:=Int.emod_lt_of_pos (a - 2*b) (b:=7) (by omega)
 repeat' split
 all_goals omega
theorem seven_cases {d:Int} (h0:0≤d) (h1:d≤6):d=0∨d=1∨d=2∨d=3∨d=4∨d=5∨d=6:=by omega
theorem dig_see (a b:Int):(dig a b=0∧(a - 2*b)%7=0∧ptA (dig a b)=0∧ptB (dig a b)=0)∨(dig a b=1∧(a - 2*b)%7=1∧ptA (dig a b)=1∧ptB (dig a b)=0)∨(dig a b=5∧(a - 2*b)%7=2∧ptA (dig a b)=0∧ptB (dig a b)= -1)
 ∨(dig a b=6∧(a - 2*b)%7=3∧ptA (dig a b)=1∧ptB (dig a b)= -1)∨(dig a b=3∧(a - 2*b)%7=4∧ptA (dig a b)= -1∧ptB (dig a b)=1)∨(dig a b=2∧(a - 2*b)%7=5∧ptA (dig a b)=0∧ptB (dig a b)=1)∨(dig a b=4∧(a - 2*b)%7=6∧ptA (dig a b)= -1∧ptB (dig a b)=0):=by
 have h0:=Int.emod_nonneg (a - 2*b) (b:=7) (by omega)
 have h1:=Int.emod_lt_of_pos (a - 2*b) (b:=7) (by omega)
 unfold dig
 generalize (a - 2*b)%7=m at *
 have:m=0∨m=1∨m=2∨m=3∨m=4∨m=5∨m=6:=by omega
 rcases this with rfl | rfl | rfl | rfl | rfl | rfl | rfl <;>decide
theorem par_spec (a b:Int):a=2*parA a b - parB a b+ptA (dig a b)∧b=parA a b+3*parB a b+ptB (dig a b):=by
 unfold parA parB
 rcases dig_see a b with h | h | h | h | h | h | h <;>(obtain ⟨-,hm,hA,hB⟩:=h;rw [hA,hB];omega)
theorem pt_box (d:Int): -1≤ptA d∧ptA d≤1∧-1≤ptB d∧ptB d≤1:=by
 have hA:ptA d=0∨ptA d=1∨ptA d= -1:=by
  unfold ptA;repeat' split
  all_goals omega
 have hB:ptB d=0∨ptB d=1∨ptB d= -1:=by
  unfold ptB;repeat' split
  all_goals omega
 omega
theorem par_one {d P Q:Int} (h0:0≤d) (h1:d≤6):dig (chA d P Q) (chB d P Q)=d∧parA (chA d P Q) (chB d P Q)=P∧parB (chA d P Q) (chB d P Q)=Q:=by
 have hd:dig (chA d P Q) (chB d P Q)=d:=by
  rcases seven_cases h0 h1 with rfl | rfl | rfl | rfl | rfl | rfl | rfl
  · have e:(chA 0 P Q - 2*chB 0 P Q)%7=0:=by show (2*P - Q+0 - 2*(P+3*Q+0))%7=0;omega
    unfold dig;rw [e];rfl
  · have e:(chA 1 P Q - 2*chB 1 P Q)%7=1:=by show (2*P - Q+1 - 2*(P+3*Q+0))%7=1;omega
    unfold dig;rw [e];rfl
  · have e:(chA 2 P Q - 2*chB 2 P Q)%7=5:=by show (2*P - Q+0 - 2*(P+3*Q+1))%7=5;omega
    unfold dig;rw [e];rfl
  · have e:(chA 3 P Q - 2*chB 3 P Q)%7=4:=by show (2*P - Q+-1 - 2*(P+3*Q+1))%7=4;omega
    unfold dig;rw [e];rfl
  · have e:(chA 4 P Q - 2*chB 4 P Q)%7=6:=by show (2*P - Q+-1 - 2*(P+3*Q+0))%7=6;omega
    unfold dig;rw [e];rfl
  · have e:(chA 5 P Q - 2*chB 5 P Q)%7=2:=by show (2*P - Q+0 - 2*(P+3*Q+-1))%7=2;omega
    unfold dig;rw [e];rfl
  · have e:(chA 6 P Q - 2*chB 6 P Q)%7=3:=by show (2*P - Q+1 - 2*(P+3*Q+-1))%7=3;omega
    unfold dig;rw [e];rfl
 refine ⟨hd,?_,?_⟩
 · unfold parA;rw [hd];unfold chA chB;omega
 · unfold parB;rw [hd];unfold chA chB;omega
theorem par_back (a b:Int):chA (dig a b) (parA a b) (parB a b)=a∧chB (dig a b) (parA a b) (parB a b)=b:=by
 have:=par_spec a b
 unfold chA chB
 omega
theorem par_box {a b B:Int} (ha: -B≤a∧a≤B) (hb: -B≤b∧b≤B) (_:1≤B): -B≤parA a b∧parA a b≤B∧-B≤parB a b∧parB a b≤B:=by
 have h:=par_spec a b
 have p:=pt_box (dig a b)
 omega
def ups:Nat→Int→Int→Int × Int
 | 0,a,b=>(a,b)
 | n+1,a,b=>ups n (parA a b) (parB a b)
theorem ups_zero (a b:Int):ups 0 a b=(a,b):=rfl
theorem ups_step (n:Nat) (a b:Int):ups (n+1) a b=ups n (parA a b) (parB a b):=rfl
theorem ups_add:∀ (m n:Nat) (a b:Int),ups (m+n) a b=ups n (ups m a b).1 (ups m a b).2
 | 0,n,a,b=>by rw [Nat.zero_add];rfl
 | m+1,n,a,b=>by rw [Nat.add_right_comm];exact ups_add m n (parA a b) (parB a b)
theorem ups_last (n:Nat) (a b:Int):ups (n+1) a b=(parA (ups n a b).1 (ups n a b).2,parB (ups n a b).1 (ups n a b).2):=by
 rw [ups_add n 1 a b];rfl
theorem ups_box {B:Int} (hB:1≤B):∀ (n:Nat) {a b:Int},-B≤a∧a≤B→-B≤b∧b≤B→(-B≤(ups n a b).1∧(ups n a b).1≤B)∧(-B≤(ups n a b).2∧(ups n a b).2≤B)
 | 0,_,_,ha,hb=>⟨ha,hb⟩
 | n+1,a,b,ha,hb=>by
  have h:=par_box ha hb hB
  exact ups_box hB n ⟨h.1,h.2.1⟩ ⟨h.2.2.1,h.2.2.2⟩
theorem ups_child {d P Q:Int} (n:Nat) (h0:0≤d) (h1:d≤6):ups (n+1) (chA d P Q) (chB d P Q)=ups n P Q:=by
 have h:=par_one (P:=P) (Q:=Q) h0 h1
 rw [ups_step,h.2.1,h.2.2]
def In30c (n:Int):Prop:= -1073741824≤n∧n≤1073741824
def InBase (n:Int):Prop:= -512≤n∧n≤511
def Ok4 (r a b:Int):Prop:=0≤r∧r≤12∧In30c a∧In30c b∧InBase (ups r.toNat a b).1∧InBase (ups r.toNat a b).2
def ok4B (r a b:Int):Bool:=decide (0≤r∧r≤12∧(-1073741824≤a∧a≤1073741824)∧(-1073741824≤b∧b≤1073741824)∧(-512≤(ups r.toNat a b).1∧(ups r.toNat a b).1≤511)∧(-512≤(ups r.toNat a b).2∧(ups r.toNat a b).2≤511))
theorem ok4_mk {r a b:Int} (h:Ok4 r a b):ok4B r a b=true:=by unfold Ok4 In30c InBase at h;exact decide_eq_true h
theorem ok4_of {r a b:Int} (h:ok4B r a b=true):Ok4 r a b:=by unfold Ok4 In30c InBase;exact of_decide_eq_true h
theorem ok4_no {r a b:Int} (h:¬ Ok4 r a b):ok4B r a b=false:=by unfold Ok4 In30c InBase at h;exact decide_eq_false h
theorem ok4_not {r a b:Int} (h:ok4B r a b=false):¬ Ok4 r a b:=by unfold Ok4 In30c InBase;exact of_decide_eq_false h
theorem norm_in {x y B:Int} (h: -B≤x∧x≤B∧-B≤y∧y≤B):normE x y≤3*(B*B):=by
 have h1:=(mul_in (a:=x) (b:=x) (A:=B) (B:=B) (by omega) (by omega)).2
 have h2:=(mul_in (a:=x) (b:=y) (A:=B) (B:=B) (by omega) (by omega)).2
 have h3:=(mul_in (a:=y) (b:=y) (A:=B) (B:=B) (by omega) (by omega)).2
 unfold normE
 omega
theorem norm_part (d:Int):normE (ptA d) (ptB d)≤1:=by
 by_cases h:0≤d∧d≤6
 · rcases seven_cases h.1 h.2 with rfl | rfl | rfl | rfl | rfl | rfl | rfl <;>decide
 · have hA:ptA d=1:=by unfold ptA;repeat' (rw [if_neg (by omega)])
   have hB:ptB d= -1:=by unfold ptB;repeat' (rw [if_neg (by omega)])
   rw [hA,hB];decide
theorem norm_weigh (a b p q:Int):64*normE (a - p) (b - q)≤65*normE a b+4160*normE p q:=by
 have h:=norm_pos (a+64*p) (b+64*q)
 have e:normE (a+64*p) (b+64*q)+64*normE (a - p) (b - q)=65*normE a b+4160*normE p q:=by unfold normE;grind
 omega
theorem norm_weigh' (a b p q:Int):64*normE (a+p) (b+q)≤65*normE a b+4160*normE p q:=by
 have h:=norm_weigh a b (-p) (-q)
 have e:normE (-p) (-q)=normE p q:=by unfold normE;grind
 rw [e,show a - -p=a+p by omega,show b - -q=b+q by omega] at h
 exact h
theorem norm_beta (P Q:Int):normE (2*P - Q) (P+3*Q)=7*normE P Q:=by unfold normE;grind
theorem norm_up (a b:Int):448*normE (parA a b) (parB a b)≤65*normE a b+4160:=by
 have h:=norm_weigh a b (ptA (dig a b)) (ptB (dig a b))
 have hp:=norm_part (dig a b)
 have hs:=par_spec a b
 have e:=norm_beta (parA a b) (parB a b)
 rw [show 2*parA a b - parB a b=a - ptA (dig a b) by omega,show parA a b+3*parB a b=b - ptB (dig a b) by omega] at e
 omega
theorem norm_down (a b:Int):64*normE a b≤455*normE (parA a b) (parB a b)+4160:=by
 have hs:=par_spec a b
 have h:=norm_weigh' (2*parA a b - parB a b) (parA a b+3*parB a b) (ptA (dig a b)) (ptB (dig a b))
 rw [← hs.1,← hs.2,norm_beta] at h
 have hp:=norm_part (dig a b)
 omega
def upN:Nat→Int
 | 0=>195000
 | r+1=>(448*upN r - 4160) / 65
def dnN:Nat→Int
 | 0=>786432
 | r+1=>(455*dnN r+4160) / 64
theorem upN_fin:∀ i:Fin 13,decide (62700*7^i.val+200≤upN i.val)=true:=by decide +kernel
theorem dnN_fin:∀ i:Fin 13,decide (dnN i.val≤100000000000000000)=true:=by decide +kernel
theorem ups_norm:∀ (r:Nat) {a b:Int},normE a b≤upN r→normE (ups r a b).1 (ups r a b).2≤195000
 | 0,_,_,h=>h
 | r+1,a,b,h=>by
  have h1:=norm_up a b
  have h2:upN (r+1)=(448*upN r - 4160) / 65:=rfl
  exact ups_norm r (by omega)
theorem sq_part {a b N B:Int} (h:normE a b≤N) (hB:0≤B) (hN:4*N < 3*((B+1)*(B+1))):(-B≤a∧a≤B)∧(-B≤b∧b≤B):=by
 have e1:4*normE a b=(2*b+a)*(2*b+a)+3*(a*a):=by unfold normE;grind
 have e2:4*normE a b=(2*a+b)*(2*a+b)+3*(b*b):=by unfold normE;grind
 have s1:0≤(2*b+a)*(2*b+a):=by have:=sq_ge (2*b+a);omega
 have s2:0≤(2*a+b)*(2*a+b):=by have:=sq_ge (2*a+b);omega
 have key:∀ x:Int,x*x < (B+1)*(B+1)→-B≤x∧x≤B:=by
  intro x hx
  have h:(x*x).natAbs=x.natAbs*x.natAbs:=Int.natAbs_mul x x
  have k:((B+1)*(B+1)).natAbs=(B+1).natAbs*(B+1).natAbs:=Int.natAbs_mul _ _
  have g:0≤x*x:=by have:=sq_ge x;omega
  have hlt:x.natAbs < (B+1).natAbs:=by
   apply Nat.lt_of_not_le
   intro hle
   have:=Nat.mul_le_mul hle hle
   omega
  omega
 exact ⟨key a (by omega),key b (by omega)⟩
theorem base_box {a b:Int} (h:normE a b≤195000):InBase a∧InBase b:=by
 have:=sq_part (B:=510) h (by omega) (by omega)
 unfold InBase
 omega
theorem ups_norm_down:∀ (r:Nat) {a b:Int},normE (ups r a b).1 (ups r a b).2≤786432→normE a b≤dnN r
 | 0,_,_,h=>h
 | r+1,a,b,h=>by
  have h1:=ups_norm_down r (a:=parA a b) (b:=parB a b) h
  have h2:=norm_down a b
  have h3:dnN (r+1)=(455*dnN r+4160) / 64:=rfl
  omega
theorem parts_box {r:Nat} {a b:Int} (hr:r≤12) (h1:InBase (ups r a b).1) (h2:InBase (ups r a b).2):(-400000000≤a∧a≤400000000)∧(-400000000≤b∧b≤400000000):=by
 unfold InBase at h1 h2
 have hN:=norm_in (x:=(ups r a b).1) (y:=(ups r a b).2) (B:=512) ⟨by omega,by omega,by omega,by omega⟩
 have h:=ups_norm_down r (a:=a) (b:=b) (by omega)
 have hd:=of_decide_eq_true (dnN_fin ⟨r,by omega⟩)
 have hd':dnN r≤100000000000000000:=hd
 exact sq_part (N:=dnN r) h (by omega) (by omega)
theorem ok4_part {r a b:Int} (h:Ok4 r a b):(-400000000≤a∧a≤400000000)∧(-400000000≤b∧b≤400000000):=parts_box (r:=r.toNat) (by have:=h.1;have:=h.2.1;omega) h.2.2.2.2.1 h.2.2.2.2.2
theorem ok4_of_base {r:Nat} {a b:Int} (hr:r≤12) (h1:InBase (ups r a b).1) (h2:InBase (ups r a b).2):Ok4 r a b:=by
 have h:=parts_box hr h1 h2
 exact ⟨by omega,by omega,by unfold In30c;omega,by unfold In30c;omega,h1,h2⟩
theorem ok4_child {r P Q d:Int} (h:Ok4 r P Q) (hr:r < 12) (h0:0≤d) (h1:d≤6):Ok4 (r+1) (chA d P Q) (chB d P Q):=by
 have hn:(r+1).toNat=r.toNat+1:=by have:=h.1;omega
 have:=ok4_of_base (r:=r.toNat+1) (a:=chA d P Q) (b:=chB d P Q) (by have:=h.1;omega) (by rw [ups_child _ h0 h1];exact h.2.2.2.2.1) (by rw [ups_child _ h0 h1];exact h.2.2.2.2.2)
 rwa [show ((r.toNat+1:Nat):Int)=r+1 by have:=h.1;omega] at this
theorem ok4_ups {r a b:Int} (h:Ok4 r a b) (n:Nat) (hn:n≤r):Ok4 (r - n) (ups n a b).1 (ups n a b).2:=by
 have e:r.toNat=n+(r - n).toNat:=by have:=h.1;omega
 have h1:=h.2.2.2.2.1
 have h2:=h.2.2.2.2.2
 rw [e,ups_add] at h1 h2
 have:=ok4_of_base (r:=(r - n).toNat) (by have:=h.2.1;omega) h1 h2
 rwa [show (((r - n).toNat:Nat):Int)=r - n by omega] at this
theorem ok4_parent {r a b:Int} (h:Ok4 r a b) (hr:0 < r):Ok4 (r - 1) (parA a b) (parB a b):=ok4_ups h 1 (by omega)
theorem near_norm0 {K:Nat} {x y a b:Int} (h:K≤12) (hw:InW x y) (hn:Nearest (dvK K) (nuA K x y) (nuB K x y) a b):normE a b≤62700*7^(12 - K)+200:=by
 have hs:=(sev_box h).1
 have hp:=sev_pow h
 have h1:=hn.1
 unfold HexAt Hex at h1
 have hd:=(dvK_box h).1
 have hN:normE (nuA K x y) (nuB K x y)=normE (45*x - 26*y) (52*y)*sev K:=by unfold nuA nuB sev cjA cjB normE;grind
 have hX:normE (45*x - 26*y) (52*y)=2025*(x*x)+2028*(y*y):=by unfold normE;grind
 obtain ⟨x1,x2,y1,y2⟩:=hw
 have mx:=mul_in (a:=x) (b:=x) (A:=1073741824) (B:=1073741824) (by omega) (by omega)
 have my:=mul_in (a:=y) (b:=y) (A:=1073741824) (B:=1073741824) (by omega) (by omega)
 have hM:normE (45*x - 26*y) (52*y)≤4053*1152921504606846976:=by rw [hX];omega
 have hr:=norm_in (x:=nuA K x y - a*dvK K) (y:=nuB K x y - b*dvK K) (B:=dvK K) ⟨by omega,by omega,by omega,by omega⟩
 have hW:=norm_weigh (nuA K x y) (nuB K x y) (nuA K x y - a*dvK K) (nuB K x y - b*dvK K)
 rw [show nuA K x y - (nuA K x y - a*dvK K)=a*dvK K by omega,show nuB K x y - (nuB K x y - b*dvK K)=b*dvK K by omega] at hW
 have hZ:normE (a*dvK K) (b*dvK K)=normE a b*(dvK K*dvK K):=by unfold normE;grind
 rw [hZ,hN] at hW
 generalize normE a b=X at *
 generalize normE (45*x - 26*y) (52*y)=M at *
 have hc:K=0∨K=1∨K=2∨K=3∨K=4∨K=5∨K=6∨K=7∨K=8∨K=9∨K=10∨K=11∨K=12:=by omega
 rcases hc with rfl | rfl | rfl | rfl | rfl | rfl | rfl | rfl | rfl | rfl | rfl | rfl | rfl <;>(unfold dvK at *;rw [hp] at *;clear hN hX hZ hs hd h1 mx my;simp at *;omega)
theorem near_norm {K:Nat} {x y a b:Int} (h:K≤12) (hw:InW x y) (hn:Nearest (dvK K) (nuA K x y) (nuB K x y) a b):normE a b≤upN (12 - K):=by
 have hT:=of_decide_eq_true (upN_fin ⟨12 - K,by omega⟩)
 have hT':62700*7^(12 - K)+200≤upN (12 - K):=hT
 have:=near_norm0 h hw hn
 omega
theorem near_ok {K:Nat} {x y a b r:Int} (h:K≤12) (hr:12 - r=(K:Int)) (hw:InW x y) (hn:Nearest (dvK K) (nuA K x y) (nuB K x y) a b):Ok4 r a b:=by
 have hb:=base_box (ups_norm (12 - K) (near_norm h hw hn))
 have:=ok4_of_base (r:=12 - K) (by omega) hb.1 hb.2
 rwa [show ((12 - K:Nat):Int)=r by omega] at this
theorem nu_down (K:Nat) (x y:Int):nuA (K+1) x y=3*nuA K x y+nuB K x y∧nuB (K+1) x y=2*nuB K x y - nuA K x y:=by
 have e:bet (K+1)=(mulA (bet K).1 (bet K).2 2 1,mulB (bet K).1 (bet K).2 2 1):=rfl
 unfold nuA nuB cjA cjB
 rw [e]
 unfold mulA mulB
 constructor <;>grind
theorem dv_down (K:Nat):dvK (K+1)=7*dvK K:=by unfold dvK;rw [sev_down];omega
theorem near_steps {K:Nat} {x y a b p q:Int} (h:K < 12) (hn:Nearest (dvK K) (nuA K x y) (nuB K x y) a b) (hm:Nearest (dvK (K+1)) (nuA (K+1) x y) (nuB (K+1) x y) p q) :
 (-1≤parA a b - p∧parA a b - p≤1)∧(-1≤parB a b - q∧parB a b - q≤1)∧(-1≤parA a b - p+(parB a b - q)∧parA a b - p+(parB a b - q)≤1):=by
 have h1:=hn.1
 have h2:=hm.1
 have hd:=(dvK_box (K:=K) (by omega)).1
 rw [(nu_down K x y).1,(nu_down K x y).2,dv_down] at h2
 have hs:=par_spec a b
 unfold HexAt Hex at h1 h2
 generalize nuA K x y=u at *
 generalize nuB K x y=v at *
 generalize dvK K=d at *
 have small:∀ j:Int,-(2*d) < j*d→j*d < 2*d→-1≤j∧j≤1:=by
  intro j h1 h2
  constructor
  · by_cases hj: -1≤j
    · exact hj
    · exfalso
      have:=Int.mul_le_mul_of_nonneg_right (show j≤-2 by omega) (show 0≤d by omega)
      omega
  · by_cases hj:j≤1
    · exact hj
    · exfalso
      have:=Int.mul_le_mul_of_nonneg_right (show 2≤j by omega) (show 0≤d by omega)
      omega
 have eA:a*d=2*(parA a b*d) - parB a b*d+ptA (dig a b)*d:=by
  have:a*d=(2*parA a b - parB a b+ptA (dig a b))*d:=by rw [← hs.1]
  rw [this];grind
 have eB:b*d=parA a b*d+3*(parB a b*d)+ptB (dig a b)*d:=by
  have:b*d=(parA a b+3*parB a b+ptB (dig a b))*d:=by rw [← hs.2]
  rw [this];grind
 have ep:p*(7*d)=7*(p*d):=by grind
 have eq':q*(7*d)=7*(q*d):=by grind
 rw [ep,eq'] at h2
 rw [eA,eB] at h1
 have f1:(parA a b - p)*d=parA a b*d - p*d:=Int.sub_mul _ _ _
 have f2:(parB a b - q)*d=parB a b*d - q*d:=Int.sub_mul _ _ _
 have f3:(parA a b - p+(parB a b - q))*d=parA a b*d - p*d+(parB a b*d - q*d):=by grind
 have key:(-(2*d) < parA a b*d - p*d∧parA a b*d - p*d < 2*d)∧(-(2*d) < parB a b*d - q*d∧parB a b*d - q*d < 2*d)∧(-(2*d) < parA a b*d - p*d+(parB a b*d - q*d)∧parA a b*d - p*d+(parB a b*d - q*d) < 2*d):=by
  clear f1 f2 f3 eA eB ep eq' small hn hm hs
  rcases dig_see a b with h | h | h | h | h | h | h <;>
   (obtain ⟨-,-,hA,hB⟩:=h
    rw [hA,hB] at h1
    clear hA hB
    generalize parA a b*d=P at *
    generalize parB a b*d=Q at *
    generalize p*d=S at *
    generalize q*d=T at *
    simp only [Int.zero_mul,Int.one_mul,Int.neg_mul] at h1
    refine ⟨⟨?_,?_⟩,⟨?_,?_⟩,?_,?_⟩ <;>omega)
 exact ⟨small _ (by rw [f1];exact key.1.1) (by rw [f1];exact key.1.2),small _ (by rw [f2];exact key.2.1.1) (by rw [f2];exact key.2.1.2),small _ (by rw [f3];exact key.2.2.1) (by rw [f3];exact key.2.2.2)⟩
theorem par_nearest (a b:Int):Nearest 7 (3*a+b) (2*b - a) (parA a b) (parB a b):=by
 have hs:=par_spec a b
 generalize parA a b=P at *
 generalize parB a b=Q at *
 rcases dig_see a b with h | h | h | h | h | h | h <;>
  (obtain ⟨-,-,hA,hB⟩:=h
   rw [hA,hB] at hs
   clear hA hB
   refine ⟨?_,fun x y hxy=>?_⟩
   · unfold HexAt Hex;omega
   · unfold HexAt Hex at hxy;omega)
def dg (w:Int) (r:Nat):Int:=w / 8^(12 - r)%8
def wR (w:Int):Int:=w / 72057594037927936%16
def wA (w:Int):Int:=w / 70368744177664%1024 - 512
def wB (w:Int):Int:=w / 68719476736%1024 - 512
def lowD (d:Nat→Int):Int:=d 1*8589934592+d 2*1073741824+d 3*134217728+d 4*16777216+d 5*2097152+d 6*262144+d 7*32768+d 8*4096+d 9*512+d 10*64+d 11*8+d 12
def headD (R A B:Int):Int:=1152921504606846976+R*72057594037927936+(A+512)*70368744177664+(B+512)*68719476736
def wd (R A B:Int) (d:Nat→Int):Int:=headD R A B+lowD d
theorem twelve {j:Nat} (h1:1≤j) (h2:j≤12):j=1∨j=2∨j=3∨j=4∨j=5∨j=6∨j=7∨j=8∨j=9∨j=10∨j=11∨j=12:=by omega
theorem dg_at (w:Int):dg w 1=w / 8589934592%8∧dg w 2=w / 1073741824%8∧dg w 3=w / 134217728%8∧dg w 4=w / 16777216%8∧dg w 5=w / 2097152%8∧dg w 6=w / 262144%8∧dg w 7=w / 32768%8∧dg w 8=w / 4096%8∧dg w 9=w / 512%8∧dg w 10=w / 64%8∧dg w 11=w / 8%8∧dg w 12=w%8:=by
 refine ⟨rfl,rfl,rfl,rfl,rfl,rfl,rfl,rfl,rfl,rfl,rfl,?_⟩
 show w / 1%8=w%8
 rw [Int.ediv_one]
theorem dg_box (w:Int) (j:Nat):0≤dg w j∧dg w j≤7:=by unfold dg;omega
theorem lowD_box {d:Nat→Int} (hd:∀ j,1≤j→j≤12→0≤d j∧d j≤7):0≤lowD d∧lowD d < 68719476736:=by
 have h1:=hd 1 (by omega) (by omega)
 have h2:=hd 2 (by omega) (by omega)
 have h3:=hd 3 (by omega) (by omega)
 have h4:=hd 4 (by omega) (by omega)
 have h5:=hd 5 (by omega) (by omega)
 have h6:=hd 6 (by omega) (by omega)
 have h7:=hd 7 (by omega) (by omega)
 have h8:=hd 8 (by omega) (by omega)
 have h9:=hd 9 (by omega) (by omega)
 have h10:=hd 10 (by omega) (by omega)
 have h11:=hd 11 (by omega) (by omega)
 have h12:=hd 12 (by omega) (by omega)
 unfold lowD
 omega
theorem dg_wd {R A B:Int} {d:Nat→Int} (hd:∀ j,1≤j→j≤12→0≤d j∧d j≤7) {j:Nat} (j1:1≤j) (j2:j≤12):dg (wd R A B d) j=d j:=by
 have h1:=hd 1 (by omega) (by omega)
 have h2:=hd 2 (by omega) (by omega)
 have h3:=hd 3 (by omega) (by omega)
 have h4:=hd 4 (by omega) (by omega)
 have h5:=hd 5 (by omega) (by omega)
 have h6:=hd 6 (by omega) (by omega)
 have h7:=hd 7 (by omega) (by omega)
 have h8:=hd 8 (by omega) (by omega)
 have h9:=hd 9 (by omega) (by omega)
 have h10:=hd 10 (by omega) (by omega)
 have h11:=hd 11 (by omega) (by omega)
 have h12:=hd 12 (by omega) (by omega)
 have e:=dg_at (wd R A B d)
 have hw:wd R A B d=(16777216+R*1048576+(A+512)*1024+(B+512))*68719476736+lowD d:=by unfold wd headD;omega
 unfold lowD at hw
 generalize 16777216+R*1048576+(A+512)*1024+(B+512)=H at hw
 rw [hw] at e ⊢
 rcases twelve j1 j2 with rfl | rfl | rfl | rfl | rfl | rfl | rfl | rfl | rfl | rfl | rfl | rfl
 · rw [e.1];clear e;omega
 · rw [e.2.1];clear e;omega
 · rw [e.2.2.1];clear e;omega
 · rw [e.2.2.2.1];clear e;omega
 · rw [e.2.2.2.2.1];clear e;omega
 · rw [e.2.2.2.2.2.1];clear e;omega
 · rw [e.2.2.2.2.2.2.1];clear e;omega
 · rw [e.2.2.2.2.2.2.2.1];clear e;omega
 · rw [e.2.2.2.2.2.2.2.2.1];clear e;omega
 · rw [e.2.2.2.2.2.2.2.2.2.1];clear e;omega
 · rw [e.2.2.2.2.2.2.2.2.2.2.1];clear e;omega
 · rw [e.2.2.2.2.2.2.2.2.2.2.2];clear e;omega
theorem head_wd {R A B:Int} {d:Nat→Int} (hR:0≤R∧R≤15) (hA:InBase A) (hB:InBase B) (hd:∀ j,1≤j→j≤12→0≤d j∧d j≤7) :
 wR (wd R A B d)=R∧wA (wd R A B d)=A∧wB (wd R A B d)=B∧wd R A B d / 1152921504606846976=1∧0≤wd R A B d∧wd R A B d < 2305843009213693952:=by
 have hl:=lowD_box hd
 unfold InBase at hA hB
 unfold wR wA wB wd headD
 omega
theorem wd_of {w:Int} (h:w / 1152921504606846976=1):wd (wR w) (wA w) (wB w) (dg w)=w:=by
 have e:=dg_at w
 have s0:w=w / 8*8+w%8:=by clear h e;omega
 have s1:w / 8=w / 64*8+w / 8%8:=by clear h e;omega
 have s2:w / 64=w / 512*8+w / 64%8:=by clear h e;omega
 have s3:w / 512=w / 4096*8+w / 512%8:=by clear h e;omega
 have s4:w / 4096=w / 32768*8+w / 4096%8:=by clear h e;omega
 have s5:w / 32768=w / 262144*8+w / 32768%8:=by clear h e;omega
 have s6:w / 262144=w / 2097152*8+w / 262144%8:=by clear h e;omega
 have s7:w / 2097152=w / 16777216*8+w / 2097152%8:=by clear h e;omega
 have s8:w / 16777216=w / 134217728*8+w / 16777216%8:=by clear h e;omega
 have s9:w / 134217728=w / 1073741824*8+w / 134217728%8:=by clear h e;omega
 have s10:w / 1073741824=w / 8589934592*8+w / 1073741824%8:=by clear h e;omega
 have s11:w / 8589934592=w / 68719476736*8+w / 8589934592%8:=by clear h e;omega
 have t1:w / 68719476736=w / 70368744177664*1024+w / 68719476736%1024:=by clear h e;omega
 have t2:w / 70368744177664=w / 72057594037927936*1024+w / 70368744177664%1024:=by clear h e;omega
 have t3:w / 72057594037927936=w / 1152921504606846976*16+w / 72057594037927936%16:=by clear h e;omega
 unfold wd headD lowD wR wA wB
 rw [e.1,e.2.1,e.2.2.1,e.2.2.2.1,e.2.2.2.2.1,e.2.2.2.2.2.1,e.2.2.2.2.2.2.1,e.2.2.2.2.2.2.2.1,e.2.2.2.2.2.2.2.2.1,e.2.2.2.2.2.2.2.2.2.1,e.2.2.2.2.2.2.2.2.2.2.1,e.2.2.2.2.2.2.2.2.2.2.2]
 clear e
 generalize w / 8%8=m1 at *
 generalize w / 64%8=m2 at *
 generalize w / 512%8=m3 at *
 generalize w / 4096%8=m4 at *
 generalize w / 32768%8=m5 at *
 generalize w / 262144%8=m6 at *
 generalize w / 2097152%8=m7 at *
 generalize w / 16777216%8=m8 at *
 generalize w / 134217728%8=m9 at *
 generalize w / 1073741824%8=m10 at *
 generalize w / 8589934592%8=m11 at *
 generalize w%8=m0 at *
 generalize w / 68719476736%1024=mB at *
 generalize w / 70368744177664%1024=mA at *
 generalize w / 72057594037927936%16=mR at *
 generalize w / 8=q1 at *
 generalize w / 64=q2 at *
 generalize w / 512=q3 at *
 generalize w / 4096=q4 at *
 generalize w / 32768=q5 at *
 generalize w / 262144=q6 at *
 generalize w / 2097152=q7 at *
 generalize w / 16777216=q8 at *
 generalize w / 134217728=q9 at *
 generalize w / 1073741824=q10 at *
 generalize w / 8589934592=q11 at *
 generalize w / 68719476736=q12 at *
 generalize w / 70368744177664=q13 at *
 generalize w / 72057594037927936=q14 at *
 generalize w / 1152921504606846976=q15 at *
 omega
theorem wd_congr {R A B:Int} {d e:Nat→Int} (h:∀ j,1≤j→j≤12→d j=e j):wd R A B d=wd R A B e:=by
 unfold wd lowD
 rw [h 1 (by omega) (by omega),h 2 (by omega) (by omega),h 3 (by omega) (by omega),h 4 (by omega) (by omega),h 5 (by omega) (by omega),h 6 (by omega) (by omega),h 7 (by omega) (by omega),h 8 (by omega) (by omega),h 9 (by omega) (by omega),h 10 (by omega) (by omega),h 11 (by omega) (by omega),h 12 (by omega) (by omega)]
def setD (w:Int) (j:Nat) (d:Int):Int:=w - dg w j*8^(12 - j)+d*8^(12 - j)
def putD (f:Nat→Int) (j:Nat) (d:Int):Nat→Int:=fun i=>if i=j then d else f i
theorem putD_at (f:Nat→Int) (j:Nat) (d:Int):putD f j d j=d:=if_pos rfl
theorem putD_other (f:Nat→Int) {i j:Nat} (d:Int) (h:i≠j):putD f j d i=f i:=if_neg h
theorem lowD_put (f:Nat→Int) {j:Nat} (d:Int) (j1:1≤j) (j2:j≤12):lowD (putD f j d)=lowD f - f j*8^(12 - j)+d*8^(12 - j):=by
 unfold lowD
 rcases twelve j1 j2 with rfl | rfl | rfl | rfl | rfl | rfl | rfl | rfl | rfl | rfl | rfl | rfl <;>simp [putD] <;>omega
theorem setD_wd {R A B:Int} {f:Nat→Int} (hd:∀ j,1≤j→j≤12→0≤f j∧f j≤7) {j:Nat} (d:Int) (j1:1≤j) (j2:j≤12):setD (wd R A B f) j d=wd R A B (putD f j d):=by
 unfold setD
 rw [dg_wd hd j1 j2]
 unfold wd
 rw [lowD_put f d j1 j2]
 omega
def dgs (r:Nat) (a b:Int) (j:Nat):Int:=if j≤r then dig (ups (r - j) a b).1 (ups (r - j) a b).2 else 7
def wordOf (r:Nat) (a b:Int):Int:=wd r (ups r a b).1 (ups r a b).2 (dgs r a b)
theorem dgs_box (r:Nat) (a b:Int) (j:Nat):0≤dgs r a b j∧dgs r a b j≤7:=by
 unfold dgs
 split
 · have:=dig_box (ups (r - j) a b).1 (ups (r - j) a b).2;omega
 · omega
theorem dgs_seven (r:Nat) (a b:Int) (j:Nat):dgs r a b j=7↔r < j:=by
 unfold dgs
 split
 · have:=dig_box (ups (r - j) a b).1 (ups (r - j) a b).2;omega
 · omega
def Whole (w:Int):Prop:=w / 1152921504606846976=1∧wR w≤12∧∀ j:Nat,1≤j→j≤12→(dg w j=7↔wR w < (j:Int))
def down (d:Nat→Int):Nat→Int→Int→Int × Int
 | 0,A,B=>(A,B)
 | n+1,A,B=>(chA (d (n+1)) (down d n A B).1 (down d n A B).2,chB (d (n+1)) (down d n A B).1 (down d n A B).2)
theorem down_zero (d:Nat→Int) (A B:Int):down d 0 A B=(A,B):=rfl
theorem down_step (d:Nat→Int) (n:Nat) (A B:Int):down d (n+1) A B=(chA (d (n+1)) (down d n A B).1 (down d n A B).2,chB (d (n+1)) (down d n A B).1 (down d n A B).2):=rfl
theorem down_congr {d e:Nat→Int} (A B:Int):∀ (n:Nat),(∀ j,1≤j→j≤n→d j=e j)→down d n A B=down e n A B
 | 0,_=>rfl
 | n+1,h=>by rw [down_step,down_step,down_congr A B n fun j h1 h2=>h j h1 (by omega),h (n+1) (by omega) (by omega)]
theorem down_up {d:Nat→Int} (A B:Int):∀ (n:Nat),(∀ j,1≤j→j≤n→0≤d j∧d j≤6)→∀ k,k≤n→ups k (down d n A B).1 (down d n A B).2=down d (n - k) A B
 | 0,_,k,hk=>by obtain rfl:k=0:=by omega
                rfl
 | n+1,h,0,_=>rfl
 | n+1,h,k+1,hk=>by
  have hd:=h (n+1) (by omega) (by omega)
  rw [down_step]
  rw [ups_child k hd.1 hd.2,down_up A B n (fun j h1 h2=>h j h1 (by omega)) k (by omega),Nat.add_sub_add_right]
theorem down_dgs {d:Nat→Int} (A B:Int) {n:Nat} (h:∀ j,1≤j→j≤n→0≤d j∧d j≤6) {j:Nat} (j1:1≤j) (j2:j≤n):dgs n (down d n A B).1 (down d n A B).2 j=d j:=by
 unfold dgs
 rw [if_pos j2,down_up A B n h (n - j) (by omega),show n - (n - j)=j by omega]
 obtain ⟨k,rfl⟩:∃ k,j=k+1:=⟨j - 1,by omega⟩
 have hd:=h (k+1) j1 j2
 rw [down_step]
 exact (par_one hd.1 hd.2).1
theorem up_down (r:Nat) (a b:Int):∀ k,k≤r→down (dgs r a b) k (ups r a b).1 (ups r a b).2=ups (r - k) a b
 | 0,_=>rfl
 | k+1,hk=>by
  rw [down_step,up_down r a b k (by omega)]
  have e:dgs r a b (k+1)=dig (ups (r - (k+1)) a b).1 (ups (r - (k+1)) a b).2:=by unfold dgs;rw [if_pos hk]
  have h2:ups (r - k) a b=(parA (ups (r - (k+1)) a b).1 (ups (r - (k+1)) a b).2,parB (ups (r - (k+1)) a b).1 (ups (r - (k+1)) a b).2):=by rw [← ups_last,show r - (k+1)+1=r - k by omega]
  rw [e,h2]
  have:=par_back (ups (r - (k+1)) a b).1 (ups (r - (k+1)) a b).2
  rw [this.1,this.2]
theorem up_down_all (r:Nat) (a b:Int):down (dgs r a b) r (ups r a b).1 (ups r a b).2=(a,b):=by rw [up_down r a b r (by omega),Nat.sub_self];rfl
theorem word_parts {r:Nat} {a b:Int} (h:Ok4 (r:Int) a b) :
 Whole (wordOf r a b)∧wR (wordOf r a b)=r∧wA (wordOf r a b)=(ups r a b).1∧wB (wordOf r a b)=(ups r a b).2∧(∀ j,1≤j→j≤12→dg (wordOf r a b) j=dgs r a b j)∧0≤wordOf r a b∧wordOf r a b < 2305843009213693952:=by
 obtain ⟨h0,h12,-,-,hA,hB⟩:=h
 rw [show ((r:Int)).toNat=r by omega] at hA hB
 have hh:=head_wd (R:=(r:Int)) (d:=dgs r a b) (by omega) hA hB (fun j _ _=>dgs_box r a b j)
 have hg:∀ j,1≤j→j≤12→dg (wordOf r a b) j=dgs r a b j:=fun j j1 j2=>dg_wd (fun j _ _=>dgs_box r a b j) j1 j2
 refine ⟨⟨hh.2.2.2.1,?_,?_⟩,hh.1,hh.2.1,hh.2.2.1,hg,hh.2.2.2.2⟩
 · show wR (wd _ _ _ _)≤12;rw [hh.1];exact h12
 · intro j j1 j2
   rw [hg j j1 j2,dgs_seven,show wR (wordOf r a b)=r from hh.1]
   omega
def cellA (w:Int):Int:=(down (dg w) (wR w).toNat (wA w) (wB w)).1
def cellB (w:Int):Int:=(down (dg w) (wR w).toNat (wA w) (wB w)).2
theorem wR_box (w:Int):0≤wR w∧wR w≤15:=by unfold wR;omega
theorem wAB_box (w:Int):InBase (wA w)∧InBase (wB w):=by unfold wA wB InBase;omega
theorem whole_digs {w:Int} (h:Whole w) {j:Nat} (j1:1≤j) (j2:(j:Int)≤wR w):0≤dg w j∧dg w j≤6:=by
 have h1:=dg_box w j
 have h2:=h.2.2 j j1 (by have:=h.2.1;omega)
 have h3:¬ dg w j=7:=fun e=>by have:=h2.1 e;omega
 omega
theorem cell_ok {w:Int} (h:Whole w):Ok4 (wR w) (cellA w) (cellB w):=by
 have hr:=wR_box w
 have hb:=wAB_box w
 have hd:∀ j,1≤j→j≤(wR w).toNat→0≤dg w j∧dg w j≤6:=fun j j1 j2=>whole_digs h j1 (by omega)
 have hu:=down_up (wA w) (wB w) (wR w).toNat hd (wR w).toNat (Nat.le_refl _)
 rw [Nat.sub_self,down_zero] at hu
 have h12:=h.2.1
 have:=ok4_of_base (r:=(wR w).toNat) (a:=cellA w) (b:=cellB w) (by omega) (by unfold cellA cellB;rw [hu];exact hb.1) (by unfold cellA cellB;rw [hu];exact hb.2)
 rwa [show (((wR w).toNat:Nat):Int)=wR w by omega] at this
theorem word_cell {w:Int} (h:Whole w):wordOf (wR w).toNat (cellA w) (cellB w)=w:=by
 have hr:=wR_box w
 have hd:∀ j,1≤j→j≤(wR w).toNat→0≤dg w j∧dg w j≤6:=fun j j1 j2=>whole_digs h j1 (by omega)
 have hu:=down_up (wA w) (wB w) (wR w).toNat hd (wR w).toNat (Nat.le_refl _)
 rw [Nat.sub_self,down_zero] at hu
 have e:ups (wR w).toNat (cellA w) (cellB w)=(wA w,wB w):=hu
 unfold wordOf
 rw [e,show (((wR w).toNat:Nat):Int)=wR w by omega]
 show wd (wR w) (wA w) (wB w) _=w
 rw [wd_congr (e:=dg w),wd_of h.1]
 intro j j1 j2
 by_cases hj:(j:Int)≤wR w
 · exact down_dgs (wA w) (wB w) hd j1 (by omega)
 · rw [(dgs_seven _ _ _ _).2 (by omega),(h.2.2 j j1 j2).2 (by omega)]
theorem cell_word {r:Nat} {a b:Int} (h:Ok4 (r:Int) a b):cellA (wordOf r a b)=a∧cellB (wordOf r a b)=b:=by
 have hp:=word_parts h
 have e:down (dg (wordOf r a b)) (wR (wordOf r a b)).toNat (wA (wordOf r a b)) (wB (wordOf r a b))=(a,b):=by
  rw [hp.2.1,hp.2.2.1,hp.2.2.2.1,show ((r:Int)).toNat=r by omega,← up_down_all r a b]
  have h12:=h.2.1
  rw [down_congr _ _ r fun j j1 j2=>hp.2.2.2.2.1 j j1 (by omega)]
 unfold cellA cellB
 rw [e]
 exact ⟨rfl,rfl⟩
theorem word_inj {r s:Nat} {a b c d:Int} (h:Ok4 (r:Int) a b) (k:Ok4 (s:Int) c d) (e:wordOf r a b=wordOf s c d):r=s∧a=c∧b=d:=by
 have h1:=(word_parts h).2.1
 have h2:=(word_parts k).2.1
 have h3:=cell_word h
 have h4:=cell_word k
 rw [e] at h1 h3
 exact ⟨by omega,by rw [← h3.1,h4.1],by rw [← h3.2,h4.2]⟩
def upW (w:Int):Int:=setD w (wR w).toNat 7 - 72057594037927936
theorem raised_word {r:Nat} {a b:Int} (h:Ok4 (r:Int) a b) (hr:0 < r):upW (wordOf r a b)=wordOf (r - 1) (parA a b) (parB a b):=by
 have hp:=word_parts h
 have h12:=h.2.1
 unfold upW
 rw [hp.2.1,show ((r:Int)).toNat=r by omega]
 unfold wordOf
 rw [setD_wd (fun j _ _=>dgs_box r a b j) 7 (by omega) (by omega)]
 obtain ⟨n,rfl⟩:∃ n,r=n+1:=⟨r - 1,by omega⟩
 rw [show n+1 - 1=n by omega,ups_step]
 have e:∀ j,1≤j→j≤12→putD (dgs (n+1) a b) (n+1) 7 j=dgs n (parA a b) (parB a b) j:=by
  intro j j1 j2
  by_cases hj:j=n+1
  · subst hj;rw [putD_at,(dgs_seven _ _ _ _).2 (by omega)]
  · rw [putD_other _ _ hj]
    unfold dgs
    by_cases hl:j≤n
    · rw [if_pos (by omega),if_pos hl,show n+1 - j=(n - j)+1 by omega,ups_step]
    · rw [if_neg (by omega),if_neg hl]
 rw [wd_congr e]
 unfold wd headD
 rw [show ((n+1:Nat):Int)=(n:Int)+1 by omega]
 omega
def stp (a b:Int):Int:=max (max (max 0 (a.natAbs:Int)) (b.natAbs:Int)) ((a+b).natAbs:Int)
theorem stp_ge (a b:Int):0≤stp a b∧(-(stp a b)≤a∧a≤stp a b)∧(-(stp a b)≤b∧b≤stp a b)∧(-(stp a b)≤a+b∧a+b≤stp a b):=by
 unfold stp
 have h1:(a.natAbs:Int)=a∨(a.natAbs:Int)= -a:=by omega
 have h2:(b.natAbs:Int)=b∨(b.natAbs:Int)= -b:=by omega
 have h3:((a+b).natAbs:Int)=a+b∨((a+b).natAbs:Int)= -(a+b):=by omega
 have k1:(a.natAbs:Int) ≥ 0:=by omega
 have k2:(b.natAbs:Int) ≥ 0:=by omega
 have k3:((a+b).natAbs:Int) ≥ 0:=by omega
 generalize (a.natAbs:Int)=x at *
 generalize (b.natAbs:Int)=y at *
 generalize ((a+b).natAbs:Int)=z at *
 omega
theorem stp_le {a b n:Int} (_:0≤n) (ha: -n≤a∧a≤n) (hb: -n≤b∧b≤n) (hc: -n≤a+b∧a+b≤n):stp a b≤n:=by
 unfold stp
 have h1:(a.natAbs:Int)≤n:=by omega
 have h2:(b.natAbs:Int)≤n:=by omega
 have h3:((a+b).natAbs:Int)≤n:=by omega
 omega
theorem stp_at (a b:Int):stp a b=0∨stp a b=a∨stp a b= -a∨stp a b=b∨stp a b= -b∨stp a b=a+b∨stp a b= -(a+b):=by
 unfold stp
 have h1:(a.natAbs:Int)=a∨(a.natAbs:Int)= -a:=by omega
 have h2:(b.natAbs:Int)=b∨(b.natAbs:Int)= -b:=by omega
 have h3:((a+b).natAbs:Int)=a+b∨((a+b).natAbs:Int)= -(a+b):=by omega
 generalize (a.natAbs:Int)=x at *
 generalize (b.natAbs:Int)=y at *
 generalize ((a+b).natAbs:Int)=z at *
 omega
theorem stp_iff {a b n:Int} (h0:0≤n):stp a b=n↔(-n≤a∧a≤n∧-n≤b∧b≤n∧-n≤a+b∧a+b≤n)∧(n=0∨n=a∨n= -a∨n=b∨n= -b∨n=a+b∨n= -(a+b)):=by
 constructor
 · rintro rfl
   have h1:=stp_ge a b
   exact ⟨by omega,stp_at a b⟩
 · rintro ⟨h1,h2⟩
   have h3:stp a b≤n:=stp_le h0 (by omega) (by omega) (by omega)
   have h4:=stp_ge a b
   omega
theorem stp_neg (a b:Int):stp (-a) (-b)=stp a b:=(stp_iff (stp_ge a b).1).2 (by have h1:=stp_ge a b;have h2:=stp_at a b;omega)
theorem stp_zero {a b:Int} (h:stp a b=0):a=0∧b=0:=by have:=stp_ge a b;omega
theorem stp_nil:stp 0 0=0:=rfl
theorem stp_add (a b c d:Int):stp (a+c) (b+d)≤stp a b+stp c d:=by
 have h1:=stp_ge a b
 have h2:=stp_ge c d
 generalize stp a b=n at *
 generalize stp c d=m at *
 exact stp_le (by omega) (by omega) (by omega) (by omega)
theorem stp_sub (a b c d p q:Int):stp (a - p) (b - q)≤stp (a - c) (b - d)+stp (c - p) (d - q):=by
 have:=stp_add (a - c) (b - d) (c - p) (d - q)
 rwa [show a - c+(c - p)=a - p by omega,show b - d+(d - q)=b - q by omega] at this
theorem stp_back (a b c d:Int):stp (a - c) (b - d)=stp (c - a) (d - b):=by
 have:=stp_neg (c - a) (d - b)
 rwa [show -(c - a)=a - c by omega,show -(d - b)=b - d by omega] at this
def sdA (k:Int) (i:Nat) (j:Int):Int:=if i=0 then j else if i=1 then k else if i=2 then k - j else if i=3 then -j else if i=4 then -k else j - k
def sdB (k:Int) (i:Nat) (j:Int):Int:=if i=0 then -k else if i=1 then j - k else if i=2 then j else if i=3 then k else if i=4 then k - j else -j
def uA (i:Nat):Int:=if i=0 then 1 else if i=1 then 0 else if i=2 then -1 else if i=3 then -1 else if i=4 then 0 else 1
def uB (i:Nat):Int:=if i=0 then 0 else if i=1 then 1 else if i=2 then 1 else if i=3 then 0 else if i=4 then -1 else -1
theorem six_cases {i:Nat} (h:i < 6):i=0∨i=1∨i=2∨i=3∨i=4∨i=5:=by omega
theorem sd_step (k:Int) {i:Nat} (hi:i < 6) (j:Int):sdA k i (j+1)=sdA k i j+uA i∧sdB k i (j+1)=sdB k i j+uB i:=by
 rcases six_cases hi with rfl | rfl | rfl | rfl | rfl | rfl <;>simp [sdA,sdB,uA,uB] <;>omega
theorem sd_next (k:Int) {i:Nat} (hi:i < 5):sdA k (i+1) 0=sdA k i k∧sdB k (i+1) 0=sdB k i k:=by
 rcases six_cases (show i < 6 by omega) with rfl | rfl | rfl | rfl | rfl | rfl <;>simp [sdA,sdB] <;>omega
theorem sd_first (k:Int):sdA k 0 0=0∧sdB k 0 0= -k:=⟨rfl,rfl⟩
theorem sd_last (k:Int):sdA k 5 k=0∧sdB k 5 k= -k:=⟨by simp [sdA],by simp [sdB]⟩
theorem sd_stp {k j:Int} {i:Nat} (hi:i < 6) (h1:0≤j) (h2:j≤k):stp (sdA k i j) (sdB k i j)=k:=by
 refine (stp_iff (by omega)).2 ?_
 rcases six_cases hi with rfl | rfl | rfl | rfl | rfl | rfl <;>simp [sdA,sdB] <;>omega
theorem sd_found {p q k:Int} (hk:0 < k) (h:stp p q=k):∃ (i:Nat) (j:Int),i < 6∧1≤j∧j≤k∧p=sdA k i j∧q=sdB k i j:=by
 rw [stp_iff (by omega)] at h
 have:(q= -k∧1≤p)∨(p=k∧1≤q+k∧q≤0)∨(p+q=k∧1≤q)∨(q=k∧p≤-1)∨(p= -k∧q < k∧0≤q)∨(p+q= -k∧1≤-q):=by omega
 rcases this with h1 | h1 | h1 | h1 | h1 | h1
 · exact ⟨0,p,by omega,by omega,by omega,by simp [sdA],by simp [sdB] <;>omega⟩
 · exact ⟨1,q+k,by omega,by omega,by omega,by simp [sdA] <;>omega,by simp [sdB] <;>omega⟩
 · exact ⟨2,q,by omega,by omega,by omega,by simp [sdA] <;>omega,by simp [sdB]⟩
 · exact ⟨3,-p,by omega,by omega,by omega,by simp [sdA],by simp [sdB] <;>omega⟩
 · exact ⟨4,k - q,by omega,by omega,by omega,by simp [sdA] <;>omega,by simp [sdB] <;>omega⟩
 · exact ⟨5,-q,by omega,by omega,by omega,by simp [sdA] <;>omega,by simp [sdB]⟩
theorem sd_one {k:Int} {i e:Nat} {j f:Int} (hi:i < 6) (he:e < 6) (j1:1≤j) (j2:j≤k) (f1:1≤f) (f2:f≤k) (hA:sdA k i j=sdA k e f) (hB:sdB k i j=sdB k e f):i=e∧j=f:=by
 rcases six_cases hi with rfl | rfl | rfl | rfl | rfl | rfl <;>rcases six_cases he with rfl | rfl | rfl | rfl | rfl | rfl <;>simp [sdA,sdB] at hA hB ⊢ <;>omega
def sdP (k:Nat) (i n:Nat):List (Int × Int):=(List.range n).map fun (j:Nat)=>(sdA k i ((j:Int)+1),sdB k i ((j:Int)+1))
def sidesP (k m:Nat):List (Int × Int):=(List.range m).flatMap fun i=>sdP k i k
def rngP (k:Nat):List (Int × Int):=if k=0 then [(0,0)] else sidesP k 6
def diskP (n:Nat):List (Int × Int):=(List.range n).flatMap rngP
theorem sdP_step (k i n:Nat):sdP k i (n+1)=sdP k i n++[(sdA k i ((n:Int)+1),sdB k i ((n:Int)+1))]:=by unfold sdP;rw [List.range_succ,List.map_append];rfl
theorem sidesP_step (k m:Nat):sidesP k (m+1)=sidesP k m++sdP k m k:=by unfold sidesP;rw [List.range_succ,List.flatMap_append];simp
theorem diskP_step (n:Nat):diskP (n+1)=diskP n++rngP n:=by unfold diskP;rw [List.range_succ,List.flatMap_append];simp
theorem sdP_len (k i n:Nat):(sdP k i n).length=n:=by simp [sdP]
theorem sidesP_len (k:Nat):∀ m,(sidesP k m).length=m*k
 | 0=>by simp [sidesP]
 | m+1=>by rw [sidesP_step,List.length_append,sidesP_len k m,sdP_len,Nat.succ_mul]
theorem rngP_len (k:Nat):(rngP k).length=max (6*k) 1:=by
 unfold rngP
 split
 · subst_vars;rfl
 · rw [sidesP_len];omega
theorem diskP_len:∀ n:Nat,(diskP (n+1)).length=3*n*(n+1)+1
 | 0=>by decide
 | n+1=>by
  rw [diskP_step,List.length_append,diskP_len n,rngP_len]
  have:3*(n+1)*(n+1+1)=3*n*(n+1)+6*(n+1):=by grind
  omega
theorem mem_wayP {k i n:Nat} {x:Int × Int}:x∈sdP k i n↔∃ j:Int,1≤j∧j≤n∧x=(sdA k i j,sdB k i j):=by
 unfold sdP
 rw [List.mem_map]
 constructor
 · rintro ⟨j,hj,rfl⟩
   rw [List.mem_range] at hj
   exact ⟨(j:Int)+1,by omega,by omega,rfl⟩
 · rintro ⟨j,h1,h2,rfl⟩
   refine ⟨(j - 1).toNat,by rw [List.mem_range];omega,?_⟩
   rw [show (((j - 1).toNat:Nat):Int)+1=j by omega]
theorem mem_sidesP {k m:Nat} {x:Int × Int}:x∈sidesP k m↔∃ (i:Nat) (j:Int),i < m∧1≤j∧j≤k∧x=(sdA k i j,sdB k i j):=by
 unfold sidesP
 rw [List.mem_flatMap]
 constructor
 · rintro ⟨i,hi,hx⟩
   obtain ⟨j,h1,h2,h3⟩:=mem_wayP.1 hx
   exact ⟨i,j,List.mem_range.1 hi,h1,h2,h3⟩
 · rintro ⟨i,j,hi,h1,h2,h3⟩
   exact ⟨i,List.mem_range.2 hi,mem_wayP.2 ⟨j,h1,h2,h3⟩⟩
theorem mem_rngP {k:Nat} {x:Int × Int}:x∈rngP k↔stp x.1 x.2=k:=by
 unfold rngP
 split
 · rename_i h
   subst h
   rw [List.mem_singleton]
   constructor
   · rintro rfl;rfl
   · intro h;have:=stp_zero (by simpa using h);exact Prod.ext this.1 this.2
 · rename_i hk
   rw [mem_sidesP]
   constructor
   · rintro ⟨i,j,hi,h1,h2,rfl⟩
     exact sd_stp hi (by omega) h2
   · intro h
     obtain ⟨i,j,hi,h1,h2,h3,h4⟩:=sd_found (by omega) h
     exact ⟨i,j,hi,h1,h2,Prod.ext h3 h4⟩
theorem mem_diskP {n:Nat} {x:Int × Int}:x∈diskP n↔stp x.1 x.2 < n:=by
 unfold diskP
 rw [List.mem_flatMap]
 have h0:=(stp_ge x.1 x.2).1
 constructor
 · rintro ⟨k,hk,hx⟩
   have h1:=List.mem_range.1 hk
   have h2:=mem_rngP.1 hx
   omega
 · intro h
   exact ⟨(stp x.1 x.2).toNat,List.mem_range.2 (by omega),mem_rngP.2 (by omega)⟩
theorem sdP_nodup {k i n:Nat} (hi:i < 6) (hn:n≤k):(sdP k i n).Nodup:=by
 unfold sdP
 refine (List.pairwise_map).2 ?_
 refine (List.nodup_range (n:=n)).imp_of_mem ?_
 intro a b ha hb hne he
 have h1:=List.mem_range.1 ha
 have h2:=List.mem_range.1 hb
 have:=sd_one (k:=k) hi hi (j:=(a:Int)+1) (f:=(b:Int)+1) (by omega) (by omega) (by omega) (by omega) (congrArg Prod.fst he) (congrArg Prod.snd he)
 omega
theorem sidesP_nodup (k:Nat) {m:Nat} (hm:m≤6):(sidesP k m).Nodup:=by
 unfold sidesP
 refine (List.pairwise_flatMap).2 ⟨fun i hi=>sdP_nodup (by have:=List.mem_range.1 hi;omega) (Nat.le_refl _),?_⟩
 refine (List.nodup_range (n:=m)).imp_of_mem ?_
 intro a b ha hb hne x hx y hy he
 subst he
 obtain ⟨j,j1,j2,rfl⟩:=mem_wayP.1 hx
 obtain ⟨f,f1,f2,hf⟩:=mem_wayP.1 hy
 have h1:=List.mem_range.1 ha
 have h2:=List.mem_range.1 hb
 have:=sd_one (k:=k) (i:=a) (e:=b) (by omega) (by omega) j1 j2 f1 f2 (congrArg Prod.fst hf) (congrArg Prod.snd hf)
 exact hne this.1
theorem rngP_nodup (k:Nat):(rngP k).Nodup:=by
 unfold rngP
 split
 · simp
 · exact sidesP_nodup k (Nat.le_refl _)
theorem diskP_nodup (n:Nat):(diskP n).Nodup:=by
 unfold diskP
 refine (List.pairwise_flatMap).2 ⟨fun k _=>rngP_nodup k,?_⟩
 refine (List.nodup_range (n:=n)).imp_of_mem ?_
 intro a b ha hb hne x hx y hy he
 subst he
 have h1:=mem_rngP.1 hx
 have h2:=mem_rngP.1 hy
 omega
def wordAt (r:Nat) (a b:Int):List Int:=if ok4B (r:Int) a b then [wordOf r a b] else []
def wordsAt (r:Nat) (a b:Int) (P:List (Int × Int)):List Int:=P.flatMap fun p=>wordAt r (a+p.1) (b+p.2)
theorem wordAt_yes {r:Nat} {a b:Int} (h:Ok4 (r:Int) a b):wordAt r a b=[wordOf r a b]:=if_pos (ok4_mk h)
theorem wordAt_no {r:Nat} {a b:Int} (h:¬ Ok4 (r:Int) a b):wordAt r a b=[]:=by unfold wordAt;rw [ok4_no h];rfl
theorem wordAt_len (r:Nat) (a b:Int):(wordAt r a b).length≤1:=by unfold wordAt;split <;>simp
theorem mem_wordAt {r:Nat} {a b x:Int}:x∈wordAt r a b↔Ok4 (r:Int) a b∧x=wordOf r a b:=by
 by_cases h:Ok4 (r:Int) a b
 · rw [wordAt_yes h,List.mem_singleton];simp [h]
 · rw [wordAt_no h];simp [h]
theorem wordsAt_append (r:Nat) (a b:Int) (P Q:List (Int × Int)):wordsAt r a b (P++Q)=wordsAt r a b P++wordsAt r a b Q:=by unfold wordsAt;rw [List.flatMap_append]
theorem wordsAt_one (r:Nat) (a b:Int) (p:Int × Int):wordsAt r a b [p]=wordAt r (a+p.1) (b+p.2):=by unfold wordsAt;simp
theorem wordsAt_nil (r:Nat) (a b:Int):wordsAt r a b []=[]:=rfl
theorem mem_wordsAt {r:Nat} {a b x:Int} {P:List (Int × Int)}:x∈wordsAt r a b P↔∃ p q,(p,q)∈P∧Ok4 (r:Int) (a+p) (b+q)∧x=wordOf r (a+p) (b+q):=by
 unfold wordsAt
 rw [List.mem_flatMap]
 constructor
 · rintro ⟨⟨p,q⟩,h1,h2⟩;exact ⟨p,q,h1,mem_wordAt.1 h2⟩
 · rintro ⟨p,q,h1,h2⟩;exact ⟨(p,q),h1,mem_wordAt.2 h2⟩
theorem wordsAt_nodup {r:Nat} (a b:Int) {P:List (Int × Int)} (h:P.Nodup):(wordsAt r a b P).Nodup:=by
 unfold wordsAt
 refine (List.pairwise_flatMap).2 ⟨fun p _=>?_,h.imp fun {p q} hne x hx y hy he=>hne ?_⟩
 · unfold wordAt;split <;>simp
 · subst he
   have h1:=mem_wordAt.1 hx
   have h2:=mem_wordAt.1 hy
   have:=word_inj h1.1 h2.1 (h1.2.symm.trans h2.2)
   exact Prod.ext (by omega) (by omega)
theorem wordsAt_cons (r:Nat) (a b:Int) (p:Int × Int) (P:List (Int × Int)):wordsAt r a b (p :: P)=wordAt r (a+p.1) (b+p.2)++wordsAt r a b P:=by unfold wordsAt;rw [List.flatMap_cons]
theorem wordsAt_len (r:Nat) (a b:Int):∀ P:List (Int × Int),(wordsAt r a b P).length≤P.length
 | []=>by simp [wordsAt]
 | p :: P=>by
  have h1:=wordsAt_len r a b P
  have h2:=wordAt_len r (a+p.1) (b+p.2)
  rw [wordsAt_cons,List.length_append,List.length_cons]
  omega
theorem wordsAt_all {r:Nat} {a b:Int}:∀ {P:List (Int × Int)},(∀ p∈P,Ok4 (r:Int) (a+p.1) (b+p.2))→(wordsAt r a b P).length=P.length
 | [],_=>rfl
 | p :: P,h=>by
  have h1:=wordsAt_all (P:=P) fun q hq=>h q (List.mem_cons_of_mem _ hq)
  rw [wordsAt_cons,List.length_append,List.length_cons,h1,wordAt_yes (h p (List.mem_cons_self ..))]
  simp;omega
theorem wordsAt_less {r:Nat} {a b:Int}:∀ {P:List (Int × Int)} {p:Int × Int},p∈P→¬ Ok4 (r:Int) (a+p.1) (b+p.2)→(wordsAt r a b P).length < P.length
 | q :: P,p,hp,h=>by
  have h1:=wordsAt_len r a b P
  have h2:=wordAt_len r (a+q.1) (b+q.2)
  rw [wordsAt_cons,List.length_append,List.length_cons]
  rcases List.mem_cons.1 hp with rfl | hp
  · rw [wordAt_no h];simp;omega
  · have:=wordsAt_less hp h;omega
def Rising (L:List Int):Prop:=L.Pairwise (· < ·)
theorem rising_ext:∀ {L M:List Int},Rising L→Rising M→(∀ x,x∈L↔x∈M)→L=M
 | [],[],_,_,_=>rfl
 | [],m :: M,_,_,h=>by have:=(h m).2 (List.mem_cons_self ..);simp at this
 | l :: L,[],_,_,h=>by have:=(h l).1 (List.mem_cons_self ..);simp at this
 | l :: L,m :: M,hL,hM,h=>by
  have h1:=List.pairwise_cons.1 hL
  have h2:=List.pairwise_cons.1 hM
  have e:l=m:=by
   rcases List.mem_cons.1 ((h l).1 (List.mem_cons_self ..)) with e | e
   · exact e
   · rcases List.mem_cons.1 ((h m).2 (List.mem_cons_self ..)) with e2 | e2
     · exact e2.symm
     · have:=h1.1 m e2;have:=h2.1 l e;omega
  subst e
  refine congrArg _ (rising_ext h1.2 h2.2 fun x=>?_)
  constructor
  · intro hx
    rcases List.mem_cons.1 ((h x).1 (List.mem_cons_of_mem _ hx)) with e | e
    · subst e;have:=h1.1 x hx;omega
    · exact e
  · intro hx
    rcases List.mem_cons.1 ((h x).2 (List.mem_cons_of_mem _ hx)) with e | e
    · subst e;have:=h2.1 x hx;omega
    · exact e
theorem rising_of_le {L:List Int} (h:L.Pairwise (·≤·)) (hn:L.Nodup):Rising L:=by
 unfold Rising
 refine (h.and hn).imp ?_
 rintro a b ⟨h1,h2⟩
 omega
theorem rising_nodup {L:List Int} (h:Rising L):L.Nodup:=h.imp fun {a b} hab=>by omega
def Rows (r:Nat) (a b:Int) (P:List (Int × Int)) (L:List Int):Prop:=L.Perm (wordsAt r a b P)∧Rising L
theorem Rows.mem {r:Nat} {a b:Int} {P:List (Int × Int)} {L:List Int} (h:Rows r a b P L) (x:Int):x∈L↔∃ p q,(p,q)∈P∧Ok4 (r:Int) (a+p) (b+q)∧x=wordOf r (a+p) (b+q):=by rw [h.1.mem_iff,mem_wordsAt]
theorem Rows.len {r:Nat} {a b:Int} {P:List (Int × Int)} {L:List Int} (h:Rows r a b P L):L.length=(wordsAt r a b P).length:=h.1.length_eq
theorem Rows.one {r:Nat} {a b:Int} {P Q:List (Int × Int)} {L M:List Int} (h:Rows r a b P L) (k:Rows r a b Q M) (hPQ:∀ x,x∈P↔x∈Q):L=M :=
 rising_ext h.2 k.2 fun x=>by
  rw [h.mem,k.mem]
  constructor
  · rintro ⟨p,q,h1,h2⟩;exact ⟨p,q,(hPQ _).1 h1,h2⟩
  · rintro ⟨p,q,h1,h2⟩;exact ⟨p,q,(hPQ _).2 h1,h2⟩
theorem Rows.whole {r:Nat} {a b:Int} {P:List (Int × Int)} {L:List Int} (h:Rows r a b P L) {x:Int} (hx:x∈L):Whole x∧wR x=r:=by
 obtain ⟨p,q,-,hO,rfl⟩:=(h.mem x).1 hx
 have:=word_parts hO
 exact ⟨this.1,this.2.1⟩
theorem part_zero {j n:Int} (hn:0 < n) (h1: -(2*n)≤3*(j*n)) (h2:3*(j*n)≤2*n):j=0:=by
 by_cases hp:1≤j
 · have:=Int.mul_le_mul_of_nonneg_right hp (show 0≤n by omega);omega
 · by_cases hq:j≤-1
   · have:=Int.mul_le_mul_of_nonneg_right hq (show 0≤n by omega);omega
   · omega
theorem part_one {j n:Int} (hn:0 < n) (h1: -(2*n) < j*n) (h2:j*n < n): -1≤j∧j≤0:=by
 constructor
 · by_cases hj: -1≤j
   · exact hj
   · have:=Int.mul_le_mul_of_nonneg_right (show j≤-2 by omega) (show 0≤n by omega);omega
 · by_cases hj:j≤0
   · exact hj
   · have:=Int.mul_le_mul_of_nonneg_right (show 1≤j by omega) (show 0≤n by omega);omega
theorem hex_swap {n s t:Int} (h:Hex n s t):Hex n t s:=by unfold Hex at *;omega
theorem hex_back {n s t:Int} (h:Hex n s t):Hex n (-s) (-t):=by unfold Hex at *;omega
theorem hex_turn {n s t:Int} (h:Hex n s t):Hex n (s+t) (-s):=by unfold Hex at *;omega
theorem exact_side {n i x s t:Int} (hn:0 < n) (hs:s=i*n - x*n) (h:Hex n s t):x=i:=by
 unfold Hex at h
 have e:(i - x)*n=i*n - x*n:=Int.sub_mul _ _ _
 have:=part_zero (j:=i - x) hn (by omega) (by omega)
 omega
theorem line_core {n q i x y x' y':Int} (hn:0 < n) (q1: -n≤q) (q2:q≤0) (h:Hex n (i*n - x*n) (i*q - y*n)) (h':Hex n ((i+1)*n - x'*n) ((i+1)*q - y'*n)):x' - x=1∧-1≤y' - y∧y' - y≤0:=by
 have e1:=exact_side hn rfl h
 have e2:=exact_side hn rfl h'
 subst e1 e2
 rw [Int.sub_self] at h h'
 refine ⟨by omega,?_⟩
 have ey:(y' - y)*n=y'*n - y*n:=Int.sub_mul _ _ _
 have ei:(x+1)*q=x*q+q:=by grind
 rw [ei] at h'
 unfold Hex at h h'
 by_cases hq:q=0∨q= -n
 · rcases hq with hq | hq
   · subst hq
     have a1:=part_zero (j:= -y) hn (by rw [Int.neg_mul];omega) (by rw [Int.neg_mul];omega)
     have a2:=part_zero (j:= -y') hn (by rw [Int.neg_mul];omega) (by rw [Int.neg_mul];omega)
     omega
   · subst hq
     have e3:(-x - y)*n=x*-n - y*n:=by grind
     have e4:(-x - 1 - y')*n=x*-n+-n - y'*n:=by grind
     have a1:=part_zero (j:= -x - y) hn (by omega) (by omega)
     have a2:=part_zero (j:= -x - 1 - y') hn (by omega) (by omega)
     omega
 · exact part_one hn (by omega) (by omega)
theorem line_step {n p q i x y x' y':Int} (hn:0 < n) (hpq:stp p q=n) (h:Nearest n (i*p) (i*q) x y) (h':Nearest n ((i+1)*p) ((i+1)*q) x' y'):stp (x' - x) (y' - y)=1:=by
 have hh:=h.1
 have hh':=h'.1
 unfold HexAt at hh hh'
 have hb:=stp_ge p q
 have hc:=stp_at p q
 rw [hpq] at hb hc
 refine (stp_iff (by omega)).2 ?_
 have hs:n=p∨n= -p∨n=q∨n= -q∨n=p+q∨n= -(p+q):=by omega
 clear hc hpq h h'
 rcases hs with hs | hs | hs | hs | hs | hs
 · have:=line_core (q:=q) (i:=i) (x:=x) (y:=y) (x':=x') (y':=y') hn (by omega) (by omega) (by have:=hh;rw [← hs] at this;exact this) (by have:=hh';rw [← hs] at this;exact this)
   omega
 · have e:p= -n:=by omega
   have:=line_core (q:= -q) (i:=i) (x:= -x) (y:= -y) (x':= -x') (y':= -y') hn (by omega) (by omega) (by have:=hex_back hh;rw [e] at this;rwa [show -(i*-n - x*n)=i*n - -x*n by grind,show -(i*q - y*n)=i*-q - -y*n by grind] at this) (by have:=hex_back hh';rw [e] at this;rwa [show -((i+1)*-n - x'*n)=(i+1)*n - -x'*n by grind,show -((i+1)*q - y'*n)=(i+1)*-q - -y'*n by grind] at this)
   omega
 · have:=line_core (q:=p) (i:=i) (x:=y) (y:=x) (x':=y') (y':=x') hn (by omega) (by omega) (by have:=hex_swap hh;rw [hs] at *;exact this) (by have:=hex_swap hh';rw [hs] at *;exact this)
   omega
 · have e:q= -n:=by omega
   have:=line_core (q:= -p) (i:=i) (x:= -y) (y:= -x) (x':= -y') (y':= -x') hn (by omega) (by omega) (by have:=hex_swap (hex_back hh);rw [e] at this;rwa [show -(i*-n - y*n)=i*n - -y*n by grind,show -(i*p - x*n)=i*-p - -x*n by grind] at this) (by have:=hex_swap (hex_back hh');rw [e] at this;rwa [show -((i+1)*-n - y'*n)=(i+1)*n - -y'*n by grind,show -((i+1)*p - x'*n)=(i+1)*-p - -x'*n by grind] at this)
   omega
 · have:=line_core (q:= -p) (i:=i) (x:=x+y) (y:= -x) (x':=x'+y') (y':= -x') hn (by omega) (by omega) (by have:=hex_turn hh;rwa [show i*p - x*n+(i*q - y*n)=i*n - (x+y)*n by grind,show -(i*p - x*n)=i*-p - -x*n by grind] at this) (by have:=hex_turn hh';rwa [show (i+1)*p - x'*n+((i+1)*q - y'*n)=(i+1)*n - (x'+y')*n by grind,show -((i+1)*p - x'*n)=(i+1)*-p - -x'*n by grind] at this)
   omega
 · have:=line_core (q:=p) (i:=i) (x:= -(x+y)) (y:=x) (x':= -(x'+y')) (y':=x') hn (by omega) (by omega) (by have:=hex_turn (hex_back hh);rwa [show -(i*p - x*n)+-(i*q - y*n)=i*n - -(x+y)*n by grind,show - -(i*p - x*n)=i*p - x*n by omega] at this) (by have:=hex_turn (hex_back hh');rwa [show -((i+1)*p - x'*n)+-((i+1)*q - y'*n)=(i+1)*n - -(x'+y')*n by grind,show - -((i+1)*p - x'*n)=(i+1)*p - x'*n by omega] at this)
   omega
theorem line_apart {n p q i j x y:Int} (hn:0 < n) (hpq:stp p q=n) (h:Nearest n (i*p) (i*q) x y) (h':Nearest n (j*p) (j*q) x y):i=j:=by
 have hh:=h.1
 have hh':=h'.1
 unfold HexAt at hh hh'
 have hc:=stp_at p q
 rw [hpq] at hc
 have hs:n=p∨n= -p∨n=q∨n= -q∨n=p+q∨n= -(p+q):=by omega
 clear hc hpq h h'
 rcases hs with hs | hs | hs | hs | hs | hs
 · have e1:=exact_side (i:=i) (x:=x) hn (by rw [hs]) hh
   have e2:=exact_side (i:=j) (x:=x) hn (by rw [hs]) hh'
   omega
 · have e1:=exact_side (i:=i) (x:= -x) hn (by rw [show p= -n by omega];grind) (hex_back hh)
   have e2:=exact_side (i:=j) (x:= -x) hn (by rw [show p= -n by omega];grind) (hex_back hh')
   omega
 · have e1:=exact_side (i:=i) (x:=y) hn (by rw [hs]) (hex_swap hh)
   have e2:=exact_side (i:=j) (x:=y) hn (by rw [hs]) (hex_swap hh')
   omega
 · have e1:=exact_side (i:=i) (x:= -y) hn (by rw [show q= -n by omega];grind) (hex_swap (hex_back hh))
   have e2:=exact_side (i:=j) (x:= -y) hn (by rw [show q= -n by omega];grind) (hex_swap (hex_back hh'))
   omega
 · have e1:=exact_side (i:=i) (x:=x+y) hn (by rw [hs];grind) (hex_turn hh)
   have e2:=exact_side (i:=j) (x:=x+y) hn (by rw [hs];grind) (hex_turn hh')
   omega
 · have e1:=exact_side (i:=i) (x:= -(x+y)) hn (by rw [show n= -(p+q) by omega];grind) (hex_turn (hex_back hh))
   have e2:=exact_side (i:=j) (x:= -(x+y)) hn (by rw [show n= -(p+q) by omega];grind) (hex_turn (hex_back hh'))
   omega
def OnLine (n p q:Int) (f:Nat→Int × Int):Prop:=1≤n∧stp p q=n∧∀ j:Nat,Nearest n ((j:Int)*p) ((j:Int)*q) (f j).1 (f j).2
theorem line_some {n p q:Int} (hn:1≤n) (hpq:stp p q=n):∃ f,OnLine n p q f:=by
 have h:∀ j:Nat,∃ x:Int × Int,Nearest n ((j:Int)*p) ((j:Int)*q) x.1 x.2:=fun j=>by
  obtain ⟨a,b,h⟩:=nearest_some hn ((j:Int)*p) ((j:Int)*q)
  exact ⟨(a,b),h⟩
 exact ⟨fun j=>(h j).choose,hn,hpq,fun j=>(h j).choose_spec⟩
theorem OnLine.first {n p q:Int} {f:Nat→Int × Int} (h:OnLine n p q f):f 0=(0,0):=by
 have h0:=h.2.2 0
 have h1:=nearest_whole (d:=n) (i:=0) (k:=0) (by have:=h.1;omega)
 rw [Int.mul_zero] at h1
 have e:((0:Nat):Int)=0:=rfl
 rw [e,Int.zero_mul,Int.zero_mul] at h0
 have:=nearest_one h0 h1
 exact Prod.ext this.1 this.2
theorem OnLine.last {n p q:Int} {f:Nat→Int × Int} (h:OnLine n p q f):f n.toNat=(p,q):=by
 have h0:=h.2.2 n.toNat
 have h1:=nearest_whole (d:=n) (i:=p) (k:=q) (by have:=h.1;omega)
 have e:((n.toNat:Nat):Int)=n:=by have:=h.1;omega
 rw [e] at h0
 have:=nearest_one h0 h1
 exact Prod.ext this.1 this.2
theorem OnLine.step {n p q:Int} {f:Nat→Int × Int} (h:OnLine n p q f) (j:Nat):stp ((f (j+1)).1 - (f j).1) ((f (j+1)).2 - (f j).2)=1:=by
 have h1:=h.2.2 (j+1)
 rw [show ((j+1:Nat):Int)=(j:Int)+1 by omega] at h1
 exact line_step (by have:=h.1;omega) h.2.1 (h.2.2 j) h1
theorem OnLine.near {n p q:Int} {f:Nat→Int × Int} (h:OnLine n p q f):∀ j:Nat,stp (f j).1 (f j).2≤j
 | 0=>by rw [h.first];decide
 | j+1=>by
  have h1:=h.near j
  have h2:=h.step j
  have h3:=stp_add (f j).1 (f j).2 ((f (j+1)).1 - (f j).1) ((f (j+1)).2 - (f j).2)
  rw [show (f j).1+((f (j+1)).1 - (f j).1)=(f (j+1)).1 by omega,show (f j).2+((f (j+1)).2 - (f j).2)=(f (j+1)).2 by omega] at h3
  omega
theorem OnLine.apart {n p q:Int} {f:Nat→Int × Int} (h:OnLine n p q f) {i j:Nat} (e:f i=f j):i=j:=by
 have h1:=h.2.2 i
 rw [e] at h1
 have:=line_apart (by have:=h.1;omega) h.2.1 h1 (h.2.2 j)
 omega
theorem OnLine.at' {n p q a b c d x y:Int} {f:Nat→Int × Int} (h:OnLine n p q f) {j:Nat} (hp:c - a=p) (hq:d - b=q) (hN:Nearest n ((n - j)*a+(j:Int)*c) ((n - j)*b+(j:Int)*d) x y):x=a+(f j).1∧y=b+(f j).2:=by
 have h1:=nearest_moved (i:=a) (k:=b) (h.2.2 j)
 rw [show (j:Int)*p+n*a=(n - j)*a+(j:Int)*c by rw [← hp];grind,show (j:Int)*q+n*b=(n - j)*b+(j:Int)*d by rw [← hq];grind] at h1
 have:=nearest_one hN h1
 omega
def lineP (f:Nat→Int × Int) (m:Nat):List (Int × Int):=(List.range m).map f
theorem lineP_step (f:Nat→Int × Int) (m:Nat):lineP f (m+1)=lineP f m++[f m]:=by unfold lineP;rw [List.range_succ,List.map_append];rfl
theorem lineP_len (f:Nat→Int × Int) (m:Nat):(lineP f m).length=m:=by simp [lineP]
theorem lineP_nodup {n p q:Int} {f:Nat→Int × Int} (h:OnLine n p q f) (m:Nat):(lineP f m).Nodup:=by
 unfold lineP
 refine (List.pairwise_map).2 ?_
 exact (List.nodup_range (n:=m)).imp fun {a b} hne he=>hne (h.apart he)
theorem wordsAt_map {r:Nat} {a b:Int}:∀ {P:List (Int × Int)},(∀ p∈P,Ok4 (r:Int) (a+p.1) (b+p.2))→wordsAt r a b P=P.map fun p=>wordOf r (a+p.1) (b+p.2)
 | [],_=>rfl
 | p :: P,h=>by
  rw [wordsAt_cons,wordsAt_map fun q hq=>h q (List.mem_cons_of_mem _ hq),wordAt_yes (h p (List.mem_cons_self ..))]
  rfl
def Mid (r:Nat) (a b:Int):Prop:=r≤12∧normE a b≤62700*7^r+200
theorem upM_fin:∀ i:Fin 13,decide (65*(62700*7^i.val+200)+4160*1728≤64*upN i.val)=true:=by decide +kernel
theorem Mid.ok {r:Nat} {a b:Int} (h:Mid r a b) {p q:Int} (hs:stp p q≤24):Ok4 (r:Int) (a+p) (b+q):=by
 have hp:=stp_ge p q
 have hn:=norm_in (x:=p) (y:=q) (B:=24) (by omega)
 have hw:=norm_weigh' a b p q
 have hT:=of_decide_eq_true (upM_fin ⟨r,by have:=h.1;omega⟩)
 have hT':65*(62700*7^r+200)+4160*1728≤64*upN r:=hT
 have h2:=h.2
 have hb:=base_box (ups_norm r (a:=a+p) (b:=b+q) (by omega))
 exact ok4_of_base h.1 hb.1 hb.2
theorem Mid.self {r:Nat} {a b:Int} (h:Mid r a b):Ok4 (r:Int) a b:=by
 have:=h.ok (p:=0) (q:=0) (by decide)
 rwa [Int.add_zero,Int.add_zero] at this
end Go.Proofs.YtdklpgphmoaniaaGreatDoor
