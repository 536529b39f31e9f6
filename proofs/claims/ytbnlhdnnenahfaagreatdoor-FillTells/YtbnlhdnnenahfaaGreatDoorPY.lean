/-
  What the texts Plain, Halves, Lattice, BetMath, Mask, OwnKit, URow, ULst say, so far as this seat's proofs need it.
-/
import Derived.Handy
import Derived.Test.YtbnlhdnnenahfaaGreatDoorProg
import Derived.WalkSpells
import Derived.WalkLawsBesides
import Derived.BigQuiet
import Derived.PlainAid
import Derived.Deep.RegionHeld3
import Derived.Deep.CutRange
import Derived.Laws.CopyOwn
import Derived.Sort.Row
namespace Go.Proofs.YtbnlhdnnenahfaaGreatDoor
open Go.RowKit
theorem aB {B:Nat}{w0 w:World}(h:Below B w0 w)(n:Nat):Below B w0 (w.drewN n):=h.trans ⟨rfl,rfl,rfl,Nat.le_refl _,fun _ _=>rfl⟩
theorem ae {a b c:World}(h:Below a.heap.size a b)(k:Below b.heap.size b c):Below a.heap.size a c:=h.trans (k.mono h.size)
theorem df {p:Prop}[Decidable p](h:¬p):decide p=false:=decide_eq_false h
def aX (n:Int):Bool:=decide (-9223372036854775808<=n/\n<=9223372036854775807)
def cl (n:Int):Int:=if aX n=true then n else 0
theorem ax {n:Int}(h: -9223372036854775808<=n/\n<=9223372036854775807):aX n=true:=decide_eq_true h
theorem uH {n:Int}(h:aX n=true): -9223372036854775808<=n/\n<=9223372036854775807:=of_decide_eq_true h
theorem co {n:Int}(h:¬(-9223372036854775808<=n/\n<=9223372036854775807)):aX n=false:=decide_eq_false h
theorem bt {n:Int}(h:aX n=true):cl n=n:=if_pos h
theorem fY {n:Int}(h:aX n=false):cl n=0:=by unfold cl;rw[h];rfl
theorem db {n:Int}(h: -9223372036854775808<=n/\n<=9223372036854775807):wrap64 n=n:=IntWalk.wrap64_in n h
theorem vH (n:Int): -9223372036854775808<=wrap64 n/\wrap64 n<=9223372036854775807:=by unfold wrap64;omega
theorem vA {n a:Int}(h1: -9223372036854775808<=n)(h2:n<=9223372036854775807)(hm:a≠-1): -9223372036854775808<=n.tdiv a/\n.tdiv a<=9223372036854775807:=by
 have h:(n.tdiv a).natAbs=n.natAbs / a.natAbs:=Int.natAbs_tdiv n a;by_cases h0:a=0
 · subst h0;simp
 · by_cases hp:a=1
   · subst hp;simp;omega
   · have hd:n.natAbs / a.natAbs<=n.natAbs / 2:=Nat.div_le_div_left (by omega) (by omega);omega
def ak (z:Int):Int:=z%18446744073709551616
def am (z:Int):Int:=z / 18446744073709551616%18446744073709551616
theorem fA (z:Int):0<=ak z/\ak z<=18446744073709551615:=by unfold ak;omega
theorem dZ (z:Int):0<=am z/\am z<=18446744073709551615:=by unfold am;omega
theorem yk {a b c d:Int}(h1:a=c)(h2:b=d):Ending.returned (.agg #[.int .u64 a,.int .u64 b])=Ending.returned (.agg #[.int .u64 c,.int .u64 d]):=by rw[h1,h2]
theorem au {w:World}{b:Nat}{x y u v:Value}(h0:w.cell? ⟨b,0,none⟩=some x)(h1:w.cell? ⟨b,1,none⟩=some y) :
 ((w.setCell ⟨b,0,none⟩ u).setCell ⟨b,1,none⟩ v).cell? ⟨b,0,none⟩=some u/\((w.setCell ⟨b,0,none⟩ u).setCell ⟨b,1,none⟩ v).cell? ⟨b,1,none⟩=some v:=by
 have e0:(w.setCell ⟨b,0,none⟩ u).cell? ⟨b,0,none⟩=some u:=World.cell?_setCell_same _ _ _ h0;have e1:(w.setCell ⟨b,0,none⟩ u).cell? ⟨b,1,none⟩=some y:=(World.cell?_setCell_other _ _ _ _ (by simp)).trans h1;exact⟨(World.cell?_setCell_other _ _ _ _ (by simp)).trans e0,World.cell?_setCell_same _ _ _ e1⟩
theorem bQ {W w1:World}(hb:Below W.heap.size W w1):(∀b o,b<W.heap.size->w1.cell? ⟨b,o,none⟩=W.cell? ⟨b,o,none⟩)/\(∀b o,b<W.heap.size->w1.frozen? ⟨b,o,none⟩=W.frozen? ⟨b,o,none⟩) :=
 ⟨fun b o h=>hb.cell (p:=⟨b,o,none⟩) h,fun b o h=>hb.frozen (p:=⟨b,o,none⟩) h⟩
theorem aa {a b:World}{p:Addr}{v:Value}(hb:Below a.heap.size a b)(h:a.cell? p=some v):b.cell? p=some v:=(hb.cell (World.block_lt_of_cell? _ _ h)).trans h
theorem ac {a b:World}{p:Addr}{v:Value}(hb:Below a.heap.size a b)(h:a.cell? p=some v)(hf:a.frozen? p=false):b.frozen? p=false:=(hb.frozen (World.block_lt_of_cell? _ _ h)).trans hf
def be (w:World)(p:Addr):Int:=match w.cell? p with | some (.int .i64 n)=>n | _=>0
theorem fG {w:World}{p:Addr}{n:Int}(h:w.cell? p=some (.int .i64 n)):w.cell? p=some (.int .i64 (be w p)):=by
 have e:be w p=n:=by unfold be;rw[h]
 rw[e];exact h
theorem kW (x y c:Int)(hx:0<=x)(hy:0<=y)(hc0:0<=c)(hc:c<=1)(w:World) :
 (callFunc 106 #[.int .u64 x,.int .u64 y,.int .u64 c]).run Tryz.prog w=.ok (.value (.tuple #[.int .u64 ((x+y+c)%18446744073709551616),.int .u64 ((x+y+c) / 18446744073709551616)])) w:=by
 rw[run_callFunc_extern Tryz.func106 (by kernel_rfl) (by kernel_rfl) (by kernel_rfl) (e:=add64Entry) (by kernel_rfl),run_add64 x y c hx hy hc0 hc];rfl
def jR:Array Value->Sem Value:=(Extern.MathBitsCarry.rows[1]'(by decide)).2
theorem Ab {P:Program}(x y c:Int)(hx:0<=x)(hy:0<=y)(hy1:y<18446744073709551616)(hc0:0<=c)(hc:c<=1)(w:World) :
 (jR #[.int .u64 x,.int .u64 y,.int .u64 c]).run P w=.ok (.tuple #[.int .u64 ((x-y-c)%18446744073709551616),.int .u64 (if x<y+c then 1 else 0)]) w:=by
 have key:∀k:Nat,k<=1->(jR #[.int .u64 x,.int .u64 y,.int .u64 (k:Int)]).run P w =
  .ok (Extern.MathBitsCarry.pair ((x.toNat+Extern.MathBitsCarry.m64-y.toNat-k)%Extern.MathBitsCarry.m64) (if x.toNat<y.toNat+k then 1 else 0)) w:=by
  intro k hk;have:k=0∨k=1:=by omega
  rcases this with rfl | rfl <;>rfl
 obtain⟨k,rfl⟩:=Int.eq_ofNat_of_zero_le hc0;rw[key k (by omega)];obtain⟨X,rfl⟩:=Int.eq_ofNat_of_zero_le hx;obtain⟨Y,rfl⟩:=Int.eq_ofNat_of_zero_le hy;simp only[Extern.MathBitsCarry.pair,Extern.MathBitsCarry.m64,Int.toNat_natCast];have e1:(Int.ofNat ((X+2^64-Y-k)%2^64):Int)=((X:Int)-Y-k)%18446744073709551616:=by
  simp only[Int.ofNat_eq_natCast];omega
 have e2:(Int.ofNat (if X<Y+k then 1 else 0):Int)=if (X:Int)<Y+k then 1 else 0:=by
  by_cases h:X<Y+k
  · rw[if_pos h,if_pos (by omega)];rfl
  · rw[if_neg h,if_neg (by omega)];rfl
 rw[e1,e2]
theorem ug (x y c:Int)(hx:0<=x)(hy:0<=y)(hy1:y<18446744073709551616)(hc0:0<=c)(hc:c<=1)(w:World) :
 (callFunc 206 #[.int .u64 x,.int .u64 y,.int .u64 c]).run Tryz.prog w=.ok (.value (.tuple #[.int .u64 ((x-y-c)%18446744073709551616),.int .u64 (if x<y+c then 1 else 0)])) w:=by
 rw[run_callFunc_extern Tryz.func206 (by kernel_rfl) (by kernel_rfl) (by kernel_rfl) (e:=jR) (by kernel_rfl),Ab x y c hx hy hy1 hc0 hc];rfl
def aw (s t:Int):Int:=s*s+s*t+t*t
def Hex (d s t:Int):Prop:=(-d<=2*s+t/\2*s+t<=d)/\(-d<=s+2*t/\s+2*t<=d)/\(-d<=s-t/\s-t<=d)
theorem zo {m p d:Int}(hm:0<=m)(h:p<=d):m*p<=m*d:=Int.mul_le_mul_of_nonneg_left h hm
theorem oh (m:Int):m<=m*m∧-m<=m*m:=by
 by_cases h:m<=0
 · have h1:0<=m*m:=by have:=Int.mul_nonneg (show 0≤-m by omega) (show 0≤-m by omega);rw[Int.neg_mul_neg]at this;exact this
   by_cases h0:m=0
   · subst h0;omega
   · have h2:=zo (m:= -m) (p:=1) (d:= -m) (by omega) (by omega);rw[Int.neg_mul_neg,Int.mul_one]at h2;omega
 · have h2:=zo (m:=m) (p:=1) (d:=m) (by omega) (by omega);rw[Int.mul_one]at h2;omega
theorem xd (s t m n d:Int):aw (s-m*d) (t-n*d)=aw s t-d*(m*(2*s+t)+n*(s+2*t))+d*(aw m n*d):=by
 unfold aw;simp only[Int.sub_mul,Int.mul_sub,Int.add_mul,Int.mul_add];have e1:m*d*s=s*(m*d):=Int.mul_comm _ _;have e2:m*d*t=t*(m*d):=Int.mul_comm _ _;have e3:n*d*t=t*(n*d):=Int.mul_comm _ _;have e4:d*(m*(2*s))=2*(s*(m*d)):=by rw[show m*(2*s)=2*(m*s)by rw[Int.mul_left_comm],Int.mul_left_comm d 2,show d*(m*s)=s*(m*d)by rw[Int.mul_comm m s,Int.mul_left_comm d s m,Int.mul_comm d m]]
 have e5:d*(m*t)=t*(m*d):=by rw[Int.mul_comm m t,Int.mul_left_comm d t m,Int.mul_comm d m]
 have e6:d*(n*s)=s*(n*d):=by rw[Int.mul_comm n s,Int.mul_left_comm d s n,Int.mul_comm d n]
 have e7:d*(n*(2*t))=2*(t*(n*d)):=by rw[show n*(2*t)=2*(n*t)by rw[Int.mul_left_comm],Int.mul_left_comm d 2,show d*(n*t)=t*(n*d)by rw[Int.mul_comm n t,Int.mul_left_comm d t n,Int.mul_comm d n]]
 have f1:d*(m*m*d)=m*d*(m*d):=by rw[Int.mul_assoc m m d,Int.mul_left_comm d m,Int.mul_assoc m d]
 have f2:d*(m*n*d)=m*d*(n*d):=by rw[Int.mul_assoc m n d,Int.mul_left_comm d m,Int.mul_assoc m d]
 have f3:d*(n*n*d)=n*d*(n*d):=by rw[Int.mul_assoc n n d,Int.mul_left_comm d n,Int.mul_assoc n d]
 omega
theorem mw (a b:Int):0<=aw a b:=by
 have h1:4*aw a b=(2*a+b)*(2*a+b)+3*(b*b):=by
  unfold aw;simp only[Int.mul_add,Int.add_mul];have e1:2*a*(2*a)=4*(a*a):=by rw[Int.mul_assoc,Int.mul_left_comm a 2 a];omega
  have e2:2*a*b=2*(a*b):=Int.mul_assoc _ _ _;have e3:b*(2*a)=2*(a*b):=by rw[Int.mul_left_comm,Int.mul_comm b a]
  omega
 have h2:=oh (2*a+b);have h3:=oh b;omega
def a7 (d u v a b:Int):Prop:=Hex d (u-a*d) (v-b*d)
def aU (d u v a b:Int):Prop:=a7 d u v a b/\∀a' b',a7 d u v a' b'->a<a'∨a=a'/\b<=b'
theorem iQ {d u v a b a' b':Int}(h:aU d u v a b)(h':aU d u v a' b'):a=a'/\b=b':=by
 have h1:=h.2 a' b' h'.1;have h2:=h'.2 a b h.1;omega
theorem fM {d s t i k:Int}(s0:0<=s)(s1:s<d)(t0:0<=t)(t1:t<d)(h:Hex d (s-i*d) (t-k*d)):0<=i/\i<=1/\0<=k/\k<=1:=by
 unfold Hex at h;have hx: -d<=s-i*d/\s-i*d<=d:=by omega
 have hy: -d<=t-k*d/\t-k*d<=d:=by omega
 have bd:∀j:Int,-d<=j*d->j*d<2*d→-1<=j/\j<=1:=by
  intro j h1 h2;constructor
  · by_cases hj: -1<=j
    · exact hj
    · exfalso
      have:=Int.mul_le_mul_of_nonneg_right (show j≤-2 by omega) (show 0<=d by omega);omega
  · by_cases hj:j<=1
    · exact hj
    · exfalso
      have:=Int.mul_le_mul_of_nonneg_right (show 2<=j by omega) (show 0<=d by omega);omega
 have bi:=bd i (by omega) (by omega);have bk:=bd k (by omega) (by omega);have ci:i= -1∨i=0∨i=1:=by omega
 have ck:k= -1∨k=0∨k=1:=by omega
 rcases ci with rfl | rfl | rfl <;>rcases ck with rfl | rfl | rfl <;>omega
theorem BU {d s t:Int}(s0:0<=s)(s1:s<d)(t0:0<=t)(t1:t<d):Hex d s t∨Hex d s (t-d)∨Hex d (s-d) t∨Hex d (s-d) (t-d):=by
 unfold Hex;omega
def yj (d u v:Int)(e:Ending):Prop:=∃a b:Int,e=.returned (.tuple #[.agg #[.int .i64 a,.int .i64 b],.bool true])/\aU d u v a b
def dT (d s t i k:Int):Prop:=Hex d (s-i*d) (t-k*d)
theorem qF {d u v a b s t:Int}(h1:u=d*a+s)(h2:v=d*b+t)(x y:Int):a7 d u v x y↔dT d s t (x-a) (y-b):=by
 unfold a7 dT;rw[Int.sub_mul,Int.sub_mul,h1,h2,Int.mul_comm d a,Int.mul_comm d b,show a*d+s-x*d=s-(x*d-a*d)by omega,show b*d+t-y*d=t-(y*d-b*d)by omega]
theorem jC {d u v a b s t i k:Int}(h1:u=d*a+s)(h2:v=d*b+t)(h:dT d s t i k)(hl:∀i' k',dT d s t i' k'->i<i'∨i=i'/\k<=k'):aU d u v (a+i) (b+k):=by
 constructor
 · rw[qF h1 h2,show a+i-a=i by omega,show b+k-b=k by omega];exact h
 · intro x y hxy;rw[qF h1 h2]at hxy;have:=hl _ _ hxy;omega
theorem zb {d s t:Int}(s0:0<=s)(s1:s<d)(t0:0<=t)(t1:t<d):∃i k,dT d s t i k:=by
 rcases BU s0 s1 t0 t1 with h | h | h | h
 · exact⟨0,0,by unfold dT;rw[Int.zero_mul,Int.sub_zero,Int.sub_zero];exact h⟩
 · exact⟨0,1,by unfold dT;rw[Int.zero_mul,Int.sub_zero,Int.one_mul];exact h⟩
 · exact⟨1,0,by unfold dT;rw[Int.zero_mul,Int.sub_zero,Int.one_mul];exact h⟩
 · exact⟨1,1,by unfold dT;rw[Int.one_mul];exact h⟩
theorem uP {i d:Int}(i1: -1<=i)(i2:i<=2)(d1:1<=d)(d2:d<=1125899906842624): -1125899906842624<=i*d/\i*d<=2251799813685248:=by
 have c:i= -1∨i=0∨i=1∨i=2:=by omega
 rcases c with rfl | rfl | rfl | rfl <;>omega
theorem kY {u d:Int}(u1: -1152921504606846976<=u)(u2:u<=1152921504606846976)(d1:1<=d): -1152921504606846976<=u / d/\u / d<=1152921504606846976:=by
 have h:=Int.mul_ediv_add_emod u d;have h1:=Int.emod_nonneg u (b:=d) (by omega);have h2:=Int.emod_lt_of_pos u (b:=d) (by omega);constructor
 · by_cases hq: -1152921504606846976<=u / d
   · exact hq
   · exfalso
     have h3:=Int.mul_le_mul_of_nonneg_left (show u / d+1≤-1152921504606846976 by omega) (show 0<=d by omega);rw[Int.mul_add,Int.mul_one]at h3;omega
 · by_cases hq:u / d<=1152921504606846976
   · exact hq
   · exfalso
     have h3:=Int.mul_le_mul_of_nonneg_left (show 1152921504606846977<=u / d by omega) (show 0<=d by omega);omega
def cW (j:Int):Int:=if j=0 then 1 else if j=1 then 0 else if j=2 then -1 else if j=3 then -1 else if j=4 then 0 else 1
def cY (j:Int):Int:=if j=0 then 0 else if j=1 then 1 else if j=2 then 1 else if j=3 then 0 else if j=4 then -1 else -1
def dz (s t d:Int):Nat->Int
 | 0=>0
 | 1=>d-s-2*t
 | 2=>d-2*s-t
 | _=>3*(d-s-t)
def br (s t d:Int):Nat->Nat×Int
 | 0=>(0,0)
 | k+1=>if dz s t d k<(br s t d k).2 then (k,dz s t d k)else br s t d k
theorem va (s t d:Int):∀k,(br s t d k).1<=k
 | 0=>Nat.le_refl _
 | k+1=>by
  have:=va s t d k;unfold br
  split <;>simp <;>omega
theorem pS {s t d:Int}(s0:0<=s)(s1:s<d)(t0:0<=t)(t1:t<d) :
 dT d s t ((((br s t d 4).1:Nat):Int) / 2) ((((br s t d 4).1:Nat):Int)%2)/\∀i' k',dT d s t i' k'->(((br s t d 4).1:Nat):Int) / 2<i'∨(((br s t d 4).1:Nat):Int) / 2=i'/\(((br s t d 4).1:Nat):Int)%2<=k':=by
 have win:∀i' k',dT d s t i' k'->0<=i'/\i'<=1/\0<=k'/\k'<=1:=fun i' k' h=>fM s0 s1 t0 t1 h;have h4:(((br s t d 4).1:Nat):Int)=0/\0<=d-s-2*t/\0<=d-2*s-t/\0<=3*(d-s-t)
  ∨(((br s t d 4).1:Nat):Int)=1/\d-s-2*t<0/\d-s-2*t<=d-2*s-t/\d-s-2*t<=3*(d-s-t)
  ∨(((br s t d 4).1:Nat):Int)=2/\d-2*s-t<0/\d-2*s-t<d-s-2*t/\d-2*s-t<=3*(d-s-t)
  ∨(((br s t d 4).1:Nat):Int)=3/\3*(d-s-t)<0/\3*(d-s-t)<d-s-2*t/\3*(d-s-t)<d-2*s-t:=by
  simp only[br,dz]
  split <;>split <;>split <;>split <;>simp_all <;>omega
 generalize (((br s t d 4).1:Nat):Int)=p at h4 ⊢;have hex:∀i k,dT d s t i k↔Hex d (s-i*d) (t-k*d):=fun _ _=>Iff.rfl;rcases h4 with⟨rfl,h1,h2,h3⟩ | ⟨rfl,h1,h2,h3⟩ | ⟨rfl,h1,h2,h3⟩ | ⟨rfl,h1,h2,h3⟩
 all_goals
  refine⟨?_,fun i' k' h=>?_⟩
  · unfold dT Hex;simp;omega
  · have hw:=win i' k' h;have ci:i'=0∨i'=1:=by omega
    have ck:k'=0∨k'=1:=by omega
    unfold dT Hex at h;rcases ci with rfl | rfl <;>rcases ck with rfl | rfl <;>simp at h ⊢ <;>omega
def dL (a b c d:Int):Int:=a*c+-(b*d)
def d9 (a b c d:Int):Int:=a*d+b*c+b*d
def bet:Nat->Int×Int
 | 0=>(1,0)
 | i+1=>(dL (bet i).1 (bet i).2 2 1,d9 (bet i).1 (bet i).2 2 1)
theorem Ev:∀i:Fin 21,(decide (-2147483648<=(bet i.val).1) && decide ((bet i.val).1<=2147483648) && decide (-2147483648<=(bet i.val).2) && decide ((bet i.val).2<=2147483648))=true:=by decide +kernel
theorem kV (i:Nat)(h:i<=20): -2147483648<=(bet i).1/\(bet i).1<=2147483648∧-2147483648<=(bet i).2/\(bet i).2<=2147483648:=by
 have:=Ev ⟨i,by omega⟩;simp only[Bool.and_eq_true,decide_eq_true_eq]at this;omega
def iv (w:World)(q:Nat)(wr:World):Prop :=
 wr.cell? ⟨w.heap.size+1,0,none⟩=some (.int .i64 (bet q).1)/\wr.cell? ⟨w.heap.size+1,1,none⟩=some (.int .i64 (bet q).2) /\
 wr.frozen? ⟨w.heap.size+1,0,none⟩=false/\wr.frozen? ⟨w.heap.size+1,1,none⟩=false /\
 wr.cell? ⟨w.heap.size,0,none⟩=some (.int .i64 0)/\wr.cell? ⟨w.heap.size,1,none⟩=some (.int .i64 0) /\
 wr.frozen? ⟨w.heap.size,0,none⟩=false/\wr.frozen? ⟨w.heap.size,1,none⟩=false/\Below w.heap.size w wr
theorem mp (n:Int)(j:Nat)(hj:j<63):bits .and .i64 n ((2^j-1:Nat):Int)=n%((2^j:Nat):Int):=by
 have hp:(2:Nat)^j ∣ 2^64:=Nat.pow_dvd_pow 2 (by omega);have hle:(2:Nat)^j<=2^62:=Nat.pow_le_pow_right (by omega) (by omega);have hpos:0<(2:Nat)^j:=Nat.pow_pos (by omega);have hm:(BitVec.ofInt 64 ((2^j-1:Nat):Int)).toNat=2^j-1:=ofInt_u64 _ (by omega);have hn:((BitVec.ofInt 64 n).toNat:Int)=n%18446744073709551616:=by
  rw[BitVec.toNat_ofInt];have:0<=n%18446744073709551616:=Int.emod_nonneg _ (by omega);show((n%((2^64:Nat):Int)).toNat:Int)=_
  have e:((2^64:Nat):Int)=18446744073709551616:=by decide
  rw[e];exact Int.toNat_of_nonneg this
 show IntKind.i64.wrap ((BitVec.ofInt 64 n &&& BitVec.ofInt 64 ((2^j-1:Nat):Int)).toNat:Int)=_
 rw[BitVec.toNat_and,hm,Nat.and_two_pow_sub_one_eq_mod];have e3:(((BitVec.ofInt 64 n).toNat%2^j:Nat):Int)=n%((2^j:Nat):Int):=by
  rw[Int.natCast_emod,hn];obtain⟨c,hc⟩:=hp;have e:(18446744073709551616:Int)=((2^j:Nat):Int)*(c:Int):=by
   rw[←Int.natCast_mul,←hc];decide
  exact Int.emod_emod_of_dvd n ⟨_,e⟩
 rw[e3,IntWalk.i64_left];have h1:=Int.emod_nonneg n (b:=((2^j:Nat):Int)) (by omega);have h2:=Int.emod_lt_of_pos n (b:=((2^j:Nat):Int)) (by omega);exact db ⟨by omega,by omega⟩
theorem zk (n:Int):bits .and .i64 n 1073741823=n%1073741824:=by
 have:=mp n 30 (by omega)
 simpa using this
theorem DP (n m:Int)(hm:0<m): -m<n.tmod m/\n.tmod m<m:=by
 have h:(n.tmod m).natAbs=n.natAbs%m.natAbs:=Int.natAbs_tmod n m;have h2:=Nat.mod_lt n.natAbs (show 0<m.natAbs by omega);omega
theorem aI {B:Nat}{a b:World}{p:Addr}{v:Value}(h:Below B a b)(hc:a.cell? p=some v)(hl:p.block<B):b.cell? p=some v:=(h.cell hl).trans hc
theorem ai {a b:World}{base:Nat}{e:TypeId}{size:Nat}{v:Value}{n:Nat}{xs:List Value}(hb:Below a.heap.size a b)(h:a.ownsRow base e size v n xs):b.ownsRow base e size v n xs :=
 h.kept (row:=none) ⟨hb.os,hb.tape,hb.output,hb.size,fun k hk _=>hb.block k hk⟩ (by cases v.ownBlock <;>simp)
theorem cA {w:World}{base:Nat}{e:TypeId}{size:Nat}{v:Value}{n:Nat}{xs:List Value}(h:w.ownsRow base e size v n xs)(hn:0<n):∃g cap,v=.slice (some ⟨g,0,none⟩) n cap:=by
 rcases h.2 with⟨_,h0⟩ | ⟨g,cap,cur,hv,_⟩
 · omega
 · exact⟨g,cap,hv⟩
theorem aM {w:World}{base:Nat}{e:TypeId}{size:Nat}{v:Value}{n:Nat}{xs:List Value}(h:w.ownsRow base e size v n xs):∀k,v.ownBlock=some k->base<=k:=by
 intro k hk;rcases h.2 with⟨rfl,_⟩ | ⟨g,cap,cur,rfl,hb,_⟩
 · simp[Value.ownBlock]at hk
 · simp[Value.ownBlock]at hk;omega
theorem ca:(Tryz.prog.info? 35).map (fun i=>(i.zero,i.size,i.bytes))=some (some (.int .u64 0),1,8):=by kernel_rfl
theorem bf (w:World)(B:Nat)(h:w.heap.size=B)(x:Value)(e:TypeId):∀j u,([x]:List Value)[j]?=some u->(w.alloc (.cells #[x] e)).cell? ((⟨B,0,none⟩:Addr).add j)=some u:=by
 subst h;intro j u hj
 match j,hj with
 | 0,hj=>simp at hj;subst hj;simp[Addr.add]
theorem bK (k:IntKind)(x:Int):∀u∈([.int k x]:List Value),u.oneCell'=true:=by
 intro u hu;simp at hu;subst hu;rfl
def aj (L:List Int):List Value:=L.map (Value.int .u64)
theorem aD (L:List Int):(aj L).length=L.length:=by simp[aj]
theorem dG (L:List Int)(j:Nat)(h:j<L.length):(aj L)[j]?=some (.int .u64 L[j]):=by simp[aj,h]
theorem aA {w:World}{base:Nat}{e:TypeId}{size:Nat}{v:Value}{n:Nat}{xs:List Value}(h:w.ownsRow base e size v n xs):∃p c,v=.slice p n c/\(p=none/\n=0∨∃g,p=some ⟨g,0,none⟩):=by
 rcases h.2 with⟨rfl,rfl⟩ | ⟨g,c,cur,rfl,_⟩
 · exact⟨none,0,rfl,.inl ⟨rfl,rfl⟩⟩
 · exact⟨_,c,rfl,.inr ⟨g,rfl⟩⟩
theorem ab {p:Prop}(h:p):Hid p:=h
theorem il {p:Option Addr}{m:Nat}(h:p=none/\m=0∨∃g,p=some ⟨g,0,none⟩)(hm:0<m):∃g,p=some ⟨g,0,none⟩:=by
 rcases h with⟨_,h⟩ | h
 · omega
 · exact h
theorem lA {cur:List Value}{L:List Int}{m lo:Nat}(hL:L.length=m)(hlo:lo<=m)(htake:cur.take (m+1)=aj L++[.int .u64 0])(x:Int) :
 ((splice cur (lo+1) ((aj L).drop lo)).take (m+1)).set lo (.int .u64 x)=aj (L.take lo++(x :: L.drop lo)):=by
 have h1:cur.take (lo+1)=(aj L).take lo++[(aj L++[Value.int .u64 0])[lo]'(by simp[aD];omega)]:=by
  rw[show cur.take (lo+1)=(aj L++[Value.int .u64 0]).take (lo+1)by rw[←htake,List.take_take,Nat.min_eq_left (by omega)]];rw[List.take_succ_eq_append_getElem (by simp[aD];omega),List.take_append_of_le_length (by rw[aD];omega)]
 unfold splice;rw[h1,←List.append_assoc];generalize (aj L++[Value.int .u64 0])[lo]'_=z;have hl1:((aj L).take lo).length=lo:=by rw[List.length_take,aD];omega
 rw[List.take_left' (by simp[aD];omega),List.append_assoc,List.set_append_right _ _ (by omega),hl1,Nat.sub_self];simp[aj,List.map_take,List.map_drop]
theorem jU (L:List Int):∀v∈aj L,v.oneCell'=true:=by
 intro v hv;obtain⟨y,_,rfl⟩:=List.mem_map.1 hv;rfl
theorem bo {w:World}{base base':Nat}{e:TypeId}{size:Nat}{v:Value}{n:Nat}{xs:List Value}(h:w.ownsRow base e size v n xs)(hb:base'<=base):w.ownsRow base' e size v n xs :=
 ⟨h.1,h.2.imp id fun⟨g,c,cur,e1,e2,r⟩=>⟨g,c,cur,e1,Nat.le_trans hb e2,r⟩⟩
theorem CT {w:World}{base g c m:Nat}{e:TypeId}{xs:List Value}(h:w.ownsRow base e 1 (.slice (some ⟨g,0,none⟩) m c) m xs):∀j u,xs[j]?=some u->w.cell? ((⟨g,0,none⟩:Addr).add j)=some u:=by
 intro j u hj;have hl:j<m:=by rw[List.getElem?_eq_some_iff]at hj;have:=hj.1;rw[h.1]at this;omega
 rw[show(⟨g,0,none⟩:Addr).add j=⟨g,j,none⟩by simp[Addr.add] <;>(intro h;omega),h.cellAt j (by omega),hj]
theorem uY {w:World}{base:Nat}:w.ownsRow base 35 1 (.slice none 0 0) 0 (aj []):=World.ownsRow_nil _ _ _ _
theorem Ih {w:World}{base:Nat}{e:TypeId}{size:Nat}{v:Value}{n:Nat}{xs:List Value}(h:w.ownsRow base e size v n xs):∀k,v.ownBlock=some k->base<=k/\k<w.heap.size:=h.lt
theorem bn {w:World}{base g c m:Nat}{L:List Int}(h:w.ownsRow base 35 1 (.slice (some ⟨g,0,none⟩) m c) m (aj L)):L.length=m/\(∀(j:Nat) (hj:j<L.length),w.cell? ⟨g,j,none⟩=some (.int .u64 L[j]))/\base<=g/\g<w.heap.size:=by
 have hl:L.length=m:=by have:=h.1;rw[aD]at this;omega
 have hb:=h.lt g rfl;refine⟨hl,fun j hj=>?_,hb.1,hb.2⟩;rw[h.cellAt j (by omega),dG L j hj]
theorem iB {w:World}{base g c m:Nat}{L:List Int}(h:w.ownsRow base 35 1 (.slice (some ⟨g,0,none⟩) m c) m (aj L)):Sort.Holds (Value.int .u64) w g 0 L.toArray:=fun j hj=>by
 have hj':j<L.length:=by simpa using hj
 have hc:=bn h;rw[Nat.zero_add,hc.2.1 j hj',h.frozenAt j];simp[hj']
def Lst (w:World)(s:Value)(L:List Int):Prop :=
 ∃p cap,s=.slice p L.length cap/\L.length<=cap/\∀(j:Nat) (hj:j<L.length),∃g o,p=some ⟨g,o,none⟩/\w.cell? ⟨g,o+j,none⟩=some (.int .u64 L[j])
theorem Lst.keep {w w':World}{s:Value}{L:List Int}(h:Lst w s L)(hb:Below w.heap.size w w'):Lst w' s L:=by
 obtain⟨p,cap,h1,h2,h3⟩:=h;refine⟨p,cap,h1,h2,fun j hj=>?_⟩;obtain⟨g,o,e,hc⟩:=h3 j hj;exact⟨g,o,e,aa hb hc⟩
theorem Lst.row {w:World}{g o cap:Nat}{L:List Int}(hc:L.length<=cap)(h:∀(j:Nat) (hj:j<L.length),w.cell? ⟨g,o+j,none⟩=some (.int .u64 L[j])):Lst w (.slice (some ⟨g,o,none⟩) L.length cap) L :=
 ⟨_,cap,rfl,hc,fun j hj=>⟨g,o,rfl,h j hj⟩⟩
theorem Lst.none' (w:World)(p:Option Addr)(cap:Nat):Lst w (.slice p 0 cap) []:=⟨p,cap,rfl,Nat.zero_le _,fun _ hj=>absurd hj (Nat.not_lt_zero _)⟩
theorem Lst.own {w:World}{base n:Nat}{v:Value}{L:List Int}(h:w.ownsRow base 35 1 v n (aj L)):Lst w v L:=by
 have hl:L.length=n:=by have:=h.1;rw[aD]at this;omega
 subst hl;rcases h.2 with⟨rfl,h0⟩ | ⟨g,c,cur,rfl,_⟩
 · have:L=[]:=List.length_eq_zero_iff.1 h0;subst this;exact Lst.none' w none 0
 · have hc:=bn h;refine Lst.row ?_ fun j hj=>by rw[Nat.zero_add];exact hc.2.1 j hj
   rcases h.2 with⟨h1,_⟩ | ⟨g2,c2,cur2,h1,_,_,h4,_⟩
   · cases h1
   · simp only[Value.slice.injEq,Option.some.injEq,Addr.mk.injEq,and_true,true_and]at h1;rw[h1.2];exact h4
end Go.Proofs.YtbnlhdnnenahfaaGreatDoor
