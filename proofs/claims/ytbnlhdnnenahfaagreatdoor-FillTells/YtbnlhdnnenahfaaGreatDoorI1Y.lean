/-
  What package ident's part, digitAt, size, with, raised, blank tell, for any words and parts within the bounds written, in whatever memory.
-/
import Derived.Test.YtbnlhdnnenahfaaGreatDoorC1Y
set_option maxHeartbeats 1000000
namespace Go.Proofs.YtbnlhdnnenahfaaGreatDoor
section
open Go
def U64 (w:Int):Prop:=0<=w/\w<18446744073709551616
theorem rA (w d k:Nat)(hw:w<2^64)(hd:d<8)(hk:k+3<=64):(w &&& (2^64-1-7*2^k)) ||| (d*2^k)=2^(k+3)*(w / 2^(k+3))+(2^k*d+w%2^k):=by
 have hp:(2:Nat)^(k+3)=2^k*8:=by rw[Nat.pow_add]
 have h7:7*2^k<2^64:=by
  have h1:(2:Nat)^(k+3)<=2^64:=Nat.pow_le_pow_right (by omega) hk;have h2:0<(2:Nat)^k:=Nat.pow_pos (by omega);omega
 have hr:2^k*d+w%2^k<2^(k+3):=by
  have h1:w%2^k<2^k:=Nat.mod_lt _ (Nat.pow_pos (by omega));have h2:2^k*d<=2^k*7:=Nat.mul_le_mul_left _ (by omega);omega
 apply Nat.eq_of_testBit_eq;intro i;rw[Nat.testBit_or,Nat.testBit_and,show 2^64-1-7*2^k=2^64-(7*2^k+1)by omega,Nat.testBit_two_pow_sub_succ h7,Nat.testBit_two_pow_mul_add _ hr,
  Nat.testBit_mul_two_pow,Nat.testBit_mul_two_pow,Nat.testBit_div_two_pow]
 by_cases h1:i<k
 · have e1:decide (k<=i)=false:=by simp;omega
   have e2:i<k+3:=by omega
   have e3:decide (i<64)=true:=by simp;omega
   rw[if_pos e2,e1,e3,Nat.testBit_two_pow_mul_add _ (Nat.mod_lt _ (Nat.pow_pos (by omega))),if_pos h1,Nat.testBit_mod_two_pow];simp[h1]
 · have e1:decide (k<=i)=true:=by simp;omega
   rw[e1];by_cases h2:i<k+3
   · have e3:decide (i<64)=true:=by simp;omega
     rw[if_pos h2,e3,Nat.testBit_two_pow_mul_add _ (Nat.mod_lt _ (Nat.pow_pos (by omega))),if_neg h1];have:i-k=0∨i-k=1∨i-k=2:=by omega
     rcases this with e | e | e <;>rw[e] <;>simp[show Nat.testBit 7 0=true from rfl,show Nat.testBit 7 1=true from rfl,show Nat.testBit 7 2=true from rfl]
   · rw[if_neg h2,show i-(k+3)+(k+3)=i by omega];have e5:Nat.testBit 7 (i-k)=false:=by
      exact Nat.testBit_lt_two_pow (Nat.lt_of_lt_of_le (show 7<2^3 by decide) (Nat.pow_le_pow_right (by omega) (by omega)))
     have e6:Nat.testBit d (i-k)=false:=by
      exact Nat.testBit_lt_two_pow (Nat.lt_of_lt_of_le (show d<2^3 by omega) (Nat.pow_le_pow_right (by omega) (by omega)))
     rw[e5,e6];by_cases h64:i<64
     · simp[h64]
     · have:Nat.testBit w i=false:=by
        exact Nat.testBit_lt_two_pow (Nat.lt_of_lt_of_le hw (Nat.pow_le_pow_right (by omega) (by omega)))
       simp[this]
theorem iC (k:Nat):(2:Nat)^(k+3)=2^k*8:=by rw[Nat.pow_add]
theorem uQ (w d k:Nat):2^(k+3)*(w / 2^(k+3))+(2^k*d+w%2^k)+w / 2^k%8*2^k=w+d*2^k:=by
 have h1:=Nat.div_add_mod w (2^k);have h2:=Nat.div_add_mod (w / 2^k) 8;rw[Nat.div_div_eq_div_mul,←iC]at h2;have e:2^(k+3)*(w / 2^(k+3))=2^k*(8*(w / 2^(k+3))):=by rw[iC,Nat.mul_assoc]
 have e2:2^k*(w / 2^k)=2^k*(8*(w / 2^(k+3)))+2^k*(w / 2^k%8):=by rw[←Nat.mul_add,h2]
 rw[e,Nat.mul_comm (w / 2^k%8),Nat.mul_comm d];omega
theorem Fm (p k:Nat)(hp:p<2^64)(hk:k+3<=64)(h:p / 2^k%8=7):p ||| 7*2^k=p:=by
 have h1:=rA p 7 k hp (by omega) hk;have h2:=uQ p 7 k;rw[h]at h2;have e:(p &&& (2^64-1-7*2^k)) ||| (7*2^k)=p:=by omega
 rw[←e,Nat.or_assoc,Nat.or_self]
theorem oE (k:Nat):((2^k:Nat):Int)=(2:Int)^k:=by simp
theorem DY {w d p s x t:Int}{k:Nat}(hw:U64 w)(d0:0<=d)(d7:d<=7)(hk:k+3<=63)(hp:(2:Int)^k=p)(hs:7*p=s)(hx:bits .andNot .u64 w s=x)(ht:d*p=t) :
 bits .or .u64 x t=w-w / p%8*p+d*p:=by
 obtain⟨w0,w1⟩:=hw;obtain⟨n,rfl⟩:=Int.eq_ofNat_of_zero_le w0;obtain⟨c,rfl⟩:=Int.eq_ofNat_of_zero_le d0;have hle:(2:Nat)^(k+3)<=2^63:=Nat.pow_le_pow_right (by omega) hk;have hps:=iC k;rw[←oE]at hp;subst hp;have h64:(2:Nat)^64=18446744073709551616:=rfl;have hc:c*2^k<=7*2^k:=Nat.mul_le_mul_right _ (by omega);have es:s=((7*2^k:Nat):Int):=by rw[←hs];simp
 have et:t=((c*2^k:Nat):Int):=by rw[←ht];simp
 subst es et;rw[u64_andNot_nat n _ (by omega) (by omega)]at hx;subst hx;have hn:n &&& (18446744073709551615-7*2^k)<=n:=Nat.and_le_left;rw[u64_or_nat _ _ (by omega) (by omega)];have h1:=rA n c k (by omega) (by omega) (by omega);rw[show 2^64-1-7*2^k=18446744073709551615-7*2^k by omega]at h1;rw[h1];have h2:=uQ n c k;have e1:((n:Int) / ((2^k:Nat):Int)%8*((2^k:Nat):Int))=((n / 2^k%8*2^k:Nat):Int):=by simp
 have e2:((c:Int)*((2^k:Nat):Int))=((c*2^k:Nat):Int):=by simp
 rw[e1,e2];omega
theorem JX {p q s:Int}{k:Nat}(hw:U64 p)(hk:k+3<=63)(hp:(2:Int)^k=q)(hs:7*q=s)(h:p / q%8=7):bits .or .u64 p s=p:=by
 obtain⟨w0,w1⟩:=hw;obtain⟨n,rfl⟩:=Int.eq_ofNat_of_zero_le w0;have hle:(2:Nat)^(k+3)<=2^63:=Nat.pow_le_pow_right (by omega) hk;have hps:=iC k;rw[←oE]at hp;subst hp;have h64:(2:Nat)^64=18446744073709551616:=rfl;have es:s=((7*2^k:Nat):Int):=by rw[←hs];simp
 subst es;rw[u64_or_nat _ _ (by omega) (by omega),Fm n k (by omega) (by omega)];have e1:((n:Int) / ((2^k:Nat):Int)%8)=((n / 2^k%8:Nat):Int):=by simp
 rw[e1]at h;omega
theorem fd {x y p:Int}{i:Nat}(hx:U64 x)(hp:(2:Int)^i=p)(h0:x%p=0)(y0:0<=y)(y1:y<p)(y2:y<18446744073709551616):bits .or .u64 x y=x+y:=by
 obtain⟨x0,x1⟩:=hx;obtain⟨n,rfl⟩:=Int.eq_ofNat_of_zero_le x0;obtain⟨m,rfl⟩:=Int.eq_ofNat_of_zero_le y0;rw[←oE]at hp;subst hp;rw[u64_or_nat n m (by omega) (by omega),nat_join i n m (by omega) (by omega)];simp
theorem GN {x y:Int}(hx:U64 x)(hy:U64 y):bits .or .u64 x y=bits .or .u64 y x:=by
 obtain⟨x0,x1⟩:=hx;obtain⟨y0,y1⟩:=hy;rw[u64_or x y x0 x1 y0 y1,u64_or y x y0 y1 x0 x1,Nat.or_comm]
theorem oW {x y z:Int}(hx:U64 x)(hy:U64 y)(hz:U64 z):bits .or .u64 (bits .or .u64 x y) z=bits .or .u64 x (bits .or .u64 y z):=by
 obtain⟨x0,x1⟩:=hx;obtain⟨y0,y1⟩:=hy;obtain⟨z0,z1⟩:=hz;obtain⟨a,rfl⟩:=Int.eq_ofNat_of_zero_le x0;obtain⟨b,rfl⟩:=Int.eq_ofNat_of_zero_le y0;obtain⟨c,rfl⟩:=Int.eq_ofNat_of_zero_le z0;have h1:a ||| b<2^64:=Nat.or_lt_two_pow (by omega) (by omega);have h2:b ||| c<2^64:=Nat.or_lt_two_pow (by omega) (by omega);rw[u64_or_nat a b (by omega) (by omega),u64_or_nat b c (by omega) (by omega),u64_or_nat _ c (by omega) (by omega),u64_or_nat a _ (by omega) (by omega),Nat.or_assoc]
theorem JF {x y:Int}(hx:U64 x)(hy:U64 y):U64 (bits .or .u64 x y):=by
 obtain⟨x0,x1⟩:=hx;obtain⟨y0,y1⟩:=hy;obtain⟨a,rfl⟩:=Int.eq_ofNat_of_zero_le x0;obtain⟨b,rfl⟩:=Int.eq_ofNat_of_zero_le y0;have h1:a ||| b<2^64:=Nat.or_lt_two_pow (by omega) (by omega);rw[u64_or_nat a b (by omega) (by omega)];exact⟨by omega,by omega⟩
theorem i8 {x y:Int}(hx:U64 x)(hy:U64 y):U64 (bits .xor .u64 x y):=by
 obtain⟨x0,x1⟩:=hx;obtain⟨y0,y1⟩:=hy;obtain⟨a,rfl⟩:=Int.eq_ofNat_of_zero_le x0;obtain⟨b,rfl⟩:=Int.eq_ofNat_of_zero_le y0;have h1:a ^^^ b<2^64:=Nat.xor_lt_two_pow (by omega) (by omega);rw[u64_xor_nat a b (by omega) (by omega)];exact⟨by omega,by omega⟩
theorem mG (x:Int)(j:Nat)(hj:j<64)(hx:U64 x):bits .and .u64 x ((2^j-1:Nat):Int)=x%((2^j:Nat):Int):=by
 have hle:(2:Nat)^j<=2^63:=Nat.pow_le_pow_right (by omega) (by omega);obtain⟨h0,h1⟩:=hx;rw[u64_and x _ h0 h1 (by omega) (by omega)];obtain⟨n,rfl⟩:=Int.eq_ofNat_of_zero_le h0;simp only[Int.toNat_natCast];rw[Nat.and_two_pow_sub_one_eq_mod];simp
theorem AC (x:Int)(hx:U64 x):bits .and .u64 x 7=x%8:=by have:=mG x 3 (by omega) hx;simpa using this
theorem jm (x:Int)(hx:U64 x):bits .and .u64 x 15=x%16:=by have:=mG x 4 (by omega) hx;simpa using this
theorem lH (x:Int)(hx:U64 x):bits .and .u64 x 1023=x%1024:=by have:=mG x 10 (by omega) hx;simpa using this
theorem cO {w p:Int}(h:U64 w)(hp:0<p):U64 (w / p):=by
 obtain⟨h0,h1⟩:=h;refine⟨Int.ediv_nonneg h0 (by omega),?_⟩;have:=Int.ediv_le_self p h0;omega
end
section
open Go.RowKit
theorem vG (w k p x y:Int)(hk:¬k<0)(hp:(2:Int)^min k.toNat 64=p)(hx:w / p=x)(hy:bits .and .u64 x 1023=y)(y0:0<=y)(y1:y<=1023)(W:World) :
 Calls Tryz.prog 126 #[.int .u64 w,.int .i64 k,.int .i64 10] W fun e w'=>e=.returned (.int .i64 y)/\Below W.heap.size W w':=by
 go_enter Tryz.func126,Tryz.ntmps126
 go_wp2
 go_quiet (fail)
 go_wp2;go_ret;exact⟨rfl,aB (by go_grown) _⟩
theorem Ja (w k p x y:Int)(hk:¬k<0)(hp:(2:Int)^min k.toNat 64=p)(hx:w / p=x)(hy:bits .and .u64 x 7=y)(y0:0<=y)(y1:y<=7)(W:World) :
 Calls Tryz.prog 126 #[.int .u64 w,.int .i64 k,.int .i64 3] W fun e w'=>e=.returned (.int .i64 y)/\Below W.heap.size W w':=by
 go_enter Tryz.func126,Tryz.ntmps126
 go_wp2
 go_quiet (fail)
 go_wp2;go_ret;exact⟨rfl,aB (by go_grown) _⟩
theorem AI (w k p x y:Int)(hk:¬k<0)(hp:(2:Int)^min k.toNat 64=p)(hx:w / p=x)(hy:bits .and .u64 x 15=y)(y0:0<=y)(y1:y<=15)(W:World) :
 Calls Tryz.prog 126 #[.int .u64 w,.int .i64 k,.int .i64 4] W fun e w'=>e=.returned (.int .i64 y)/\Below W.heap.size W w':=by
 go_enter Tryz.func126,Tryz.ntmps126
 go_wp2
 go_quiet (fail)
 go_wp2;go_ret;exact⟨rfl,aB (by go_grown) _⟩
end
section
open Go.RowKit
theorem sO (r D:Int)(h0:0<=r)(h1:r<=12)(hD:3*(12-r)=D)(W:World) :
 Calls Tryz.prog 127 #[.int .i64 r] W fun e w'=>e=.returned (.int .i64 D)/\w'=W:=by
 go_enter Tryz.func127,Tryz.ntmps127
 go_wp2;go_ret;exact⟨by subst hD;rfl,rfl⟩
end
section
open Go.RowKit
theorem D6 (w:Int)(hw:U64 w)(r:Nat)(_r1:1<=r)(r2:r<=12)(W:World) :
 Calls Tryz.prog 126 #[.int .u64 w,.int .i64 (3*(12-(r:Int))),.int .i64 3] W fun e w'=>e=.returned (.int .i64 (dg w r))/\Below W.heap.size W w':=by
 have e:(3*(12-(r:Int))).toNat=3*(12-r):=by omega
 have hp:(2:Int)^min (3*(12-(r:Int))).toNat 64=8^(12-r):=by
  rw[e,show min (3*(12-r)) 64=3*(12-r)by omega,Int.pow_mul];rfl
 have hpos:(0:Int)<8^(12-r):=Int.pow_pos (by omega);have hb:=dV w r;exact Ja w _ _ _ (dg w r) (by omega) hp rfl (AC _ (cO hw hpos)) hb.1 hb.2 W
theorem jX (w:Int)(hw:U64 w)(W:World) :
 Calls Tryz.prog 126 #[.int .u64 w,.int .i64 60,.int .i64 4] W fun e w'=>e=.returned (.int .i64 (w / 1152921504606846976))/\Below W.heap.size W w':=by
 obtain⟨w0,w1⟩:=hw;exact AI w 60 1152921504606846976 _ _ (by omega) rfl rfl (by rw[jm _ (cO ⟨w0,w1⟩ (by omega))];omega) (by omega) (by omega) W
theorem yb (w:Int)(hw:U64 w)(W:World) :
 Calls Tryz.prog 126 #[.int .u64 w,.int .i64 56,.int .i64 4] W fun e w'=>e=.returned (.int .i64 (wR w))/\Below W.heap.size W w' :=
 AI w 56 72057594037927936 _ (wR w) (by omega) rfl rfl (jm _ (cO hw (by omega))) (aE w).1 (aE w).2 W
end
section
open Go.RowKit
theorem lM (v:Int)(hw:U64 v)(w:World) :
 Calls Tryz.prog 160 #[.int .u64 v] w fun e w'=>e=.returned (.int .i64 (wR v))/\Below w.heap.size w w':=by
 have PS:=yb v hw;have hb:=aE v;generalize wR v=R at *;replace PS:Hid _:=PS
 go_enter Tryz.func160,Tryz.ntmps160
 go_wp2_with fail;refine(PS.out _).mono ?_;rintro e w1 ⟨rfl,d1⟩;have c1:Below w.heap.size w w1:=Below.trans (by go_grown) (d1.mono (by simp;try omega));have hB:=c1;clear c1 d1;go_wp2;go_ret;exact⟨rfl,hB⟩
end
section
open Go.RowKit
theorem JM (v:Int)(hw:U64 v)(w:World) :
 Calls Tryz.prog 81 #[.int .u64 v] w fun e w'=>e=.returned (.agg #[.int .i64 0,.int .i64 (wA v),.int .i64 (wB v)])/\Below w.heap.size w w':=by
 have hb:=lJ v;have PA:Hid (∀W,Calls Tryz.prog 126 #[.int .u64 v,.int .i64 46,.int .i64 10] W fun e w'=>e=.returned (.int .i64 (wA v+512))/\Below W.heap.size W w'):=fun W =>
  vG v 46 70368744177664 _ (wA v+512) (by omega) rfl rfl (by rw[lH _ (cO hw (by omega))];unfold wA;omega) (by have:=hb.1;unfold aG at this;omega) (by have:=hb.1;unfold aG at this;omega) W
 have PB:Hid (∀W,Calls Tryz.prog 126 #[.int .u64 v,.int .i64 36,.int .i64 10] W fun e w'=>e=.returned (.int .i64 (wB v+512))/\Below W.heap.size W w'):=fun W =>
  vG v 36 68719476736 _ (wB v+512) (by omega) rfl rfl (by rw[lH _ (cO hw (by omega))];unfold wB;omega) (by have:=hb.2;unfold aG at this;omega) (by have:=hb.2;unfold aG at this;omega) W
 generalize wA v=A at *;generalize wB v=B at *;obtain⟨⟨a1,a2⟩,b1,b2⟩:=hb;have eA:A+512-512=A:=by omega
 have eB:B+512-512=B:=by omega
 have hA:Hid (-512<=A+512-512/\A+512-512<=511):=⟨by omega,by omega⟩
 go_enter Tryz.func81,Tryz.ntmps81
 go_wp2_with fail;refine(PA.out _).mono ?_;rintro e w1 ⟨rfl,d1⟩;have c1:Below w.heap.size w w1:=Below.trans (by go_grown) (d1.mono (by simp;try omega));have r0:w1.cell? ⟨w.heap.size,0,none⟩=some (.int .i64 0):=aa d1 (by go_simp);have fr0:w1.frozen? ⟨w.heap.size,0,none⟩=false:=ac (v:=.int .i64 0) d1 (by go_simp) (by go_simp);have qr0:=World.block_lt_of_cell? _ _ r0;have r1:w1.cell? ⟨w.heap.size,1,none⟩=some (.int .i64 0):=aa d1 (by go_simp);have fr1:w1.frozen? ⟨w.heap.size,1,none⟩=false:=ac (v:=.int .i64 0) d1 (by go_simp) (by go_simp);have r2:w1.cell? ⟨w.heap.size,2,none⟩=some (.int .i64 0):=aa d1 (by go_simp);have fr2:w1.frozen? ⟨w.heap.size,2,none⟩=false:=ac (v:=.int .i64 0) d1 (by go_simp) (by go_simp);have hB:=c1;clear c1 d1;go_wp2_with fail;refine(PB.out _).mono ?_;rintro e w2 ⟨rfl,d2⟩;have c2:Below w1.heap.size w1 w2:=Below.trans (by go_grown) (d2.mono (by simp;try omega));replace fr0:=ac c2 r0 fr0;replace r0:=aa c2 r0;replace qr0:=World.block_lt_of_cell? _ _ r0;replace fr1:=ac c2 r1 fr1;replace r1:=aa c2 r1;replace fr2:=ac c2 r2 fr2;replace r2:=aa c2 r2;replace hB:=ae hB c2;clear c2 d2;obtain⟨g0,g1,g2⟩:=aJ (u0:=.int .i64 0) (u1:=.int .i64 A) (u2:=.int .i64 B) r0 r1 r2;go_wp2;exact bodyPost_ret (v:=.agg #[.int .i64 0,.int .i64 A,.int .i64 B]) (by simp[results,Tryz.results81,go_sem,g0,g1,g2]) rfl ⟨rfl,((hB.setCell (by simp) _).setCell (by simp) _).setCell (by simp) _⟩
end
section
open Go.RowKit
theorem yc (w r d D p s x t y:Int)(d0:0<=d)(d7:d<=7)(hk:¬D<0)(hp:(2:Int)^min D.toNat 64=p)
 (DA:∀W,Calls Tryz.prog 127 #[.int .i64 r] W fun e w'=>e=.returned (.int .i64 D)/\w'=W)
 (hs:IntKind.u64.wrap (7*p)=s) (hx:bits .andNot .u64 w s=x) (ht:IntKind.u64.wrap (d*p)=t) (hy:bits .or .u64 x t=y) (W:World) :
 Calls Tryz.prog 102 #[.int .u64 w,.int .i64 r,.int .i64 d] W fun e w'=>e=.returned (.int .u64 y)/\Below W.heap.size W w':=by
 replace DA:Hid _:=DA
 go_enter Tryz.func102,Tryz.ntmps102
 go_wp2
 go_quiet ((go_at_call 127;exact Calls.quiet_of_same (DA.out _)))
 go_wp2;go_ret;exact⟨rfl,aB (by go_grown) _⟩
end
section
open Go.RowKit
theorem aC {v:Int}(hv:Whole v):1152921504606846976<=v/\v<2305843009213693952:=by
 have:=hv.1;omega
theorem di {n:Int}(h:U64 n):IntKind.u64.wrap n=n:=by
 obtain⟨h0,h1⟩:=h;simp[IntKind.wrap,IntKind.bits,IntKind.signed];omega
theorem jJ {r:Nat}(r1:1<=r)(r2:r<=12):(0:Int)<8^(12-r)/\(8:Int)^(12-r)<=8589934592:=by
 rcases oo r1 r2 with rfl | rfl | rfl | rfl | rfl | rfl | rfl | rfl | rfl | rfl | rfl | rfl <;>decide
theorem sn {v d:Int}{r:Nat}(hv:U64 v)(d0:0<=d)(d7:d<=7)(r1:1<=r)(r2:r<=12):U64 (fo v r d):=by
 have hp:=jJ r1 r2;obtain⟨h0,h1⟩:=hv;unfold U64 fo dg;rcases oo r1 r2 with rfl | rfl | rfl | rfl | rfl | rfl | rfl | rfl | rfl | rfl | rfl | rfl <;>simp <;>omega
end
section
open Go.RowKit
theorem qh {v d:Int}{r:Nat}(hv:U64 v)(d0:0<=d)(d7:d<=7)(r1:1<=r)(r2:r<=12) :
 bits .or .u64 (bits .andNot .u64 v (IntKind.u64.wrap (7*8^(12-r)))) (IntKind.u64.wrap (d*8^(12-r)))=fo v r d:=by
 have hp:=jJ r1 r2;have hm:=aV (a:=d) (b:=8^(12-r)) (A:=7) (B:=8589934592) (by omega) (by omega);have h0:0<=d*8^(12-r):=Int.mul_nonneg d0 (by omega);rw[di ⟨by omega,by omega⟩,di ⟨h0,by omega⟩];exact DY (k:=3*(12-r)) hv d0 d7 (by omega) (by rw[Int.pow_mul];rfl) rfl rfl rfl
theorem En (v d:Int)(hv:U64 v)(d0:0<=d)(d7:d<=7)(r:Nat)(r1:1<=r)(r2:r<=12)(W:World) :
 Calls Tryz.prog 102 #[.int .u64 v,.int .i64 (r:Int),.int .i64 d] W fun e w'=>e=.returned (.int .u64 (fo v r d))/\Below W.heap.size W w':=by
 have hp:(2:Int)^min (3*(12-(r:Int))).toNat 64=8^(12-r):=by
  rw[show(3*(12-(r:Int))).toNat=3*(12-r)by omega,show min (3*(12-r)) 64=3*(12-r)by omega,Int.pow_mul];rfl
 exact yc v r d (3*(12-(r:Int))) _ _ _ _ _ d0 d7 (by omega) hp (sO r _ (by omega) (by omega) rfl) rfl rfl rfl (qh hv d0 d7 r1 r2) W
end
section
open Go.RowKit
theorem sU (v R y u:Int)(hy:y-72057594037927936=u)(y0:72057594037927936<=y)(y1:y<18446744073709551616)
 (SZ:∀w,Calls Tryz.prog 160 #[.int .u64 v] w fun e w'=>e=.returned (.int .i64 R)/\Below w.heap.size w w')
 (WI:∀w,Calls Tryz.prog 102 #[.int .u64 v,.int .i64 R,.int .i64 7] w fun e w'=>e=.returned (.int .u64 y)/\Below w.heap.size w w') (w:World) :
 Calls Tryz.prog 201 #[.int .u64 v] w fun e w'=>e=.returned (.int .u64 u)/\Below w.heap.size w w':=by
 replace SZ:Hid _:=SZ;replace WI:Hid _:=WI;have hu:IntKind.u64.wrap (y-72057594037927936)=u:=by rw[di ⟨by omega,by omega⟩,hy]
 go_enter Tryz.func201,Tryz.ntmps201
 go_wp2_with fail;refine(SZ.out _).mono ?_;rintro e w1 ⟨rfl,d1⟩;have c1:Below w.heap.size w w1:=Below.trans (by go_grown) (d1.mono (by simp;try omega));have hB:=c1;clear c1 d1;go_wp2_with fail;refine(WI.out _).mono ?_;rintro e w2 ⟨rfl,d2⟩;have c2:Below w1.heap.size w1 w2:=Below.trans (by go_grown) (d2.mono (by simp;try omega));replace hB:=ae hB c2;clear c2 d2;go_wp2;go_ret;exact⟨by first | rfl | rw[hu],hB⟩
theorem IU {v:Int}(hv:Whole v)(hr:0<wR v):72057594037927936<=fo v (wR v).toNat 7/\U64 (fo v (wR v).toNat 7):=by
 have h1:=aC hv;have h12:=hv.2.1;have hu:U64 v:=⟨by omega,by omega⟩
 have hp:=jJ (r:=(wR v).toNat) (by omega) (by omega);have hd:=dV v (wR v).toNat;refine⟨?_,sn hu (by omega) (by omega) (by omega) (by omega)⟩;unfold fo;have hm:=aV (a:=dg v (wR v).toNat) (b:=8^(12-(wR v).toNat)) (A:=7) (B:=8589934592) (by omega) (by omega);omega
theorem GX (v:Int)(hv:Whole v)(hr:0<wR v)(w:World) :
 Calls Tryz.prog 201 #[.int .u64 v] w fun e w'=>e=.returned (.int .u64 (upW v))/\Below w.heap.size w w':=by
 have h1:=aC hv;have h12:=hv.2.1;have hu:U64 v:=⟨by omega,by omega⟩
 have hb:=IU hv hr;have WI:=fun W=>En v 7 hu (by omega) (by omega) (wR v).toNat (by omega) (by omega) W;rw[show(((wR v).toNat:Nat):Int)=wR v by omega]at WI;exact sU v (wR v) _ (upW v) rfl hb.1 hb.2.2 (lM v hu) WI w
end
section
open Go.RowKit
theorem tX (r A B x1 y1 x2 y2 x3 y3 z:Int)(r0:0<=r)(r1:r<=12)(a0: -512<=A)(a1:A<=511)(b0: -512<=B)(b1:B<=511)
 (h1:IntKind.u64.wrap (r*72057594037927936)=x1) (k1:bits .or .u64 1152921504606846976 x1=y1)
 (h2:IntKind.u64.wrap ((A+512)*70368744177664)=x2) (k2:bits .or .u64 y1 x2=y2)
 (h3:IntKind.u64.wrap ((B+512)*68719476736)=x3) (k3:bits .or .u64 y2 x3=y3) (k4:bits .or .u64 y3 68719476735=z) (w:World) :
 Calls Tryz.prog 100 #[.int .i64 r,.agg #[.int .i64 A,.int .i64 B]] w fun e w'=>e=.returned (.int .u64 z)/\Below w.heap.size w w':=by
 go_enter Tryz.func100,Tryz.ntmps100
 go_wp2;go_ret;exact⟨by first | rfl | skip,by go_grown⟩
end
end Go.Proofs.YtbnlhdnnenahfaaGreatDoor
