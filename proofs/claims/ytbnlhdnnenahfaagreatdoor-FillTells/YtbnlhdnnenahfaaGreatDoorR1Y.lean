/-
  What the texts EBeta, EUnit, Wide, Times, RefE, RefMul, RefFloor, RefSize, RefRound, ENear, PNear, RefBeta, PowNum, RefPow, RefNear, PPoint say, so far as this seat's proofs need it.
-/
import Derived.Test.YtbnlhdnnenahfaaGreatDoorMY
import Derived.Test.YtbnlhdnnenahfaaGreatDoorE1Y
import Derived.Lib.LaidU8
import Derived.Lib.ItoaNum
set_option maxHeartbeats 4000000
namespace Go.Proofs.YtbnlhdnnenahfaaGreatDoor
open Go.RowKit
theorem kg (K:Nat)(hK:K<=20)(w:World) :
 Calls Tryz.prog 172 #[.int .i64 (K:Int)] w fun e w'=>e=.returned (.tuple #[.agg #[.int .i64 (bet K).1,.int .i64 (bet K).2],.bool true])/\Below w.heap.size w w':=by
 go_enter Tryz.func172,Tryz.ntmps172
 go_wp2_with fail;go_loopw [5,15] (fun vo vi wr=>∃q:Nat,q<=K/\vo=.bool true/\vi=.int .i64 (q:Int)/\Hid (iv w q wr)) (fun _ vi _=>K-(intOf vi).toNat)
 case atStart =>
  refine⟨0,Nat.zero_le _,rfl,rfl,?_⟩;show iv w 0 _
  exact⟨by go_simp;rfl,by go_simp;rfl,by go_simp,by go_simp,by go_simp,by go_simp,by go_simp,by go_simp,by go_grown⟩
 case round =>
  obtain⟨q,hq,rfl,rfl,HB⟩:=hrel;obtain⟨z0,z1,fz0,fz1,s0,s1,fs0,fs1,hb⟩:=HB.out;clear HB;have hz:w.heap.size+1<wr.heap.size:=World.block_lt_of_cell? _ _ z0;by_cases hlt:q<K
  · obtain⟨b1,b2,b3,b4⟩:=kV q (by omega);obtain⟨n1,n2,n3,n4⟩:=kV (q+1) (by omega);have HM:Hid (∀w,Calls Tryz.prog 132 #[.agg #[.int .i64 (bet q).1,.int .i64 (bet q).2],.agg #[.int .i64 2,.int .i64 1]] w fun e w'=>e=.returned (.tuple #[.agg #[.int .i64 (bet (q+1)).1,.int .i64 (bet (q+1)).2],.bool true])/\Below w.heap.size w w') :=
     fun w=>by
      have h:=qX (bet q).1 (bet q).2 2 1 (by omega) (by omega) (by omega) (by omega) (by omega) (by omega) (by omega) (by omega) w;have ex:(bet q).1*2-(bet q).2*1=(bet (q+1)).1:=by show _=dL (bet q).1 (bet q).2 2 1;unfold dL;omega
      have ey:(bet q).1*1+(bet q).2*2+(bet q).2*1=(bet (q+1)).2:=by show _=d9 (bet q).1 (bet q).2 2 1;unfold d9;omega
      rw[ex,ey]at h;have hb:=gY (x:=(bet (q+1)).1) (y:=(bet (q+1)).2) (ax ⟨by omega,by omega⟩) (ax ⟨by omega,by omega⟩);rw[hb,fW hb,fX hb]at h;exact h
    clear b1 b2 b3 b4 n1 n2 n3 n4;obtain⟨X,hX⟩:∃X,(bet q).1=X:=⟨_,rfl⟩
    obtain⟨Y,hY⟩:∃Y,(bet q).2=Y:=⟨_,rfl⟩
    obtain⟨U,hU⟩:∃U,(bet (q+1)).1=U:=⟨_,rfl⟩
    obtain⟨V,hV⟩:∃V,(bet (q+1)).2=V:=⟨_,rfl⟩
    rw[hX,hY,hU,hV]at HM;rw[hX]at z0;rw[hY]at z1;have HU:Hid ((bet (q+1)).1=U):=hU;have HV:Hid ((bet (q+1)).2=V):=hV;clear hX hY hU hV;go_wp2_with fail;refine(HM.out _).mono ?_;rintro e w2 ⟨rfl,c2⟩;have k0:=aa c2 z0;have k1:=aa c2 z1;have g0:=ac c2 z0 fz0;have g1:=ac c2 z1 fz1;have r0:=aa c2 s0;have r1:=aa c2 s1;have t0:=ac c2 s0 fs0;have t1:=ac c2 s1 fs1;have hb2:=ae hb c2;clear z0 z1 fz0 fz1 s0 s1 fs0 fs1 hb c2;obtain⟨y0,y1⟩:=au (u:=.int .i64 U) (v:=.int .i64 V) k0 k1;go_wp2;go_roundw
    case rel =>
     refine⟨q+1,by omega,rfl,by go_num,?_⟩;show iv w (q+1) _
     unfold iv;rw[HU.out,HV.out];refine⟨y0,y1,by simp[g0],by simp[g1],?_,?_,by simp[t0],by simp[t1],(hb2.setCell (by simp) _).setCell (by simp) _⟩
     · rw[World.cell?_setCell_other _ _ _ _ (by simp),World.cell?_setCell_other _ _ _ _ (by simp)];exact r0
     · rw[World.cell?_setCell_other _ _ _ _ (by simp),World.cell?_setCell_other _ _ _ _ (by simp)];exact r1
    case measure=>simp[intOf];omega
  · obtain rfl:q=K:=by omega
    obtain⟨X,hX⟩:∃X,(bet q).1=X:=⟨_,rfl⟩
    obtain⟨Y,hY⟩:∃Y,(bet q).2=Y:=⟨_,rfl⟩
    rw[hX]at z0;rw[hY]at z1;have HX:Hid ((bet q).1=X):=hX;have HY:Hid ((bet q).2=Y):=hY;clear hX hY;obtain⟨y0,y1⟩:=au (u:=.int .i64 X) (v:=.int .i64 Y) s0 s1;go_wp2;exact bodyPost_ret (v:=.tuple #[.agg #[.int .i64 X,.int .i64 Y],.bool true]) (by simp[results,Tryz.results172,go_sem,y0,y1]) rfl ⟨by rw[HX.out,HY.out],(hb.setCell (by simp) _).setCell (by simp) _⟩
def kO:Array Value:=#[.int .i64 1,.int .i64 0,.int .i64 0,.int .i64 1,.int .i64 (-1),.int .i64 1,.int .i64 (-1),.int .i64 0,.int .i64 0,.int .i64 (-1),.int .i64 1,.int .i64 (-1)]
def Uni (w:World):Prop:=w.var? Tryz.prog "apiary/eisen.units"=some kO
theorem wL:Tryz.prog.globalNamed "apiary/eisen.units"=some 0:=by kernel_rfl
theorem Uni.cell {w:World}(h:Uni w)(i:Nat):w.cell? ⟨0,i,none⟩=kO[i]?:=World.var?_cell wL h i
theorem Uni.below {w w':World}(h:Uni w)(hb:Below w.heap.size w w'):Uni w' :=
 var?_below hb wL (World.block_lt_of_cell? _ _ (show w.cell? ⟨0,0,none⟩=some (.int .i64 1)from h.cell 0)) h
theorem us (k:Int)(k1: -9223372036854775808<=k)(k2:k<=9223372036854775807)(hj:k%6=0)(w:World)(hU:Uni w) :
 Calls Tryz.prog 93 #[.int .i64 k] w fun e w'=>e=.returned (.agg #[.int .i64 1,.int .i64 0])/\Below w.heap.size w w':=by
 have FL:=cS k 6 k1 k2 (by omega) (by omega);rw[hj]at FL;clear hj;replace FL:Hid _:=FL;have hU0:Hid (Uni w):=hU;clear hU
 go_enter Tryz.func93,Tryz.ntmps93
 go_wp2_with fail;refine(FL.out _).mono ?_;rintro e w1 ⟨rfl,hb⟩;have hb0:Below w.heap.size w w1:=Below.trans (by go_grown) (hb.mono (by simp;try omega));have v0:w1.cell? ⟨0,0,none⟩=some (.int .i64 1):=(hU0.out.below hb0).cell 0;have v1:w1.cell? ⟨0,1,none⟩=some (.int .i64 0):=(hU0.out.below hb0).cell 1;obtain⟨hc,hf⟩:=bQ hb;have e0:w1.cell? ⟨w.heap.size,0,none⟩=some (.int .i64 0):=by rw[hc _ _ (by simp)];go_simp
 have e1:w1.cell? ⟨w.heap.size,1,none⟩=some (.int .i64 0):=by rw[hc _ _ (by simp)];go_simp
 obtain⟨g0,g1⟩:=au (u:=.int .i64 1) (v:=.int .i64 0) e0 e1;go_wp2;exact bodyPost_ret (v:=.agg #[.int .i64 1,.int .i64 0]) (by simp[results,Tryz.results93,go_sem,g0,g1]) rfl ⟨rfl,(hb0.setCell (by simp;try omega) _).setCell (by simp;try omega) _⟩
theorem uv (k:Int)(k1: -9223372036854775808<=k)(k2:k<=9223372036854775807)(hj:k%6=1)(w:World)(hU:Uni w) :
 Calls Tryz.prog 93 #[.int .i64 k] w fun e w'=>e=.returned (.agg #[.int .i64 0,.int .i64 1])/\Below w.heap.size w w':=by
 have FL:=cS k 6 k1 k2 (by omega) (by omega);rw[hj]at FL;clear hj;replace FL:Hid _:=FL;have hU0:Hid (Uni w):=hU;clear hU
 go_enter Tryz.func93,Tryz.ntmps93
 go_wp2_with fail;refine(FL.out _).mono ?_;rintro e w1 ⟨rfl,hb⟩;have hb0:Below w.heap.size w w1:=Below.trans (by go_grown) (hb.mono (by simp;try omega));have v0:w1.cell? ⟨0,2,none⟩=some (.int .i64 0):=(hU0.out.below hb0).cell 2;have v1:w1.cell? ⟨0,3,none⟩=some (.int .i64 1):=(hU0.out.below hb0).cell 3;obtain⟨hc,hf⟩:=bQ hb;have e0:w1.cell? ⟨w.heap.size,0,none⟩=some (.int .i64 0):=by rw[hc _ _ (by simp)];go_simp
 have e1:w1.cell? ⟨w.heap.size,1,none⟩=some (.int .i64 0):=by rw[hc _ _ (by simp)];go_simp
 obtain⟨g0,g1⟩:=au (u:=.int .i64 0) (v:=.int .i64 1) e0 e1;go_wp2;exact bodyPost_ret (v:=.agg #[.int .i64 0,.int .i64 1]) (by simp[results,Tryz.results93,go_sem,g0,g1]) rfl ⟨rfl,(hb0.setCell (by simp;try omega) _).setCell (by simp;try omega) _⟩
theorem uw (k:Int)(k1: -9223372036854775808<=k)(k2:k<=9223372036854775807)(hj:k%6=2)(w:World)(hU:Uni w) :
 Calls Tryz.prog 93 #[.int .i64 k] w fun e w'=>e=.returned (.agg #[.int .i64 (-1),.int .i64 1])/\Below w.heap.size w w':=by
 have FL:=cS k 6 k1 k2 (by omega) (by omega);rw[hj]at FL;clear hj;replace FL:Hid _:=FL;have hU0:Hid (Uni w):=hU;clear hU
 go_enter Tryz.func93,Tryz.ntmps93
 go_wp2_with fail;refine(FL.out _).mono ?_;rintro e w1 ⟨rfl,hb⟩;have hb0:Below w.heap.size w w1:=Below.trans (by go_grown) (hb.mono (by simp;try omega));have v0:w1.cell? ⟨0,4,none⟩=some (.int .i64 (-1)):=(hU0.out.below hb0).cell 4;have v1:w1.cell? ⟨0,5,none⟩=some (.int .i64 1):=(hU0.out.below hb0).cell 5;obtain⟨hc,hf⟩:=bQ hb;have e0:w1.cell? ⟨w.heap.size,0,none⟩=some (.int .i64 0):=by rw[hc _ _ (by simp)];go_simp
 have e1:w1.cell? ⟨w.heap.size,1,none⟩=some (.int .i64 0):=by rw[hc _ _ (by simp)];go_simp
 obtain⟨g0,g1⟩:=au (u:=.int .i64 (-1)) (v:=.int .i64 1) e0 e1;go_wp2;exact bodyPost_ret (v:=.agg #[.int .i64 (-1),.int .i64 1]) (by simp[results,Tryz.results93,go_sem,g0,g1]) rfl ⟨rfl,(hb0.setCell (by simp;try omega) _).setCell (by simp;try omega) _⟩
theorem uz (k:Int)(k1: -9223372036854775808<=k)(k2:k<=9223372036854775807)(hj:k%6=3)(w:World)(hU:Uni w) :
 Calls Tryz.prog 93 #[.int .i64 k] w fun e w'=>e=.returned (.agg #[.int .i64 (-1),.int .i64 0])/\Below w.heap.size w w':=by
 have FL:=cS k 6 k1 k2 (by omega) (by omega);rw[hj]at FL;clear hj;replace FL:Hid _:=FL;have hU0:Hid (Uni w):=hU;clear hU
 go_enter Tryz.func93,Tryz.ntmps93
 go_wp2_with fail;refine(FL.out _).mono ?_;rintro e w1 ⟨rfl,hb⟩;have hb0:Below w.heap.size w w1:=Below.trans (by go_grown) (hb.mono (by simp;try omega));have v0:w1.cell? ⟨0,6,none⟩=some (.int .i64 (-1)):=(hU0.out.below hb0).cell 6;have v1:w1.cell? ⟨0,7,none⟩=some (.int .i64 0):=(hU0.out.below hb0).cell 7;obtain⟨hc,hf⟩:=bQ hb;have e0:w1.cell? ⟨w.heap.size,0,none⟩=some (.int .i64 0):=by rw[hc _ _ (by simp)];go_simp
 have e1:w1.cell? ⟨w.heap.size,1,none⟩=some (.int .i64 0):=by rw[hc _ _ (by simp)];go_simp
 obtain⟨g0,g1⟩:=au (u:=.int .i64 (-1)) (v:=.int .i64 0) e0 e1;go_wp2;exact bodyPost_ret (v:=.agg #[.int .i64 (-1),.int .i64 0]) (by simp[results,Tryz.results93,go_sem,g0,g1]) rfl ⟨rfl,(hb0.setCell (by simp;try omega) _).setCell (by simp;try omega) _⟩
theorem uC (k:Int)(k1: -9223372036854775808<=k)(k2:k<=9223372036854775807)(hj:k%6=4)(w:World)(hU:Uni w) :
 Calls Tryz.prog 93 #[.int .i64 k] w fun e w'=>e=.returned (.agg #[.int .i64 0,.int .i64 (-1)])/\Below w.heap.size w w':=by
 have FL:=cS k 6 k1 k2 (by omega) (by omega);rw[hj]at FL;clear hj;replace FL:Hid _:=FL;have hU0:Hid (Uni w):=hU;clear hU
 go_enter Tryz.func93,Tryz.ntmps93
 go_wp2_with fail;refine(FL.out _).mono ?_;rintro e w1 ⟨rfl,hb⟩;have hb0:Below w.heap.size w w1:=Below.trans (by go_grown) (hb.mono (by simp;try omega));have v0:w1.cell? ⟨0,8,none⟩=some (.int .i64 0):=(hU0.out.below hb0).cell 8;have v1:w1.cell? ⟨0,9,none⟩=some (.int .i64 (-1)):=(hU0.out.below hb0).cell 9;obtain⟨hc,hf⟩:=bQ hb;have e0:w1.cell? ⟨w.heap.size,0,none⟩=some (.int .i64 0):=by rw[hc _ _ (by simp)];go_simp
 have e1:w1.cell? ⟨w.heap.size,1,none⟩=some (.int .i64 0):=by rw[hc _ _ (by simp)];go_simp
 obtain⟨g0,g1⟩:=au (u:=.int .i64 0) (v:=.int .i64 (-1)) e0 e1;go_wp2;exact bodyPost_ret (v:=.agg #[.int .i64 0,.int .i64 (-1)]) (by simp[results,Tryz.results93,go_sem,g0,g1]) rfl ⟨rfl,(hb0.setCell (by simp;try omega) _).setCell (by simp;try omega) _⟩
theorem uD (k:Int)(k1: -9223372036854775808<=k)(k2:k<=9223372036854775807)(hj:k%6=5)(w:World)(hU:Uni w) :
 Calls Tryz.prog 93 #[.int .i64 k] w fun e w'=>e=.returned (.agg #[.int .i64 1,.int .i64 (-1)])/\Below w.heap.size w w':=by
 have FL:=cS k 6 k1 k2 (by omega) (by omega);rw[hj]at FL;clear hj;replace FL:Hid _:=FL;have hU0:Hid (Uni w):=hU;clear hU
 go_enter Tryz.func93,Tryz.ntmps93
 go_wp2_with fail;refine(FL.out _).mono ?_;rintro e w1 ⟨rfl,hb⟩;have hb0:Below w.heap.size w w1:=Below.trans (by go_grown) (hb.mono (by simp;try omega));have v0:w1.cell? ⟨0,10,none⟩=some (.int .i64 1):=(hU0.out.below hb0).cell 10;have v1:w1.cell? ⟨0,11,none⟩=some (.int .i64 (-1)):=(hU0.out.below hb0).cell 11;obtain⟨hc,hf⟩:=bQ hb;have e0:w1.cell? ⟨w.heap.size,0,none⟩=some (.int .i64 0):=by rw[hc _ _ (by simp)];go_simp
 have e1:w1.cell? ⟨w.heap.size,1,none⟩=some (.int .i64 0):=by rw[hc _ _ (by simp)];go_simp
 obtain⟨g0,g1⟩:=au (u:=.int .i64 1) (v:=.int .i64 (-1)) e0 e1;go_wp2;exact bodyPost_ret (v:=.agg #[.int .i64 1,.int .i64 (-1)]) (by simp[results,Tryz.results93,go_sem,g0,g1]) rfl ⟨rfl,(hb0.setCell (by simp;try omega) _).setCell (by simp;try omega) _⟩
theorem kh (k:Int)(k1: -9223372036854775808<=k)(k2:k<=9223372036854775807)(w:World)(hU:Uni w) :
 Calls Tryz.prog 93 #[.int .i64 k] w fun e w'=>e=.returned (.agg #[.int .i64 (cW (k%6)),.int .i64 (cY (k%6))])/\Below w.heap.size w w':=by
 have hc:k%6=0∨k%6=1∨k%6=2∨k%6=3∨k%6=4∨k%6=5:=by omega
 rcases hc with hc | hc | hc | hc | hc | hc
 · rw[hc];exact us k k1 k2 hc w hU
 · rw[hc];exact uv k k1 k2 hc w hU
 · rw[hc];exact uw k k1 k2 hc w hU
 · rw[hc];exact uz k k1 k2 hc w hU
 · rw[hc];exact uC k k1 k2 hc w hU
 · rw[hc];exact uD k k1 k2 hc w hU
theorem GW (n:Int)(w:World)(h:0<=n)(h1:n<=9223372036854775807) :
 Calls Tryz.prog 153 #[.int .i64 n] w fun e w'=>e=.returned (.agg #[.int .u64 (am n),.int .u64 (ak n)])/\Below w.heap.size w w':=by
 go_enter Tryz.func153,Tryz.ntmps153
 go_wp2
 go_returns
 exact⟨yk (by unfold am;omega) (by unfold ak;omega),by go_grown⟩
theorem AF (n:Int)(w:World)(h:n<0)(h1: -9223372036854775808<=n) :
 Calls Tryz.prog 153 #[.int .i64 n] w fun e w'=>e=.returned (.agg #[.int .u64 (am n),.int .u64 (ak n)])/\Below w.heap.size w w':=by
 go_enter Tryz.func153,Tryz.ntmps153
 go_wp2
 go_returns
 exact⟨yk (by rw[IntKind.wrap_u64];unfold am;omega) (by rw[IntKind.wrap_u64];unfold ak;omega),by go_grown⟩
theorem sP (n:Int)(h1: -9223372036854775808<=n)(h2:n<=9223372036854775807)(w:World) :
 Calls Tryz.prog 153 #[.int .i64 n] w fun e w'=>e=.returned (.agg #[.int .u64 (am n),.int .u64 (ak n)])/\Below w.heap.size w w':=by
 by_cases h:0<=n
 · exact GW n w h h2
 · exact AF n w (by omega) h1
theorem rR (a b c d s cy t u:Int)(a1:0<=a)(b1:0<=b)(c1:0<=c)(d1:0<=d)(hs:(b+d+0)%18446744073709551616=s)(hcy:(b+d+0) / 18446744073709551616=cy)(cy0:0<=cy)(cy1:cy<=1)
 (ht:(a+c+cy)%18446744073709551616=t) (hu:(a+c+cy) / 18446744073709551616=u) (w:World) :
 Calls Tryz.prog 65 #[.agg #[.int .u64 a,.int .u64 b],.agg #[.int .u64 c,.int .u64 d]] w fun e w'=>e=.returned (.agg #[.int .u64 t,.int .u64 s])/\Below w.heap.size w w':=by
 have f1:=fun w=>kW b d 0 b1 d1 (by omega) (by omega) w;rw[hs,hcy]at f1;have f2:=fun w=>kW a c cy a1 c1 cy0 cy1 w;rw[ht,hu]at f2;clear hs hcy ht hu
 go_enter Tryz.func65,Tryz.ntmps65
 go_wp2
 go_returns
 exact⟨rfl,by go_grown⟩
theorem rQ (x y:Int)(w:World) :
 Calls Tryz.prog 65 #[.agg #[.int .u64 (am x),.int .u64 (ak x)],.agg #[.int .u64 (am y),.int .u64 (ak y)]] w fun e w'=>e=.returned (.agg #[.int .u64 (am (x+y)),.int .u64 (ak (x+y))])/\Below w.heap.size w w':=by
 have hx:=fA x;have hy:=fA y;have kx:=dZ x;have ky:=dZ y;refine rR (am x) (ak x) (am y) (ak y) (ak (x+y)) ((ak x+ak y+0) / 18446744073709551616) (am (x+y)) _ kx.1 hx.1 ky.1 hy.1 ?_ rfl (by omega) (by omega) ?_ rfl w
 · unfold ak;omega
 · unfold am ak;omega
theorem vD (a:Int)(a1:0<=a)(a2:a<=18446744073709551615):bits .xor .u64 IntKind.u64.max a=18446744073709551615-a:=by
 obtain⟨A,rfl⟩:=Int.eq_ofNat_of_zero_le a1;have e:IntKind.u64.max=((18446744073709551615:Nat):Int):=rfl;have h1:(BitVec.ofInt 64 (A:Int)).toNat=A:=ofInt_u64 A (by omega);have h2:BitVec.ofInt 64 ((18446744073709551615:Nat):Int)=BitVec.allOnes 64:=by decide
 show IntKind.u64.wrap ((BitVec.ofInt 64 IntKind.u64.max ^^^ BitVec.ofInt 64 (A:Int)).toNat:Int)=_
 rw[e,h2,BitVec.allOnes_xor,BitVec.toNat_not,h1,IntKind.wrap_u64];omega
theorem xS (a b m n s t:Int)(a1:bits .xor .u64 IntKind.u64.max a=m)(b1:bits .xor .u64 IntKind.u64.max b=n)
 (PL:∀w,Calls Tryz.prog 65 #[.agg #[.int .u64 m,.int .u64 n],.agg #[.int .u64 0,.int .u64 1]] w fun e w'=>e=.returned (.agg #[.int .u64 s,.int .u64 t])/\Below w.heap.size w w') (w:World) :
 Calls Tryz.prog 39 #[.agg #[.int .u64 a,.int .u64 b]] w fun e w'=>e=.returned (.agg #[.int .u64 s,.int .u64 t])/\Below w.heap.size w w':=by
 replace PL:Hid _:=PL
 go_enter Tryz.func39,Tryz.ntmps39
 go_wp2_with fail;refine(PL.out _).mono ?_;rintro e w1 ⟨rfl,hb⟩;have c0:w1.cell? ⟨w.heap.size+1,0,none⟩=some (.int .u64 0):=by rw[hb.cell (p:=⟨w.heap.size+1,0,none⟩) (by simp)];go_simp
 have c1:w1.cell? ⟨w.heap.size+1,1,none⟩=some (.int .u64 0):=by rw[hb.cell (p:=⟨w.heap.size+1,1,none⟩) (by simp)];go_simp
 have f0:w1.frozen? ⟨w.heap.size+1,0,none⟩=false:=by rw[hb.frozen (p:=⟨w.heap.size+1,0,none⟩) (by simp)];go_simp
 have f1:w1.frozen? ⟨w.heap.size+1,1,none⟩=false:=by rw[hb.frozen (p:=⟨w.heap.size+1,1,none⟩) (by simp)];go_simp
 obtain⟨g0,g1⟩:=au (u:=.int .u64 s) (v:=.int .u64 t) c0 c1;go_wp2;exact bodyPost_ret (v:=.agg #[.int .u64 s,.int .u64 t]) (by simp[results,Tryz.results39,go_sem,g0,g1]) rfl
  ⟨rfl,((((((Below.refl _ _).alloc (Nat.le_refl _) _).alloc (by simp) _).trans (hb.mono (by simp;omega))).setCell (by simp) _).setCell (by simp) _)⟩
theorem gV (x:Int)(w:World) :
 Calls Tryz.prog 39 #[.agg #[.int .u64 (am x),.int .u64 (ak x)]] w fun e w'=>e=.returned (.agg #[.int .u64 (am (-x)),.int .u64 (ak (-x))])/\Below w.heap.size w w':=by
 have hx:=fA x;have kx:=dZ x;refine xS _ _ (18446744073709551615-am x) (18446744073709551615-ak x) _ _ (vD _ kx.1 kx.2) (vD _ hx.1 hx.2) (fun w=>?_) w;refine rR _ _ 0 1 (ak (-x)) ((18446744073709551615-ak x+1+0) / 18446744073709551616) (am (-x)) _ (by omega) (by omega) (by omega) (by omega) ?_ rfl (by omega) (by omega) ?_ rfl w
 · unfold ak;omega
 · unfold am ak;omega
theorem Ak (a b m:Int)(hm:wrap64 b=m)(m1: -9223372036854775808<=m)(m2:m<=9223372036854775807)(hp:am m=a)(hq:ak m=b)(w:World) :
 Calls Tryz.prog 105 #[.agg #[.int .u64 a,.int .u64 b]] w fun e w'=>e=.returned (.tuple #[.int .i64 m,.bool true])/\Below w.heap.size w w':=by
 have WT:∀w,Calls Tryz.prog 153 #[.int .i64 m] w fun e w'=>e=.returned (.agg #[.int .u64 a,.int .u64 b])/\Below w.heap.size w w':=by
  rw[←hp,←hq];exact sP m m1 m2
 replace WT:Hid _:=WT;clear hp hq
 go_enter Tryz.func105,Tryz.ntmps105
 go_wp2_with fail
 go_region_with (go_at_call 153;refine(WT.out _).mono ?_;rintro e w1 ⟨rfl,hb⟩;have c0:w1.cell? ⟨w.heap.size,0,none⟩=some (.int .u64 a):=(by rw[hb.cell (p:=⟨w.heap.size,0,none⟩) (by simp)];go_simp);have c1:w1.cell? ⟨w.heap.size,1,none⟩=some (.int .u64 b):=(by rw[hb.cell (p:=⟨w.heap.size,1,none⟩) (by simp)];go_simp))
 all_goals
  go_wp2
  go_ret2
  refine⟨rfl,?_⟩
 all_goals
  have hb':Below w.heap.size w w1:=((((Below.refl _ _).alloc (Nat.le_refl _) _).drew).trans (hb.mono (by simp)))
  first | exact hb' | exact hb'.drew
theorem Dw (a b m p:Int)(hm:wrap64 b=m)(m1: -9223372036854775808<=m)(m2:m<=9223372036854775807)(hp:am m=p)(hq:ak m=b)(hpa:¬p=a)(w:World) :
 Calls Tryz.prog 105 #[.agg #[.int .u64 a,.int .u64 b]] w fun e w'=>e=.returned (.tuple #[.int .i64 0,.bool false])/\Below w.heap.size w w':=by
 have WT:∀w,Calls Tryz.prog 153 #[.int .i64 m] w fun e w'=>e=.returned (.agg #[.int .u64 p,.int .u64 b])/\Below w.heap.size w w':=by
  rw[←hp,←hq];exact sP m m1 m2
 replace WT:Hid _:=WT;clear hp hq
 go_enter Tryz.func105,Tryz.ntmps105
 go_wp2_with fail
 go_region_with (go_at_call 153;refine(WT.out _).mono ?_;rintro e w1 ⟨rfl,hb⟩;have c0:w1.cell? ⟨w.heap.size,0,none⟩=some (.int .u64 a):=(by rw[hb.cell (p:=⟨w.heap.size,0,none⟩) (by simp)];go_simp);have c1:w1.cell? ⟨w.heap.size,1,none⟩=some (.int .u64 b):=(by rw[hb.cell (p:=⟨w.heap.size,1,none⟩) (by simp)];go_simp))
 all_goals
  go_wp2
  go_ret2
  refine⟨rfl,?_⟩
 all_goals
  have hb':Below w.heap.size w w1:=((((Below.refl _ _).alloc (Nat.le_refl _) _).drew).trans (hb.mono (by simp)))
  first | exact hb' | exact hb'.drew
theorem gA (z:Int)(z1: -255211775190703847597530955573826158592<=z)(z2:z<=255211775190703847597530955573826158592)(w:World) :
 Calls Tryz.prog 105 #[.agg #[.int .u64 (am z),.int .u64 (ak z)]] w fun e w'=>e=.returned (.tuple #[.int .i64 (cl z),.bool (aX z)])/\Below w.heap.size w w':=by
 have hw:wrap64 (ak z)=wrap64 z:=by unfold wrap64 ak;omega
 have hl:ak (wrap64 z)=ak z:=by unfold wrap64 ak;omega
 have hb:=vH z;by_cases h: -9223372036854775808<=z/\z<=9223372036854775807
 · rw[bt (ax h),ax h];have e:=db h;rw[e]at hw hl hb;exact Ak _ _ z hw hb.1 hb.2 rfl rfl w
 · rw[fY (co h),co h];refine Dw _ _ (wrap64 z) _ hw hb.1 hb.2 rfl hl ?_ w;intro e;unfold am wrap64 at e;omega
end Go.Proofs.YtbnlhdnnenahfaaGreatDoor
namespace Go.Proofs.YtbnlhdnnenahfaaGreatDoor
open Go.RowKit Go.Shelf
theorem DO (a b s t:Int)(ha:¬a<0)(hb:¬b<0)(a2:a<=9223372036854775807)(b2:b<=9223372036854775807)
 (M:∀w,Calls Tryz.prog 38 #[.int .u64 a,.int .u64 b] w fun e w'=>e=.returned (.tuple #[.int .u64 s,.int .u64 t])/\w'=w) (w:World) :
 Calls Tryz.prog 16 #[.int .i64 a,.int .i64 b] w fun e w'=>e=.returned (.agg #[.int .u64 s,.int .u64 t])/\Below w.heap.size w w':=by
 have ha':=df ha;have hb':=df hb;replace M:Hid _:=M
 go_enter Tryz.func16,Tryz.ntmps16
 go_wp2_with fail;refine(M.out _).mono ?_;rintro e w1 ⟨rfl,rfl⟩;go_wp2
 go_returns
 exact⟨rfl,by go_grown⟩
theorem DK (a b x y p q s t:Int)(ha:a<0)(hb:b<0)(hx:IntKind.u64.wrap a=x)(hy:IntKind.u64.wrap b=y)(hp:IntKind.u64.wrap (-x)=p)(hq:IntKind.u64.wrap (-y)=q)
 (M:∀w,Calls Tryz.prog 38 #[.int .u64 p,.int .u64 q] w fun e w'=>e=.returned (.tuple #[.int .u64 s,.int .u64 t])/\w'=w) (w:World) :
 Calls Tryz.prog 16 #[.int .i64 a,.int .i64 b] w fun e w'=>e=.returned (.agg #[.int .u64 s,.int .u64 t])/\Below w.heap.size w w':=by
 replace M:Hid _:=M
 go_enter Tryz.func16,Tryz.ntmps16
 go_wp2_with fail;refine(M.out _).mono ?_;rintro e w1 ⟨rfl,rfl⟩;go_wp2
 go_returns
 exact⟨rfl,by go_grown⟩
theorem DM (a b y q s t u v:Int)(ha:¬a<0)(hb:b<0)(a2:a<=9223372036854775807)(hy:IntKind.u64.wrap b=y)(hq:IntKind.u64.wrap (-y)=q)
 (M:∀w,Calls Tryz.prog 38 #[.int .u64 a,.int .u64 q] w fun e w'=>e=.returned (.tuple #[.int .u64 s,.int .u64 t])/\w'=w)
 (TU:∀w,Calls Tryz.prog 39 #[.agg #[.int .u64 s,.int .u64 t]] w fun e w'=>e=.returned (.agg #[.int .u64 u,.int .u64 v])/\Below w.heap.size w w') (w:World) :
 Calls Tryz.prog 16 #[.int .i64 a,.int .i64 b] w fun e w'=>e=.returned (.agg #[.int .u64 u,.int .u64 v])/\Below w.heap.size w w':=by
 have ha':=df ha;replace M:Hid _:=M;replace TU:Hid _:=TU
 go_enter Tryz.func16,Tryz.ntmps16
 go_wp2_with fail;refine(M.out _).mono ?_;rintro e w1 ⟨rfl,rfl⟩;go_wp2_with fail;refine(TU.out _).mono ?_;rintro e w2 ⟨rfl,hb2⟩;have c0:w2.cell? ⟨w.heap.size,0,none⟩=some (.int .u64 0):=by rw[hb2.cell (p:=⟨w.heap.size,0,none⟩) (by simp)];go_simp
 have c1:w2.cell? ⟨w.heap.size,1,none⟩=some (.int .u64 0):=by rw[hb2.cell (p:=⟨w.heap.size,1,none⟩) (by simp)];go_simp
 have f0:w2.frozen? ⟨w.heap.size,0,none⟩=false:=by rw[hb2.frozen (p:=⟨w.heap.size,0,none⟩) (by simp)];go_simp
 have f1:w2.frozen? ⟨w.heap.size,1,none⟩=false:=by rw[hb2.frozen (p:=⟨w.heap.size,1,none⟩) (by simp)];go_simp
 obtain⟨g0,g1⟩:=au (u:=.int .u64 u) (v:=.int .u64 v) c0 c1;go_wp2;exact bodyPost_ret (v:=.agg #[.int .u64 u,.int .u64 v]) (by simp[results,Tryz.results16,go_sem,g0,g1]) rfl
  ⟨rfl,(((((Below.refl _ _).alloc (Nat.le_refl _) _).trans (hb2.mono (by simp))).setCell (by simp) _).setCell (by simp) _)⟩
theorem DL (a b x p s t u v:Int)(ha:a<0)(hb:¬b<0)(b2:b<=9223372036854775807)(hx:IntKind.u64.wrap a=x)(hp:IntKind.u64.wrap (-x)=p)
 (M:∀w,Calls Tryz.prog 38 #[.int .u64 p,.int .u64 b] w fun e w'=>e=.returned (.tuple #[.int .u64 s,.int .u64 t])/\w'=w)
 (TU:∀w,Calls Tryz.prog 39 #[.agg #[.int .u64 s,.int .u64 t]] w fun e w'=>e=.returned (.agg #[.int .u64 u,.int .u64 v])/\Below w.heap.size w w') (w:World) :
 Calls Tryz.prog 16 #[.int .i64 a,.int .i64 b] w fun e w'=>e=.returned (.agg #[.int .u64 u,.int .u64 v])/\Below w.heap.size w w':=by
 have hb':=df hb;replace M:Hid _:=M;replace TU:Hid _:=TU
 go_enter Tryz.func16,Tryz.ntmps16
 go_wp2_with fail;refine(M.out _).mono ?_;rintro e w1 ⟨rfl,rfl⟩;go_wp2_with fail;refine(TU.out _).mono ?_;rintro e w2 ⟨rfl,hb2⟩;have c0:w2.cell? ⟨w.heap.size,0,none⟩=some (.int .u64 0):=by rw[hb2.cell (p:=⟨w.heap.size,0,none⟩) (by simp)];go_simp
 have c1:w2.cell? ⟨w.heap.size,1,none⟩=some (.int .u64 0):=by rw[hb2.cell (p:=⟨w.heap.size,1,none⟩) (by simp)];go_simp
 have f0:w2.frozen? ⟨w.heap.size,0,none⟩=false:=by rw[hb2.frozen (p:=⟨w.heap.size,0,none⟩) (by simp)];go_simp
 have f1:w2.frozen? ⟨w.heap.size,1,none⟩=false:=by rw[hb2.frozen (p:=⟨w.heap.size,1,none⟩) (by simp)];go_simp
 obtain⟨g0,g1⟩:=au (u:=.int .u64 u) (v:=.int .u64 v) c0 c1;go_wp2;exact bodyPost_ret (v:=.agg #[.int .u64 u,.int .u64 v]) (by simp[results,Tryz.results16,go_sem,g0,g1]) rfl
  ⟨rfl,(((((Below.refl _ _).alloc (Nat.le_refl _) _).trans (hb2.mono (by simp))).setCell (by simp) _).setCell (by simp) _)⟩
theorem F6 (a b:Int)(a1: -9223372036854775808<=a)(a2:a<=9223372036854775807)(b1: -9223372036854775808<=b)(b2:b<=9223372036854775807) :
 -170141183460469231731687303715884105728<=a*b/\a*b<170141183460469231731687303715884105728:=by
 have h:(a*b).natAbs<=9223372036854775808*9223372036854775808:=by
  rw[Int.natAbs_mul];exact Nat.mul_le_mul (by omega) (by omega)
 omega
theorem gW (a:Int)(h:a<0)(h1: -9223372036854775808<=a):IntKind.u64.wrap (-(IntKind.u64.wrap a))= -a:=by
 rw[IntKind.wrap_u64,IntKind.wrap_u64];omega
theorem eW (a b:Int)(a1: -9223372036854775808<=a)(a2:a<=9223372036854775807)(b1: -9223372036854775808<=b)(b2:b<=9223372036854775807)(w:World) :
 Calls Tryz.prog 16 #[.int .i64 a,.int .i64 b] w fun e w'=>e=.returned (.agg #[.int .u64 (am (a*b)),.int .u64 (ak (a*b))])/\Below w.heap.size w w':=by
 by_cases ha:a<0
 · by_cases hb:b<0
   · have e:a*b=(-a)*(-b):=by rw[Int.neg_mul_neg]
     rw[e];exact DK a b _ _ _ _ _ _ ha hb rfl rfl (gW a ha a1) (gW b hb b1) (dI (-a) (-b) (by omega) (by omega) (by omega) (by omega)) w
   · have e:a*b= -((-a)*b):=by rw[Int.neg_mul,Int.neg_neg]
     rw[e];exact DL a b _ _ _ _ _ _ ha hb b2 rfl (gW a ha a1) (dI (-a) b (by omega) (by omega) (by omega) (by omega)) (gV _) w
 · by_cases hb:b<0
   · have e:a*b= -(a*(-b)):=by rw[Int.mul_neg,Int.neg_neg]
     rw[e];exact DM a b _ _ _ _ _ _ ha hb a2 rfl (gW b hb b1) (dI a (-b) (by omega) (by omega) (by omega) (by omega)) (gV _) w
   · exact DO a b _ _ ha hb a2 b2 (dI a b (by omega) (by omega) (by omega) (by omega)) w
end Go.Proofs.YtbnlhdnnenahfaaGreatDoor
namespace Go.Proofs.YtbnlhdnnenahfaaGreatDoor
open Go.RowKit
theorem tS (hx lx hy ly x y:Int) 
 (S1:∀w,Calls Tryz.prog 105 #[.agg #[.int .u64 hx,.int .u64 lx]] w fun e w'=>e=.returned (.tuple #[.int .i64 x,.bool true])/\Below w.heap.size w w')
 (S2:∀w,Calls Tryz.prog 105 #[.agg #[.int .u64 hy,.int .u64 ly]] w fun e w'=>e=.returned (.tuple #[.int .i64 y,.bool true])/\Below w.heap.size w w') (w:World) :
 Calls Tryz.prog 64 #[.agg #[.int .u64 hx,.int .u64 lx],.agg #[.int .u64 hy,.int .u64 ly]] w fun e w'=>e=.returned (.tuple #[.agg #[.int .i64 x,.int .i64 y],.bool true])/\Below w.heap.size w w':=by
 replace S1:Hid _:=S1;replace S2:Hid _:=S2
 go_enter Tryz.func64,Tryz.ntmps64
 go_wp2_with fail;refine(S1.out _).mono ?_;rintro e w1 ⟨rfl,c1⟩;obtain⟨hc1,hf1⟩:=bQ c1;have z1:w.heap.size+1+1<w1.heap.size:=by have:=c1.size;simp at this;omega
 go_wp2_with fail;refine(S2.out _).mono ?_;rintro e w2 ⟨rfl,c2⟩;obtain⟨hc2,hf2⟩:=bQ c2;have z2:w.heap.size+1+1<w2.heap.size:=by have:=c2.size;omega
 have e0:w2.cell? ⟨w.heap.size+1+1,0,none⟩=some (.int .i64 0):=by rw[hc2 _ _ z1,hc1 _ _ (by simp)];go_simp
 have e1:w2.cell? ⟨w.heap.size+1+1,1,none⟩=some (.int .i64 0):=by rw[hc2 _ _ z1,hc1 _ _ (by simp)];go_simp
 obtain⟨g0,g1⟩:=au (u:=.int .i64 x) (v:=.int .i64 y) e0 e1;go_wp2;have hb:Below w.heap.size w w2:=((((Below.refl _ _).alloc (Nat.le_refl _) _).alloc (by simp) _).alloc (by simp;omega) _).trans ((c1.mono (by simp;omega)).trans (c2.mono (by omega)));exact bodyPost_ret (v:=.tuple #[.agg #[.int .i64 x,.int .i64 y],.bool true]) (by simp[results,Tryz.results64,go_sem,g0,g1]) rfl
  ⟨rfl,(hb.setCell (by simp;omega) _).setCell (by simp;omega) _⟩
theorem GM (x y:Int)(hx:aX x=true)(hy:aX y=true)(w:World) :
 Calls Tryz.prog 64 #[.agg #[.int .u64 (am x),.int .u64 (ak x)],.agg #[.int .u64 (am y),.int .u64 (ak y)]] w fun e w'=>e=.returned (.tuple #[.agg #[.int .i64 x,.int .i64 y],.bool true])/\Below w.heap.size w w':=by
 have bx:=uH hx;have hb:=uH hy;refine tS _ _ _ _ x y (fun w=>?_) (fun w=>?_) w
 · have:=gA x (by omega) (by omega) w;rw[bt hx,hx]at this;exact this
 · have:=gA y (by omega) (by omega) w;rw[bt hy,hy]at this;exact this
theorem zR (k r:Int)(hr:k.tmod 6=r)(r1: -5<=r)(r2:r<=5)(hj:(r+6)%6=0)(w:World) :
 Calls Tryz.prog 36 #[.int .i64 k] w fun e w'=>e=.returned (.agg #[.int .i64 (1),.int .i64 (0)])/\Below w.heap.size w w':=by
 go_enter Tryz.func36,Tryz.ntmps36
 go_wp2
 go_returns
 exact⟨rfl,by go_grown⟩
theorem zS (k r:Int)(hr:k.tmod 6=r)(r1: -5<=r)(r2:r<=5)(hj:(r+6)%6=1)(w:World) :
 Calls Tryz.prog 36 #[.int .i64 k] w fun e w'=>e=.returned (.agg #[.int .i64 (0),.int .i64 (1)])/\Below w.heap.size w w':=by
 go_enter Tryz.func36,Tryz.ntmps36
 go_wp2
 go_returns
 exact⟨rfl,by go_grown⟩
theorem zT (k r:Int)(hr:k.tmod 6=r)(r1: -5<=r)(r2:r<=5)(hj:(r+6)%6=2)(w:World) :
 Calls Tryz.prog 36 #[.int .i64 k] w fun e w'=>e=.returned (.agg #[.int .i64 (-1),.int .i64 (1)])/\Below w.heap.size w w':=by
 go_enter Tryz.func36,Tryz.ntmps36
 go_wp2
 go_returns
 exact⟨rfl,by go_grown⟩
theorem zU (k r:Int)(hr:k.tmod 6=r)(r1: -5<=r)(r2:r<=5)(hj:(r+6)%6=3)(w:World) :
 Calls Tryz.prog 36 #[.int .i64 k] w fun e w'=>e=.returned (.agg #[.int .i64 (-1),.int .i64 (0)])/\Below w.heap.size w w':=by
 go_enter Tryz.func36,Tryz.ntmps36
 go_wp2
 go_returns
 exact⟨rfl,by go_grown⟩
theorem zV (k r:Int)(hr:k.tmod 6=r)(r1: -5<=r)(r2:r<=5)(hj:(r+6)%6=4)(w:World) :
 Calls Tryz.prog 36 #[.int .i64 k] w fun e w'=>e=.returned (.agg #[.int .i64 (0),.int .i64 (-1)])/\Below w.heap.size w w':=by
 go_enter Tryz.func36,Tryz.ntmps36
 go_wp2
 go_returns
 exact⟨rfl,by go_grown⟩
theorem zW (k r:Int)(hr:k.tmod 6=r)(r1: -5<=r)(r2:r<=5)(hj:(r+6)%6=5)(w:World) :
 Calls Tryz.prog 36 #[.int .i64 k] w fun e w'=>e=.returned (.agg #[.int .i64 (1),.int .i64 (-1)])/\Below w.heap.size w w':=by
 go_enter Tryz.func36,Tryz.ntmps36
 go_wp2
 go_returns
 exact⟨rfl,by go_grown⟩
theorem JE (k:Int):∃r,k.tmod 6=r∧-5<=r/\r<=5/\(r+6)%6=k%6:=by
 have e:=Int.mul_tdiv_add_tmod k 6;have h:(k.tmod 6).natAbs=k.natAbs%6:=Int.natAbs_tmod k 6;exact⟨_,rfl,by omega,by omega,by omega⟩
theorem fu (k:Int)(w:World) :
 Calls Tryz.prog 36 #[.int .i64 k] w fun e w'=>e=.returned (.agg #[.int .i64 (cW (k%6)),.int .i64 (cY (k%6))])/\Below w.heap.size w w':=by
 obtain⟨r,h1,h2,h3,h4⟩:=JE k;have hc:k%6=0∨k%6=1∨k%6=2∨k%6=3∨k%6=4∨k%6=5:=by omega
 rcases hc with hc | hc | hc | hc | hc | hc
 · rw[hc];exact zR k r h1 h2 h3 (by omega) w
 · rw[hc];exact zS k r h1 h2 h3 (by omega) w
 · rw[hc];exact zT k r h1 h2 h3 (by omega) w
 · rw[hc];exact zU k r h1 h2 h3 (by omega) w
 · rw[hc];exact zV k r h1 h2 h3 (by omega) w
 · rw[hc];exact zW k r h1 h2 h3 (by omega) w
theorem mq {w0 a b:World}{p0 p1 p2 p3 p4 p5 p6 p7:Addr}{v0 v1 v2 v3 v6 v7:Value}(hb:Below a.heap.size a b)
 (h:a.cell? p0=some v0/\a.cell? p1=some v1/\a.cell? p2=some v2/\a.cell? p3=some v3/\a.cell? p4=some (.int .i64 (be a p4))/\a.cell? p5=some (.int .i64 (be a p5))/\a.cell? p6=some v6/\a.cell? p7=some v7/\a.frozen? p4=false/\a.frozen? p5=false/\Below w0.heap.size w0 a) :
 b.cell? p0=some v0/\b.cell? p1=some v1/\b.cell? p2=some v2/\b.cell? p3=some v3/\b.cell? p4=some (.int .i64 (be b p4))/\b.cell? p5=some (.int .i64 (be b p5))/\b.cell? p6=some v6/\b.cell? p7=some v7/\b.frozen? p4=false/\b.frozen? p5=false/\Below w0.heap.size w0 b:=by
 obtain⟨h0,h1,h2,h3,h4,h5,h6,h7,f4,f5,hw⟩:=h;exact⟨aa hb h0,aa hb h1,aa hb h2,aa hb h3,fG (aa hb h4),fG (aa hb h5),aa hb h6,aa hb h7,ac hb h4 f4,ac hb h5 f5,ae hw hb⟩
theorem pA {w0 a:World}{p0 p1 p2 p3 p4 p5 p6 p7:Addr}{v0 v1 v2 v3 v6 v7:Value}{x y:Int}(n0:p0.block≠p4.block)(n1:p1.block≠p4.block)(n2:p2.block≠p4.block)(n3:p3.block≠p4.block)(n6:p6.block≠p4.block)(n7:p7.block≠p4.block)(e5:p5.block=p4.block)(ne:p4≠p5)(hB:w0.heap.size<=p4.block)
 (h:a.cell? p0=some v0/\a.cell? p1=some v1/\a.cell? p2=some v2/\a.cell? p3=some v3/\a.cell? p4=some (.int .i64 (be a p4))/\a.cell? p5=some (.int .i64 (be a p5))/\a.cell? p6=some v6/\a.cell? p7=some v7/\a.frozen? p4=false/\a.frozen? p5=false/\Below w0.heap.size w0 a) :
 ((a.setCell p4 (.int .i64 x)).setCell p5 (.int .i64 y)).cell? p0=some v0/\((a.setCell p4 (.int .i64 x)).setCell p5 (.int .i64 y)).cell? p1=some v1/\((a.setCell p4 (.int .i64 x)).setCell p5 (.int .i64 y)).cell? p2=some v2/\((a.setCell p4 (.int .i64 x)).setCell p5 (.int .i64 y)).cell? p3=some v3/\((a.setCell p4 (.int .i64 x)).setCell p5 (.int .i64 y)).cell? p4=some (.int .i64 (be ((a.setCell p4 (.int .i64 x)).setCell p5 (.int .i64 y)) p4))/\((a.setCell p4 (.int .i64 x)).setCell p5 (.int .i64 y)).cell? p5=some (.int .i64 (be ((a.setCell p4 (.int .i64 x)).setCell p5 (.int .i64 y)) p5))/\((a.setCell p4 (.int .i64 x)).setCell p5 (.int .i64 y)).cell? p6=some v6/\((a.setCell p4 (.int .i64 x)).setCell p5 (.int .i64 y)).cell? p7=some v7/\((a.setCell p4 (.int .i64 x)).setCell p5 (.int .i64 y)).frozen? p4=false/\((a.setCell p4 (.int .i64 x)).setCell p5 (.int .i64 y)).frozen? p5=false/\Below w0.heap.size w0 ((a.setCell p4 (.int .i64 x)).setCell p5 (.int .i64 y)):=by
 obtain⟨h0,h1,h2,h3,h4,h5,h6,h7,f4,f5,hw⟩:=h;have far:∀p:Addr,p.block≠p4.block->((a.setCell p4 (.int .i64 x)).setCell p5 (.int .i64 y)).cell? p=a.cell? p:=by
  intro p hp;rw[World.cell?_setCell_other _ _ _ _ (by intro e;subst e;exact hp e5),World.cell?_setCell_other _ _ _ _ (by intro e;subst e;exact hp rfl)]
 have s5:(a.setCell p4 (.int .i64 x)).cell? p5=some (.int .i64 (be a p5)):=(World.cell?_setCell_other _ _ _ _ ne).trans h5;have g4:((a.setCell p4 (.int .i64 x)).setCell p5 (.int .i64 y)).cell? p4=some (.int .i64 x):=(World.cell?_setCell_other _ _ _ _ (Ne.symm ne)).trans (World.cell?_setCell_same _ _ _ h4);have g5:((a.setCell p4 (.int .i64 x)).setCell p5 (.int .i64 y)).cell? p5=some (.int .i64 y):=World.cell?_setCell_same _ _ _ s5;refine⟨(far _ n0).trans h0,(far _ n1).trans h1,(far _ n2).trans h2,(far _ n3).trans h3,fG g4,fG g5,(far _ n6).trans h6,(far _ n7).trans h7,?_,?_,(hw.setCell hB _).setCell (by rw[e5];exact hB) _⟩
 · simp[f4]
 · simp[f5]
theorem xq (a b c d x y:Int)(ok:Bool)(a1: -9223372036854775808<=a)(a2:a<=9223372036854775807)(b1: -9223372036854775808<=b)(b2:b<=9223372036854775807)(k1: -9223372036854775808<=c)(k2:c<=9223372036854775807)(d1: -9223372036854775808<=d)(d2:d<=9223372036854775807)
 (T:∀w,Calls Tryz.prog 64 #[.agg #[.int .u64 (am (dL a b c d)),.int .u64 (ak (dL a b c d))],.agg #[.int .u64 (am (d9 a b c d)),.int .u64 (ak (d9 a b c d))]] w fun e w'=>e=.returned (.tuple #[.agg #[.int .i64 x,.int .i64 y],.bool ok])/\Below w.heap.size w w') (w:World) :
 Calls Tryz.prog 35 #[.agg #[.int .i64 a,.int .i64 b],.agg #[.int .i64 c,.int .i64 d]] w fun e w'=>e=.returned (.tuple #[.agg #[.int .i64 x,.int .i64 y],.bool ok])/\Below w.heap.size w w':=by
 have TD:Hid (∀w,Calls Tryz.prog 64 #[.agg #[.int .u64 (am (a*c+-(b*d))),.int .u64 (ak (a*c+-(b*d)))],.agg #[.int .u64 (am (a*d+b*c+b*d)),.int .u64 (ak (a*d+b*c+b*d))]] w fun e w'=>e=.returned (.tuple #[.agg #[.int .i64 x,.int .i64 y],.bool ok])/\Below w.heap.size w w'):=T;clear T
 go_enter Tryz.func35,Tryz.ntmps35
 go_wp2_with fail;refine(eW b d b1 b2 d1 d2 _).mono ?_;rintro e w1 ⟨rfl,c1⟩;obtain⟨hc,hf⟩:=bQ c1;have z1:w.heap.size+1+1<w1.heap.size:=by have:=c1.size;simp at this;omega
 have hbw:Below w.heap.size w (w1.alloc (.cells #[.int .u64 (am (b*d)),.int .u64 (ak (b*d))] 45)).drew :=
  ((((((Below.refl _ _).alloc (Nat.le_refl _) _).alloc (by simp) _).alloc (by simp;omega) _).trans (c1.mono (by simp;omega))).alloc (by omega) _).drew
 have hx:Below w1.heap.size w1 (w1.alloc (.cells #[.int .u64 (am (b*d)),.int .u64 (ak (b*d))] 45)).drew:=((Below.refl _ _).alloc (Nat.le_refl _) _).drew;have k0':w1.cell? ⟨w.heap.size,0,none⟩=some (.int .i64 a):=by rw[hc _ _ (by simp;try omega)];go_simp
 have s0:(w1.alloc (.cells #[.int .u64 (am (b*d)),.int .u64 (ak (b*d))] 45)).drew.cell? ⟨w.heap.size,0,none⟩=some (.int .i64 a):=aa hx k0';have k1':w1.cell? ⟨w.heap.size,1,none⟩=some (.int .i64 b):=by rw[hc _ _ (by simp;try omega)];go_simp
 have s1:(w1.alloc (.cells #[.int .u64 (am (b*d)),.int .u64 (ak (b*d))] 45)).drew.cell? ⟨w.heap.size,1,none⟩=some (.int .i64 b):=aa hx k1';have k2':w1.cell? ⟨w.heap.size+1,0,none⟩=some (.int .i64 c):=by rw[hc _ _ (by simp;try omega)];go_simp
 have s2:(w1.alloc (.cells #[.int .u64 (am (b*d)),.int .u64 (ak (b*d))] 45)).drew.cell? ⟨w.heap.size+1,0,none⟩=some (.int .i64 c):=aa hx k2';have k3':w1.cell? ⟨w.heap.size+1,1,none⟩=some (.int .i64 d):=by rw[hc _ _ (by simp;try omega)];go_simp
 have s3:(w1.alloc (.cells #[.int .u64 (am (b*d)),.int .u64 (ak (b*d))] 45)).drew.cell? ⟨w.heap.size+1,1,none⟩=some (.int .i64 d):=aa hx k3';have k4':w1.cell? ⟨w.heap.size+1+1,0,none⟩=some (.int .i64 0):=by rw[hc _ _ (by simp;try omega)];go_simp
 have s4:(w1.alloc (.cells #[.int .u64 (am (b*d)),.int .u64 (ak (b*d))] 45)).drew.cell? ⟨w.heap.size+1+1,0,none⟩=some (.int .i64 0):=aa hx k4';have k5':w1.cell? ⟨w.heap.size+1+1,1,none⟩=some (.int .i64 0):=by rw[hc _ _ (by simp;try omega)];go_simp
 have s5:(w1.alloc (.cells #[.int .u64 (am (b*d)),.int .u64 (ak (b*d))] 45)).drew.cell? ⟨w.heap.size+1+1,1,none⟩=some (.int .i64 0):=aa hx k5';have f4':w1.frozen? ⟨w.heap.size+1+1,0,none⟩=false:=by rw[hf _ _ (by simp;try omega)];go_simp
 have f4:(w1.alloc (.cells #[.int .u64 (am (b*d)),.int .u64 (ak (b*d))] 45)).drew.frozen? ⟨w.heap.size+1+1,0,none⟩=false:=ac hx k4' f4';have f5':w1.frozen? ⟨w.heap.size+1+1,1,none⟩=false:=by rw[hf _ _ (by simp;try omega)];go_simp
 have f5:(w1.alloc (.cells #[.int .u64 (am (b*d)),.int .u64 (ak (b*d))] 45)).drew.frozen? ⟨w.heap.size+1+1,1,none⟩=false:=ac hx k5' f5';have s6:(w1.alloc (.cells #[.int .u64 (am (b*d)),.int .u64 (ak (b*d))] 45)).drew.cell? ⟨w1.heap.size,0,none⟩=some (.int .u64 (am (b*d))):=by go_simp
 have s7:(w1.alloc (.cells #[.int .u64 (am (b*d)),.int .u64 (ak (b*d))] 45)).drew.cell? ⟨w1.heap.size,1,none⟩=some (.int .u64 (ak (b*d))):=by go_simp
 clear k0' k1' k2' k3' k4' k5' f4' f5' hc hf hx;go_wp2_with fail
 go_region_held3 (fun w'=>w'.cell? ⟨w.heap.size,0,none⟩=some (.int .i64 a)/\w'.cell? ⟨w.heap.size,1,none⟩=some (.int .i64 b)/\w'.cell? ⟨w.heap.size+1,0,none⟩=some (.int .i64 c)/\w'.cell? ⟨w.heap.size+1,1,none⟩=some (.int .i64 d)/\w'.cell? ⟨w.heap.size+1+1,0,none⟩=some (.int .i64 (be w' ⟨w.heap.size+1+1,0,none⟩))/\w'.cell? ⟨w.heap.size+1+1,1,none⟩=some (.int .i64 (be w' ⟨w.heap.size+1+1,1,none⟩))/\w'.cell? ⟨w1.heap.size,0,none⟩=some (.int .u64 (am (b*d)))/\w'.cell? ⟨w1.heap.size,1,none⟩=some (.int .u64 (ak (b*d)))/\w'.frozen? ⟨w.heap.size+1+1,0,none⟩=false/\w'.frozen? ⟨w.heap.size+1+1,1,none⟩=false/\Below w.heap.size w w') (first | exact⟨s0,s1,s2,s3,fG s4,fG s5,s6,s7,f4,f5,hbw⟩ | exact mq hb (by assumption) | exact pA (by simp;try omega) (by simp;try omega) (by simp;try omega) (by simp;try omega) (by simp;try omega) (by simp;try omega) rfl (by simp) (by simp;try omega) (by assumption))
  (first | (go_at_call 39;refine(gV (b*d) _).mono ?_;rintro e w' ⟨rfl,hb⟩) | (go_at_call 64;refine(TD.out _).mono ?_;rintro e w' ⟨rfl,hb⟩) | (go_at_call 16;refine(eW _ _ (by assumption) (by assumption) (by assumption) (by assumption) _).mono ?_;rintro e w' ⟨rfl,hb⟩) | (go_at_call 65;refine(rQ _ _ _).mono ?_;rintro e w' ⟨rfl,hb⟩))
 go_wp2;rename_i wA bA wB bB wC bC wD bD wE bE wF bF wG bG hS;obtain⟨g0,g1⟩:=au (u:=.int .i64 x) (v:=.int .i64 y) (aa hb (aa bG (aa bF (aa bE (aa bD (aa bC (aa bB (aa bA s4)))))))) (aa hb (aa bG (aa bF (aa bE (aa bD (aa bC (aa bB (aa bA s5))))))));exact bodyPost_ret (v:=.tuple #[.agg #[.int .i64 x,.int .i64 y],.bool ok]) (by simp[results,Tryz.results35,go_sem,g0,g1]) rfl ⟨rfl,hS.2.2.2.2.2.2.2.2.2.2⟩
theorem dM (a b c d:Int)(a1: -9223372036854775808<=a)(a2:a<=9223372036854775807)(b1: -9223372036854775808<=b)(b2:b<=9223372036854775807)(k1: -9223372036854775808<=c)(k2:c<=9223372036854775807)(d1: -9223372036854775808<=d)(d2:d<=9223372036854775807)
 (hx:aX (dL a b c d)=true) (hy:aX (d9 a b c d)=true) (w:World) :
 Calls Tryz.prog 35 #[.agg #[.int .i64 a,.int .i64 b],.agg #[.int .i64 c,.int .i64 d]] w fun e w'=>e=.returned (.tuple #[.agg #[.int .i64 (dL a b c d),.int .i64 (d9 a b c d)],.bool true])/\Below w.heap.size w w' :=
 xq a b c d _ _ _ a1 a2 b1 b2 k1 k2 d1 d2 (GM _ _ hx hy) w
theorem tF (a b:Int)(hb:0<b)(hz:¬b=0)(h:0<=a)(h2:a<=9223372036854775807)(w:World) :
 Calls Tryz.prog 165 #[.int .i64 a,.int .i64 b] w fun e w'=>e=.returned (.tuple #[.int .i64 (a / b),.int .i64 (a%b),.bool true])/\Below w.heap.size w w':=by
 have hr:0<=a%b:=Int.emod_nonneg _ hz
 go_enter Tryz.func165,Tryz.ntmps165
 go_wp2
 go_quiet (fail)
 go_wp2
 go_ret3
 exact⟨rfl,aB (Below.refl _ _) _⟩
theorem qp (a b q r:Int)(hb:0<b)(hz:¬b=0)(_h:a<0)(hq:a.tdiv b=q)(hr:a.tmod b=r)(q1: -9223372036854775808<=q)(q2:q<=9223372036854775807)(r1: -9223372036854775808<=r)(r2:r<=9223372036854775807)(h0:0<=r)(w:World) :
 Calls Tryz.prog 165 #[.int .i64 a,.int .i64 b] w fun e w'=>e=.returned (.tuple #[.int .i64 q,.int .i64 r,.bool true])/\Below w.heap.size w w':=by
 go_enter Tryz.func165,Tryz.ntmps165
 go_wp2
 go_quiet (fail)
 go_wp2
 go_ret3
 exact⟨rfl,aB (Below.refl _ _) _⟩
theorem r9 (a b q r:Int)(hb:0<b)(hz:¬b=0)(_h:a<0)(hq:a.tdiv b=q)(hr:a.tmod b=r)(q1: -9223372036854775807<=q)(q2:q<=9223372036854775807)(r1: -9223372036854775808<=r)(r2:r+b<=9223372036854775807)(h0:r<0)(w:World) :
 Calls Tryz.prog 165 #[.int .i64 a,.int .i64 b] w fun e w'=>e=.returned (.tuple #[.int .i64 (q-1),.int .i64 (r+b),.bool true])/\Below w.heap.size w w':=by
 go_enter Tryz.func165,Tryz.ntmps165
 go_wp2
 go_quiet (fail)
 go_wp2
 go_ret3
 exact⟨rfl,aB (Below.refl _ _) _⟩
theorem kG (a b:Int)(a1: -9223372036854775808<=a)(a2:a<=9223372036854775807)(hb:0<b)(b2:b<=9223372036854775807)(w:World) :
 Calls Tryz.prog 165 #[.int .i64 a,.int .i64 b] w fun e w'=>e=.returned (.tuple #[.int .i64 (a / b),.int .i64 (a%b),.bool true])/\Below w.heap.size w w':=by
 by_cases h:0<=a
 · exact tF a b hb (by omega) h a2 w
 · have e:=Int.mul_tdiv_add_tmod a b;have q:=vA (a:=b) a1 a2 (by omega);have r1:a.tmod b= -((-a)%b):=by
    have:=Int.neg_tmod (-a) b;rw[Int.neg_neg]at this;rw[this,Int.tmod_eq_emod_of_nonneg (by omega)]
   have r2:=Int.emod_nonneg (-a) (b:=b) (by omega);have r3:=Int.emod_lt_of_pos (-a) hb;by_cases h0:0<=a.tmod b
   · have u:=(Int.ediv_emod_unique (a:=a) (r:=a.tmod b) (q:=a.tdiv b) hb).2 ⟨by omega,h0,by omega⟩;rw[u.1,u.2];exact qp a b _ _ hb (by omega) (by omega) rfl rfl q.1 q.2 (by omega) (by omega) h0 w
   · have u:=(Int.ediv_emod_unique (a:=a) (r:=a.tmod b+b) (q:=a.tdiv b-1) hb).2 ⟨by rw[Int.mul_sub];omega,by omega,by omega⟩;rw[u.1,u.2];have q1: -9223372036854775807<=a.tdiv b:=by
      by_cases hm:a.tdiv b= -9223372036854775808
      · exfalso
        rw[hm]at e;omega
      · omega
     exact r9 a b _ _ hb (by omega) (by omega) rfl rfl q1 q.2 (by omega) (by omega) (by omega) w
theorem jO (n:Int)(n1: -9223372036854775808<n)(n2:n<=9223372036854775807)(w:World) :
 Calls Tryz.prog 202 #[.int .i64 n] w fun e w'=>e=.returned (.int .i64 (n.natAbs:Int))/\w'=w:=by
 by_cases h:n<0
 · have e:(n.natAbs:Int)= -n:=by omega
   rw[e]
   go_enter Tryz.func202,Tryz.ntmps202
   go_wp2;go_ret;exact⟨rfl,rfl⟩
 · have e:(n.natAbs:Int)=n:=by omega
   rw[e]
   go_enter Tryz.func202,Tryz.ntmps202
   go_wp2;go_ret;exact⟨rfl,rfl⟩
def fT (d s t:Int):Bool:=decide ((2*s+t).natAbs<=d.toNat/\(s+2*t).natAbs<=d.toNat/\(s-t).natAbs<=d.toNat)
theorem rg {d s t:Int}(hd:0<=d):fT d s t=true↔Hex d s t:=by
 unfold fT Hex;rw[decide_eq_true_iff];omega
theorem pw (s t d:Int)(s1: -9007199254740992<=s)(s2:s<=9007199254740992)(t1: -9007199254740992<=t)(t2:t<=9007199254740992)(hd:0<=d)(w:World) :
 Calls Tryz.prog 166 #[.int .i64 s,.int .i64 t,.int .i64 d] w fun e w'=>e=.returned (.bool (fT d s t))/\w'=w:=by
 obtain⟨x,hx⟩:∃x:Int,((2*s+t).natAbs:Int)=x:=⟨_,rfl⟩
 obtain⟨y,hy⟩:∃y:Int,((s+2*t).natAbs:Int)=y:=⟨_,rfl⟩
 obtain⟨z,hz⟩:∃z:Int,((s-t).natAbs:Int)=z:=⟨_,rfl⟩
 have HB:Hid (fT d s t=decide (x<=d/\y<=d/\z<=d)):=by
  show fT d s t=_
  unfold fT;congr 1;apply propext;omega
 by_cases h1:x<=d
 · by_cases h2:y<=d
   · by_cases h3:z<=d
     · have HR:Hid (fT d s t=true):=by show _;rw[HB.out];exact decide_eq_true ⟨h1,h2,h3⟩
       clear HB
       go_enter Tryz.func166,Tryz.ntmps166
       go_wp2_with (go_at_call 202;refine(jO _ (by omega) (by omega) _).mono ?_;rintro e w' ⟨rfl,rfl⟩)
       go_ret;exact⟨by rw[HR.out];rfl,rfl⟩
     · have HR:Hid (fT d s t=false):=by show _;rw[HB.out];exact decide_eq_false (by omega)
       clear HB;have h3':=df h3
       go_enter Tryz.func166,Tryz.ntmps166
       go_wp2_with (go_at_call 202;refine(jO _ (by omega) (by omega) _).mono ?_;rintro e w' ⟨rfl,rfl⟩)
       go_ret;exact⟨by rw[HR.out];rfl,rfl⟩
   · have HR:Hid (fT d s t=false):=by show _;rw[HB.out];exact decide_eq_false (by omega)
     clear HB;have h2':=df h2
     go_enter Tryz.func166,Tryz.ntmps166
     go_wp2_with (go_at_call 202;refine(jO _ (by omega) (by omega) _).mono ?_;rintro e w' ⟨rfl,rfl⟩)
     go_ret;exact⟨by rw[HR.out];rfl,rfl⟩
 · have HR:Hid (fT d s t=false):=by show _;rw[HB.out];exact decide_eq_false (by omega)
   clear HB;have h1':=df h1
   go_enter Tryz.func166,Tryz.ntmps166
   go_wp2_with (go_at_call 202;refine(jO _ (by omega) (by omega) _).mono ?_;rintro e w' ⟨rfl,rfl⟩)
   go_ret;exact⟨by rw[HR.out];rfl,rfl⟩
theorem kH (u v d:Int)(u1: -1152921504606846976<=u)(u2:u<=1152921504606846976)(v1: -1152921504606846976<=v)(v2:v<=1152921504606846976)(d1:1<=d)(d2:d<=1125899906842624)(w:World) :
 Calls Tryz.prog 117 #[.agg #[.int .i64 u,.int .i64 v],.int .i64 d] w fun e w'=>yj d u v e/\Below w.heap.size w w':=by
 have q1: -1152921504606846976<=u / d/\u / d<=1152921504606846976:=kY u1 u2 d1;have q2: -1152921504606846976<=v / d/\v / d<=1152921504606846976:=kY v1 v2 d1;have r1:=Int.emod_nonneg u (b:=d) (by omega);have r2:=Int.emod_lt_of_pos u (b:=d) (by omega);have r3:=Int.emod_nonneg v (b:=d) (by omega);have r4:=Int.emod_lt_of_pos v (b:=d) (by omega);have E1:Hid (u=d*(u / d)+u%d):=(Int.mul_ediv_add_emod u d).symm;have E2:Hid (v=d*(v / d)+v%d):=(Int.mul_ediv_add_emod v d).symm;have F1:∀w,Calls Tryz.prog 165 #[.int .i64 u,.int .i64 d] w fun e w'=>e=.returned (.tuple #[.int .i64 (u / d),.int .i64 (u%d),.bool true])/\Below w.heap.size w w':=kG u d (by omega) (by omega) (by omega) (by omega);have F2:∀w,Calls Tryz.prog 165 #[.int .i64 v,.int .i64 d] w fun e w'=>e=.returned (.tuple #[.int .i64 (v / d),.int .i64 (v%d),.bool true])/\Below w.heap.size w w':=kG v d (by omega) (by omega) (by omega) (by omega);generalize u / d=a at q1 E1 F1;generalize v / d=b at q2 E2 F2;generalize u%d=s at r1 r2 E1 F1;generalize v%d=t at r3 r4 E2 F2;replace F1:Hid _:=F1;replace F2:Hid _:=F2
 go_enter Tryz.func117,Tryz.ntmps117
 go_wp2_with fail;refine(F1.out _).mono ?_;rintro e w1 ⟨rfl,c1⟩;have d0:w1.cell? ⟨w.heap.size,0,none⟩=some (.int .i64 u):=by rw[c1.cell (p:=⟨w.heap.size,0,none⟩) (by simp;omega)];go_simp
 have d1:w1.cell? ⟨w.heap.size,1,none⟩=some (.int .i64 v):=by rw[c1.cell (p:=⟨w.heap.size,1,none⟩) (by simp;omega)];go_simp
 go_wp2_with fail;refine(F2.out _).mono ?_;rintro e w2 ⟨rfl,c2⟩;have e0:w2.cell? ⟨w.heap.size+1,0,none⟩=some (.int .i64 0):=by
  rw[c2.cell (p:=⟨w.heap.size+1,0,none⟩) (by have:=c1.size;simp at this;show w.heap.size+1<w1.heap.size;omega),c1.cell (p:=⟨w.heap.size+1,0,none⟩) (by simp)];go_simp
 have e1:w2.cell? ⟨w.heap.size+1,1,none⟩=some (.int .i64 0):=by
  rw[c2.cell (p:=⟨w.heap.size+1,1,none⟩) (by have:=c1.size;simp at this;show w.heap.size+1<w1.heap.size;omega),c1.cell (p:=⟨w.heap.size+1,1,none⟩) (by simp)];go_simp
 have f0:w2.frozen? ⟨w.heap.size+1,0,none⟩=false:=by
  rw[c2.frozen (p:=⟨w.heap.size+1,0,none⟩) (by have:=c1.size;simp at this;show w.heap.size+1<w1.heap.size;omega),c1.frozen (p:=⟨w.heap.size+1,0,none⟩) (by simp)];go_simp
 have f1:w2.frozen? ⟨w.heap.size+1,1,none⟩=false:=by
  rw[c2.frozen (p:=⟨w.heap.size+1,1,none⟩) (by have:=c1.size;simp at this;show w.heap.size+1<w1.heap.size;omega),c1.frozen (p:=⟨w.heap.size+1,1,none⟩) (by simp)];go_simp
 have BW:Hid (Below w.heap.size w w2):=by
  have h1:Below w.heap.size w w1:=(((Below.refl _ _).alloc (Nat.le_refl _) _).alloc (by simp) _).trans (c1.mono (by simp;omega));exact h1.trans (c2.mono h1.size)
 clear c1 c2 d0 d1 F1 F2;go_wp2_with fail
 go_loop [12] (fun vi=>∃i:Int,-1<=i/\i<=3/\vi=.int .i64 i/\Hid (∀i' k',i'<i->¬dT d s t i' k')) (fun vi=>(3-intOf vi).toNat)
 case atStart=>exact⟨-1,by omega,by omega,rfl,fun i' k' hi h=>by have:=fM r1 r2 r3 r4 h;omega⟩
 case round =>
  obtain⟨i,i1,i2,rfl,HI⟩:=hrel;by_cases hi:i<=2
  · obtain⟨bi1,bi2⟩:=uP i1 hi d1 d2;go_wp2_with fail
    go_loop [13] (fun vk=>∃k:Int,-1<=k/\k<=3/\vk=.int .i64 k/\Hid (∀k',k'<k->¬dT d s t i k')) (fun vk=>(3-intOf vk).toNat)
    case atStart=>exact⟨-1,by omega,by omega,rfl,fun k' hk h=>by have:=fM r1 r2 r3 r4 h;omega⟩
    case round =>
     obtain⟨k,k1,k2,rfl,HK⟩:=hrel;by_cases hk:k<=2
     · obtain⟨bk1,bk2⟩:=uP k1 hk d1 d2;cases hB:fT d (s-i*d) (t-k*d)with
       | true =>
        have HB:Hid (fT d (s-i*d) (t-k*d)=true):=hB;clear hB;obtain⟨g0,g1⟩:=au (u:=.int .i64 (a+i)) (v:=.int .i64 (b+k)) e0 e1;go_wp2_with fail;refine(pw (s-i*d) (t-k*d) d (by omega) (by omega) (by omega) (by omega) (by omega) _).mono ?_;rw[HB.out];rintro e w3 ⟨rfl,rfl⟩;go_wp2;refine bodyPost_ret (v:=.tuple #[.agg #[.int .i64 (a+i),.int .i64 (b+k)],.bool true]) (by simp[results,Tryz.results117,go_sem,g0,g1]) rfl ⟨⟨a+i,b+k,rfl,jC E1.out E2.out ((rg (by omega)).1 HB.out) (fun i' k' h=>?_)⟩,(BW.out.setCell (by simp) _).setCell (by simp) _⟩;by_cases hlt:i'<i
        · exact absurd h (HI.out i' k' hlt)
        · by_cases he:i'=i
          · subst he;by_cases hkl:k'<k
            · exact absurd h (HK.out k' hkl)
            · omega
          · omega
       | false =>
        have HB:Hid (fT d (s-i*d) (t-k*d)=false):=hB;clear hB;go_wp2_with fail;refine(pw (s-i*d) (t-k*d) d (by omega) (by omega) (by omega) (by omega) (by omega) _).mono ?_;rw[HB.out];rintro e w3 ⟨rfl,rfl⟩;go_wp2
        go_round
        case rel =>
         refine⟨k+1,by omega,by omega,rfl,fun k' hk' h=>?_⟩;by_cases he:k'=k
         · subst he;have:=(rg (show 0<=d by omega)).2 h;rw[HB.out]at this;cases this
         · exact HK.out k' (by omega) h
        case measure=>simp[intOf];omega
     · have hk':¬k<3:=by omega
       go_wp2
       go_round
       case rel =>
        refine⟨i+1,by omega,by omega,rfl,fun i' k' hi' h=>?_⟩;by_cases he:i'=i
        · subst he;have hw:=fM r1 r2 r3 r4 h;exact HK.out k' (by omega) h
        · exact HI.out i' k' (by omega) h
       case measure=>simp[intOf];omega
  · exfalso
    obtain⟨i',k',h⟩:=zb r1 r2 r3 r4;have hw:=fM r1 r2 r3 r4 h;exact HI.out i' k' (by omega) h
def mf (n l h:Int):Bool:=decide (l<=n/\n<=h)
theorem x8 (n l h:Int)(h1:l<=n)(h2:n<=h)(w:World) :
 Calls Tryz.prog 185 #[.int .i64 n,.int .i64 l,.int .i64 h] w fun e w'=>e=.returned (.bool true)/\w'=w:=by
 go_enter Tryz.func185,Tryz.ntmps185
 go_wp2;go_ret;exact⟨rfl,rfl⟩
theorem sS (n l h:Int)(h1:decide (l<=n)=false)(w:World) :
 Calls Tryz.prog 185 #[.int .i64 n,.int .i64 l,.int .i64 h] w fun e w'=>e=.returned (.bool false)/\w'=w:=by
 go_enter Tryz.func185,Tryz.ntmps185
 go_wp2;go_ret;exact⟨rfl,rfl⟩
theorem sQ (n l h:Int)(h1:l<=n)(h2:decide (n<=h)=false)(w:World) :
 Calls Tryz.prog 185 #[.int .i64 n,.int .i64 l,.int .i64 h] w fun e w'=>e=.returned (.bool false)/\w'=w:=by
 go_enter Tryz.func185,Tryz.ntmps185
 go_wp2;go_ret;exact⟨rfl,rfl⟩
theorem xZ (n l h:Int)(w:World) :
 Calls Tryz.prog 185 #[.int .i64 n,.int .i64 l,.int .i64 h] w fun e w'=>e=.returned (.bool (mf n l h))/\w'=w:=by
 by_cases h1:l<=n
 · by_cases h2:n<=h
   · rw[show mf n l h=true from decide_eq_true ⟨h1,h2⟩];exact x8 n l h h1 h2 w
   · rw[show mf n l h=false from decide_eq_false (fun k=>h2 k.2)];exact sQ n l h h1 (df h2) w
 · rw[show mf n l h=false from decide_eq_false (fun k=>h1 k.1)];exact sS n l h (df h1) w
theorem Iv (s t d:Int)(w:World) :
 Calls Tryz.prog 213 #[.agg #[.int .i64 s,.int .i64 t,.int .i64 d]] w fun e w'=>e=.returned (.int .i64 (dz s t d 0))/\Below w.heap.size w w':=by
 show Calls _ _ _ _ fun e w'=>e=.returned (.int .i64 (0))/\Below w.heap.size w w'
 go_enter Tryz.func213,Tryz.ntmps213
 go_wp2;go_ret;exact⟨rfl,by go_grown⟩
theorem Iw (s t d:Int)(s0:0<=s)(s1:s<d)(t0:0<=t)(t1:t<d)(d2:d<=1125899906842624)(w:World) :
 Calls Tryz.prog 214 #[.agg #[.int .i64 s,.int .i64 t,.int .i64 d]] w fun e w'=>e=.returned (.int .i64 (dz s t d 1))/\Below w.heap.size w w':=by
 show Calls _ _ _ _ fun e w'=>e=.returned (.int .i64 (d-s-2*t))/\Below w.heap.size w w'
 go_enter Tryz.func214,Tryz.ntmps214
 go_wp2;go_ret;exact⟨rfl,by go_grown⟩
theorem Iy (s t d:Int)(s0:0<=s)(s1:s<d)(t0:0<=t)(t1:t<d)(d2:d<=1125899906842624)(w:World) :
 Calls Tryz.prog 215 #[.agg #[.int .i64 s,.int .i64 t,.int .i64 d]] w fun e w'=>e=.returned (.int .i64 (dz s t d 2))/\Below w.heap.size w w':=by
 show Calls _ _ _ _ fun e w'=>e=.returned (.int .i64 (d-2*s-t))/\Below w.heap.size w w'
 go_enter Tryz.func215,Tryz.ntmps215
 go_wp2;go_ret;exact⟨rfl,by go_grown⟩
theorem Iz (s t d:Int)(s0:0<=s)(s1:s<d)(t0:0<=t)(t1:t<d)(d2:d<=1125899906842624)(w:World) :
 Calls Tryz.prog 216 #[.agg #[.int .i64 s,.int .i64 t,.int .i64 d]] w fun e w'=>e=.returned (.int .i64 (dz s t d 3))/\Below w.heap.size w w':=by
 show Calls _ _ _ _ fun e w'=>e=.returned (.int .i64 (3*(d-s-t)))/\Below w.heap.size w w'
 go_enter Tryz.func216,Tryz.ntmps216
 go_wp2;go_ret;exact⟨rfl,by go_grown⟩
theorem jI {s t d l:Int}{k b:Nat}(h:br s t d k=(b,l))(hl:dz s t d k<l):br s t d (k+1)=(k,dz s t d k):=by
 show(if dz s t d k<(br s t d k).2 then (k,dz s t d k)else br s t d k)=_
 rw[h];exact if_pos hl
theorem ls {s t d l:Int}{k b:Nat}(h:br s t d k=(b,l))(hl:¬dz s t d k<l):br s t d (k+1)=(b,l):=by
 show(if dz s t d k<(br s t d k).2 then (k,dz s t d k)else br s t d k)=_
 rw[h];exact if_neg hl
theorem Gy (w:World):(Instr.index 260 (.agg #[.func (.func 213) #[] #[],.func (.func 214) #[] #[],.func (.func 215) #[] #[],.func (.func 216) #[] #[]]) (.int .i64 0)).run Tryz.prog w=.ok (.func (.func 213) #[] #[]) w:=by kernel_rfl
theorem Gz (w:World):(Instr.index 260 (.agg #[.func (.func 213) #[] #[],.func (.func 214) #[] #[],.func (.func 215) #[] #[],.func (.func 216) #[] #[]]) (.int .i64 1)).run Tryz.prog w=.ok (.func (.func 214) #[] #[]) w:=by kernel_rfl
theorem GA (w:World):(Instr.index 260 (.agg #[.func (.func 213) #[] #[],.func (.func 214) #[] #[],.func (.func 215) #[] #[],.func (.func 216) #[] #[]]) (.int .i64 2)).run Tryz.prog w=.ok (.func (.func 215) #[] #[]) w:=by kernel_rfl
theorem GB (w:World):(Instr.index 260 (.agg #[.func (.func 213) #[] #[],.func (.func 214) #[] #[],.func (.func 215) #[] #[],.func (.func 216) #[] #[]]) (.int .i64 3)).run Tryz.prog w=.ok (.func (.func 216) #[] #[]) w:=by kernel_rfl
theorem tt (s t d:Int)(s0:0<=s)(s1:s<d)(t0:0<=t)(t1:t<d)(d2:d<=1125899906842624)(w:World) :
 Calls Tryz.prog 186 #[.agg #[.int .i64 s,.int .i64 t,.int .i64 d]] w fun e w'=>e=.returned (.tuple #[.int .i64 (((br s t d 4).1:Int) / 2),.int .i64 (((br s t d 4).1:Int)%2)])/\Below w.heap.size w w':=by
 have C0:Hid (∀w,Calls Tryz.prog 213 #[.agg #[.int .i64 s,.int .i64 t,.int .i64 d]] w fun e w'=>e=.returned (.int .i64 0)/\Below w.heap.size w w'):=Iv s t d;have C1:Hid (∀w,Calls Tryz.prog 214 #[.agg #[.int .i64 s,.int .i64 t,.int .i64 d]] w fun e w'=>e=.returned (.int .i64 (dz s t d 1))/\Below w.heap.size w w'):=Iw s t d s0 s1 t0 t1 d2;have C2:Hid (∀w,Calls Tryz.prog 215 #[.agg #[.int .i64 s,.int .i64 t,.int .i64 d]] w fun e w'=>e=.returned (.int .i64 (dz s t d 2))/\Below w.heap.size w w'):=Iy s t d s0 s1 t0 t1 d2;have C3:Hid (∀w,Calls Tryz.prog 216 #[.agg #[.int .i64 s,.int .i64 t,.int .i64 d]] w fun e w'=>e=.returned (.int .i64 (dz s t d 3))/\Below w.heap.size w w'):=Iz s t d s0 s1 t0 t1 d2;clear s0 s1 t0 t1 d2
 go_enter Tryz.func186,Tryz.ntmps186
 go_wp2_with fail;refine(C0.out _).mono ?_;rintro e w1 ⟨rfl,c1⟩;obtain⟨hc,hf⟩:=bQ c1;have x0:w1.cell? ⟨w.heap.size,0,none⟩=some (.int .i64 s):=by rw[hc _ _ (by simp)];go_simp
 have x1:w1.cell? ⟨w.heap.size,1,none⟩=some (.int .i64 t):=by rw[hc _ _ (by simp)];go_simp
 have x2:w1.cell? ⟨w.heap.size,2,none⟩=some (.int .i64 d):=by rw[hc _ _ (by simp)];go_simp
 have hb1:Below w.heap.size w w1:=Below.trans (by go_grown) (c1.mono (by simp;try omega));clear hc hf c1;go_wp2_with fail;go_loopw [4,5,12] (fun vb vl vi wr=>∃(k b:Nat) (l:Int),k<=4/\b<=3/\vi=.int .i64 (k:Int)/\vb=.int .i64 (b:Int)/\vl=.int .i64 l/\Hid (br s t d k=(b,l))/\wr.cell? ⟨w.heap.size,0,none⟩=some (.int .i64 s)/\wr.cell? ⟨w.heap.size,1,none⟩=some (.int .i64 t)/\wr.cell? ⟨w.heap.size,2,none⟩=some (.int .i64 d)/\Below w.heap.size w wr) (fun _ _ vi _=>4-(intOf vi).toNat)
 case atStart=>exact⟨0,0,0,by omega,by omega,rfl,rfl,rfl,rfl,x0,x1,x2,hb1⟩
 case round =>
  obtain⟨k,b,l,hk,hb,rfl,rfl,rfl,HP,y0,y1,y2,hB⟩:=hrel;clear x0 x1 x2 hb1;have ck:k=0∨k=1∨k=2∨k=3∨k=4:=by omega
  rcases ck with rfl | rfl | rfl | rfl | rfl
  · have CK:=C0;clear C0 C1 C2 C3;have HI:=Gy;by_cases hlt:0<l
    · go_wp2_with fail;refine(CK.out _).mono ?_;rintro e w2 ⟨rfl,c2⟩;have z0:=aa c2 y0;have z1:=aa c2 y1;have z2:=aa c2 y2;have hB2:=ae hB c2;clear y0 y1 y2 hB c2;go_wp2;go_roundw
      case rel=>exact⟨1,0,0,by omega,by omega,rfl,rfl,rfl,by show br s t d (0+1)=_;rw[jI HP.out (by exact hlt)];rfl,z0,z1,z2,hB2⟩
      case measure=>simp[intOf]
    · have hlt':=df hlt;go_wp2_with fail;refine(CK.out _).mono ?_;rintro e w2 ⟨rfl,c2⟩;have z0:=aa c2 y0;have z1:=aa c2 y1;have z2:=aa c2 y2;have hB2:=ae hB c2;clear y0 y1 y2 hB c2;go_wp2;go_roundw
      case rel=>exact⟨1,b,l,by omega,by omega,rfl,rfl,rfl,ls HP.out (by show ¬(0:Int)<l;omega),z0,z1,z2,hB2⟩
      case measure=>simp[intOf]
  · obtain⟨f,hF⟩:∃f,dz s t d 1=f:=⟨_,rfl⟩
    have CK:=C1;rw[hF]at CK;replace hF:Hid _:=hF;clear C0 C1 C2 C3;have HI:=Gz;by_cases hlt:f<l
    · go_wp2_with fail;refine(CK.out _).mono ?_;rintro e w2 ⟨rfl,c2⟩;have z0:=aa c2 y0;have z1:=aa c2 y1;have z2:=aa c2 y2;have hB2:=ae hB c2;clear y0 y1 y2 hB c2;go_wp2;go_roundw
      case rel=>exact⟨2,1,f,by omega,by omega,rfl,rfl,rfl,by show br s t d (1+1)=_;rw[jI HP.out (by rw[hF.out];exact hlt)];rw[hF.out],z0,z1,z2,hB2⟩
      case measure=>simp[intOf]
    · have hlt':=df hlt;go_wp2_with fail;refine(CK.out _).mono ?_;rintro e w2 ⟨rfl,c2⟩;have z0:=aa c2 y0;have z1:=aa c2 y1;have z2:=aa c2 y2;have hB2:=ae hB c2;clear y0 y1 y2 hB c2;go_wp2;go_roundw
      case rel=>exact⟨2,b,l,by omega,by omega,rfl,rfl,rfl,ls HP.out (by rw[hF.out];omega),z0,z1,z2,hB2⟩
      case measure=>simp[intOf]
  · obtain⟨f,hF⟩:∃f,dz s t d 2=f:=⟨_,rfl⟩
    have CK:=C2;rw[hF]at CK;replace hF:Hid _:=hF;clear C0 C1 C2 C3;have HI:=GA;by_cases hlt:f<l
    · go_wp2_with fail;refine(CK.out _).mono ?_;rintro e w2 ⟨rfl,c2⟩;have z0:=aa c2 y0;have z1:=aa c2 y1;have z2:=aa c2 y2;have hB2:=ae hB c2;clear y0 y1 y2 hB c2;go_wp2;go_roundw
      case rel=>exact⟨3,2,f,by omega,by omega,rfl,rfl,rfl,by show br s t d (2+1)=_;rw[jI HP.out (by rw[hF.out];exact hlt)];rw[hF.out],z0,z1,z2,hB2⟩
      case measure=>simp[intOf]
    · have hlt':=df hlt;go_wp2_with fail;refine(CK.out _).mono ?_;rintro e w2 ⟨rfl,c2⟩;have z0:=aa c2 y0;have z1:=aa c2 y1;have z2:=aa c2 y2;have hB2:=ae hB c2;clear y0 y1 y2 hB c2;go_wp2;go_roundw
      case rel=>exact⟨3,b,l,by omega,by omega,rfl,rfl,rfl,ls HP.out (by rw[hF.out];omega),z0,z1,z2,hB2⟩
      case measure=>simp[intOf]
  · obtain⟨f,hF⟩:∃f,dz s t d 3=f:=⟨_,rfl⟩
    have CK:=C3;rw[hF]at CK;replace hF:Hid _:=hF;clear C0 C1 C2 C3;have HI:=GB;by_cases hlt:f<l
    · go_wp2_with fail;refine(CK.out _).mono ?_;rintro e w2 ⟨rfl,c2⟩;have z0:=aa c2 y0;have z1:=aa c2 y1;have z2:=aa c2 y2;have hB2:=ae hB c2;clear y0 y1 y2 hB c2;go_wp2;go_roundw
      case rel=>exact⟨4,3,f,by omega,by omega,rfl,rfl,rfl,by show br s t d (3+1)=_;rw[jI HP.out (by rw[hF.out];exact hlt)];rw[hF.out],z0,z1,z2,hB2⟩
      case measure=>simp[intOf]
    · have hlt':=df hlt;go_wp2_with fail;refine(CK.out _).mono ?_;rintro e w2 ⟨rfl,c2⟩;have z0:=aa c2 y0;have z1:=aa c2 y1;have z2:=aa c2 y2;have hB2:=ae hB c2;clear y0 y1 y2 hB c2;go_wp2;go_roundw
      case rel=>exact⟨4,b,l,by omega,by omega,rfl,rfl,rfl,ls HP.out (by rw[hF.out];omega),z0,z1,z2,hB2⟩
      case measure=>simp[intOf]
  · clear C0 C1 C2 C3;go_wp2
    go_ret2
    exact⟨by rw[HP.out];rfl,hB⟩
theorem wv (u v d:Int)(u1: -1152921504606846976<=u)(u2:u<=1152921504606846976)(v1: -1152921504606846976<=v)(v2:v<=1152921504606846976)(d1:1<=d)(d2:d<=1125899906842624)(w:World) :
 Calls Tryz.prog 147 #[.agg #[.int .i64 u,.int .i64 v],.int .i64 d] w fun e w'=>yj d u v e/\Below w.heap.size w w':=by
 have q1: -1152921504606846976<=u / d/\u / d<=1152921504606846976:=kY u1 u2 d1;have q2: -1152921504606846976<=v / d/\v / d<=1152921504606846976:=kY v1 v2 d1;have r1:=Int.emod_nonneg u (b:=d) (by omega);have r2:=Int.emod_lt_of_pos u (b:=d) (by omega);have r3:=Int.emod_nonneg v (b:=d) (by omega);have r4:=Int.emod_lt_of_pos v (b:=d) (by omega);have E1:Hid (u=d*(u / d)+u%d):=(Int.mul_ediv_add_emod u d).symm;have E2:Hid (v=d*(v / d)+v%d):=(Int.mul_ediv_add_emod v d).symm;have F1:∀w,Calls Tryz.prog 137 #[.int .i64 u,.int .i64 d] w fun e w'=>e=.returned (.tuple #[.int .i64 (u / d),.int .i64 (u%d),.bool true])/\Below w.heap.size w w':=cS u d (by omega) (by omega) (by omega) (by omega);have F2:∀w,Calls Tryz.prog 137 #[.int .i64 v,.int .i64 d] w fun e w'=>e=.returned (.tuple #[.int .i64 (v / d),.int .i64 (v%d),.bool true])/\Below w.heap.size w w':=cS v d (by omega) (by omega) (by omega) (by omega);generalize u / d=a at q1 E1 F1;generalize v / d=b at q2 E2 F2;generalize u%d=s at r1 r2 E1 F1;generalize v%d=t at r3 r4 E2 F2;have PN:=pS r1 r2 r3 r4;have hN:aU d u v (a+(((br s t d 4).1:Nat):Int) / 2) (b+(((br s t d 4).1:Nat):Int)%2):=jC E1.out E2.out PN.1 PN.2;have NE:=tt s t d r1 r2 r3 r4 d2;have hp:0<=(((br s t d 4).1:Nat):Int)/\(((br s t d 4).1:Nat):Int)<=4:=by have:=va s t d 4;omega
 generalize (((br s t d 4).1:Nat):Int)=p at hN NE hp;obtain⟨i,hi⟩:∃i,p / 2=i:=⟨_,rfl⟩
 obtain⟨k,hk⟩:∃k,p%2=k:=⟨_,rfl⟩
 have i1:0<=i/\i<=2:=by omega
 have k1:0<=k/\k<=1:=by omega
 rw[hi,hk]at hN NE;replace F1:Hid _:=F1;replace F2:Hid _:=F2;replace NE:Hid _:=NE;replace hN:Hid _:=hN;have b1:mf d 1 1125899906842624=true:=decide_eq_true ⟨d1,d2⟩;have b2:mf u (-1152921504606846976) 1152921504606846976=true:=decide_eq_true ⟨u1,u2⟩;have b3:mf v (-1152921504606846976) 1152921504606846976=true:=decide_eq_true ⟨v1,v2⟩;clear PN hi hk hp E1 E2 r1 r2 r3 r4
 go_enter Tryz.func147,Tryz.ntmps147
 go_wp2_with (first | (go_at_call 185;refine(xZ _ _ _ _).mono ?_;rintro e w' ⟨rfl,rfl⟩))
 go_wp2_with fail;refine(F1.out _).mono ?_;rintro e w1 ⟨rfl,c1⟩;obtain⟨hc,hf⟩:=bQ c1;go_wp2_with fail;refine(F2.out _).mono ?_;rintro e w2 ⟨rfl,c2⟩;replace c2:=ae c1 c2;clear c1 hc hf;obtain⟨hc,hf⟩:=bQ c2;go_wp2_with fail;refine(NE.out _).mono ?_;rintro e w3 ⟨rfl,c3⟩;replace c3:=ae c2 c3;clear c2 hc hf;obtain⟨hc,hf⟩:=bQ c3;have e0:w3.cell? ⟨w.heap.size+1,0,none⟩=some (.int .i64 0):=by rw[hc _ _ (by simp)];go_simp
 have e1:w3.cell? ⟨w.heap.size+1,1,none⟩=some (.int .i64 0):=by rw[hc _ _ (by simp)];go_simp
 obtain⟨g0,g1⟩:=au (u:=.int .i64 (a+i)) (v:=.int .i64 (b+k)) e0 e1;have hB:Below w.heap.size w w3:=Below.trans (by go_grown) (c3.mono (by simp;try omega));go_wp2;exact bodyPost_ret (v:=.tuple #[.agg #[.int .i64 (a+i),.int .i64 (b+k)],.bool true]) (by simp[results,Tryz.results147,go_sem,g0,g1]) rfl ⟨⟨a+i,b+k,rfl,hN.out⟩,(hB.setCell (by simp;try omega) _).setCell (by simp;try omega) _⟩
theorem vd (x y:Int)(h1:0<=x)(h2:x<1073741824)(h3:0<=y)(h4:y<1073741824)(w:World) :
 Calls Tryz.prog 90 #[.int .i64 x,.int .i64 y] w fun e w'=>e=.returned (.bool true)/\w'=w:=by
 go_enter Tryz.func90,Tryz.ntmps90
 go_wp2;go_ret;exact⟨rfl,rfl⟩
theorem FV (x y:Int)(h1:decide (0<=x)=false)(w:World) :
 Calls Tryz.prog 90 #[.int .i64 x,.int .i64 y] w fun e w'=>e=.returned (.bool false)/\w'=w:=by
 go_enter Tryz.func90,Tryz.ntmps90
 go_wp2;go_ret;exact⟨rfl,rfl⟩
theorem FW (x y:Int)(h1:0<=x)(h2:decide (x<1073741824)=false)(w:World) :
 Calls Tryz.prog 90 #[.int .i64 x,.int .i64 y] w fun e w'=>e=.returned (.bool false)/\w'=w:=by
 go_enter Tryz.func90,Tryz.ntmps90
 go_wp2;go_ret;exact⟨rfl,rfl⟩
theorem FY (x y:Int)(h1:0<=x)(h2:x<1073741824)(h3:decide (0<=y)=false)(w:World) :
 Calls Tryz.prog 90 #[.int .i64 x,.int .i64 y] w fun e w'=>e=.returned (.bool false)/\w'=w:=by
 go_enter Tryz.func90,Tryz.ntmps90
 go_wp2;go_ret;exact⟨rfl,rfl⟩
theorem F0 (x y:Int)(h1:0<=x)(h2:x<1073741824)(h3:0<=y)(h4:decide (y<1073741824)=false)(w:World) :
 Calls Tryz.prog 90 #[.int .i64 x,.int .i64 y] w fun e w'=>e=.returned (.bool false)/\w'=w:=by
 go_enter Tryz.func90,Tryz.ntmps90
 go_wp2;go_ret;exact⟨rfl,rfl⟩
theorem FU (x y:Int)(w:World) :
 Calls Tryz.prog 90 #[.int .i64 x,.int .i64 y] w fun e w'=>e=.returned (.bool (dA x y))/\w'=w:=by
 by_cases h1:0<=x
 · by_cases h2:x<1073741824
   · by_cases h3:0<=y
     · by_cases h4:y<1073741824
       · rw[g7 ⟨h1,h2,h3,h4⟩];exact vd x y h1 h2 h3 h4 w
       · rw[d8 fun h=>h4 h.2.2.2];exact F0 x y h1 h2 h3 (df h4) w
     · rw[d8 fun h=>h3 h.2.2.1];exact FY x y h1 h2 (df h3) w
   · rw[d8 fun h=>h2 h.2.1];exact FW x y h1 (df h2) w
 · rw[d8 fun h=>h1 h.1];exact FV x y (df h1) w
theorem zH (x y:Int)(v:Bool)(h:dA x y=v)(w:World) :
 Calls Tryz.prog 90 #[.int .i64 x,.int .i64 y] w fun e w'=>e=.returned (.bool v)/\Below w.heap.size w w':=by
 rw[←h];exact(FU x y w).mono fun e w' ⟨he,hw⟩=>⟨he,by rw[hw];exact Below.refl _ _⟩
theorem xj (x y u v:Int)(hw:InW x y)(hu:45*x-26*y=u)(hv:52*y=v)(w:World) :
 Calls Tryz.prog 144 #[.int .i64 x,.int .i64 y] w fun e w'=>e=.returned (.tuple #[.agg #[.int .i64 u,.int .i64 v],.bool true])/\Below w.heap.size w w':=by
 have OK:Hid (∀w,Calls Tryz.prog 90 #[.int .i64 x,.int .i64 y] w fun e w'=>e=.returned (.bool true)/\w'=w):=vd x y hw.1 hw.2.1 hw.2.2.1 hw.2.2.2;obtain⟨h1,h2,h3,h4⟩:=hw
 go_enter Tryz.func144,Tryz.ntmps144
 go_wp2_with fail;refine(OK.out _).mono ?_;rintro e w1 ⟨rfl,rfl⟩;go_wp2;exact bodyPost_ret (v:=.tuple #[.agg #[.int .i64 u,.int .i64 v],.bool true]) (by simp[results,Tryz.results144,go_sem]) rfl ⟨rfl,by go_grown⟩
theorem pU (r:Int)(K:Nat)(hK:K<=12)(hr:12-r=(K:Int))(w:World) :
 Calls Tryz.prog 130 #[.int .i64 r] w fun e w'=>e=.returned (.tuple #[.agg #[.int .i64 (bet K).1,.int .i64 (bet K).2],.bool true])/\Below w.heap.size w w':=by
 have BE:Hid (∀w,Calls Tryz.prog 172 #[.int .i64 (12-r)] w fun e w'=>e=.returned (.tuple #[.agg #[.int .i64 (bet K).1,.int .i64 (bet K).2],.bool true])/\Below w.heap.size w w'):=fun w=>by rw[hr];exact kg K (by omega) w
 have r0:0<=r:=by omega
 have r1:r<=12:=by omega
 clear hr;generalize (bet K).1=X at *;generalize (bet K).2=Y at *
 go_enter Tryz.func130,Tryz.ntmps130
 go_wp2_with fail;refine(BE.out _).mono ?_;rintro e w1 ⟨rfl,c1⟩;obtain⟨hc,hf⟩:=bQ c1;have e0:w1.cell? ⟨w.heap.size,0,none⟩=some (.int .i64 0):=by rw[hc _ _ (by simp)];go_simp
 have e1:w1.cell? ⟨w.heap.size,1,none⟩=some (.int .i64 0):=by rw[hc _ _ (by simp)];go_simp
 obtain⟨g0,g1⟩:=au (u:=.int .i64 X) (v:=.int .i64 Y) e0 e1;have hB:Below w.heap.size w w1:=Below.trans (by go_grown) (c1.mono (by simp;try omega));go_wp2;exact bodyPost_ret (v:=.tuple #[.agg #[.int .i64 X,.int .i64 Y],.bool true]) (by simp[results,Tryz.results130,go_sem,g0,g1]) rfl ⟨rfl,(hB.setCell (by simp;try omega) _).setCell (by simp;try omega) _⟩
theorem xl (x y r u v X Y c d N A B:Int)(P:Int->Int->Prop)(N1:1<=N)(N2:N<=13841287201)
 (AX:∀w,Calls Tryz.prog 144 #[.int .i64 x,.int .i64 y] w fun e w'=>e=.returned (.tuple #[.agg #[.int .i64 u,.int .i64 v],.bool true])/\Below w.heap.size w w')
 (ST:∀w,Calls Tryz.prog 130 #[.int .i64 r] w fun e w'=>e=.returned (.tuple #[.agg #[.int .i64 X,.int .i64 Y],.bool true])/\Below w.heap.size w w')
 (CJ:∀w,Calls Tryz.prog 145 #[.agg #[.int .i64 X,.int .i64 Y]] w fun e w'=>e=.returned (.tuple #[.agg #[.int .i64 c,.int .i64 d],.bool true])/\Below w.heap.size w w')
 (MU:∀w,Calls Tryz.prog 132 #[.agg #[.int .i64 u,.int .i64 v],.agg #[.int .i64 c,.int .i64 d]] w fun e w'=>e=.returned (.tuple #[.agg #[.int .i64 A,.int .i64 B],.bool true])/\Below w.heap.size w w')
 (NO:∀w,Calls Tryz.prog 146 #[.agg #[.int .i64 X,.int .i64 Y]] w fun e w'=>e=.returned (.tuple #[.int .i64 N,.bool true])/\Below w.heap.size w w')
 (RO:∀w,Calls Tryz.prog 147 #[.agg #[.int .i64 A,.int .i64 B],.int .i64 (2340*N)] w fun e w'=>ia P e/\Below w.heap.size w w')
 (w:World) :
 Calls Tryz.prog 98 #[.int .i64 x,.int .i64 y,.int .i64 r] w fun e w'=>ia P e/\Below w.heap.size w w':=by
 replace AX:Hid _:=AX;replace ST:Hid _:=ST;replace CJ:Hid _:=CJ;replace MU:Hid _:=MU;replace NO:Hid _:=NO;replace RO:Hid _:=RO
 go_enter Tryz.func98,Tryz.ntmps98
 go_wp2_with fail;refine(AX.out _).mono ?_;rintro e w1 ⟨rfl,d1⟩;have c1:Below w.heap.size w w1:=Below.trans (by go_grown) (d1.mono (by simp;try omega));have r0:w1.cell? ⟨w.heap.size,0,none⟩=some (.int .i64 0):=aa d1 (by go_simp);have fr0:w1.frozen? ⟨w.heap.size,0,none⟩=false:=ac (v:=.int .i64 0) d1 (by go_simp) (by go_simp);have qr0:=World.block_lt_of_cell? _ _ r0;have r1:w1.cell? ⟨w.heap.size,1,none⟩=some (.int .i64 0):=aa d1 (by go_simp);have fr1:w1.frozen? ⟨w.heap.size,1,none⟩=false:=ac (v:=.int .i64 0) d1 (by go_simp) (by go_simp);have hB:=c1;clear c1 d1;have n1:¬w1.heap.size=w.heap.size:=Nat.ne_of_gt qr0;have l1:w.heap.size<=w1.heap.size:=Nat.le_of_lt qr0;go_wp2_with fail;refine(ST.out _).mono ?_;rintro e w2 ⟨rfl,d2⟩;have c2:Below w1.heap.size w1 w2:=Below.trans (by go_grown) (d2.mono (by simp;try omega));replace fr0:=ac c2 r0 fr0;replace r0:=aa c2 r0;replace qr0:=World.block_lt_of_cell? _ _ r0;replace fr1:=ac c2 r1 fr1;replace r1:=aa c2 r1;have p0:w2.cell? ⟨w1.heap.size,0,none⟩=some (.int .i64 u):=aa d2 (by go_simp);have fp0:w2.frozen? ⟨w1.heap.size,0,none⟩=false:=ac (v:=.int .i64 u) d2 (by go_simp) (by go_simp);have qp0:=World.block_lt_of_cell? _ _ p0;have p1:w2.cell? ⟨w1.heap.size,1,none⟩=some (.int .i64 v):=aa d2 (by go_simp);have fp1:w2.frozen? ⟨w1.heap.size,1,none⟩=false:=ac (v:=.int .i64 v) d2 (by go_simp) (by go_simp);replace hB:=ae hB c2;clear c2 d2;have n2:¬w1.heap.size=w2.heap.size:=Nat.ne_of_lt qp0;go_wp2_with fail;refine(CJ.out _).mono ?_;rintro e w3 ⟨rfl,d3⟩;have c3:Below w2.heap.size w2 w3:=Below.trans (by go_grown) (d3.mono (by simp;try omega));replace fr0:=ac c3 r0 fr0;replace r0:=aa c3 r0;replace qr0:=World.block_lt_of_cell? _ _ r0;replace fr1:=ac c3 r1 fr1;replace r1:=aa c3 r1;replace fp0:=ac c3 p0 fp0;replace p0:=aa c3 p0;replace qp0:=World.block_lt_of_cell? _ _ p0;replace fp1:=ac c3 p1 fp1;replace p1:=aa c3 p1;have s0:w3.cell? ⟨w2.heap.size,0,none⟩=some (.int .i64 X):=aa d3 (by go_simp);have qs0:=World.block_lt_of_cell? _ _ s0;have s1:w3.cell? ⟨w2.heap.size,1,none⟩=some (.int .i64 Y):=aa d3 (by go_simp);replace hB:=ae hB c3;clear c3 d3;go_wp2_with fail;refine(MU.out _).mono ?_;rintro e w4 ⟨rfl,d4⟩;have c4:Below w3.heap.size w3 w4:=Below.trans (by go_grown) (d4.mono (by simp;try omega));replace fr0:=ac c4 r0 fr0;replace r0:=aa c4 r0;replace qr0:=World.block_lt_of_cell? _ _ r0;replace fr1:=ac c4 r1 fr1;replace r1:=aa c4 r1;replace fp0:=ac c4 p0 fp0;replace p0:=aa c4 p0;replace qp0:=World.block_lt_of_cell? _ _ p0;replace fp1:=ac c4 p1 fp1;replace p1:=aa c4 p1;replace s0:=aa c4 s0;replace qs0:=World.block_lt_of_cell? _ _ s0;replace s1:=aa c4 s1;have c0:w4.cell? ⟨w3.heap.size,0,none⟩=some (.int .i64 c):=aa d4 (by go_simp);have qc0:=World.block_lt_of_cell? _ _ c0;have c1:w4.cell? ⟨w3.heap.size,1,none⟩=some (.int .i64 d):=aa d4 (by go_simp);replace hB:=ae hB c4;clear c4 d4;go_wp2_with fail;have q0:=ah (u:=.int .i64 B) (q:=⟨w1.heap.size,1,none⟩) (ay (u:=.int .i64 A) p0) (by simp);have q1:=ay (u:=.int .i64 B) (ah (u:=.int .i64 A) (q:=⟨w1.heap.size,0,none⟩) p1 (by simp));have k0:=ah (u:=.int .i64 B) (q:=⟨w1.heap.size,1,none⟩) (ah (u:=.int .i64 A) (q:=⟨w1.heap.size,0,none⟩) r0 (by simp)) (by simp);have k1:=ah (u:=.int .i64 B) (q:=⟨w1.heap.size,1,none⟩) (ah (u:=.int .i64 A) (q:=⟨w1.heap.size,0,none⟩) r1 (by simp)) (by simp);have fk0:((w4.setCell ⟨w1.heap.size,0,none⟩ (.int .i64 A)).setCell ⟨w1.heap.size,1,none⟩ (.int .i64 B)).frozen? ⟨w.heap.size,0,none⟩=false:=by simp[fr0]
 have fk1:((w4.setCell ⟨w1.heap.size,0,none⟩ (.int .i64 A)).setCell ⟨w1.heap.size,1,none⟩ (.int .i64 B)).frozen? ⟨w.heap.size,1,none⟩=false:=by simp[fr1]
 replace hB:=(hB.setCell (p:=⟨w1.heap.size,0,none⟩) (by exact l1) (.int .i64 A)).setCell (p:=⟨w1.heap.size,1,none⟩) (by exact l1) (.int .i64 B);clear p0 p1 r0 r1 s0 s1 c0 c1 qr0 qp0 qs0 qc0 fr0 fr1 fp0 fp1;generalize (w4.setCell ⟨w1.heap.size,0,none⟩ (.int .i64 A)).setCell ⟨w1.heap.size,1,none⟩ (.int .i64 B)=wc at *;have qq0:=World.block_lt_of_cell? _ _ q0;have qk0:=World.block_lt_of_cell? _ _ k0;go_wp2_with fail;refine(NO.out _).mono ?_;rintro e v1 ⟨rfl,d1⟩;have c1:Below wc.heap.size wc v1:=Below.trans (by go_grown) (d1.mono (by simp;try omega));replace q0:=aa c1 q0;replace qq0:=World.block_lt_of_cell? _ _ q0;replace q1:=aa c1 q1;replace fk0:=ac c1 k0 fk0;replace k0:=aa c1 k0;replace qk0:=World.block_lt_of_cell? _ _ k0;replace fk1:=ac c1 k1 fk1;replace k1:=aa c1 k1;replace hB:=ae hB c1;clear c1 d1;go_wp2_with fail;refine(RO.out _).mono ?_;rintro e v2 ⟨⟨a,b,rfl,hn⟩,d2⟩;have c2:Below v1.heap.size v1 v2:=Below.trans (by go_grown) (d2.mono (by simp;try omega));replace q0:=aa c2 q0;replace qq0:=World.block_lt_of_cell? _ _ q0;replace q1:=aa c2 q1;replace fk0:=ac c2 k0 fk0;replace k0:=aa c2 k0;replace qk0:=World.block_lt_of_cell? _ _ k0;replace fk1:=ac c2 k1 fk1;replace k1:=aa c2 k1;replace hB:=ae hB c2;clear c2 d2;obtain⟨g0,g1⟩:=au (u:=.int .i64 a) (v:=.int .i64 b) k0 k1;go_wp2;exact bodyPost_ret (v:=.tuple #[.agg #[.int .i64 a,.int .i64 b],.bool true]) (by simp[results,Tryz.results98,go_sem,g0,g1]) rfl ⟨⟨a,b,rfl,hn⟩,(hB.setCell (by simp) _).setCell (by simp) _⟩
theorem zF (x y r:Int)(K:Nat)(hK:K<=12)(hr:12-r=(K:Int))(hw:InW x y)(w:World) :
 Calls Tryz.prog 98 #[.int .i64 x,.int .i64 y,.int .i64 r] w fun e w'=>ia (aU (dvK K) (nuA K x y) (nuB K x y)) e/\Below w.heap.size w w':=by
 have hs:=gd hK;have hd:=bX hK;have hb:=dH hK;have hu:=zw hK hw;obtain⟨x1,x2,y1,y2⟩:=id hw;exact xl x y r _ _ _ _ (cjA K) (cjB K) (sev K) (nuA K x y) (nuB K x y) _ hs.1 hs.2 (xj x y _ _ hw rfl rfl) (pU r K hK hr)
  (lP _ _ _ _ rfl rfl (by omega) (by omega) (by omega) (by omega))
  (fg _ _ _ _ _ _ rfl rfl (by omega) (by omega) (by omega) (by omega) (by omega) (by omega) (by omega) (by omega) (by omega) (by omega) (by omega) (by omega))
  (tp _ _ _ rfl (by omega) (by omega) (by omega) (by omega) (by omega))
  (wv _ _ _ (by omega) (by omega) (by omega) (by omega) hd.1 hd.2) w
theorem CY (x y r:Int)(K:Nat)(hK:K<=12)(hr:12-r=(K:Int))(hw:InW x y)(a b:Int)(hn:aU (dvK K) (nuA K x y) (nuB K x y) a b)(w:World) :
 Calls Tryz.prog 98 #[.int .i64 x,.int .i64 y,.int .i64 r] w fun e w'=>e=.returned (.tuple #[.agg #[.int .i64 a,.int .i64 b],.bool true])/\Below w.heap.size w w':=by
 refine(zF x y r K hK hr hw w).mono ?_;rintro e w' ⟨⟨a',b',rfl,hn'⟩,hb⟩;obtain⟨rfl,rfl⟩:=iQ hn hn';exact⟨rfl,hb⟩
theorem iU (K:Nat)(hK:K<=20)(w:World) :
 Calls Tryz.prog 37 #[.int .i64 (K:Int)] w fun e w'=>e=.returned (.tuple #[.agg #[.int .i64 (bet K).1,.int .i64 (bet K).2],.bool true])/\Below w.heap.size w w':=by
 go_enter Tryz.func37,Tryz.ntmps37
 go_wp2_with fail;go_loopw [5] (fun vi wr=>∃q:Nat,q<=K/\vi=.int .i64 (q:Int)/\Hid (iv w q wr)) (fun vi _=>K-(intOf vi).toNat)
 case atStart =>
  refine⟨0,Nat.zero_le _,rfl,?_⟩;show iv w 0 _
  exact⟨by go_simp;rfl,by go_simp;rfl,by go_simp,by go_simp,by go_simp,by go_simp,by go_simp,by go_simp,by go_grown⟩
 case round =>
  obtain⟨q,hq,rfl,HB⟩:=hrel;obtain⟨z0,z1,fz0,fz1,s0,s1,fs0,fs1,hb⟩:=HB.out;clear HB;have hz:w.heap.size+1<wr.heap.size:=World.block_lt_of_cell? _ _ z0;by_cases hlt:q<K
  · obtain⟨b1,b2,b3,b4⟩:=kV q (by omega);obtain⟨n1,n2,n3,n4⟩:=kV (q+1) (by omega);have HM:Hid (∀w,Calls Tryz.prog 35 #[.agg #[.int .i64 (bet q).1,.int .i64 (bet q).2],.agg #[.int .i64 2,.int .i64 1]] w fun e w'=>e=.returned (.tuple #[.agg #[.int .i64 (bet (q+1)).1,.int .i64 (bet (q+1)).2],.bool true])/\Below w.heap.size w w') :=
     dM (bet q).1 (bet q).2 2 1 (by omega) (by omega) (by omega) (by omega) (by omega) (by omega) (by omega) (by omega) (ax ⟨by show _<=(bet (q+1)).1;omega,by show(bet (q+1)).1<=_;omega⟩) (ax ⟨by show _<=(bet (q+1)).2;omega,by show(bet (q+1)).2<=_;omega⟩)
    clear b1 b2 b3 b4 n1 n2 n3 n4;obtain⟨X,hX⟩:∃X,(bet q).1=X:=⟨_,rfl⟩
    obtain⟨Y,hY⟩:∃Y,(bet q).2=Y:=⟨_,rfl⟩
    obtain⟨U,hU⟩:∃U,(bet (q+1)).1=U:=⟨_,rfl⟩
    obtain⟨V,hV⟩:∃V,(bet (q+1)).2=V:=⟨_,rfl⟩
    rw[hX,hY,hU,hV]at HM;rw[hX]at z0;rw[hY]at z1;have HU:Hid ((bet (q+1)).1=U):=hU;have HV:Hid ((bet (q+1)).2=V):=hV;clear hX hY hU hV;go_wp2_with fail;refine(HM.out _).mono ?_;rintro e w2 ⟨rfl,c2⟩;have k0:=aa c2 z0;have k1:=aa c2 z1;have g0:=ac c2 z0 fz0;have g1:=ac c2 z1 fz1;have r0:=aa c2 s0;have r1:=aa c2 s1;have t0:=ac c2 s0 fs0;have t1:=ac c2 s1 fs1;have hb2:=ae hb c2;clear z0 z1 fz0 fz1 s0 s1 fs0 fs1 hb c2;obtain⟨y0,y1⟩:=au (u:=.int .i64 U) (v:=.int .i64 V) k0 k1;go_wp2;go_roundw
    case rel =>
     refine⟨q+1,by omega,by go_num,?_⟩;show iv w (q+1) _
     unfold iv;rw[HU.out,HV.out];refine⟨y0,y1,by simp[g0],by simp[g1],?_,?_,by simp[t0],by simp[t1],(hb2.setCell (by simp) _).setCell (by simp) _⟩
     · rw[World.cell?_setCell_other _ _ _ _ (by simp),World.cell?_setCell_other _ _ _ _ (by simp)];exact r0
     · rw[World.cell?_setCell_other _ _ _ _ (by simp),World.cell?_setCell_other _ _ _ _ (by simp)];exact r1
    case measure=>simp[intOf];omega
  · obtain rfl:q=K:=by omega
    obtain⟨X,hX⟩:∃X,(bet q).1=X:=⟨_,rfl⟩
    obtain⟨Y,hY⟩:∃Y,(bet q).2=Y:=⟨_,rfl⟩
    rw[hX]at z0;rw[hY]at z1;have HX:Hid ((bet q).1=X):=hX;have HY:Hid ((bet q).2=Y):=hY;clear hX hY;obtain⟨y0,y1⟩:=au (u:=.int .i64 X) (v:=.int .i64 Y) s0 s1;go_wp2;exact bodyPost_ret (v:=.tuple #[.agg #[.int .i64 X,.int .i64 Y],.bool true]) (by simp[results,Tryz.results37,go_sem,y0,y1]) rfl ⟨by rw[HX.out,HY.out],(hb.setCell (by simp) _).setCell (by simp) _⟩
def j6 (n:Int):Prop:= -9223372036854775808<=n/\n<=9223372036854775807
theorem wZ (a:Int)(e:Nat)(h:¬j6 (a^e)):2<=a.natAbs:=by
 by_cases h2:2<=a.natAbs
 · exact h2
 · exfalso
   apply h;have hle:(a^e).natAbs<=1:=by
    rw[Int.natAbs_pow];have:a.natAbs^e<=1^e:=Nat.pow_le_pow_left (by omega) e
    simpa using this
   unfold j6;omega
theorem zA {a:Int}{e K:Nat}(hle:e<=K)(h:¬j6 (a^e)):¬j6 (a^K):=by
 have h2:=wZ a e h;by_cases hk:e=K
 · subst hk;exact h
 · have h1:9223372036854775808<=(a^e).natAbs:=by unfold j6 at h;omega
   have h3:(a^K).natAbs=(a^e).natAbs*a.natAbs^(K-e):=by
    rw[Int.natAbs_pow,Int.natAbs_pow,←Nat.pow_add];congr 1;omega
   have h4:2<=a.natAbs^(K-e):=by
    have:a.natAbs^1<=a.natAbs^(K-e):=Nat.pow_le_pow_right (by omega) (by omega);rw[Nat.pow_one]at this;omega
   have h5:9223372036854775808*2<=(a^e).natAbs*a.natAbs^(K-e):=Nat.mul_le_mul h1 h4;unfold j6;omega
theorem F4 {a:Int}{q K:Nat}(hq:q<=K)(h:a^q=0):a^K=0:=by
 rw[show K=q+(K-q)by omega,Int.pow_add,h,Int.zero_mul]
theorem nH (I:Nat):(-1:Int)^(2*I)=1:=by
 induction I with
 | zero=>rfl
 | succ I ih=>rw[show 2*(I+1)=2*I+1+1 by omega,Int.pow_succ,Int.pow_succ,ih];decide
theorem zm (K:Nat):(K%2=1->(-1:Int)^K= -1)/\(K%2=0->(-1:Int)^K=1):=by
 constructor
 · intro h;have e:K=2*(K / 2)+1:=by omega
   rw[e,Int.pow_succ,nH];decide
 · intro h;have e:K=2*(K / 2):=by omega
   rw[e,nH]
theorem tH (a:Int)(K:Nat)(a1: -9223372036854775808<=a)(a2:a<=9223372036854775807)(hK:K<=9223372036854775807)(n1:(a == 1)=false)(n2:(a == -1)=false)(w:World) :
 Calls Tryz.prog 124 #[.int .i64 a,.int .i64 (K:Int)] w fun e w'=>e=.returned (.tuple #[.int .i64 (cl (a^K)),.bool (aX (a^K))])/\Below w.heap.size w w':=by
 go_enter Tryz.func124,Tryz.ntmps124
 go_wp2;go_loopw [6,7] (fun v i wr=>∃(q:Nat) (m:Int),q<=K/\i=.int .i64 (q:Int)/\v=.int .i64 m∧-9223372036854775808<=m/\m<=9223372036854775807/\Hid (m=a^q)/\Below w.heap.size w wr) (fun _ i _=>K-(intOf i).toNat)
 case atStart=>exact⟨0,1,Nat.zero_le _,rfl,rfl,by omega,by omega,(by show(1:Int)=a^0;simp),Below.refl _ _⟩
 case round =>
  obtain⟨q,m,hq,rfl,rfl,m1,m2,HM,hb⟩:=hrel;by_cases hlt:q<K
  · by_cases hm:m=0
    · have HA:Hid (cl (a^K)=0/\aX (a^K)=true):=by
       have e:=HM.out;rw[hm]at e;rw[F4 (q:=q) (K:=K) hq e.symm];exact⟨bt (ax ⟨by omega,by omega⟩),ax ⟨by omega,by omega⟩⟩
      clear HM;subst hm;go_wp2
      go_ret2
      exact⟨by rw[HA.out.1,HA.out.2];rfl,hb⟩
    · have hm0:(m == 0)=false:=by simpa using hm
      have PB:Hid (-170141183460469231731687303715884105728<=m*a/\m*a<170141183460469231731687303715884105728):=F6 m a m1 m2 a1 a2;by_cases hd:j6 (m*a)
      · have E2:Hid (cl (m*a)=m*a):=bt (ax hd);have E3:Hid (aX (m*a)=true):=ax hd;by_cases ho:m=1
        · clear E2 E3 hd PB hm hm0;subst ho;have E2:Hid (cl a=a):=bt (ax ⟨a1,a2⟩);have E3:Hid (aX a=true):=ax ⟨a1,a2⟩;go_wp2_with fail;refine(eW 1 a m1 m2 a1 a2 _).mono ?_;rw[Int.one_mul];rintro e w1 ⟨rfl,c1⟩;go_wp2_with fail;refine(gA a (by omega) (by omega) _).mono ?_;rw[E2.out,E3.out];rintro e w2 ⟨rfl,c2⟩;replace c2:=ae c1 c2;clear c1;have hb':=ae hb c2;clear hb c2;go_wp2;go_roundw
          case rel =>
           exact⟨q+1,a,by omega,by go_num,rfl,a1,a2,(by show a=a^(q+1);rw[Int.pow_succ,←HM.out,Int.one_mul]),hb'⟩
          case measure=>simp[intOf];omega
        · have ho':(m == 1)=false:=by simpa using ho
          clear ho;go_wp2_with fail;refine(eW m a m1 m2 a1 a2 _).mono ?_;rintro e w1 ⟨rfl,c1⟩;go_wp2_with fail;refine(gA (m*a) (by have h0:=PB.out;omega) (by have h0:=PB.out;omega) _).mono ?_;rw[E2.out,E3.out];rintro e w2 ⟨rfl,c2⟩;replace c2:=ae c1 c2;clear c1;have hb':=ae hb c2;clear hb c2;go_wp2;go_roundw
          case rel =>
           exact⟨q+1,m*a,by omega,by go_num,rfl,hd.1,hd.2,(by show m*a=a^(q+1);rw[Int.pow_succ,←HM.out]),hb'⟩
          case measure=>simp[intOf];omega
      · have HA:Hid (cl (a^K)=0/\aX (a^K)=false):=by
         have hn:¬j6 (a^K):=zA (e:=q+1) (by omega) (by rw[Int.pow_succ,←HM.out];exact hd);exact⟨fY (co hn),co hn⟩
        have E2:Hid (cl (m*a)=0):=fY (co hd);have E3:Hid (aX (m*a)=false):=co hd;have ho:(m == 1)=false:=by
         have:m≠1:=by
          intro e;apply hd;rw[e,Int.one_mul];exact⟨a1,a2⟩
         simpa using this
        clear HM;go_wp2_with fail;refine(eW m a m1 m2 a1 a2 _).mono ?_;rintro e w1 ⟨rfl,c1⟩;go_wp2_with fail;refine(gA (m*a) (by have h0:=PB.out;omega) (by have h0:=PB.out;omega) _).mono ?_;rw[E2.out,E3.out];rintro e w2 ⟨rfl,c2⟩;replace c2:=ae c1 c2;clear c1;have hb':=ae hb c2;clear hb c2;go_wp2
        go_ret2
        exact⟨by rw[HA.out.1,HA.out.2];rfl,hb'⟩
  · obtain rfl:q=K:=by omega
    have HA:Hid (cl (a^q)=m/\aX (a^q)=true):=by
     have e:=HM.out;rw[←e];exact⟨bt (ax ⟨m1,m2⟩),ax ⟨m1,m2⟩⟩
    clear HM;go_wp2
    go_ret2
    exact⟨by rw[HA.out.1,HA.out.2];rfl,hb⟩
theorem xx (K:Nat)(_hK:K<=9223372036854775807)(w:World) :
 Calls Tryz.prog 124 #[.int .i64 1,.int .i64 (K:Int)] w fun e w'=>e=.returned (.tuple #[.int .i64 1,.bool true])/\Below w.heap.size w w':=by
 by_cases hlt:0<K
 all_goals
  go_enter Tryz.func124,Tryz.ntmps124
  go_wp2;refine wp_loop_rounds 1 ?_;rw[rounds_succ];go_wp2
  go_ret2
  exact⟨rfl,Below.refl _ _⟩
theorem xw (K:Nat)(_hK:K<=9223372036854775807)(h0:0<K)(h2:((K:Int)%2 == 1)=true)(w:World) :
 Calls Tryz.prog 124 #[.int .i64 (-1),.int .i64 (K:Int)] w fun e w'=>e=.returned (.tuple #[.int .i64 (-1),.bool true])/\Below w.heap.size w w':=by
 go_enter Tryz.func124,Tryz.ntmps124
 go_wp2;refine wp_loop_rounds 1 ?_;rw[rounds_succ];go_wp2
 go_ret2
 exact⟨rfl,Below.refl _ _⟩
theorem tG (K:Nat)(_hK:K<=9223372036854775807)(h0:0<K)(h2:((K:Int)%2 == 1)=false)(w:World) :
 Calls Tryz.prog 124 #[.int .i64 (-1),.int .i64 (K:Int)] w fun e w'=>e=.returned (.tuple #[.int .i64 (1),.bool true])/\Below w.heap.size w w':=by
 go_enter Tryz.func124,Tryz.ntmps124
 go_wp2;refine wp_loop_rounds 1 ?_;rw[rounds_succ];go_wp2
 go_ret2
 exact⟨rfl,Below.refl _ _⟩
theorem sd (a:Int)(w:World) :
 Calls Tryz.prog 124 #[.int .i64 a,.int .i64 0] w fun e w'=>e=.returned (.tuple #[.int .i64 1,.bool true])/\Below w.heap.size w w':=by
 go_enter Tryz.func124,Tryz.ntmps124
 go_wp2;refine wp_loop_rounds 1 ?_;rw[rounds_succ];go_wp2
 go_ret2
 exact⟨rfl,Below.refl _ _⟩
theorem xr (a:Int)(K:Nat)(a1: -9223372036854775808<=a)(a2:a<=9223372036854775807)(hK:K<=9223372036854775807)(w:World) :
 Calls Tryz.prog 124 #[.int .i64 a,.int .i64 (K:Int)] w fun e w'=>e=.returned (.tuple #[.int .i64 (cl (a^K)),.bool (aX (a^K))])/\Below w.heap.size w w':=by
 by_cases h0:K=0
 · subst h0;have e:cl (a^0)=1/\aX (a^0)=true:=by rw[Int.pow_zero];exact⟨bt (ax ⟨by omega,by omega⟩),ax ⟨by omega,by omega⟩⟩
   rw[e.1,e.2];exact sd a w
 · by_cases h1:a=1
   · subst h1;have e:cl ((1:Int)^K)=1/\aX ((1:Int)^K)=true:=by rw[Int.one_pow];exact⟨bt (ax ⟨by omega,by omega⟩),ax ⟨by omega,by omega⟩⟩
     rw[e.1,e.2];exact xx K hK w
   · by_cases h2:a= -1
     · subst h2;have hm:=zm K;by_cases hp:(K:Int)%2=1
       · have e:cl ((-1:Int)^K)= -1/\aX ((-1:Int)^K)=true:=by rw[hm.1 (by omega)];exact⟨bt (ax ⟨by omega,by omega⟩),ax ⟨by omega,by omega⟩⟩
         rw[e.1,e.2];exact xw K hK (by omega) (by simpa using hp) w
       · have e:cl ((-1:Int)^K)=1/\aX ((-1:Int)^K)=true:=by rw[hm.2 (by omega)];exact⟨bt (ax ⟨by omega,by omega⟩),ax ⟨by omega,by omega⟩⟩
         rw[e.1,e.2];exact tG K hK (by omega) (by simpa using hp) w
     · exact tH a K a1 a2 hK (by simpa using h1) (by simpa using h2) w
theorem oe (x y:Int)(h1:0<=x)(h2:x<1073741824)(h3:0<=y)(h4:y<1073741824)(w:World) :
 Calls Tryz.prog 40 #[.int .i64 x,.int .i64 y] w fun e w'=>e=.returned (.bool true)/\w'=w:=by
 go_enter Tryz.func40,Tryz.ntmps40
 go_wp2;go_ret;exact⟨rfl,rfl⟩
theorem xM (x y:Int)(h1:decide (0<=x)=false)(w:World) :
 Calls Tryz.prog 40 #[.int .i64 x,.int .i64 y] w fun e w'=>e=.returned (.bool false)/\w'=w:=by
 go_enter Tryz.func40,Tryz.ntmps40
 go_wp2;go_ret;exact⟨rfl,rfl⟩
theorem xN (x y:Int)(h1:0<=x)(h2:decide (x<1073741824)=false)(w:World) :
 Calls Tryz.prog 40 #[.int .i64 x,.int .i64 y] w fun e w'=>e=.returned (.bool false)/\w'=w:=by
 go_enter Tryz.func40,Tryz.ntmps40
 go_wp2;go_ret;exact⟨rfl,rfl⟩
theorem xO (x y:Int)(h1:0<=x)(h2:x<1073741824)(h3:decide (0<=y)=false)(w:World) :
 Calls Tryz.prog 40 #[.int .i64 x,.int .i64 y] w fun e w'=>e=.returned (.bool false)/\w'=w:=by
 go_enter Tryz.func40,Tryz.ntmps40
 go_wp2;go_ret;exact⟨rfl,rfl⟩
theorem xP (x y:Int)(h1:0<=x)(h2:x<1073741824)(h3:0<=y)(h4:decide (y<1073741824)=false)(w:World) :
 Calls Tryz.prog 40 #[.int .i64 x,.int .i64 y] w fun e w'=>e=.returned (.bool false)/\w'=w:=by
 go_enter Tryz.func40,Tryz.ntmps40
 go_wp2;go_ret;exact⟨rfl,rfl⟩
theorem jM (x y:Int)(w:World) :
 Calls Tryz.prog 40 #[.int .i64 x,.int .i64 y] w fun e w'=>e=.returned (.bool (dA x y))/\w'=w:=by
 by_cases h1:0<=x
 · by_cases h2:x<1073741824
   · by_cases h3:0<=y
     · by_cases h4:y<1073741824
       · rw[g7 ⟨h1,h2,h3,h4⟩];exact oe x y h1 h2 h3 h4 w
       · rw[d8 fun h=>h4 h.2.2.2];exact xP x y h1 h2 h3 (df h4) w
     · rw[d8 fun h=>h3 h.2.2.1];exact xO x y h1 h2 (df h3) w
   · rw[d8 fun h=>h2 h.2.1];exact xN x y h1 (df h2) w
 · rw[d8 fun h=>h1 h.1];exact xM x y (df h1) w
theorem xp (k X Y c d:Int)(hc:X+Y=c)(hd: -Y=d)(X1: -262144<=X)(X2:X<=262144)(Y1: -262144<=Y)(Y2:Y<=262144)
 (BE:∀w,Calls Tryz.prog 37 #[.int .i64 k] w fun e w'=>e=.returned (.tuple #[.agg #[.int .i64 X,.int .i64 Y],.bool true])/\Below w.heap.size w w') (w:World) :
 Calls Tryz.prog 116 #[.int .i64 k] w fun e w'=>e=.returned (.agg #[.int .i64 c,.int .i64 d])/\Below w.heap.size w w':=by
 replace BE:Hid _:=BE;subst hc hd
 go_enter Tryz.func116,Tryz.ntmps116
 go_wp2_with fail;refine(BE.out _).mono ?_;rintro e w1 ⟨rfl,d1⟩;have c1:Below w.heap.size w w1:=Below.trans (by go_grown) (d1.mono (by simp;try omega));have r0:w1.cell? ⟨w.heap.size,0,none⟩=some (.int .i64 0):=aa d1 (by go_simp);have fr0:w1.frozen? ⟨w.heap.size,0,none⟩=false:=ac (v:=.int .i64 0) d1 (by go_simp) (by go_simp);have qr0:=World.block_lt_of_cell? _ _ r0;have r1:w1.cell? ⟨w.heap.size,1,none⟩=some (.int .i64 0):=aa d1 (by go_simp);have fr1:w1.frozen? ⟨w.heap.size,1,none⟩=false:=ac (v:=.int .i64 0) d1 (by go_simp) (by go_simp);have hB:=c1;clear c1 d1;have n1:¬w1.heap.size=w.heap.size:=Nat.ne_of_gt qr0;obtain⟨g0,g1⟩:=au (u:=.int .i64 (X+Y)) (v:=.int .i64 (-Y)) r0 r1;have e0:=aa (ag _ (.cells #[.int .i64 X,.int .i64 Y] 37)) g0;have e1:=aa (ag _ (.cells #[.int .i64 X,.int .i64 Y] 37)) g1;go_wp2;exact bodyPost_ret (v:=.agg #[.int .i64 (X+Y),.int .i64 (-Y)]) (by simp[results,Tryz.results116,go_sem,e0,e1]) rfl ⟨rfl,((hB.setCell (by simp) _).setCell (by simp) _).alloc (by simp;omega) _⟩
theorem zQ (K:Nat)(hK:K<=12)(w:World) :
 Calls Tryz.prog 116 #[.int .i64 (K:Int)] w fun e w'=>e=.returned (.agg #[.int .i64 (cjA K),.int .i64 (cjB K)])/\Below w.heap.size w w':=by
 have hb:=dH hK;exact xp K _ _ (cjA K) (cjB K) rfl rfl (by omega) (by omega) (by omega) (by omega) (iU K (by omega)) w
theorem xK (K:Nat)(hK:K<=12)(w:World) :
 Calls Tryz.prog 78 #[.int .i64 (K:Int)] w fun e w'=>e=.returned (.int .i64 (sev K))/\Below w.heap.size w w':=by
 have h:Hid (∀w,Calls Tryz.prog 124 #[.int .i64 7,.int .i64 (K:Int)] w fun e w'=>e=.returned (.tuple #[.int .i64 (sev K),.bool true])/\Below w.heap.size w w'):=by
  have h:=xr 7 K (by omega) (by omega) (by omega);have hs:=gd hK;have hf:aX ((7:Int)^K)=true:=by rw[←oT hK];exact ax ⟨by omega,by omega⟩
  rw[bt hf,hf,←oT hK]at h;exact h
 generalize sev K=S at h
 go_enter Tryz.func78,Tryz.ntmps78
 go_wp2_with fail;refine(h.out _).mono ?_;rintro e w1 ⟨rfl,d1⟩;have c1:Below w.heap.size w w1:=Below.trans (by go_grown) (d1.mono (by simp;try omega));have hB:=c1;clear c1 d1;go_wp2;go_ret;exact⟨rfl,hB⟩
theorem xF (x y r u v c d N A B:Int)(P:Int->Int->Prop)(x1:0<=x)(x2:x<1073741824)(y1:0<=y)(y2:y<1073741824)(r1:0<=r)(r2:r<=12)(hu:45*x-26*y=u)(hv:52*y=v)(N1:1<=N)(N2:N<=13841287201)
 (WO:∀w,Calls Tryz.prog 40 #[.int .i64 x,.int .i64 y] w fun e w'=>e=.returned (.bool true)/\w'=w)
 (CJ:∀w,Calls Tryz.prog 116 #[.int .i64 (12-r)] w fun e w'=>e=.returned (.agg #[.int .i64 c,.int .i64 d])/\Below w.heap.size w w')
 (MU:∀w,Calls Tryz.prog 35 #[.agg #[.int .i64 u,.int .i64 v],.agg #[.int .i64 c,.int .i64 d]] w fun e w'=>e=.returned (.tuple #[.agg #[.int .i64 A,.int .i64 B],.bool true])/\Below w.heap.size w w')
 (SV:∀w,Calls Tryz.prog 78 #[.int .i64 (12-r)] w fun e w'=>e=.returned (.int .i64 N)/\Below w.heap.size w w')
 (RO:∀w,Calls Tryz.prog 117 #[.agg #[.int .i64 A,.int .i64 B],.int .i64 (2340*N)] w fun e w'=>ia P e/\Below w.heap.size w w')
 (w:World) :
 Calls Tryz.prog 72 #[.int .i64 x,.int .i64 y,.int .i64 r] w fun e w'=>ia P e/\Below w.heap.size w w':=by
 have SV2:Hid (∀w,Calls Tryz.prog 78 #[.int .i64 (IntKind.i64.wrap (12-r))] w fun e w'=>e=.returned (.int .i64 N)/\Below w.heap.size w w'):=by
  rw[IntWalk.i64_left,db ⟨by omega,by omega⟩];exact SV
 have RO2:Hid (∀w,Calls Tryz.prog 117 #[.agg #[.int .i64 A,.int .i64 B],.int .i64 (IntKind.i64.wrap (2340*N))] w fun e w'=>ia P e/\Below w.heap.size w w'):=by
  rw[IntWalk.i64_left,db ⟨by omega,by omega⟩];exact RO
 replace WO:Hid _:=WO;replace CJ:Hid _:=CJ;replace MU:Hid _:=MU;replace SV:Hid _:=SV;replace RO:Hid _:=RO
 go_enter Tryz.func72,Tryz.ntmps72
 go_wp2_with fail;refine(WO.out _).mono ?_;rintro e w0 ⟨rfl,rfl⟩;go_wp2_with fail;refine(CJ.out _).mono ?_;rintro e w1 ⟨rfl,d1⟩;have c1:Below w.heap.size w w1:=Below.trans (by go_grown) (d1.mono (by simp;try omega));have p0:w1.cell? ⟨w.heap.size,0,none⟩=some (.int .i64 0):=aa d1 (by go_simp);have fp0:w1.frozen? ⟨w.heap.size,0,none⟩=false:=ac (v:=.int .i64 0) d1 (by go_simp) (by go_simp);have qp0:=World.block_lt_of_cell? _ _ p0;have p1:w1.cell? ⟨w.heap.size,1,none⟩=some (.int .i64 0):=aa d1 (by go_simp);have fp1:w1.frozen? ⟨w.heap.size,1,none⟩=false:=ac (v:=.int .i64 0) d1 (by go_simp) (by go_simp);have hB:=c1;clear c1 d1;go_wp2_with fail;refine(MU.out _).mono ?_;rintro e w2 ⟨rfl,d2⟩;have c2:Below w1.heap.size w1 w2:=Below.trans (by go_grown) (d2.mono (by simp;try omega));replace fp0:=ac c2 p0 fp0;replace p0:=aa c2 p0;replace qp0:=World.block_lt_of_cell? _ _ p0;replace fp1:=ac c2 p1 fp1;replace p1:=aa c2 p1;replace hB:=ae hB c2;clear c2 d2;have n2:¬w2.heap.size=w.heap.size:=Nat.ne_of_gt qp0;go_wp2_with fail;have hk:=ag w2 (.cells #[.int .i64 A,.int .i64 B] 37);have q0:(w2.alloc (.cells #[.int .i64 A,.int .i64 B] 37)).cell? ⟨w2.heap.size,0,none⟩=some (.int .i64 A):=by go_simp
 have q1:(w2.alloc (.cells #[.int .i64 A,.int .i64 B] 37)).cell? ⟨w2.heap.size,1,none⟩=some (.int .i64 B):=by go_simp
 replace fp0:=ac hk p0 fp0;replace fp1:=ac hk p1 fp1;replace p0:=aa hk p0;replace p1:=aa hk p1;replace hB:=ae hB hk;clear hk qp0;generalize hwc:w2.alloc (.cells #[.int .i64 A,.int .i64 B] 37)=wc at *;clear hwc;have hS0:=mq (aK wc) ⟨q0,q1,q0,q1,fG p0,fG p1,q0,q1,fp0,fp1,hB⟩
 go_region_held3 (fun w'=>w'.cell? ⟨w2.heap.size,0,none⟩=some (.int .i64 A)/\w'.cell? ⟨w2.heap.size,1,none⟩=some (.int .i64 B)/\w'.cell? ⟨w2.heap.size,0,none⟩=some (.int .i64 A)/\w'.cell? ⟨w2.heap.size,1,none⟩=some (.int .i64 B)/\w'.cell? ⟨w.heap.size,0,none⟩=some (.int .i64 (be w' ⟨w.heap.size,0,none⟩))/\w'.cell? ⟨w.heap.size,1,none⟩=some (.int .i64 (be w' ⟨w.heap.size,1,none⟩))/\w'.cell? ⟨w2.heap.size,0,none⟩=some (.int .i64 A)/\w'.cell? ⟨w2.heap.size,1,none⟩=some (.int .i64 B)/\w'.frozen? ⟨w.heap.size,0,none⟩=false/\w'.frozen? ⟨w.heap.size,1,none⟩=false/\Below w.heap.size w w') (first | exact hS0 | exact mq hb (by assumption) | exact pA (by simp;try omega) (by simp;try omega) (by simp;try omega) (by simp;try omega) (by simp;try omega) (by simp;try omega) rfl (by simp) (by simp;try omega) (by assumption))
  (first | (go_at_call 78;(first | with_reducible refine(SV.out _).mono ?_ | with_reducible refine(SV2.out _).mono ?_);rintro e w' ⟨rfl,hb⟩) | (go_at_call 117;(first | with_reducible refine(RO.out _).mono ?_ | with_reducible refine(RO2.out _).mono ?_);rintro e w' ⟨⟨a,b,rfl,hn⟩,hb⟩))
 go_wp2;rename_i wA bA hS;obtain⟨g0,g1⟩:=au (u:=.int .i64 a) (v:=.int .i64 b) (aa hb (aa bA (aa (aK wc) p0))) (aa hb (aa bA (aa (aK wc) p1)));exact bodyPost_ret (v:=.tuple #[.agg #[.int .i64 a,.int .i64 b],.bool true]) (by simp[results,Tryz.results72,go_sem,g0,g1]) rfl ⟨⟨a,b,rfl,hn⟩,hS.2.2.2.2.2.2.2.2.2.2⟩
theorem Aa (x y r:Int)(K:Nat)(hK:K<=12)(hr:12-r=(K:Int))(hw:InW x y)(w:World) :
 Calls Tryz.prog 72 #[.int .i64 x,.int .i64 y,.int .i64 r] w fun e w'=>ia (aU (dvK K) (nuA K x y) (nuB K x y)) e/\Below w.heap.size w w':=by
 have hs:=gd hK;have hd:=bX hK;have hb:=dH hK;have hu:=zw hK hw;obtain⟨x1,x2,y1,y2⟩:=id hw;have eA:dL (45*x-26*y) (52*y) (cjA K) (cjB K)=nuA K x y:=by unfold dL nuA;omega
 have MU:=dM (45*x-26*y) (52*y) (cjA K) (cjB K) (by omega) (by omega) (by omega) (by omega) (by omega) (by omega) (by omega) (by omega) (by rw[eA];exact ax ⟨by omega,by omega⟩) (ax ⟨by show _<=nuB K x y;omega,by show nuB K x y<=_;omega⟩);rw[eA]at MU;exact xF x y r _ _ (cjA K) (cjB K) (sev K) (nuA K x y) (nuB K x y) _ x1 x2 y1 y2 (by omega) (by omega) rfl rfl hs.1 hs.2 (oe x y x1 x2 y1 y2)
  (by rw[hr];exact zQ K hK) MU (by rw[hr];exact xK K hK)
  (kH _ _ _ (by omega) (by omega) (by omega) (by omega) hd.1 hd.2) w
theorem De (x y r:Int)(K:Nat)(hK:K<=12)(hr:12-r=(K:Int))(hw:InW x y)(a b:Int)(hn:aU (dvK K) (nuA K x y) (nuB K x y) a b)(w:World) :
 Calls Tryz.prog 72 #[.int .i64 x,.int .i64 y,.int .i64 r] w fun e w'=>e=.returned (.tuple #[.agg #[.int .i64 a,.int .i64 b],.bool true])/\Below w.heap.size w w':=by
 refine(Aa x y r K hK hr hw w).mono ?_;rintro e w' ⟨⟨a',b',rfl,hn'⟩,hb⟩;obtain⟨rfl,rfl⟩:=iQ hn hn';exact⟨rfl,hb⟩
theorem IA (r:Int):∃t s:Int,∃K:Nat,r.tmod 13=t/\(t+13).tmod 13=s∧-13<t/\t<13/\K<=12/\12-s=(K:Int):=by
 have h:=DP r 13 (by omega);refine⟨_,_,(12-(r.tmod 13+13).tmod 13).toNat,rfl,rfl,h.1,h.2,?_,?_⟩
 all_goals
  generalize r.tmod 13=t at *;rw[Int.tmod_eq_emod_of_nonneg (by omega)];omega
theorem xm (x0 y0 x y:Int)(hx:bits .and .i64 x0 1073741823=x)(hy:bits .and .i64 y0 1073741823=y)(w:World) :
 Calls Tryz.prog 43 #[.int .i64 x0,.int .i64 y0] w fun e w'=>e=.returned (.tuple #[.int .i64 x,.int .i64 y])/\Below w.heap.size w w':=by
 go_enter Tryz.func43,Tryz.ntmps43
 go_wp2
 go_ret2
 exact⟨rfl,by go_grown⟩
end Go.Proofs.YtbnlhdnnenahfaaGreatDoor
