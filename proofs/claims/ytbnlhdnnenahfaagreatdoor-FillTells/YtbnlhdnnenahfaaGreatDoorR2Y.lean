/-
  What the texts RParent, RCell, RKids say, so far as this seat's proofs need it.
-/
import Derived.Test.YtbnlhdnnenahfaaGreatDoorC1Y
set_option maxHeartbeats 8000000
set_option maxRecDepth 20000
namespace Go.Proofs.YtbnlhdnnenahfaaGreatDoor
open Go.RowKit
theorem kQ (k d:Nat)(hk:k<6)(hd:d<=6):(cW (k:Int)=ptA (d:Int)/\cY (k:Int)=ptB (d:Int))↔d=k+1:=by
 have ck:k=0∨k=1∨k=2∨k=3∨k=4∨k=5:=by omega
 have cd:d=0∨d=1∨d=2∨d=3∨d=4∨d=5∨d=6:=by omega
 rcases ck with rfl | rfl | rfl | rfl | rfl | rfl <;>rcases cd with rfl | rfl | rfl | rfl | rfl | rfl | rfl <;>decide
theorem tI (u v d P Q:Int)(u1: -1152921504606846976<=u)(u2:u<=1152921504606846976)(v1: -1152921504606846976<=v)(v2:v<=1152921504606846976)(d1:1<=d)(d2:d<=1125899906842624)(hn:aU d u v P Q)(w:World) :
 Calls Tryz.prog 117 #[.agg #[.int .i64 u,.int .i64 v],.int .i64 d] w fun e w'=>e=.returned (.tuple #[.agg #[.int .i64 P,.int .i64 Q],.bool true])/\Below w.heap.size w w':=by
 refine(kH u v d u1 u2 v1 v2 d1 d2 w).mono ?_;rintro e w' ⟨⟨a',b',rfl,hn'⟩,hb⟩;obtain⟨rfl,rfl⟩:=iQ hn hn';exact⟨rfl,hb⟩
theorem sj (a b A B P Q C D X Y:Int)(d:Nat)(hd:d<=6)(hX:ptA (d:Int)=X)(hY:ptB (d:Int)=Y)(eX:a-C=X)(eY:b-D=Y)(a1: -1073741824<=a)(a2:a<=1073741824)(b1: -1073741824<=b)(b2:b<=1073741824)(c1: -9007199254740992<=C)(c2:C<=9007199254740992)(d1: -9007199254740992<=D)(d2:D<=9007199254740992)
 (M1:∀w,Calls Tryz.prog 35 #[.agg #[.int .i64 a,.int .i64 b],.agg #[.int .i64 3,.int .i64 (-1)]] w fun x w'=>x=.returned (.tuple #[.agg #[.int .i64 A,.int .i64 B],.bool true])/\Below w.heap.size w w')
 (RO:∀w,Calls Tryz.prog 117 #[.agg #[.int .i64 A,.int .i64 B],.int .i64 7] w fun x w'=>x=.returned (.tuple #[.agg #[.int .i64 P,.int .i64 Q],.bool true])/\Below w.heap.size w w')
 (M2:∀w,Calls Tryz.prog 35 #[.agg #[.int .i64 P,.int .i64 Q],.agg #[.int .i64 2,.int .i64 1]] w fun x w'=>x=.returned (.tuple #[.agg #[.int .i64 C,.int .i64 D],.bool true])/\Below w.heap.size w w') (w:World) :
 Calls Tryz.prog 119 #[.agg #[.int .i64 a,.int .i64 b]] w fun e w'=>e=.returned (.tuple #[.agg #[.int .i64 P,.int .i64 Q],.int .i64 (d:Int)])/\Below w.heap.size w w':=by
 have UN:Hid (∀k:Nat,k<6->∀w,Calls Tryz.prog 36 #[.int .i64 (k:Int)] w fun e w'=>e=.returned (.agg #[.int .i64 (cW (k:Int)),.int .i64 (cY (k:Int))])/\Below w.heap.size w w'):=by
  intro k hk w;have:=fu (k:Int) w
  rwa [show(k:Int)%6=k by omega]at this
 have UP:Hid (∀k:Nat,k<6->((cW (k:Int)=X/\cY (k:Int)=Y)↔d=k+1)):=fun k hk=>by rw[←hX,←hY];exact kQ k d hk hd
 clear hX hY;replace M1:Hid _:=M1;replace RO:Hid _:=RO;replace M2:Hid _:=M2
 go_enter Tryz.func119,Tryz.ntmps119
 go_wp2_with fail;refine(M1.out _).mono ?_;rintro e w1 ⟨rfl,d1⟩;have c1:Below w.heap.size w w1:=Below.trans (by go_grown) (d1.mono (by simp;try omega));have z0:w1.cell? ⟨w.heap.size,0,none⟩=some (.int .i64 a):=aa d1 (by go_simp);have qz0:=World.block_lt_of_cell? _ _ z0;have z1:w1.cell? ⟨w.heap.size,1,none⟩=some (.int .i64 b):=aa d1 (by go_simp);have r0:w1.cell? ⟨w.heap.size+1,0,none⟩=some (.int .i64 0):=aa d1 (by go_simp);have fr0:w1.frozen? ⟨w.heap.size+1,0,none⟩=false:=ac (v:=.int .i64 0) d1 (by go_simp) (by go_simp);have qr0:=World.block_lt_of_cell? _ _ r0;have r1:w1.cell? ⟨w.heap.size+1,1,none⟩=some (.int .i64 0):=aa d1 (by go_simp);have fr1:w1.frozen? ⟨w.heap.size+1,1,none⟩=false:=ac (v:=.int .i64 0) d1 (by go_simp) (by go_simp);have hB:=c1;clear c1 d1;go_wp2_with fail;refine(RO.out _).mono ?_;rintro e w2 ⟨rfl,d2⟩;have c2:Below w1.heap.size w1 w2:=Below.trans (by go_grown) (d2.mono (by simp;try omega));replace z0:=aa c2 z0;replace qz0:=World.block_lt_of_cell? _ _ z0;replace z1:=aa c2 z1;replace fr0:=ac c2 r0 fr0;replace r0:=aa c2 r0;replace qr0:=World.block_lt_of_cell? _ _ r0;replace fr1:=ac c2 r1 fr1;replace r1:=aa c2 r1;replace hB:=ae hB c2;clear c2 d2;go_wp2_with fail;refine(M2.out _).mono ?_;rintro e w3 ⟨rfl,d3⟩;have c3:Below w2.heap.size w2 w3:=Below.trans (by go_grown) (d3.mono (by simp;try omega));replace z0:=aa c3 z0;replace qz0:=World.block_lt_of_cell? _ _ z0;replace z1:=aa c3 z1;replace fr0:=ac c3 r0 fr0;replace r0:=aa c3 r0;replace qr0:=World.block_lt_of_cell? _ _ r0;replace fr1:=ac c3 r1 fr1;replace r1:=aa c3 r1;have q0:w3.cell? ⟨w2.heap.size,0,none⟩=some (.int .i64 P):=aa d3 (by go_simp);have qq0:=World.block_lt_of_cell? _ _ q0;have q1:w3.cell? ⟨w2.heap.size,1,none⟩=some (.int .i64 Q):=aa d3 (by go_simp);replace hB:=ae hB c3;clear c3 d3;go_wp2_with fail;have lq:w2.heap.size<w3.heap.size:=qq0;have h1:=ag w3 (.cells #[.int .i64 C,.int .i64 D] 37);have h2:=ag (w3.alloc (.cells #[.int .i64 C,.int .i64 D] 37)) (.cells #[.int .i64 X,.int .i64 Y] 37);have hal:=ae h1 h2;have x0:((w3.alloc (.cells #[.int .i64 C,.int .i64 D] 37)).alloc (.cells #[.int .i64 X,.int .i64 Y] 37)).cell? ⟨w3.heap.size+1,0,none⟩=some (.int .i64 X):=by go_simp
 have x1:((w3.alloc (.cells #[.int .i64 C,.int .i64 D] 37)).alloc (.cells #[.int .i64 X,.int .i64 Y] 37)).cell? ⟨w3.heap.size+1,1,none⟩=some (.int .i64 Y):=by go_simp
 replace fr0:=ac hal r0 fr0;replace fr1:=ac hal r1 fr1;replace r0:=aa hal r0;replace r1:=aa hal r1;replace q0:=aa hal q0;replace q1:=aa hal q1;replace hB:=ae hB hal;clear h1 h2 hal z0 z1 qz0 qr0 qq0 M1 M2 RO;generalize ((w3.alloc (.cells #[.int .i64 C,.int .i64 D] 37)).alloc (.cells #[.int .i64 X,.int .i64 Y] 37))=wl at *;go_loopw [11] (fun v11 wr=>∃k:Nat,k<=6/\v11=.int .i64 (k:Int)/\(d=0∨k<d)/\Below wl.heap.size wl wr) (fun v11 _=>6-(intOf v11).toNat)
 case atStart=>exact⟨0,by omega,rfl,by omega,Below.refl _ _⟩
 case round =>
  obtain⟨k,hk,rfl,hkd,hX⟩:=hrel;replace fr0:=ac hX r0 fr0;replace fr1:=ac hX r1 fr1;replace r0:=aa hX r0;replace r1:=aa hX r1;replace q0:=aa hX q0;replace q1:=aa hX q1;replace x0:=aa hX x0;replace x1:=aa hX x1;by_cases hlt:k<6
  · have UK:Hid _:=UN.out k hlt;have HK:=UP.out k hlt;generalize cW (k:Int)=U at UK HK;generalize cY (k:Int)=V at UK HK;have hS0:=dB (aK wr) ⟨x0,x1,Below.refl _ _⟩;by_cases hq:U=X/\V=Y
    · have hdk:d=k+1:=HK.1 hq;obtain⟨rfl,rfl⟩:=hq;subst hdk;clear UN UP HK;go_wp2_with fail
      go_region_held3 (fun w'=>w'.cell? ⟨w3.heap.size+1,0,none⟩=some (.int .i64 U)/\w'.cell? ⟨w3.heap.size+1,1,none⟩=some (.int .i64 V)/\Below wr.heap.size wr w') (first | exact hS0 | exact dB hb (by assumption))
       (first | (go_at_call 36;refine(UK.out _).mono ?_;rintro e w' ⟨rfl,hb⟩))
      rename_i hS;have hW:=hS.2.2;replace fr0:=ac hW r0 fr0;replace fr1:=ac hW r1 fr1;replace r0:=aa hW r0;replace r1:=aa hW r1;replace q0:=aa hW q0;replace q1:=aa hW q1;have hZ:=ae hB (ae hX hW);obtain⟨g0,g1⟩:=au (u:=.int .i64 P) (v:=.int .i64 Q) r0 r1;clear hS hS0 x0 x1;go_wp2;exact bodyPost_ret (v:=.tuple #[.agg #[.int .i64 P,.int .i64 Q],.int .i64 ((k+1:Nat):Int)]) (by simp[results,Tryz.results119,go_sem,g0,g1]) rfl ⟨rfl,(hZ.setCell (by simp) _).setCell (by simp) _⟩
    · have hdk:¬d=k+1:=fun e=>hq (HK.2 e);by_cases hU:U=X
      · subst hU;have hV:(V == Y)=false:=by simp;exact fun e=>hq ⟨rfl,e⟩
        clear UN UP HK hq;go_wp2_with fail
        go_region_held3 (fun w'=>w'.cell? ⟨w3.heap.size+1,0,none⟩=some (.int .i64 U)/\w'.cell? ⟨w3.heap.size+1,1,none⟩=some (.int .i64 Y)/\Below wr.heap.size wr w') (first | exact hS0 | exact dB hb (by assumption))
         (first | (go_at_call 36;refine(UK.out _).mono ?_;rintro e w' ⟨rfl,hb⟩))
        rename_i hS;have hW:=hS.2.2;go_wp2;go_roundw
        case rel=>exact⟨k+1,by omega,by go_num,by omega,ae hX hW⟩
        case measure=>simp[intOf];omega
      · have hU':(U == X)=false:=by simpa using hU
        clear UN UP HK hq hU;go_wp2_with fail
        go_region_held3 (fun w'=>w'.cell? ⟨w3.heap.size+1,0,none⟩=some (.int .i64 X)/\w'.cell? ⟨w3.heap.size+1,1,none⟩=some (.int .i64 Y)/\Below wr.heap.size wr w') (first | exact hS0 | exact dB hb (by assumption))
         (first | (go_at_call 36;refine(UK.out _).mono ?_;rintro e w' ⟨rfl,hb⟩))
        rename_i hS;have hW:=hS.2.2;go_wp2;go_roundw
        case rel=>exact⟨k+1,by omega,by go_num,by omega,ae hX hW⟩
        case measure=>simp[intOf];omega
  · obtain rfl:k=6:=by omega
    obtain rfl:d=0:=by omega
    have hZ:=ae hB hX;obtain⟨g0,g1⟩:=au (u:=.int .i64 P) (v:=.int .i64 Q) r0 r1;clear x0 x1;go_wp2;exact bodyPost_ret (v:=.tuple #[.agg #[.int .i64 P,.int .i64 Q],.int .i64 0]) (by simp[results,Tryz.results119,go_sem,g0,g1]) rfl ⟨rfl,(hZ.setCell (by simp) _).setCell (by simp) _⟩
theorem iV (a b:Int)(ha:bc a)(hb:bc b)(w:World) :
 Calls Tryz.prog 119 #[.agg #[.int .i64 a,.int .i64 b]] w fun e w'=>e=.returned (.tuple #[.agg #[.int .i64 (aQ a b),.int .i64 (aR a b)],.int .i64 (dig a b)])/\Below w.heap.size w w':=by
 obtain⟨a1,a2⟩:=ha;obtain⟨b1,b2⟩:=hb;have hs:=fB a b;have hd:=fS a b;have hp:=kD (dig a b);have hx:=oK (a:=a) (b:=b) (B:=1073741824) ⟨a1,a2⟩ ⟨b1,b2⟩ (by omega);have e1:dL a b 3 (-1)=3*a+b:=by unfold dL;omega
 have e2:d9 a b 3 (-1)=2*b-a:=by unfold d9;omega
 have e3:dL (aQ a b) (aR a b) 2 1=2*aQ a b-aR a b:=by unfold dL;omega
 have e4:d9 (aQ a b) (aR a b) 2 1=aQ a b+3*aR a b:=by unfold d9;omega
 have M1:=fun w=>dM a b 3 (-1) (by omega) (by omega) (by omega) (by omega) (by omega) (by omega) (by omega) (by omega) (by rw[e1];exact ax (by omega)) (by rw[e2];exact ax (by omega)) w;have M2:=fun w=>dM (aQ a b) (aR a b) 2 1 (by omega) (by omega) (by omega) (by omega) (by omega) (by omega) (by omega) (by omega) (by rw[e3];exact ax (by omega)) (by rw[e4];exact ax (by omega)) w;rw[e1,e2]at M1;rw[e3,e4]at M2;obtain⟨d,hdd⟩:=Int.eq_ofNat_of_zero_le hd.1;have:=sj a b (3*a+b) (2*b-a) (aQ a b) (aR a b) (2*aQ a b-aR a b) (aQ a b+3*aR a b) (ptA (dig a b)) (ptB (dig a b)) d (by omega) (by rw[hdd]) (by rw[hdd]) (by omega) (by omega) a1 a2 b1 b2 (by omega) (by omega) (by omega) (by omega) M1
  (tI _ _ 7 _ _ (by omega) (by omega) (by omega) (by omega) (by omega) (by omega) (tB a b)) M2 w
 rw[hdd];exact this
theorem Df (r:Nat)(a b P Q:Int)(v:Bool)(r2:r<=12)(a1: -1073741824<=a)(a2:a<=1073741824)(b1: -1073741824<=b)(b2:b<=1073741824)(hP:(ups r a b).1=P)(hQ:(ups r a b).2=Q)
 (hv:Hid (v=decide ((-512<=P/\P<=511)/\(-512<=Q/\Q<=511)))) (w:World) :
 Calls Tryz.prog 118 #[.agg #[.int .i64 (r:Int),.int .i64 a,.int .i64 b]] w fun e w'=>e=.returned (.bool v)/\Below w.heap.size w w':=by
 have PA:Hid (∀k:Nat,k<=12->∀w,Calls Tryz.prog 119 #[.agg #[.int .i64 (ups k a b).1,.int .i64 (ups k a b).2]] w fun e w'=>e=.returned (.tuple #[.agg #[.int .i64 (ups (k+1) a b).1,.int .i64 (ups (k+1) a b).2],.int .i64 (dig (ups k a b).1 (ups k a b).2)])/\Below w.heap.size w w'):=by
  intro k hk w;have hx:=lI (B:=1073741824) (by omega) k (a:=a) (b:=b) ⟨a1,a2⟩ ⟨b1,b2⟩;rw[it];exact iV _ _ hx.1 hx.2 w
 have hPQ:Hid (ups r a b=(P,Q)):=by show ups r a b=(P,Q);rw[←hP,←hQ]
 clear hP hQ
 go_enter Tryz.func118,Tryz.ntmps118
 go_wp2_with fail;go_loopw [4] (fun v4 wr=>∃k:Nat,k<=r/\v4=.int .i64 (k:Int)/\wr.cell? ⟨w.heap.size+1,0,none⟩=some (.int .i64 (ups k a b).1)/\wr.cell? ⟨w.heap.size+1,1,none⟩=some (.int .i64 (ups k a b).2)/\wr.frozen? ⟨w.heap.size+1,0,none⟩=false/\wr.frozen? ⟨w.heap.size+1,1,none⟩=false/\wr.cell? ⟨w.heap.size,0,none⟩=some (.int .i64 (r:Int))/\Below w.heap.size w wr) (fun v4 _=>r-(intOf v4).toNat)
 case atStart=>exact⟨0,by omega,rfl,by go_simp;rfl,by go_simp;rfl,by go_simp,by go_simp,by go_simp,by go_grown⟩
 case round =>
  obtain⟨k,hk,rfl,z0,z1,fz0,fz1,c0,hB⟩:=hrel;have lz:w.heap.size+1<wr.heap.size:=World.block_lt_of_cell? _ _ z0;by_cases hlt:k<r
  · have PK:Hid _:=PA.out k (by omega);clear PA hPQ hv;generalize (ups k a b).1=X at PK z0;generalize (ups k a b).2=Y at PK z1;obtain⟨U,hU⟩:∃U,(ups (k+1) a b).1=U:=⟨_,rfl⟩
    obtain⟨V,hV⟩:∃V,(ups (k+1) a b).2=V:=⟨_,rfl⟩
    rw[hU,hV]at PK;replace hU:Hid _:=hU;replace hV:Hid _:=hV;have qz0:=World.block_lt_of_cell? _ _ z0;have qc0:=World.block_lt_of_cell? _ _ c0;go_wp2_with fail;refine(PK.out _).mono ?_;rintro e v1 ⟨rfl,d1⟩;have c1:Below wr.heap.size wr v1:=Below.trans (by go_grown) (d1.mono (by simp;try omega));replace fz0:=ac c1 z0 fz0;replace z0:=aa c1 z0;replace qz0:=World.block_lt_of_cell? _ _ z0;replace fz1:=ac c1 z1 fz1;replace z1:=aa c1 z1;replace c0:=aa c1 c0;replace qc0:=World.block_lt_of_cell? _ _ c0;replace hB:=ae hB c1;clear c1 d1;obtain⟨g0,g1⟩:=au (u:=.int .i64 U) (v:=.int .i64 V) z0 z1;go_wp2;go_roundw
    case rel=>exact⟨k+1,by omega,by go_num,by rw[hU.out];exact g0,by rw[hV.out];exact g1,by simp[fz0],by simp[fz1],ah (ah c0 (by simp)) (by simp),(hB.setCell (by simp) _).setCell (by simp) _⟩
    case measure=>simp[intOf];omega
  · obtain rfl:k=r:=by omega
    rw[hPQ.out]at z0 z1;clear PA hPQ;simp only at z0 z1;by_cases h1: -512<=P
    · by_cases h2:P<=511
      · by_cases h3: -512<=Q
        · by_cases h4:Q<=511
          · obtain rfl:v=true:=by rw[hv.out];exact decide_eq_true ⟨⟨h1,h2⟩,h3,h4⟩
            clear hv;go_wp2;go_ret;exact⟨rfl,hB⟩
          · obtain rfl:v=false:=by rw[hv.out];exact decide_eq_false (by omega)
            clear hv;have q:=df h4;go_wp2;go_ret;exact⟨rfl,hB⟩
        · obtain rfl:v=false:=by rw[hv.out];exact decide_eq_false (by omega)
          clear hv;have q:=df h3;go_wp2;go_ret;exact⟨rfl,hB⟩
      · obtain rfl:v=false:=by rw[hv.out];exact decide_eq_false (by omega)
        clear hv;have q:=df h2;go_wp2;go_ret;exact⟨rfl,hB⟩
    · obtain rfl:v=false:=by rw[hv.out];exact decide_eq_false (by omega)
      clear hv;have q:=df h1;go_wp2;go_ret;exact⟨rfl,hB⟩
theorem Gj (r a b:Int)(h:r<0)(w:World) :
 Calls Tryz.prog 118 #[.agg #[.int .i64 r,.int .i64 a,.int .i64 b]] w fun e w'=>e=.returned (.bool false)/\Below w.heap.size w w':=by
 go_enter Tryz.func118,Tryz.ntmps118
 go_wp2;go_ret;exact⟨rfl,by go_grown⟩
theorem Gk (r a b:Int)(q0:decide (r<0)=false)(h:12<r)(w:World) :
 Calls Tryz.prog 118 #[.agg #[.int .i64 r,.int .i64 a,.int .i64 b]] w fun e w'=>e=.returned (.bool false)/\Below w.heap.size w w':=by
 go_enter Tryz.func118,Tryz.ntmps118
 go_wp2;go_ret;exact⟨rfl,by go_grown⟩
theorem Gl (r a b:Int)(q0:decide (r<0)=false)(q1:decide (12<r)=false)(h:a < -1073741824)(w:World) :
 Calls Tryz.prog 118 #[.agg #[.int .i64 r,.int .i64 a,.int .i64 b]] w fun e w'=>e=.returned (.bool false)/\Below w.heap.size w w':=by
 go_enter Tryz.func118,Tryz.ntmps118
 go_wp2;go_ret;exact⟨rfl,by go_grown⟩
theorem Gm (r a b:Int)(q0:decide (r<0)=false)(q1:decide (12<r)=false)(q2:decide (a < -1073741824)=false)(h:1073741824<a)(w:World) :
 Calls Tryz.prog 118 #[.agg #[.int .i64 r,.int .i64 a,.int .i64 b]] w fun e w'=>e=.returned (.bool false)/\Below w.heap.size w w':=by
 go_enter Tryz.func118,Tryz.ntmps118
 go_wp2;go_ret;exact⟨rfl,by go_grown⟩
theorem Gn (r a b:Int)(q0:decide (r<0)=false)(q1:decide (12<r)=false)(q2:decide (a < -1073741824)=false)(q3:decide (1073741824<a)=false)(h:b < -1073741824)(w:World) :
 Calls Tryz.prog 118 #[.agg #[.int .i64 r,.int .i64 a,.int .i64 b]] w fun e w'=>e=.returned (.bool false)/\Below w.heap.size w w':=by
 go_enter Tryz.func118,Tryz.ntmps118
 go_wp2;go_ret;exact⟨rfl,by go_grown⟩
theorem Gp (r a b:Int)(q0:decide (r<0)=false)(q1:decide (12<r)=false)(q2:decide (a < -1073741824)=false)(q3:decide (1073741824<a)=false)(q4:decide (b < -1073741824)=false)(h:1073741824<b)(w:World) :
 Calls Tryz.prog 118 #[.agg #[.int .i64 r,.int .i64 a,.int .i64 b]] w fun e w'=>e=.returned (.bool false)/\Below w.heap.size w w':=by
 go_enter Tryz.func118,Tryz.ntmps118
 go_wp2;go_ret;exact⟨rfl,by go_grown⟩
theorem g8 (r a b:Int)(w:World) :
 Calls Tryz.prog 118 #[.agg #[.int .i64 r,.int .i64 a,.int .i64 b]] w fun e w'=>e=.returned (.bool (iS r a b))/\Below w.heap.size w w':=by
 by_cases q0:r<0
 · rw[dD fun h=>by unfold Ok4 bc at h;omega];exact Gj r a b q0 w
 · skip
   by_cases q1:12<r
   · rw[dD fun h=>by unfold Ok4 bc at h;omega];exact Gk r a b (df q0) q1 w
   · skip
     by_cases q2:a < -1073741824
     · rw[dD fun h=>by unfold Ok4 bc at h;omega];exact Gl r a b (df q0) (df q1) q2 w
     · skip
       by_cases q3:1073741824<a
       · rw[dD fun h=>by unfold Ok4 bc at h;omega];exact Gm r a b (df q0) (df q1) (df q2) q3 w
       · skip
         by_cases q4:b < -1073741824
         · rw[dD fun h=>by unfold Ok4 bc at h;omega];exact Gn r a b (df q0) (df q1) (df q2) (df q3) q4 w
         · skip
           by_cases q5:1073741824<b
           · rw[dD fun h=>by unfold Ok4 bc at h;omega];exact Gp r a b (df q0) (df q1) (df q2) (df q3) (df q4) q5 w
           · skip
             obtain⟨n,rfl⟩:=Int.eq_ofNat_of_zero_le (show 0<=r by omega);exact Df n a b _ _ _ (by omega) (by omega) (by omega) (by omega) (by omega) rfl rfl (by
              show iS _ _ _=_
              unfold iS;congr 1;apply propext;show _↔((-512<=(ups n a b).1/\(ups n a b).1<=511)/\(-512<=(ups n a b).2/\(ups n a b).2<=511))
              constructor
              · intro h;exact⟨h.2.2.2.2.1,h.2.2.2.2.2⟩
              · intro h;exact⟨by omega,by omega,by omega,by omega,h.1,h.2⟩) w
theorem si (r a b:Int)(h:Ok4 r a b)(hr:0<r)(w:World) :
 Calls Tryz.prog 76 #[.agg #[.int .i64 r,.int .i64 a,.int .i64 b]] w fun e w'=>e=.returned (.tuple #[.agg #[.int .i64 (r-1),.int .i64 (aQ a b),.int .i64 (aR a b)],.int .i64 0])/\Below w.heap.size w w':=by
 have OK:Hid (∀w,Calls Tryz.prog 118 #[.agg #[.int .i64 r,.int .i64 a,.int .i64 b]] w fun e w'=>e=.returned (.bool true)/\Below w.heap.size w w'):=fun w=>by rw[←jh h];exact g8 r a b w
 have PA:Hid _:=iV a b h.2.2.1 h.2.2.2.1;have q0:(r == 0)=false:=by simp;omega
 have r2:r<=12:=h.2.1;clear h;generalize aQ a b=P at *;generalize aR a b=Q at *
 go_enter Tryz.func76,Tryz.ntmps76
 go_wp2_with fail;refine(OK.out _).mono ?_;rintro e w1 ⟨rfl,d1⟩;have c1:Below w.heap.size w w1:=Below.trans (by go_grown) (d1.mono (by simp;try omega));have z0:w1.cell? ⟨w.heap.size,0,none⟩=some (.int .i64 r):=aa d1 (by go_simp);have fz0:w1.frozen? ⟨w.heap.size,0,none⟩=false:=ac (v:=.int .i64 r) d1 (by go_simp) (by go_simp);have qz0:=World.block_lt_of_cell? _ _ z0;have z1:w1.cell? ⟨w.heap.size,1,none⟩=some (.int .i64 a):=aa d1 (by go_simp);have fz1:w1.frozen? ⟨w.heap.size,1,none⟩=false:=ac (v:=.int .i64 a) d1 (by go_simp) (by go_simp);have z2:w1.cell? ⟨w.heap.size,2,none⟩=some (.int .i64 b):=aa d1 (by go_simp);have fz2:w1.frozen? ⟨w.heap.size,2,none⟩=false:=ac (v:=.int .i64 b) d1 (by go_simp) (by go_simp);have r0:w1.cell? ⟨w.heap.size+1,0,none⟩=some (.int .i64 0):=aa d1 (by go_simp);have fr0:w1.frozen? ⟨w.heap.size+1,0,none⟩=false:=ac (v:=.int .i64 0) d1 (by go_simp) (by go_simp);have qr0:=World.block_lt_of_cell? _ _ r0;have r1:w1.cell? ⟨w.heap.size+1,1,none⟩=some (.int .i64 0):=aa d1 (by go_simp);have fr1:w1.frozen? ⟨w.heap.size+1,1,none⟩=false:=ac (v:=.int .i64 0) d1 (by go_simp) (by go_simp);have r2:w1.cell? ⟨w.heap.size+1,2,none⟩=some (.int .i64 0):=aa d1 (by go_simp);have fr2:w1.frozen? ⟨w.heap.size+1,2,none⟩=false:=ac (v:=.int .i64 0) d1 (by go_simp) (by go_simp);have hB:=c1;clear c1 d1;go_wp2_with fail;refine(PA.out _).mono ?_;rintro e w2 ⟨rfl,d2⟩;have c2:Below w1.heap.size w1 w2:=Below.trans (by go_grown) (d2.mono (by simp;try omega));replace fz0:=ac c2 z0 fz0;replace z0:=aa c2 z0;replace qz0:=World.block_lt_of_cell? _ _ z0;replace fz1:=ac c2 z1 fz1;replace z1:=aa c2 z1;replace fz2:=ac c2 z2 fz2;replace z2:=aa c2 z2;replace fr0:=ac c2 r0 fr0;replace r0:=aa c2 r0;replace qr0:=World.block_lt_of_cell? _ _ r0;replace fr1:=ac c2 r1 fr1;replace r1:=aa c2 r1;replace fr2:=ac c2 r2 fr2;replace r2:=aa c2 r2;replace hB:=ae hB c2;clear c2 d2;obtain⟨g0,g1,g2⟩:=aJ (u0:=.int .i64 (r-1)) (u1:=.int .i64 (P)) (u2:=.int .i64 (Q)) r0 r1 r2;have e0:=aa (ag _ (.cells #[.int .i64 (P),.int .i64 (Q)] 37)) g0;have e1:=aa (ag _ (.cells #[.int .i64 (P),.int .i64 (Q)] 37)) g1;have e2:=aa (ag _ (.cells #[.int .i64 (P),.int .i64 (Q)] 37)) g2;go_wp2;exact bodyPost_ret (v:=.tuple #[.agg #[.int .i64 (r-1),.int .i64 (P),.int .i64 (Q)],.int .i64 0]) (by simp[results,Tryz.results76,go_sem,e0,e1,e2]) rfl ⟨rfl,(((hB.setCell (by simp) _).setCell (by simp) _).setCell (by simp) _).alloc (by simp;omega) _⟩
def im (G:Nat->Int):Nat->List Value
 | 0=>[]
 | k+1=>im G k++[.int .i64 (G (k*3)),.int .i64 (G (k*3+1)),.int .i64 (G (k*3+2))]
theorem Au (w:World)(B:Nat)(h:w.heap.size=B)(x y z:Int)(e:TypeId):∀j u,([.int .i64 x,.int .i64 y,.int .i64 z]:List Value)[j]?=some u->(w.alloc (.cells #[.int .i64 x,.int .i64 y,.int .i64 z] e)).cell? ((⟨B,0,none⟩:Addr).add j)=some u:=by
 subst h;intro j u hj
 match j,hj with
 | 0,hj=>simp at hj;subst hj;simp[Addr.add]
 | 1,hj=>simp at hj;subst hj;simp[Addr.add]
 | 2,hj=>simp at hj;subst hj;simp[Addr.add]
theorem Av (x y z:Int):∀u∈([.int .i64 x,.int .i64 y,.int .i64 z]:List Value),u.oneCell'=true:=by
 intro u hu;simp at hu;rcases hu with rfl | rfl | rfl <;>rfl
theorem Gq (G:Nat->Int)(o:Nat)(ho:o<21):(im G 7)[o]?=some (.int .i64 (G o)):=by
 have h:o=0∨o=1∨o=2∨o=3∨o=4∨o=5∨o=6∨o=7∨o=8∨o=9∨o=10∨o=11∨o=12∨o=13∨o=14∨o=15∨o=16∨o=17∨o=18∨o=19∨o=20:=by omega
 rcases h with rfl | rfl | rfl | rfl | rfl | rfl | rfl | rfl | rfl | rfl | rfl | rfl | rfl | rfl | rfl | rfl | rfl | rfl | rfl | rfl | rfl <;>rfl
theorem Ca:(Tryz.prog.info? 39).map (fun i=>(i.zero,i.size,i.bytes))=some (some (.agg #[.int .i64 0,.int .i64 0,.int .i64 0]),3,24):=by kernel_rfl
def yg (G:Nat->Int)(e:Ending)(w':World):Prop:=∃g cap,e=.returned (.tuple #[.slice (some ⟨g,0,none⟩) 7 cap,.int .i64 0])/\∀o<21,w'.cell? ⟨g,o,none⟩=some (.int .i64 (G o))
theorem xE (r a b A B:Int)(G:Nat->Int)(r1:0<=r)(r2:r<12)(hr:(r == 12)=false)(h:Ok4 r a b)
 (A1: -9007199254740992<=A) (A2:A<=9007199254740992) (B1: -9007199254740992<=B) (B2:B<=9007199254740992)
 (hG0:G 0=r+1) (hG1:G 1=A) (hG2:G 2=B)
 (hG:∀k:Nat,k<6->G ((k+1)*3)=r+1/\G ((k+1)*3+1)=A+cW (k:Int)/\G ((k+1)*3+2)=B+cY (k:Int))
 (MU:∀w,Calls Tryz.prog 35 #[.agg #[.int .i64 a,.int .i64 b],.agg #[.int .i64 2,.int .i64 1]] w fun x w'=>x=.returned (.tuple #[.agg #[.int .i64 A,.int .i64 B],.bool true])/\Below w.heap.size w w') (w:World) :
 Calls Tryz.prog 77 #[.agg #[.int .i64 r,.int .i64 a,.int .i64 b]] w fun e w'=>yg G e w'/\Below w.heap.size w w':=by
 have OK:Hid (∀w,Calls Tryz.prog 118 #[.agg #[.int .i64 r,.int .i64 a,.int .i64 b]] w fun e w'=>e=.returned (.bool true)/\Below w.heap.size w w'):=fun w=>by rw[←jh h];exact g8 r a b w
 have UN:Hid (∀k:Nat,k<6->∀w,Calls Tryz.prog 36 #[.int .i64 (k:Int)] w fun e w'=>e=.returned (.agg #[.int .i64 (cW (k:Int)),.int .i64 (cY (k:Int))])/\Below w.heap.size w w'):=by
  intro k hk w;have:=fu (k:Int) w
  rwa [show(k:Int)%6=k by omega]at this
 have hrow1:Hid (im G 1=[.int .i64 (r+1),.int .i64 A,.int .i64 B]):=by show im G 0++[.int .i64 (G 0),.int .i64 (G 1),.int .i64 (G 2)]=_;rw[hG0,hG1,hG2];rfl
 have hrowS:Hid (∀k:Nat,k<6->im G (k+1+1)=im G (k+1)++[.int .i64 (r+1),.int .i64 (A+cW (k:Int)),.int .i64 (B+cY (k:Int))]):=by
  intro k hk;obtain⟨e0,e1,e2⟩:=hG k hk;show im G (k+1)++[.int .i64 (G ((k+1)*3)),.int .i64 (G ((k+1)*3+1)),.int .i64 (G ((k+1)*3+2))]=_
  rw[e0,e1,e2]
 have UB:Hid (∀k:Nat,k<6->(-1<=cW (k:Int)/\cW (k:Int)<=1)/\(-1<=cY (k:Int)/\cY (k:Int)<=1)):=by
  intro k hk;have ck:k=0∨k=1∨k=2∨k=3∨k=4∨k=5:=by omega
  rcases ck with rfl | rfl | rfl | rfl | rfl | rfl <;>decide
 replace MU:Hid _:=MU;clear h hG hG0 hG1 hG2
 go_enter Tryz.func77,Tryz.ntmps77
 go_wp2_with fail;refine(OK.out _).mono ?_;rintro e w1 ⟨rfl,d1⟩;have c1:Below w.heap.size w w1:=Below.trans (by go_grown) (d1.mono (by simp;try omega));have z0:w1.cell? ⟨w.heap.size,0,none⟩=some (.int .i64 r):=aa d1 (by go_simp);have qz0:=World.block_lt_of_cell? _ _ z0;have z1:w1.cell? ⟨w.heap.size,1,none⟩=some (.int .i64 a):=aa d1 (by go_simp);have z2:w1.cell? ⟨w.heap.size,2,none⟩=some (.int .i64 b):=aa d1 (by go_simp);have hB:=c1;clear c1 d1;go_wp2_with fail;refine(MU.out _).mono ?_;rintro e w2 ⟨rfl,d2⟩;have c2:Below w1.heap.size w1 w2:=Below.trans (by go_grown) (d2.mono (by simp;try omega));replace z0:=aa c2 z0;replace qz0:=World.block_lt_of_cell? _ _ z0;replace z1:=aa c2 z1;replace z2:=aa c2 z2;replace hB:=ae hB c2;clear c2 d2;go_wp2_with fail;have h1:=ag w2 (.cells #[.int .i64 A,.int .i64 B] 37);have m0:(w2.alloc (.cells #[.int .i64 A,.int .i64 B] 37)).cell? ⟨w2.heap.size,0,none⟩=some (.int .i64 A):=by go_simp
 have m1:(w2.alloc (.cells #[.int .i64 A,.int .i64 B] 37)).cell? ⟨w2.heap.size,1,none⟩=some (.int .i64 B):=by go_simp
 have lz:w.heap.size<w2.heap.size:=qz0;replace z0:=aa h1 z0;replace hB:=ae hB h1;have hsz:(w2.alloc (.cells #[.int .i64 A,.int .i64 B] 37)).heap.size=w2.heap.size+1:=by simp
 clear h1 z1 z2 MU OK;have hO0:Hid (((w2.alloc (.cells #[.int .i64 A,.int .i64 B] 37)).alloc (.cells #[.int .i64 (r+1),.int .i64 A,.int .i64 B] 39)).ownsRow (w2.alloc (.cells #[.int .i64 A,.int .i64 B] 37)).heap.size 39 3 (.slice (some ⟨(w2.alloc (.cells #[.int .i64 A,.int .i64 B] 37)).heap.size,0,none⟩) 1 1) 1 (im G 1)):=by
  show World.ownsRow _ _ _ _ _ _ _
  rw[hrow1.out];exact World.ownsRow_lit _ #[.int .i64 (r+1),.int .i64 A,.int .i64 B] 1 (Nat.le_refl _) (by unfold maxLen;omega) rfl
 rw[hsz]at hO0;have hX0:Below (w2.alloc (.cells #[.int .i64 A,.int .i64 B] 37)).heap.size (w2.alloc (.cells #[.int .i64 A,.int .i64 B] 37)) ((w2.alloc (.cells #[.int .i64 A,.int .i64 B] 37)).alloc (.cells #[.int .i64 (r+1),.int .i64 A,.int .i64 B] 39)):=ag _ _;rw[hsz]at hX0;obtain⟨i0,hi,hz0,hz1,hz2⟩:=info_parts Ca;go_loopw [6,7] (fun v6 v7 wr=>∃k:Nat,k<=6/\v7=.int .i64 (k:Int)/\Hid (wr.ownsRow (w2.heap.size+1) 39 3 v6 (k+1) (im G (k+1)))/\Below (w2.heap.size+1) (w2.alloc (.cells #[.int .i64 A,.int .i64 B] 37)) wr) (fun _ v7 _=>6-(intOf v7).toNat)
 case atStart=>exact⟨0,by omega,rfl,hO0,hX0⟩
 case round =>
  clear hO0 hX0;obtain⟨k,hk,rfl,hO,hX⟩:=hrel;have s0:=aI hX z0 (by simp;omega);have s1:=aI hX m0 (by simp);have s2:=aI hX m1 (by simp);have hwz:w2.heap.size+1<=wr.heap.size:=by have:=hX.size;omega
  by_cases hlt:k<6
  · have UK:Hid _:=UN.out k hlt;obtain⟨⟨u1,u2⟩,⟨u3,u4⟩⟩:=UB.out k hlt;have hrow:Hid _:=hrowS.out k hlt;clear UN UB hrowS hrow1 z0 m0 m1;generalize cW (k:Int)=U at *;generalize cY (k:Int)=V at *;have hB0:=hB;clear hB;have hB:Below wr.heap.size wr wr:=Below.refl _ _;have qs0:=World.block_lt_of_cell? _ _ s0;have qs1:=World.block_lt_of_cell? _ _ s1;go_wp2_with fail;refine(UK.out _).mono ?_;rintro e v1 ⟨rfl,d1⟩;have c1:Below wr.heap.size wr v1:=Below.trans (by go_grown) (d1.mono (by simp;try omega));replace s0:=aa c1 s0;replace qs0:=World.block_lt_of_cell? _ _ s0;replace s1:=aa c1 s1;replace qs1:=World.block_lt_of_cell? _ _ s1;replace s2:=aa c1 s2;replace hB:=ae hB c1;clear c1 d1;have hO1:Hid (v1.ownsRow (w2.heap.size+1) 39 3 u6 (k+1) (im G (k+1))):=ai hB hO.out;have hX1:=hX.trans (hB.mono hwz);have hwz1:w2.heap.size+1<=v1.heap.size:=by have:=hB.size;omega
    have e1:(v1.alloc (.cells #[.int .i64 U,.int .i64 V] 37)).heap.size=v1.heap.size+1:=by simp
    clear hO hX hB UK;go_wp2_with (at_builtin;refine wpList_append_own _ rfl (.tmp 36) (.tmp 52) 116 rfl (w2.heap.size+1) 39 i0 (.agg #[.int .i64 0,.int .i64 0,.int .i64 0]) 3 24 Tryz.underlying116 hi hz0 hz1 hz2 rfl (by decide) _ _ _ rfl (ai (ae (ag _ _) (ag _ _)) hO1.out) ⟨v1.heap.size+1,0,none⟩ 1 1 [.int .i64 (r+1),.int .i64 (A+U),.int .i64 (B+V)] rfl rfl (Au _ _ e1 _ _ _ _) (Av _ _ _) (by unfold maxLen;omega) (by omega) (by simp;omega) ?_)
    intro v' w5 hown hgrow _;have hX5:=((hX1.alloc hwz1 (.cells #[.int .i64 U,.int .i64 V] 37)).alloc (by simp;omega) (.cells #[.int .i64 (r+1),.int .i64 (A+U),.int .i64 (B+V)] 39)).grown hgrow (by simp;omega) (aM hO1.out);have hO5:Hid (w5.ownsRow (w2.heap.size+1) 39 3 v' (k+1+1) (im G (k+1+1))):=by rw[hrow.out];exact hown
    clear hown hgrow hO1 hX1 hwz1 e1;go_wp2;go_roundw
    case rel=>exact⟨k+1,by omega,by go_num,hO5,hX5⟩
    case measure=>simp[intOf];omega
  · obtain rfl:k=6:=by omega
    obtain⟨g,cap,rfl⟩:=cA hO.out (by omega);have hZ:Below w.heap.size w wr:=hB.trans (hX.mono (by omega));clear UN UB hrowS hrow1 z0 m0 m1 s0 s1 s2;go_wp2
    go_ret2
    refine⟨⟨g,cap,rfl,fun o ho=>?_⟩,hZ⟩;rw[hO.out.cellAt o (by omega)];exact Gq G o ho
theorem zZ (r a b:Int)(h:Ok4 r a b)(hr:r<12)(w:World) :
 Calls Tryz.prog 77 #[.agg #[.int .i64 r,.int .i64 a,.int .i64 b]] w fun e w'=>yg (fj r a b) e w'/\Below w.heap.size w w':=by
 have hp:=ce h;have e1:dL a b 2 1=2*a-b:=by unfold dL;omega
 have e2:d9 a b 2 1=a+3*b:=by unfold d9;omega
 have MU:=fun w=>dM a b 2 1 (by omega) (by omega) (by omega) (by omega) (by omega) (by omega) (by omega) (by omega) (by rw[e1];exact ax (by omega)) (by rw[e2];exact ax (by omega)) w;rw[e1,e2]at MU;refine xE r a b (2*a-b) (a+3*b) (fj r a b) h.1 hr (by simp;omega) h (by omega) (by omega) (by omega) (by omega) (km r a b 0) ?_ ?_ (fun k hk=>⟨km r a b (k+1),?_,?_⟩) MU w
 · rw[show(1:Nat)=0*3+1 from rfl,kn];show 2*a-b+0=_;omega
 · rw[show(2:Nat)=0*3+2 from rfl,ko];show a+3*b+0=_;omega
 · rw[kn];have:=(kQ k (k+1) hk (by omega)).2 rfl;rw[this.1];rfl
 · rw[ko];have:=(kQ k (k+1) hk (by omega)).2 rfl;rw[this.2];rfl
end Go.Proofs.YtbnlhdnnenahfaaGreatDoor
