/-
  What the texts PCentre, RefCentre, PHex, Six say, so far as this seat's proofs need it.
-/
import Derived.Test.YtbnlhdnnenahfaaGreatDoorR1Y
set_option maxHeartbeats 8000000
set_option maxRecDepth 20000
namespace Go.Proofs.YtbnlhdnnenahfaaGreatDoor
open Go.RowKit
theorem nZ (a b:Int)(a1: -9007199254740992<=a)(a2:a<=9007199254740992)(b1: -9007199254740992<=b)(b2:b<=9007199254740992)(w:World) :
 Calls Tryz.prog 133 #[.agg #[.int .i64 a,.int .i64 b]] w fun e w'=>e=.returned (.tuple #[.int .i64 (52*a+26*b),.int .i64 (45*b)])/\Below w.heap.size w w':=by
 go_enter Tryz.func133,Tryz.ntmps133
 go_wp2
 go_quiet (fail)
 go_wp2
 go_ret2
 exact⟨rfl,aB (by go_grown) _⟩
theorem l5 (n:Int)(h1: -1073741824<=n)(h2:n<=1073741824)(w:World) :
 Calls Tryz.prog 131 #[.int .i64 n] w fun e w'=>e=.returned (.bool true)/\w'=w:=by
 go_enter Tryz.func131,Tryz.ntmps131
 go_wp2;go_ret;exact⟨rfl,rfl⟩
def dP (n:Int):Prop:= -1073741824<=n/\n<=1073741824
theorem tr {w:World}{b:Nat}{x0 x1 x2 x3 u0 u1 u2 u3:Value}(h0:w.cell? ⟨b,0,none⟩=some x0)(h1:w.cell? ⟨b,1,none⟩=some x1)(h2:w.cell? ⟨b,2,none⟩=some x2)(h3:w.cell? ⟨b,3,none⟩=some x3) :
 ((((w.setCell ⟨b,0,none⟩ u0).setCell ⟨b,1,none⟩ u1).setCell ⟨b,2,none⟩ u2).setCell ⟨b,3,none⟩ u3).cell? ⟨b,0,none⟩=some u0 /\
 ((((w.setCell ⟨b,0,none⟩ u0).setCell ⟨b,1,none⟩ u1).setCell ⟨b,2,none⟩ u2).setCell ⟨b,3,none⟩ u3).cell? ⟨b,1,none⟩=some u1 /\
 ((((w.setCell ⟨b,0,none⟩ u0).setCell ⟨b,1,none⟩ u1).setCell ⟨b,2,none⟩ u2).setCell ⟨b,3,none⟩ u3).cell? ⟨b,2,none⟩=some u2 /\
 ((((w.setCell ⟨b,0,none⟩ u0).setCell ⟨b,1,none⟩ u1).setCell ⟨b,2,none⟩ u2).setCell ⟨b,3,none⟩ u3).cell? ⟨b,3,none⟩=some u3 :=
 ⟨ah (ah (ah (ay h0) (by simp)) (by simp)) (by simp),ah (ah (ay (ah h1 (by simp))) (by simp)) (by simp),ah (ay (ah (ah h2 (by simp)) (by simp))) (by simp),ay (ah (ah (ah h3 (by simp)) (by simp)) (by simp))⟩
theorem oL (a b r X Y:Int)(a1: -1073741824<=a)(a2:a<=1073741824)(b1: -1073741824<=b)(b2:b<=1073741824)
 (ST:∀w,Calls Tryz.prog 130 #[.int .i64 r] w fun e w'=>e=.returned (.tuple #[.agg #[.int .i64 X,.int .i64 Y],.bool true])/\Below w.heap.size w w') (w:World) :
 Calls Tryz.prog 84 #[.agg #[.int .i64 a,.int .i64 b],.int .i64 r] w fun e w'=>e=.returned (.tuple #[.agg #[.int .i64 a,.int .i64 b,.int .i64 X,.int .i64 Y],.bool true])/\Below w.heap.size w w':=by
 have WA:Hid (∀w,Calls Tryz.prog 131 #[.int .i64 a] w fun e w'=>e=.returned (.bool true)/\w'=w):=l5 a a1 a2;have WB:Hid (∀w,Calls Tryz.prog 131 #[.int .i64 b] w fun e w'=>e=.returned (.bool true)/\w'=w):=l5 b b1 b2;replace ST:Hid _:=ST
 go_enter Tryz.func84,Tryz.ntmps84
 go_wp2_with fail;refine(ST.out _).mono ?_;rintro e w1 ⟨rfl,d1⟩;have c1:Below w.heap.size w w1:=Below.trans (by go_grown) (d1.mono (by simp;try omega));have p0:w1.cell? ⟨w.heap.size,0,none⟩=some (.int .i64 a):=aa d1 (by go_simp);have qp0:=World.block_lt_of_cell? _ _ p0;have p1:w1.cell? ⟨w.heap.size,1,none⟩=some (.int .i64 b):=aa d1 (by go_simp);have r0:w1.cell? ⟨w.heap.size+1,0,none⟩=some (.int .i64 0):=aa d1 (by go_simp);have fr0:w1.frozen? ⟨w.heap.size+1,0,none⟩=false:=ac (v:=.int .i64 0) d1 (by go_simp) (by go_simp);have qr0:=World.block_lt_of_cell? _ _ r0;have r1:w1.cell? ⟨w.heap.size+1,1,none⟩=some (.int .i64 0):=aa d1 (by go_simp);have fr1:w1.frozen? ⟨w.heap.size+1,1,none⟩=false:=ac (v:=.int .i64 0) d1 (by go_simp) (by go_simp);have r2:w1.cell? ⟨w.heap.size+1,2,none⟩=some (.int .i64 0):=aa d1 (by go_simp);have fr2:w1.frozen? ⟨w.heap.size+1,2,none⟩=false:=ac (v:=.int .i64 0) d1 (by go_simp) (by go_simp);have r3:w1.cell? ⟨w.heap.size+1,3,none⟩=some (.int .i64 0):=aa d1 (by go_simp);have fr3:w1.frozen? ⟨w.heap.size+1,3,none⟩=false:=ac (v:=.int .i64 0) d1 (by go_simp) (by go_simp);have hB:=c1;clear c1 d1;go_wp2_with fail;refine(WA.out _).mono ?_;rintro e w2 ⟨rfl,rfl⟩;go_wp2_with fail;refine(WB.out _).mono ?_;rintro e w2 ⟨rfl,rfl⟩;obtain⟨g0,g1,g2,g3⟩:=tr (u0:=.int .i64 a) (u1:=.int .i64 b) (u2:=.int .i64 X) (u3:=.int .i64 Y) r0 r1 r2 r3;have e0:=aa (ag _ (.cells #[.int .i64 X,.int .i64 Y] 37)) g0;have e1:=aa (ag _ (.cells #[.int .i64 X,.int .i64 Y] 37)) g1;have e2:=aa (ag _ (.cells #[.int .i64 X,.int .i64 Y] 37)) g2;have e3:=aa (ag _ (.cells #[.int .i64 X,.int .i64 Y] 37)) g3;go_wp2;exact bodyPost_ret (v:=.tuple #[.agg #[.int .i64 a,.int .i64 b,.int .i64 X,.int .i64 Y],.bool true]) (by simp[results,Tryz.results84,go_sem,e0,e1,e2,e3]) rfl ⟨rfl,((((hB.setCell (by simp) _).setCell (by simp) _).setCell (by simp) _).setCell (by simp) _).alloc (by simp;omega) _⟩
theorem jZ (a b r:Int)(K:Nat)(hK:K<=12)(hr:12-r=(K:Int))(ha:dP a)(hb:dP b)(w:World) :
 Calls Tryz.prog 84 #[.agg #[.int .i64 a,.int .i64 b],.int .i64 r] w fun e w'=>e=.returned (.tuple #[.agg #[.int .i64 a,.int .i64 b,.int .i64 (bet K).1,.int .i64 (bet K).2],.bool true])/\Below w.heap.size w w' :=
 oL a b r _ _ ha.1 ha.2 hb.1 hb.2 (pU r K hK hr) w
theorem rS (a b X Y A B p q:Int)(hp:52*A+26*B=p)(hq:45*B=q)(A1: -9007199254740992<=A)(A2:A<=9007199254740992)(B1: -9007199254740992<=B)(B2:B<=9007199254740992)
 (MU:∀w,Calls Tryz.prog 132 #[.agg #[.int .i64 X,.int .i64 Y],.agg #[.int .i64 a,.int .i64 b]] w fun e w'=>e=.returned (.tuple #[.agg #[.int .i64 A,.int .i64 B],.bool true])/\Below w.heap.size w w') (w:World) :
 Calls Tryz.prog 85 #[.agg #[.int .i64 a,.int .i64 b,.int .i64 X,.int .i64 Y]] w fun e w'=>e=.returned (.tuple #[.int .i64 p,.int .i64 q])/\Below w.heap.size w w':=by
 have PL:Hid (∀w,Calls Tryz.prog 133 #[.agg #[.int .i64 A,.int .i64 B]] w fun e w'=>e=.returned (.tuple #[.int .i64 p,.int .i64 q])/\Below w.heap.size w w'):=by rw[←hp,←hq];exact nZ A B A1 A2 B1 B2
 clear hp hq;replace MU:Hid _:=MU
 go_enter Tryz.func85,Tryz.ntmps85
 go_wp2_with fail;refine(MU.out _).mono ?_;rintro e w1 ⟨rfl,d1⟩;have c1:Below w.heap.size w w1:=Below.trans (by go_grown) (d1.mono (by simp;try omega));have hB:=c1;clear c1 d1;go_wp2_with fail;refine(PL.out _).mono ?_;rintro e w2 ⟨rfl,d2⟩;have c2:Below w1.heap.size w1 w2:=Below.trans (by go_grown) (d2.mono (by simp;try omega));replace hB:=ae hB c2;clear c2 d2;go_wp2
 go_ret2
 exact⟨rfl,hB⟩
theorem tE (a b:Int)(K:Nat)(hK:K<=12)(ha:dP a)(hb:dP b)(w:World) :
 Calls Tryz.prog 85 #[.agg #[.int .i64 a,.int .i64 b,.int .i64 (bet K).1,.int .i64 (bet K).2]] w fun e w'=>e=.returned (.tuple #[.int .i64 (poX K a b),.int .i64 (poY K a b)])/\Below w.heap.size w w':=by
 have hs:=dH hK;obtain⟨a1,a2⟩:=ha;obtain⟨b1,b2⟩:=hb;have hc:=ic (a:=a) (b:=b) hK (by omega) (by omega);exact rS a b _ _ (ctA K a b) (ctB K a b) _ _ rfl rfl (by omega) (by omega) (by omega) (by omega)
  (fg _ _ _ _ _ _ rfl rfl (by omega) (by omega) (by omega) (by omega) (by omega) (by omega) (by omega) (by omega) (by omega) (by omega) (by omega) (by omega)) w
theorem rO (a b r X Y p q:Int)
 (CO:∀w,Calls Tryz.prog 84 #[.agg #[.int .i64 a,.int .i64 b],.int .i64 r] w fun e w'=>e=.returned (.tuple #[.agg #[.int .i64 a,.int .i64 b,.int .i64 X,.int .i64 Y],.bool true])/\Below w.heap.size w w')
 (MI:∀w,Calls Tryz.prog 85 #[.agg #[.int .i64 a,.int .i64 b,.int .i64 X,.int .i64 Y]] w fun e w'=>e=.returned (.tuple #[.int .i64 p,.int .i64 q])/\Below w.heap.size w w') (w:World) :
 Calls Tryz.prog 56 #[.agg #[.int .i64 a,.int .i64 b],.int .i64 r] w fun e w'=>e=.returned (.tuple #[.int .i64 p,.int .i64 q,.bool true])/\Below w.heap.size w w':=by
 replace CO:Hid _:=CO;replace MI:Hid _:=MI
 go_enter Tryz.func56,Tryz.ntmps56
 go_wp2_with fail;refine(CO.out _).mono ?_;rintro e w1 ⟨rfl,d1⟩;have c1:Below w.heap.size w w1:=Below.trans (by go_grown) (d1.mono (by simp;try omega));have hB:=c1;clear c1 d1;go_wp2_with fail;refine(MI.out _).mono ?_;rintro e w2 ⟨rfl,d2⟩;have c2:Below w1.heap.size w1 w2:=Below.trans (by go_grown) (d2.mono (by simp;try omega));replace hB:=ae hB c2;clear c2 d2;go_wp2
 go_ret3
 exact⟨rfl,hB⟩
theorem lY (a b r:Int)(K:Nat)(hK:K<=12)(hr:12-r=(K:Int))(ha:dP a)(hb:dP b)(w:World) :
 Calls Tryz.prog 56 #[.agg #[.int .i64 a,.int .i64 b],.int .i64 r] w fun e w'=>e=.returned (.tuple #[.int .i64 (poX K a b),.int .i64 (poY K a b),.bool true])/\Below w.heap.size w w' :=
 rO a b r _ _ _ _ (jZ a b r K hK hr ha hb) (tE a b K hK ha hb) w
theorem r8 (a b r X Y A B:Int)(r1:0<=r)(r2:r<=12)(a1: -1073741824<=a)(a2:a<=1073741824)(b1: -1073741824<=b)(b2:b<=1073741824)(A1: -9007199254740992<=A)(A2:A<=9007199254740992)(B1: -9007199254740992<=B)(B2:B<=9007199254740992)
 (BE:∀w,Calls Tryz.prog 37 #[.int .i64 (12-r)] w fun e w'=>e=.returned (.tuple #[.agg #[.int .i64 X,.int .i64 Y],.bool true])/\Below w.heap.size w w')
 (MU:∀w,Calls Tryz.prog 35 #[.agg #[.int .i64 a,.int .i64 b],.agg #[.int .i64 X,.int .i64 Y]] w fun e w'=>e=.returned (.tuple #[.agg #[.int .i64 A,.int .i64 B],.bool true])/\Below w.heap.size w w') (w:World) :
 Calls Tryz.prog 15 #[.agg #[.int .i64 a,.int .i64 b],.int .i64 r] w fun e w'=>e=.returned (.tuple #[.int .i64 (52*A+26*B),.int .i64 (45*B),.bool true])/\Below w.heap.size w w':=by
 replace BE:Hid _:=BE;replace MU:Hid _:=MU
 go_enter Tryz.func15,Tryz.ntmps15
 go_wp2_with fail;refine(BE.out _).mono ?_;rintro e w1 ⟨rfl,d1⟩;have c1:Below w.heap.size w w1:=Below.trans (by go_grown) (d1.mono (by simp;try omega));have p0:w1.cell? ⟨w.heap.size,0,none⟩=some (.int .i64 a):=aa d1 (by go_simp);have qp0:=World.block_lt_of_cell? _ _ p0;have p1:w1.cell? ⟨w.heap.size,1,none⟩=some (.int .i64 b):=aa d1 (by go_simp);have hB:=c1;clear c1 d1;go_wp2_with fail;refine(MU.out _).mono ?_;rintro e w2 ⟨rfl,d2⟩;have c2:Below w1.heap.size w1 w2:=Below.trans (by go_grown) (d2.mono (by simp;try omega));replace p0:=aa c2 p0;replace qp0:=World.block_lt_of_cell? _ _ p0;replace p1:=aa c2 p1;replace hB:=ae hB c2;clear c2 d2;have hB':=ae hB (ag w2 (.cells #[.int .i64 A,.int .i64 B] 37));go_wp2
 go_quiet (fail)
 go_wp2
 go_ret3
 exact⟨rfl,aB hB' _⟩
theorem vr {K:Nat}{a b:Int}(hK:K<=12)(ha: -4294967296<=a/\a<=4294967296)(hb: -4294967296<=b/\b<=4294967296)(w:World) :
 Calls Tryz.prog 35 #[.agg #[.int .i64 a,.int .i64 b],.agg #[.int .i64 (bet K).1,.int .i64 (bet K).2]] w fun e w'=>e=.returned (.tuple #[.agg #[.int .i64 (ctA K a b),.int .i64 (ctB K a b)],.bool true])/\Below w.heap.size w w':=by
 have hs:=dH hK;have hc:=ic hK ha hb;have eA:dL a b (bet K).1 (bet K).2=ctA K a b:=by unfold dL ctA;grind
 have eB:d9 a b (bet K).1 (bet K).2=ctB K a b:=by unfold d9 ctB;grind
 have MU:=dM a b (bet K).1 (bet K).2 (by omega) (by omega) (by omega) (by omega) (by omega) (by omega) (by omega) (by omega) (by rw[eA];exact ax ⟨by omega,by omega⟩) (by rw[eB];exact ax ⟨by omega,by omega⟩) w;rw[eA,eB]at MU;exact MU
theorem iT (a b r:Int)(K:Nat)(hK:K<=12)(hr:12-r=(K:Int))(ha:dP a)(hb:dP b)(w:World) :
 Calls Tryz.prog 15 #[.agg #[.int .i64 a,.int .i64 b],.int .i64 r] w fun e w'=>e=.returned (.tuple #[.int .i64 (poX K a b),.int .i64 (poY K a b),.bool true])/\Below w.heap.size w w':=by
 obtain⟨a1,a2⟩:=ha;obtain⟨b1,b2⟩:=hb;have hc:=ic (a:=a) (b:=b) hK (by omega) (by omega);exact r8 a b r _ _ (ctA K a b) (ctB K a b) (by omega) (by omega) a1 a2 b1 b2 (by omega) (by omega) (by omega) (by omega) (by rw[hr];exact iU K (by omega)) (vr hK (by omega) (by omega)) w
theorem rP (a b X Y p q A B g h:Int)(a1: -1073741824<=a)(a2:a<=1073741824)(b1: -1073741824<=b)(b2:b<=1073741824)(p1: -2<=p)(p2:p<=2)(q1: -2<=q)(q2:q<=2)
 (hg:52*A+26*B=g) (hh:45*B=h) (A1: -9007199254740992<=A) (A2:A<=9007199254740992) (B1: -9007199254740992<=B) (B2:B<=9007199254740992)
 (MU:∀w,Calls Tryz.prog 132 #[.agg #[.int .i64 X,.int .i64 Y],.agg #[.int .i64 (3*a+p),.int .i64 (3*b+q)]] w fun e w'=>e=.returned (.tuple #[.agg #[.int .i64 A,.int .i64 B],.bool true])/\Below w.heap.size w w') (w:World) :
 Calls Tryz.prog 208 #[.agg #[.int .i64 a,.int .i64 b,.int .i64 X,.int .i64 Y],.agg #[.int .i64 p,.int .i64 q]] w fun e w'=>e=.returned (.agg #[.int .i64 g,.int .i64 h])/\Below w.heap.size w w':=by
 have M3:Hid (∀w,Calls Tryz.prog 132 #[.agg #[.int .i64 a,.int .i64 b],.agg #[.int .i64 3,.int .i64 0]] w fun e w'=>e=.returned (.tuple #[.agg #[.int .i64 (3*a),.int .i64 (3*b)],.bool true])/\Below w.heap.size w w') :=
  fg _ _ _ _ _ _ (by omega) (by omega) (by omega) (by omega) (by omega) (by omega) (by omega) (by omega) (by omega) (by omega) (by omega) (by omega) (by omega) (by omega)
 have AD:Hid (∀w,Calls Tryz.prog 143 #[.agg #[.int .i64 (3*a),.int .i64 (3*b)],.agg #[.int .i64 p,.int .i64 q]] w fun e w'=>e=.returned (.tuple #[.agg #[.int .i64 (3*a+p),.int .i64 (3*b+q)],.bool true])/\Below w.heap.size w w') :=
  gI _ _ _ _ _ _ rfl rfl (by omega) (by omega) (by omega) (by omega) (by omega) (by omega) (by omega) (by omega)
 have PL:Hid (∀w,Calls Tryz.prog 133 #[.agg #[.int .i64 A,.int .i64 B]] w fun e w'=>e=.returned (.tuple #[.int .i64 g,.int .i64 h])/\Below w.heap.size w w'):=by rw[←hg,←hh];exact nZ A B A1 A2 B1 B2
 replace MU:Hid _:=MU;clear hg hh
 go_enter Tryz.func208,Tryz.ntmps208
 go_wp2_with fail;refine(M3.out _).mono ?_;rintro e w1 ⟨rfl,d1⟩;have c1:Below w.heap.size w w1:=Below.trans (by go_grown) (d1.mono (by simp;try omega));have m0:w1.cell? ⟨w.heap.size,0,none⟩=some (.int .i64 a):=aa d1 (by go_simp);have qm0:=World.block_lt_of_cell? _ _ m0;have m1:w1.cell? ⟨w.heap.size,1,none⟩=some (.int .i64 b):=aa d1 (by go_simp);have m2:w1.cell? ⟨w.heap.size,2,none⟩=some (.int .i64 X):=aa d1 (by go_simp);have m3:w1.cell? ⟨w.heap.size,3,none⟩=some (.int .i64 Y):=aa d1 (by go_simp);have y0:w1.cell? ⟨w.heap.size+1,0,none⟩=some (.int .i64 p):=aa d1 (by go_simp);have qy0:=World.block_lt_of_cell? _ _ y0;have y1:w1.cell? ⟨w.heap.size+1,1,none⟩=some (.int .i64 q):=aa d1 (by go_simp);have r0:w1.cell? ⟨w.heap.size+1+1,0,none⟩=some (.int .i64 0):=aa d1 (by go_simp);have fr0:w1.frozen? ⟨w.heap.size+1+1,0,none⟩=false:=ac (v:=.int .i64 0) d1 (by go_simp) (by go_simp);have qr0:=World.block_lt_of_cell? _ _ r0;have r1:w1.cell? ⟨w.heap.size+1+1,1,none⟩=some (.int .i64 0):=aa d1 (by go_simp);have fr1:w1.frozen? ⟨w.heap.size+1+1,1,none⟩=false:=ac (v:=.int .i64 0) d1 (by go_simp) (by go_simp);have hB:=c1;clear c1 d1;go_wp2_with fail;refine(AD.out _).mono ?_;rintro e w2 ⟨rfl,d2⟩;have c2:Below w1.heap.size w1 w2:=Below.trans (by go_grown) (d2.mono (by simp;try omega));replace m0:=aa c2 m0;replace qm0:=World.block_lt_of_cell? _ _ m0;replace m1:=aa c2 m1;replace m2:=aa c2 m2;replace m3:=aa c2 m3;replace y0:=aa c2 y0;replace qy0:=World.block_lt_of_cell? _ _ y0;replace y1:=aa c2 y1;replace fr0:=ac c2 r0 fr0;replace r0:=aa c2 r0;replace qr0:=World.block_lt_of_cell? _ _ r0;replace fr1:=ac c2 r1 fr1;replace r1:=aa c2 r1;replace hB:=ae hB c2;clear c2 d2;go_wp2_with fail;refine(MU.out _).mono ?_;rintro e w3 ⟨rfl,d3⟩;have c3:Below w2.heap.size w2 w3:=Below.trans (by go_grown) (d3.mono (by simp;try omega));replace m0:=aa c3 m0;replace qm0:=World.block_lt_of_cell? _ _ m0;replace m1:=aa c3 m1;replace m2:=aa c3 m2;replace m3:=aa c3 m3;replace y0:=aa c3 y0;replace qy0:=World.block_lt_of_cell? _ _ y0;replace y1:=aa c3 y1;replace fr0:=ac c3 r0 fr0;replace r0:=aa c3 r0;replace qr0:=World.block_lt_of_cell? _ _ r0;replace fr1:=ac c3 r1 fr1;replace r1:=aa c3 r1;replace hB:=ae hB c3;clear c3 d3;go_wp2_with fail;refine(PL.out _).mono ?_;rintro e w4 ⟨rfl,d4⟩;have c4:Below w3.heap.size w3 w4:=Below.trans (by go_grown) (d4.mono (by simp;try omega));replace m0:=aa c4 m0;replace qm0:=World.block_lt_of_cell? _ _ m0;replace m1:=aa c4 m1;replace m2:=aa c4 m2;replace m3:=aa c4 m3;replace y0:=aa c4 y0;replace qy0:=World.block_lt_of_cell? _ _ y0;replace y1:=aa c4 y1;replace fr0:=ac c4 r0 fr0;replace r0:=aa c4 r0;replace qr0:=World.block_lt_of_cell? _ _ r0;replace fr1:=ac c4 r1 fr1;replace r1:=aa c4 r1;replace hB:=ae hB c4;clear c4 d4;obtain⟨g0,g1⟩:=au (u:=.int .i64 g) (v:=.int .i64 h) r0 r1;go_wp2;exact bodyPost_ret (v:=.agg #[.int .i64 g,.int .i64 h]) (by simp[results,Tryz.results208,go_sem,g0,g1]) rfl ⟨rfl,(hB.setCell (by simp;try omega) _).setCell (by simp;try omega) _⟩
theorem tD (a b p q:Int)(K:Nat)(hK:K<=12)(ha:dP a)(hb:dP b)(p1: -2<=p)(p2:p<=2)(q1: -2<=q)(q2:q<=2)(w:World) :
 Calls Tryz.prog 208 #[.agg #[.int .i64 a,.int .i64 b,.int .i64 (bet K).1,.int .i64 (bet K).2],.agg #[.int .i64 p,.int .i64 q]] w fun e w'=>e=.returned (.agg #[.int .i64 (coX K a b p q),.int .i64 (coY K a b p q)])/\Below w.heap.size w w':=by
 have hs:=dH hK;obtain⟨a1,a2⟩:=ha;obtain⟨b1,b2⟩:=hb;have hc:=ic (a:=3*a+p) (b:=3*b+q) hK (by omega) (by omega);exact rP a b _ _ p q (ctA K (3*a+p) (3*b+q)) (ctB K (3*a+p) (3*b+q)) _ _ a1 a2 b1 b2 p1 p2 q1 q2 rfl rfl (by omega) (by omega) (by omega) (by omega)
  (fg _ _ _ _ _ _ rfl rfl (by omega) (by omega) (by omega) (by omega) (by omega) (by omega) (by omega) (by omega) (by omega) (by omega) (by omega) (by omega)) w
def mM:Array Value:=#[.int .i64 1,.int .i64 1,.int .i64 (-1),.int .i64 2,.int .i64 (-2),.int .i64 1,.int .i64 (-1),.int .i64 (-1),.int .i64 1,.int .i64 (-2),.int .i64 2,.int .i64 (-1)]
def Ways (w:World):Prop:=w.var? Tryz.prog "apiary/plane.ways"=some mM
theorem qt:Tryz.prog.globalNamed "apiary/plane.ways"=some 2:=by kernel_rfl
theorem Ways.cell {w:World}(h:Ways w)(i:Nat):w.cell? ⟨2,i,none⟩=mM[i]?:=World.var?_cell qt h i
theorem Ways.below {w w':World}(h:Ways w)(hb:Below w.heap.size w w'):Ways w' :=
 var?_below hb qt (World.block_lt_of_cell? _ _ (show w.cell? ⟨2,0,none⟩=some (.int .i64 1)from h.cell 0)) h
def dY (K:Nat)(a b:Int)(o:Nat):Int:=if o%2=0 then coX K a b (bR (o / 2)) (bS (o / 2))else coY K a b (bR (o / 2)) (bS (o / 2))
def cq (G:Nat->Int)(k o:Nat):Int:=if o<2*k then G o else 0
def cr (B:Nat)(G:Nat->Int)(k:Nat)(w:World):Prop:=∀o<12,w.cell? ⟨B,o,none⟩=some (.int .i64 (cq G k o))/\w.frozen? ⟨B,o,none⟩=false
theorem fz {a b:World}{B k:Nat}{G:Nat->Int}(hb:Below a.heap.size a b)(h:cr B G k a):cr B G k b:=fun o ho=>⟨aa hb (h o ho).1,ac hb (h o ho).1 (h o ho).2⟩
theorem fU {w:World}{B k:Nat}{G:Nat->Int}(h:cr B G k w) :
 cr B G (k+1) ((w.setCell ⟨B,2*k,none⟩ (.int .i64 (G (2*k)))).setCell ⟨B,2*k+1,none⟩ (.int .i64 (G (2*k+1)))):=by
 intro o ho;have h0:=h o ho;constructor
 · by_cases e1:o=2*k+1
   · subst e1;have:cq G (k+1) (2*k+1)=G (2*k+1):=if_pos (by omega);rw[this];exact World.cell?_setCell_same _ _ _ ((World.cell?_setCell_other _ _ _ _ (by simp)).trans h0.1)
   · rw[World.cell?_setCell_other _ _ _ _ (by simp;try omega)];by_cases e2:o=2*k
     · subst e2;have:cq G (k+1) (2*k)=G (2*k):=if_pos (by omega);rw[this];exact World.cell?_setCell_same _ _ _ h0.1
     · rw[World.cell?_setCell_other _ _ _ _ (by simp;try omega),h0.1];congr 2;unfold cq;by_cases hl:o<2*k
       · rw[if_pos hl,if_pos (by omega)]
       · rw[if_neg hl,if_neg (by omega)]
 · simp[h0.2]
theorem IZ (w:World):(Instr.index 108 (.agg #[.int .i64 1,.int .i64 1,.int .i64 (-1),.int .i64 2,.int .i64 (-2),.int .i64 1,.int .i64 (-1),.int .i64 (-1),.int .i64 1,.int .i64 (-2),.int .i64 2,.int .i64 (-1)]) (.int .i64 0)).run Tryz.prog w=.ok (.agg #[.int .i64 1,.int .i64 1]) w:=by kernel_rfl
theorem I3 (w:World):(Instr.index 108 (.agg #[.int .i64 1,.int .i64 1,.int .i64 (-1),.int .i64 2,.int .i64 (-2),.int .i64 1,.int .i64 (-1),.int .i64 (-1),.int .i64 1,.int .i64 (-2),.int .i64 2,.int .i64 (-1)]) (.int .i64 1)).run Tryz.prog w=.ok (.agg #[.int .i64 (-1),.int .i64 2]) w:=by kernel_rfl
theorem I4 (w:World):(Instr.index 108 (.agg #[.int .i64 1,.int .i64 1,.int .i64 (-1),.int .i64 2,.int .i64 (-2),.int .i64 1,.int .i64 (-1),.int .i64 (-1),.int .i64 1,.int .i64 (-2),.int .i64 2,.int .i64 (-1)]) (.int .i64 2)).run Tryz.prog w=.ok (.agg #[.int .i64 (-2),.int .i64 1]) w:=by kernel_rfl
theorem I5 (w:World):(Instr.index 108 (.agg #[.int .i64 1,.int .i64 1,.int .i64 (-1),.int .i64 2,.int .i64 (-2),.int .i64 1,.int .i64 (-1),.int .i64 (-1),.int .i64 1,.int .i64 (-2),.int .i64 2,.int .i64 (-1)]) (.int .i64 3)).run Tryz.prog w=.ok (.agg #[.int .i64 (-1),.int .i64 (-1)]) w:=by kernel_rfl
theorem I6 (w:World):(Instr.index 108 (.agg #[.int .i64 1,.int .i64 1,.int .i64 (-1),.int .i64 2,.int .i64 (-2),.int .i64 1,.int .i64 (-1),.int .i64 (-1),.int .i64 1,.int .i64 (-2),.int .i64 2,.int .i64 (-1)]) (.int .i64 4)).run Tryz.prog w=.ok (.agg #[.int .i64 1,.int .i64 (-2)]) w:=by kernel_rfl
theorem I7 (w:World):(Instr.index 108 (.agg #[.int .i64 1,.int .i64 1,.int .i64 (-1),.int .i64 2,.int .i64 (-2),.int .i64 1,.int .i64 (-1),.int .i64 (-1),.int .i64 1,.int .i64 (-2),.int .i64 2,.int .i64 (-1)]) (.int .i64 5)).run Tryz.prog w=.ok (.agg #[.int .i64 2,.int .i64 (-1)]) w:=by kernel_rfl
theorem rN (a b X Y:Int)(G:Nat->Int)
 (CO:∀j<6,∀w,Calls Tryz.prog 208 #[.agg #[.int .i64 a,.int .i64 b,.int .i64 X,.int .i64 Y],.agg #[.int .i64 (bR j),.int .i64 (bS j)]] w fun e w'=>e=.returned (.agg #[.int .i64 (G (2*j)),.int .i64 (G (2*j+1))])/\Below w.heap.size w w') (w:World) (hW:Ways w) :
 Calls Tryz.prog 207 #[.func (.func 208) #[.agg #[.int .i64 a,.int .i64 b,.int .i64 X,.int .i64 Y]] #[]] w fun e w'=>(∃Bk,w.heap.size<=Bk/\e=.returned (.slice (some ⟨Bk,0,none⟩) 6 6)/\cr Bk G 6 w')/\Below w.heap.size w w':=by
 replace CO:Hid _:=CO;have hmk:∀w,(Instr.makeSlice 27 (.int .i64 6) (.int .i64 6)).run Tryz.prog w=.ok (.slice (some ⟨w.heap.size,0,none⟩) 6 6) (w.alloc (.cells #[.int .i64 0,.int .i64 0,.int .i64 0,.int .i64 0,.int .i64 0,.int .i64 0,.int .i64 0,.int .i64 0,.int .i64 0,.int .i64 0,.int .i64 0,.int .i64 0] 26)):=fun _=>by kernel_rfl
 have v1:w.cell? ⟨2,1,none⟩=some (.int .i64 1):=hW.cell 1;have v2:w.cell? ⟨2,2,none⟩=some (.int .i64 (-1)):=hW.cell 2;have v3:w.cell? ⟨2,3,none⟩=some (.int .i64 2):=hW.cell 3;have v4:w.cell? ⟨2,4,none⟩=some (.int .i64 (-2)):=hW.cell 4;have v5:w.cell? ⟨2,5,none⟩=some (.int .i64 1):=hW.cell 5;have v6:w.cell? ⟨2,6,none⟩=some (.int .i64 (-1)):=hW.cell 6;have v7:w.cell? ⟨2,7,none⟩=some (.int .i64 (-1)):=hW.cell 7;have v8:w.cell? ⟨2,8,none⟩=some (.int .i64 1):=hW.cell 8;have v9:w.cell? ⟨2,9,none⟩=some (.int .i64 (-2)):=hW.cell 9;have v10:w.cell? ⟨2,10,none⟩=some (.int .i64 2):=hW.cell 10;have v11:w.cell? ⟨2,11,none⟩=some (.int .i64 (-1)):=hW.cell 11;have v0:w.cell? ⟨2,0,none⟩=some (.int .i64 1):=hW.cell 0;clear hW;have b0:=World.block_lt_of_cell? _ _ v0
 go_enter Tryz.func207,Tryz.ntmps207
 go_wp2;clear v0 v1 v2 v3 v4 v5 v6 v7 v8 v9 v10 v11 b0 hmk;go_loopw [8] (fun v8 wr=>∃k:Nat,k<=6/\v8=.int .i64 (k:Int)/\Hid (cr w.heap.size G k wr)/\Below w.heap.size w wr) (fun v8 _=>6-(intOf v8).toNat)
 case atStart =>
  refine⟨0,by omega,rfl,?_,by go_grown⟩;show cr _ _ _ _
  intro o ho;have ho':o=0∨o=1∨o=2∨o=3∨o=4∨o=5∨o=6∨o=7∨o=8∨o=9∨o=10∨o=11:=by omega
  rcases ho' with rfl | rfl | rfl | rfl | rfl | rfl | rfl | rfl | rfl | rfl | rfl | rfl <;>exact⟨by go_simp;rfl,by go_simp⟩
 case round =>
  obtain⟨k,hk,rfl,HR,hB⟩:=hrel;have hR:=HR.out;clear HR;have ck:k=0∨k=1∨k=2∨k=3∨k=4∨k=5∨k=6:=by omega
  rcases ck with rfl | rfl | rfl | rfl | rfl | rfl | rfl
  · have CK:Hid (∀w,Calls Tryz.prog 208 #[.agg #[.int .i64 a,.int .i64 b,.int .i64 X,.int .i64 Y],.agg #[.int .i64 1,.int .i64 1]] w fun e w'=>e=.returned (.agg #[.int .i64 (G 0),.int .i64 (G 1)])/\Below w.heap.size w w'):=CO.out 0 (by omega);clear CO;have HI:=IZ;have hst:∀w',Below wr.heap.size wr w'->cr w.heap.size G 1 ((w'.setCell ⟨w.heap.size,0,none⟩ (.int .i64 (G 0))).setCell ⟨w.heap.size,1,none⟩ (.int .i64 (G 1))):=fun w' hb=>fU (k:=0) (fz hb hR);obtain⟨s0,fs0⟩:=hR 0 (by omega);obtain⟨s1,fs1⟩:=hR 1 (by omega);replace hst:Hid _:=hst;generalize cq G 0 0=U0 at s0;generalize cq G 0 1=U1 at s1;generalize G 0=G0 at CK hst;generalize G 1=G1 at CK hst;clear hR;go_wp2_with fail;refine(CK.out _).mono ?_;rintro e v1 ⟨rfl,d1⟩;have c1:Below wr.heap.size wr v1:=Below.trans (by go_grown) (d1.mono (by simp));replace fs0:=ac c1 s0 fs0;replace fs1:=ac c1 s1 fs1;replace s0:=aa c1 s0;replace s1:=aa c1 s1;replace hB:=ae hB c1;clear d1;go_wp2;go_roundw
    case rel=>exact⟨1,by omega,by go_num,hst.out _ c1,(hB.setCell (by simp) _).setCell (by simp) _⟩
    case measure=>simp[intOf]
  · have CK:Hid (∀w,Calls Tryz.prog 208 #[.agg #[.int .i64 a,.int .i64 b,.int .i64 X,.int .i64 Y],.agg #[.int .i64 (-1),.int .i64 2]] w fun e w'=>e=.returned (.agg #[.int .i64 (G 2),.int .i64 (G 3)])/\Below w.heap.size w w'):=CO.out 1 (by omega);clear CO;have HI:=I3;have hst:∀w',Below wr.heap.size wr w'->cr w.heap.size G 2 ((w'.setCell ⟨w.heap.size,2,none⟩ (.int .i64 (G 2))).setCell ⟨w.heap.size,3,none⟩ (.int .i64 (G 3))):=fun w' hb=>fU (k:=1) (fz hb hR);obtain⟨s0,fs0⟩:=hR 2 (by omega);obtain⟨s1,fs1⟩:=hR 3 (by omega);replace hst:Hid _:=hst;generalize cq G 1 2=U0 at s0;generalize cq G 1 3=U1 at s1;generalize G 2=G0 at CK hst;generalize G 3=G1 at CK hst;clear hR;go_wp2_with fail;refine(CK.out _).mono ?_;rintro e v1 ⟨rfl,d1⟩;have c1:Below wr.heap.size wr v1:=Below.trans (by go_grown) (d1.mono (by simp));replace fs0:=ac c1 s0 fs0;replace fs1:=ac c1 s1 fs1;replace s0:=aa c1 s0;replace s1:=aa c1 s1;replace hB:=ae hB c1;clear d1;go_wp2;go_roundw
    case rel=>exact⟨2,by omega,by go_num,hst.out _ c1,(hB.setCell (by simp) _).setCell (by simp) _⟩
    case measure=>simp[intOf]
  · have CK:Hid (∀w,Calls Tryz.prog 208 #[.agg #[.int .i64 a,.int .i64 b,.int .i64 X,.int .i64 Y],.agg #[.int .i64 (-2),.int .i64 1]] w fun e w'=>e=.returned (.agg #[.int .i64 (G 4),.int .i64 (G 5)])/\Below w.heap.size w w'):=CO.out 2 (by omega);clear CO;have HI:=I4;have hst:∀w',Below wr.heap.size wr w'->cr w.heap.size G 3 ((w'.setCell ⟨w.heap.size,4,none⟩ (.int .i64 (G 4))).setCell ⟨w.heap.size,5,none⟩ (.int .i64 (G 5))):=fun w' hb=>fU (k:=2) (fz hb hR);obtain⟨s0,fs0⟩:=hR 4 (by omega);obtain⟨s1,fs1⟩:=hR 5 (by omega);replace hst:Hid _:=hst;generalize cq G 2 4=U0 at s0;generalize cq G 2 5=U1 at s1;generalize G 4=G0 at CK hst;generalize G 5=G1 at CK hst;clear hR;go_wp2_with fail;refine(CK.out _).mono ?_;rintro e v1 ⟨rfl,d1⟩;have c1:Below wr.heap.size wr v1:=Below.trans (by go_grown) (d1.mono (by simp));replace fs0:=ac c1 s0 fs0;replace fs1:=ac c1 s1 fs1;replace s0:=aa c1 s0;replace s1:=aa c1 s1;replace hB:=ae hB c1;clear d1;go_wp2;go_roundw
    case rel=>exact⟨3,by omega,by go_num,hst.out _ c1,(hB.setCell (by simp) _).setCell (by simp) _⟩
    case measure=>simp[intOf]
  · have CK:Hid (∀w,Calls Tryz.prog 208 #[.agg #[.int .i64 a,.int .i64 b,.int .i64 X,.int .i64 Y],.agg #[.int .i64 (-1),.int .i64 (-1)]] w fun e w'=>e=.returned (.agg #[.int .i64 (G 6),.int .i64 (G 7)])/\Below w.heap.size w w'):=CO.out 3 (by omega);clear CO;have HI:=I5;have hst:∀w',Below wr.heap.size wr w'->cr w.heap.size G 4 ((w'.setCell ⟨w.heap.size,6,none⟩ (.int .i64 (G 6))).setCell ⟨w.heap.size,7,none⟩ (.int .i64 (G 7))):=fun w' hb=>fU (k:=3) (fz hb hR);obtain⟨s0,fs0⟩:=hR 6 (by omega);obtain⟨s1,fs1⟩:=hR 7 (by omega);replace hst:Hid _:=hst;generalize cq G 3 6=U0 at s0;generalize cq G 3 7=U1 at s1;generalize G 6=G0 at CK hst;generalize G 7=G1 at CK hst;clear hR;go_wp2_with fail;refine(CK.out _).mono ?_;rintro e v1 ⟨rfl,d1⟩;have c1:Below wr.heap.size wr v1:=Below.trans (by go_grown) (d1.mono (by simp));replace fs0:=ac c1 s0 fs0;replace fs1:=ac c1 s1 fs1;replace s0:=aa c1 s0;replace s1:=aa c1 s1;replace hB:=ae hB c1;clear d1;go_wp2;go_roundw
    case rel=>exact⟨4,by omega,by go_num,hst.out _ c1,(hB.setCell (by simp) _).setCell (by simp) _⟩
    case measure=>simp[intOf]
  · have CK:Hid (∀w,Calls Tryz.prog 208 #[.agg #[.int .i64 a,.int .i64 b,.int .i64 X,.int .i64 Y],.agg #[.int .i64 1,.int .i64 (-2)]] w fun e w'=>e=.returned (.agg #[.int .i64 (G 8),.int .i64 (G 9)])/\Below w.heap.size w w'):=CO.out 4 (by omega);clear CO;have HI:=I6;have hst:∀w',Below wr.heap.size wr w'->cr w.heap.size G 5 ((w'.setCell ⟨w.heap.size,8,none⟩ (.int .i64 (G 8))).setCell ⟨w.heap.size,9,none⟩ (.int .i64 (G 9))):=fun w' hb=>fU (k:=4) (fz hb hR);obtain⟨s0,fs0⟩:=hR 8 (by omega);obtain⟨s1,fs1⟩:=hR 9 (by omega);replace hst:Hid _:=hst;generalize cq G 4 8=U0 at s0;generalize cq G 4 9=U1 at s1;generalize G 8=G0 at CK hst;generalize G 9=G1 at CK hst;clear hR;go_wp2_with fail;refine(CK.out _).mono ?_;rintro e v1 ⟨rfl,d1⟩;have c1:Below wr.heap.size wr v1:=Below.trans (by go_grown) (d1.mono (by simp));replace fs0:=ac c1 s0 fs0;replace fs1:=ac c1 s1 fs1;replace s0:=aa c1 s0;replace s1:=aa c1 s1;replace hB:=ae hB c1;clear d1;go_wp2;go_roundw
    case rel=>exact⟨5,by omega,by go_num,hst.out _ c1,(hB.setCell (by simp) _).setCell (by simp) _⟩
    case measure=>simp[intOf]
  · have CK:Hid (∀w,Calls Tryz.prog 208 #[.agg #[.int .i64 a,.int .i64 b,.int .i64 X,.int .i64 Y],.agg #[.int .i64 2,.int .i64 (-1)]] w fun e w'=>e=.returned (.agg #[.int .i64 (G 10),.int .i64 (G 11)])/\Below w.heap.size w w'):=CO.out 5 (by omega);clear CO;have HI:=I7;have hst:∀w',Below wr.heap.size wr w'->cr w.heap.size G 6 ((w'.setCell ⟨w.heap.size,10,none⟩ (.int .i64 (G 10))).setCell ⟨w.heap.size,11,none⟩ (.int .i64 (G 11))):=fun w' hb=>fU (k:=5) (fz hb hR);obtain⟨s0,fs0⟩:=hR 10 (by omega);obtain⟨s1,fs1⟩:=hR 11 (by omega);replace hst:Hid _:=hst;generalize cq G 5 10=U0 at s0;generalize cq G 5 11=U1 at s1;generalize G 10=G0 at CK hst;generalize G 11=G1 at CK hst;clear hR;go_wp2_with fail;refine(CK.out _).mono ?_;rintro e v1 ⟨rfl,d1⟩;have c1:Below wr.heap.size wr v1:=Below.trans (by go_grown) (d1.mono (by simp));replace fs0:=ac c1 s0 fs0;replace fs1:=ac c1 s1 fs1;replace s0:=aa c1 s0;replace s1:=aa c1 s1;replace hB:=ae hB c1;clear d1;go_wp2;go_roundw
    case rel=>exact⟨6,by omega,by go_num,hst.out _ c1,(hB.setCell (by simp) _).setCell (by simp) _⟩
    case measure=>simp[intOf]
  · clear CO;go_wp2;go_ret;exact⟨⟨_,Nat.le_refl _,rfl,hR⟩,hB⟩
theorem iy (K:Nat)(a b:Int)(j:Nat):dY K a b (2*j)=coX K a b (bR j) (bS j):=by
 unfold dY;rw[if_pos (by omega),show 2*j / 2=j by omega]
theorem jy (K:Nat)(a b:Int)(j:Nat):dY K a b (2*j+1)=coY K a b (bR j) (bS j):=by
 unfold dY;rw[if_neg (by omega),show(2*j+1) / 2=j by omega]
theorem jn (j:Nat)(hj:j<6): -2<=bR j/\bR j<=2∧-2<=bS j/\bS j<=2:=by
 have h:j=0∨j=1∨j=2∨j=3∨j=4∨j=5:=by omega
 rcases h with rfl | rfl | rfl | rfl | rfl | rfl <;>decide
def yh (w:World)(G:Nat->Int)(e:Ending)(w':World):Prop:=∃Bk,w.heap.size<=Bk/\e=.returned (.tuple #[.slice (some ⟨Bk,0,none⟩) 6 6,.bool true])/\cr Bk G 6 w'
theorem zE (a b r X Y:Int)(G:Nat->Int)
 (CO:∀w,Calls Tryz.prog 84 #[.agg #[.int .i64 a,.int .i64 b],.int .i64 r] w fun e w'=>e=.returned (.tuple #[.agg #[.int .i64 a,.int .i64 b,.int .i64 X,.int .i64 Y],.bool true])/\Below w.heap.size w w')
 (AR:∀w,Ways w->Calls Tryz.prog 207 #[.func (.func 208) #[.agg #[.int .i64 a,.int .i64 b,.int .i64 X,.int .i64 Y]] #[]] w fun e w'=>(∃Bk,w.heap.size<=Bk/\e=.returned (.slice (some ⟨Bk,0,none⟩) 6 6)/\cr Bk G 6 w')/\Below w.heap.size w w') (w:World) (hW:Ways w) :
 Calls Tryz.prog 180 #[.agg #[.int .i64 a,.int .i64 b],.int .i64 r] w fun e w'=>yh w G e w'/\Below w.heap.size w w':=by
 have hmf:=hmf;replace CO:Hid _:=CO;replace AR:Hid _:=AR;have hW0:Hid (Ways w):=hW;clear hW
 go_enter Tryz.func180,Tryz.ntmps180
 go_wp2_with fail;refine(CO.out _).mono ?_;rintro e w1 ⟨rfl,d1⟩;have c1:Below w.heap.size w w1:=Below.trans (by go_grown) (d1.mono (by simp;try omega));have p0:w1.cell? ⟨w.heap.size,0,none⟩=some (.int .i64 a):=aa d1 (by go_simp);have qp0:=World.block_lt_of_cell? _ _ p0;have hB:=c1;clear c1 d1;have hz:w.heap.size<w1.heap.size:=qp0;go_wp2_with fail;refine(AR.out _ ?_).mono ?_
 · exact hW0.out.below (ae hB (by go_grown))
 rintro e w2 ⟨⟨Bk,hk,rfl,hR⟩,d2⟩;have c2:Below w1.heap.size w1 w2:=Below.trans (by go_grown) (d2.mono (by simp;try omega));replace p0:=aa c2 p0;replace qp0:=World.block_lt_of_cell? _ _ p0;replace hB:=ae hB c2;clear c2 d2;go_wp2
 go_ret2
 exact⟨⟨Bk,by simp at hk;omega,rfl,hR⟩,hB⟩
theorem CX (a b r:Int)(K:Nat)(hK:K<=12)(hr:12-r=(K:Int))(ha:dP a)(hb:dP b)(w:World)(hW:Ways w) :
 Calls Tryz.prog 180 #[.agg #[.int .i64 a,.int .i64 b],.int .i64 r] w fun e w'=>yh w (dY K a b) e w'/\Below w.heap.size w w':=by
 refine zE a b r _ _ (dY K a b) (jZ a b r K hK hr ha hb) (fun w hW=>rN a b _ _ (dY K a b) (fun j hj w=>?_) w hW) w hW;have hw:=jn j hj;rw[iy,jy];exact tD a b _ _ K hK ha hb hw.1 hw.2.1 hw.2.2.1 hw.2.2.2 w
theorem Cv (w:World):ou w.heap.size (w.alloc (.cells #[.int .i64 0,.int .i64 0] 37)).drew:=⟨by go_simp,by go_simp,by go_simp,by go_simp⟩
theorem xa (w:World)(o:Obj):ou (w.heap.size+1) ((w.alloc o).alloc (.cells #[.int .i64 0,.int .i64 0] 37)).drew:=⟨by go_simp,by go_simp,by go_simp,by go_simp⟩
theorem tv (w:World)(o:Obj):ou (w.heap.size+1) ((w.alloc o).drew.alloc (.cells #[.int .i64 0,.int .i64 0] 37)):=⟨by go_simp,by go_simp,by go_simp,by go_simp⟩
theorem ro {w0 a:World}{p0 p1 p2 p3 p4 p5:Addr}{B:Nat}{v0 v1 v2 v3 v4 v5 x y:Value}(n0:B≠p0.block)(n1:B≠p1.block)(n2:B≠p2.block)(n3:B≠p3.block)(n4:B≠p4.block)(n5:B≠p5.block)(hB:w0.heap.size<=B)(h:a.cell? p0=some v0/\a.cell? p1=some v1/\a.cell? p2=some v2/\a.cell? p3=some v3/\a.cell? p4=some v4/\a.cell? p5=some v5/\Below w0.heap.size w0 a):((a.setCell ⟨B,0,none⟩ x).setCell ⟨B,1,none⟩ y).cell? p0=some v0/\((a.setCell ⟨B,0,none⟩ x).setCell ⟨B,1,none⟩ y).cell? p1=some v1/\((a.setCell ⟨B,0,none⟩ x).setCell ⟨B,1,none⟩ y).cell? p2=some v2/\((a.setCell ⟨B,0,none⟩ x).setCell ⟨B,1,none⟩ y).cell? p3=some v3/\((a.setCell ⟨B,0,none⟩ x).setCell ⟨B,1,none⟩ y).cell? p4=some v4/\((a.setCell ⟨B,0,none⟩ x).setCell ⟨B,1,none⟩ y).cell? p5=some v5/\Below w0.heap.size w0 ((a.setCell ⟨B,0,none⟩ x).setCell ⟨B,1,none⟩ y):=by
 have f:∀(p:Addr) (o:Nat),B≠p.block->(⟨B,o,none⟩:Addr)≠p:=fun p o h e=>h (by rw[←e]);obtain⟨h0,h1,h2,h3,h4,h5,hw⟩:=h;exact⟨ah (ah h0 (f _ _ n0)) (f _ _ n0),ah (ah h1 (f _ _ n1)) (f _ _ n1),ah (ah h2 (f _ _ n2)) (f _ _ n2),ah (ah h3 (f _ _ n3)) (f _ _ n3),ah (ah h4 (f _ _ n4)) (f _ _ n4),ah (ah h5 (f _ _ n5)) (f _ _ n5),(hw.setCell hB _).setCell hB _⟩
theorem ts {w0 a:World}{o o':Obj}{p0 p1 p2 p3 p4 p5:Addr}{v0 v1 v2 v3 v4 v5:Value}(q0:p0.block<a.heap.size)(q1:p1.block<a.heap.size)(q2:p2.block<a.heap.size)(q3:p3.block<a.heap.size)(q4:p4.block<a.heap.size)(q5:p5.block<a.heap.size)(hs:w0.heap.size<=a.heap.size)(h:(a.alloc o).cell? p0=some v0/\(a.alloc o).cell? p1=some v1/\(a.alloc o).cell? p2=some v2/\(a.alloc o).cell? p3=some v3/\(a.alloc o).cell? p4=some v4/\(a.alloc o).cell? p5=some v5/\Below w0.heap.size w0 (a.alloc o)):(a.alloc o').cell? p0=some v0/\(a.alloc o').cell? p1=some v1/\(a.alloc o').cell? p2=some v2/\(a.alloc o').cell? p3=some v3/\(a.alloc o').cell? p4=some v4/\(a.alloc o').cell? p5=some v5/\Below w0.heap.size w0 (a.alloc o'):=by
 obtain⟨h0,h1,h2,h3,h4,h5,hw⟩:=h;have f:∀ {p:Addr} {v:Value},p.block<a.heap.size->(a.alloc o).cell? p=some v->(a.alloc o').cell? p=some v:=fun q h=>((ag a o').cell q).trans (((ag a o).cell q).symm.trans h);exact⟨f q0 h0,f q1 h1,f q2 h2,f q3 h3,f q4 h4,f q5 h5,Ek hs hw⟩
end Go.Proofs.YtbnlhdnnenahfaaGreatDoor
