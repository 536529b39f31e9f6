/-
  What the texts CPart, CSplit, CUp, CRaised, CCell, CChild, CKids say, so far as this seat's proofs need it.
-/
import Derived.Test.YtbnlhdnnenahfaaGreatDoorR1Y
set_option maxHeartbeats 8000000
set_option maxRecDepth 20000
namespace Go.Proofs.YtbnlhdnnenahfaaGreatDoor
open Go.RowKit
theorem ke (r:Int)(h1:0<=r)(h2:r<=12)(w:World) :
 Calls Tryz.prog 168 #[.int .i64 r] w fun e w'=>e=.returned (.bool true)/\w'=w:=by
 go_enter Tryz.func168,Tryz.ntmps168
 go_wp2;go_ret;exact⟨rfl,rfl⟩
theorem yN (r:Int)(h1:decide (0<=r)=false)(w:World) :
 Calls Tryz.prog 168 #[.int .i64 r] w fun e w'=>e=.returned (.bool false)/\w'=w:=by
 go_enter Tryz.func168,Tryz.ntmps168
 go_wp2;go_ret;exact⟨rfl,rfl⟩
theorem yO (r:Int)(h1:0<=r)(h2:decide (r<=12)=false)(w:World) :
 Calls Tryz.prog 168 #[.int .i64 r] w fun e w'=>e=.returned (.bool false)/\w'=w:=by
 go_enter Tryz.func168,Tryz.ntmps168
 go_wp2;go_ret;exact⟨rfl,rfl⟩
theorem Bf (r:Int)(h:¬(0<=r/\r<=12))(w:World) :
 Calls Tryz.prog 168 #[.int .i64 r] w fun e w'=>e=.returned (.bool false)/\w'=w:=by
 by_cases h1:0<=r
 · exact yO r h1 (df fun h2=>h ⟨h1,h2⟩) w
 · exact yN r (df h1) w
theorem iK (n:Int)(h1: -1073741824<=n)(h2:n<=1073741824)(w:World) :
 Calls Tryz.prog 169 #[.int .i64 n] w fun e w'=>e=.returned (.bool true)/\w'=w:=by
 go_enter Tryz.func169,Tryz.ntmps169
 go_wp2;go_ret;exact⟨rfl,rfl⟩
theorem tf (n:Int)(h1:decide (-1073741824<=n)=false)(w:World) :
 Calls Tryz.prog 169 #[.int .i64 n] w fun e w'=>e=.returned (.bool false)/\w'=w:=by
 go_enter Tryz.func169,Tryz.ntmps169
 go_wp2;go_ret;exact⟨rfl,rfl⟩
theorem tg (n:Int)(h1: -1073741824<=n)(h2:decide (n<=1073741824)=false)(w:World) :
 Calls Tryz.prog 169 #[.int .i64 n] w fun e w'=>e=.returned (.bool false)/\w'=w:=by
 go_enter Tryz.func169,Tryz.ntmps169
 go_wp2;go_ret;exact⟨rfl,rfl⟩
theorem mX (n:Int)(h:¬bc n)(w:World) :
 Calls Tryz.prog 169 #[.int .i64 n] w fun e w'=>e=.returned (.bool false)/\w'=w:=by
 by_cases h1: -1073741824<=n
 · exact tg n h1 (df fun h2=>h ⟨h1,h2⟩) w
 · exact tf n (df h1) w
theorem td (n:Int)(h1: -512<=n)(h2:n<=511)(w:World) :
 Calls Tryz.prog 171 #[.int .i64 n] w fun e w'=>e=.returned (.bool true)/\w'=w:=by
 go_enter Tryz.func171,Tryz.ntmps171
 go_wp2;go_ret;exact⟨rfl,rfl⟩
theorem sZ (n:Int)(h1:decide (-512<=n)=false)(w:World) :
 Calls Tryz.prog 171 #[.int .i64 n] w fun e w'=>e=.returned (.bool false)/\w'=w:=by
 go_enter Tryz.func171,Tryz.ntmps171
 go_wp2;go_ret;exact⟨rfl,rfl⟩
theorem ta (n:Int)(h1: -512<=n)(h2:decide (n<=511)=false)(w:World) :
 Calls Tryz.prog 171 #[.int .i64 n] w fun e w'=>e=.returned (.bool false)/\w'=w:=by
 go_enter Tryz.func171,Tryz.ntmps171
 go_wp2;go_ret;exact⟨rfl,rfl⟩
theorem vR (n:Int)(h:¬aG n)(w:World) :
 Calls Tryz.prog 171 #[.int .i64 n] w fun e w'=>e=.returned (.bool false)/\w'=w:=by
 by_cases h1: -512<=n
 · exact ta n h1 (df fun h2=>h ⟨h1,h2⟩) w
 · exact sZ n (df h1) w
theorem ff (d X Y:Int)(hd:(d == 0)=false)(d1:1<=d)(d2:d<=6)
 (UN:∀w,Uni w->Calls Tryz.prog 93 #[.int .i64 (d-1)] w fun e w'=>e=.returned (.agg #[.int .i64 X,.int .i64 Y])/\Below w.heap.size w w') (w:World) (hU:Uni w) :
 Calls Tryz.prog 173 #[.int .i64 d] w fun e w'=>e=.returned (.agg #[.int .i64 X,.int .i64 Y])/\Below w.heap.size w w':=by
 replace UN:Hid _:=UN;have hU0:Hid (Uni w):=hU;clear hU
 go_enter Tryz.func173,Tryz.ntmps173
 go_wp2_with fail;refine(UN.out _ ?_).mono ?_
 · exact hU0.out.below (by go_grown)
 rintro e w1 ⟨rfl,d1⟩;have c1:Below w.heap.size w w1:=Below.trans (by go_grown) (d1.mono (by simp;try omega));have r0:w1.cell? ⟨w.heap.size,0,none⟩=some (.int .i64 0):=aa d1 (by go_simp);have fr0:w1.frozen? ⟨w.heap.size,0,none⟩=false:=ac (v:=.int .i64 0) d1 (by go_simp) (by go_simp);have qr0:=World.block_lt_of_cell? _ _ r0;have r1:w1.cell? ⟨w.heap.size,1,none⟩=some (.int .i64 0):=aa d1 (by go_simp);have fr1:w1.frozen? ⟨w.heap.size,1,none⟩=false:=ac (v:=.int .i64 0) d1 (by go_simp) (by go_simp);have hB:=c1;clear c1 d1;obtain⟨g0,g1⟩:=au (u:=.int .i64 X) (v:=.int .i64 Y) r0 r1;go_wp2;exact bodyPost_ret (v:=.agg #[.int .i64 X,.int .i64 Y]) (by simp[results,Tryz.results173,go_sem,g0,g1]) rfl ⟨rfl,(hB.setCell (by simp) _).setCell (by simp) _⟩
theorem vU (w:World) :
 Calls Tryz.prog 173 #[.int .i64 0] w fun e w'=>e=.returned (.agg #[.int .i64 0,.int .i64 0])/\Below w.heap.size w w':=by
 go_enter Tryz.func173,Tryz.ntmps173
 go_wp2;exact bodyPost_ret (v:=.agg #[.int .i64 0,.int .i64 0]) (by simp[results,Tryz.results173,go_sem]) rfl ⟨rfl,by go_grown⟩
theorem pd (d:Int)(h0:0<=d)(h1:d<=6)(w:World)(hU:Uni w) :
 Calls Tryz.prog 173 #[.int .i64 d] w fun e w'=>e=.returned (.agg #[.int .i64 (ptA d),.int .i64 (ptB d)])/\Below w.heap.size w w':=by
 rcases iW h0 h1 with rfl | rfl | rfl | rfl | rfl | rfl | rfl
 · exact vU w
 · exact ff 1 1 0 rfl (by omega) (by omega) (us 0 (by omega) (by omega) rfl) w hU
 · exact ff 2 0 1 rfl (by omega) (by omega) (uv 1 (by omega) (by omega) rfl) w hU
 · exact ff 3 (-1) 1 rfl (by omega) (by omega) (uw 2 (by omega) (by omega) rfl) w hU
 · exact ff 4 (-1) 0 rfl (by omega) (by omega) (uz 3 (by omega) (by omega) rfl) w hU
 · exact ff 5 0 (-1) rfl (by omega) (by omega) (uC 4 (by omega) (by omega) rfl) w hU
 · exact ff 6 1 (-1) rfl (by omega) (by omega) (uD 5 (by omega) (by omega) rfl) w hU
def ie:Array Value:=#[.int .i64 0,.int .i64 1,.int .i64 5,.int .i64 6,.int .i64 3,.int .i64 2,.int .i64 4]
def Digs (w:World):Prop:=w.var? Tryz.prog "apiary/cell.digits"=some ie
theorem qs:Tryz.prog.globalNamed "apiary/cell.digits"=some 1:=by kernel_rfl
theorem Digs.cell {w:World}(h:Digs w)(i:Nat):w.cell? ⟨1,i,none⟩=ie[i]?:=World.var?_cell qs h i
theorem Digs.below {w w':World}(h:Digs w)(hb:Below w.heap.size w w'):Digs w' :=
 var?_below hb qs (World.block_lt_of_cell? _ _ (show w.cell? ⟨1,0,none⟩=some (.int .i64 0)from h.cell 0)) h
def Tabs (w:World):Prop:=Digs w/\Uni w
theorem Tabs.below {w w':World}(h:Tabs w)(hb:Below w.heap.size w w'):Tabs w':=⟨h.1.below hb,h.2.below hb⟩
theorem tk (a b q m d X Y U V c e A B P Q:Int)(a1: -1073741824<=a)(a2:a<=1073741824)(b1: -1073741824<=b)(b2:b<=1073741824)(m1:0<=m)(m2:m<7)
 (FL:∀w,Calls Tryz.prog 137 #[.int .i64 (a-2*b),.int .i64 7] w fun e w'=>e=.returned (.tuple #[.int .i64 q,.int .i64 m,.bool true])/\Below w.heap.size w w')
 (hd:ie[m.toNat]?=some (.int .i64 d))
 (PA:∀w,Uni w->Calls Tryz.prog 173 #[.int .i64 d] w fun e w'=>e=.returned (.agg #[.int .i64 X,.int .i64 Y])/\Below w.heap.size w w')
 (SU:∀w,Calls Tryz.prog 217 #[.agg #[.int .i64 a,.int .i64 b],.agg #[.int .i64 X,.int .i64 Y]] w fun e w'=>e=.returned (.tuple #[.agg #[.int .i64 U,.int .i64 V],.bool true])/\Below w.heap.size w w')
 (BE:∀w,Calls Tryz.prog 172 #[.int .i64 1] w fun e w'=>e=.returned (.tuple #[.agg #[.int .i64 2,.int .i64 1],.bool true])/\Below w.heap.size w w')
 (CO:∀w,Calls Tryz.prog 145 #[.agg #[.int .i64 2,.int .i64 1]] w fun x w'=>x=.returned (.tuple #[.agg #[.int .i64 c,.int .i64 e],.bool true])/\Below w.heap.size w w')
 (MU:∀w,Calls Tryz.prog 132 #[.agg #[.int .i64 U,.int .i64 V],.agg #[.int .i64 c,.int .i64 e]] w fun x w'=>x=.returned (.tuple #[.agg #[.int .i64 A,.int .i64 B],.bool true])/\Below w.heap.size w w')
 (A1: -9007199254740992<=A) (A2:A<=9007199254740992) (B1: -9007199254740992<=B) (B2:B<=9007199254740992) (hP:A.tdiv 7=P) (hQ:B.tdiv 7=Q)
 (w:World) (hT:Tabs w) :
 Calls Tryz.prog 187 #[.agg #[.int .i64 a,.int .i64 b]] w fun e w'=>e=.returned (.tuple #[.agg #[.int .i64 P,.int .i64 Q],.int .i64 d])/\Below w.heap.size w w':=by
 replace FL:Hid _:=FL;replace PA:Hid _:=PA;replace SU:Hid _:=SU;replace BE:Hid _:=BE;replace CO:Hid _:=CO;replace MU:Hid _:=MU;have hT0:Hid (Tabs w):=hT;clear hT
 go_enter Tryz.func187,Tryz.ntmps187
 go_wp2_with fail;refine(FL.out _).mono ?_;rintro e w1 ⟨rfl,d1⟩;have c1:Below w.heap.size w w1:=Below.trans (by go_grown) (d1.mono (by simp;try omega));have z0:w1.cell? ⟨w.heap.size,0,none⟩=some (.int .i64 a):=aa d1 (by go_simp);have qz0:=World.block_lt_of_cell? _ _ z0;have z1:w1.cell? ⟨w.heap.size,1,none⟩=some (.int .i64 b):=aa d1 (by go_simp);have r0:w1.cell? ⟨w.heap.size+1,0,none⟩=some (.int .i64 0):=aa d1 (by go_simp);have fr0:w1.frozen? ⟨w.heap.size+1,0,none⟩=false:=ac (v:=.int .i64 0) d1 (by go_simp) (by go_simp);have qr0:=World.block_lt_of_cell? _ _ r0;have r1:w1.cell? ⟨w.heap.size+1,1,none⟩=some (.int .i64 0):=aa d1 (by go_simp);have fr1:w1.frozen? ⟨w.heap.size+1,1,none⟩=false:=ac (v:=.int .i64 0) d1 (by go_simp) (by go_simp);have hB:=c1;clear c1 d1;have v0:w1.cell? ⟨1,m.toNat,none⟩=some (.int .i64 d):=((hT0.out.below hB).1.cell m.toNat).trans hd;have hT1:Hid (∀wx,(wx.cell? ⟨w.heap.size,0,none⟩=some (.int .i64 a)/\wx.cell? ⟨w.heap.size,1,none⟩=some (.int .i64 b)/\Below w1.heap.size w1 wx)->Uni wx):=fun wx h=>(hT0.out.below (ae hB h.2.2)).2;go_wp2_with fail;have hS0:=dB (aK w1) ⟨z0,z1,Below.refl _ _⟩
 go_cut [7]from 28 (fun v7 wx=>∃p:Nat,v7=.pointer (some ⟨p,0,none⟩)/\w1.heap.size<=p/\wx.cell? ⟨p,0,none⟩=some (.int .i64 U)/\wx.cell? ⟨p,1,none⟩=some (.int .i64 V)/\wx.frozen? ⟨p,0,none⟩=false/\wx.frozen? ⟨p,1,none⟩=false/\Below w1.heap.size w1 wx)
 case first =>
  go_region_held3 (fun w'=>w'.cell? ⟨w.heap.size,0,none⟩=some (.int .i64 a)/\w'.cell? ⟨w.heap.size,1,none⟩=some (.int .i64 b)/\Below w1.heap.size w1 w') (first | exact hS0 | exact dB hb (by assumption) | exact dB (ag _ _) (by assumption) | exact lV (by first | omega | (simp;omega) | simp) (by first | omega | (simp;omega) | simp) (by first | omega | (simp;omega) | simp) (by assumption) | exact kj (by first | omega | (simp;omega) | simp) (by first | omega | (simp;omega) | simp) (by first | omega | (simp;omega) | simp) (by assumption))
   (first | (go_at_call 173;refine(PA.out _ (hT1.out _ (by assumption))).mono ?_;rintro e w' ⟨rfl,hb⟩;(try (have nw:=jf hb (by first | assumption | exact gx _);have nw0:=nw.1;have nw1:=nw.2.1;have nw2:=nw.2.2.1;have nw3:=nw.2.2.2));have hz:=hb.size;(try simp at hz)) | (go_at_call 217;refine(SU.out _).mono ?_;rintro e w' ⟨rfl,hb⟩;(try (have nw:=jf hb (by first | assumption | exact gx _);have nw0:=nw.1;have nw1:=nw.2.1;have nw2:=nw.2.2.1;have nw3:=nw.2.2.2));have hz:=hb.size;(try simp at hz)))
  all_goals
   rename_i hS;go_wp2_with fail;go_meet;exact⟨_,rfl,(by first | omega | (simp;omega) | simp),(by first | exact ah (ay nw0) (by simp) | go_simp),(by first | exact ay (ah nw1 (by simp)) | go_simp),(by first | simp[nw2] | go_simp),(by first | simp[nw3] | go_simp),hS.2.2⟩
 case rest =>
  obtain⟨p,rfl,hp,t0,t1,ft0,ft1,hw⟩:=hcut;have l1:w.heap.size+1<w1.heap.size:=qr0;have n1:¬p=w.heap.size+1:=by omega
  have n2:¬w.heap.size+1=p:=by omega
  replace fr0:=ac hw r0 fr0;replace fr1:=ac hw r1 fr1;replace r0:=aa hw r0;replace r1:=aa hw r1;replace hB:=ae hB hw;have hp2:w.heap.size<=p:=by omega
  clear hw qr0 qz0 z0 z1 v0 hS0 hT0 hT1 FL PA SU hd;have qr0:=World.block_lt_of_cell? _ _ r0;have qt0:=World.block_lt_of_cell? _ _ t0;go_wp2_with fail;refine(BE.out _).mono ?_;rintro e v1 ⟨rfl,d1⟩;have c1:Below wc.heap.size wc v1:=Below.trans (by go_grown) (d1.mono (by simp;try omega));replace fr0:=ac c1 r0 fr0;replace r0:=aa c1 r0;replace qr0:=World.block_lt_of_cell? _ _ r0;replace fr1:=ac c1 r1 fr1;replace r1:=aa c1 r1;replace ft0:=ac c1 t0 ft0;replace t0:=aa c1 t0;replace qt0:=World.block_lt_of_cell? _ _ t0;replace ft1:=ac c1 t1 ft1;replace t1:=aa c1 t1;replace hB:=ae hB c1;clear c1 d1;go_wp2_with fail;refine(CO.out _).mono ?_;rintro e v2 ⟨rfl,d2⟩;have c2:Below v1.heap.size v1 v2:=Below.trans (by go_grown) (d2.mono (by simp;try omega));replace fr0:=ac c2 r0 fr0;replace r0:=aa c2 r0;replace qr0:=World.block_lt_of_cell? _ _ r0;replace fr1:=ac c2 r1 fr1;replace r1:=aa c2 r1;replace ft0:=ac c2 t0 ft0;replace t0:=aa c2 t0;replace qt0:=World.block_lt_of_cell? _ _ t0;replace ft1:=ac c2 t1 ft1;replace t1:=aa c2 t1;have s0:v2.cell? ⟨v1.heap.size,0,none⟩=some (.int .i64 2):=aa d2 (by go_simp);have qs0:=World.block_lt_of_cell? _ _ s0;have s1:v2.cell? ⟨v1.heap.size,1,none⟩=some (.int .i64 1):=aa d2 (by go_simp);replace hB:=ae hB c2;clear c2 d2;go_wp2_with fail;refine(MU.out _).mono ?_;rintro e v3 ⟨rfl,d3⟩;have c3:Below v2.heap.size v2 v3:=Below.trans (by go_grown) (d3.mono (by simp;try omega));replace fr0:=ac c3 r0 fr0;replace r0:=aa c3 r0;replace qr0:=World.block_lt_of_cell? _ _ r0;replace fr1:=ac c3 r1 fr1;replace r1:=aa c3 r1;replace ft0:=ac c3 t0 ft0;replace t0:=aa c3 t0;replace qt0:=World.block_lt_of_cell? _ _ t0;replace ft1:=ac c3 t1 ft1;replace t1:=aa c3 t1;replace s0:=aa c3 s0;replace qs0:=World.block_lt_of_cell? _ _ s0;replace s1:=aa c3 s1;have y0:v3.cell? ⟨v2.heap.size,0,none⟩=some (.int .i64 c):=aa d3 (by go_simp);have qy0:=World.block_lt_of_cell? _ _ y0;have y1:v3.cell? ⟨v2.heap.size,1,none⟩=some (.int .i64 e):=aa d3 (by go_simp);replace hB:=ae hB c3;clear c3 d3;have e0:=ah (u:=.int .i64 B) (q:=⟨p,1,none⟩) (ay (u:=.int .i64 A) t0) (by simp);have e1:=ay (u:=.int .i64 B) (ah (u:=.int .i64 A) (q:=⟨p,0,none⟩) t1 (by simp));have k0:=ah (u:=.int .i64 B) (q:=⟨p,1,none⟩) (ah (u:=.int .i64 A) (q:=⟨p,0,none⟩) r0 (by first | (simp;done) | (simp;exact n1))) (by first | (simp;done) | (simp;exact n1));have k1:=ah (u:=.int .i64 B) (q:=⟨p,1,none⟩) (ah (u:=.int .i64 A) (q:=⟨p,0,none⟩) r1 (by first | (simp;done) | (simp;exact n1))) (by first | (simp;done) | (simp;exact n1));obtain⟨g0,g1⟩:=au (u:=.int .i64 P) (v:=.int .i64 Q) k0 k1;have d1:(A.tdiv 7).natAbs<=A.natAbs:=by rw[Int.natAbs_tdiv];exact Nat.div_le_self _ _
  have d2:(B.tdiv 7).natAbs<=B.natAbs:=by rw[Int.natAbs_tdiv];exact Nat.div_le_self _ _
  have p1: -9007199254740992<=P:=by omega
  have p2:P<=9007199254740992:=by omega
  have p3: -9007199254740992<=Q:=by omega
  have p4:Q<=9007199254740992:=by omega
  clear d1 d2;go_wp2;exact bodyPost_ret (v:=.tuple #[.agg #[.int .i64 P,.int .i64 Q],.int .i64 d]) (by simp[results,Tryz.results187,go_sem,g0,g1]) rfl ⟨rfl,(((hB.setCell (by exact hp2) _).setCell (by exact hp2) _).setCell (by simp) _).setCell (by simp) _⟩
theorem Bl (a b:Int):ie[((a-2*b)%7).toNat]?=some (.int .i64 (dig a b)):=by
 rcases oz a b with h | h | h | h | h | h | h <;>(obtain⟨hd,hm,-,-⟩:=h;rw[hd,hm];rfl)
theorem mY (a b:Int)(ha:bc a)(hb:bc b)(w:World)(hT:Tabs w) :
 Calls Tryz.prog 187 #[.agg #[.int .i64 a,.int .i64 b]] w fun e w'=>e=.returned (.tuple #[.agg #[.int .i64 (aQ a b),.int .i64 (aR a b)],.int .i64 (dig a b)])/\Below w.heap.size w w':=by
 obtain⟨a1,a2⟩:=ha;obtain⟨b1,b2⟩:=hb;have hs:=fB a b;have hp:=kD (dig a b);have hd:=fS a b;have m1:=Int.emod_nonneg (a-2*b) (b:=7) (by omega);have m2:=Int.emod_lt_of_pos (a-2*b) (b:=7) (by omega);have hx:=oK (a:=a) (b:=b) (B:=1073741824) ⟨a1,a2⟩ ⟨b1,b2⟩ (by omega);exact tk a b ((a-2*b) / 7) ((a-2*b)%7) (dig a b) (ptA (dig a b)) (ptB (dig a b)) (a-ptA (dig a b)) (b-ptB (dig a b)) 3 (-1) (7*aQ a b) (7*aR a b) _ _ a1 a2 b1 b2 m1 m2
  (cS _ 7 (by omega) (by omega) (by omega) (by omega)) (Bl a b) (pd _ hd.1 hd.2)
  (ww _ _ _ _ _ _ rfl rfl (by omega) (by omega) (by omega) (by omega) (by omega) (by omega) (by omega) (by omega))
  (kg 1 (by omega))
  (lP 2 1 3 (-1) (by omega) (by omega) (by omega) (by omega) (by omega) (by omega))
  (fg _ _ _ _ _ _ (by omega) (by omega) (by omega) (by omega) (by omega) (by omega) (by omega) (by omega) (by omega) (by omega) (by omega) (by omega) (by omega) (by omega))
  (by omega) (by omega) (by omega) (by omega) (Int.mul_tdiv_cancel_left _ (by omega)) (Int.mul_tdiv_cancel_left _ (by omega)) w hT
theorem Tabs.low {B:Nat}{w w':World}(h:Tabs w)(g0:1<B)(g1:0<B)(hb:Below B w w'):Tabs w':=⟨var?_below hb qs g0 h.1,var?_below hb wL g1 h.2⟩
theorem Tabs.lt {w:World}(h:Tabs w):1<w.heap.size/\0<w.heap.size :=
 ⟨World.block_lt_of_cell? _ _ (show w.cell? ⟨1,0,none⟩=some (.int .i64 0)from h.1.cell 0),World.block_lt_of_cell? _ _ (show w.cell? ⟨0,0,none⟩=some (.int .i64 1)from h.2.cell 0)⟩
def dR (B:Nat)(r a b:Int)(w:World):Prop:=w.cell? ⟨B,0,none⟩=some (.int .i64 r)/\w.cell? ⟨B,1,none⟩=some (.int .i64 a)/\w.cell? ⟨B,2,none⟩=some (.int .i64 b)/\w.frozen? ⟨B,0,none⟩=false/\w.frozen? ⟨B,1,none⟩=false/\w.frozen? ⟨B,2,none⟩=false
theorem aJ {w:World}{b:Nat}{x0 x1 x2 u0 u1 u2:Value}(h0:w.cell? ⟨b,0,none⟩=some x0)(h1:w.cell? ⟨b,1,none⟩=some x1)(h2:w.cell? ⟨b,2,none⟩=some x2) :
 (((w.setCell ⟨b,0,none⟩ u0).setCell ⟨b,1,none⟩ u1).setCell ⟨b,2,none⟩ u2).cell? ⟨b,0,none⟩=some u0/\(((w.setCell ⟨b,0,none⟩ u0).setCell ⟨b,1,none⟩ u1).setCell ⟨b,2,none⟩ u2).cell? ⟨b,1,none⟩=some u1/\(((w.setCell ⟨b,0,none⟩ u0).setCell ⟨b,1,none⟩ u1).setCell ⟨b,2,none⟩ u2).cell? ⟨b,2,none⟩=some u2 :=
 ⟨ah (ah (ay h0) (by simp)) (by simp),ah (ay (ah h1 (by simp))) (by simp),ay (ah (ah h2 (by simp)) (by simp))⟩
theorem Bg (B:Nat)(r a b P Q d:Int)(r1: -1000<=r)(r2:r<=1000)
 (SP:∀w,Tabs w->Calls Tryz.prog 187 #[.agg #[.int .i64 a,.int .i64 b]] w fun e w'=>e=.returned (.tuple #[.agg #[.int .i64 P,.int .i64 Q],.int .i64 d])/\Below w.heap.size w w')
 (w:World) (h:dR B r a b w) (hT:Tabs w) :
 Calls Tryz.prog 205 #[.pointer (some ⟨B,0,none⟩)] w fun e w'=>e=.returned (.tuple #[])/\dR B (r-1) P Q w'/\Below B w w':=by
 replace SP:Hid _:=SP;have hT0:Hid (Tabs w):=hT;clear hT;obtain⟨x0,x1,x2,f0,f1,f2⟩:=h;have hBw:=World.block_lt_of_cell? _ _ x0
 go_enter Tryz.func205,Tryz.ntmps205
 go_wp2_with fail;refine(SP.out _ ?_).mono ?_
 · exact hT0.out.below (by go_grown)
 rintro e w1 ⟨rfl,d1⟩;replace f0:=ac d1 x0 f0;replace f1:=ac d1 x1 f1;replace f2:=ac d1 x2 f2;replace x0:=aa d1 x0;replace x1:=aa d1 x1;replace x2:=aa d1 x2;have hB1:B<w1.heap.size:=World.block_lt_of_cell? _ _ x0;have hB:Below B w w1:=d1.mono (by omega);have n1:¬w1.heap.size=B:=by omega
 have n2:¬B=w1.heap.size:=by omega
 obtain⟨g0,g1,g2⟩:=aJ (u0:=.int .i64 (r-1)) (u1:=.int .i64 P) (u2:=.int .i64 Q) x0 x1 x2;clear d1 SP hT0;go_wp2_with fail
 go_big_region
 all_goals
  go_wp2
  go_end0
  have hz:=(ag ((((w1.setCell ⟨B,0,none⟩ (.int .i64 (r-1))).setCell ⟨B,1,none⟩ (.int .i64 P)).setCell ⟨B,2,none⟩ (.int .i64 Q))) (.cells #[.int .i64 P,.int .i64 Q] 37)).drew;have e0:=ac hz g0 (by simp[f0]);have e1:=ac hz g1 (by simp[f1]);have e2:=ac hz g2 (by simp[f2]);exact⟨rfl,⟨aa hz g0,aa hz g1,aa hz g2,e0,e1,e2⟩,((((hB.setCell (by simp) _).setCell (by simp) _).setCell (by simp) _).alloc (by simp;omega) _).drew⟩
theorem EJ (B:Nat)(r a b:Int)(r1: -1000<=r)(r2:r<=1000)(ha:bc a)(hb:bc b)(w:World)(h:dR B r a b w)(hT:Tabs w) :
 Calls Tryz.prog 205 #[.pointer (some ⟨B,0,none⟩)] w fun e w'=>e=.returned (.tuple #[])/\dR B (r-1) (aQ a b) (aR a b) w'/\Below B w w' :=
 Bg B r a b _ _ (dig a b) r1 r2 (mY a b ha hb) w h hT
theorem tj (B n:Nat)(r a b:Int)(hn:n<=12)(r1:0<=r)(r2:r<=12)(ha:bc a)(hb:bc b)(w:World)(h:dR B r a b w)(g0:1<B)(g1:0<B)(hT:Tabs w) :
 Calls Tryz.prog 204 #[.int .i64 (n:Int),.func (.func 205) #[.pointer (some ⟨B,0,none⟩)] #[]] w fun e w'=>e=.returned (.tuple #[])/\dR B (r-n) (ups n a b).1 (ups n a b).2 w'/\Below B w w':=by
 have UP:Hid (∀k:Nat,k<=12->∀wr,dR B (r-k) (ups k a b).1 (ups k a b).2 wr->Tabs wr->Calls Tryz.prog 205 #[.pointer (some ⟨B,0,none⟩)] wr fun e w'=>e=.returned (.tuple #[])/\dR B (r-((k+1:Nat):Int)) (ups (k+1) a b).1 (ups (k+1) a b).2 w'/\Below B wr w'):=by
  intro k hk wr h hT;have hx:=lI (B:=1073741824) (by omega) k (a:=a) (b:=b) ha hb;have:=EJ B (r-k) _ _ (by omega) (by omega) hx.1 hx.2 wr h hT;rw[it,show r-((k+1:Nat):Int)=r-k-1 by omega];exact this
 have hT0:Hid (Tabs w):=hT;have h0:Hid (dR B r a b w):=h;clear hT h
 go_enter Tryz.func204,Tryz.ntmps204
 go_wp2_with fail;go_loopw [5] (fun v5 wr=>∃k:Nat,k<=n/\v5=.int .i64 (k:Int)/\Hid (dR B (r-k) (ups k a b).1 (ups k a b).2 wr)/\Below B w wr) (fun v5 _=>n-(intOf v5).toNat)
 case atStart =>
  refine⟨0,by omega,rfl,?_,Below.refl _ _⟩;show dR B (r-((0:Nat):Int)) a b w
  rw[show r-((0:Nat):Int)=r by omega];exact h0.out
 case round =>
  obtain⟨k,hk,rfl,HR,hB⟩:=hrel;by_cases hlt:k<n
  · go_wp2_with fail;refine(UP.out k (by omega) _ HR.out (hT0.out.low g0 g1 hB)).mono ?_;rintro e v1 ⟨rfl,h3,hb'⟩;have h3':Hid (dR B (r-((k+1:Nat):Int)) (ups (k+1) a b).1 (ups (k+1) a b).2 v1):=h3;have hB':Below B w v1:=hB.trans hb';clear h3 HR hB hb';go_wp2;go_roundw
    case rel=>exact⟨k+1,by omega,by go_num,h3',hB'⟩
    case measure=>simp[intOf];omega
  · obtain rfl:k=n:=by omega
    go_wp2
    go_end0
    exact⟨rfl,HR.out,hB⟩
theorem qQ (r a b t P Q:Int)(t0:0<=t)(t1:t<=r)(r2:r<=12)
 (RE:∀B w,dR B r a b w->1<B->0<B->Tabs w->Calls Tryz.prog 204 #[.int .i64 (r-t),.func (.func 205) #[.pointer (some ⟨B,0,none⟩)] #[]] w fun e w'=>e=.returned (.tuple #[])/\dR B t P Q w'/\Below B w w')
 (w:World) (hT:Tabs w) :
 Calls Tryz.prog 170 #[.agg #[.int .i64 r,.int .i64 a,.int .i64 b],.int .i64 t] w fun e w'=>e=.returned (.agg #[.int .i64 t,.int .i64 P,.int .i64 Q])/\Below w.heap.size w w':=by
 replace RE:Hid _:=RE;have hT0:Hid (Tabs w):=hT;obtain⟨g0,g1⟩:=hT.lt;clear hT
 go_enter Tryz.func170,Tryz.ntmps170
 go_wp2_with fail;refine(RE.out _ _ ?_ ?_ ?_ ?_).mono ?_
 · exact⟨by go_simp,by go_simp,by go_simp,by go_simp,by go_simp,by go_simp⟩
 · first | omega | (simp;done) | (simp;omega)
 · first | omega | (simp;done) | (simp;omega)
 · exact hT0.out.below (by go_grown)
 rintro e w1 ⟨rfl,⟨x0,x1,x2,-,-,-⟩,hb⟩;have r0:w1.cell? ⟨w.heap.size+1,0,none⟩=some (.int .i64 0):=(hb.cell (p:=⟨w.heap.size+1,0,none⟩) (by simp)).trans (by go_simp);have r1:w1.cell? ⟨w.heap.size+1,1,none⟩=some (.int .i64 0):=(hb.cell (p:=⟨w.heap.size+1,1,none⟩) (by simp)).trans (by go_simp);have r2:w1.cell? ⟨w.heap.size+1,2,none⟩=some (.int .i64 0):=(hb.cell (p:=⟨w.heap.size+1,2,none⟩) (by simp)).trans (by go_simp);have f0:w1.frozen? ⟨w.heap.size+1,0,none⟩=false:=(hb.frozen (p:=⟨w.heap.size+1,0,none⟩) (by simp)).trans (by go_simp);have f1:w1.frozen? ⟨w.heap.size+1,1,none⟩=false:=(hb.frozen (p:=⟨w.heap.size+1,1,none⟩) (by simp)).trans (by go_simp);have f2:w1.frozen? ⟨w.heap.size+1,2,none⟩=false:=(hb.frozen (p:=⟨w.heap.size+1,2,none⟩) (by simp)).trans (by go_simp);have hB:Below w.heap.size w w1:=Below.trans (by go_grown) (hb.mono (by omega));obtain⟨e0,e1,e2⟩:=aJ (u0:=.int .i64 t) (u1:=.int .i64 P) (u2:=.int .i64 Q) r0 r1 r2;clear hb RE hT0;go_wp2;exact bodyPost_ret (v:=.agg #[.int .i64 t,.int .i64 P,.int .i64 Q]) (by simp[results,Tryz.results170,go_sem,e0,e1,e2]) rfl ⟨rfl,((hB.setCell (by simp) _).setCell (by simp) _).setCell (by simp) _⟩
theorem iL (r a b t:Int)(n:Nat)(hn:r-t=(n:Int))(t0:0<=t)(r2:r<=12)(ha:bc a)(hb:bc b)(w:World)(hT:Tabs w) :
 Calls Tryz.prog 170 #[.agg #[.int .i64 r,.int .i64 a,.int .i64 b],.int .i64 t] w fun e w'=>e=.returned (.agg #[.int .i64 t,.int .i64 (ups n a b).1,.int .i64 (ups n a b).2])/\Below w.heap.size w w':=by
 refine qQ r a b t _ _ t0 (by omega) r2 (fun B w h g0 g1 hT=>?_) w hT;have:=tj B n r a b (by omega) (by omega) r2 ha hb w h g0 g1 hT
 rwa [←hn,show r-(r-t)=t by omega]at this
theorem A8 (r a b P Q:Int)(v:Bool)(r1:0<=r)(r2:r<=12)(a1: -1073741824<=a)(a2:a<=1073741824)(b1: -1073741824<=b)(b2:b<=1073741824)
 (RA:∀w,Tabs w->Calls Tryz.prog 170 #[.agg #[.int .i64 r,.int .i64 a,.int .i64 b],.int .i64 0] w fun e w'=>e=.returned (.agg #[.int .i64 0,.int .i64 P,.int .i64 Q])/\Below w.heap.size w w')
 (pv qv:Bool) (IP:∀w,Calls Tryz.prog 171 #[.int .i64 P] w fun e w'=>e=.returned (.bool pv)/\w'=w)
 (IQ:∀w,Calls Tryz.prog 171 #[.int .i64 Q] w fun e w'=>e=.returned (.bool qv)/\w'=w) (hv:(pv && qv)=v) (w:World) (hT:Tabs w) :
 Calls Tryz.prog 128 #[.agg #[.int .i64 r,.int .i64 a,.int .i64 b]] w fun e w'=>e=.returned (.bool v)/\Below w.heap.size w w':=by
 have SZ:Hid (∀w,Calls Tryz.prog 168 #[.int .i64 r] w fun e w'=>e=.returned (.bool true)/\w'=w):=ke r r1 r2;have PA:Hid (∀w,Calls Tryz.prog 169 #[.int .i64 a] w fun e w'=>e=.returned (.bool true)/\w'=w):=iK a a1 a2;have PB:Hid (∀w,Calls Tryz.prog 169 #[.int .i64 b] w fun e w'=>e=.returned (.bool true)/\w'=w):=iK b b1 b2;replace RA:Hid _:=RA;replace IP:Hid _:=IP;replace IQ:Hid _:=IQ;have hT0:Hid (Tabs w):=hT;clear hT;subst hv;cases pv
 all_goals
  go_enter Tryz.func128,Tryz.ntmps128
  go_wp2_with fail;refine(SZ.out _).mono ?_;rintro e v1 ⟨rfl,rfl⟩;go_wp2_with fail;refine(PA.out _).mono ?_;rintro e v1 ⟨rfl,rfl⟩;go_wp2_with fail;refine(PB.out _).mono ?_;rintro e v1 ⟨rfl,rfl⟩;go_wp2_with fail;refine(RA.out _ ?_).mono ?_
  · exact hT0.out.below (by go_grown)
  rintro e w1 ⟨rfl,d1⟩;have c1:Below w.heap.size w w1:=Below.trans (by go_grown) (d1.mono (by simp;try omega));have hB:=c1;clear c1 d1;go_wp2_with fail;refine(IP.out _).mono ?_;rintro e v1 ⟨rfl,rfl⟩
  (try (go_wp2_with fail
        refine(IQ.out _).mono ?_;rintro e v1 ⟨rfl,rfl⟩))
  go_wp2;go_ret;exact⟨by simp,hB.alloc (by have:=hB.size;omega) _⟩
theorem A9 (r a b:Int)(h:¬(0<=r/\r<=12))(w:World) :
 Calls Tryz.prog 128 #[.agg #[.int .i64 r,.int .i64 a,.int .i64 b]] w fun e w'=>e=.returned (.bool false)/\Below w.heap.size w w':=by
 have SZ:Hid (∀w,Calls Tryz.prog 168 #[.int .i64 r] w fun e w'=>e=.returned (.bool false)/\w'=w):=Bf r h;clear h
 go_enter Tryz.func128,Tryz.ntmps128
 go_wp2_with fail;refine(SZ.out _).mono ?_;rintro e v1 ⟨rfl,rfl⟩;go_wp2;go_ret;exact⟨rfl,by go_grown⟩
theorem yI (r a b:Int)(r1:0<=r)(r2:r<=12)(h:¬bc a)(w:World) :
 Calls Tryz.prog 128 #[.agg #[.int .i64 r,.int .i64 a,.int .i64 b]] w fun e w'=>e=.returned (.bool false)/\Below w.heap.size w w':=by
 have SZ:Hid (∀w,Calls Tryz.prog 168 #[.int .i64 r] w fun e w'=>e=.returned (.bool true)/\w'=w):=ke r r1 r2;have PA:Hid (∀w,Calls Tryz.prog 169 #[.int .i64 a] w fun e w'=>e=.returned (.bool false)/\w'=w):=mX a h;clear h
 go_enter Tryz.func128,Tryz.ntmps128
 go_wp2_with fail;refine(SZ.out _).mono ?_;rintro e v1 ⟨rfl,rfl⟩;go_wp2_with fail;refine(PA.out _).mono ?_;rintro e v1 ⟨rfl,rfl⟩;go_wp2;go_ret;exact⟨rfl,by go_grown⟩
theorem yJ (r a b:Int)(r1:0<=r)(r2:r<=12)(ha:bc a)(h:¬bc b)(w:World) :
 Calls Tryz.prog 128 #[.agg #[.int .i64 r,.int .i64 a,.int .i64 b]] w fun e w'=>e=.returned (.bool false)/\Below w.heap.size w w':=by
 have SZ:Hid (∀w,Calls Tryz.prog 168 #[.int .i64 r] w fun e w'=>e=.returned (.bool true)/\w'=w):=ke r r1 r2;have PA:Hid (∀w,Calls Tryz.prog 169 #[.int .i64 a] w fun e w'=>e=.returned (.bool true)/\w'=w):=iK a ha.1 ha.2;have PB:Hid (∀w,Calls Tryz.prog 169 #[.int .i64 b] w fun e w'=>e=.returned (.bool false)/\w'=w):=mX b h;clear h
 go_enter Tryz.func128,Tryz.ntmps128
 go_wp2_with fail;refine(SZ.out _).mono ?_;rintro e v1 ⟨rfl,rfl⟩;go_wp2_with fail;refine(PA.out _).mono ?_;rintro e v1 ⟨rfl,rfl⟩;go_wp2_with fail;refine(PB.out _).mono ?_;rintro e v1 ⟨rfl,rfl⟩;go_wp2;go_ret;exact⟨rfl,by go_grown⟩
theorem lO (n:Int):∃v:Bool,v=decide (-512<=n/\n<=511)/\∀w,Calls Tryz.prog 171 #[.int .i64 n] w fun e w'=>e=.returned (.bool v)/\w'=w:=by
 by_cases h: -512<=n/\n<=511
 · exact⟨true,(decide_eq_true h).symm,td n h.1 h.2⟩
 · exact⟨false,(decide_eq_false h).symm,vR n h⟩
theorem ui (r a b:Int)(w:World)(hT:Tabs w) :
 Calls Tryz.prog 128 #[.agg #[.int .i64 r,.int .i64 a,.int .i64 b]] w fun e w'=>e=.returned (.bool (iS r a b))/\Below w.heap.size w w':=by
 by_cases hr:0<=r/\r<=12
 · by_cases ha:bc a
   · by_cases hb:bc b
     · obtain⟨pv,hp,IP⟩:=lO (ups r.toNat a b).1;obtain⟨qv,hq,IQ⟩:=lO (ups r.toNat a b).2;refine A8 r a b _ _ (iS r a b) hr.1 hr.2 ha.1 ha.2 hb.1 hb.2 (iL r a b 0 r.toNat (by omega) (by omega) hr.2 ha hb) pv qv IP IQ ?_ w hT;rw[hp,hq];unfold iS;unfold bc at ha hb;rw[←Bool.decide_and];congr 1;apply propext;constructor
       · intro h;exact⟨hr.1,hr.2,ha,hb,h.1,h.2⟩
       · intro h;exact⟨h.2.2.2.2.1,h.2.2.2.2.2⟩
     · rw[dD fun h=>hb h.2.2.2.1];exact yJ r a b hr.1 hr.2 ha hb w
   · rw[dD fun h=>ha h.2.2.1];exact yI r a b hr.1 hr.2 ha w
 · rw[dD fun h=>hr ⟨h.1,h.2.1⟩];exact A9 r a b hr w
theorem jd (r a b:Int)(h:Ok4 r a b)(w:World)(hT:Tabs w) :
 Calls Tryz.prog 128 #[.agg #[.int .i64 r,.int .i64 a,.int .i64 b]] w fun e w'=>e=.returned (.bool true)/\Below w.heap.size w w':=by
 have:=ui r a b w hT
 rwa [jh h]at this
theorem yH (r a b:Int)(h:¬Ok4 r a b)(w:World)(hT:Tabs w) :
 Calls Tryz.prog 128 #[.agg #[.int .i64 r,.int .i64 a,.int .i64 b]] w fun e w'=>e=.returned (.bool false)/\Below w.heap.size w w':=by
 have:=ui r a b w hT
 rwa [dD h]at this
theorem qP (r a b P Q:Int)(r1:0<r)(r2:r<=12)(hr:(r == 0)=false)(h:Ok4 r a b)
 (RA:∀w,Tabs w->Calls Tryz.prog 170 #[.agg #[.int .i64 r,.int .i64 a,.int .i64 b],.int .i64 (r-1)] w fun e w'=>e=.returned (.agg #[.int .i64 (r-1),.int .i64 P,.int .i64 Q])/\Below w.heap.size w w') (w:World) (hT:Tabs w) :
 Calls Tryz.prog 149 #[.agg #[.int .i64 r,.int .i64 a,.int .i64 b]] w fun e w'=>e=.returned (.tuple #[.agg #[.int .i64 (r-1),.int .i64 (P),.int .i64 (Q)],.int .i64 0])/\Below w.heap.size w w':=by
 have OK:Hid (∀w,Tabs w->Calls Tryz.prog 128 #[.agg #[.int .i64 r,.int .i64 a,.int .i64 b]] w fun e w'=>e=.returned (.bool true)/\Below w.heap.size w w'):=fun w hT=>jd r a b h w hT;replace RA:Hid _:=RA;have hT0:Hid (Tabs w):=hT;clear hT h
 go_enter Tryz.func149,Tryz.ntmps149
 go_wp2_with fail;refine(OK.out _ ?_).mono ?_
 · exact hT0.out.below (by go_grown)
 rintro e w1 ⟨rfl,d1⟩;have c1:Below w.heap.size w w1:=Below.trans (by go_grown) (d1.mono (by simp;try omega));have z0:w1.cell? ⟨w.heap.size,0,none⟩=some (.int .i64 r):=aa d1 (by go_simp);have qz0:=World.block_lt_of_cell? _ _ z0;have z1:w1.cell? ⟨w.heap.size,1,none⟩=some (.int .i64 a):=aa d1 (by go_simp);have z2:w1.cell? ⟨w.heap.size,2,none⟩=some (.int .i64 b):=aa d1 (by go_simp);have r0:w1.cell? ⟨w.heap.size+1,0,none⟩=some (.int .i64 0):=aa d1 (by go_simp);have fr0:w1.frozen? ⟨w.heap.size+1,0,none⟩=false:=ac (v:=.int .i64 0) d1 (by go_simp) (by go_simp);have qr0:=World.block_lt_of_cell? _ _ r0;have r1:w1.cell? ⟨w.heap.size+1,1,none⟩=some (.int .i64 0):=aa d1 (by go_simp);have fr1:w1.frozen? ⟨w.heap.size+1,1,none⟩=false:=ac (v:=.int .i64 0) d1 (by go_simp) (by go_simp);have r2:w1.cell? ⟨w.heap.size+1,2,none⟩=some (.int .i64 0):=aa d1 (by go_simp);have fr2:w1.frozen? ⟨w.heap.size+1,2,none⟩=false:=ac (v:=.int .i64 0) d1 (by go_simp) (by go_simp);have hB:=c1;clear c1 d1;go_wp2_with fail;refine(RA.out _ ?_).mono ?_
 · exact hT0.out.below hB
 rintro e w2 ⟨rfl,d2⟩;have c2:Below w1.heap.size w1 w2:=Below.trans (by go_grown) (d2.mono (by simp;try omega));replace z0:=aa c2 z0;replace qz0:=World.block_lt_of_cell? _ _ z0;replace z1:=aa c2 z1;replace z2:=aa c2 z2;replace fr0:=ac c2 r0 fr0;replace r0:=aa c2 r0;replace qr0:=World.block_lt_of_cell? _ _ r0;replace fr1:=ac c2 r1 fr1;replace r1:=aa c2 r1;replace fr2:=ac c2 r2 fr2;replace r2:=aa c2 r2;replace hB:=ae hB c2;clear c2 d2;obtain⟨g0,g1,g2⟩:=aJ (u0:=.int .i64 (r-1)) (u1:=.int .i64 (P)) (u2:=.int .i64 (Q)) r0 r1 r2;go_wp2;exact bodyPost_ret (v:=.tuple #[.agg #[.int .i64 (r-1),.int .i64 (P),.int .i64 (Q)],.int .i64 0]) (by simp[results,Tryz.results149,go_sem,g0,g1,g2]) rfl ⟨rfl,((hB.setCell (by simp) _).setCell (by simp) _).setCell (by simp) _⟩
theorem ti (r a b:Int)(h:Ok4 r a b)(hr:0<r)(w:World)(hT:Tabs w) :
 Calls Tryz.prog 149 #[.agg #[.int .i64 r,.int .i64 a,.int .i64 b]] w fun e w'=>e=.returned (.tuple #[.agg #[.int .i64 (r-1),.int .i64 (aQ a b),.int .i64 (aR a b)],.int .i64 0])/\Below w.heap.size w w' :=
 qP r a b _ _ hr h.2.1 (by simp;omega) h (iL r a b (r-1) 1 (by omega) (by omega) h.2.1 h.2.2.1 h.2.2.2.1) w hT
theorem vY (r a b t P Q:Int)(t0:0<=t)(t1:t<=r)(h:Ok4 r a b)
 (RA:∀w,Tabs w->Calls Tryz.prog 170 #[.agg #[.int .i64 r,.int .i64 a,.int .i64 b],.int .i64 t] w fun e w'=>e=.returned (.agg #[.int .i64 t,.int .i64 P,.int .i64 Q])/\Below w.heap.size w w') (w:World) (hT:Tabs w) :
 Calls Tryz.prog 148 #[.agg #[.int .i64 r,.int .i64 a,.int .i64 b],.int .i64 t] w fun e w'=>e=.returned (.tuple #[.agg #[.int .i64 (t),.int .i64 (P),.int .i64 (Q)],.int .i64 0])/\Below w.heap.size w w':=by
 have OK:Hid (∀w,Tabs w->Calls Tryz.prog 128 #[.agg #[.int .i64 r,.int .i64 a,.int .i64 b]] w fun e w'=>e=.returned (.bool true)/\Below w.heap.size w w'):=fun w hT=>jd r a b h w hT;replace RA:Hid _:=RA;have q0:decide (t<0)=false:=df (by omega);have q1:decide (r<t)=false:=df (by omega);have hT0:Hid (Tabs w):=hT;clear hT h
 go_enter Tryz.func148,Tryz.ntmps148
 go_wp2_with fail;refine(OK.out _ ?_).mono ?_
 · exact hT0.out.below (by go_grown)
 rintro e w1 ⟨rfl,d1⟩;have c1:Below w.heap.size w w1:=Below.trans (by go_grown) (d1.mono (by simp;try omega));have z0:w1.cell? ⟨w.heap.size,0,none⟩=some (.int .i64 r):=aa d1 (by go_simp);have qz0:=World.block_lt_of_cell? _ _ z0;have z1:w1.cell? ⟨w.heap.size,1,none⟩=some (.int .i64 a):=aa d1 (by go_simp);have z2:w1.cell? ⟨w.heap.size,2,none⟩=some (.int .i64 b):=aa d1 (by go_simp);have r0:w1.cell? ⟨w.heap.size+1,0,none⟩=some (.int .i64 0):=aa d1 (by go_simp);have fr0:w1.frozen? ⟨w.heap.size+1,0,none⟩=false:=ac (v:=.int .i64 0) d1 (by go_simp) (by go_simp);have qr0:=World.block_lt_of_cell? _ _ r0;have r1:w1.cell? ⟨w.heap.size+1,1,none⟩=some (.int .i64 0):=aa d1 (by go_simp);have fr1:w1.frozen? ⟨w.heap.size+1,1,none⟩=false:=ac (v:=.int .i64 0) d1 (by go_simp) (by go_simp);have r2:w1.cell? ⟨w.heap.size+1,2,none⟩=some (.int .i64 0):=aa d1 (by go_simp);have fr2:w1.frozen? ⟨w.heap.size+1,2,none⟩=false:=ac (v:=.int .i64 0) d1 (by go_simp) (by go_simp);have hB:=c1;clear c1 d1;go_wp2_with fail;refine(RA.out _ ?_).mono ?_
 · exact hT0.out.below hB
 rintro e w2 ⟨rfl,d2⟩;have c2:Below w1.heap.size w1 w2:=Below.trans (by go_grown) (d2.mono (by simp;try omega));replace z0:=aa c2 z0;replace qz0:=World.block_lt_of_cell? _ _ z0;replace z1:=aa c2 z1;replace z2:=aa c2 z2;replace fr0:=ac c2 r0 fr0;replace r0:=aa c2 r0;replace qr0:=World.block_lt_of_cell? _ _ r0;replace fr1:=ac c2 r1 fr1;replace r1:=aa c2 r1;replace fr2:=ac c2 r2 fr2;replace r2:=aa c2 r2;replace hB:=ae hB c2;clear c2 d2;obtain⟨g0,g1,g2⟩:=aJ (u0:=.int .i64 (t)) (u1:=.int .i64 (P)) (u2:=.int .i64 (Q)) r0 r1 r2;go_wp2;exact bodyPost_ret (v:=.tuple #[.agg #[.int .i64 (t),.int .i64 (P),.int .i64 (Q)],.int .i64 0]) (by simp[results,Tryz.results148,go_sem,g0,g1,g2]) rfl ⟨rfl,((hB.setCell (by simp) _).setCell (by simp) _).setCell (by simp) _⟩
theorem yP (r a b t:Int)(n:Nat)(hn:r-t=(n:Int))(h:Ok4 r a b)(t0:0<=t)(w:World)(hT:Tabs w) :
 Calls Tryz.prog 148 #[.agg #[.int .i64 r,.int .i64 a,.int .i64 b],.int .i64 t] w fun e w'=>e=.returned (.tuple #[.agg #[.int .i64 (t),.int .i64 ((ups n a b).1),.int .i64 ((ups n a b).2)],.int .i64 0])/\Below w.heap.size w w' :=
 vY r a b t _ _ t0 (by omega) h (iL r a b t n hn t0 h.2.1 h.2.2.1 h.2.2.2.1) w hT
theorem mV (r a b T P Q E:Int)
 (UP:∀w,Tabs w->Calls Tryz.prog 148 #[.agg #[.int .i64 r,.int .i64 a,.int .i64 b],.int .i64 0] w fun e w'=>e=.returned (.tuple #[.agg #[.int .i64 T,.int .i64 P,.int .i64 Q],.int .i64 E])/\Below w.heap.size w w') (w:World) (hT:Tabs w) :
 Calls Tryz.prog 99 #[.agg #[.int .i64 r,.int .i64 a,.int .i64 b]] w fun e w'=>e=.returned (.tuple #[.agg #[.int .i64 (T),.int .i64 (P),.int .i64 (Q)],.int .i64 E])/\Below w.heap.size w w':=by
 replace UP:Hid _:=UP;have hT0:Hid (Tabs w):=hT;clear hT
 go_enter Tryz.func99,Tryz.ntmps99
 go_wp2_with fail;refine(UP.out _ ?_).mono ?_
 · exact hT0.out.below (by go_grown)
 rintro e w1 ⟨rfl,d1⟩;have c1:Below w.heap.size w w1:=Below.trans (by go_grown) (d1.mono (by simp;try omega));have r0:w1.cell? ⟨w.heap.size+1,0,none⟩=some (.int .i64 0):=aa d1 (by go_simp);have fr0:w1.frozen? ⟨w.heap.size+1,0,none⟩=false:=ac (v:=.int .i64 0) d1 (by go_simp) (by go_simp);have qr0:=World.block_lt_of_cell? _ _ r0;have r1:w1.cell? ⟨w.heap.size+1,1,none⟩=some (.int .i64 0):=aa d1 (by go_simp);have fr1:w1.frozen? ⟨w.heap.size+1,1,none⟩=false:=ac (v:=.int .i64 0) d1 (by go_simp) (by go_simp);have r2:w1.cell? ⟨w.heap.size+1,2,none⟩=some (.int .i64 0):=aa d1 (by go_simp);have fr2:w1.frozen? ⟨w.heap.size+1,2,none⟩=false:=ac (v:=.int .i64 0) d1 (by go_simp) (by go_simp);have hB:=c1;clear c1 d1;obtain⟨g0,g1,g2⟩:=aJ (u0:=.int .i64 (T)) (u1:=.int .i64 (P)) (u2:=.int .i64 (Q)) r0 r1 r2;go_wp2;exact bodyPost_ret (v:=.tuple #[.agg #[.int .i64 (T),.int .i64 (P),.int .i64 (Q)],.int .i64 E]) (by simp[results,Tryz.results99,go_sem,g0,g1,g2]) rfl ⟨rfl,((hB.setCell (by simp) _).setCell (by simp) _).setCell (by simp) _⟩
theorem yA (r a b:Int)(h:Ok4 r a b)(w:World)(hT:Tabs w) :
 Calls Tryz.prog 99 #[.agg #[.int .i64 r,.int .i64 a,.int .i64 b]] w fun e w'=>e=.returned (.tuple #[.agg #[.int .i64 (0),.int .i64 ((ups r.toNat a b).1),.int .i64 ((ups r.toNat a b).2)],.int .i64 0])/\Below w.heap.size w w' :=
 mV r a b 0 _ _ 0 (yP r a b 0 r.toNat (by have:=h.1;omega) h (by omega)) w hT
theorem vQ (r a b:Int)(h:Ok4 r a b)(hr:0<r)(w:World)(hT:Tabs w) :
 Calls Tryz.prog 150 #[.agg #[.int .i64 r,.int .i64 a,.int .i64 b]] w fun e w'=>e=.returned (.int .i64 (dig a b))/\Below w.heap.size w w':=by
 have OK:Hid (∀w,Tabs w->Calls Tryz.prog 128 #[.agg #[.int .i64 r,.int .i64 a,.int .i64 b]] w fun e w'=>e=.returned (.bool true)/\Below w.heap.size w w'):=fun w hT=>jd r a b h w hT;have SP:Hid (∀w,Tabs w->Calls Tryz.prog 187 #[.agg #[.int .i64 a,.int .i64 b]] w fun e w'=>e=.returned (.tuple #[.agg #[.int .i64 (aQ a b),.int .i64 (aR a b)],.int .i64 (dig a b)])/\Below w.heap.size w w'):=mY a b h.2.2.1 h.2.2.2.1;have q0:(r == 0)=false:=by simp;omega
 have hT0:Hid (Tabs w):=hT;clear hT h
 go_enter Tryz.func150,Tryz.ntmps150
 go_wp2_with fail;refine(OK.out _ ?_).mono ?_
 · exact hT0.out.below (by go_grown)
 rintro e w1 ⟨rfl,d1⟩;have c1:Below w.heap.size w w1:=Below.trans (by go_grown) (d1.mono (by simp;try omega));have z0:w1.cell? ⟨w.heap.size,0,none⟩=some (.int .i64 r):=aa d1 (by go_simp);have qz0:=World.block_lt_of_cell? _ _ z0;have z1:w1.cell? ⟨w.heap.size,1,none⟩=some (.int .i64 a):=aa d1 (by go_simp);have z2:w1.cell? ⟨w.heap.size,2,none⟩=some (.int .i64 b):=aa d1 (by go_simp);have hB:=c1;clear c1 d1;go_wp2_with fail;refine(SP.out _ ?_).mono ?_
 · exact hT0.out.below hB
 rintro e w2 ⟨rfl,d2⟩;have c2:Below w1.heap.size w1 w2:=Below.trans (by go_grown) (d2.mono (by simp;try omega));replace z0:=aa c2 z0;replace qz0:=World.block_lt_of_cell? _ _ z0;replace z1:=aa c2 z1;replace z2:=aa c2 z2;replace hB:=ae hB c2;clear c2 d2;go_wp2;go_ret;exact⟨rfl,hB.alloc (by have:=hB.size;omega) _⟩
theorem sW (a b d X Y A B U V:Int)
 (BE:∀w,Calls Tryz.prog 172 #[.int .i64 1] w fun e w'=>e=.returned (.tuple #[.agg #[.int .i64 2,.int .i64 1],.bool true])/\Below w.heap.size w w')
 (MU:∀w,Calls Tryz.prog 132 #[.agg #[.int .i64 2,.int .i64 1],.agg #[.int .i64 a,.int .i64 b]] w fun x w'=>x=.returned (.tuple #[.agg #[.int .i64 A,.int .i64 B],.bool true])/\Below w.heap.size w w')
 (PA:∀w,Uni w->Calls Tryz.prog 173 #[.int .i64 d] w fun e w'=>e=.returned (.agg #[.int .i64 X,.int .i64 Y])/\Below w.heap.size w w')
 (AD:∀w,Calls Tryz.prog 143 #[.agg #[.int .i64 A,.int .i64 B],.agg #[.int .i64 X,.int .i64 Y]] w fun e w'=>e=.returned (.tuple #[.agg #[.int .i64 U,.int .i64 V],.bool true])/\Below w.heap.size w w')
 (w:World) (hU:Uni w) :
 Calls Tryz.prog 129 #[.agg #[.int .i64 a,.int .i64 b],.int .i64 d] w fun e w'=>e=.returned (.agg #[.int .i64 U,.int .i64 V])/\Below w.heap.size w w':=by
 replace BE:Hid _:=BE;replace MU:Hid _:=MU;replace PA:Hid _:=PA;replace AD:Hid _:=AD;have hU0:Hid (Uni w):=hU;clear hU
 go_enter Tryz.func129,Tryz.ntmps129
 go_wp2_with fail;refine(BE.out _).mono ?_;rintro e w1 ⟨rfl,d1⟩;have c1:Below w.heap.size w w1:=Below.trans (by go_grown) (d1.mono (by simp;try omega));have z0:w1.cell? ⟨w.heap.size,0,none⟩=some (.int .i64 a):=aa d1 (by go_simp);have qz0:=World.block_lt_of_cell? _ _ z0;have z1:w1.cell? ⟨w.heap.size,1,none⟩=some (.int .i64 b):=aa d1 (by go_simp);have r0:w1.cell? ⟨w.heap.size+1,0,none⟩=some (.int .i64 0):=aa d1 (by go_simp);have fr0:w1.frozen? ⟨w.heap.size+1,0,none⟩=false:=ac (v:=.int .i64 0) d1 (by go_simp) (by go_simp);have qr0:=World.block_lt_of_cell? _ _ r0;have r1:w1.cell? ⟨w.heap.size+1,1,none⟩=some (.int .i64 0):=aa d1 (by go_simp);have fr1:w1.frozen? ⟨w.heap.size+1,1,none⟩=false:=ac (v:=.int .i64 0) d1 (by go_simp) (by go_simp);have hB:=c1;clear c1 d1;go_wp2_with fail;refine(MU.out _).mono ?_;rintro e w2 ⟨rfl,d2⟩;have c2:Below w1.heap.size w1 w2:=Below.trans (by go_grown) (d2.mono (by simp;try omega));replace z0:=aa c2 z0;replace qz0:=World.block_lt_of_cell? _ _ z0;replace z1:=aa c2 z1;replace fr0:=ac c2 r0 fr0;replace r0:=aa c2 r0;replace qr0:=World.block_lt_of_cell? _ _ r0;replace fr1:=ac c2 r1 fr1;replace r1:=aa c2 r1;replace hB:=ae hB c2;clear c2 d2;have l1:w.heap.size+1<w2.heap.size:=qr0;have hx:Below w2.heap.size w2 (w2.alloc (.cells #[.int .i64 A,.int .i64 B] 37)).drew:=(ag _ _).drew;have a0:(w2.alloc (.cells #[.int .i64 A,.int .i64 B] 37)).drew.cell? ⟨w2.heap.size,0,none⟩=some (.int .i64 A):=by go_simp
 have a1:(w2.alloc (.cells #[.int .i64 A,.int .i64 B] 37)).drew.cell? ⟨w2.heap.size,1,none⟩=some (.int .i64 B):=by go_simp
 have f0:(w2.alloc (.cells #[.int .i64 A,.int .i64 B] 37)).drew.frozen? ⟨w2.heap.size,0,none⟩=false:=by go_simp
 have f1:(w2.alloc (.cells #[.int .i64 A,.int .i64 B] 37)).drew.frozen? ⟨w2.heap.size,1,none⟩=false:=by go_simp
 have hU2:Hid (Uni (w2.alloc (.cells #[.int .i64 A,.int .i64 B] 37)).drew):=hU0.out.below (ae hB hx);go_wp2_with fail
 go_cut []from 20 (fun wx=>wx.cell? ⟨w2.heap.size,0,none⟩=some (.int .i64 U)/\wx.cell? ⟨w2.heap.size,1,none⟩=some (.int .i64 V)/\Below w2.heap.size w2 wx)
 case first =>
  go_region_with (first | (go_at_call 173;refine(PA.out _ hU2.out).mono ?_;rintro e w3 ⟨rfl,hb⟩;have b0:=aa hb a0;have b1:=aa hb a1;have g0:=ac hb a0 f0;have g1:=ac hb a1 f1;have hy:=hx.trans (hb.mono hx.size)) | (go_at_call 143;refine(AD.out _).mono ?_;rintro e w4 ⟨rfl,hb2⟩;have d0:=aa hb2 b0;have d1:=aa hb2 b1;have h0:=ac hb2 b0 g0;have h1:=ac hb2 b1 g1;have hz:=hy.trans (hb2.mono hy.size)))
  all_goals
   go_wp2_with fail;go_meet;obtain⟨k0,k1⟩:=au (u:=.int .i64 U) (v:=.int .i64 V) d0 d1;exact⟨k0,k1,(hz.setCell (Nat.le_refl _) _).setCell (Nat.le_refl _) _⟩
 case rest =>
  obtain⟨t0,t1,hw⟩:=hcut;have t2:w.heap.size+1<wc.heap.size:=Nat.lt_of_lt_of_le l1 hw.size;replace fr0:=ac hw r0 fr0;replace fr1:=ac hw r1 fr1;replace r0:=aa hw r0;replace r1:=aa hw r1;replace hB:=ae hB hw;clear hw hx a0 a1 f0 f1 hU2 hU0;obtain⟨g0,g1⟩:=au (u:=.int .i64 U) (v:=.int .i64 V) r0 r1;go_wp2;exact bodyPost_ret (v:=.agg #[.int .i64 U,.int .i64 V]) (by simp[results,Tryz.results129,go_sem,g0,g1]) rfl ⟨rfl,(hB.setCell (by simp) _).setCell (by simp) _⟩
theorem vP (a b d:Int)(ha: -500000000<=a/\a<=500000000)(hb: -500000000<=b/\b<=500000000)(d0:0<=d)(d1:d<=6)(w:World)(hU:Uni w) :
 Calls Tryz.prog 129 #[.agg #[.int .i64 a,.int .i64 b],.int .i64 d] w fun e w'=>e=.returned (.agg #[.int .i64 (chA d a b),.int .i64 (chB d a b)])/\Below w.heap.size w w':=by
 have hp:=kD d;have eA:chA d a b=2*a-b+ptA d:=rfl;have eB:chB d a b=a+3*b+ptB d:=rfl;exact sW a b d (ptA d) (ptB d) (2*a-b) (a+3*b) _ _ (kg 1 (by omega))
  (fg _ _ _ _ _ _ (by omega) (by omega) (by omega) (by omega) (by omega) (by omega) (by omega) (by omega) (by omega) (by omega) (by omega) (by omega) (by omega) (by omega))
  (pd d d0 d1)
  (gI _ _ _ _ _ _ rfl rfl (by omega) (by omega) (by omega) (by omega) (by omega) (by omega) (by omega) (by omega)) w hU
def fj (r a b:Int)(o:Nat):Int:=if o%3=0 then r+1 else if o%3=1 then chA ((o / 3:Nat):Int) a b else chB ((o / 3:Nat):Int) a b
def gK (G:Nat->Int)(k o:Nat):Int:=if o<k*3 then G o else 0
def gp (B:Nat)(G:Nat->Int)(k:Nat)(w:World):Prop:=∀o<21,w.cell? ⟨B,o,none⟩=some (.int .i64 (gK G k o))/\w.frozen? ⟨B,o,none⟩=false
theorem Ch {a b:World}{B k:Nat}{G:Nat->Int}(hb:Below a.heap.size a b)(h:gp B G k a):gp B G k b:=fun o ho=>⟨aa hb (h o ho).1,ac hb (h o ho).1 (h o ho).2⟩
theorem Ci {w:World}{B k:Nat}{G:Nat->Int}(h:gp B G k w) :
 gp B G (k+1) (((w.setCell ⟨B,k*3,none⟩ (.int .i64 (G (k*3)))).setCell ⟨B,k*3+1,none⟩ (.int .i64 (G (k*3+1)))).setCell ⟨B,k*3+2,none⟩ (.int .i64 (G (k*3+2)))):=by
 intro o ho;have h0:=h o ho;constructor
 · by_cases e2:o=k*3+2
   · subst e2;have:gK G (k+1) (k*3+2)=G (k*3+2):=if_pos (by omega);rw[this];exact World.cell?_setCell_same _ _ _ (ah (ah h0.1 (by simp)) (by simp))
   · rw[World.cell?_setCell_other _ _ _ _ (by simp;try omega)];by_cases e1:o=k*3+1
     · subst e1;have:gK G (k+1) (k*3+1)=G (k*3+1):=if_pos (by omega);rw[this];exact World.cell?_setCell_same _ _ _ (ah h0.1 (by simp))
     · rw[World.cell?_setCell_other _ _ _ _ (by simp;try omega)];by_cases e0:o=k*3
       · subst e0;have:gK G (k+1) (k*3)=G (k*3):=if_pos (by omega);rw[this];exact World.cell?_setCell_same _ _ _ h0.1
       · rw[World.cell?_setCell_other _ _ _ _ (by simp;try omega),h0.1];congr 2;unfold gK;by_cases hl:o<k*3
         · rw[if_pos hl,if_pos (by omega)]
         · rw[if_neg hl,if_neg (by omega)]
 · simp[h0.2]
def qx (w:World)(G:Nat->Int)(E:Int)(e:Ending)(w':World):Prop:=∃Bk,w.heap.size<=Bk/\e=.returned (.tuple #[.slice (some ⟨Bk,0,none⟩) 7 7,.int .i64 E])/\gp Bk G 7 w'
theorem vS (r a b:Int)(G:Nat->Int)(r1:0<=r)(r2:r<12)(hr:(r == 12)=false)(h:Ok4 r a b)
 (hG:∀k:Nat,k<7->G (k*3)=r+1)
 (CH:∀k:Nat,k<7->∀w,Uni w->Calls Tryz.prog 129 #[.agg #[.int .i64 a,.int .i64 b],.int .i64 (k:Int)] w fun e w'=>e=.returned (.agg #[.int .i64 (G (k*3+1)),.int .i64 (G (k*3+2))])/\Below w.heap.size w w') (w:World) (hT:Tabs w) :
 Calls Tryz.prog 83 #[.agg #[.int .i64 r,.int .i64 a,.int .i64 b]] w fun e w'=>qx w G 0 e w'/\Below w.heap.size w w':=by
 have OK:Hid (∀w,Tabs w->Calls Tryz.prog 128 #[.agg #[.int .i64 r,.int .i64 a,.int .i64 b]] w fun e w'=>e=.returned (.bool true)/\Below w.heap.size w w'):=fun w hT=>jd r a b h w hT;have hmk:∀w,(Instr.makeSlice 116 (.int .i64 7) (.int .i64 7)).run Tryz.prog w=.ok (.slice (some ⟨w.heap.size,0,none⟩) 7 7) (w.alloc (.cells #[.int .i64 0,.int .i64 0,.int .i64 0,.int .i64 0,.int .i64 0,.int .i64 0,.int .i64 0,.int .i64 0,.int .i64 0,.int .i64 0,.int .i64 0,.int .i64 0,.int .i64 0,.int .i64 0,.int .i64 0,.int .i64 0,.int .i64 0,.int .i64 0,.int .i64 0,.int .i64 0,.int .i64 0] 39)):=fun _=>by kernel_rfl
 replace CH:Hid _:=CH;replace hG:Hid _:=hG;have hT0:Hid (Tabs w):=hT;clear hT h
 go_enter Tryz.func83,Tryz.ntmps83
 go_wp2_with fail;refine(OK.out _ ?_).mono ?_
 · exact hT0.out.below (by go_grown)
 rintro e w1 ⟨rfl,d1⟩;have c1:Below w.heap.size w w1:=Below.trans (by go_grown) (d1.mono (by simp;try omega));have z0:w1.cell? ⟨w.heap.size,0,none⟩=some (.int .i64 r):=aa d1 (by go_simp);have qz0:=World.block_lt_of_cell? _ _ z0;have z1:w1.cell? ⟨w.heap.size,1,none⟩=some (.int .i64 a):=aa d1 (by go_simp);have z2:w1.cell? ⟨w.heap.size,2,none⟩=some (.int .i64 b):=aa d1 (by go_simp);have hB:=c1;clear c1 d1;go_wp2_with fail;have hx:=ag w1 (.cells #[.int .i64 0,.int .i64 0,.int .i64 0,.int .i64 0,.int .i64 0,.int .i64 0,.int .i64 0,.int .i64 0,.int .i64 0,.int .i64 0,.int .i64 0,.int .i64 0,.int .i64 0,.int .i64 0,.int .i64 0,.int .i64 0,.int .i64 0,.int .i64 0,.int .i64 0,.int .i64 0,.int .i64 0] 39);have lz:w.heap.size<w1.heap.size:=qz0;go_loopw [15] (fun v15 wr=>∃k:Nat,k<=7/\v15=.int .i64 (k:Int)/\Hid (gp w1.heap.size G k wr)/\Below w1.heap.size w1 wr) (fun v15 _=>7-(intOf v15).toNat)
 case atStart =>
  refine⟨0,by omega,rfl,?_,hx⟩;show gp _ _ _ _
  intro o ho;have ho':o=0∨o=1∨o=2∨o=3∨o=4∨o=5∨o=6∨o=7∨o=8∨o=9∨o=10∨o=11∨o=12∨o=13∨o=14∨o=15∨o=16∨o=17∨o=18∨o=19∨o=20:=by omega
  rcases ho' with rfl | rfl | rfl | rfl | rfl | rfl | rfl | rfl | rfl | rfl | rfl | rfl | rfl | rfl | rfl | rfl | rfl | rfl | rfl | rfl | rfl <;>exact⟨by go_simp;rfl,by go_simp⟩
 case round =>
  clear hx hmk;obtain⟨k,hk,rfl,HR,hX⟩:=hrel;by_cases hlt:k<7
  · have CK:=CH.out k hlt;have hr0:=hG.out k hlt;replace CK:Hid _:=CK;have y0:=aa hX z0;have y1:=aa hX z1;have y2:=aa hX z2;have hR:=HR.out;obtain⟨s0,fs0⟩:=hR (k*3) (by omega);obtain⟨s1,fs1⟩:=hR (k*3+1) (by omega);obtain⟨s2,fs2⟩:=hR (k*3+2) (by omega);have lr:w1.heap.size<wr.heap.size:=World.block_lt_of_cell? _ _ s0;have hUr:Hid (Uni wr.drew):=((hT0.out.below (ae hB hX)).below (aK wr)).2;have hst:Hid (∀w',Below wr.heap.size wr w'->gp w1.heap.size G (k+1) (((w'.setCell ⟨w1.heap.size,k*3,none⟩ (.int .i64 (r+1))).setCell ⟨w1.heap.size,k*3+1,none⟩ (.int .i64 (G (k*3+1)))).setCell ⟨w1.heap.size,k*3+2,none⟩ (.int .i64 (G (k*3+2))))):=fun w' hb=>by rw[←hr0];exact Ci (Ch hb hR)
    have hd:=aK wr;replace fs0:=ac hd s0 fs0;replace fs1:=ac hd s1 fs1;replace fs2:=ac hd s2 fs2;replace s0:=aa hd s0;replace s1:=aa hd s1;replace s2:=aa hd s2;replace y0:=aa hd y0;replace y1:=aa hd y1;replace y2:=aa hd y2;clear CH hG HR hR hT0 OK z0 z1 z2 hr0;generalize gK G k (k*3)=U0 at s0;generalize gK G k (k*3+1)=U1 at s1;generalize gK G k (k*3+2)=U2 at s2;generalize G (k*3+1)=CA at CK hst;generalize G (k*3+2)=CB at CK hst;go_wp2_with fail
    go_region_with (go_at_call 129;refine(CK.out _ hUr.out).mono ?_;rintro e w' ⟨rfl,hb⟩;have hbw:=hd.trans (hb.mono hd.size);replace fs0:=ac hb s0 fs0;replace fs1:=ac hb s1 fs1;replace fs2:=ac hb s2 fs2;replace s0:=aa hb s0;replace s1:=aa hb s1;replace s2:=aa hb s2;replace y0:=aa hb y0;replace y1:=aa hb y1;replace y2:=aa hb y2)
    all_goals
     go_wp2;go_roundw
     case rel=>exact⟨k+1,by omega,by go_num,hst.out _ hbw,(((ae hX hbw).setCell (by simp) _).setCell (by simp) _).setCell (by simp) _⟩
     case measure=>simp[intOf];omega
  · obtain rfl:k=7:=by omega
    clear CH hG;go_wp2
    go_ret2
    exact⟨⟨_,by omega,rfl,HR.out⟩,ae hB hX⟩
theorem km (r a b:Int)(k:Nat):fj r a b (k*3)=r+1:=by
 unfold fj;rw[if_pos (by omega)]
theorem kn (r a b:Int)(k:Nat):fj r a b (k*3+1)=chA (k:Int) a b:=by
 unfold fj;rw[if_neg (by omega),if_pos (by omega),show(k*3+1) / 3=k by omega]
theorem ko (r a b:Int)(k:Nat):fj r a b (k*3+2)=chB (k:Int) a b:=by
 unfold fj;rw[if_neg (by omega),if_neg (by omega),show(k*3+2) / 3=k by omega]
theorem kl (G:Nat->Int)(o:Nat)(ho:o<21):gK G 7 o=G o:=if_pos ho
theorem yG (r a b:Int)(h:Ok4 r a b)(hr:r<12)(w:World)(hT:Tabs w) :
 Calls Tryz.prog 83 #[.agg #[.int .i64 r,.int .i64 a,.int .i64 b]] w fun e w'=>qx w (fj r a b) 0 e w'/\Below w.heap.size w w':=by
 have hp:=ce h;refine vS r a b (fj r a b) h.1 hr (by simp;omega) h (fun k _=>km r a b k) (fun k hk w hU=>?_) w hT;rw[kn,ko];exact vP a b k (by omega) (by omega) (by omega) (by omega) w hU
end Go.Proofs.YtbnlhdnnenahfaaGreatDoor
