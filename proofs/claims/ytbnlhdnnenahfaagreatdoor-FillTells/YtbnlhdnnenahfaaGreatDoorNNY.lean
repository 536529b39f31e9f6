/-
  What the texts CUpNo, NWalk, NRing, SortNil, NRD say, so far as this seat's proofs need it.
-/
import Derived.Test.YtbnlhdnnenahfaaGreatDoorSPY
import Derived.Test.YtbnlhdnnenahfaaGreatDoorCV1Y
import Derived.Test.YtbnlhdnnenahfaaGreatDoorI2Y
set_option maxHeartbeats 4000000
set_option maxRecDepth 20000
namespace Go.Proofs.YtbnlhdnnenahfaaGreatDoor
open Go.RowKit
theorem Bh (r a b t:Int)(h:¬Ok4 r a b)(w:World)(hT:Tabs w) :
 Calls Tryz.prog 148 #[.agg #[.int .i64 r,.int .i64 a,.int .i64 b],.int .i64 t] w fun e w'=>e=.returned (.tuple #[.agg #[.int .i64 (0),.int .i64 (0),.int .i64 (0)],.int .i64 2])/\Below w.heap.size w w':=by
 have OK:Hid (∀w,Tabs w->Calls Tryz.prog 128 #[.agg #[.int .i64 r,.int .i64 a,.int .i64 b]] w fun e w'=>e=.returned (.bool false)/\Below w.heap.size w w'):=fun w hT=>yH r a b h w hT;have hT0:Hid (Tabs w):=hT;clear hT h
 go_enter Tryz.func148,Tryz.ntmps148
 go_wp2_with fail;refine(OK.out _ ?_).mono ?_
 · exact hT0.out.below (by go_grown)
 rintro e w1 ⟨rfl,d1⟩;have c1:Below w.heap.size w w1:=Below.trans (by go_grown) (d1.mono (by simp;try omega));have z0:w1.cell? ⟨w.heap.size,0,none⟩=some (.int .i64 r):=aa d1 (by go_simp);have qz0:=World.block_lt_of_cell? _ _ z0;have z1:w1.cell? ⟨w.heap.size,1,none⟩=some (.int .i64 a):=aa d1 (by go_simp);have z2:w1.cell? ⟨w.heap.size,2,none⟩=some (.int .i64 b):=aa d1 (by go_simp);have r0:w1.cell? ⟨w.heap.size+1,0,none⟩=some (.int .i64 0):=aa d1 (by go_simp);have fr0:w1.frozen? ⟨w.heap.size+1,0,none⟩=false:=ac (v:=.int .i64 0) d1 (by go_simp) (by go_simp);have qr0:=World.block_lt_of_cell? _ _ r0;have r1:w1.cell? ⟨w.heap.size+1,1,none⟩=some (.int .i64 0):=aa d1 (by go_simp);have fr1:w1.frozen? ⟨w.heap.size+1,1,none⟩=false:=ac (v:=.int .i64 0) d1 (by go_simp) (by go_simp);have r2:w1.cell? ⟨w.heap.size+1,2,none⟩=some (.int .i64 0):=aa d1 (by go_simp);have fr2:w1.frozen? ⟨w.heap.size+1,2,none⟩=false:=ac (v:=.int .i64 0) d1 (by go_simp) (by go_simp);have hB:=c1;clear c1 d1;obtain⟨g0,g1,g2⟩:=aJ (u0:=.int .i64 (0)) (u1:=.int .i64 (0)) (u2:=.int .i64 (0)) r0 r1 r2;go_wp2;exact bodyPost_ret (v:=.tuple #[.agg #[.int .i64 (0),.int .i64 (0),.int .i64 (0)],.int .i64 2]) (by simp[results,Tryz.results148,go_sem,g0,g1,g2]) rfl ⟨rfl,((hB.setCell (by simp) _).setCell (by simp) _).setCell (by simp) _⟩
theorem Ce (r a b:Int)(h:¬Ok4 r a b)(w:World)(hT:Tabs w) :
 Calls Tryz.prog 62 #[.agg #[.int .i64 r,.int .i64 a,.int .i64 b]] w fun e w'=>e=.returned (.tuple #[.int .u64 0,.int .i64 2])/\Below w.heap.size w w':=by
 have UP:Hid (∀w,Tabs w->Calls Tryz.prog 99 #[.agg #[.int .i64 r,.int .i64 a,.int .i64 b]] w fun e w'=>e=.returned (.tuple #[.agg #[.int .i64 0,.int .i64 0,.int .i64 0],.int .i64 2])/\Below w.heap.size w w'):=mV r a b 0 0 0 2 (Bh r a b 0 h);have hT0:Hid (Tabs w):=hT;clear hT h
 go_enter Tryz.func62,Tryz.ntmps62
 go_wp2_with fail;refine(UP.out _ ?_).mono ?_
 · exact hT0.out.below (by go_grown)
 rintro e w1 ⟨rfl,d1⟩;have c1:Below w.heap.size w w1:=Below.trans (by go_grown) (d1.mono (by simp;try omega));have hB:=c1;clear c1 d1;go_wp2
 go_ret2
 exact⟨rfl,by first | exact hB | exact ae hB (by go_grown)⟩
def Trip (B:Nat)(r x y:Int)(v:Value)(w:World):Prop:=w.cell? ⟨B,0,none⟩=some (.int .i64 r)/\w.cell? ⟨B,1,none⟩=some (.int .i64 x)/\w.cell? ⟨B,2,none⟩=some (.int .i64 y)/\w.cell? ⟨B,3,none⟩=some v /\
 w.frozen? ⟨B,0,none⟩=false/\w.frozen? ⟨B,1,none⟩=false/\w.frozen? ⟨B,2,none⟩=false/\w.frozen? ⟨B,3,none⟩=false
theorem Trip.keep {B:Nat}{r x y:Int}{v:Value}{w w':World}(h:Trip B r x y v w)(hb:Below w.heap.size w w'):Trip B r x y v w' :=
 ⟨aa hb h.1,aa hb h.2.1,aa hb h.2.2.1,aa hb h.2.2.2.1,ac hb h.1 h.2.2.2.2.1,ac hb h.2.1 h.2.2.2.2.2.1,ac hb h.2.2.1 h.2.2.2.2.2.2.1,ac hb h.2.2.2.1 h.2.2.2.2.2.2.2⟩
theorem Trip.lt {B:Nat}{r x y:Int}{v:Value}{w:World}(h:Trip B r x y v w):B<w.heap.size:=World.block_lt_of_cell? _ _ h.1
def At6 (B:Nat)(r x y:Int)(L:List Int)(w:World):Prop:=∃v,Trip B r x y v w/\w.ownsRow (B+1) 35 1 v L.length (aj L)
theorem At6.keep {B:Nat}{r x y:Int}{L:List Int}{w w':World}(h:At6 B r x y L w)(hb:Below w.heap.size w w'):At6 B r x y L w':=by
 obtain⟨v,h1,h2⟩:=h;exact⟨v,h1.keep hb,ai hb h2⟩
theorem At6.drawn {B:Nat}{r x y:Int}{L:List Int}{w:World}(h:At6 B r x y L w)(n:Nat):At6 B r x y L (w.drewN n):=h.keep ⟨rfl,rfl,rfl,Nat.le_refl _,fun _ _=>rfl⟩
theorem GJ {B:Nat}{r x y x' y':Int}{v:Value}{w:World}(h:Trip B r x y v w):Trip B r x' y' v ((w.setCell ⟨B,1,none⟩ (.int .i64 x')).setCell ⟨B,2,none⟩ (.int .i64 y')):=by
 obtain⟨c0,c1,c2,c3,f0,f1,f2,f3⟩:=h;exact⟨ah (ah c0 (by simp)) (by simp),ah (ay c1) (by simp),ay (ah c2 (by simp)),ah (ah c3 (by simp)) (by simp),by simp[f0],by simp[f1],by simp[f2],by simp[f3]⟩
theorem Trip.low {B:Nat}{r x y:Int}{v:Value}{w w':World}(h:Trip B r x y v w)(hb:Below (B+1) w w'):Trip B r x y v w':=by
 obtain⟨c0,c1,c2,c3,f0,f1,f2,f3⟩:=h;have k:∀(o:Nat) (u:Value),w.cell? ⟨B,o,none⟩=some u->w'.cell? ⟨B,o,none⟩=some u:=fun o u h=>(hb.cell (p:=⟨B,o,none⟩) (Nat.lt_succ_self B)).trans h;have f:∀(o:Nat),w.frozen? ⟨B,o,none⟩=false->w'.frozen? ⟨B,o,none⟩=false:=fun o h=>(hb.frozen (p:=⟨B,o,none⟩) (Nat.lt_succ_self B)).trans h;exact⟨k 0 _ c0,k 1 _ c1,k 2 _ c2,k 3 _ c3,f 0 f0,f 1 f1,f 2 f2,f 3 f3⟩
theorem DU {B:Nat}{r x y:Int}{v v':Value}{w:World}(h:Trip B r x y v w):Trip B r x y v' (w.setCell ⟨B,3,none⟩ v'):=by
 obtain⟨c0,c1,c2,c3,f0,f1,f2,f3⟩:=h;exact⟨ah c0 (by simp),ah c1 (by simp),ah c2 (by simp),ay c3,by simp[f0],by simp[f1],by simp[f2],by simp[f3]⟩
theorem Ha {B:Nat}{r x y x' y':Int}{L:List Int}{w:World}(h:At6 B r x y L w):At6 B r x' y' L ((w.setCell ⟨B,1,none⟩ (.int .i64 x')).setCell ⟨B,2,none⟩ (.int .i64 y')):=by
 obtain⟨v,h1,h2⟩:=h;exact⟨v,GJ h1,ownsRow_setCell_below (ownsRow_setCell_below h2 (by simp) _) (by simp) _⟩
def Far (x:Int):Prop:= -4000000000000<=x/\x<=4000000000000
theorem Ee (B i:Nat)(r x y:Int)(L:List Int)(hi:i<6)(hx:Far x)(hy:Far y)(w:World)(h:At6 B r x y L w)(hU:Uni w) :
 Calls Tryz.prog 156 #[.pointer (some ⟨B,0,none⟩),.int .i64 i] w fun e w'=>e=.returned (.tuple #[])/\At6 B r (x+uA i) (y+uB i) L w'/\Below B w w':=by
 have hu:cW ((i:Int)%6)=uA i/\cY ((i:Int)%6)=uB i:=by rcases bO hi with rfl | rfl | rfl | rfl | rfl | rfl <;>decide
 have hub:(-1<=uA i/\uA i<=1)/\(-1<=uB i/\uB i<=1):=by rcases bO hi with rfl | rfl | rfl | rfl | rfl | rfl <;>decide
 have UN:Hid (∀w,Uni w->Calls Tryz.prog 93 #[.int .i64 i] w fun e w'=>e=.returned (.agg #[.int .i64 (uA i),.int .i64 (uB i)])/\Below w.heap.size w w'):=fun w hU=>by
  have:=kh (i:Int) (by omega) (by omega) w hU
  rwa [hu.1,hu.2]at this
 obtain⟨hx1,hx2⟩:=hx;obtain⟨hy1,hy2⟩:=hy;obtain⟨⟨p1,p2⟩,q1,q2⟩:=hub;generalize uA i=P at *;generalize uB i=Q at *;have AD:Hid (∀w,Calls Tryz.prog 143 #[.agg #[.int .i64 x,.int .i64 y],.agg #[.int .i64 P,.int .i64 Q]] w fun e w'=>e=.returned (.tuple #[.agg #[.int .i64 (x+P),.int .i64 (y+Q)],.bool true])/\Below w.heap.size w w') :=
  gI x y P Q _ _ rfl rfl (by omega) (by omega) (by omega) (by omega) (by omega) (by omega) (by omega) (by omega)
 have hU0:Hid (Uni w.drew):=hU.below (Below.refl _ w).drew;have hA0:Hid (At6 B r x y L w):=h;obtain⟨v,⟨c0,c1,c2,c3,f0,f1,f2,f3⟩,hO⟩:=h;have hlt:=World.block_lt_of_cell? _ _ c0;clear hU hu hO c0 c3 f0 f3
 go_enter Tryz.func156,Tryz.ntmps156
 go_wp2_with fail
 go_region_with (first | (go_at_call 93;refine(UN.out _ hU0.out).mono ?_;rintro e w1 ⟨rfl,hb1⟩;have d1:=aa hb1 (show w.drew.cell? _=_ from c1);have d2:=aa hb1 (show w.drew.cell? _=_ from c2);have g1:=ac hb1 (show w.drew.cell? _=_ from c1) f1;have g2:=ac hb1 (show w.drew.cell? _=_ from c2) f2) | (go_at_call 143;refine(AD.out _).mono ?_;rintro e w2 ⟨rfl,hb2⟩;have e1:=aa hb2 d1;have e2:=aa hb2 d2;have h1:=ac hb2 d1 g1;have h2:=ac hb2 d2 g2))
 all_goals
  have A2:At6 B r x y L w2:=((hA0.out.drawn 1).keep hb1).keep hb2;have hB2:Below B w w2:=((Below.refl B w).drew.trans (hb1.mono (by simp;omega))).trans (hb2.mono (by have:=hb1.size;simp at this;omega));have HR:=ab (Ha (x':=x+P) (y':=y+Q) A2);have HB:=ab ((hB2.setCell (p:=⟨B,1,none⟩) (Nat.le_refl B) (.int .i64 (x+P))).setCell (p:=⟨B,2,none⟩) (Nat.le_refl B) (.int .i64 (y+Q)));clear A2 hB2 d1 d2 g1 g2 e1 e2 h1 h2 hb1 hb2 hA0
  go_end0
  exact⟨rfl,HR.out,HB.out⟩
theorem Ef (B r:Nat)(x y:Int)(L:List Int)(hL:L.length<=40000)(w:World)(h:At6 B (r:Int) x y L w)(hT:Tabs w) :
 Calls Tryz.prog 198 #[.pointer (some ⟨B,0,none⟩)] w fun e w'=>e=.returned (.tuple #[])/\At6 B (r:Int) x y (L++cZ r x y) w'/\Below B w w':=by
 have hT0:Hid (Tabs w):=hT;have hA0:Hid (At6 B (r:Int) x y L w):=h;obtain⟨v,⟨c0,c1,c2,c3,f0,f1,f2,f3⟩,hO⟩:=h;have hlt:=World.block_lt_of_cell? _ _ c0;replace hO:Hid _:=hO;clear hT;by_cases hok:Ok4 (r:Int) x y
 · have OF:Hid (∀w,Tabs w->Calls Tryz.prog 62 #[.agg #[.int .i64 (r:Int),.int .i64 x,.int .i64 y]] w fun e w'=>e=.returned (.tuple #[.int .u64 (av r x y),.int .i64 0])/\Below w.heap.size w w'):=uO r x y hok;rw[jW hok];have hv:aj (L++[av r x y])=aj L++[.int .u64 (av r x y)]:=by simp[aj]
   have hvl:(L++[av r x y]).length=L.length+1:=by simp
   obtain⟨i0,hi,hz0,hz1,hz2⟩:=info_parts ca;unfold At6;rw[hv,hvl];clear hv hvl hok;generalize av r x y=z at *
   go_enter Tryz.func198,Tryz.ntmps198
   go_wp2_with fail;refine(OF.out _ hT0.out).mono ?_;rintro e w1 ⟨rfl,hb1⟩;have d3:=aa hb1 c3;have g3:=ac hb1 c3 f3;have hO1:Hid (w1.ownsRow (B+1) 35 1 v L.length (aj L)):=ai hb1 hO.out;have T1:Hid (Trip B (r:Int) x y v w1):=Trip.keep ⟨c0,c1,c2,c3,f0,f1,f2,f3⟩ hb1;have hB1:Below B w w1:=hb1.mono (by omega);have hlt1:B<w1.heap.size:=Nat.lt_of_lt_of_le hlt hb1.size;clear c0 c1 c2 c3 f0 f1 f2 f3 hO hA0;go_wp2_with (at_builtin;refine wpList_append_own _ rfl (.tmp 18) (.tmp 20) 22 rfl (B+1) 35 i0 (.int .u64 0) 1 8 Tryz.underlying22 hi hz0 hz1 hz2 rfl (by decide) _ _ _ rfl (ai (ag _ _) hO1.out) ⟨w1.heap.size,0,none⟩ 1 1 [.int .u64 z] rfl rfl (bf _ _ rfl _ _) (bK _ _) (by unfold maxLen;omega) (by omega) (by simp;omega) ?_)
   intro v' w5 hown hgrow _;obtain⟨g',c',rfl⟩:=cA hown (by omega);have hBa:Below (B+1) w1 w5:=((Below.refl (B+1) w1).alloc (by omega) (.cells #[.int .u64 z] 35)).grown hgrow (by simp;omega) (aM hO1.out);have T5:=T1.out.low hBa;have e3:=T5.2.2.2.1;have h3:=T5.2.2.2.2.2.2.2;have HR:=ab (And.intro (DU (v':=.slice (some ⟨g',0,none⟩) (L.length+1) c') T5) (ownsRow_setCell_below hown (a:=⟨B,3,none⟩) (by simp) (.slice (some ⟨g',0,none⟩) (L.length+1) c')));have HB:=ab ((hB1.trans (hBa.mono (by omega))).setCell (p:=⟨B,3,none⟩) (Nat.le_refl B) (.slice (some ⟨g',0,none⟩) (L.length+1) c'));clear hBa T5 hown hgrow hO1 T1 d3 g3 hb1 hB1;go_wp2
   go_end0
   exact⟨rfl,⟨_,HR.out.1,HR.out.2⟩,HB.out⟩
 · have OF:Hid (∀w,Tabs w->Calls Tryz.prog 62 #[.agg #[.int .i64 (r:Int),.int .i64 x,.int .i64 y]] w fun e w'=>e=.returned (.tuple #[.int .u64 0,.int .i64 2])/\Below w.heap.size w w'):=Ce r x y hok;rw[kS hok,List.append_nil]
   go_enter Tryz.func198,Tryz.ntmps198
   go_wp2_with fail;refine(OF.out _ hT0.out).mono ?_;rintro e w1 ⟨rfl,hb1⟩;have HR:=ab (hA0.out.keep hb1);have hB1:Below B w w1:=hb1.mono (by omega);go_wp2
   go_end0
   exact⟨rfl,HR.out,hB1⟩
theorem Ft (B r i:Nat)(x y:Int)(L:List Int)(hi:i<6)(hx:Far x)(hy:Far y)(hL:L.length<=40000)(w:World)(h:At6 B (r:Int) x y L w)(hT:Tabs w)(g0:1<B)(g1:0<B) :
 Calls Tryz.prog 199 #[.pointer (some ⟨B,0,none⟩),.int .i64 i] w fun e w'=>e=.returned (.tuple #[])/\At6 B (r:Int) (x+uA i) (y+uB i) (L++cZ r (x+uA i) (y+uB i)) w'/\Below B w w':=by
 have S1:=ab (Ee B i (r:Int) x y L hi hx hy w h hT.2);have S2:=ab (fun(w:World)=>Ef B r (x+uA i) (y+uB i) L hL w);have hT0:Hid (Tabs w):=hT;clear hT h
 go_enter Tryz.func199,Tryz.ntmps199
 go_wp2_with fail;refine S1.out.mono ?_;rintro e w1 ⟨rfl,a1,b1⟩;have hT1:Hid (Tabs w1):=hT0.out.low g0 g1 b1;replace a1:=ab a1;go_wp2_with fail;refine(S2.out w1 a1.out hT1.out).mono ?_;rintro e w2 ⟨rfl,a2,b2⟩;replace a2:=ab a2;clear S1 S2 a1;go_wp2_with fail
 go_end0
 exact⟨rfl,a2.out,b1.trans b2⟩
theorem Ie (B i n:Nat)(r x y:Int)(L:List Int)(hi:i<6)(hn:n<=1000000)(hx: -1000000000<=x/\x<=1000000000)(hy: -1000000000<=y/\y<=1000000000)(w:World)(h:At6 B r x y L w)(hT:Tabs w)(g0:1<B)(g1:0<B) :
 Calls Tryz.prog 155 #[.int .i64 (n:Int),.int .i64 (i:Int),.func (.func 156) #[.pointer (some ⟨B,0,none⟩)] #[]] w fun e w'=>e=.returned (.tuple #[])/\At6 B r (x+n*uA i) (y+n*uB i) L w'/\Below B w w':=by
 have hub:(-1<=uA i/\uA i<=1)/\(-1<=uB i/\uB i<=1):=by rcases bO hi with rfl | rfl | rfl | rfl | rfl | rfl <;>decide
 have ST:Hid (∀k:Nat,k<n->∀wr,At6 B r (x+k*uA i) (y+k*uB i) L wr->Tabs wr->Calls Tryz.prog 156 #[.pointer (some ⟨B,0,none⟩),.int .i64 i] wr fun e w'=>e=.returned (.tuple #[])/\At6 B r (x+((k+1:Nat):Int)*uA i) (y+((k+1:Nat):Int)*uB i) L w'/\Below B wr w'):=by
  refine ab fun k hk wr h hT=>?_;have m1:=aV (a:=(k:Int)) (b:=uA i) (A:=1000000) (B:=1) (by omega) (by omega);have m2:=aV (a:=(k:Int)) (b:=uB i) (A:=1000000) (B:=1) (by omega) (by omega);have:=Ee B i r (x+k*uA i) (y+k*uB i) L hi ⟨by omega,by omega⟩ ⟨by omega,by omega⟩ wr h hT.2;rw[show x+k*uA i+uA i=x+((k+1:Nat):Int)*uA i by rw[show((k+1:Nat):Int)=(k:Int)+1 by omega,Int.add_mul];omega,show y+k*uB i+uB i=y+((k+1:Nat):Int)*uB i by rw[show((k+1:Nat):Int)=(k:Int)+1 by omega,Int.add_mul];omega]at this;exact this
 have hT0:Hid (Tabs w):=hT;have h0:Hid (At6 B r x y L w):=h;clear hT h hub hx hy
 go_enter Tryz.func155,Tryz.ntmps155
 go_wp2_with fail;go_loopw [7] (fun v7 wr=>∃k:Nat,k<=n/\v7=.int .i64 (k:Int)/\Hid (At6 B r (x+k*uA i) (y+k*uB i) L wr)/\Below B w wr) (fun v7 _=>n-(intOf v7).toNat)
 case atStart=>exact⟨0,by omega,rfl,ab (by simpa using h0.out),Below.refl _ _⟩
 case round =>
  clear h0;obtain⟨k,hk,rfl,hA,hB⟩:=hrel;by_cases hlt:k<n
  · go_wp2_with fail;refine(ST.out k hlt wr hA.out (hT0.out.low g0 g1 hB)).mono ?_;rintro e w1 ⟨rfl,a1,b1⟩;have HR:=ab a1;have hB1:=hB.trans b1;clear a1 hA;go_wp2_with fail;go_roundw
    case rel=>exact⟨k+1,by omega,by go_num,HR.out,hB1⟩
    case measure=>simp[intOf];omega
  · obtain rfl:k=n:=by omega
    clear ST;go_wp2_with fail
    go_end0
    exact⟨rfl,hA.out,hB⟩
theorem It {k i:Nat}{j:Int}(hi:i<6)(h0:0<=j)(hj:j<=k)(hk:k<=20000):(-20000<=sdA k i j/\sdA k i j<=20000)/\(-20000<=sdB k i j/\sdB k i j<=20000):=by
 have h:=dF (sdA k i j) (sdB k i j);rw[Ah hi h0 hj]at h;omega
theorem Jp (B r k i:Nat)(a b:Int)(L:List Int)(hi:i<6)(hk:k<=3333)(ha: -500000000<=a/\a<=500000000)(hb: -500000000<=b/\b<=500000000)(hL:L.length<=36000)(w:World)(h:At6 B (r:Int) (a+sdA k i 0) (b+sdB k i 0) L w)(hT:Tabs w)(g0:1<B)(g1:0<B) :
 Calls Tryz.prog 155 #[.int .i64 (k:Int),.int .i64 (i:Int),.func (.func 199) #[.pointer (some ⟨B,0,none⟩)] #[]] w fun e w'=>e=.returned (.tuple #[])/\At6 B (r:Int) (a+sdA k i k) (b+sdB k i k) (L++ar r a b (sdP k i k)) w'/\Below B w w':=by
 have ST:Hid (∀j:Nat,j<k->∀wr,At6 B (r:Int) (a+sdA k i j) (b+sdB k i j) (L++ar r a b (sdP k i j)) wr->Tabs wr->Calls Tryz.prog 199 #[.pointer (some ⟨B,0,none⟩),.int .i64 i] wr fun e w' =>
  e=.returned (.tuple #[])/\At6 B (r:Int) (a+sdA k i ((j+1:Nat):Int)) (b+sdB k i ((j+1:Nat):Int)) (L++ar r a b (sdP k i (j+1))) w'/\Below B wr w'):=by
  refine ab fun j hj wr h hT=>?_;have m1:=It (k:=k) (i:=i) (j:=(j:Int)) hi (by omega) (by omega) (by omega);have hl:=dm r a b (sdP k i j);rw[vt]at hl;have hs:=Gu (k:Int) hi (j:Int);have:=Ft B r i (a+sdA k i j) (b+sdB k i j) _ hi ⟨by omega,by omega⟩ ⟨by omega,by omega⟩ (by rw[List.length_append];omega) wr h hT g0 g1;rw[show a+sdA k i j+uA i=a+sdA k i ((j+1:Nat):Int)by rw[show((j+1:Nat):Int)=(j:Int)+1 by omega,hs.1];omega,show b+sdB k i j+uB i=b+sdB k i ((j+1:Nat):Int)by rw[show((j+1:Nat):Int)=(j:Int)+1 by omega,hs.2];omega,
   List.append_assoc]at this
  rw[Dm,ge,i9,←show((j+1:Nat):Int)=(j:Int)+1 by omega];exact this
 have hT0:Hid (Tabs w):=hT;have h0:Hid (At6 B (r:Int) (a+sdA k i ((0:Nat):Int)) (b+sdB k i ((0:Nat):Int)) (L++ar r a b (sdP k i 0)) w):=ab (by rw[show sdP k i 0=[]from rfl,ma,List.append_nil];exact h);clear hT h ha hb
 go_enter Tryz.func155,Tryz.ntmps155
 go_wp2_with fail;go_loopw [7] (fun v7 wr=>∃j:Nat,j<=k/\v7=.int .i64 (j:Int)/\Hid (At6 B (r:Int) (a+sdA k i (j:Int)) (b+sdB k i (j:Int)) (L++ar r a b (sdP k i j)) wr)/\Below B w wr) (fun v7 _=>k-(intOf v7).toNat)
 case atStart=>exact⟨0,by omega,rfl,h0,Below.refl _ _⟩
 case round =>
  clear h0;obtain⟨j,hj,rfl,hA,hB⟩:=hrel;by_cases hlt:j<k
  · go_wp2_with fail;refine(ST.out j hlt wr hA.out (hT0.out.low g0 g1 hB)).mono ?_;rintro e w1 ⟨rfl,a1,b1⟩;have HR:=ab a1;have hB1:=hB.trans b1;clear a1 hA;go_wp2_with fail;go_roundw
    case rel=>exact⟨j+1,by omega,by go_num,HR,hB1⟩
    case measure=>simp[intOf];omega
  · obtain rfl:j=k:=by omega
    clear ST;go_wp2_with fail
    go_end0
    exact⟨rfl,hA.out,hB⟩
theorem Id (B r k:Nat)(a b:Int)(L:List Int)(hk:k<=3333)(ha: -500000000<=a/\a<=500000000)(hb: -500000000<=b/\b<=500000000)(hL:L.length+6*k<=36000)(w:World)(h:At6 B (r:Int) a (b-k) L w)(hT:Tabs w)(g0:1<B)(g1:0<B) :
 Calls Tryz.prog 157 #[.pointer (some ⟨B,0,none⟩),.int .i64 (k:Int)] w fun e w'=>e=.returned (.tuple #[])/\At6 B (r:Int) a (b-k) (L++ar r a b (cH k)) w'/\Below B w w':=by
 have hT0:Hid (Tabs w):=hT;by_cases hk0:k=0
 · subst hk0;have e1:ar r a b (cH 0)=cZ r a (b-((0:Nat):Int)):=by
    rw[show cH 0=[(0,0)]from rfl,i9,show a+((0:Int),(0:Int)).1=a from Int.add_zero a,show b+((0:Int),(0:Int)).2=b-((0:Nat):Int)by show b+0=b-0;omega]
   rw[e1];have TK:=ab (Ef B r a (b-((0:Nat):Int)) L (by omega) w h hT);clear h hT e1
   go_enter Tryz.func157,Tryz.ntmps157
   go_wp2_with fail;refine TK.out.mono ?_;rintro e w1 ⟨rfl,a1,b1⟩;have HR:=ab a1;clear a1 TK;go_wp2_with fail
   (try simp only[Exit.inBlock,Exit.then]);refine bodyPost_ret (results_none rfl _ _ _) rfl ?_
   exact⟨rfl,HR.out,b1⟩
 · have hkz:((k:Int) == 0)=false:=by simp;omega
   have ep:ar r a b (cH k)=ar r a b (bM k 6):=by unfold cH;rw[if_neg hk0]
   rw[ep];have SD:Hid (∀i:Nat,i<6->∀wr,At6 B (r:Int) (a+sdA k i 0) (b+sdB k i 0) (L++ar r a b (bM k i)) wr->Tabs wr->Calls Tryz.prog 155 #[.int .i64 (k:Int),.int .i64 (i:Int),.func (.func 199) #[.pointer (some ⟨B,0,none⟩)] #[]] wr fun e w' =>
    e=.returned (.tuple #[])/\At6 B (r:Int) (a+sdA k i k) (b+sdB k i k) (L++ar r a b (bM k (i+1))) w'/\Below B wr w'):=by
    refine ab fun i hi wr h hT=>?_;have hl:=dm r a b (bM k i);rw[jN]at hl;have hm:i*k<=5*k:=Nat.mul_le_mul_right k (by omega);have:=Jp B r k i a b _ hi hk ha hb (by rw[List.length_append];omega) wr h hT g0 g1;rw[List.append_assoc,←ge,←l6]at this;exact this
   have h0:Hid (At6 B (r:Int) (a+sdA k 0 0) (b+sdB k 0 0) (L++ar r a b (bM k 0)) w):=ab (by
    rw[show bM k 0=[]from rfl,ma,List.append_nil,(sm (k:Int)).1,(sm (k:Int)).2,Int.add_zero,show b+-(k:Int)=b-k by omega];exact h)
   clear h hT ep ha hb
   go_enter Tryz.func157,Tryz.ntmps157
   go_wp2_with fail;go_loopw [9] (fun v9 wr=>∃i:Nat,i<=6/\v9=.int .i64 (i:Int)/\Hid (if i<6 then At6 B (r:Int) (a+sdA k i 0) (b+sdB k i 0) (L++ar r a b (bM k i)) wr else At6 B (r:Int) a (b-k) (L++ar r a b (bM k 6)) wr)/\Below B w wr) (fun v9 _=>6-(intOf v9).toNat)
   case atStart=>exact⟨0,by omega,rfl,h0,Below.refl _ _⟩
   case round =>
    clear h0;obtain⟨i,hi,rfl,hA,hB⟩:=hrel;by_cases hlt:i<6
    · rw[if_pos hlt]at hA;go_wp2_with fail;refine(SD.out i hlt wr hA.out (hT0.out.low g0 g1 hB)).mono ?_;rintro e w1 ⟨rfl,a1,b1⟩;have HR:Hid (if i+1<6 then At6 B (r:Int) (a+sdA k (i+1) 0) (b+sdB k (i+1) 0) (L++ar r a b (bM k (i+1))) w1 else At6 B (r:Int) a (b-k) (L++ar r a b (bM k 6)) w1):=by
       refine ab ?_
       split
       · rw[(vv (k:Int) (i:=i) (by omega)).1,(vv (k:Int) (i:=i) (by omega)).2];exact a1
       · obtain rfl:i=5:=by omega
         rw[(vu (k:Int)).1,(vu (k:Int)).2,Int.add_zero,show b+-(k:Int)=b-k by omega]at a1;exact a1
      have hB1:=hB.trans b1;clear a1 hA;go_wp2_with fail;go_roundw
      case rel=>exact⟨i+1,by omega,by go_num,HR,hB1⟩
      case measure=>simp[intOf];omega
    · obtain rfl:i=6:=by omega
      rw[if_neg (by omega)]at hA;clear SD;go_wp2_with fail
      go_end0
      exact⟨rfl,hA.out,hB⟩
theorem tw (v k m:Int)(hw:Whole v)(h0:0<=k)(hm:k<=m)(w:World)(hT:Tabs w) :
 Calls Tryz.prog 154 #[.int .u64 v,.int .i64 k,.int .i64 m] w fun e w'=>e=.returned (.tuple #[.agg #[.int .i64 (wR v),.int .i64 (an v),.int .i64 (ao v)],.int .i64 0])/\Below w.heap.size w w':=by
 have hT0:Hid (Tabs w):=hT;clear hT
 · have IC:Hid (∀w,Tabs w->Calls Tryz.prog 55 #[.int .u64 v] w fun e w'=>e=.returned (.tuple #[.agg #[.int .i64 (wR v),.int .i64 (an v),.int .i64 (ao v)],.int .i64 0])/\Below w.heap.size w w'):=px v hw;have hk0:decide (k<0)=false:=df (by omega);have hk1:decide (m<k)=false:=df (by omega);clear hw;generalize wR v=R at *;generalize an v=CA at *;generalize ao v=CB at *
   go_enter Tryz.func154,Tryz.ntmps154
   go_wp2_with fail;refine(IC.out _ ?_).mono ?_
   · exact hT0.out.below (by go_grown)
   rintro e w1 ⟨rfl,d1⟩;have c1:Below w.heap.size w w1:=Below.trans (by go_grown) (d1.mono (by simp;try omega));have r0:w1.cell? ⟨w.heap.size,0,none⟩=some (.int .i64 0):=aa d1 (by go_simp);have fr0:w1.frozen? ⟨w.heap.size,0,none⟩=false:=ac (v:=.int .i64 0) d1 (by go_simp) (by go_simp);have qr0:=World.block_lt_of_cell? _ _ r0;have r1:w1.cell? ⟨w.heap.size,1,none⟩=some (.int .i64 0):=aa d1 (by go_simp);have fr1:w1.frozen? ⟨w.heap.size,1,none⟩=false:=ac (v:=.int .i64 0) d1 (by go_simp) (by go_simp);have r2:w1.cell? ⟨w.heap.size,2,none⟩=some (.int .i64 0):=aa d1 (by go_simp);have fr2:w1.frozen? ⟨w.heap.size,2,none⟩=false:=ac (v:=.int .i64 0) d1 (by go_simp) (by go_simp);have hB:=c1;clear c1 d1;obtain⟨g0,g1,g2⟩:=aJ (u0:=.int .i64 R) (u1:=.int .i64 CA) (u2:=.int .i64 CB) r0 r1 r2;have e0:=aa (ag _ (.cells #[.int .i64 R,.int .i64 CA,.int .i64 CB] 39)) g0;have e1:=aa (ag _ (.cells #[.int .i64 R,.int .i64 CA,.int .i64 CB] 39)) g1;have e2:=aa (ag _ (.cells #[.int .i64 R,.int .i64 CA,.int .i64 CB] 39)) g2;go_wp2;exact bodyPost_ret (v:=.tuple #[.agg #[.int .i64 R,.int .i64 CA,.int .i64 CB],.int .i64 0]) (by simp[results,Tryz.results154,go_sem,e0,e1,e2]) rfl ⟨rfl,(((hB.setCell (by simp) _).setCell (by simp) _).setCell (by simp) _).alloc (by simp;omega) _⟩
theorem tT (w:World):Calls Tryz.prog 103 #[.slice none 0 0] w fun e w'=>e=.returned (.tuple #[])/\Below w.heap.size w w':=by
 have L:Hid (∀w,Calls Tryz.prog 152 #[.int .u64 0] w fun e w'=>e=.returned (.int .i64 0)/\w'=w):=fun w=>by
  have:=mg 0 w (by omega) (by omega);rw[show(Lib.bitLen ((0:Int)).toNat:Int)=0 by decide]at this;exact this
 have IN:Hid (∀w,Calls Tryz.prog 188 #[.slice none 0 0,.int .i64 0,.int .i64 0] w fun e w'=>e=.returned (.tuple #[])/\w'=w):=by
  refine af fun w=>?_
  go_enter Tryz.func188,Tryz.ntmps188
  go_wp2_with fail;go_loopw [6] (fun v6 wr=>v6=.int .i64 1/\wr=w) (fun _ _=>0)
  case atStart=>exact⟨rfl,rfl⟩
  case round =>
   obtain⟨rfl,rfl⟩:=hrel;go_wp2
   go_end0
   exact⟨rfl,rfl⟩
 have PD:Hid (∀w,Calls Tryz.prog 151 #[.slice none 0 0,.int .i64 0,.int .i64 0,.int .i64 0] w fun e w'=>e=.returned (.tuple #[])/\w'=w):=by
  refine af fun w=>?_
  go_enter Tryz.func151,Tryz.ntmps151
  go_wp2_with fail;go_loopw [1,2,3,8,9] (fun v1 v2 v3 v8 v9 wr=>v1=.int .i64 0/\v2=.int .i64 0/\v3=.int .i64 0/\v8=.bool true/\v9=.bool true/\wr=w) (fun _ _ _ _ _ _=>0)
  case atStart=>exact⟨rfl,rfl,rfl,rfl,rfl,rfl⟩
  case round =>
   obtain⟨rfl,rfl,rfl,rfl,rfl,rfl⟩:=hrel;go_wp2_with fail;refine(IN.out _).mono ?_;rintro e w1 ⟨rfl,rfl⟩;go_wp2_with fail
   (try simp only[Exit.inBlock,Exit.then]);refine bodyPost_ret (results_none rfl _ _ _) rfl ?_
   exact⟨rfl,rfl⟩
 go_enter Tryz.func103,Tryz.ntmps103
 go_wp2_with (first | (go_at_call 152;refine(L.out _).mono ?_;rintro e w' ⟨rfl,rfl⟩))
 refine(PD.out _).mono ?_;rintro e w1 ⟨rfl,rfl⟩;go_wp2_with fail
 go_end0
 exact⟨rfl,Below.refl _ _⟩
theorem Eu (w:World)(r a b:Int)(T1 T2:TypeId):At6 (w.heap.size+1) r a b [] ((w.alloc (.cells #[.int .i64 r,.int .i64 a,.int .i64 b] T1)).alloc (.cells #[.int .i64 r,.int .i64 a,.int .i64 b,.slice none 0 0] T2)) :=
 ⟨.slice none 0 0,⟨by go_simp,by go_simp,by go_simp,by go_simp,by go_simp,by go_simp,by go_simp,by go_simp⟩,uY⟩
def yf (C:Nat)(L:List Int)(e:Ending)(w:World):Prop:=∃s,e=.returned (.tuple #[s,.int .i64 0])/\RowAt C w s L
theorem Gr {r:Nat}{a b:Int}{P:List (Int×Int)}{L:List Int}(hP:P.Nodup)(hp:L.Perm (ar r a b P))(hs:L.Pairwise (·≤·)):Rows r a b P L :=
 ⟨hp,sf hs ((hp.nodup_iff).2 (j0 a b hP))⟩
theorem Jq (B:Nat)(r x y:Int)(L:List Int)(hL:L.length<=40000)(w:World)(h:At6 B r x y L w):∃s,w.cell? ⟨B,3,none⟩=some s /\
 Calls Tryz.prog 103 #[s] w fun e w'=>e=.returned (.tuple #[])/\(∃M:List Int,M.Perm L/\M.Pairwise (·≤·)/\RowAt (B+1) w' s M)/\w'.cell? ⟨B,3,none⟩=some s/\Below (B+1) w w':=by
 obtain⟨v,hT,hO⟩:=h;refine⟨v,hT.2.2.2.1,?_⟩;have hlt:=hT.lt;have hv:(v=.slice none 0 0/\L.length=0)∨∃g cap,v=.slice (some ⟨g,0,none⟩) L.length cap:=by
  rcases hO.2 with h | ⟨g,cap,cur,hv,_⟩
  · exact Or.inl h
  · exact Or.inr ⟨g,cap,hv⟩
 rcases hv with⟨rfl,h0⟩ | ⟨g,cap,rfl⟩
 · have hL0:L=[]:=List.length_eq_zero_iff.1 h0;subst hL0;refine(tT w).mono ?_;rintro e w' ⟨rfl,hb⟩;exact⟨rfl,⟨[],List.Perm.refl _,List.Pairwise.nil,Or.inl ⟨rfl,rfl⟩⟩,aa hb hT.2.2.2.1,hb.mono (by omega)⟩
 · have hc:=bn hO;refine(AB g 0 cap L.length L.toArray (by simp) w (iB hO) hc.2.2.2 (by omega)).mono ?_;rintro e w' ⟨rfl,d',hS,hR⟩;have hl:=jP rfl hS;have hb:Below (B+1) w w':=hR.2.2.1.mono hc.2.2.1;have el:d'.toList.length=L.length:=by rw[Array.length_toList];exact hl.2.2
   refine⟨rfl,⟨d'.toList,hl.1,hl.2.1,Or.inr ⟨g,cap,by rw[el],hc.2.2.1,fun j hj=>?_⟩⟩,(hb.cell (Nat.lt_succ_self B)).trans hT.2.2.2.1,hb⟩;have hj':j<d'.size:=by simpa using hj
   have:=(hR.2.1 j hj').1;rw[Nat.zero_add]at this;rw[this];simp[hj']
theorem zv (v:Int)(k:Nat)(hw:Whole v)(hk:k<=3333)(w:World)(hT:Tabs w) :
 Calls Tryz.prog 107 #[.int .u64 v,.int .i64 (k:Int)] w fun e w'=>(∃L,yf w.heap.size L e w'/\Rows (wR v).toNat (an v) (ao v) (cH k) L)/\Below w.heap.size w w':=by
 have MI:=ab (tw v k 3333 hw (by omega) (by omega));have hO:=cI hw;have hpt:=ce hO;have hr:=aE v;have hT0:Hid (Tabs w):=hT;obtain⟨r,er⟩:∃r:Nat,wR v=r:=⟨(wR v).toNat,by omega⟩
 rw[er]at MI ⊢;rw[show((r:Int)).toNat=r by omega];generalize an v=a at *;generalize ao v=b at *;clear hO hT hw hr er;have RE:Hid (∀(B:Nat) (w:World),At6 B (r:Int) a b [] w->Tabs w->1<B->0<B->Calls Tryz.prog 155 #[.int .i64 (k:Int),.int .i64 4,.func (.func 156) #[.pointer (some ⟨B,0,none⟩)] #[]] w fun e w'=>e=.returned (.tuple #[])/\At6 B (r:Int) a (b-k) [] w'/\Below B w w'):=by
  refine ab fun B w hA hT g0 g1=>?_;have:=Ie B 4 k (r:Int) a b [] (by omega) (by omega) (by omega) (by omega) w hA hT g0 g1;rw[show a+(k:Int)*uA 4=a by show a+(k:Int)*0=a;omega,show b+(k:Int)*uB 4=b-k by show b+(k:Int)*(-1)=b-k;omega]at this;exact this
 have RO:Hid (∀(B:Nat) (w:World),At6 B (r:Int) a (b-k) [] w->Tabs w->1<B->0<B->Calls Tryz.prog 157 #[.pointer (some ⟨B,0,none⟩),.int .i64 (k:Int)] w fun e w'=>e=.returned (.tuple #[])/\At6 B (r:Int) a (b-k) (ar r a b (cH k)) w'/\Below B w w') :=
  ab fun B w hA hT g0 g1=>Id B r k a b [] hk (by omega) (by omega) (by simp;omega) w hA hT g0 g1
 have hlen:(ar r a b (cH k)).length<=40000:=by have:=dm r a b (cH k);rw[sg]at this;omega
 have SO:Hid (∀(B:Nat) (w:World),At6 B (r:Int) a (b-k) (ar r a b (cH k)) w->_):=ab fun B w hA=>Jq B (r:Int) a (b-k) _ hlen w hA;have ND:Hid ((cH k).Nodup):=xI k;clear hlen hpt
 go_enter Tryz.func107,Tryz.ntmps107
 go_wp2_with fail;refine(MI.out _ hT0.out).mono ?_;rintro e w1 ⟨rfl,d1⟩;have c1:Below w.heap.size w w1:=Below.trans (by go_grown) (d1.mono (by simp;try omega));have hB:=c1;clear c1 d1;have hT1:=hT0.out.below hB;have A2:=ab (Eu w1 r a b 39 203);have T2:Hid (Tabs ((w1.alloc (.cells #[.int .i64 r,.int .i64 a,.int .i64 b] 39)).alloc (.cells #[.int .i64 r,.int .i64 a,.int .i64 b,.slice none 0 0] 203))):=hT1.below (ae (ag _ _) (ag _ _));have B2:Below w.heap.size w ((w1.alloc (.cells #[.int .i64 r,.int .i64 a,.int .i64 b] 39)).alloc (.cells #[.int .i64 r,.int .i64 a,.int .i64 b,.slice none 0 0] 203)):=ae hB (ae (ag _ _) (ag _ _));have g0:1<w1.heap.size+1:=Nat.lt_succ_of_lt hT1.lt.1;have g1:0<w1.heap.size+1:=Nat.lt_succ_of_lt hT1.lt.2;have hwB:w.heap.size<=w1.heap.size+1:=by have:=hB.size;omega
 go_wp2_with fail;generalize (w1.alloc (.cells #[.int .i64 r,.int .i64 a,.int .i64 b] 39)).alloc (.cells #[.int .i64 r,.int .i64 a,.int .i64 b,.slice none 0 0] 203)=w2 at A2 T2 B2 ⊢;generalize w1.heap.size+1=B at A2 g0 g1 hwB ⊢;clear hT1 MI hT0 hB;refine(RE.out B w2 A2.out T2.out g0 g1).mono ?_;rintro e w3 ⟨rfl,a3,b3⟩;have A3:=ab a3;have T3:=ab (T2.out.low g0 g1 b3);have B3:=B2.trans (b3.mono hwB);clear a3 b3 RE A2 T2 B2;go_wp2_with fail;refine(RO.out B w3 A3.out T3.out g0 g1).mono ?_;rintro e w4 ⟨rfl,a4,b4⟩;have B4:=B3.trans (b4.mono hwB);obtain⟨s,c4,SC⟩:=SO.out B w4 a4;replace SC:=ab SC;clear a4 b4 RO SO A3 T3 B3 g0 g1;go_wp2_with fail;refine SC.out.mono ?_;rintro e w5 ⟨rfl,⟨M,m1,m2,m3⟩,c5,b5⟩;have HR:=ab (Gr ND.out m1 m2);have B5:=B4.trans (b5.mono (by omega));have M3:=ab (m3.mono (show w.heap.size<=B+1 by omega));clear m1 m2 m3 b5 SC c4 B4;go_wp2
 go_ret2
 exact⟨⟨M,⟨s,rfl,M3.out⟩,HR.out⟩,B5⟩
theorem xb (v:Int)(hw:Whole v)(w:World)(hT:Tabs w) :
 Calls Tryz.prog 66 #[.int .u64 v] w fun e w'=>(∃L,yf w.heap.size L e w'/\Rows (wR v).toNat (an v) (ao v) (cH 1) L)/\Below w.heap.size w w':=by
 have RI:=ab (zv v 1 hw (by omega) w hT)
 go_enter Tryz.func66,Tryz.ntmps66
 go_wp2_with fail;refine RI.out.mono ?_;rintro e w1 ⟨⟨L,⟨s,rfl,hr⟩,hR⟩,hB⟩;have HR:=ab hR;have Hr:=ab hr;clear hR hr RI;go_wp2
 go_ret2
 exact⟨⟨L,⟨s,rfl,Hr.out⟩,HR.out⟩,hB⟩
end Go.Proofs.YtbnlhdnnenahfaaGreatDoor
