/-
  What package near's walker does: a step, a word taken along, several steps, a ring; for cells with parts within the bounds, in whatever memory where both tables hold what their texts lay.
-/
import Derived.Test.YtdklpgphmoaniaaGreatDoorI2X
import Derived.Test.YtdklpgphmoaniaaGreatDoorCovHex
namespace Go.Proofs.YtdklpgphmoaniaaGreatDoor
open Go.RowKit
set_option maxHeartbeats 1000000 in
theorem iof_none (r a b:Int) (h:¬ Ok4 r a b) (w:World) (hT:Tabs w) :
 Calls Tryz.prog 29 #[.agg #[.int .i64 r,.int .i64 a,.int .i64 b]] w fun e w'=>e=.returned (.tuple #[.int .u64 0,.int .i64 2])∧Below w.heap.size w w':=by
 have UP:Hid (∀ w,Tabs w→Calls Tryz.prog 58 #[.agg #[.int .i64 r,.int .i64 a,.int .i64 b]] w fun e w'=>e=.returned (.tuple #[.agg #[.int .i64 0,.int .i64 0,.int .i64 0],.int .i64 2])∧Below w.heap.size w w'):=cbase_core r a b 0 0 0 2 (cupto_bad r a b 0 h)
 have hT0:Hid (Tabs w):=hT
 clear hT h
 go_enter Tryz.func29,Tryz.ntmps29
 go_wp2_with fail
 refine (UP.out _ ?_).mono ?_
 · exact hT0.out.below (by go_grown)
 rintro e w1 ⟨rfl,d1⟩
 have c1:Below w.heap.size w w1:=Below.trans (by go_grown) (d1.mono (by simp;try omega))
 have hB:=c1
 clear c1 d1
 go_wp2
 go_ret2
 exact ⟨rfl,by first | exact hB | exact belowT hB (by go_grown)⟩
def Trip (B:Nat) (r x y:Int) (v:Value) (w:World):Prop:=w.cell? ⟨B,0,none⟩=some (.int .i64 r)∧w.cell? ⟨B,1,none⟩=some (.int .i64 x)∧w.cell? ⟨B,2,none⟩=some (.int .i64 y)∧w.cell? ⟨B,3,none⟩=some v ∧
 w.frozen? ⟨B,0,none⟩=false∧w.frozen? ⟨B,1,none⟩=false∧w.frozen? ⟨B,2,none⟩=false∧w.frozen? ⟨B,3,none⟩=false
theorem Trip.keep {B:Nat} {r x y:Int} {v:Value} {w w':World} (h:Trip B r x y v w) (hb:Below w.heap.size w w'):Trip B r x y v w' :=
 ⟨keepCell hb h.1,keepCell hb h.2.1,keepCell hb h.2.2.1,keepCell hb h.2.2.2.1,keepFrozen hb h.1 h.2.2.2.2.1,keepFrozen hb h.2.1 h.2.2.2.2.2.1,keepFrozen hb h.2.2.1 h.2.2.2.2.2.2.1,keepFrozen hb h.2.2.2.1 h.2.2.2.2.2.2.2⟩
theorem Trip.lt {B:Nat} {r x y:Int} {v:Value} {w:World} (h:Trip B r x y v w):B < w.heap.size:=World.block_lt_of_cell? _ _ h.1
def At6 (B:Nat) (r x y:Int) (L:List Int) (w:World):Prop:=∃ v,Trip B r x y v w∧w.ownsRow (B+1) 31 1 v L.length (vals L)
theorem At6.keep {B:Nat} {r x y:Int} {L:List Int} {w w':World} (h:At6 B r x y L w) (hb:Below w.heap.size w w'):At6 B r x y L w':=by
 obtain ⟨v,h1,h2⟩:=h
 exact ⟨v,h1.keep hb,own_keep hb h2⟩
theorem At6.drawn {B:Nat} {r x y:Int} {L:List Int} {w:World} (h:At6 B r x y L w) (n:Nat):At6 B r x y L (w.drewN n):=h.keep ⟨rfl,rfl,rfl,Nat.le_refl _,fun _ _=>rfl⟩
theorem trip_go {B:Nat} {r x y x' y':Int} {v:Value} {w:World} (h:Trip B r x y v w):Trip B r x' y' v ((w.setCell ⟨B,1,none⟩ (.int .i64 x')).setCell ⟨B,2,none⟩ (.int .i64 y')):=by
 obtain ⟨c0,c1,c2,c3,f0,f1,f2,f3⟩:=h
 exact ⟨store_keep (store_keep c0 (by simp)) (by simp),store_keep (store_new c1) (by simp),store_new (store_keep c2 (by simp)),store_keep (store_keep c3 (by simp)) (by simp),by simp [f0],by simp [f1],by simp [f2],by simp [f3]⟩
theorem Trip.low {B:Nat} {r x y:Int} {v:Value} {w w':World} (h:Trip B r x y v w) (hb:Below (B+1) w w'):Trip B r x y v w':=by
 obtain ⟨c0,c1,c2,c3,f0,f1,f2,f3⟩:=h
 have k:∀ (o:Nat) (u:Value),w.cell? ⟨B,o,none⟩=some u→w'.cell? ⟨B,o,none⟩=some u:=fun o u h=>(hb.cell (p:=⟨B,o,none⟩) (Nat.lt_succ_self B)).trans h
 have f:∀ (o:Nat),w.frozen? ⟨B,o,none⟩=false→w'.frozen? ⟨B,o,none⟩=false:=fun o h=>(hb.frozen (p:=⟨B,o,none⟩) (Nat.lt_succ_self B)).trans h
 exact ⟨k 0 _ c0,k 1 _ c1,k 2 _ c2,k 3 _ c3,f 0 f0,f 1 f1,f 2 f2,f 3 f3⟩
theorem trip_put {B:Nat} {r x y:Int} {v v':Value} {w:World} (h:Trip B r x y v w):Trip B r x y v' (w.setCell ⟨B,3,none⟩ v'):=by
 obtain ⟨c0,c1,c2,c3,f0,f1,f2,f3⟩:=h
 exact ⟨store_keep c0 (by simp),store_keep c1 (by simp),store_keep c2 (by simp),store_new c3,by simp [f0],by simp [f1],by simp [f2],by simp [f3]⟩
theorem at6_go {B:Nat} {r x y x' y':Int} {L:List Int} {w:World} (h:At6 B r x y L w):At6 B r x' y' L ((w.setCell ⟨B,1,none⟩ (.int .i64 x')).setCell ⟨B,2,none⟩ (.int .i64 y')):=by
 obtain ⟨v,h1,h2⟩:=h
 exact ⟨v,trip_go h1,ownsRow_setCell_below (ownsRow_setCell_below h2 (by simp) _) (by simp) _⟩
def Far (x:Int):Prop:= -4000000000000≤x∧x≤4000000000000
set_option maxHeartbeats 4000000 in
theorem nstep (B i:Nat) (r x y:Int) (L:List Int) (hi:i < 6) (hx:Far x) (hy:Far y) (w:World) (h:At6 B r x y L w) (hU:Uni w) :
 Calls Tryz.prog 74 #[.pointer (some ⟨B,0,none⟩),.int .i64 i] w fun e w'=>e=.returned (.tuple #[])∧At6 B r (x+uA i) (y+uB i) L w'∧Below B w w':=by
 have hu:unitA ((i:Int)%6)=uA i∧unitB ((i:Int)%6)=uB i:=by rcases six_cases hi with rfl | rfl | rfl | rfl | rfl | rfl <;>decide
 have hub:(-1≤uA i∧uA i≤1)∧(-1≤uB i∧uB i≤1):=by rcases six_cases hi with rfl | rfl | rfl | rfl | rfl | rfl <;>decide
 have UN:Hid (∀ w,Uni w→Calls Tryz.prog 103 #[.int .i64 i] w fun e w'=>e=.returned (.agg #[.int .i64 (uA i),.int .i64 (uB i)])∧Below w.heap.size w w'):=fun w hU=>by
  have:=eunit_any (i:Int) (by omega) (by omega) w hU
  rwa [hu.1,hu.2] at this
 obtain ⟨hx1,hx2⟩:=hx
 obtain ⟨hy1,hy2⟩:=hy
 obtain ⟨⟨p1,p2⟩,q1,q2⟩:=hub
 generalize uA i=P at *
 generalize uB i=Q at *
 have AD:Hid (∀ w,Calls Tryz.prog 111 #[.agg #[.int .i64 x,.int .i64 y],.agg #[.int .i64 P,.int .i64 Q]] w fun e w'=>e=.returned (.tuple #[.agg #[.int .i64 (x+P),.int .i64 (y+Q)],.bool true])∧Below w.heap.size w w') :=
  eadd_small x y P Q _ _ rfl rfl (by omega) (by omega) (by omega) (by omega) (by omega) (by omega) (by omega) (by omega)
 have hU0:Hid (Uni w.drew):=hU.below (Below.refl _ w).drew
 have hA0:Hid (At6 B r x y L w):=h
 obtain ⟨v,⟨c0,c1,c2,c3,f0,f1,f2,f3⟩,hO⟩:=h
 have hlt:=World.block_lt_of_cell? _ _ c0
 clear hU hu hO c0 c3 f0 f3
 go_enter Tryz.func74,Tryz.ntmps74
 go_wp2_with fail
 go_region_with (first | (go_at_call 103;refine (UN.out _ hU0.out).mono ?_;rintro e w1 ⟨rfl,hb1⟩;have d1:=keepCell hb1 (show w.drew.cell? _=_ from c1);have d2:=keepCell hb1 (show w.drew.cell? _=_ from c2);have g1:=keepFrozen hb1 (show w.drew.cell? _=_ from c1) f1;have g2:=keepFrozen hb1 (show w.drew.cell? _=_ from c2) f2) | (go_at_call 111;refine (AD.out _).mono ?_;rintro e w2 ⟨rfl,hb2⟩;have e1:=keepCell hb2 d1;have e2:=keepCell hb2 d2;have h1:=keepFrozen hb2 d1 g1;have h2:=keepFrozen hb2 d2 g2))
 all_goals
  have A2:At6 B r x y L w2:=((hA0.out.drawn 1).keep hb1).keep hb2
  have hB2:Below B w w2:=((Below.refl B w).drew.trans (hb1.mono (by simp;omega))).trans (hb2.mono (by have:=hb1.size;simp at this;omega))
  have HR:=hidd (at6_go (x':=x+P) (y':=y+Q) A2)
  have HB:=hidd ((hB2.setCell (p:=⟨B,1,none⟩) (Nat.le_refl B) (.int .i64 (x+P))).setCell (p:=⟨B,2,none⟩) (Nat.le_refl B) (.int .i64 (y+Q)))
  clear A2 hB2 d1 d2 g1 g2 e1 e2 h1 h2 hb1 hb2 hA0
  go_end0
  exact ⟨rfl,HR.out,HB.out⟩
set_option maxHeartbeats 4000000 in
set_option maxRecDepth 20000 in
theorem ntake (B r:Nat) (x y:Int) (L:List Int) (hL:L.length≤40000) (w:World) (h:At6 B (r:Int) x y L w) (hT:Tabs w) :
 Calls Tryz.prog 112 #[.pointer (some ⟨B,0,none⟩)] w fun e w'=>e=.returned (.tuple #[])∧At6 B (r:Int) x y (L++wordAt r x y) w'∧Below B w w':=by
 have hT0:Hid (Tabs w):=hT
 have hA0:Hid (At6 B (r:Int) x y L w):=h
 obtain ⟨v,⟨c0,c1,c2,c3,f0,f1,f2,f3⟩,hO⟩:=h
 have hlt:=World.block_lt_of_cell? _ _ c0
 replace hO:Hid _:=hO
 clear hT
 by_cases hok:Ok4 (r:Int) x y
 · have OF:Hid (∀ w,Tabs w→Calls Tryz.prog 29 #[.agg #[.int .i64 (r:Int),.int .i64 x,.int .i64 y]] w fun e w'=>e=.returned (.tuple #[.int .u64 (wordOf r x y),.int .i64 0])∧Below w.heap.size w w'):=iof_yes r x y hok
   rw [wordAt_yes hok]
   have hv:vals (L++[wordOf r x y])=vals L++[.int .u64 (wordOf r x y)]:=by simp [vals]
   have hvl:(L++[wordOf r x y]).length=L.length+1:=by simp
   obtain ⟨i0,hi,hz0,hz1,hz2⟩:=info_parts infoU64
   unfold At6
   rw [hv,hvl]
   clear hv hvl hok
   generalize wordOf r x y=z at *
   go_enter Tryz.func112,Tryz.ntmps112
   go_wp2_with fail
   refine (OF.out _ hT0.out).mono ?_
   rintro e w1 ⟨rfl,hb1⟩
   have d3:=keepCell hb1 c3
   have g3:=keepFrozen hb1 c3 f3
   have hO1:Hid (w1.ownsRow (B+1) 31 1 v L.length (vals L)):=own_keep hb1 hO.out
   have T1:Hid (Trip B (r:Int) x y v w1):=Trip.keep ⟨c0,c1,c2,c3,f0,f1,f2,f3⟩ hb1
   have hB1:Below B w w1:=hb1.mono (by omega)
   have hlt1:B < w1.heap.size:=Nat.lt_of_lt_of_le hlt hb1.size
   clear c0 c1 c2 c3 f0 f1 f2 f3 hO hA0
   go_wp2_with (at_builtin;refine wpList_append_own _ rfl (.tmp 18) (.tmp 20) 34 rfl (B+1) 31 i0 (.int .u64 0) 1 8 Tryz.underlying34 hi hz0 hz1 hz2 rfl (by decide) _ _ _ rfl (own_keep (allocB _ _) hO1.out) ⟨w1.heap.size,0,none⟩ 1 1 [.int .u64 z] rfl rfl (one_lies _ _ rfl _ _) (one_int _ _) (by unfold maxLen;omega) (by omega) (by simp;omega) ?_)
   intro v' w5 hown hgrow _
   obtain ⟨g',c',rfl⟩:=own_shape hown (by omega)
   have hBa:Below (B+1) w1 w5:=((Below.refl (B+1) w1).alloc (by omega) (.cells #[.int .u64 z] 31)).grown hgrow (by simp;omega) (own_block hO1.out)
   have T5:=T1.out.low hBa
   have e3:=T5.2.2.2.1
   have h3:=T5.2.2.2.2.2.2.2
   have HR:=hidd (And.intro (trip_put (v':=.slice (some ⟨g',0,none⟩) (L.length+1) c') T5) (ownsRow_setCell_below hown (a:=⟨B,3,none⟩) (by simp) (.slice (some ⟨g',0,none⟩) (L.length+1) c')))
   have HB:=hidd ((hB1.trans (hBa.mono (by omega))).setCell (p:=⟨B,3,none⟩) (Nat.le_refl B) (.slice (some ⟨g',0,none⟩) (L.length+1) c'))
   clear hBa T5 hown hgrow hO1 T1 d3 g3 hb1 hB1
   go_wp2
   go_end0
   exact ⟨rfl,⟨_,HR.out.1,HR.out.2⟩,HB.out⟩
 · have OF:Hid (∀ w,Tabs w→Calls Tryz.prog 29 #[.agg #[.int .i64 (r:Int),.int .i64 x,.int .i64 y]] w fun e w'=>e=.returned (.tuple #[.int .u64 0,.int .i64 2])∧Below w.heap.size w w'):=iof_none r x y hok
   rw [wordAt_no hok,List.append_nil]
   go_enter Tryz.func112,Tryz.ntmps112
   go_wp2_with fail
   refine (OF.out _ hT0.out).mono ?_
   rintro e w1 ⟨rfl,hb1⟩
   have HR:=hidd (hA0.out.keep hb1)
   have hB1:Below B w w1:=hb1.mono (by omega)
   go_wp2
   go_end0
   exact ⟨rfl,HR.out,hB1⟩
set_option maxHeartbeats 2000000 in
theorem ntakeOn (B r i:Nat) (x y:Int) (L:List Int) (hi:i < 6) (hx:Far x) (hy:Far y) (hL:L.length≤40000) (w:World) (h:At6 B (r:Int) x y L w) (hT:Tabs w) (g0:2 < B) (g1:0 < B) :
 Calls Tryz.prog 113 #[.pointer (some ⟨B,0,none⟩),.int .i64 i] w fun e w'=>e=.returned (.tuple #[])∧At6 B (r:Int) (x+uA i) (y+uB i) (L++wordAt r (x+uA i) (y+uB i)) w'∧Below B w w':=by
 have S1:=hidd (nstep B i (r:Int) x y L hi hx hy w h hT.2)
 have S2:=hidd (fun (w:World)=>ntake B r (x+uA i) (y+uB i) L hL w)
 have hT0:Hid (Tabs w):=hT
 clear hT h
 go_enter Tryz.func113,Tryz.ntmps113
 go_wp2_with fail
 refine S1.out.mono ?_
 rintro e w1 ⟨rfl,a1,b1⟩
 have hT1:Hid (Tabs w1):=hT0.out.low g0 g1 b1
 replace a1:=hidd a1
 go_wp2_with fail
 refine (S2.out w1 a1.out hT1.out).mono ?_
 rintro e w2 ⟨rfl,a2,b2⟩
 replace a2:=hidd a2
 clear S1 S2 a1
 go_wp2_with fail
 go_end0
 exact ⟨rfl,a2.out,b1.trans b2⟩
set_option maxHeartbeats 2000000 in
theorem nsteps (B i n:Nat) (r x y:Int) (L:List Int) (hi:i < 6) (hn:n≤1000000) (hx: -1000000000≤x∧x≤1000000000) (hy: -1000000000≤y∧y≤1000000000) (w:World) (h:At6 B r x y L w) (hT:Tabs w) (g0:2 < B) (g1:0 < B) :
 Calls Tryz.prog 73 #[.int .i64 (n:Int),.int .i64 (i:Int),.func (.func 74) #[.pointer (some ⟨B,0,none⟩)] #[]] w fun e w'=>e=.returned (.tuple #[])∧At6 B r (x+n*uA i) (y+n*uB i) L w'∧Below B w w':=by
 have hub:(-1≤uA i∧uA i≤1)∧(-1≤uB i∧uB i≤1):=by rcases six_cases hi with rfl | rfl | rfl | rfl | rfl | rfl <;>decide
 have ST:Hid (∀ k:Nat,k < n→∀ wr,At6 B r (x+k*uA i) (y+k*uB i) L wr→Tabs wr→Calls Tryz.prog 74 #[.pointer (some ⟨B,0,none⟩),.int .i64 i] wr fun e w'=>e=.returned (.tuple #[])∧At6 B r (x+((k+1:Nat):Int)*uA i) (y+((k+1:Nat):Int)*uB i) L w'∧Below B wr w'):=by
  refine hidd fun k hk wr h hT=>?_
  have m1:=mul_in (a:=(k:Int)) (b:=uA i) (A:=1000000) (B:=1) (by omega) (by omega)
  have m2:=mul_in (a:=(k:Int)) (b:=uB i) (A:=1000000) (B:=1) (by omega) (by omega)
  have:=nstep B i r (x+k*uA i) (y+k*uB i) L hi ⟨by omega,by omega⟩ ⟨by omega,by omega⟩ wr h hT.2
  rw [show x+k*uA i+uA i=x+((k+1:Nat):Int)*uA i by rw [show ((k+1:Nat):Int)=(k:Int)+1 by omega,Int.add_mul];omega,show y+k*uB i+uB i=y+((k+1:Nat):Int)*uB i by rw [show ((k+1:Nat):Int)=(k:Int)+1 by omega,Int.add_mul];omega] at this
  exact this
 have hT0:Hid (Tabs w):=hT
 have h0:Hid (At6 B r x y L w):=h
 clear hT h hub hx hy
 go_enter Tryz.func73,Tryz.ntmps73
 go_wp2_with fail
 go_loopw [7] (fun v7 wr=>∃ k:Nat,k≤n∧v7=.int .i64 (k:Int)∧Hid (At6 B r (x+k*uA i) (y+k*uB i) L wr)∧Below B w wr) (fun v7 _=>n - (intOf v7).toNat)
 case atStart=>exact ⟨0,by omega,rfl,hidd (by simpa using h0.out),Below.refl _ _⟩
 case round =>
  clear h0
  obtain ⟨k,hk,rfl,hA,hB⟩:=hrel
  by_cases hlt:k < n
  · go_wp2_with fail
    refine (ST.out k hlt wr hA.out (hT0.out.low g0 g1 hB)).mono ?_
    rintro e w1 ⟨rfl,a1,b1⟩
    have HR:=hidd a1
    have hB1:=hB.trans b1
    clear a1 hA
    go_wp2_with fail
    go_roundw
    case rel=>exact ⟨k+1,by omega,by go_num,HR.out,hB1⟩
    case measure=>simp [intOf];omega
  · obtain rfl:k=n:=by omega
    clear ST
    go_wp2_with fail
    go_end0
    exact ⟨rfl,hA.out,hB⟩
end Go.Proofs.YtdklpgphmoaniaaGreatDoor
