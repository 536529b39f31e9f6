/-
  What package plane's place, centreOf, middle, Centre and Width tell, for any number of the lattice and any size, in whatever memory.
-/
import Derived.Test.YtdklpgphmoaniaaGreatDoorR1X
namespace Go.Proofs.YtdklpgphmoaniaaGreatDoor
open Go.RowKit
set_option maxHeartbeats 400000 in
theorem pplace_any (a b:Int) (a1: -9007199254740992≤a) (a2:a≤9007199254740992) (b1: -9007199254740992≤b) (b2:b≤9007199254740992) (w:World) :
 Calls Tryz.prog 139 #[.agg #[.int .i64 a,.int .i64 b]] w fun e w'=>e=.returned (.tuple #[.int .i64 (52*a+26*b),.int .i64 (45*b)])∧Below w.heap.size w w':=by
 go_enter Tryz.func139,Tryz.ntmps139
 go_wp2
 go_quiet (fail)
 go_wp2
 go_ret2
 exact ⟨rfl,belowN (by go_grown) _⟩
set_option maxHeartbeats 400000 in
theorem pwithin_yes (n:Int) (h1: -1073741824≤n) (h2:n≤1073741824) (w:World) :
 Calls Tryz.prog 138 #[.int .i64 n] w fun e w'=>e=.returned (.bool true)∧w'=w:=by
 go_enter Tryz.func138,Tryz.ntmps138
 go_wp2
 go_ret
 exact ⟨rfl,rfl⟩
def In30 (n:Int):Prop:= -1073741824≤n∧n≤1073741824
theorem four_stores {w:World} {b:Nat} {x0 x1 x2 x3 u0 u1 u2 u3:Value} (h0:w.cell? ⟨b,0,none⟩=some x0) (h1:w.cell? ⟨b,1,none⟩=some x1) (h2:w.cell? ⟨b,2,none⟩=some x2) (h3:w.cell? ⟨b,3,none⟩=some x3) :
 ((((w.setCell ⟨b,0,none⟩ u0).setCell ⟨b,1,none⟩ u1).setCell ⟨b,2,none⟩ u2).setCell ⟨b,3,none⟩ u3).cell? ⟨b,0,none⟩=some u0 ∧
 ((((w.setCell ⟨b,0,none⟩ u0).setCell ⟨b,1,none⟩ u1).setCell ⟨b,2,none⟩ u2).setCell ⟨b,3,none⟩ u3).cell? ⟨b,1,none⟩=some u1 ∧
 ((((w.setCell ⟨b,0,none⟩ u0).setCell ⟨b,1,none⟩ u1).setCell ⟨b,2,none⟩ u2).setCell ⟨b,3,none⟩ u3).cell? ⟨b,2,none⟩=some u2 ∧
 ((((w.setCell ⟨b,0,none⟩ u0).setCell ⟨b,1,none⟩ u1).setCell ⟨b,2,none⟩ u2).setCell ⟨b,3,none⟩ u3).cell? ⟨b,3,none⟩=some u3 :=
 ⟨store_keep (store_keep (store_keep (store_new h0) (by simp)) (by simp)) (by simp),store_keep (store_keep (store_new (store_keep h1 (by simp))) (by simp)) (by simp),store_keep (store_new (store_keep (store_keep h2 (by simp)) (by simp))) (by simp),store_new (store_keep (store_keep (store_keep h3 (by simp)) (by simp)) (by simp))⟩
set_option maxHeartbeats 1000000 in
theorem pcentreOf_core (a b r X Y:Int) (a1: -1073741824≤a) (a2:a≤1073741824) (b1: -1073741824≤b) (b2:b≤1073741824)
 (ST:∀ w,Calls Tryz.prog 90 #[.int .i64 r] w fun e w'=>e=.returned (.tuple #[.agg #[.int .i64 X,.int .i64 Y],.bool true])∧Below w.heap.size w w') (w:World) :
 Calls Tryz.prog 108 #[.agg #[.int .i64 a,.int .i64 b],.int .i64 r] w fun e w'=>e=.returned (.tuple #[.agg #[.int .i64 a,.int .i64 b,.int .i64 X,.int .i64 Y],.bool true])∧Below w.heap.size w w':=by
 have WA:Hid (∀ w,Calls Tryz.prog 138 #[.int .i64 a] w fun e w'=>e=.returned (.bool true)∧w'=w):=pwithin_yes a a1 a2
 have WB:Hid (∀ w,Calls Tryz.prog 138 #[.int .i64 b] w fun e w'=>e=.returned (.bool true)∧w'=w):=pwithin_yes b b1 b2
 replace ST:Hid _:=ST
 go_enter Tryz.func108,Tryz.ntmps108
 go_wp2_with fail
 refine (ST.out _).mono ?_
 rintro e w1 ⟨rfl,d1⟩
 have c1:Below w.heap.size w w1:=Below.trans (by go_grown) (d1.mono (by simp;try omega))
 have p0:w1.cell? ⟨w.heap.size,0,none⟩=some (.int .i64 a):=keepCell d1 (by go_simp)
 have qp0:=World.block_lt_of_cell? _ _ p0
 have p1:w1.cell? ⟨w.heap.size,1,none⟩=some (.int .i64 b):=keepCell d1 (by go_simp)
 have r0:w1.cell? ⟨w.heap.size+1,0,none⟩=some (.int .i64 0):=keepCell d1 (by go_simp)
 have fr0:w1.frozen? ⟨w.heap.size+1,0,none⟩=false:=keepFrozen (v:=.int .i64 0) d1 (by go_simp) (by go_simp)
 have qr0:=World.block_lt_of_cell? _ _ r0
 have r1:w1.cell? ⟨w.heap.size+1,1,none⟩=some (.int .i64 0):=keepCell d1 (by go_simp)
 have fr1:w1.frozen? ⟨w.heap.size+1,1,none⟩=false:=keepFrozen (v:=.int .i64 0) d1 (by go_simp) (by go_simp)
 have r2:w1.cell? ⟨w.heap.size+1,2,none⟩=some (.int .i64 0):=keepCell d1 (by go_simp)
 have fr2:w1.frozen? ⟨w.heap.size+1,2,none⟩=false:=keepFrozen (v:=.int .i64 0) d1 (by go_simp) (by go_simp)
 have r3:w1.cell? ⟨w.heap.size+1,3,none⟩=some (.int .i64 0):=keepCell d1 (by go_simp)
 have fr3:w1.frozen? ⟨w.heap.size+1,3,none⟩=false:=keepFrozen (v:=.int .i64 0) d1 (by go_simp) (by go_simp)
 have hB:=c1
 clear c1 d1
 go_wp2_with fail
 refine (WA.out _).mono ?_
 rintro e w2 ⟨rfl,rfl⟩
 go_wp2_with fail
 refine (WB.out _).mono ?_
 rintro e w2 ⟨rfl,rfl⟩
 obtain ⟨g0,g1,g2,g3⟩:=four_stores (u0:=.int .i64 a) (u1:=.int .i64 b) (u2:=.int .i64 X) (u3:=.int .i64 Y) r0 r1 r2 r3
 have e0:=keepCell (allocB _ (.cells #[.int .i64 X,.int .i64 Y] 23)) g0
 have e1:=keepCell (allocB _ (.cells #[.int .i64 X,.int .i64 Y] 23)) g1
 have e2:=keepCell (allocB _ (.cells #[.int .i64 X,.int .i64 Y] 23)) g2
 have e3:=keepCell (allocB _ (.cells #[.int .i64 X,.int .i64 Y] 23)) g3
 go_wp2
 exact bodyPost_ret (v:=.tuple #[.agg #[.int .i64 a,.int .i64 b,.int .i64 X,.int .i64 Y],.bool true]) (by simp [results,Tryz.results108,go_sem,e0,e1,e2,e3]) rfl ⟨rfl,((((hB.setCell (by simp) _).setCell (by simp) _).setCell (by simp) _).setCell (by simp) _).alloc (by simp;omega) _⟩
theorem pcentreOf_yes (a b r:Int) (K:Nat) (hK:K≤12) (hr:12 - r=(K:Int)) (ha:In30 a) (hb:In30 b) (w:World) :
 Calls Tryz.prog 108 #[.agg #[.int .i64 a,.int .i64 b],.int .i64 r] w fun e w'=>e=.returned (.tuple #[.agg #[.int .i64 a,.int .i64 b,.int .i64 (bet K).1,.int .i64 (bet K).2],.bool true])∧Below w.heap.size w w' :=
 pcentreOf_core a b r _ _ ha.1 ha.2 hb.1 hb.2 (pstep_yes r K hK hr) w
set_option maxHeartbeats 1000000 in
theorem pmiddle_core (a b X Y A B p q:Int) (hp:52*A+26*B=p) (hq:45*B=q) (A1: -9007199254740992≤A) (A2:A≤9007199254740992) (B1: -9007199254740992≤B) (B2:B≤9007199254740992)
 (MU:∀ w,Calls Tryz.prog 92 #[.agg #[.int .i64 X,.int .i64 Y],.agg #[.int .i64 a,.int .i64 b]] w fun e w'=>e=.returned (.tuple #[.agg #[.int .i64 A,.int .i64 B],.bool true])∧Below w.heap.size w w') (w:World) :
 Calls Tryz.prog 109 #[.agg #[.int .i64 a,.int .i64 b,.int .i64 X,.int .i64 Y]] w fun e w'=>e=.returned (.tuple #[.int .i64 p,.int .i64 q])∧Below w.heap.size w w':=by
 have PL:Hid (∀ w,Calls Tryz.prog 139 #[.agg #[.int .i64 A,.int .i64 B]] w fun e w'=>e=.returned (.tuple #[.int .i64 p,.int .i64 q])∧Below w.heap.size w w'):=by rw [← hp,← hq];exact pplace_any A B A1 A2 B1 B2
 clear hp hq
 replace MU:Hid _:=MU
 go_enter Tryz.func109,Tryz.ntmps109
 go_wp2_with fail
 refine (MU.out _).mono ?_
 rintro e w1 ⟨rfl,d1⟩
 have c1:Below w.heap.size w w1:=Below.trans (by go_grown) (d1.mono (by simp;try omega))
 have hB:=c1
 clear c1 d1
 go_wp2_with fail
 refine (PL.out _).mono ?_
 rintro e w2 ⟨rfl,d2⟩
 have c2:Below w1.heap.size w1 w2:=Below.trans (by go_grown) (d2.mono (by simp;try omega))
 replace hB:=belowT hB c2
 clear c2 d2
 go_wp2
 go_ret2
 exact ⟨rfl,hB⟩
theorem pmiddle_any (a b:Int) (K:Nat) (hK:K≤12) (ha:In30 a) (hb:In30 b) (w:World) :
 Calls Tryz.prog 109 #[.agg #[.int .i64 a,.int .i64 b,.int .i64 (bet K).1,.int .i64 (bet K).2]] w fun e w'=>e=.returned (.tuple #[.int .i64 (poX K a b),.int .i64 (poY K a b)])∧Below w.heap.size w w':=by
 have hs:=bet_small hK
 obtain ⟨a1,a2⟩:=ha
 obtain ⟨b1,b2⟩:=hb
 have hc:=ct_box (a:=a) (b:=b) hK (by omega) (by omega)
 exact pmiddle_core a b _ _ (ctA K a b) (ctB K a b) _ _ rfl rfl (by omega) (by omega) (by omega) (by omega)
  (emul_small _ _ _ _ _ _ rfl rfl (by omega) (by omega) (by omega) (by omega) (by omega) (by omega) (by omega) (by omega) (by omega) (by omega) (by omega) (by omega)) w
set_option maxHeartbeats 1000000 in
theorem pcentre_core (a b r X Y p q:Int)
 (CO:∀ w,Calls Tryz.prog 108 #[.agg #[.int .i64 a,.int .i64 b],.int .i64 r] w fun e w'=>e=.returned (.tuple #[.agg #[.int .i64 a,.int .i64 b,.int .i64 X,.int .i64 Y],.bool true])∧Below w.heap.size w w')
 (MI:∀ w,Calls Tryz.prog 109 #[.agg #[.int .i64 a,.int .i64 b,.int .i64 X,.int .i64 Y]] w fun e w'=>e=.returned (.tuple #[.int .i64 p,.int .i64 q])∧Below w.heap.size w w') (w:World) :
 Calls Tryz.prog 71 #[.agg #[.int .i64 a,.int .i64 b],.int .i64 r] w fun e w'=>e=.returned (.tuple #[.int .i64 p,.int .i64 q,.bool true])∧Below w.heap.size w w':=by
 replace CO:Hid _:=CO
 replace MI:Hid _:=MI
 go_enter Tryz.func71,Tryz.ntmps71
 go_wp2_with fail
 refine (CO.out _).mono ?_
 rintro e w1 ⟨rfl,d1⟩
 have c1:Below w.heap.size w w1:=Below.trans (by go_grown) (d1.mono (by simp;try omega))
 have hB:=c1
 clear c1 d1
 go_wp2_with fail
 refine (MI.out _).mono ?_
 rintro e w2 ⟨rfl,d2⟩
 have c2:Below w1.heap.size w1 w2:=Below.trans (by go_grown) (d2.mono (by simp;try omega))
 replace hB:=belowT hB c2
 clear c2 d2
 go_wp2
 go_ret3
 exact ⟨rfl,hB⟩
theorem pcentre_yes (a b r:Int) (K:Nat) (hK:K≤12) (hr:12 - r=(K:Int)) (ha:In30 a) (hb:In30 b) (w:World) :
 Calls Tryz.prog 71 #[.agg #[.int .i64 a,.int .i64 b],.int .i64 r] w fun e w'=>e=.returned (.tuple #[.int .i64 (poX K a b),.int .i64 (poY K a b),.bool true])∧Below w.heap.size w w' :=
 pcentre_core a b r _ _ _ _ (pcentreOf_yes a b r K hK hr ha hb) (pmiddle_any a b K hK ha hb) w
set_option maxHeartbeats 1000000 in
theorem rcentre_r1 (a b r:Int) (h:r < 0) (w:World) :
 Calls Tryz.prog 10 #[.agg #[.int .i64 a,.int .i64 b],.int .i64 r] w fun e w'=>e=.returned (.tuple #[.int .i64 0,.int .i64 0,.bool false])∧Below w.heap.size w w':=by
 go_enter Tryz.func10,Tryz.ntmps10
 go_wp2
 go_ret3
 exact ⟨rfl,by go_grown⟩
set_option maxHeartbeats 1000000 in
theorem rcentre_r2 (a b r:Int) (h0:decide (r < 0)=false) (h:12 < r) (w:World) :
 Calls Tryz.prog 10 #[.agg #[.int .i64 a,.int .i64 b],.int .i64 r] w fun e w'=>e=.returned (.tuple #[.int .i64 0,.int .i64 0,.bool false])∧Below w.heap.size w w':=by
 go_enter Tryz.func10,Tryz.ntmps10
 go_wp2
 go_ret3
 exact ⟨rfl,by go_grown⟩
set_option maxHeartbeats 1000000 in
theorem rcentre_a1 (a b r:Int) (h0:decide (r < 0)=false) (h1:decide (12 < r)=false) (h:a < -1073741824) (w:World) :
 Calls Tryz.prog 10 #[.agg #[.int .i64 a,.int .i64 b],.int .i64 r] w fun e w'=>e=.returned (.tuple #[.int .i64 0,.int .i64 0,.bool false])∧Below w.heap.size w w':=by
 go_enter Tryz.func10,Tryz.ntmps10
 go_wp2
 go_ret3
 exact ⟨rfl,by go_grown⟩
set_option maxHeartbeats 1000000 in
theorem rcentre_a2 (a b r:Int) (h0:decide (r < 0)=false) (h1:decide (12 < r)=false) (h2:decide (a < -1073741824)=false) (h:1073741824 < a) (w:World) :
 Calls Tryz.prog 10 #[.agg #[.int .i64 a,.int .i64 b],.int .i64 r] w fun e w'=>e=.returned (.tuple #[.int .i64 0,.int .i64 0,.bool false])∧Below w.heap.size w w':=by
 go_enter Tryz.func10,Tryz.ntmps10
 go_wp2
 go_ret3
 exact ⟨rfl,by go_grown⟩
set_option maxHeartbeats 1000000 in
theorem rcentre_b1 (a b r:Int) (h0:decide (r < 0)=false) (h1:decide (12 < r)=false) (h2:decide (a < -1073741824)=false) (h3:decide (1073741824 < a)=false) (h:b < -1073741824) (w:World) :
 Calls Tryz.prog 10 #[.agg #[.int .i64 a,.int .i64 b],.int .i64 r] w fun e w'=>e=.returned (.tuple #[.int .i64 0,.int .i64 0,.bool false])∧Below w.heap.size w w':=by
 go_enter Tryz.func10,Tryz.ntmps10
 go_wp2
 go_ret3
 exact ⟨rfl,by go_grown⟩
set_option maxHeartbeats 1000000 in
theorem rcentre_b2 (a b r:Int) (h0:decide (r < 0)=false) (h1:decide (12 < r)=false) (h2:decide (a < -1073741824)=false) (h3:decide (1073741824 < a)=false) (h4:decide (b < -1073741824)=false) (h:1073741824 < b) (w:World) :
 Calls Tryz.prog 10 #[.agg #[.int .i64 a,.int .i64 b],.int .i64 r] w fun e w'=>e=.returned (.tuple #[.int .i64 0,.int .i64 0,.bool false])∧Below w.heap.size w w':=by
 go_enter Tryz.func10,Tryz.ntmps10
 go_wp2
 go_ret3
 exact ⟨rfl,by go_grown⟩
theorem rcentre_no (a b r:Int) (h:¬ ((0≤r∧r≤12)∧In30 a∧In30 b)) (w:World) :
 Calls Tryz.prog 10 #[.agg #[.int .i64 a,.int .i64 b],.int .i64 r] w fun e w'=>e=.returned (.tuple #[.int .i64 0,.int .i64 0,.bool false])∧Below w.heap.size w w':=by
 unfold In30 at h
 by_cases h0:r < 0
 · exact rcentre_r1 a b r h0 w
 by_cases h1:12 < r
 · exact rcentre_r2 a b r (df h0) h1 w
 by_cases h2:a < -1073741824
 · exact rcentre_a1 a b r (df h0) (df h1) h2 w
 by_cases h3:1073741824 < a
 · exact rcentre_a2 a b r (df h0) (df h1) (df h2) h3 w
 by_cases h4:b < -1073741824
 · exact rcentre_b1 a b r (df h0) (df h1) (df h2) (df h3) h4 w
 · exact rcentre_b2 a b r (df h0) (df h1) (df h2) (df h3) (df h4) (by omega) w
set_option maxHeartbeats 2000000 in
theorem rcentre_core (a b r X Y A B:Int) (r1:0≤r) (r2:r≤12) (a1: -1073741824≤a) (a2:a≤1073741824) (b1: -1073741824≤b) (b2:b≤1073741824) (A1: -9007199254740992≤A) (A2:A≤9007199254740992) (B1: -9007199254740992≤B) (B2:B≤9007199254740992)
 (BE:∀ w,Calls Tryz.prog 32 #[.int .i64 (12 - r)] w fun e w'=>e=.returned (.tuple #[.agg #[.int .i64 X,.int .i64 Y],.bool true])∧Below w.heap.size w w')
 (MU:∀ w,Calls Tryz.prog 33 #[.agg #[.int .i64 a,.int .i64 b],.agg #[.int .i64 X,.int .i64 Y]] w fun e w'=>e=.returned (.tuple #[.agg #[.int .i64 A,.int .i64 B],.bool true])∧Below w.heap.size w w') (w:World) :
 Calls Tryz.prog 10 #[.agg #[.int .i64 a,.int .i64 b],.int .i64 r] w fun e w'=>e=.returned (.tuple #[.int .i64 (52*A+26*B),.int .i64 (45*B),.bool true])∧Below w.heap.size w w':=by
 replace BE:Hid _:=BE
 replace MU:Hid _:=MU
 go_enter Tryz.func10,Tryz.ntmps10
 go_wp2_with fail
 refine (BE.out _).mono ?_
 rintro e w1 ⟨rfl,d1⟩
 have c1:Below w.heap.size w w1:=Below.trans (by go_grown) (d1.mono (by simp;try omega))
 have p0:w1.cell? ⟨w.heap.size,0,none⟩=some (.int .i64 a):=keepCell d1 (by go_simp)
 have qp0:=World.block_lt_of_cell? _ _ p0
 have p1:w1.cell? ⟨w.heap.size,1,none⟩=some (.int .i64 b):=keepCell d1 (by go_simp)
 have hB:=c1
 clear c1 d1
 go_wp2_with fail
 refine (MU.out _).mono ?_
 rintro e w2 ⟨rfl,d2⟩
 have c2:Below w1.heap.size w1 w2:=Below.trans (by go_grown) (d2.mono (by simp;try omega))
 replace p0:=keepCell c2 p0
 replace qp0:=World.block_lt_of_cell? _ _ p0
 replace p1:=keepCell c2 p1
 replace hB:=belowT hB c2
 clear c2 d2
 have hB':=belowT hB (allocB w2 (.cells #[.int .i64 A,.int .i64 B] 23))
 go_wp2
 go_quiet (fail)
 go_wp2
 go_ret3
 exact ⟨rfl,belowN hB' _⟩
theorem rmul_ct {K:Nat} {a b:Int} (hK:K≤12) (ha: -4294967296≤a∧a≤4294967296) (hb: -4294967296≤b∧b≤4294967296) (w:World) :
 Calls Tryz.prog 33 #[.agg #[.int .i64 a,.int .i64 b],.agg #[.int .i64 (bet K).1,.int .i64 (bet K).2]] w fun e w'=>e=.returned (.tuple #[.agg #[.int .i64 (ctA K a b),.int .i64 (ctB K a b)],.bool true])∧Below w.heap.size w w':=by
 have hs:=bet_small hK
 have hc:=ct_box hK ha hb
 have eA:mulA a b (bet K).1 (bet K).2=ctA K a b:=by unfold mulA ctA;grind
 have eB:mulB a b (bet K).1 (bet K).2=ctB K a b:=by unfold mulB ctB;grind
 have MU:=refmul_yes a b (bet K).1 (bet K).2 (by omega) (by omega) (by omega) (by omega) (by omega) (by omega) (by omega) (by omega) (by rw [eA];exact fits_mk ⟨by omega,by omega⟩) (by rw [eB];exact fits_mk ⟨by omega,by omega⟩) w
 rw [eA,eB] at MU
 exact MU
theorem rcentre_yes (a b r:Int) (K:Nat) (hK:K≤12) (hr:12 - r=(K:Int)) (ha:In30 a) (hb:In30 b) (w:World) :
 Calls Tryz.prog 10 #[.agg #[.int .i64 a,.int .i64 b],.int .i64 r] w fun e w'=>e=.returned (.tuple #[.int .i64 (poX K a b),.int .i64 (poY K a b),.bool true])∧Below w.heap.size w w':=by
 obtain ⟨a1,a2⟩:=ha
 obtain ⟨b1,b2⟩:=hb
 have hc:=ct_box (a:=a) (b:=b) hK (by omega) (by omega)
 exact rcentre_core a b r _ _ (ctA K a b) (ctB K a b) (by omega) (by omega) a1 a2 b1 b2 (by omega) (by omega) (by omega) (by omega) (by rw [hr];exact refbeta_yes K (by omega)) (rmul_ct hK (by omega) (by omega)) w
end Go.Proofs.YtdklpgphmoaniaaGreatDoor
