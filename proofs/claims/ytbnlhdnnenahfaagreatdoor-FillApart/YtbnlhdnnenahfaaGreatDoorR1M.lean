/-
  What the texts EBeta, EUnit, ENear, PNear, PPoint say, so far as this seat's proofs need it.
-/
import Derived.Test.YtbnlhdnnenahfaaGreatDoorMM
import Derived.Test.YtbnlhdnnenahfaaGreatDoorE1M
import Derived.Lib.LaidU8
namespace Go.Proofs.YtbnlhdnnenahfaaGreatDoor
open Go.RowKit
set_option maxHeartbeats 1000000 in
theorem ebeta_yes (K:Nat) (hK:K≤20) (w:World) :
 Calls Tryz.prog 172 #[.int .i64 (K:Int)] w fun e w'=>e=.returned (.tuple #[.agg #[.int .i64 (bet K).1,.int .i64 (bet K).2],.bool true])∧Below w.heap.size w w':=by
 go_enter Tryz.func172,Tryz.ntmps172
 go_wp2_with fail
 go_loopw [5,15] (fun vo vi wr=>∃ q:Nat,q≤K∧vo=.bool true∧vi=.int .i64 (q:Int)∧Hid (BetAt w q wr)) (fun _ vi _=>K - (intOf vi).toNat)
 case atStart =>
  refine ⟨0,Nat.zero_le _,rfl,rfl,?_⟩
  show BetAt w 0 _
  exact ⟨by go_simp;rfl,by go_simp;rfl,by go_simp,by go_simp,by go_simp,by go_simp,by go_simp,by go_simp,by go_grown⟩
 case round =>
  obtain ⟨q,hq,rfl,rfl,HB⟩:=hrel
  obtain ⟨z0,z1,fz0,fz1,s0,s1,fs0,fs1,hb⟩:=HB.out
  clear HB
  have hz:w.heap.size+1 < wr.heap.size:=World.block_lt_of_cell? _ _ z0
  by_cases hlt:q < K
  · obtain ⟨b1,b2,b3,b4⟩:=bet_box q (by omega)
    obtain ⟨n1,n2,n3,n4⟩:=bet_box (q+1) (by omega)
    have HM:Hid (∀ w,Calls Tryz.prog 132 #[.agg #[.int .i64 (bet q).1,.int .i64 (bet q).2],.agg #[.int .i64 2,.int .i64 1]] w fun e w'=>e=.returned (.tuple #[.agg #[.int .i64 (bet (q+1)).1,.int .i64 (bet (q+1)).2],.bool true])∧Below w.heap.size w w') :=
     fun w=>by
      have h:=emul_any (bet q).1 (bet q).2 2 1 (by omega) (by omega) (by omega) (by omega) (by omega) (by omega) (by omega) (by omega) w
      have ex:(bet q).1*2 - (bet q).2*1=(bet (q+1)).1:=by show _=mulA (bet q).1 (bet q).2 2 1;unfold mulA;omega
      have ey:(bet q).1*1+(bet q).2*2+(bet q).2*1=(bet (q+1)).2:=by show _=mulB (bet q).1 (bet q).2 2 1;unfold mulB;omega
      rw [ex,ey] at h
      have hb:=both_mk (x:=(bet (q+1)).1) (y:=(bet (q+1)).2) (fits_mk ⟨by omega,by omega⟩) (fits_mk ⟨by omega,by omega⟩)
      rw [hb,keptA_mk hb,keptB_mk hb] at h
      exact h
    clear b1 b2 b3 b4 n1 n2 n3 n4
    obtain ⟨X,hX⟩:∃ X,(bet q).1=X:=⟨_,rfl⟩
    obtain ⟨Y,hY⟩:∃ Y,(bet q).2=Y:=⟨_,rfl⟩
    obtain ⟨U,hU⟩:∃ U,(bet (q+1)).1=U:=⟨_,rfl⟩
    obtain ⟨V,hV⟩:∃ V,(bet (q+1)).2=V:=⟨_,rfl⟩
    rw [hX,hY,hU,hV] at HM
    rw [hX] at z0
    rw [hY] at z1
    have HU:Hid ((bet (q+1)).1=U):=hU
    have HV:Hid ((bet (q+1)).2=V):=hV
    clear hX hY hU hV
    go_wp2_with fail
    refine (HM.out _).mono ?_
    rintro e w2 ⟨rfl,c2⟩
    have k0:=keepCell c2 z0
    have k1:=keepCell c2 z1
    have g0:=keepFrozen c2 z0 fz0
    have g1:=keepFrozen c2 z1 fz1
    have r0:=keepCell c2 s0
    have r1:=keepCell c2 s1
    have t0:=keepFrozen c2 s0 fs0
    have t1:=keepFrozen c2 s1 fs1
    have hb2:=belowT hb c2
    clear z0 z1 fz0 fz1 s0 s1 fs0 fs1 hb c2
    obtain ⟨y0,y1⟩:=two_stores (u:=.int .i64 U) (v:=.int .i64 V) k0 k1
    go_wp2
    go_roundw
    case rel =>
     refine ⟨q+1,by omega,rfl,by go_num,?_⟩
     show BetAt w (q+1) _
     unfold BetAt
     rw [HU.out,HV.out]
     refine ⟨y0,y1,by simp [g0],by simp [g1],?_,?_,by simp [t0],by simp [t1],(hb2.setCell (by simp) _).setCell (by simp) _⟩
     · rw [World.cell?_setCell_other _ _ _ _ (by simp),World.cell?_setCell_other _ _ _ _ (by simp)];exact r0
     · rw [World.cell?_setCell_other _ _ _ _ (by simp),World.cell?_setCell_other _ _ _ _ (by simp)];exact r1
    case measure=>simp [intOf];omega
  · obtain rfl:q=K:=by omega
    obtain ⟨X,hX⟩:∃ X,(bet q).1=X:=⟨_,rfl⟩
    obtain ⟨Y,hY⟩:∃ Y,(bet q).2=Y:=⟨_,rfl⟩
    rw [hX] at z0
    rw [hY] at z1
    have HX:Hid ((bet q).1=X):=hX
    have HY:Hid ((bet q).2=Y):=hY
    clear hX hY
    obtain ⟨y0,y1⟩:=two_stores (u:=.int .i64 X) (v:=.int .i64 Y) s0 s1
    go_wp2
    exact bodyPost_ret (v:=.tuple #[.agg #[.int .i64 X,.int .i64 Y],.bool true]) (by simp [results,Tryz.results172,go_sem,y0,y1]) rfl ⟨by rw [HX.out,HY.out],(hb.setCell (by simp) _).setCell (by simp) _⟩
def unitCells:Array Value:=#[.int .i64 1,.int .i64 0,.int .i64 0,.int .i64 1,.int .i64 (-1),.int .i64 1,.int .i64 (-1),.int .i64 0,.int .i64 0,.int .i64 (-1),.int .i64 1,.int .i64 (-1)]
def Uni (w:World):Prop:=w.var? Tryz.prog "apiary/eisen.units"=some unitCells
theorem gUni:Tryz.prog.globalNamed "apiary/eisen.units"=some 0:=by kernel_rfl
theorem Uni.cell {w:World} (h:Uni w) (i:Nat):w.cell? ⟨0,i,none⟩=unitCells[i]?:=World.var?_cell gUni h i
theorem Uni.below {w w':World} (h:Uni w) (hb:Below w.heap.size w w'):Uni w' :=
 var?_below hb gUni (World.block_lt_of_cell? _ _ (show w.cell? ⟨0,0,none⟩=some (.int .i64 1) from h.cell 0)) h
set_option maxHeartbeats 400000 in
theorem eunit_0 (k:Int) (k1: -9223372036854775808≤k) (k2:k≤9223372036854775807) (hj:k%6=0) (w:World) (hU:Uni w) :
 Calls Tryz.prog 93 #[.int .i64 k] w fun e w'=>e=.returned (.agg #[.int .i64 1,.int .i64 0])∧Below w.heap.size w w':=by
 have FL:=floor_any k 6 k1 k2 (by omega) (by omega)
 rw [hj] at FL
 clear hj
 replace FL:Hid _:=FL
 have hU0:Hid (Uni w):=hU
 clear hU
 go_enter Tryz.func93,Tryz.ntmps93
 go_wp2_with fail
 refine (FL.out _).mono ?_
 rintro e w1 ⟨rfl,hb⟩
 have hb0:Below w.heap.size w w1:=Below.trans (by go_grown) (hb.mono (by simp;try omega))
 have v0:w1.cell? ⟨0,0,none⟩=some (.int .i64 1):=(hU0.out.below hb0).cell 0
 have v1:w1.cell? ⟨0,1,none⟩=some (.int .i64 0):=(hU0.out.below hb0).cell 1
 obtain ⟨hc,hf⟩:=bcell hb
 have e0:w1.cell? ⟨w.heap.size,0,none⟩=some (.int .i64 0):=by rw [hc _ _ (by simp)];go_simp
 have e1:w1.cell? ⟨w.heap.size,1,none⟩=some (.int .i64 0):=by rw [hc _ _ (by simp)];go_simp
 obtain ⟨g0,g1⟩:=two_stores (u:=.int .i64 1) (v:=.int .i64 0) e0 e1
 go_wp2
 exact bodyPost_ret (v:=.agg #[.int .i64 1,.int .i64 0]) (by simp [results,Tryz.results93,go_sem,g0,g1]) rfl ⟨rfl,(hb0.setCell (by simp;try omega) _).setCell (by simp;try omega) _⟩
set_option maxHeartbeats 400000 in
theorem eunit_1 (k:Int) (k1: -9223372036854775808≤k) (k2:k≤9223372036854775807) (hj:k%6=1) (w:World) (hU:Uni w) :
 Calls Tryz.prog 93 #[.int .i64 k] w fun e w'=>e=.returned (.agg #[.int .i64 0,.int .i64 1])∧Below w.heap.size w w':=by
 have FL:=floor_any k 6 k1 k2 (by omega) (by omega)
 rw [hj] at FL
 clear hj
 replace FL:Hid _:=FL
 have hU0:Hid (Uni w):=hU
 clear hU
 go_enter Tryz.func93,Tryz.ntmps93
 go_wp2_with fail
 refine (FL.out _).mono ?_
 rintro e w1 ⟨rfl,hb⟩
 have hb0:Below w.heap.size w w1:=Below.trans (by go_grown) (hb.mono (by simp;try omega))
 have v0:w1.cell? ⟨0,2,none⟩=some (.int .i64 0):=(hU0.out.below hb0).cell 2
 have v1:w1.cell? ⟨0,3,none⟩=some (.int .i64 1):=(hU0.out.below hb0).cell 3
 obtain ⟨hc,hf⟩:=bcell hb
 have e0:w1.cell? ⟨w.heap.size,0,none⟩=some (.int .i64 0):=by rw [hc _ _ (by simp)];go_simp
 have e1:w1.cell? ⟨w.heap.size,1,none⟩=some (.int .i64 0):=by rw [hc _ _ (by simp)];go_simp
 obtain ⟨g0,g1⟩:=two_stores (u:=.int .i64 0) (v:=.int .i64 1) e0 e1
 go_wp2
 exact bodyPost_ret (v:=.agg #[.int .i64 0,.int .i64 1]) (by simp [results,Tryz.results93,go_sem,g0,g1]) rfl ⟨rfl,(hb0.setCell (by simp;try omega) _).setCell (by simp;try omega) _⟩
set_option maxHeartbeats 400000 in
theorem eunit_2 (k:Int) (k1: -9223372036854775808≤k) (k2:k≤9223372036854775807) (hj:k%6=2) (w:World) (hU:Uni w) :
 Calls Tryz.prog 93 #[.int .i64 k] w fun e w'=>e=.returned (.agg #[.int .i64 (-1),.int .i64 1])∧Below w.heap.size w w':=by
 have FL:=floor_any k 6 k1 k2 (by omega) (by omega)
 rw [hj] at FL
 clear hj
 replace FL:Hid _:=FL
 have hU0:Hid (Uni w):=hU
 clear hU
 go_enter Tryz.func93,Tryz.ntmps93
 go_wp2_with fail
 refine (FL.out _).mono ?_
 rintro e w1 ⟨rfl,hb⟩
 have hb0:Below w.heap.size w w1:=Below.trans (by go_grown) (hb.mono (by simp;try omega))
 have v0:w1.cell? ⟨0,4,none⟩=some (.int .i64 (-1)):=(hU0.out.below hb0).cell 4
 have v1:w1.cell? ⟨0,5,none⟩=some (.int .i64 1):=(hU0.out.below hb0).cell 5
 obtain ⟨hc,hf⟩:=bcell hb
 have e0:w1.cell? ⟨w.heap.size,0,none⟩=some (.int .i64 0):=by rw [hc _ _ (by simp)];go_simp
 have e1:w1.cell? ⟨w.heap.size,1,none⟩=some (.int .i64 0):=by rw [hc _ _ (by simp)];go_simp
 obtain ⟨g0,g1⟩:=two_stores (u:=.int .i64 (-1)) (v:=.int .i64 1) e0 e1
 go_wp2
 exact bodyPost_ret (v:=.agg #[.int .i64 (-1),.int .i64 1]) (by simp [results,Tryz.results93,go_sem,g0,g1]) rfl ⟨rfl,(hb0.setCell (by simp;try omega) _).setCell (by simp;try omega) _⟩
set_option maxHeartbeats 400000 in
theorem eunit_3 (k:Int) (k1: -9223372036854775808≤k) (k2:k≤9223372036854775807) (hj:k%6=3) (w:World) (hU:Uni w) :
 Calls Tryz.prog 93 #[.int .i64 k] w fun e w'=>e=.returned (.agg #[.int .i64 (-1),.int .i64 0])∧Below w.heap.size w w':=by
 have FL:=floor_any k 6 k1 k2 (by omega) (by omega)
 rw [hj] at FL
 clear hj
 replace FL:Hid _:=FL
 have hU0:Hid (Uni w):=hU
 clear hU
 go_enter Tryz.func93,Tryz.ntmps93
 go_wp2_with fail
 refine (FL.out _).mono ?_
 rintro e w1 ⟨rfl,hb⟩
 have hb0:Below w.heap.size w w1:=Below.trans (by go_grown) (hb.mono (by simp;try omega))
 have v0:w1.cell? ⟨0,6,none⟩=some (.int .i64 (-1)):=(hU0.out.below hb0).cell 6
 have v1:w1.cell? ⟨0,7,none⟩=some (.int .i64 0):=(hU0.out.below hb0).cell 7
 obtain ⟨hc,hf⟩:=bcell hb
 have e0:w1.cell? ⟨w.heap.size,0,none⟩=some (.int .i64 0):=by rw [hc _ _ (by simp)];go_simp
 have e1:w1.cell? ⟨w.heap.size,1,none⟩=some (.int .i64 0):=by rw [hc _ _ (by simp)];go_simp
 obtain ⟨g0,g1⟩:=two_stores (u:=.int .i64 (-1)) (v:=.int .i64 0) e0 e1
 go_wp2
 exact bodyPost_ret (v:=.agg #[.int .i64 (-1),.int .i64 0]) (by simp [results,Tryz.results93,go_sem,g0,g1]) rfl ⟨rfl,(hb0.setCell (by simp;try omega) _).setCell (by simp;try omega) _⟩
set_option maxHeartbeats 400000 in
theorem eunit_4 (k:Int) (k1: -9223372036854775808≤k) (k2:k≤9223372036854775807) (hj:k%6=4) (w:World) (hU:Uni w) :
 Calls Tryz.prog 93 #[.int .i64 k] w fun e w'=>e=.returned (.agg #[.int .i64 0,.int .i64 (-1)])∧Below w.heap.size w w':=by
 have FL:=floor_any k 6 k1 k2 (by omega) (by omega)
 rw [hj] at FL
 clear hj
 replace FL:Hid _:=FL
 have hU0:Hid (Uni w):=hU
 clear hU
 go_enter Tryz.func93,Tryz.ntmps93
 go_wp2_with fail
 refine (FL.out _).mono ?_
 rintro e w1 ⟨rfl,hb⟩
 have hb0:Below w.heap.size w w1:=Below.trans (by go_grown) (hb.mono (by simp;try omega))
 have v0:w1.cell? ⟨0,8,none⟩=some (.int .i64 0):=(hU0.out.below hb0).cell 8
 have v1:w1.cell? ⟨0,9,none⟩=some (.int .i64 (-1)):=(hU0.out.below hb0).cell 9
 obtain ⟨hc,hf⟩:=bcell hb
 have e0:w1.cell? ⟨w.heap.size,0,none⟩=some (.int .i64 0):=by rw [hc _ _ (by simp)];go_simp
 have e1:w1.cell? ⟨w.heap.size,1,none⟩=some (.int .i64 0):=by rw [hc _ _ (by simp)];go_simp
 obtain ⟨g0,g1⟩:=two_stores (u:=.int .i64 0) (v:=.int .i64 (-1)) e0 e1
 go_wp2
 exact bodyPost_ret (v:=.agg #[.int .i64 0,.int .i64 (-1)]) (by simp [results,Tryz.results93,go_sem,g0,g1]) rfl ⟨rfl,(hb0.setCell (by simp;try omega) _).setCell (by simp;try omega) _⟩
set_option maxHeartbeats 400000 in
theorem eunit_5 (k:Int) (k1: -9223372036854775808≤k) (k2:k≤9223372036854775807) (hj:k%6=5) (w:World) (hU:Uni w) :
 Calls Tryz.prog 93 #[.int .i64 k] w fun e w'=>e=.returned (.agg #[.int .i64 1,.int .i64 (-1)])∧Below w.heap.size w w':=by
 have FL:=floor_any k 6 k1 k2 (by omega) (by omega)
 rw [hj] at FL
 clear hj
 replace FL:Hid _:=FL
 have hU0:Hid (Uni w):=hU
 clear hU
 go_enter Tryz.func93,Tryz.ntmps93
 go_wp2_with fail
 refine (FL.out _).mono ?_
 rintro e w1 ⟨rfl,hb⟩
 have hb0:Below w.heap.size w w1:=Below.trans (by go_grown) (hb.mono (by simp;try omega))
 have v0:w1.cell? ⟨0,10,none⟩=some (.int .i64 1):=(hU0.out.below hb0).cell 10
 have v1:w1.cell? ⟨0,11,none⟩=some (.int .i64 (-1)):=(hU0.out.below hb0).cell 11
 obtain ⟨hc,hf⟩:=bcell hb
 have e0:w1.cell? ⟨w.heap.size,0,none⟩=some (.int .i64 0):=by rw [hc _ _ (by simp)];go_simp
 have e1:w1.cell? ⟨w.heap.size,1,none⟩=some (.int .i64 0):=by rw [hc _ _ (by simp)];go_simp
 obtain ⟨g0,g1⟩:=two_stores (u:=.int .i64 1) (v:=.int .i64 (-1)) e0 e1
 go_wp2
 exact bodyPost_ret (v:=.agg #[.int .i64 1,.int .i64 (-1)]) (by simp [results,Tryz.results93,go_sem,g0,g1]) rfl ⟨rfl,(hb0.setCell (by simp;try omega) _).setCell (by simp;try omega) _⟩
theorem eunit_any (k:Int) (k1: -9223372036854775808≤k) (k2:k≤9223372036854775807) (w:World) (hU:Uni w) :
 Calls Tryz.prog 93 #[.int .i64 k] w fun e w'=>e=.returned (.agg #[.int .i64 (unitA (k%6)),.int .i64 (unitB (k%6))])∧Below w.heap.size w w':=by
 have hc:k%6=0∨k%6=1∨k%6=2∨k%6=3∨k%6=4∨k%6=5:=by omega
 rcases hc with hc | hc | hc | hc | hc | hc
 · rw [hc];exact eunit_0 k k1 k2 hc w hU
 · rw [hc];exact eunit_1 k k1 k2 hc w hU
 · rw [hc];exact eunit_2 k k1 k2 hc w hU
 · rw [hc];exact eunit_3 k k1 k2 hc w hU
 · rw [hc];exact eunit_4 k k1 k2 hc w hU
 · rw [hc];exact eunit_5 k k1 k2 hc w hU
def betw (n l h:Int):Bool:=decide (l≤n∧n≤h)
set_option maxHeartbeats 400000 in
theorem within_yes (n l h:Int) (h1:l≤n) (h2:n≤h) (w:World) :
 Calls Tryz.prog 185 #[.int .i64 n,.int .i64 l,.int .i64 h] w fun e w'=>e=.returned (.bool true)∧w'=w:=by
 go_enter Tryz.func185,Tryz.ntmps185
 go_wp2
 go_ret
 exact ⟨rfl,rfl⟩
set_option maxHeartbeats 400000 in
theorem within_below (n l h:Int) (h1:decide (l≤n)=false) (w:World) :
 Calls Tryz.prog 185 #[.int .i64 n,.int .i64 l,.int .i64 h] w fun e w'=>e=.returned (.bool false)∧w'=w:=by
 go_enter Tryz.func185,Tryz.ntmps185
 go_wp2
 go_ret
 exact ⟨rfl,rfl⟩
set_option maxHeartbeats 400000 in
theorem within_above (n l h:Int) (h1:l≤n) (h2:decide (n≤h)=false) (w:World) :
 Calls Tryz.prog 185 #[.int .i64 n,.int .i64 l,.int .i64 h] w fun e w'=>e=.returned (.bool false)∧w'=w:=by
 go_enter Tryz.func185,Tryz.ntmps185
 go_wp2
 go_ret
 exact ⟨rfl,rfl⟩
theorem within_any (n l h:Int) (w:World) :
 Calls Tryz.prog 185 #[.int .i64 n,.int .i64 l,.int .i64 h] w fun e w'=>e=.returned (.bool (betw n l h))∧w'=w:=by
 by_cases h1:l≤n
 · by_cases h2:n≤h
   · rw [show betw n l h=true from decide_eq_true ⟨h1,h2⟩];exact within_yes n l h h1 h2 w
   · rw [show betw n l h=false from decide_eq_false (fun k=>h2 k.2)];exact within_above n l h h1 (df h2) w
 · rw [show betw n l h=false from decide_eq_false (fun k=>h1 k.1)];exact within_below n l h (df h1) w
set_option maxHeartbeats 400000 in
theorem side_0 (s t d:Int) (w:World) :
 Calls Tryz.prog 213 #[.agg #[.int .i64 s,.int .i64 t,.int .i64 d]] w fun e w'=>e=.returned (.int .i64 (farN s t d 0))∧Below w.heap.size w w':=by
 show Calls _ _ _ _ fun e w'=>e=.returned (.int .i64 (0))∧Below w.heap.size w w'
 go_enter Tryz.func213,Tryz.ntmps213
 go_wp2
 go_ret
 exact ⟨rfl,by go_grown⟩
set_option maxHeartbeats 400000 in
theorem side_1 (s t d:Int) (s0:0≤s) (s1:s < d) (t0:0≤t) (t1:t < d) (d2:d≤1125899906842624) (w:World) :
 Calls Tryz.prog 214 #[.agg #[.int .i64 s,.int .i64 t,.int .i64 d]] w fun e w'=>e=.returned (.int .i64 (farN s t d 1))∧Below w.heap.size w w':=by
 show Calls _ _ _ _ fun e w'=>e=.returned (.int .i64 (d - s - 2*t))∧Below w.heap.size w w'
 go_enter Tryz.func214,Tryz.ntmps214
 go_wp2
 go_ret
 exact ⟨rfl,by go_grown⟩
set_option maxHeartbeats 400000 in
theorem side_2 (s t d:Int) (s0:0≤s) (s1:s < d) (t0:0≤t) (t1:t < d) (d2:d≤1125899906842624) (w:World) :
 Calls Tryz.prog 215 #[.agg #[.int .i64 s,.int .i64 t,.int .i64 d]] w fun e w'=>e=.returned (.int .i64 (farN s t d 2))∧Below w.heap.size w w':=by
 show Calls _ _ _ _ fun e w'=>e=.returned (.int .i64 (d - 2*s - t))∧Below w.heap.size w w'
 go_enter Tryz.func215,Tryz.ntmps215
 go_wp2
 go_ret
 exact ⟨rfl,by go_grown⟩
set_option maxHeartbeats 400000 in
theorem side_3 (s t d:Int) (s0:0≤s) (s1:s < d) (t0:0≤t) (t1:t < d) (d2:d≤1125899906842624) (w:World) :
 Calls Tryz.prog 216 #[.agg #[.int .i64 s,.int .i64 t,.int .i64 d]] w fun e w'=>e=.returned (.int .i64 (farN s t d 3))∧Below w.heap.size w w':=by
 show Calls _ _ _ _ fun e w'=>e=.returned (.int .i64 (3*(d - s - t)))∧Below w.heap.size w w'
 go_enter Tryz.func216,Tryz.ntmps216
 go_wp2
 go_ret
 exact ⟨rfl,by go_grown⟩
theorem pick_yes {s t d l:Int} {k b:Nat} (h:pick s t d k=(b,l)) (hl:farN s t d k < l):pick s t d (k+1)=(k,farN s t d k):=by
 show (if farN s t d k < (pick s t d k).2 then (k,farN s t d k) else pick s t d k)=_
 rw [h];exact if_pos hl
theorem pick_no {s t d l:Int} {k b:Nat} (h:pick s t d k=(b,l)) (hl:¬ farN s t d k < l):pick s t d (k+1)=(b,l):=by
 show (if farN s t d k < (pick s t d k).2 then (k,farN s t d k) else pick s t d k)=_
 rw [h];exact if_neg hl
theorem sides_0 (w:World):(Instr.index 260 (.agg #[.func (.func 213) #[] #[],.func (.func 214) #[] #[],.func (.func 215) #[] #[],.func (.func 216) #[] #[]]) (.int .i64 0)).run Tryz.prog w=.ok (.func (.func 213) #[] #[]) w:=by kernel_rfl
theorem sides_1 (w:World):(Instr.index 260 (.agg #[.func (.func 213) #[] #[],.func (.func 214) #[] #[],.func (.func 215) #[] #[],.func (.func 216) #[] #[]]) (.int .i64 1)).run Tryz.prog w=.ok (.func (.func 214) #[] #[]) w:=by kernel_rfl
theorem sides_2 (w:World):(Instr.index 260 (.agg #[.func (.func 213) #[] #[],.func (.func 214) #[] #[],.func (.func 215) #[] #[],.func (.func 216) #[] #[]]) (.int .i64 2)).run Tryz.prog w=.ok (.func (.func 215) #[] #[]) w:=by kernel_rfl
theorem sides_3 (w:World):(Instr.index 260 (.agg #[.func (.func 213) #[] #[],.func (.func 214) #[] #[],.func (.func 215) #[] #[],.func (.func 216) #[] #[]]) (.int .i64 3)).run Tryz.prog w=.ok (.func (.func 216) #[] #[]) w:=by kernel_rfl
set_option maxHeartbeats 1000000 in
theorem nearest_any (s t d:Int) (s0:0≤s) (s1:s < d) (t0:0≤t) (t1:t < d) (d2:d≤1125899906842624) (w:World) :
 Calls Tryz.prog 186 #[.agg #[.int .i64 s,.int .i64 t,.int .i64 d]] w fun e w'=>e=.returned (.tuple #[.int .i64 (((pick s t d 4).1:Int) / 2),.int .i64 (((pick s t d 4).1:Int)%2)])∧Below w.heap.size w w':=by
 have C0:Hid (∀ w,Calls Tryz.prog 213 #[.agg #[.int .i64 s,.int .i64 t,.int .i64 d]] w fun e w'=>e=.returned (.int .i64 0)∧Below w.heap.size w w'):=side_0 s t d
 have C1:Hid (∀ w,Calls Tryz.prog 214 #[.agg #[.int .i64 s,.int .i64 t,.int .i64 d]] w fun e w'=>e=.returned (.int .i64 (farN s t d 1))∧Below w.heap.size w w'):=side_1 s t d s0 s1 t0 t1 d2
 have C2:Hid (∀ w,Calls Tryz.prog 215 #[.agg #[.int .i64 s,.int .i64 t,.int .i64 d]] w fun e w'=>e=.returned (.int .i64 (farN s t d 2))∧Below w.heap.size w w'):=side_2 s t d s0 s1 t0 t1 d2
 have C3:Hid (∀ w,Calls Tryz.prog 216 #[.agg #[.int .i64 s,.int .i64 t,.int .i64 d]] w fun e w'=>e=.returned (.int .i64 (farN s t d 3))∧Below w.heap.size w w'):=side_3 s t d s0 s1 t0 t1 d2
 clear s0 s1 t0 t1 d2
 go_enter Tryz.func186,Tryz.ntmps186
 go_wp2_with fail
 refine (C0.out _).mono ?_
 rintro e w1 ⟨rfl,c1⟩
 obtain ⟨hc,hf⟩:=bcell c1
 have x0:w1.cell? ⟨w.heap.size,0,none⟩=some (.int .i64 s):=by rw [hc _ _ (by simp)];go_simp
 have x1:w1.cell? ⟨w.heap.size,1,none⟩=some (.int .i64 t):=by rw [hc _ _ (by simp)];go_simp
 have x2:w1.cell? ⟨w.heap.size,2,none⟩=some (.int .i64 d):=by rw [hc _ _ (by simp)];go_simp
 have hb1:Below w.heap.size w w1:=Below.trans (by go_grown) (c1.mono (by simp;try omega))
 clear hc hf c1
 go_wp2_with fail
 go_loopw [4,5,12] (fun vb vl vi wr=>∃ (k b:Nat) (l:Int),k≤4∧b≤3∧vi=.int .i64 (k:Int)∧vb=.int .i64 (b:Int)∧vl=.int .i64 l∧Hid (pick s t d k=(b,l))∧wr.cell? ⟨w.heap.size,0,none⟩=some (.int .i64 s)∧wr.cell? ⟨w.heap.size,1,none⟩=some (.int .i64 t)∧wr.cell? ⟨w.heap.size,2,none⟩=some (.int .i64 d)∧Below w.heap.size w wr) (fun _ _ vi _=>4 - (intOf vi).toNat)
 case atStart=>exact ⟨0,0,0,by omega,by omega,rfl,rfl,rfl,rfl,x0,x1,x2,hb1⟩
 case round =>
  obtain ⟨k,b,l,hk,hb,rfl,rfl,rfl,HP,y0,y1,y2,hB⟩:=hrel
  clear x0 x1 x2 hb1
  have ck:k=0∨k=1∨k=2∨k=3∨k=4:=by omega
  rcases ck with rfl | rfl | rfl | rfl | rfl
  · have CK:=C0
    clear C0 C1 C2 C3
    have HI:=sides_0
    by_cases hlt:0 < l
    · go_wp2_with fail
      refine (CK.out _).mono ?_
      rintro e w2 ⟨rfl,c2⟩
      have z0:=keepCell c2 y0
      have z1:=keepCell c2 y1
      have z2:=keepCell c2 y2
      have hB2:=belowT hB c2
      clear y0 y1 y2 hB c2
      go_wp2
      go_roundw
      case rel=>exact ⟨1,0,0,by omega,by omega,rfl,rfl,rfl,by show pick s t d (0+1)=_;rw [pick_yes HP.out (by exact hlt)];rfl,z0,z1,z2,hB2⟩
      case measure=>simp [intOf]
    · have hlt':=df hlt
      go_wp2_with fail
      refine (CK.out _).mono ?_
      rintro e w2 ⟨rfl,c2⟩
      have z0:=keepCell c2 y0
      have z1:=keepCell c2 y1
      have z2:=keepCell c2 y2
      have hB2:=belowT hB c2
      clear y0 y1 y2 hB c2
      go_wp2
      go_roundw
      case rel=>exact ⟨1,b,l,by omega,by omega,rfl,rfl,rfl,pick_no HP.out (by show ¬ (0:Int) < l;omega),z0,z1,z2,hB2⟩
      case measure=>simp [intOf]
  · obtain ⟨f,hF⟩:∃ f,farN s t d 1=f:=⟨_,rfl⟩
    have CK:=C1
    rw [hF] at CK
    replace hF:Hid _:=hF
    clear C0 C1 C2 C3
    have HI:=sides_1
    by_cases hlt:f < l
    · go_wp2_with fail
      refine (CK.out _).mono ?_
      rintro e w2 ⟨rfl,c2⟩
      have z0:=keepCell c2 y0
      have z1:=keepCell c2 y1
      have z2:=keepCell c2 y2
      have hB2:=belowT hB c2
      clear y0 y1 y2 hB c2
      go_wp2
      go_roundw
      case rel=>exact ⟨2,1,f,by omega,by omega,rfl,rfl,rfl,by show pick s t d (1+1)=_;rw [pick_yes HP.out (by rw [hF.out];exact hlt)];rw [hF.out],z0,z1,z2,hB2⟩
      case measure=>simp [intOf]
    · have hlt':=df hlt
      go_wp2_with fail
      refine (CK.out _).mono ?_
      rintro e w2 ⟨rfl,c2⟩
      have z0:=keepCell c2 y0
      have z1:=keepCell c2 y1
      have z2:=keepCell c2 y2
      have hB2:=belowT hB c2
      clear y0 y1 y2 hB c2
      go_wp2
      go_roundw
      case rel=>exact ⟨2,b,l,by omega,by omega,rfl,rfl,rfl,pick_no HP.out (by rw [hF.out];omega),z0,z1,z2,hB2⟩
      case measure=>simp [intOf]
  · obtain ⟨f,hF⟩:∃ f,farN s t d 2=f:=⟨_,rfl⟩
    have CK:=C2
    rw [hF] at CK
    replace hF:Hid _:=hF
    clear C0 C1 C2 C3
    have HI:=sides_2
    by_cases hlt:f < l
    · go_wp2_with fail
      refine (CK.out _).mono ?_
      rintro e w2 ⟨rfl,c2⟩
      have z0:=keepCell c2 y0
      have z1:=keepCell c2 y1
      have z2:=keepCell c2 y2
      have hB2:=belowT hB c2
      clear y0 y1 y2 hB c2
      go_wp2
      go_roundw
      case rel=>exact ⟨3,2,f,by omega,by omega,rfl,rfl,rfl,by show pick s t d (2+1)=_;rw [pick_yes HP.out (by rw [hF.out];exact hlt)];rw [hF.out],z0,z1,z2,hB2⟩
      case measure=>simp [intOf]
    · have hlt':=df hlt
      go_wp2_with fail
      refine (CK.out _).mono ?_
      rintro e w2 ⟨rfl,c2⟩
      have z0:=keepCell c2 y0
      have z1:=keepCell c2 y1
      have z2:=keepCell c2 y2
      have hB2:=belowT hB c2
      clear y0 y1 y2 hB c2
      go_wp2
      go_roundw
      case rel=>exact ⟨3,b,l,by omega,by omega,rfl,rfl,rfl,pick_no HP.out (by rw [hF.out];omega),z0,z1,z2,hB2⟩
      case measure=>simp [intOf]
  · obtain ⟨f,hF⟩:∃ f,farN s t d 3=f:=⟨_,rfl⟩
    have CK:=C3
    rw [hF] at CK
    replace hF:Hid _:=hF
    clear C0 C1 C2 C3
    have HI:=sides_3
    by_cases hlt:f < l
    · go_wp2_with fail
      refine (CK.out _).mono ?_
      rintro e w2 ⟨rfl,c2⟩
      have z0:=keepCell c2 y0
      have z1:=keepCell c2 y1
      have z2:=keepCell c2 y2
      have hB2:=belowT hB c2
      clear y0 y1 y2 hB c2
      go_wp2
      go_roundw
      case rel=>exact ⟨4,3,f,by omega,by omega,rfl,rfl,rfl,by show pick s t d (3+1)=_;rw [pick_yes HP.out (by rw [hF.out];exact hlt)];rw [hF.out],z0,z1,z2,hB2⟩
      case measure=>simp [intOf]
    · have hlt':=df hlt
      go_wp2_with fail
      refine (CK.out _).mono ?_
      rintro e w2 ⟨rfl,c2⟩
      have z0:=keepCell c2 y0
      have z1:=keepCell c2 y1
      have z2:=keepCell c2 y2
      have hB2:=belowT hB c2
      clear y0 y1 y2 hB c2
      go_wp2
      go_roundw
      case rel=>exact ⟨4,b,l,by omega,by omega,rfl,rfl,rfl,pick_no HP.out (by rw [hF.out];omega),z0,z1,z2,hB2⟩
      case measure=>simp [intOf]
  · clear C0 C1 C2 C3
    go_wp2
    go_ret2
    exact ⟨by rw [HP.out];rfl,hB⟩
set_option maxHeartbeats 1000000 in
theorem eround_see (u v d:Int) (u1: -1152921504606846976≤u) (u2:u≤1152921504606846976) (v1: -1152921504606846976≤v) (v2:v≤1152921504606846976) (d1:1≤d) (d2:d≤1125899906842624) (w:World) :
 Calls Tryz.prog 147 #[.agg #[.int .i64 u,.int .i64 v],.int .i64 d] w fun e w'=>TellsR d u v e∧Below w.heap.size w w':=by
 have q1: -1152921504606846976≤u / d∧u / d≤1152921504606846976:=div_box u1 u2 d1
 have q2: -1152921504606846976≤v / d∧v / d≤1152921504606846976:=div_box v1 v2 d1
 have r1:=Int.emod_nonneg u (b:=d) (by omega)
 have r2:=Int.emod_lt_of_pos u (b:=d) (by omega)
 have r3:=Int.emod_nonneg v (b:=d) (by omega)
 have r4:=Int.emod_lt_of_pos v (b:=d) (by omega)
 have E1:Hid (u=d*(u / d)+u%d):=(Int.mul_ediv_add_emod u d).symm
 have E2:Hid (v=d*(v / d)+v%d):=(Int.mul_ediv_add_emod v d).symm
 have F1:∀ w,Calls Tryz.prog 137 #[.int .i64 u,.int .i64 d] w fun e w'=>e=.returned (.tuple #[.int .i64 (u / d),.int .i64 (u%d),.bool true])∧Below w.heap.size w w':=floor_any u d (by omega) (by omega) (by omega) (by omega)
 have F2:∀ w,Calls Tryz.prog 137 #[.int .i64 v,.int .i64 d] w fun e w'=>e=.returned (.tuple #[.int .i64 (v / d),.int .i64 (v%d),.bool true])∧Below w.heap.size w w':=floor_any v d (by omega) (by omega) (by omega) (by omega)
 generalize u / d=a at q1 E1 F1
 generalize v / d=b at q2 E2 F2
 generalize u%d=s at r1 r2 E1 F1
 generalize v%d=t at r3 r4 E2 F2
 have PN:=pick_near r1 r2 r3 r4
 have hN:Nearest d u v (a+(((pick s t d 4).1:Nat):Int) / 2) (b+(((pick s t d 4).1:Nat):Int)%2):=nearest_of E1.out E2.out PN.1 PN.2
 have NE:=nearest_any s t d r1 r2 r3 r4 d2
 have hp:0≤(((pick s t d 4).1:Nat):Int)∧(((pick s t d 4).1:Nat):Int)≤4:=by have:=pick_lt s t d 4;omega
 generalize (((pick s t d 4).1:Nat):Int)=p at hN NE hp
 obtain ⟨i,hi⟩:∃ i,p / 2=i:=⟨_,rfl⟩
 obtain ⟨k,hk⟩:∃ k,p%2=k:=⟨_,rfl⟩
 have i1:0≤i∧i≤2:=by omega
 have k1:0≤k∧k≤1:=by omega
 rw [hi,hk] at hN NE
 replace F1:Hid _:=F1
 replace F2:Hid _:=F2
 replace NE:Hid _:=NE
 replace hN:Hid _:=hN
 have b1:betw d 1 1125899906842624=true:=decide_eq_true ⟨d1,d2⟩
 have b2:betw u (-1152921504606846976) 1152921504606846976=true:=decide_eq_true ⟨u1,u2⟩
 have b3:betw v (-1152921504606846976) 1152921504606846976=true:=decide_eq_true ⟨v1,v2⟩
 clear PN hi hk hp E1 E2 r1 r2 r3 r4
 go_enter Tryz.func147,Tryz.ntmps147
 go_wp2_with (first | (go_at_call 185;refine (within_any _ _ _ _).mono ?_;rintro e w' ⟨rfl,rfl⟩))
 go_wp2_with fail
 refine (F1.out _).mono ?_
 rintro e w1 ⟨rfl,c1⟩
 obtain ⟨hc,hf⟩:=bcell c1
 go_wp2_with fail
 refine (F2.out _).mono ?_
 rintro e w2 ⟨rfl,c2⟩
 replace c2:=belowT c1 c2
 clear c1 hc hf
 obtain ⟨hc,hf⟩:=bcell c2
 go_wp2_with fail
 refine (NE.out _).mono ?_
 rintro e w3 ⟨rfl,c3⟩
 replace c3:=belowT c2 c3
 clear c2 hc hf
 obtain ⟨hc,hf⟩:=bcell c3
 have e0:w3.cell? ⟨w.heap.size+1,0,none⟩=some (.int .i64 0):=by rw [hc _ _ (by simp)];go_simp
 have e1:w3.cell? ⟨w.heap.size+1,1,none⟩=some (.int .i64 0):=by rw [hc _ _ (by simp)];go_simp
 obtain ⟨g0,g1⟩:=two_stores (u:=.int .i64 (a+i)) (v:=.int .i64 (b+k)) e0 e1
 have hB:Below w.heap.size w w3:=Below.trans (by go_grown) (c3.mono (by simp;try omega))
 go_wp2
 exact bodyPost_ret (v:=.tuple #[.agg #[.int .i64 (a+i),.int .i64 (b+k)],.bool true]) (by simp [results,Tryz.results147,go_sem,g0,g1]) rfl ⟨⟨a+i,b+k,rfl,hN.out⟩,(hB.setCell (by simp;try omega) _).setCell (by simp;try omega) _⟩
set_option maxHeartbeats 400000 in
theorem pok_yes (x y:Int) (h1:0≤x) (h2:x < 1073741824) (h3:0≤y) (h4:y < 1073741824) (w:World) :
 Calls Tryz.prog 90 #[.int .i64 x,.int .i64 y] w fun e w'=>e=.returned (.bool true)∧w'=w:=by
 go_enter Tryz.func90,Tryz.ntmps90
 go_wp2
 go_ret
 exact ⟨rfl,rfl⟩
set_option maxHeartbeats 400000 in
theorem pok_no1 (x y:Int) (h1:decide (0≤x)=false) (w:World) :
 Calls Tryz.prog 90 #[.int .i64 x,.int .i64 y] w fun e w'=>e=.returned (.bool false)∧w'=w:=by
 go_enter Tryz.func90,Tryz.ntmps90
 go_wp2
 go_ret
 exact ⟨rfl,rfl⟩
set_option maxHeartbeats 400000 in
theorem pok_no2 (x y:Int) (h1:0≤x) (h2:decide (x < 1073741824)=false) (w:World) :
 Calls Tryz.prog 90 #[.int .i64 x,.int .i64 y] w fun e w'=>e=.returned (.bool false)∧w'=w:=by
 go_enter Tryz.func90,Tryz.ntmps90
 go_wp2
 go_ret
 exact ⟨rfl,rfl⟩
set_option maxHeartbeats 400000 in
theorem pok_no3 (x y:Int) (h1:0≤x) (h2:x < 1073741824) (h3:decide (0≤y)=false) (w:World) :
 Calls Tryz.prog 90 #[.int .i64 x,.int .i64 y] w fun e w'=>e=.returned (.bool false)∧w'=w:=by
 go_enter Tryz.func90,Tryz.ntmps90
 go_wp2
 go_ret
 exact ⟨rfl,rfl⟩
set_option maxHeartbeats 400000 in
theorem pok_no4 (x y:Int) (h1:0≤x) (h2:x < 1073741824) (h3:0≤y) (h4:decide (y < 1073741824)=false) (w:World) :
 Calls Tryz.prog 90 #[.int .i64 x,.int .i64 y] w fun e w'=>e=.returned (.bool false)∧w'=w:=by
 go_enter Tryz.func90,Tryz.ntmps90
 go_wp2
 go_ret
 exact ⟨rfl,rfl⟩
theorem pok_any (x y:Int) (w:World) :
 Calls Tryz.prog 90 #[.int .i64 x,.int .i64 y] w fun e w'=>e=.returned (.bool (inWB x y))∧w'=w:=by
 by_cases h1:0≤x
 · by_cases h2:x < 1073741824
   · by_cases h3:0≤y
     · by_cases h4:y < 1073741824
       · rw [inWB_mk ⟨h1,h2,h3,h4⟩];exact pok_yes x y h1 h2 h3 h4 w
       · rw [inWB_not fun h=>h4 h.2.2.2];exact pok_no4 x y h1 h2 h3 (df h4) w
     · rw [inWB_not fun h=>h3 h.2.2.1];exact pok_no3 x y h1 h2 (df h3) w
   · rw [inWB_not fun h=>h2 h.2.1];exact pok_no2 x y h1 (df h2) w
 · rw [inWB_not fun h=>h1 h.1];exact pok_no1 x y (df h1) w
theorem pok_at (x y:Int) (v:Bool) (h:inWB x y=v) (w:World) :
 Calls Tryz.prog 90 #[.int .i64 x,.int .i64 y] w fun e w'=>e=.returned (.bool v)∧Below w.heap.size w w':=by
 rw [← h];exact (pok_any x y w).mono fun e w' ⟨he,hw⟩=>⟨he,by rw [hw];exact Below.refl _ _⟩
set_option maxHeartbeats 400000 in
theorem paxial_yes (x y u v:Int) (hw:InW x y) (hu:45*x - 26*y=u) (hv:52*y=v) (w:World) :
 Calls Tryz.prog 144 #[.int .i64 x,.int .i64 y] w fun e w'=>e=.returned (.tuple #[.agg #[.int .i64 u,.int .i64 v],.bool true])∧Below w.heap.size w w':=by
 have OK:Hid (∀ w,Calls Tryz.prog 90 #[.int .i64 x,.int .i64 y] w fun e w'=>e=.returned (.bool true)∧w'=w):=pok_yes x y hw.1 hw.2.1 hw.2.2.1 hw.2.2.2
 obtain ⟨h1,h2,h3,h4⟩:=hw
 go_enter Tryz.func144,Tryz.ntmps144
 go_wp2_with fail
 refine (OK.out _).mono ?_
 rintro e w1 ⟨rfl,rfl⟩
 go_wp2
 exact bodyPost_ret (v:=.tuple #[.agg #[.int .i64 u,.int .i64 v],.bool true]) (by simp [results,Tryz.results144,go_sem]) rfl ⟨rfl,by go_grown⟩
set_option maxHeartbeats 400000 in
theorem pstep_yes (r:Int) (K:Nat) (hK:K≤12) (hr:12 - r=(K:Int)) (w:World) :
 Calls Tryz.prog 130 #[.int .i64 r] w fun e w'=>e=.returned (.tuple #[.agg #[.int .i64 (bet K).1,.int .i64 (bet K).2],.bool true])∧Below w.heap.size w w':=by
 have BE:Hid (∀ w,Calls Tryz.prog 172 #[.int .i64 (12 - r)] w fun e w'=>e=.returned (.tuple #[.agg #[.int .i64 (bet K).1,.int .i64 (bet K).2],.bool true])∧Below w.heap.size w w'):=fun w=>by rw [hr];exact ebeta_yes K (by omega) w
 have r0:0≤r:=by omega
 have r1:r≤12:=by omega
 clear hr
 generalize (bet K).1=X at *
 generalize (bet K).2=Y at *
 go_enter Tryz.func130,Tryz.ntmps130
 go_wp2_with fail
 refine (BE.out _).mono ?_
 rintro e w1 ⟨rfl,c1⟩
 obtain ⟨hc,hf⟩:=bcell c1
 have e0:w1.cell? ⟨w.heap.size,0,none⟩=some (.int .i64 0):=by rw [hc _ _ (by simp)];go_simp
 have e1:w1.cell? ⟨w.heap.size,1,none⟩=some (.int .i64 0):=by rw [hc _ _ (by simp)];go_simp
 obtain ⟨g0,g1⟩:=two_stores (u:=.int .i64 X) (v:=.int .i64 Y) e0 e1
 have hB:Below w.heap.size w w1:=Below.trans (by go_grown) (c1.mono (by simp;try omega))
 go_wp2
 exact bodyPost_ret (v:=.tuple #[.agg #[.int .i64 X,.int .i64 Y],.bool true]) (by simp [results,Tryz.results130,go_sem,g0,g1]) rfl ⟨rfl,(hB.setCell (by simp;try omega) _).setCell (by simp;try omega) _⟩
set_option maxHeartbeats 2000000 in
theorem pnear_core (x y r u v X Y c d N A B:Int) (P:Int→Int→Prop) (N1:1≤N) (N2:N≤13841287201)
 (AX:∀ w,Calls Tryz.prog 144 #[.int .i64 x,.int .i64 y] w fun e w'=>e=.returned (.tuple #[.agg #[.int .i64 u,.int .i64 v],.bool true])∧Below w.heap.size w w')
 (ST:∀ w,Calls Tryz.prog 130 #[.int .i64 r] w fun e w'=>e=.returned (.tuple #[.agg #[.int .i64 X,.int .i64 Y],.bool true])∧Below w.heap.size w w')
 (CJ:∀ w,Calls Tryz.prog 145 #[.agg #[.int .i64 X,.int .i64 Y]] w fun e w'=>e=.returned (.tuple #[.agg #[.int .i64 c,.int .i64 d],.bool true])∧Below w.heap.size w w')
 (MU:∀ w,Calls Tryz.prog 132 #[.agg #[.int .i64 u,.int .i64 v],.agg #[.int .i64 c,.int .i64 d]] w fun e w'=>e=.returned (.tuple #[.agg #[.int .i64 A,.int .i64 B],.bool true])∧Below w.heap.size w w')
 (NO:∀ w,Calls Tryz.prog 146 #[.agg #[.int .i64 X,.int .i64 Y]] w fun e w'=>e=.returned (.tuple #[.int .i64 N,.bool true])∧Below w.heap.size w w')
 (RO:∀ w,Calls Tryz.prog 147 #[.agg #[.int .i64 A,.int .i64 B],.int .i64 (2340*N)] w fun e w'=>TellsP P e∧Below w.heap.size w w')
 (w:World) :
 Calls Tryz.prog 98 #[.int .i64 x,.int .i64 y,.int .i64 r] w fun e w'=>TellsP P e∧Below w.heap.size w w':=by
 replace AX:Hid _:=AX
 replace ST:Hid _:=ST
 replace CJ:Hid _:=CJ
 replace MU:Hid _:=MU
 replace NO:Hid _:=NO
 replace RO:Hid _:=RO
 go_enter Tryz.func98,Tryz.ntmps98
 go_wp2_with fail
 refine (AX.out _).mono ?_
 rintro e w1 ⟨rfl,d1⟩
 have c1:Below w.heap.size w w1:=Below.trans (by go_grown) (d1.mono (by simp;try omega))
 have r0:w1.cell? ⟨w.heap.size,0,none⟩=some (.int .i64 0):=keepCell d1 (by go_simp)
 have fr0:w1.frozen? ⟨w.heap.size,0,none⟩=false:=keepFrozen (v:=.int .i64 0) d1 (by go_simp) (by go_simp)
 have qr0:=World.block_lt_of_cell? _ _ r0
 have r1:w1.cell? ⟨w.heap.size,1,none⟩=some (.int .i64 0):=keepCell d1 (by go_simp)
 have fr1:w1.frozen? ⟨w.heap.size,1,none⟩=false:=keepFrozen (v:=.int .i64 0) d1 (by go_simp) (by go_simp)
 have hB:=c1
 clear c1 d1
 have n1:¬ w1.heap.size=w.heap.size:=Nat.ne_of_gt qr0
 have l1:w.heap.size≤w1.heap.size:=Nat.le_of_lt qr0
 go_wp2_with fail
 refine (ST.out _).mono ?_
 rintro e w2 ⟨rfl,d2⟩
 have c2:Below w1.heap.size w1 w2:=Below.trans (by go_grown) (d2.mono (by simp;try omega))
 replace fr0:=keepFrozen c2 r0 fr0
 replace r0:=keepCell c2 r0
 replace qr0:=World.block_lt_of_cell? _ _ r0
 replace fr1:=keepFrozen c2 r1 fr1
 replace r1:=keepCell c2 r1
 have p0:w2.cell? ⟨w1.heap.size,0,none⟩=some (.int .i64 u):=keepCell d2 (by go_simp)
 have fp0:w2.frozen? ⟨w1.heap.size,0,none⟩=false:=keepFrozen (v:=.int .i64 u) d2 (by go_simp) (by go_simp)
 have qp0:=World.block_lt_of_cell? _ _ p0
 have p1:w2.cell? ⟨w1.heap.size,1,none⟩=some (.int .i64 v):=keepCell d2 (by go_simp)
 have fp1:w2.frozen? ⟨w1.heap.size,1,none⟩=false:=keepFrozen (v:=.int .i64 v) d2 (by go_simp) (by go_simp)
 replace hB:=belowT hB c2
 clear c2 d2
 have n2:¬ w1.heap.size=w2.heap.size:=Nat.ne_of_lt qp0
 go_wp2_with fail
 refine (CJ.out _).mono ?_
 rintro e w3 ⟨rfl,d3⟩
 have c3:Below w2.heap.size w2 w3:=Below.trans (by go_grown) (d3.mono (by simp;try omega))
 replace fr0:=keepFrozen c3 r0 fr0
 replace r0:=keepCell c3 r0
 replace qr0:=World.block_lt_of_cell? _ _ r0
 replace fr1:=keepFrozen c3 r1 fr1
 replace r1:=keepCell c3 r1
 replace fp0:=keepFrozen c3 p0 fp0
 replace p0:=keepCell c3 p0
 replace qp0:=World.block_lt_of_cell? _ _ p0
 replace fp1:=keepFrozen c3 p1 fp1
 replace p1:=keepCell c3 p1
 have s0:w3.cell? ⟨w2.heap.size,0,none⟩=some (.int .i64 X):=keepCell d3 (by go_simp)
 have qs0:=World.block_lt_of_cell? _ _ s0
 have s1:w3.cell? ⟨w2.heap.size,1,none⟩=some (.int .i64 Y):=keepCell d3 (by go_simp)
 replace hB:=belowT hB c3
 clear c3 d3
 go_wp2_with fail
 refine (MU.out _).mono ?_
 rintro e w4 ⟨rfl,d4⟩
 have c4:Below w3.heap.size w3 w4:=Below.trans (by go_grown) (d4.mono (by simp;try omega))
 replace fr0:=keepFrozen c4 r0 fr0
 replace r0:=keepCell c4 r0
 replace qr0:=World.block_lt_of_cell? _ _ r0
 replace fr1:=keepFrozen c4 r1 fr1
 replace r1:=keepCell c4 r1
 replace fp0:=keepFrozen c4 p0 fp0
 replace p0:=keepCell c4 p0
 replace qp0:=World.block_lt_of_cell? _ _ p0
 replace fp1:=keepFrozen c4 p1 fp1
 replace p1:=keepCell c4 p1
 replace s0:=keepCell c4 s0
 replace qs0:=World.block_lt_of_cell? _ _ s0
 replace s1:=keepCell c4 s1
 have c0:w4.cell? ⟨w3.heap.size,0,none⟩=some (.int .i64 c):=keepCell d4 (by go_simp)
 have qc0:=World.block_lt_of_cell? _ _ c0
 have c1:w4.cell? ⟨w3.heap.size,1,none⟩=some (.int .i64 d):=keepCell d4 (by go_simp)
 replace hB:=belowT hB c4
 clear c4 d4
 go_wp2_with fail
 have q0:=store_keep (u:=.int .i64 B) (q:=⟨w1.heap.size,1,none⟩) (store_new (u:=.int .i64 A) p0) (by simp)
 have q1:=store_new (u:=.int .i64 B) (store_keep (u:=.int .i64 A) (q:=⟨w1.heap.size,0,none⟩) p1 (by simp))
 have k0:=store_keep (u:=.int .i64 B) (q:=⟨w1.heap.size,1,none⟩) (store_keep (u:=.int .i64 A) (q:=⟨w1.heap.size,0,none⟩) r0 (by simp)) (by simp)
 have k1:=store_keep (u:=.int .i64 B) (q:=⟨w1.heap.size,1,none⟩) (store_keep (u:=.int .i64 A) (q:=⟨w1.heap.size,0,none⟩) r1 (by simp)) (by simp)
 have fk0:((w4.setCell ⟨w1.heap.size,0,none⟩ (.int .i64 A)).setCell ⟨w1.heap.size,1,none⟩ (.int .i64 B)).frozen? ⟨w.heap.size,0,none⟩=false:=by simp [fr0]
 have fk1:((w4.setCell ⟨w1.heap.size,0,none⟩ (.int .i64 A)).setCell ⟨w1.heap.size,1,none⟩ (.int .i64 B)).frozen? ⟨w.heap.size,1,none⟩=false:=by simp [fr1]
 replace hB:=(hB.setCell (p:=⟨w1.heap.size,0,none⟩) (by exact l1) (.int .i64 A)).setCell (p:=⟨w1.heap.size,1,none⟩) (by exact l1) (.int .i64 B)
 clear p0 p1 r0 r1 s0 s1 c0 c1 qr0 qp0 qs0 qc0 fr0 fr1 fp0 fp1
 generalize (w4.setCell ⟨w1.heap.size,0,none⟩ (.int .i64 A)).setCell ⟨w1.heap.size,1,none⟩ (.int .i64 B)=wc at *
 have qq0:=World.block_lt_of_cell? _ _ q0
 have qk0:=World.block_lt_of_cell? _ _ k0
 go_wp2_with fail
 refine (NO.out _).mono ?_
 rintro e v1 ⟨rfl,d1⟩
 have c1:Below wc.heap.size wc v1:=Below.trans (by go_grown) (d1.mono (by simp;try omega))
 replace q0:=keepCell c1 q0
 replace qq0:=World.block_lt_of_cell? _ _ q0
 replace q1:=keepCell c1 q1
 replace fk0:=keepFrozen c1 k0 fk0
 replace k0:=keepCell c1 k0
 replace qk0:=World.block_lt_of_cell? _ _ k0
 replace fk1:=keepFrozen c1 k1 fk1
 replace k1:=keepCell c1 k1
 replace hB:=belowT hB c1
 clear c1 d1
 go_wp2_with fail
 refine (RO.out _).mono ?_
 rintro e v2 ⟨⟨a,b,rfl,hn⟩,d2⟩
 have c2:Below v1.heap.size v1 v2:=Below.trans (by go_grown) (d2.mono (by simp;try omega))
 replace q0:=keepCell c2 q0
 replace qq0:=World.block_lt_of_cell? _ _ q0
 replace q1:=keepCell c2 q1
 replace fk0:=keepFrozen c2 k0 fk0
 replace k0:=keepCell c2 k0
 replace qk0:=World.block_lt_of_cell? _ _ k0
 replace fk1:=keepFrozen c2 k1 fk1
 replace k1:=keepCell c2 k1
 replace hB:=belowT hB c2
 clear c2 d2
 obtain ⟨g0,g1⟩:=two_stores (u:=.int .i64 a) (v:=.int .i64 b) k0 k1
 go_wp2
 exact bodyPost_ret (v:=.tuple #[.agg #[.int .i64 a,.int .i64 b],.bool true]) (by simp [results,Tryz.results98,go_sem,g0,g1]) rfl ⟨⟨a,b,rfl,hn⟩,(hB.setCell (by simp) _).setCell (by simp) _⟩
theorem pnear_see (x y r:Int) (K:Nat) (hK:K≤12) (hr:12 - r=(K:Int)) (hw:InW x y) (w:World) :
 Calls Tryz.prog 98 #[.int .i64 x,.int .i64 y,.int .i64 r] w fun e w'=>TellsP (Nearest (dvK K) (nuA K x y) (nuB K x y)) e∧Below w.heap.size w w':=by
 have hs:=sev_box hK
 have hd:=dvK_box hK
 have hb:=bet_small hK
 have hu:=nu_box hK hw
 obtain ⟨x1,x2,y1,y2⟩:=id hw
 exact pnear_core x y r _ _ _ _ (cjA K) (cjB K) (sev K) (nuA K x y) (nuB K x y) _ hs.1 hs.2 (paxial_yes x y _ _ hw rfl rfl) (pstep_yes r K hK hr)
  (econj_small _ _ _ _ rfl rfl (by omega) (by omega) (by omega) (by omega))
  (emul_small _ _ _ _ _ _ rfl rfl (by omega) (by omega) (by omega) (by omega) (by omega) (by omega) (by omega) (by omega) (by omega) (by omega) (by omega) (by omega))
  (enorm_small _ _ _ rfl (by omega) (by omega) (by omega) (by omega) (by omega))
  (eround_see _ _ _ (by omega) (by omega) (by omega) (by omega) hd.1 hd.2) w
theorem pnear_at (x y r:Int) (K:Nat) (hK:K≤12) (hr:12 - r=(K:Int)) (hw:InW x y) (a b:Int) (hn:Nearest (dvK K) (nuA K x y) (nuB K x y) a b) (w:World) :
 Calls Tryz.prog 98 #[.int .i64 x,.int .i64 y,.int .i64 r] w fun e w'=>e=.returned (.tuple #[.agg #[.int .i64 a,.int .i64 b],.bool true])∧Below w.heap.size w w':=by
 refine (pnear_see x y r K hK hr hw w).mono ?_
 rintro e w' ⟨⟨a',b',rfl,hn'⟩,hb⟩
 obtain ⟨rfl,rfl⟩:=nearest_one hn hn'
 exact ⟨rfl,hb⟩
theorem size13 (r:Int):∃ t s:Int,∃ K:Nat,r.tmod 13=t∧(t+13).tmod 13=s∧-13 < t∧t < 13∧K≤12∧12 - s=(K:Int):=by
 have h:=tmod_box r 13 (by omega)
 refine ⟨_,_,(12 - (r.tmod 13+13).tmod 13).toNat,rfl,rfl,h.1,h.2,?_,?_⟩
 all_goals
  generalize r.tmod 13=t at *
  rw [Int.tmod_eq_emod_of_nonneg (by omega)]
  omega
end Go.Proofs.YtbnlhdnnenahfaaGreatDoor
