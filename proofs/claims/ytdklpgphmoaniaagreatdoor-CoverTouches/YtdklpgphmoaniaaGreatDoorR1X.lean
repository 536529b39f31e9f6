/-
  What the texts EBeta, EUnit, Wide, Times, RefE, RefMul, RefFloor, RefSize, RefRound, ENear, PNear, RefBeta, PowNum, RefPow, RefNear, PPoint say, so far as this seat's proofs need it.
-/
import Derived.Test.YtdklpgphmoaniaaGreatDoorMX
import Derived.Test.YtdklpgphmoaniaaGreatDoorE1X
import Derived.Lib.LaidU8
import Derived.Lib.ItoaNum
import Derived.Deep.LoopGhost
namespace Go.Proofs.YtdklpgphmoaniaaGreatDoor
open Go.RowKit
set_option maxHeartbeats 1000000 in
theorem ebeta_yes (K:Nat) (hK:K≤20) (w:World) :
 Calls Tryz.prog 123 #[.int .i64 (K:Int)] w fun e w'=>e=.returned (.tuple #[.agg #[.int .i64 (bet K).1,.int .i64 (bet K).2],.bool true])∧Below w.heap.size w w':=by
 go_enter Tryz.func123,Tryz.ntmps123
 go_wp2_with fail
 go_loopw [5,15] (fun vo vi wr=>∃ q:Nat,q≤K∧vo=.bool true∧vi=.int .i64 (q:Int)∧Hid (BetAt w q wr)) (fun _ vi _=>K - (intOf vi).toNat)
 case atStart =>
  refine ⟨0,Nat.zero_le _,rfl,rfl,?_⟩
  show BetAt w 0 _
  exact ⟨by go_simp;rfl,by go_simp;rfl,by go_simp,by go_simp,by go_simp,by go_simp,by go_simp,by go_simp,by go_grown⟩
 case round =>
  obtain ⟨q,hq,rfl,rfl,HB⟩:=hrel
  obtain ⟨z0,z1,fz0,fz1,s0,s1,fs0,fs1,hb⟩:=HB.out
  clear HB
  have hz:w.heap.size+1 < wr.heap.size:=World.block_lt_of_cell? _ _ z0
  by_cases hlt:q < K
  · obtain ⟨b1,b2,b3,b4⟩:=bet_box q (by omega)
    obtain ⟨n1,n2,n3,n4⟩:=bet_box (q+1) (by omega)
    have HM:Hid (∀ w,Calls Tryz.prog 92 #[.agg #[.int .i64 (bet q).1,.int .i64 (bet q).2],.agg #[.int .i64 2,.int .i64 1]] w fun e w'=>e=.returned (.tuple #[.agg #[.int .i64 (bet (q+1)).1,.int .i64 (bet (q+1)).2],.bool true])∧Below w.heap.size w w') :=
     fun w=>by
      have h:=emul_any (bet q).1 (bet q).2 2 1 (by omega) (by omega) (by omega) (by omega) (by omega) (by omega) (by omega) (by omega) w
      have ex:(bet q).1*2 - (bet q).2*1=(bet (q+1)).1:=by show _=mulA (bet q).1 (bet q).2 2 1;unfold mulA;omega
      have ey:(bet q).1*1+(bet q).2*2+(bet q).2*1=(bet (q+1)).2:=by show _=mulB (bet q).1 (bet q).2 2 1;unfold mulB;omega
      rw [ex,ey] at h
      have hb:=both_mk (x:=(bet (q+1)).1) (y:=(bet (q+1)).2) (fits_mk ⟨by omega,by omega⟩) (fits_mk ⟨by omega,by omega⟩)
      rw [hb,keptA_mk hb,keptB_mk hb] at h
      exact h
    clear b1 b2 b3 b4 n1 n2 n3 n4
    obtain ⟨X,hX⟩:∃ X,(bet q).1=X:=⟨_,rfl⟩
    obtain ⟨Y,hY⟩:∃ Y,(bet q).2=Y:=⟨_,rfl⟩
    obtain ⟨U,hU⟩:∃ U,(bet (q+1)).1=U:=⟨_,rfl⟩
    obtain ⟨V,hV⟩:∃ V,(bet (q+1)).2=V:=⟨_,rfl⟩
    rw [hX,hY,hU,hV] at HM
    rw [hX] at z0
    rw [hY] at z1
    have HU:Hid ((bet (q+1)).1=U):=hU
    have HV:Hid ((bet (q+1)).2=V):=hV
    clear hX hY hU hV
    go_wp2_with fail
    refine (HM.out _).mono ?_
    rintro e w2 ⟨rfl,c2⟩
    have k0:=keepCell c2 z0
    have k1:=keepCell c2 z1
    have g0:=keepFrozen c2 z0 fz0
    have g1:=keepFrozen c2 z1 fz1
    have r0:=keepCell c2 s0
    have r1:=keepCell c2 s1
    have t0:=keepFrozen c2 s0 fs0
    have t1:=keepFrozen c2 s1 fs1
    have hb2:=belowT hb c2
    clear z0 z1 fz0 fz1 s0 s1 fs0 fs1 hb c2
    obtain ⟨y0,y1⟩:=two_stores (u:=.int .i64 U) (v:=.int .i64 V) k0 k1
    go_wp2
    go_roundw
    case rel =>
     refine ⟨q+1,by omega,rfl,by go_num,?_⟩
     show BetAt w (q+1) _
     unfold BetAt
     rw [HU.out,HV.out]
     refine ⟨y0,y1,by simp [g0],by simp [g1],?_,?_,by simp [t0],by simp [t1],(hb2.setCell (by simp) _).setCell (by simp) _⟩
     · rw [World.cell?_setCell_other _ _ _ _ (by simp),World.cell?_setCell_other _ _ _ _ (by simp)];exact r0
     · rw [World.cell?_setCell_other _ _ _ _ (by simp),World.cell?_setCell_other _ _ _ _ (by simp)];exact r1
    case measure=>simp [intOf];omega
  · obtain rfl:q=K:=by omega
    obtain ⟨X,hX⟩:∃ X,(bet q).1=X:=⟨_,rfl⟩
    obtain ⟨Y,hY⟩:∃ Y,(bet q).2=Y:=⟨_,rfl⟩
    rw [hX] at z0
    rw [hY] at z1
    have HX:Hid ((bet q).1=X):=hX
    have HY:Hid ((bet q).2=Y):=hY
    clear hX hY
    obtain ⟨y0,y1⟩:=two_stores (u:=.int .i64 X) (v:=.int .i64 Y) s0 s1
    go_wp2
    exact bodyPost_ret (v:=.tuple #[.agg #[.int .i64 X,.int .i64 Y],.bool true]) (by simp [results,Tryz.results123,go_sem,y0,y1]) rfl ⟨by rw [HX.out,HY.out],(hb.setCell (by simp) _).setCell (by simp) _⟩
def unitCells:Array Value:=#[.int .i64 1,.int .i64 0,.int .i64 0,.int .i64 1,.int .i64 (-1),.int .i64 1,.int .i64 (-1),.int .i64 0,.int .i64 0,.int .i64 (-1),.int .i64 1,.int .i64 (-1)]
def Uni (w:World):Prop:=w.var? Tryz.prog "apiary/eisen.units"=some unitCells
theorem gUni:Tryz.prog.globalNamed "apiary/eisen.units"=some 0:=by kernel_rfl
theorem Uni.cell {w:World} (h:Uni w) (i:Nat):w.cell? ⟨0,i,none⟩=unitCells[i]?:=World.var?_cell gUni h i
theorem Uni.below {w w':World} (h:Uni w) (hb:Below w.heap.size w w'):Uni w' :=
 var?_below hb gUni (World.block_lt_of_cell? _ _ (show w.cell? ⟨0,0,none⟩=some (.int .i64 1) from h.cell 0)) h
set_option maxHeartbeats 400000 in
theorem eunit_0 (k:Int) (k1: -9223372036854775808≤k) (k2:k≤9223372036854775807) (hj:k%6=0) (w:World) (hU:Uni w) :
 Calls Tryz.prog 103 #[.int .i64 k] w fun e w'=>e=.returned (.agg #[.int .i64 1,.int .i64 0])∧Below w.heap.size w w':=by
 have FL:=floor_any k 6 k1 k2 (by omega) (by omega)
 rw [hj] at FL
 clear hj
 replace FL:Hid _:=FL
 have hU0:Hid (Uni w):=hU
 clear hU
 go_enter Tryz.func103,Tryz.ntmps103
 go_wp2_with fail
 refine (FL.out _).mono ?_
 rintro e w1 ⟨rfl,hb⟩
 have hb0:Below w.heap.size w w1:=Below.trans (by go_grown) (hb.mono (by simp;try omega))
 have v0:w1.cell? ⟨0,0,none⟩=some (.int .i64 1):=(hU0.out.below hb0).cell 0
 have v1:w1.cell? ⟨0,1,none⟩=some (.int .i64 0):=(hU0.out.below hb0).cell 1
 obtain ⟨hc,hf⟩:=bcell hb
 have e0:w1.cell? ⟨w.heap.size,0,none⟩=some (.int .i64 0):=by rw [hc _ _ (by simp)];go_simp
 have e1:w1.cell? ⟨w.heap.size,1,none⟩=some (.int .i64 0):=by rw [hc _ _ (by simp)];go_simp
 obtain ⟨g0,g1⟩:=two_stores (u:=.int .i64 1) (v:=.int .i64 0) e0 e1
 go_wp2
 exact bodyPost_ret (v:=.agg #[.int .i64 1,.int .i64 0]) (by simp [results,Tryz.results103,go_sem,g0,g1]) rfl ⟨rfl,(hb0.setCell (by simp;try omega) _).setCell (by simp;try omega) _⟩
set_option maxHeartbeats 400000 in
theorem eunit_1 (k:Int) (k1: -9223372036854775808≤k) (k2:k≤9223372036854775807) (hj:k%6=1) (w:World) (hU:Uni w) :
 Calls Tryz.prog 103 #[.int .i64 k] w fun e w'=>e=.returned (.agg #[.int .i64 0,.int .i64 1])∧Below w.heap.size w w':=by
 have FL:=floor_any k 6 k1 k2 (by omega) (by omega)
 rw [hj] at FL
 clear hj
 replace FL:Hid _:=FL
 have hU0:Hid (Uni w):=hU
 clear hU
 go_enter Tryz.func103,Tryz.ntmps103
 go_wp2_with fail
 refine (FL.out _).mono ?_
 rintro e w1 ⟨rfl,hb⟩
 have hb0:Below w.heap.size w w1:=Below.trans (by go_grown) (hb.mono (by simp;try omega))
 have v0:w1.cell? ⟨0,2,none⟩=some (.int .i64 0):=(hU0.out.below hb0).cell 2
 have v1:w1.cell? ⟨0,3,none⟩=some (.int .i64 1):=(hU0.out.below hb0).cell 3
 obtain ⟨hc,hf⟩:=bcell hb
 have e0:w1.cell? ⟨w.heap.size,0,none⟩=some (.int .i64 0):=by rw [hc _ _ (by simp)];go_simp
 have e1:w1.cell? ⟨w.heap.size,1,none⟩=some (.int .i64 0):=by rw [hc _ _ (by simp)];go_simp
 obtain ⟨g0,g1⟩:=two_stores (u:=.int .i64 0) (v:=.int .i64 1) e0 e1
 go_wp2
 exact bodyPost_ret (v:=.agg #[.int .i64 0,.int .i64 1]) (by simp [results,Tryz.results103,go_sem,g0,g1]) rfl ⟨rfl,(hb0.setCell (by simp;try omega) _).setCell (by simp;try omega) _⟩
set_option maxHeartbeats 400000 in
theorem eunit_2 (k:Int) (k1: -9223372036854775808≤k) (k2:k≤9223372036854775807) (hj:k%6=2) (w:World) (hU:Uni w) :
 Calls Tryz.prog 103 #[.int .i64 k] w fun e w'=>e=.returned (.agg #[.int .i64 (-1),.int .i64 1])∧Below w.heap.size w w':=by
 have FL:=floor_any k 6 k1 k2 (by omega) (by omega)
 rw [hj] at FL
 clear hj
 replace FL:Hid _:=FL
 have hU0:Hid (Uni w):=hU
 clear hU
 go_enter Tryz.func103,Tryz.ntmps103
 go_wp2_with fail
 refine (FL.out _).mono ?_
 rintro e w1 ⟨rfl,hb⟩
 have hb0:Below w.heap.size w w1:=Below.trans (by go_grown) (hb.mono (by simp;try omega))
 have v0:w1.cell? ⟨0,4,none⟩=some (.int .i64 (-1)):=(hU0.out.below hb0).cell 4
 have v1:w1.cell? ⟨0,5,none⟩=some (.int .i64 1):=(hU0.out.below hb0).cell 5
 obtain ⟨hc,hf⟩:=bcell hb
 have e0:w1.cell? ⟨w.heap.size,0,none⟩=some (.int .i64 0):=by rw [hc _ _ (by simp)];go_simp
 have e1:w1.cell? ⟨w.heap.size,1,none⟩=some (.int .i64 0):=by rw [hc _ _ (by simp)];go_simp
 obtain ⟨g0,g1⟩:=two_stores (u:=.int .i64 (-1)) (v:=.int .i64 1) e0 e1
 go_wp2
 exact bodyPost_ret (v:=.agg #[.int .i64 (-1),.int .i64 1]) (by simp [results,Tryz.results103,go_sem,g0,g1]) rfl ⟨rfl,(hb0.setCell (by simp;try omega) _).setCell (by simp;try omega) _⟩
set_option maxHeartbeats 400000 in
theorem eunit_3 (k:Int) (k1: -9223372036854775808≤k) (k2:k≤9223372036854775807) (hj:k%6=3) (w:World) (hU:Uni w) :
 Calls Tryz.prog 103 #[.int .i64 k] w fun e w'=>e=.returned (.agg #[.int .i64 (-1),.int .i64 0])∧Below w.heap.size w w':=by
 have FL:=floor_any k 6 k1 k2 (by omega) (by omega)
 rw [hj] at FL
 clear hj
 replace FL:Hid _:=FL
 have hU0:Hid (Uni w):=hU
 clear hU
 go_enter Tryz.func103,Tryz.ntmps103
 go_wp2_with fail
 refine (FL.out _).mono ?_
 rintro e w1 ⟨rfl,hb⟩
 have hb0:Below w.heap.size w w1:=Below.trans (by go_grown) (hb.mono (by simp;try omega))
 have v0:w1.cell? ⟨0,6,none⟩=some (.int .i64 (-1)):=(hU0.out.below hb0).cell 6
 have v1:w1.cell? ⟨0,7,none⟩=some (.int .i64 0):=(hU0.out.below hb0).cell 7
 obtain ⟨hc,hf⟩:=bcell hb
 have e0:w1.cell? ⟨w.heap.size,0,none⟩=some (.int .i64 0):=by rw [hc _ _ (by simp)];go_simp
 have e1:w1.cell? ⟨w.heap.size,1,none⟩=some (.int .i64 0):=by rw [hc _ _ (by simp)];go_simp
 obtain ⟨g0,g1⟩:=two_stores (u:=.int .i64 (-1)) (v:=.int .i64 0) e0 e1
 go_wp2
 exact bodyPost_ret (v:=.agg #[.int .i64 (-1),.int .i64 0]) (by simp [results,Tryz.results103,go_sem,g0,g1]) rfl ⟨rfl,(hb0.setCell (by simp;try omega) _).setCell (by simp;try omega) _⟩
set_option maxHeartbeats 400000 in
theorem eunit_4 (k:Int) (k1: -9223372036854775808≤k) (k2:k≤9223372036854775807) (hj:k%6=4) (w:World) (hU:Uni w) :
 Calls Tryz.prog 103 #[.int .i64 k] w fun e w'=>e=.returned (.agg #[.int .i64 0,.int .i64 (-1)])∧Below w.heap.size w w':=by
 have FL:=floor_any k 6 k1 k2 (by omega) (by omega)
 rw [hj] at FL
 clear hj
 replace FL:Hid _:=FL
 have hU0:Hid (Uni w):=hU
 clear hU
 go_enter Tryz.func103,Tryz.ntmps103
 go_wp2_with fail
 refine (FL.out _).mono ?_
 rintro e w1 ⟨rfl,hb⟩
 have hb0:Below w.heap.size w w1:=Below.trans (by go_grown) (hb.mono (by simp;try omega))
 have v0:w1.cell? ⟨0,8,none⟩=some (.int .i64 0):=(hU0.out.below hb0).cell 8
 have v1:w1.cell? ⟨0,9,none⟩=some (.int .i64 (-1)):=(hU0.out.below hb0).cell 9
 obtain ⟨hc,hf⟩:=bcell hb
 have e0:w1.cell? ⟨w.heap.size,0,none⟩=some (.int .i64 0):=by rw [hc _ _ (by simp)];go_simp
 have e1:w1.cell? ⟨w.heap.size,1,none⟩=some (.int .i64 0):=by rw [hc _ _ (by simp)];go_simp
 obtain ⟨g0,g1⟩:=two_stores (u:=.int .i64 0) (v:=.int .i64 (-1)) e0 e1
 go_wp2
 exact bodyPost_ret (v:=.agg #[.int .i64 0,.int .i64 (-1)]) (by simp [results,Tryz.results103,go_sem,g0,g1]) rfl ⟨rfl,(hb0.setCell (by simp;try omega) _).setCell (by simp;try omega) _⟩
set_option maxHeartbeats 400000 in
theorem eunit_5 (k:Int) (k1: -9223372036854775808≤k) (k2:k≤9223372036854775807) (hj:k%6=5) (w:World) (hU:Uni w) :
 Calls Tryz.prog 103 #[.int .i64 k] w fun e w'=>e=.returned (.agg #[.int .i64 1,.int .i64 (-1)])∧Below w.heap.size w w':=by
 have FL:=floor_any k 6 k1 k2 (by omega) (by omega)
 rw [hj] at FL
 clear hj
 replace FL:Hid _:=FL
 have hU0:Hid (Uni w):=hU
 clear hU
 go_enter Tryz.func103,Tryz.ntmps103
 go_wp2_with fail
 refine (FL.out _).mono ?_
 rintro e w1 ⟨rfl,hb⟩
 have hb0:Below w.heap.size w w1:=Below.trans (by go_grown) (hb.mono (by simp;try omega))
 have v0:w1.cell? ⟨0,10,none⟩=some (.int .i64 1):=(hU0.out.below hb0).cell 10
 have v1:w1.cell? ⟨0,11,none⟩=some (.int .i64 (-1)):=(hU0.out.below hb0).cell 11
 obtain ⟨hc,hf⟩:=bcell hb
 have e0:w1.cell? ⟨w.heap.size,0,none⟩=some (.int .i64 0):=by rw [hc _ _ (by simp)];go_simp
 have e1:w1.cell? ⟨w.heap.size,1,none⟩=some (.int .i64 0):=by rw [hc _ _ (by simp)];go_simp
 obtain ⟨g0,g1⟩:=two_stores (u:=.int .i64 1) (v:=.int .i64 (-1)) e0 e1
 go_wp2
 exact bodyPost_ret (v:=.agg #[.int .i64 1,.int .i64 (-1)]) (by simp [results,Tryz.results103,go_sem,g0,g1]) rfl ⟨rfl,(hb0.setCell (by simp;try omega) _).setCell (by simp;try omega) _⟩
theorem eunit_any (k:Int) (k1: -9223372036854775808≤k) (k2:k≤9223372036854775807) (w:World) (hU:Uni w) :
 Calls Tryz.prog 103 #[.int .i64 k] w fun e w'=>e=.returned (.agg #[.int .i64 (unitA (k%6)),.int .i64 (unitB (k%6))])∧Below w.heap.size w w':=by
 have hc:k%6=0∨k%6=1∨k%6=2∨k%6=3∨k%6=4∨k%6=5:=by omega
 rcases hc with hc | hc | hc | hc | hc | hc
 · rw [hc];exact eunit_0 k k1 k2 hc w hU
 · rw [hc];exact eunit_1 k k1 k2 hc w hU
 · rw [hc];exact eunit_2 k k1 k2 hc w hU
 · rw [hc];exact eunit_3 k k1 k2 hc w hU
 · rw [hc];exact eunit_4 k k1 k2 hc w hU
 · rw [hc];exact eunit_5 k k1 k2 hc w hU
set_option maxHeartbeats 400000 in
theorem wide_up (n:Int) (w:World) (h:0≤n) (h1:n≤9223372036854775807) :
 Calls Tryz.prog 135 #[.int .i64 n] w fun e w'=>e=.returned (.agg #[.int .u64 (high64 n),.int .u64 (low64 n)])∧Below w.heap.size w w':=by
 go_enter Tryz.func135,Tryz.ntmps135
 go_wp2
 go_returns
 exact ⟨agg_eq (by unfold high64;omega) (by unfold low64;omega),by go_grown⟩
set_option maxHeartbeats 400000 in
theorem wide_down (n:Int) (w:World) (h:n < 0) (h1: -9223372036854775808≤n) :
 Calls Tryz.prog 135 #[.int .i64 n] w fun e w'=>e=.returned (.agg #[.int .u64 (high64 n),.int .u64 (low64 n)])∧Below w.heap.size w w':=by
 go_enter Tryz.func135,Tryz.ntmps135
 go_wp2
 go_returns
 exact ⟨agg_eq (by rw [IntKind.wrap_u64];unfold high64;omega) (by rw [IntKind.wrap_u64];unfold low64;omega),by go_grown⟩
theorem wide_any (n:Int) (h1: -9223372036854775808≤n) (h2:n≤9223372036854775807) (w:World) :
 Calls Tryz.prog 135 #[.int .i64 n] w fun e w'=>e=.returned (.agg #[.int .u64 (high64 n),.int .u64 (low64 n)])∧Below w.heap.size w w':=by
 by_cases h:0≤n
 · exact wide_up n w h h2
 · exact wide_down n w (by omega) h1
set_option maxHeartbeats 400000 in
theorem plus_raw (a b c d s cy t u:Int) (a1:0≤a) (b1:0≤b) (c1:0≤c) (d1:0≤d) (hs:(b+d+0)%18446744073709551616=s) (hcy:(b+d+0) / 18446744073709551616=cy) (cy0:0≤cy) (cy1:cy≤1)
 (ht:(a+c+cy)%18446744073709551616=t) (hu:(a+c+cy) / 18446744073709551616=u) (w:World) :
 Calls Tryz.prog 64 #[.agg #[.int .u64 a,.int .u64 b],.agg #[.int .u64 c,.int .u64 d]] w fun e w'=>e=.returned (.agg #[.int .u64 t,.int .u64 s])∧Below w.heap.size w w':=by
 have f1:=fun w=>callAdd b d 0 b1 d1 (by omega) (by omega) w
 rw [hs,hcy] at f1
 have f2:=fun w=>callAdd a c cy a1 c1 cy0 cy1 w
 rw [ht,hu] at f2
 clear hs hcy ht hu
 go_enter Tryz.func64,Tryz.ntmps64
 go_wp2
 go_returns
 exact ⟨rfl,by go_grown⟩
theorem plus_any (x y:Int) (w:World) :
 Calls Tryz.prog 64 #[.agg #[.int .u64 (high64 x),.int .u64 (low64 x)],.agg #[.int .u64 (high64 y),.int .u64 (low64 y)]] w fun e w'=>e=.returned (.agg #[.int .u64 (high64 (x+y)),.int .u64 (low64 (x+y))])∧Below w.heap.size w w':=by
 have hx:=low64_bd x;have hy:=low64_bd y;have kx:=high64_bd x;have ky:=high64_bd y
 refine plus_raw (high64 x) (low64 x) (high64 y) (low64 y) (low64 (x+y)) ((low64 x+low64 y+0) / 18446744073709551616) (high64 (x+y)) _ kx.1 hx.1 ky.1 hy.1 ?_ rfl (by omega) (by omega) ?_ rfl w
 · unfold low64;omega
 · unfold high64 low64;omega
theorem u64_not (a:Int) (a1:0≤a) (a2:a≤18446744073709551615):bits .xor .u64 IntKind.u64.max a=18446744073709551615 - a:=by
 obtain ⟨A,rfl⟩:=Int.eq_ofNat_of_zero_le a1
 have e:IntKind.u64.max=((18446744073709551615:Nat):Int):=rfl
 have h1:(BitVec.ofInt 64 (A:Int)).toNat=A:=ofInt_u64 A (by omega)
 have h2:BitVec.ofInt 64 ((18446744073709551615:Nat):Int)=BitVec.allOnes 64:=by decide
 show IntKind.u64.wrap ((BitVec.ofInt 64 IntKind.u64.max ^^^ BitVec.ofInt 64 (A:Int)).toNat:Int)=_
 rw [e,h2,BitVec.allOnes_xor,BitVec.toNat_not,h1,IntKind.wrap_u64]
 omega
set_option maxHeartbeats 400000 in
theorem turned_raw (a b m n s t:Int) (a1:bits .xor .u64 IntKind.u64.max a=m) (b1:bits .xor .u64 IntKind.u64.max b=n)
 (PL:∀ w,Calls Tryz.prog 64 #[.agg #[.int .u64 m,.int .u64 n],.agg #[.int .u64 0,.int .u64 1]] w fun e w'=>e=.returned (.agg #[.int .u64 s,.int .u64 t])∧Below w.heap.size w w') (w:World) :
 Calls Tryz.prog 65 #[.agg #[.int .u64 a,.int .u64 b]] w fun e w'=>e=.returned (.agg #[.int .u64 s,.int .u64 t])∧Below w.heap.size w w':=by
 replace PL:Hid _:=PL
 go_enter Tryz.func65,Tryz.ntmps65
 go_wp2_with fail
 refine (PL.out _).mono ?_
 rintro e w1 ⟨rfl,hb⟩
 have c0:w1.cell? ⟨w.heap.size+1,0,none⟩=some (.int .u64 0):=by rw [hb.cell (p:=⟨w.heap.size+1,0,none⟩) (by simp)];go_simp
 have c1:w1.cell? ⟨w.heap.size+1,1,none⟩=some (.int .u64 0):=by rw [hb.cell (p:=⟨w.heap.size+1,1,none⟩) (by simp)];go_simp
 have f0:w1.frozen? ⟨w.heap.size+1,0,none⟩=false:=by rw [hb.frozen (p:=⟨w.heap.size+1,0,none⟩) (by simp)];go_simp
 have f1:w1.frozen? ⟨w.heap.size+1,1,none⟩=false:=by rw [hb.frozen (p:=⟨w.heap.size+1,1,none⟩) (by simp)];go_simp
 obtain ⟨g0,g1⟩:=two_stores (u:=.int .u64 s) (v:=.int .u64 t) c0 c1
 go_wp2
 exact bodyPost_ret (v:=.agg #[.int .u64 s,.int .u64 t]) (by simp [results,Tryz.results65,go_sem,g0,g1]) rfl
  ⟨rfl,((((((Below.refl _ _).alloc (Nat.le_refl _) _).alloc (by simp) _).trans (hb.mono (by simp;omega))).setCell (by simp) _).setCell (by simp) _)⟩
theorem turned_any (x:Int) (w:World) :
 Calls Tryz.prog 65 #[.agg #[.int .u64 (high64 x),.int .u64 (low64 x)]] w fun e w'=>e=.returned (.agg #[.int .u64 (high64 (-x)),.int .u64 (low64 (-x))])∧Below w.heap.size w w':=by
 have hx:=low64_bd x;have kx:=high64_bd x
 refine turned_raw _ _ (18446744073709551615 - high64 x) (18446744073709551615 - low64 x) _ _ (u64_not _ kx.1 kx.2) (u64_not _ hx.1 hx.2) (fun w=>?_) w
 refine plus_raw _ _ 0 1 (low64 (-x)) ((18446744073709551615 - low64 x+1+0) / 18446744073709551616) (high64 (-x)) _ (by omega) (by omega) (by omega) (by omega) ?_ rfl (by omega) (by omega) ?_ rfl w
 · unfold low64;omega
 · unfold high64 low64;omega
set_option maxHeartbeats 400000 in
theorem small_yes (a b m:Int) (hm:wrap64 b=m) (m1: -9223372036854775808≤m) (m2:m≤9223372036854775807) (hp:high64 m=a) (hq:low64 m=b) (w:World) :
 Calls Tryz.prog 100 #[.agg #[.int .u64 a,.int .u64 b]] w fun e w'=>e=.returned (.tuple #[.int .i64 m,.bool true])∧Below w.heap.size w w':=by
 have WT:∀ w,Calls Tryz.prog 135 #[.int .i64 m] w fun e w'=>e=.returned (.agg #[.int .u64 a,.int .u64 b])∧Below w.heap.size w w':=by
  rw [← hp,← hq];exact wide_any m m1 m2
 replace WT:Hid _:=WT
 clear hp hq
 go_enter Tryz.func100,Tryz.ntmps100
 go_wp2_with fail
 go_region_with (go_at_call 135;refine (WT.out _).mono ?_;rintro e w1 ⟨rfl,hb⟩;have c0:w1.cell? ⟨w.heap.size,0,none⟩=some (.int .u64 a):=(by rw [hb.cell (p:=⟨w.heap.size,0,none⟩) (by simp)];go_simp);have c1:w1.cell? ⟨w.heap.size,1,none⟩=some (.int .u64 b):=(by rw [hb.cell (p:=⟨w.heap.size,1,none⟩) (by simp)];go_simp))
 all_goals
  go_wp2
  go_ret2
  refine ⟨rfl,?_⟩
 all_goals
  have hb':Below w.heap.size w w1:=((((Below.refl _ _).alloc (Nat.le_refl _) _).drew).trans (hb.mono (by simp)))
  first | exact hb' | exact hb'.drew
set_option maxHeartbeats 400000 in
theorem small_no (a b m p:Int) (hm:wrap64 b=m) (m1: -9223372036854775808≤m) (m2:m≤9223372036854775807) (hp:high64 m=p) (hq:low64 m=b) (hpa:¬ p=a) (w:World) :
 Calls Tryz.prog 100 #[.agg #[.int .u64 a,.int .u64 b]] w fun e w'=>e=.returned (.tuple #[.int .i64 0,.bool false])∧Below w.heap.size w w':=by
 have WT:∀ w,Calls Tryz.prog 135 #[.int .i64 m] w fun e w'=>e=.returned (.agg #[.int .u64 p,.int .u64 b])∧Below w.heap.size w w':=by
  rw [← hp,← hq];exact wide_any m m1 m2
 replace WT:Hid _:=WT
 clear hp hq
 go_enter Tryz.func100,Tryz.ntmps100
 go_wp2_with fail
 go_region_with (go_at_call 135;refine (WT.out _).mono ?_;rintro e w1 ⟨rfl,hb⟩;have c0:w1.cell? ⟨w.heap.size,0,none⟩=some (.int .u64 a):=(by rw [hb.cell (p:=⟨w.heap.size,0,none⟩) (by simp)];go_simp);have c1:w1.cell? ⟨w.heap.size,1,none⟩=some (.int .u64 b):=(by rw [hb.cell (p:=⟨w.heap.size,1,none⟩) (by simp)];go_simp))
 all_goals
  go_wp2
  go_ret2
  refine ⟨rfl,?_⟩
 all_goals
  have hb':Below w.heap.size w w1:=((((Below.refl _ _).alloc (Nat.le_refl _) _).drew).trans (hb.mono (by simp)))
  first | exact hb' | exact hb'.drew
theorem small_any (z:Int) (z1: -255211775190703847597530955573826158592≤z) (z2:z≤255211775190703847597530955573826158592) (w:World) :
 Calls Tryz.prog 100 #[.agg #[.int .u64 (high64 z),.int .u64 (low64 z)]] w fun e w'=>e=.returned (.tuple #[.int .i64 (kept z),.bool (fits z)])∧Below w.heap.size w w':=by
 have hw:wrap64 (low64 z)=wrap64 z:=by unfold wrap64 low64;omega
 have hl:low64 (wrap64 z)=low64 z:=by unfold wrap64 low64;omega
 have hb:=wrap_bd z
 by_cases h: -9223372036854775808≤z∧z≤9223372036854775807
 · rw [kept_mk (fits_mk h),fits_mk h]
   have e:=wrap_fits h
   rw [e] at hw hl hb
   exact small_yes _ _ z hw hb.1 hb.2 rfl rfl w
 · rw [kept_no (fits_no h),fits_no h]
   refine small_no _ _ (wrap64 z) _ hw hb.1 hb.2 rfl hl ?_ w
   intro e
   unfold high64 wrap64 at e
   omega
end Go.Proofs.YtdklpgphmoaniaaGreatDoor
namespace Go.Proofs.YtdklpgphmoaniaaGreatDoor
open Go.RowKit Go.Shelf
set_option maxHeartbeats 400000 in
theorem times_pp (a b s t:Int) (ha:¬ a < 0) (hb:¬ b < 0) (a2:a≤9223372036854775807) (b2:b≤9223372036854775807)
 (M:∀ w,Calls Tryz.prog 99 #[.int .u64 a,.int .u64 b] w fun e w'=>e=.returned (.tuple #[.int .u64 s,.int .u64 t])∧w'=w) (w:World) :
 Calls Tryz.prog 62 #[.int .i64 a,.int .i64 b] w fun e w'=>e=.returned (.agg #[.int .u64 s,.int .u64 t])∧Below w.heap.size w w':=by
 have ha':=df ha
 have hb':=df hb
 replace M:Hid _:=M
 go_enter Tryz.func62,Tryz.ntmps62
 go_wp2_with fail
 refine (M.out _).mono ?_
 rintro e w1 ⟨rfl,rfl⟩
 go_wp2
 go_returns
 exact ⟨rfl,by go_grown⟩
set_option maxHeartbeats 400000 in
theorem times_nn (a b x y p q s t:Int) (ha:a < 0) (hb:b < 0) (hx:IntKind.u64.wrap a=x) (hy:IntKind.u64.wrap b=y) (hp:IntKind.u64.wrap (-x)=p) (hq:IntKind.u64.wrap (-y)=q)
 (M:∀ w,Calls Tryz.prog 99 #[.int .u64 p,.int .u64 q] w fun e w'=>e=.returned (.tuple #[.int .u64 s,.int .u64 t])∧w'=w) (w:World) :
 Calls Tryz.prog 62 #[.int .i64 a,.int .i64 b] w fun e w'=>e=.returned (.agg #[.int .u64 s,.int .u64 t])∧Below w.heap.size w w':=by
 replace M:Hid _:=M
 go_enter Tryz.func62,Tryz.ntmps62
 go_wp2_with fail
 refine (M.out _).mono ?_
 rintro e w1 ⟨rfl,rfl⟩
 go_wp2
 go_returns
 exact ⟨rfl,by go_grown⟩
set_option maxHeartbeats 400000 in
theorem times_pn (a b y q s t u v:Int) (ha:¬ a < 0) (hb:b < 0) (a2:a≤9223372036854775807) (hy:IntKind.u64.wrap b=y) (hq:IntKind.u64.wrap (-y)=q)
 (M:∀ w,Calls Tryz.prog 99 #[.int .u64 a,.int .u64 q] w fun e w'=>e=.returned (.tuple #[.int .u64 s,.int .u64 t])∧w'=w)
 (TU:∀ w,Calls Tryz.prog 65 #[.agg #[.int .u64 s,.int .u64 t]] w fun e w'=>e=.returned (.agg #[.int .u64 u,.int .u64 v])∧Below w.heap.size w w') (w:World) :
 Calls Tryz.prog 62 #[.int .i64 a,.int .i64 b] w fun e w'=>e=.returned (.agg #[.int .u64 u,.int .u64 v])∧Below w.heap.size w w':=by
 have ha':=df ha
 replace M:Hid _:=M
 replace TU:Hid _:=TU
 go_enter Tryz.func62,Tryz.ntmps62
 go_wp2_with fail
 refine (M.out _).mono ?_
 rintro e w1 ⟨rfl,rfl⟩
 go_wp2_with fail
 refine (TU.out _).mono ?_
 rintro e w2 ⟨rfl,hb2⟩
 have c0:w2.cell? ⟨w.heap.size,0,none⟩=some (.int .u64 0):=by rw [hb2.cell (p:=⟨w.heap.size,0,none⟩) (by simp)];go_simp
 have c1:w2.cell? ⟨w.heap.size,1,none⟩=some (.int .u64 0):=by rw [hb2.cell (p:=⟨w.heap.size,1,none⟩) (by simp)];go_simp
 have f0:w2.frozen? ⟨w.heap.size,0,none⟩=false:=by rw [hb2.frozen (p:=⟨w.heap.size,0,none⟩) (by simp)];go_simp
 have f1:w2.frozen? ⟨w.heap.size,1,none⟩=false:=by rw [hb2.frozen (p:=⟨w.heap.size,1,none⟩) (by simp)];go_simp
 obtain ⟨g0,g1⟩:=two_stores (u:=.int .u64 u) (v:=.int .u64 v) c0 c1
 go_wp2
 exact bodyPost_ret (v:=.agg #[.int .u64 u,.int .u64 v]) (by simp [results,Tryz.results62,go_sem,g0,g1]) rfl
  ⟨rfl,(((((Below.refl _ _).alloc (Nat.le_refl _) _).trans (hb2.mono (by simp))).setCell (by simp) _).setCell (by simp) _)⟩
set_option maxHeartbeats 400000 in
theorem times_np (a b x p s t u v:Int) (ha:a < 0) (hb:¬ b < 0) (b2:b≤9223372036854775807) (hx:IntKind.u64.wrap a=x) (hp:IntKind.u64.wrap (-x)=p)
 (M:∀ w,Calls Tryz.prog 99 #[.int .u64 p,.int .u64 b] w fun e w'=>e=.returned (.tuple #[.int .u64 s,.int .u64 t])∧w'=w)
 (TU:∀ w,Calls Tryz.prog 65 #[.agg #[.int .u64 s,.int .u64 t]] w fun e w'=>e=.returned (.agg #[.int .u64 u,.int .u64 v])∧Below w.heap.size w w') (w:World) :
 Calls Tryz.prog 62 #[.int .i64 a,.int .i64 b] w fun e w'=>e=.returned (.agg #[.int .u64 u,.int .u64 v])∧Below w.heap.size w w':=by
 have hb':=df hb
 replace M:Hid _:=M
 replace TU:Hid _:=TU
 go_enter Tryz.func62,Tryz.ntmps62
 go_wp2_with fail
 refine (M.out _).mono ?_
 rintro e w1 ⟨rfl,rfl⟩
 go_wp2_with fail
 refine (TU.out _).mono ?_
 rintro e w2 ⟨rfl,hb2⟩
 have c0:w2.cell? ⟨w.heap.size,0,none⟩=some (.int .u64 0):=by rw [hb2.cell (p:=⟨w.heap.size,0,none⟩) (by simp)];go_simp
 have c1:w2.cell? ⟨w.heap.size,1,none⟩=some (.int .u64 0):=by rw [hb2.cell (p:=⟨w.heap.size,1,none⟩) (by simp)];go_simp
 have f0:w2.frozen? ⟨w.heap.size,0,none⟩=false:=by rw [hb2.frozen (p:=⟨w.heap.size,0,none⟩) (by simp)];go_simp
 have f1:w2.frozen? ⟨w.heap.size,1,none⟩=false:=by rw [hb2.frozen (p:=⟨w.heap.size,1,none⟩) (by simp)];go_simp
 obtain ⟨g0,g1⟩:=two_stores (u:=.int .u64 u) (v:=.int .u64 v) c0 c1
 go_wp2
 exact bodyPost_ret (v:=.agg #[.int .u64 u,.int .u64 v]) (by simp [results,Tryz.results62,go_sem,g0,g1]) rfl
  ⟨rfl,(((((Below.refl _ _).alloc (Nat.le_refl _) _).trans (hb2.mono (by simp))).setCell (by simp) _).setCell (by simp) _)⟩
theorem prod_bd (a b:Int) (a1: -9223372036854775808≤a) (a2:a≤9223372036854775807) (b1: -9223372036854775808≤b) (b2:b≤9223372036854775807) :
 -170141183460469231731687303715884105728≤a*b∧a*b < 170141183460469231731687303715884105728:=by
 have h:(a*b).natAbs≤9223372036854775808*9223372036854775808:=by
  rw [Int.natAbs_mul];exact Nat.mul_le_mul (by omega) (by omega)
 omega
theorem u64_of_neg (a:Int) (h:a < 0) (h1: -9223372036854775808≤a):IntKind.u64.wrap (-(IntKind.u64.wrap a))= -a:=by
 rw [IntKind.wrap_u64,IntKind.wrap_u64];omega
theorem times_any (a b:Int) (a1: -9223372036854775808≤a) (a2:a≤9223372036854775807) (b1: -9223372036854775808≤b) (b2:b≤9223372036854775807) (w:World) :
 Calls Tryz.prog 62 #[.int .i64 a,.int .i64 b] w fun e w'=>e=.returned (.agg #[.int .u64 (high64 (a*b)),.int .u64 (low64 (a*b))])∧Below w.heap.size w w':=by
 by_cases ha:a < 0
 · by_cases hb:b < 0
   · have e:a*b=(-a)*(-b):=by rw [Int.neg_mul_neg]
     rw [e]
     exact times_nn a b _ _ _ _ _ _ ha hb rfl rfl (u64_of_neg a ha a1) (u64_of_neg b hb b1) (mul64_any (-a) (-b) (by omega) (by omega) (by omega) (by omega)) w
   · have e:a*b= -((-a)*b):=by rw [Int.neg_mul,Int.neg_neg]
     rw [e]
     exact times_np a b _ _ _ _ _ _ ha hb b2 rfl (u64_of_neg a ha a1) (mul64_any (-a) b (by omega) (by omega) (by omega) (by omega)) (turned_any _) w
 · by_cases hb:b < 0
   · have e:a*b= -(a*(-b)):=by rw [Int.mul_neg,Int.neg_neg]
     rw [e]
     exact times_pn a b _ _ _ _ _ _ ha hb a2 rfl (u64_of_neg b hb b1) (mul64_any a (-b) (by omega) (by omega) (by omega) (by omega)) (turned_any _) w
   · exact times_pp a b _ _ ha hb a2 b2 (mul64_any a b (by omega) (by omega) (by omega) (by omega)) w
end Go.Proofs.YtdklpgphmoaniaaGreatDoor
namespace Go.Proofs.YtdklpgphmoaniaaGreatDoor
open Go.RowKit
set_option maxHeartbeats 400000 in
theorem two_raw_yes (hx lx hy ly x y:Int) 
 (S1:∀ w,Calls Tryz.prog 100 #[.agg #[.int .u64 hx,.int .u64 lx]] w fun e w'=>e=.returned (.tuple #[.int .i64 x,.bool true])∧Below w.heap.size w w')
 (S2:∀ w,Calls Tryz.prog 100 #[.agg #[.int .u64 hy,.int .u64 ly]] w fun e w'=>e=.returned (.tuple #[.int .i64 y,.bool true])∧Below w.heap.size w w') (w:World) :
 Calls Tryz.prog 63 #[.agg #[.int .u64 hx,.int .u64 lx],.agg #[.int .u64 hy,.int .u64 ly]] w fun e w'=>e=.returned (.tuple #[.agg #[.int .i64 x,.int .i64 y],.bool true])∧Below w.heap.size w w':=by
 replace S1:Hid _:=S1
 replace S2:Hid _:=S2
 go_enter Tryz.func63,Tryz.ntmps63
 go_wp2_with fail
 refine (S1.out _).mono ?_
 rintro e w1 ⟨rfl,c1⟩
 obtain ⟨hc1,hf1⟩:=bcell c1
 have z1:w.heap.size+1+1 < w1.heap.size:=by have:=c1.size;simp at this;omega
 go_wp2_with fail
 refine (S2.out _).mono ?_
 rintro e w2 ⟨rfl,c2⟩
 obtain ⟨hc2,hf2⟩:=bcell c2
 have z2:w.heap.size+1+1 < w2.heap.size:=by have:=c2.size;omega
 have e0:w2.cell? ⟨w.heap.size+1+1,0,none⟩=some (.int .i64 0):=by rw [hc2 _ _ z1,hc1 _ _ (by simp)];go_simp
 have e1:w2.cell? ⟨w.heap.size+1+1,1,none⟩=some (.int .i64 0):=by rw [hc2 _ _ z1,hc1 _ _ (by simp)];go_simp
 obtain ⟨g0,g1⟩:=two_stores (u:=.int .i64 x) (v:=.int .i64 y) e0 e1
 go_wp2
 have hb:Below w.heap.size w w2:=((((Below.refl _ _).alloc (Nat.le_refl _) _).alloc (by simp) _).alloc (by simp;omega) _).trans ((c1.mono (by simp;omega)).trans (c2.mono (by omega)))
 exact bodyPost_ret (v:=.tuple #[.agg #[.int .i64 x,.int .i64 y],.bool true]) (by simp [results,Tryz.results63,go_sem,g0,g1]) rfl
  ⟨rfl,(hb.setCell (by simp;omega) _).setCell (by simp;omega) _⟩
theorem two_yes (x y:Int) (hx:fits x=true) (hy:fits y=true) (w:World) :
 Calls Tryz.prog 63 #[.agg #[.int .u64 (high64 x),.int .u64 (low64 x)],.agg #[.int .u64 (high64 y),.int .u64 (low64 y)]] w fun e w'=>e=.returned (.tuple #[.agg #[.int .i64 x,.int .i64 y],.bool true])∧Below w.heap.size w w':=by
 have bx:=fits_of hx
 have hb:=fits_of hy
 refine two_raw_yes _ _ _ _ x y (fun w=>?_) (fun w=>?_) w
 · have:=small_any x (by omega) (by omega) w
   rw [kept_mk hx,hx] at this
   exact this
 · have:=small_any y (by omega) (by omega) w
   rw [kept_mk hy,hy] at this
   exact this
set_option maxHeartbeats 400000 in
theorem refunit_0 (k r:Int) (hr:k.tmod 6=r) (r1: -5≤r) (r2:r≤5) (hj:(r+6)%6=0) (w:World) :
 Calls Tryz.prog 41 #[.int .i64 k] w fun e w'=>e=.returned (.agg #[.int .i64 (1),.int .i64 (0)])∧Below w.heap.size w w':=by
 go_enter Tryz.func41,Tryz.ntmps41
 go_wp2
 go_returns
 exact ⟨rfl,by go_grown⟩
set_option maxHeartbeats 400000 in
theorem refunit_1 (k r:Int) (hr:k.tmod 6=r) (r1: -5≤r) (r2:r≤5) (hj:(r+6)%6=1) (w:World) :
 Calls Tryz.prog 41 #[.int .i64 k] w fun e w'=>e=.returned (.agg #[.int .i64 (0),.int .i64 (1)])∧Below w.heap.size w w':=by
 go_enter Tryz.func41,Tryz.ntmps41
 go_wp2
 go_returns
 exact ⟨rfl,by go_grown⟩
set_option maxHeartbeats 400000 in
theorem refunit_2 (k r:Int) (hr:k.tmod 6=r) (r1: -5≤r) (r2:r≤5) (hj:(r+6)%6=2) (w:World) :
 Calls Tryz.prog 41 #[.int .i64 k] w fun e w'=>e=.returned (.agg #[.int .i64 (-1),.int .i64 (1)])∧Below w.heap.size w w':=by
 go_enter Tryz.func41,Tryz.ntmps41
 go_wp2
 go_returns
 exact ⟨rfl,by go_grown⟩
set_option maxHeartbeats 400000 in
theorem refunit_3 (k r:Int) (hr:k.tmod 6=r) (r1: -5≤r) (r2:r≤5) (hj:(r+6)%6=3) (w:World) :
 Calls Tryz.prog 41 #[.int .i64 k] w fun e w'=>e=.returned (.agg #[.int .i64 (-1),.int .i64 (0)])∧Below w.heap.size w w':=by
 go_enter Tryz.func41,Tryz.ntmps41
 go_wp2
 go_returns
 exact ⟨rfl,by go_grown⟩
set_option maxHeartbeats 400000 in
theorem refunit_4 (k r:Int) (hr:k.tmod 6=r) (r1: -5≤r) (r2:r≤5) (hj:(r+6)%6=4) (w:World) :
 Calls Tryz.prog 41 #[.int .i64 k] w fun e w'=>e=.returned (.agg #[.int .i64 (0),.int .i64 (-1)])∧Below w.heap.size w w':=by
 go_enter Tryz.func41,Tryz.ntmps41
 go_wp2
 go_returns
 exact ⟨rfl,by go_grown⟩
set_option maxHeartbeats 400000 in
theorem refunit_5 (k r:Int) (hr:k.tmod 6=r) (r1: -5≤r) (r2:r≤5) (hj:(r+6)%6=5) (w:World) :
 Calls Tryz.prog 41 #[.int .i64 k] w fun e w'=>e=.returned (.agg #[.int .i64 (1),.int .i64 (-1)])∧Below w.heap.size w w':=by
 go_enter Tryz.func41,Tryz.ntmps41
 go_wp2
 go_returns
 exact ⟨rfl,by go_grown⟩
theorem tmod6 (k:Int):∃ r,k.tmod 6=r∧-5≤r∧r≤5∧(r+6)%6=k%6:=by
 have e:=Int.mul_tdiv_add_tmod k 6
 have h:(k.tmod 6).natAbs=k.natAbs%6:=Int.natAbs_tmod k 6
 exact ⟨_,rfl,by omega,by omega,by omega⟩
theorem refunit_any (k:Int) (w:World) :
 Calls Tryz.prog 41 #[.int .i64 k] w fun e w'=>e=.returned (.agg #[.int .i64 (unitA (k%6)),.int .i64 (unitB (k%6))])∧Below w.heap.size w w':=by
 obtain ⟨r,h1,h2,h3,h4⟩:=tmod6 k
 have hc:k%6=0∨k%6=1∨k%6=2∨k%6=3∨k%6=4∨k%6=5:=by omega
 rcases hc with hc | hc | hc | hc | hc | hc
 · rw [hc];exact refunit_0 k r h1 h2 h3 (by omega) w
 · rw [hc];exact refunit_1 k r h1 h2 h3 (by omega) w
 · rw [hc];exact refunit_2 k r h1 h2 h3 (by omega) w
 · rw [hc];exact refunit_3 k r h1 h2 h3 (by omega) w
 · rw [hc];exact refunit_4 k r h1 h2 h3 (by omega) w
 · rw [hc];exact refunit_5 k r h1 h2 h3 (by omega) w
theorem keepHeld {w0 a b:World} {p0 p1 p2 p3 p4 p5 p6 p7:Addr} {v0 v1 v2 v3 v6 v7:Value} (hb:Below a.heap.size a b)
 (h:a.cell? p0=some v0∧a.cell? p1=some v1∧a.cell? p2=some v2∧a.cell? p3=some v3∧a.cell? p4=some (.int .i64 (slotInt a p4))∧a.cell? p5=some (.int .i64 (slotInt a p5))∧a.cell? p6=some v6∧a.cell? p7=some v7∧a.frozen? p4=false∧a.frozen? p5=false∧Below w0.heap.size w0 a) :
 b.cell? p0=some v0∧b.cell? p1=some v1∧b.cell? p2=some v2∧b.cell? p3=some v3∧b.cell? p4=some (.int .i64 (slotInt b p4))∧b.cell? p5=some (.int .i64 (slotInt b p5))∧b.cell? p6=some v6∧b.cell? p7=some v7∧b.frozen? p4=false∧b.frozen? p5=false∧Below w0.heap.size w0 b:=by
 obtain ⟨h0,h1,h2,h3,h4,h5,h6,h7,f4,f5,hw⟩:=h
 exact ⟨keepCell hb h0,keepCell hb h1,keepCell hb h2,keepCell hb h3,slot_of (keepCell hb h4),slot_of (keepCell hb h5),keepCell hb h6,keepCell hb h7,keepFrozen hb h4 f4,keepFrozen hb h5 f5,belowT hw hb⟩
theorem keepStore {w0 a:World} {p0 p1 p2 p3 p4 p5 p6 p7:Addr} {v0 v1 v2 v3 v6 v7:Value} {x y:Int} (n0:p0.block≠p4.block) (n1:p1.block≠p4.block) (n2:p2.block≠p4.block) (n3:p3.block≠p4.block) (n6:p6.block≠p4.block) (n7:p7.block≠p4.block) (e5:p5.block=p4.block) (ne:p4≠p5) (hB:w0.heap.size≤p4.block)
 (h:a.cell? p0=some v0∧a.cell? p1=some v1∧a.cell? p2=some v2∧a.cell? p3=some v3∧a.cell? p4=some (.int .i64 (slotInt a p4))∧a.cell? p5=some (.int .i64 (slotInt a p5))∧a.cell? p6=some v6∧a.cell? p7=some v7∧a.frozen? p4=false∧a.frozen? p5=false∧Below w0.heap.size w0 a) :
 ((a.setCell p4 (.int .i64 x)).setCell p5 (.int .i64 y)).cell? p0=some v0∧((a.setCell p4 (.int .i64 x)).setCell p5 (.int .i64 y)).cell? p1=some v1∧((a.setCell p4 (.int .i64 x)).setCell p5 (.int .i64 y)).cell? p2=some v2∧((a.setCell p4 (.int .i64 x)).setCell p5 (.int .i64 y)).cell? p3=some v3∧((a.setCell p4 (.int .i64 x)).setCell p5 (.int .i64 y)).cell? p4=some (.int .i64 (slotInt ((a.setCell p4 (.int .i64 x)).setCell p5 (.int .i64 y)) p4))∧((a.setCell p4 (.int .i64 x)).setCell p5 (.int .i64 y)).cell? p5=some (.int .i64 (slotInt ((a.setCell p4 (.int .i64 x)).setCell p5 (.int .i64 y)) p5))∧((a.setCell p4 (.int .i64 x)).setCell p5 (.int .i64 y)).cell? p6=some v6∧((a.setCell p4 (.int .i64 x)).setCell p5 (.int .i64 y)).cell? p7=some v7∧((a.setCell p4 (.int .i64 x)).setCell p5 (.int .i64 y)).frozen? p4=false∧((a.setCell p4 (.int .i64 x)).setCell p5 (.int .i64 y)).frozen? p5=false∧Below w0.heap.size w0 ((a.setCell p4 (.int .i64 x)).setCell p5 (.int .i64 y)):=by
 obtain ⟨h0,h1,h2,h3,h4,h5,h6,h7,f4,f5,hw⟩:=h
 have far:∀ p:Addr,p.block≠p4.block→((a.setCell p4 (.int .i64 x)).setCell p5 (.int .i64 y)).cell? p=a.cell? p:=by
  intro p hp
  rw [World.cell?_setCell_other _ _ _ _ (by intro e;subst e;exact hp e5),World.cell?_setCell_other _ _ _ _ (by intro e;subst e;exact hp rfl)]
 have s5:(a.setCell p4 (.int .i64 x)).cell? p5=some (.int .i64 (slotInt a p5)):=(World.cell?_setCell_other _ _ _ _ ne).trans h5
 have g4:((a.setCell p4 (.int .i64 x)).setCell p5 (.int .i64 y)).cell? p4=some (.int .i64 x):=(World.cell?_setCell_other _ _ _ _ (Ne.symm ne)).trans (World.cell?_setCell_same _ _ _ h4)
 have g5:((a.setCell p4 (.int .i64 x)).setCell p5 (.int .i64 y)).cell? p5=some (.int .i64 y):=World.cell?_setCell_same _ _ _ s5
 refine ⟨(far _ n0).trans h0,(far _ n1).trans h1,(far _ n2).trans h2,(far _ n3).trans h3,slot_of g4,slot_of g5,(far _ n6).trans h6,(far _ n7).trans h7,?_,?_,(hw.setCell hB _).setCell (by rw [e5];exact hB) _⟩
 · simp [f4]
 · simp [f5]
set_option maxHeartbeats 4000000 in
theorem refmul_raw (a b c d x y:Int) (ok:Bool) (a1: -9223372036854775808≤a) (a2:a≤9223372036854775807) (b1: -9223372036854775808≤b) (b2:b≤9223372036854775807) (k1: -9223372036854775808≤c) (k2:c≤9223372036854775807) (d1: -9223372036854775808≤d) (d2:d≤9223372036854775807)
 (T:∀ w,Calls Tryz.prog 63 #[.agg #[.int .u64 (high64 (mulA a b c d)),.int .u64 (low64 (mulA a b c d))],.agg #[.int .u64 (high64 (mulB a b c d)),.int .u64 (low64 (mulB a b c d))]] w fun e w'=>e=.returned (.tuple #[.agg #[.int .i64 x,.int .i64 y],.bool ok])∧Below w.heap.size w w') (w:World) :
 Calls Tryz.prog 33 #[.agg #[.int .i64 a,.int .i64 b],.agg #[.int .i64 c,.int .i64 d]] w fun e w'=>e=.returned (.tuple #[.agg #[.int .i64 x,.int .i64 y],.bool ok])∧Below w.heap.size w w':=by
 have TD:Hid (∀ w,Calls Tryz.prog 63 #[.agg #[.int .u64 (high64 (a*c+-(b*d))),.int .u64 (low64 (a*c+-(b*d)))],.agg #[.int .u64 (high64 (a*d+b*c+b*d)),.int .u64 (low64 (a*d+b*c+b*d))]] w fun e w'=>e=.returned (.tuple #[.agg #[.int .i64 x,.int .i64 y],.bool ok])∧Below w.heap.size w w'):=T
 clear T
 go_enter Tryz.func33,Tryz.ntmps33
 go_wp2_with fail
 refine (times_any b d b1 b2 d1 d2 _).mono ?_
 rintro e w1 ⟨rfl,c1⟩
 obtain ⟨hc,hf⟩:=bcell c1
 have z1:w.heap.size+1+1 < w1.heap.size:=by have:=c1.size;simp at this;omega
 have hbw:Below w.heap.size w (w1.alloc (.cells #[.int .u64 (high64 (b*d)),.int .u64 (low64 (b*d))] 107)).drew :=
  ((((((Below.refl _ _).alloc (Nat.le_refl _) _).alloc (by simp) _).alloc (by simp;omega) _).trans (c1.mono (by simp;omega))).alloc (by omega) _).drew
 have hx:Below w1.heap.size w1 (w1.alloc (.cells #[.int .u64 (high64 (b*d)),.int .u64 (low64 (b*d))] 107)).drew:=((Below.refl _ _).alloc (Nat.le_refl _) _).drew
 have k0':w1.cell? ⟨w.heap.size,0,none⟩=some (.int .i64 a):=by rw [hc _ _ (by simp;try omega)];go_simp
 have s0:(w1.alloc (.cells #[.int .u64 (high64 (b*d)),.int .u64 (low64 (b*d))] 107)).drew.cell? ⟨w.heap.size,0,none⟩=some (.int .i64 a):=keepCell hx k0'
 have k1':w1.cell? ⟨w.heap.size,1,none⟩=some (.int .i64 b):=by rw [hc _ _ (by simp;try omega)];go_simp
 have s1:(w1.alloc (.cells #[.int .u64 (high64 (b*d)),.int .u64 (low64 (b*d))] 107)).drew.cell? ⟨w.heap.size,1,none⟩=some (.int .i64 b):=keepCell hx k1'
 have k2':w1.cell? ⟨w.heap.size+1,0,none⟩=some (.int .i64 c):=by rw [hc _ _ (by simp;try omega)];go_simp
 have s2:(w1.alloc (.cells #[.int .u64 (high64 (b*d)),.int .u64 (low64 (b*d))] 107)).drew.cell? ⟨w.heap.size+1,0,none⟩=some (.int .i64 c):=keepCell hx k2'
 have k3':w1.cell? ⟨w.heap.size+1,1,none⟩=some (.int .i64 d):=by rw [hc _ _ (by simp;try omega)];go_simp
 have s3:(w1.alloc (.cells #[.int .u64 (high64 (b*d)),.int .u64 (low64 (b*d))] 107)).drew.cell? ⟨w.heap.size+1,1,none⟩=some (.int .i64 d):=keepCell hx k3'
 have k4':w1.cell? ⟨w.heap.size+1+1,0,none⟩=some (.int .i64 0):=by rw [hc _ _ (by simp;try omega)];go_simp
 have s4:(w1.alloc (.cells #[.int .u64 (high64 (b*d)),.int .u64 (low64 (b*d))] 107)).drew.cell? ⟨w.heap.size+1+1,0,none⟩=some (.int .i64 0):=keepCell hx k4'
 have k5':w1.cell? ⟨w.heap.size+1+1,1,none⟩=some (.int .i64 0):=by rw [hc _ _ (by simp;try omega)];go_simp
 have s5:(w1.alloc (.cells #[.int .u64 (high64 (b*d)),.int .u64 (low64 (b*d))] 107)).drew.cell? ⟨w.heap.size+1+1,1,none⟩=some (.int .i64 0):=keepCell hx k5'
 have f4':w1.frozen? ⟨w.heap.size+1+1,0,none⟩=false:=by rw [hf _ _ (by simp;try omega)];go_simp
 have f4:(w1.alloc (.cells #[.int .u64 (high64 (b*d)),.int .u64 (low64 (b*d))] 107)).drew.frozen? ⟨w.heap.size+1+1,0,none⟩=false:=keepFrozen hx k4' f4'
 have f5':w1.frozen? ⟨w.heap.size+1+1,1,none⟩=false:=by rw [hf _ _ (by simp;try omega)];go_simp
 have f5:(w1.alloc (.cells #[.int .u64 (high64 (b*d)),.int .u64 (low64 (b*d))] 107)).drew.frozen? ⟨w.heap.size+1+1,1,none⟩=false:=keepFrozen hx k5' f5'
 have s6:(w1.alloc (.cells #[.int .u64 (high64 (b*d)),.int .u64 (low64 (b*d))] 107)).drew.cell? ⟨w1.heap.size,0,none⟩=some (.int .u64 (high64 (b*d))):=by go_simp
 have s7:(w1.alloc (.cells #[.int .u64 (high64 (b*d)),.int .u64 (low64 (b*d))] 107)).drew.cell? ⟨w1.heap.size,1,none⟩=some (.int .u64 (low64 (b*d))):=by go_simp
 clear k0' k1' k2' k3' k4' k5' f4' f5' hc hf hx
 go_wp2_with fail
 go_region_held3 (fun w'=>w'.cell? ⟨w.heap.size,0,none⟩=some (.int .i64 a)∧w'.cell? ⟨w.heap.size,1,none⟩=some (.int .i64 b)∧w'.cell? ⟨w.heap.size+1,0,none⟩=some (.int .i64 c)∧w'.cell? ⟨w.heap.size+1,1,none⟩=some (.int .i64 d)∧w'.cell? ⟨w.heap.size+1+1,0,none⟩=some (.int .i64 (slotInt w' ⟨w.heap.size+1+1,0,none⟩))∧w'.cell? ⟨w.heap.size+1+1,1,none⟩=some (.int .i64 (slotInt w' ⟨w.heap.size+1+1,1,none⟩))∧w'.cell? ⟨w1.heap.size,0,none⟩=some (.int .u64 (high64 (b*d)))∧w'.cell? ⟨w1.heap.size,1,none⟩=some (.int .u64 (low64 (b*d)))∧w'.frozen? ⟨w.heap.size+1+1,0,none⟩=false∧w'.frozen? ⟨w.heap.size+1+1,1,none⟩=false∧Below w.heap.size w w') (first | exact ⟨s0,s1,s2,s3,slot_of s4,slot_of s5,s6,s7,f4,f5,hbw⟩ | exact keepHeld hb (by assumption) | exact keepStore (by simp;try omega) (by simp;try omega) (by simp;try omega) (by simp;try omega) (by simp;try omega) (by simp;try omega) rfl (by simp) (by simp;try omega) (by assumption))
  (first | (go_at_call 65;refine (turned_any (b*d) _).mono ?_;rintro e w' ⟨rfl,hb⟩) | (go_at_call 63;refine (TD.out _).mono ?_;rintro e w' ⟨rfl,hb⟩) | (go_at_call 62;refine (times_any _ _ (by assumption) (by assumption) (by assumption) (by assumption) _).mono ?_;rintro e w' ⟨rfl,hb⟩) | (go_at_call 64;refine (plus_any _ _ _).mono ?_;rintro e w' ⟨rfl,hb⟩))
 go_wp2
 rename_i wA bA wB bB wC bC wD bD wE bE wF bF wG bG hS
 obtain ⟨g0,g1⟩:=two_stores (u:=.int .i64 x) (v:=.int .i64 y) (keepCell hb (keepCell bG (keepCell bF (keepCell bE (keepCell bD (keepCell bC (keepCell bB (keepCell bA s4)))))))) (keepCell hb (keepCell bG (keepCell bF (keepCell bE (keepCell bD (keepCell bC (keepCell bB (keepCell bA s5))))))))
 exact bodyPost_ret (v:=.tuple #[.agg #[.int .i64 x,.int .i64 y],.bool ok]) (by simp [results,Tryz.results33,go_sem,g0,g1]) rfl ⟨rfl,hS.2.2.2.2.2.2.2.2.2.2⟩
theorem refmul_yes (a b c d:Int) (a1: -9223372036854775808≤a) (a2:a≤9223372036854775807) (b1: -9223372036854775808≤b) (b2:b≤9223372036854775807) (k1: -9223372036854775808≤c) (k2:c≤9223372036854775807) (d1: -9223372036854775808≤d) (d2:d≤9223372036854775807)
 (hx:fits (mulA a b c d)=true) (hy:fits (mulB a b c d)=true) (w:World) :
 Calls Tryz.prog 33 #[.agg #[.int .i64 a,.int .i64 b],.agg #[.int .i64 c,.int .i64 d]] w fun e w'=>e=.returned (.tuple #[.agg #[.int .i64 (mulA a b c d),.int .i64 (mulB a b c d)],.bool true])∧Below w.heap.size w w' :=
 refmul_raw a b c d _ _ _ a1 a2 b1 b2 k1 k2 d1 d2 (two_yes _ _ hx hy) w
set_option maxHeartbeats 400000 in
theorem reffloor_up (a b:Int) (hb:0 < b) (hz:¬ b=0) (h:0≤a) (h2:a≤9223372036854775807) (w:World) :
 Calls Tryz.prog 84 #[.int .i64 a,.int .i64 b] w fun e w'=>e=.returned (.tuple #[.int .i64 (a / b),.int .i64 (a%b),.bool true])∧Below w.heap.size w w':=by
 have hr:0≤a%b:=Int.emod_nonneg _ hz
 go_enter Tryz.func84,Tryz.ntmps84
 go_wp2
 go_quiet (fail)
 go_wp2
 go_ret3
 exact ⟨rfl,belowN (Below.refl _ _) _⟩
set_option maxHeartbeats 400000 in
theorem reffloor_even (a b q r:Int) (hb:0 < b) (hz:¬ b=0) (_h:a < 0) (hq:a.tdiv b=q) (hr:a.tmod b=r) (q1: -9223372036854775808≤q) (q2:q≤9223372036854775807) (r1: -9223372036854775808≤r) (r2:r≤9223372036854775807) (h0:0≤r) (w:World) :
 Calls Tryz.prog 84 #[.int .i64 a,.int .i64 b] w fun e w'=>e=.returned (.tuple #[.int .i64 q,.int .i64 r,.bool true])∧Below w.heap.size w w':=by
 go_enter Tryz.func84,Tryz.ntmps84
 go_wp2
 go_quiet (fail)
 go_wp2
 go_ret3
 exact ⟨rfl,belowN (Below.refl _ _) _⟩
set_option maxHeartbeats 400000 in
theorem reffloor_odd (a b q r:Int) (hb:0 < b) (hz:¬ b=0) (_h:a < 0) (hq:a.tdiv b=q) (hr:a.tmod b=r) (q1: -9223372036854775807≤q) (q2:q≤9223372036854775807) (r1: -9223372036854775808≤r) (r2:r+b≤9223372036854775807) (h0:r < 0) (w:World) :
 Calls Tryz.prog 84 #[.int .i64 a,.int .i64 b] w fun e w'=>e=.returned (.tuple #[.int .i64 (q - 1),.int .i64 (r+b),.bool true])∧Below w.heap.size w w':=by
 go_enter Tryz.func84,Tryz.ntmps84
 go_wp2
 go_quiet (fail)
 go_wp2
 go_ret3
 exact ⟨rfl,belowN (Below.refl _ _) _⟩
theorem reffloor_any (a b:Int) (a1: -9223372036854775808≤a) (a2:a≤9223372036854775807) (hb:0 < b) (b2:b≤9223372036854775807) (w:World) :
 Calls Tryz.prog 84 #[.int .i64 a,.int .i64 b] w fun e w'=>e=.returned (.tuple #[.int .i64 (a / b),.int .i64 (a%b),.bool true])∧Below w.heap.size w w':=by
 by_cases h:0≤a
 · exact reffloor_up a b hb (by omega) h a2 w
 · have e:=Int.mul_tdiv_add_tmod a b
   have q:=tdiv_bd (a:=b) a1 a2 (by omega)
   have r1:a.tmod b= -((-a)%b):=by
    have:=Int.neg_tmod (-a) b
    rw [Int.neg_neg] at this
    rw [this,Int.tmod_eq_emod_of_nonneg (by omega)]
   have r2:=Int.emod_nonneg (-a) (b:=b) (by omega)
   have r3:=Int.emod_lt_of_pos (-a) hb
   by_cases h0:0≤a.tmod b
   · have u:=(Int.ediv_emod_unique (a:=a) (r:=a.tmod b) (q:=a.tdiv b) hb).2 ⟨by omega,h0,by omega⟩
     rw [u.1,u.2]
     exact reffloor_even a b _ _ hb (by omega) (by omega) rfl rfl q.1 q.2 (by omega) (by omega) h0 w
   · have u:=(Int.ediv_emod_unique (a:=a) (r:=a.tmod b+b) (q:=a.tdiv b - 1) hb).2 ⟨by rw [Int.mul_sub];omega,by omega,by omega⟩
     rw [u.1,u.2]
     have q1: -9223372036854775807≤a.tdiv b:=by
      by_cases hm:a.tdiv b= -9223372036854775808
      · exfalso
        rw [hm] at e
        omega
      · omega
     exact reffloor_odd a b _ _ hb (by omega) (by omega) rfl rfl q1 q.2 (by omega) (by omega) (by omega) w
set_option maxHeartbeats 400000 in
theorem size_any (n:Int) (n1: -9223372036854775808 < n) (n2:n≤9223372036854775807) (w:World) :
 Calls Tryz.prog 121 #[.int .i64 n] w fun e w'=>e=.returned (.int .i64 (n.natAbs:Int))∧w'=w:=by
 by_cases h:n < 0
 · have e:(n.natAbs:Int)= -n:=by omega
   rw [e]
   go_enter Tryz.func121,Tryz.ntmps121
   go_wp2
   go_ret
   exact ⟨rfl,rfl⟩
 · have e:(n.natAbs:Int)=n:=by omega
   rw [e]
   go_enter Tryz.func121,Tryz.ntmps121
   go_wp2
   go_ret
   exact ⟨rfl,rfl⟩
def hexB (d s t:Int):Bool:=decide ((2*s+t).natAbs≤d.toNat∧(s+2*t).natAbs≤d.toNat∧(s - t).natAbs≤d.toNat)
theorem hexB_yes {d s t:Int} (hd:0≤d):hexB d s t=true↔Hex d s t:=by
 unfold hexB Hex
 rw [decide_eq_true_iff]
 omega
set_option maxHeartbeats 1000000 in
theorem holds_any (s t d:Int) (s1: -9007199254740992≤s) (s2:s≤9007199254740992) (t1: -9007199254740992≤t) (t2:t≤9007199254740992) (hd:0≤d) (w:World) :
 Calls Tryz.prog 85 #[.int .i64 s,.int .i64 t,.int .i64 d] w fun e w'=>e=.returned (.bool (hexB d s t))∧w'=w:=by
 obtain ⟨x,hx⟩:∃ x:Int,((2*s+t).natAbs:Int)=x:=⟨_,rfl⟩
 obtain ⟨y,hy⟩:∃ y:Int,((s+2*t).natAbs:Int)=y:=⟨_,rfl⟩
 obtain ⟨z,hz⟩:∃ z:Int,((s - t).natAbs:Int)=z:=⟨_,rfl⟩
 have HB:Hid (hexB d s t=decide (x≤d∧y≤d∧z≤d)):=by
  show hexB d s t=_
  unfold hexB
  congr 1
  apply propext
  omega
 by_cases h1:x≤d
 · by_cases h2:y≤d
   · by_cases h3:z≤d
     · have HR:Hid (hexB d s t=true):=by show _;rw [HB.out];exact decide_eq_true ⟨h1,h2,h3⟩
       clear HB
       go_enter Tryz.func85,Tryz.ntmps85
       go_wp2_with (go_at_call 121;refine (size_any _ (by omega) (by omega) _).mono ?_;rintro e w' ⟨rfl,rfl⟩)
       go_ret
       exact ⟨by rw [HR.out];rfl,rfl⟩
     · have HR:Hid (hexB d s t=false):=by show _;rw [HB.out];exact decide_eq_false (by omega)
       clear HB
       have h3':=df h3
       go_enter Tryz.func85,Tryz.ntmps85
       go_wp2_with (go_at_call 121;refine (size_any _ (by omega) (by omega) _).mono ?_;rintro e w' ⟨rfl,rfl⟩)
       go_ret
       exact ⟨by rw [HR.out];rfl,rfl⟩
   · have HR:Hid (hexB d s t=false):=by show _;rw [HB.out];exact decide_eq_false (by omega)
     clear HB
     have h2':=df h2
     go_enter Tryz.func85,Tryz.ntmps85
     go_wp2_with (go_at_call 121;refine (size_any _ (by omega) (by omega) _).mono ?_;rintro e w' ⟨rfl,rfl⟩)
     go_ret
     exact ⟨by rw [HR.out];rfl,rfl⟩
 · have HR:Hid (hexB d s t=false):=by show _;rw [HB.out];exact decide_eq_false (by omega)
   clear HB
   have h1':=df h1
   go_enter Tryz.func85,Tryz.ntmps85
   go_wp2_with (go_at_call 121;refine (size_any _ (by omega) (by omega) _).mono ?_;rintro e w' ⟨rfl,rfl⟩)
   go_ret
   exact ⟨by rw [HR.out];rfl,rfl⟩
set_option maxHeartbeats 1000000 in
theorem refround_see (u v d:Int) (u1: -1152921504606846976≤u) (u2:u≤1152921504606846976) (v1: -1152921504606846976≤v) (v2:v≤1152921504606846976) (d1:1≤d) (d2:d≤1125899906842624) (w:World) :
 Calls Tryz.prog 49 #[.agg #[.int .i64 u,.int .i64 v],.int .i64 d] w fun e w'=>TellsR d u v e∧Below w.heap.size w w':=by
 have q1: -1152921504606846976≤u / d∧u / d≤1152921504606846976:=div_box u1 u2 d1
 have q2: -1152921504606846976≤v / d∧v / d≤1152921504606846976:=div_box v1 v2 d1
 have r1:=Int.emod_nonneg u (b:=d) (by omega)
 have r2:=Int.emod_lt_of_pos u (b:=d) (by omega)
 have r3:=Int.emod_nonneg v (b:=d) (by omega)
 have r4:=Int.emod_lt_of_pos v (b:=d) (by omega)
 have E1:Hid (u=d*(u / d)+u%d):=(Int.mul_ediv_add_emod u d).symm
 have E2:Hid (v=d*(v / d)+v%d):=(Int.mul_ediv_add_emod v d).symm
 have F1:∀ w,Calls Tryz.prog 84 #[.int .i64 u,.int .i64 d] w fun e w'=>e=.returned (.tuple #[.int .i64 (u / d),.int .i64 (u%d),.bool true])∧Below w.heap.size w w':=reffloor_any u d (by omega) (by omega) (by omega) (by omega)
 have F2:∀ w,Calls Tryz.prog 84 #[.int .i64 v,.int .i64 d] w fun e w'=>e=.returned (.tuple #[.int .i64 (v / d),.int .i64 (v%d),.bool true])∧Below w.heap.size w w':=reffloor_any v d (by omega) (by omega) (by omega) (by omega)
 generalize u / d=a at q1 E1 F1
 generalize v / d=b at q2 E2 F2
 generalize u%d=s at r1 r2 E1 F1
 generalize v%d=t at r3 r4 E2 F2
 replace F1:Hid _:=F1
 replace F2:Hid _:=F2
 go_enter Tryz.func49,Tryz.ntmps49
 go_wp2_with fail
 refine (F1.out _).mono ?_
 rintro e w1 ⟨rfl,c1⟩
 have d0:w1.cell? ⟨w.heap.size,0,none⟩=some (.int .i64 u):=by rw [c1.cell (p:=⟨w.heap.size,0,none⟩) (by simp;omega)];go_simp
 have d1:w1.cell? ⟨w.heap.size,1,none⟩=some (.int .i64 v):=by rw [c1.cell (p:=⟨w.heap.size,1,none⟩) (by simp;omega)];go_simp
 go_wp2_with fail
 refine (F2.out _).mono ?_
 rintro e w2 ⟨rfl,c2⟩
 have e0:w2.cell? ⟨w.heap.size+1,0,none⟩=some (.int .i64 0):=by
  rw [c2.cell (p:=⟨w.heap.size+1,0,none⟩) (by have:=c1.size;simp at this;show w.heap.size+1 < w1.heap.size;omega),c1.cell (p:=⟨w.heap.size+1,0,none⟩) (by simp)];go_simp
 have e1:w2.cell? ⟨w.heap.size+1,1,none⟩=some (.int .i64 0):=by
  rw [c2.cell (p:=⟨w.heap.size+1,1,none⟩) (by have:=c1.size;simp at this;show w.heap.size+1 < w1.heap.size;omega),c1.cell (p:=⟨w.heap.size+1,1,none⟩) (by simp)];go_simp
 have f0:w2.frozen? ⟨w.heap.size+1,0,none⟩=false:=by
  rw [c2.frozen (p:=⟨w.heap.size+1,0,none⟩) (by have:=c1.size;simp at this;show w.heap.size+1 < w1.heap.size;omega),c1.frozen (p:=⟨w.heap.size+1,0,none⟩) (by simp)];go_simp
 have f1:w2.frozen? ⟨w.heap.size+1,1,none⟩=false:=by
  rw [c2.frozen (p:=⟨w.heap.size+1,1,none⟩) (by have:=c1.size;simp at this;show w.heap.size+1 < w1.heap.size;omega),c1.frozen (p:=⟨w.heap.size+1,1,none⟩) (by simp)];go_simp
 have BW:Hid (Below w.heap.size w w2):=by
  have h1:Below w.heap.size w w1:=(((Below.refl _ _).alloc (Nat.le_refl _) _).alloc (by simp) _).trans (c1.mono (by simp;omega))
  exact h1.trans (c2.mono h1.size)
 clear c1 c2 d0 d1 F1 F2
 go_wp2_with fail
 go_loop [12] (fun vi=>∃ i:Int,-1≤i∧i≤3∧vi=.int .i64 i∧Hid (∀ i' k',i' < i→¬ HexW d s t i' k')) (fun vi=>(3 - intOf vi).toNat)
 case atStart=>exact ⟨-1,by omega,by omega,rfl,fun i' k' hi h=>by have:=hex_window r1 r2 r3 r4 h;omega⟩
 case round =>
  obtain ⟨i,i1,i2,rfl,HI⟩:=hrel
  by_cases hi:i≤2
  · obtain ⟨bi1,bi2⟩:=mul_box i1 hi d1 d2
    go_wp2_with fail
    go_loop [13] (fun vk=>∃ k:Int,-1≤k∧k≤3∧vk=.int .i64 k∧Hid (∀ k',k' < k→¬ HexW d s t i k')) (fun vk=>(3 - intOf vk).toNat)
    case atStart=>exact ⟨-1,by omega,by omega,rfl,fun k' hk h=>by have:=hex_window r1 r2 r3 r4 h;omega⟩
    case round =>
     obtain ⟨k,k1,k2,rfl,HK⟩:=hrel
     by_cases hk:k≤2
     · obtain ⟨bk1,bk2⟩:=mul_box k1 hk d1 d2
       cases hB:hexB d (s - i*d) (t - k*d) with
       | true =>
        have HB:Hid (hexB d (s - i*d) (t - k*d)=true):=hB
        clear hB
        obtain ⟨g0,g1⟩:=two_stores (u:=.int .i64 (a+i)) (v:=.int .i64 (b+k)) e0 e1
        go_wp2_with fail
        refine (holds_any (s - i*d) (t - k*d) d (by omega) (by omega) (by omega) (by omega) (by omega) _).mono ?_
        rw [HB.out]
        rintro e w3 ⟨rfl,rfl⟩
        go_wp2
        refine bodyPost_ret (v:=.tuple #[.agg #[.int .i64 (a+i),.int .i64 (b+k)],.bool true]) (by simp [results,Tryz.results49,go_sem,g0,g1]) rfl ⟨⟨a+i,b+k,rfl,nearest_of E1.out E2.out ((hexB_yes (by omega)).1 HB.out) (fun i' k' h=>?_)⟩,(BW.out.setCell (by simp) _).setCell (by simp) _⟩
        by_cases hlt:i' < i
        · exact absurd h (HI.out i' k' hlt)
        · by_cases he:i'=i
          · subst he
            by_cases hkl:k' < k
            · exact absurd h (HK.out k' hkl)
            · omega
          · omega
       | false =>
        have HB:Hid (hexB d (s - i*d) (t - k*d)=false):=hB
        clear hB
        go_wp2_with fail
        refine (holds_any (s - i*d) (t - k*d) d (by omega) (by omega) (by omega) (by omega) (by omega) _).mono ?_
        rw [HB.out]
        rintro e w3 ⟨rfl,rfl⟩
        go_wp2
        go_round
        case rel =>
         refine ⟨k+1,by omega,by omega,rfl,fun k' hk' h=>?_⟩
         by_cases he:k'=k
         · subst he
           have:=(hexB_yes (show 0≤d by omega)).2 h
           rw [HB.out] at this
           cases this
         · exact HK.out k' (by omega) h
        case measure=>simp [intOf];omega
     · have hk':¬ k < 3:=by omega
       go_wp2
       go_round
       case rel =>
        refine ⟨i+1,by omega,by omega,rfl,fun i' k' hi' h=>?_⟩
        by_cases he:i'=i
        · subst he
          have hw:=hex_window r1 r2 r3 r4 h
          exact HK.out k' (by omega) h
        · exact HI.out i' k' (by omega) h
       case measure=>simp [intOf];omega
  · exfalso
    obtain ⟨i',k',h⟩:=hexW_some r1 r2 r3 r4
    have hw:=hex_window r1 r2 r3 r4 h
    exact HI.out i' k' (by omega) h
def betw (n l h:Int):Bool:=decide (l≤n∧n≤h)
set_option maxHeartbeats 400000 in
theorem within_yes (n l h:Int) (h1:l≤n) (h2:n≤h) (w:World) :
 Calls Tryz.prog 131 #[.int .i64 n,.int .i64 l,.int .i64 h] w fun e w'=>e=.returned (.bool true)∧w'=w:=by
 go_enter Tryz.func131,Tryz.ntmps131
 go_wp2
 go_ret
 exact ⟨rfl,rfl⟩
set_option maxHeartbeats 400000 in
theorem within_below (n l h:Int) (h1:decide (l≤n)=false) (w:World) :
 Calls Tryz.prog 131 #[.int .i64 n,.int .i64 l,.int .i64 h] w fun e w'=>e=.returned (.bool false)∧w'=w:=by
 go_enter Tryz.func131,Tryz.ntmps131
 go_wp2
 go_ret
 exact ⟨rfl,rfl⟩
set_option maxHeartbeats 400000 in
theorem within_above (n l h:Int) (h1:l≤n) (h2:decide (n≤h)=false) (w:World) :
 Calls Tryz.prog 131 #[.int .i64 n,.int .i64 l,.int .i64 h] w fun e w'=>e=.returned (.bool false)∧w'=w:=by
 go_enter Tryz.func131,Tryz.ntmps131
 go_wp2
 go_ret
 exact ⟨rfl,rfl⟩
theorem within_any (n l h:Int) (w:World) :
 Calls Tryz.prog 131 #[.int .i64 n,.int .i64 l,.int .i64 h] w fun e w'=>e=.returned (.bool (betw n l h))∧w'=w:=by
 by_cases h1:l≤n
 · by_cases h2:n≤h
   · rw [show betw n l h=true from decide_eq_true ⟨h1,h2⟩];exact within_yes n l h h1 h2 w
   · rw [show betw n l h=false from decide_eq_false (fun k=>h2 k.2)];exact within_above n l h h1 (df h2) w
 · rw [show betw n l h=false from decide_eq_false (fun k=>h1 k.1)];exact within_below n l h (df h1) w
set_option maxHeartbeats 400000 in
theorem side_0 (s t d:Int) (w:World) :
 Calls Tryz.prog 159 #[.agg #[.int .i64 s,.int .i64 t,.int .i64 d]] w fun e w'=>e=.returned (.int .i64 (farN s t d 0))∧Below w.heap.size w w':=by
 show Calls _ _ _ _ fun e w'=>e=.returned (.int .i64 (0))∧Below w.heap.size w w'
 go_enter Tryz.func159,Tryz.ntmps159
 go_wp2
 go_ret
 exact ⟨rfl,by go_grown⟩
set_option maxHeartbeats 400000 in
theorem side_1 (s t d:Int) (s0:0≤s) (s1:s < d) (t0:0≤t) (t1:t < d) (d2:d≤1125899906842624) (w:World) :
 Calls Tryz.prog 160 #[.agg #[.int .i64 s,.int .i64 t,.int .i64 d]] w fun e w'=>e=.returned (.int .i64 (farN s t d 1))∧Below w.heap.size w w':=by
 show Calls _ _ _ _ fun e w'=>e=.returned (.int .i64 (d - s - 2*t))∧Below w.heap.size w w'
 go_enter Tryz.func160,Tryz.ntmps160
 go_wp2
 go_ret
 exact ⟨rfl,by go_grown⟩
set_option maxHeartbeats 400000 in
theorem side_2 (s t d:Int) (s0:0≤s) (s1:s < d) (t0:0≤t) (t1:t < d) (d2:d≤1125899906842624) (w:World) :
 Calls Tryz.prog 161 #[.agg #[.int .i64 s,.int .i64 t,.int .i64 d]] w fun e w'=>e=.returned (.int .i64 (farN s t d 2))∧Below w.heap.size w w':=by
 show Calls _ _ _ _ fun e w'=>e=.returned (.int .i64 (d - 2*s - t))∧Below w.heap.size w w'
 go_enter Tryz.func161,Tryz.ntmps161
 go_wp2
 go_ret
 exact ⟨rfl,by go_grown⟩
set_option maxHeartbeats 400000 in
theorem side_3 (s t d:Int) (s0:0≤s) (s1:s < d) (t0:0≤t) (t1:t < d) (d2:d≤1125899906842624) (w:World) :
 Calls Tryz.prog 162 #[.agg #[.int .i64 s,.int .i64 t,.int .i64 d]] w fun e w'=>e=.returned (.int .i64 (farN s t d 3))∧Below w.heap.size w w':=by
 show Calls _ _ _ _ fun e w'=>e=.returned (.int .i64 (3*(d - s - t)))∧Below w.heap.size w w'
 go_enter Tryz.func162,Tryz.ntmps162
 go_wp2
 go_ret
 exact ⟨rfl,by go_grown⟩
theorem pick_yes {s t d l:Int} {k b:Nat} (h:pick s t d k=(b,l)) (hl:farN s t d k < l):pick s t d (k+1)=(k,farN s t d k):=by
 show (if farN s t d k < (pick s t d k).2 then (k,farN s t d k) else pick s t d k)=_
 rw [h];exact if_pos hl
theorem pick_no {s t d l:Int} {k b:Nat} (h:pick s t d k=(b,l)) (hl:¬ farN s t d k < l):pick s t d (k+1)=(b,l):=by
 show (if farN s t d k < (pick s t d k).2 then (k,farN s t d k) else pick s t d k)=_
 rw [h];exact if_neg hl
theorem sides_0 (w:World):(Instr.index 214 (.agg #[.func (.func 159) #[] #[],.func (.func 160) #[] #[],.func (.func 161) #[] #[],.func (.func 162) #[] #[]]) (.int .i64 0)).run Tryz.prog w=.ok (.func (.func 159) #[] #[]) w:=by kernel_rfl
theorem sides_1 (w:World):(Instr.index 214 (.agg #[.func (.func 159) #[] #[],.func (.func 160) #[] #[],.func (.func 161) #[] #[],.func (.func 162) #[] #[]]) (.int .i64 1)).run Tryz.prog w=.ok (.func (.func 160) #[] #[]) w:=by kernel_rfl
theorem sides_2 (w:World):(Instr.index 214 (.agg #[.func (.func 159) #[] #[],.func (.func 160) #[] #[],.func (.func 161) #[] #[],.func (.func 162) #[] #[]]) (.int .i64 2)).run Tryz.prog w=.ok (.func (.func 161) #[] #[]) w:=by kernel_rfl
theorem sides_3 (w:World):(Instr.index 214 (.agg #[.func (.func 159) #[] #[],.func (.func 160) #[] #[],.func (.func 161) #[] #[],.func (.func 162) #[] #[]]) (.int .i64 3)).run Tryz.prog w=.ok (.func (.func 162) #[] #[]) w:=by kernel_rfl
set_option maxHeartbeats 1000000 in
theorem nearest_any (s t d:Int) (s0:0≤s) (s1:s < d) (t0:0≤t) (t1:t < d) (d2:d≤1125899906842624) (w:World) :
 Calls Tryz.prog 133 #[.agg #[.int .i64 s,.int .i64 t,.int .i64 d]] w fun e w'=>e=.returned (.tuple #[.int .i64 (((pick s t d 4).1:Int) / 2),.int .i64 (((pick s t d 4).1:Int)%2)])∧Below w.heap.size w w':=by
 have C0:Hid (∀ w,Calls Tryz.prog 159 #[.agg #[.int .i64 s,.int .i64 t,.int .i64 d]] w fun e w'=>e=.returned (.int .i64 0)∧Below w.heap.size w w'):=side_0 s t d
 have C1:Hid (∀ w,Calls Tryz.prog 160 #[.agg #[.int .i64 s,.int .i64 t,.int .i64 d]] w fun e w'=>e=.returned (.int .i64 (farN s t d 1))∧Below w.heap.size w w'):=side_1 s t d s0 s1 t0 t1 d2
 have C2:Hid (∀ w,Calls Tryz.prog 161 #[.agg #[.int .i64 s,.int .i64 t,.int .i64 d]] w fun e w'=>e=.returned (.int .i64 (farN s t d 2))∧Below w.heap.size w w'):=side_2 s t d s0 s1 t0 t1 d2
 have C3:Hid (∀ w,Calls Tryz.prog 162 #[.agg #[.int .i64 s,.int .i64 t,.int .i64 d]] w fun e w'=>e=.returned (.int .i64 (farN s t d 3))∧Below w.heap.size w w'):=side_3 s t d s0 s1 t0 t1 d2
 clear s0 s1 t0 t1 d2
 go_enter Tryz.func133,Tryz.ntmps133
 go_wp2_with fail
 refine (C0.out _).mono ?_
 rintro e w1 ⟨rfl,c1⟩
 obtain ⟨hc,hf⟩:=bcell c1
 have x0:w1.cell? ⟨w.heap.size,0,none⟩=some (.int .i64 s):=by rw [hc _ _ (by simp)];go_simp
 have x1:w1.cell? ⟨w.heap.size,1,none⟩=some (.int .i64 t):=by rw [hc _ _ (by simp)];go_simp
 have x2:w1.cell? ⟨w.heap.size,2,none⟩=some (.int .i64 d):=by rw [hc _ _ (by simp)];go_simp
 have hb1:Below w.heap.size w w1:=Below.trans (by go_grown) (c1.mono (by simp;try omega))
 clear hc hf c1
 go_wp2_with fail
 go_loopw [4,5,12] (fun vb vl vi wr=>∃ (k b:Nat) (l:Int),k≤4∧b≤3∧vi=.int .i64 (k:Int)∧vb=.int .i64 (b:Int)∧vl=.int .i64 l∧Hid (pick s t d k=(b,l))∧wr.cell? ⟨w.heap.size,0,none⟩=some (.int .i64 s)∧wr.cell? ⟨w.heap.size,1,none⟩=some (.int .i64 t)∧wr.cell? ⟨w.heap.size,2,none⟩=some (.int .i64 d)∧Below w.heap.size w wr) (fun _ _ vi _=>4 - (intOf vi).toNat)
 case atStart=>exact ⟨0,0,0,by omega,by omega,rfl,rfl,rfl,rfl,x0,x1,x2,hb1⟩
 case round =>
  obtain ⟨k,b,l,hk,hb,rfl,rfl,rfl,HP,y0,y1,y2,hB⟩:=hrel
  clear x0 x1 x2 hb1
  have ck:k=0∨k=1∨k=2∨k=3∨k=4:=by omega
  rcases ck with rfl | rfl | rfl | rfl | rfl
  · have CK:=C0
    clear C0 C1 C2 C3
    have HI:=sides_0
    by_cases hlt:0 < l
    · go_wp2_with fail
      refine (CK.out _).mono ?_
      rintro e w2 ⟨rfl,c2⟩
      have z0:=keepCell c2 y0
      have z1:=keepCell c2 y1
      have z2:=keepCell c2 y2
      have hB2:=belowT hB c2
      clear y0 y1 y2 hB c2
      go_wp2
      go_roundw
      case rel=>exact ⟨1,0,0,by omega,by omega,rfl,rfl,rfl,by show pick s t d (0+1)=_;rw [pick_yes HP.out (by exact hlt)];rfl,z0,z1,z2,hB2⟩
      case measure=>simp [intOf]
    · have hlt':=df hlt
      go_wp2_with fail
      refine (CK.out _).mono ?_
      rintro e w2 ⟨rfl,c2⟩
      have z0:=keepCell c2 y0
      have z1:=keepCell c2 y1
      have z2:=keepCell c2 y2
      have hB2:=belowT hB c2
      clear y0 y1 y2 hB c2
      go_wp2
      go_roundw
      case rel=>exact ⟨1,b,l,by omega,by omega,rfl,rfl,rfl,pick_no HP.out (by show ¬ (0:Int) < l;omega),z0,z1,z2,hB2⟩
      case measure=>simp [intOf]
  · obtain ⟨f,hF⟩:∃ f,farN s t d 1=f:=⟨_,rfl⟩
    have CK:=C1
    rw [hF] at CK
    replace hF:Hid _:=hF
    clear C0 C1 C2 C3
    have HI:=sides_1
    by_cases hlt:f < l
    · go_wp2_with fail
      refine (CK.out _).mono ?_
      rintro e w2 ⟨rfl,c2⟩
      have z0:=keepCell c2 y0
      have z1:=keepCell c2 y1
      have z2:=keepCell c2 y2
      have hB2:=belowT hB c2
      clear y0 y1 y2 hB c2
      go_wp2
      go_roundw
      case rel=>exact ⟨2,1,f,by omega,by omega,rfl,rfl,rfl,by show pick s t d (1+1)=_;rw [pick_yes HP.out (by rw [hF.out];exact hlt)];rw [hF.out],z0,z1,z2,hB2⟩
      case measure=>simp [intOf]
    · have hlt':=df hlt
      go_wp2_with fail
      refine (CK.out _).mono ?_
      rintro e w2 ⟨rfl,c2⟩
      have z0:=keepCell c2 y0
      have z1:=keepCell c2 y1
      have z2:=keepCell c2 y2
      have hB2:=belowT hB c2
      clear y0 y1 y2 hB c2
      go_wp2
      go_roundw
      case rel=>exact ⟨2,b,l,by omega,by omega,rfl,rfl,rfl,pick_no HP.out (by rw [hF.out];omega),z0,z1,z2,hB2⟩
      case measure=>simp [intOf]
  · obtain ⟨f,hF⟩:∃ f,farN s t d 2=f:=⟨_,rfl⟩
    have CK:=C2
    rw [hF] at CK
    replace hF:Hid _:=hF
    clear C0 C1 C2 C3
    have HI:=sides_2
    by_cases hlt:f < l
    · go_wp2_with fail
      refine (CK.out _).mono ?_
      rintro e w2 ⟨rfl,c2⟩
      have z0:=keepCell c2 y0
      have z1:=keepCell c2 y1
      have z2:=keepCell c2 y2
      have hB2:=belowT hB c2
      clear y0 y1 y2 hB c2
      go_wp2
      go_roundw
      case rel=>exact ⟨3,2,f,by omega,by omega,rfl,rfl,rfl,by show pick s t d (2+1)=_;rw [pick_yes HP.out (by rw [hF.out];exact hlt)];rw [hF.out],z0,z1,z2,hB2⟩
      case measure=>simp [intOf]
    · have hlt':=df hlt
      go_wp2_with fail
      refine (CK.out _).mono ?_
      rintro e w2 ⟨rfl,c2⟩
      have z0:=keepCell c2 y0
      have z1:=keepCell c2 y1
      have z2:=keepCell c2 y2
      have hB2:=belowT hB c2
      clear y0 y1 y2 hB c2
      go_wp2
      go_roundw
      case rel=>exact ⟨3,b,l,by omega,by omega,rfl,rfl,rfl,pick_no HP.out (by rw [hF.out];omega),z0,z1,z2,hB2⟩
      case measure=>simp [intOf]
  · obtain ⟨f,hF⟩:∃ f,farN s t d 3=f:=⟨_,rfl⟩
    have CK:=C3
    rw [hF] at CK
    replace hF:Hid _:=hF
    clear C0 C1 C2 C3
    have HI:=sides_3
    by_cases hlt:f < l
    · go_wp2_with fail
      refine (CK.out _).mono ?_
      rintro e w2 ⟨rfl,c2⟩
      have z0:=keepCell c2 y0
      have z1:=keepCell c2 y1
      have z2:=keepCell c2 y2
      have hB2:=belowT hB c2
      clear y0 y1 y2 hB c2
      go_wp2
      go_roundw
      case rel=>exact ⟨4,3,f,by omega,by omega,rfl,rfl,rfl,by show pick s t d (3+1)=_;rw [pick_yes HP.out (by rw [hF.out];exact hlt)];rw [hF.out],z0,z1,z2,hB2⟩
      case measure=>simp [intOf]
    · have hlt':=df hlt
      go_wp2_with fail
      refine (CK.out _).mono ?_
      rintro e w2 ⟨rfl,c2⟩
      have z0:=keepCell c2 y0
      have z1:=keepCell c2 y1
      have z2:=keepCell c2 y2
      have hB2:=belowT hB c2
      clear y0 y1 y2 hB c2
      go_wp2
      go_roundw
      case rel=>exact ⟨4,b,l,by omega,by omega,rfl,rfl,rfl,pick_no HP.out (by rw [hF.out];omega),z0,z1,z2,hB2⟩
      case measure=>simp [intOf]
  · clear C0 C1 C2 C3
    go_wp2
    go_ret2
    exact ⟨by rw [HP.out];rfl,hB⟩
set_option maxHeartbeats 1000000 in
theorem eround_see (u v d:Int) (u1: -1152921504606846976≤u) (u2:u≤1152921504606846976) (v1: -1152921504606846976≤v) (v2:v≤1152921504606846976) (d1:1≤d) (d2:d≤1125899906842624) (w:World) :
 Calls Tryz.prog 94 #[.agg #[.int .i64 u,.int .i64 v],.int .i64 d] w fun e w'=>TellsR d u v e∧Below w.heap.size w w':=by
 have q1: -1152921504606846976≤u / d∧u / d≤1152921504606846976:=div_box u1 u2 d1
 have q2: -1152921504606846976≤v / d∧v / d≤1152921504606846976:=div_box v1 v2 d1
 have r1:=Int.emod_nonneg u (b:=d) (by omega)
 have r2:=Int.emod_lt_of_pos u (b:=d) (by omega)
 have r3:=Int.emod_nonneg v (b:=d) (by omega)
 have r4:=Int.emod_lt_of_pos v (b:=d) (by omega)
 have E1:Hid (u=d*(u / d)+u%d):=(Int.mul_ediv_add_emod u d).symm
 have E2:Hid (v=d*(v / d)+v%d):=(Int.mul_ediv_add_emod v d).symm
 have F1:∀ w,Calls Tryz.prog 132 #[.int .i64 u,.int .i64 d] w fun e w'=>e=.returned (.tuple #[.int .i64 (u / d),.int .i64 (u%d),.bool true])∧Below w.heap.size w w':=floor_any u d (by omega) (by omega) (by omega) (by omega)
 have F2:∀ w,Calls Tryz.prog 132 #[.int .i64 v,.int .i64 d] w fun e w'=>e=.returned (.tuple #[.int .i64 (v / d),.int .i64 (v%d),.bool true])∧Below w.heap.size w w':=floor_any v d (by omega) (by omega) (by omega) (by omega)
 generalize u / d=a at q1 E1 F1
 generalize v / d=b at q2 E2 F2
 generalize u%d=s at r1 r2 E1 F1
 generalize v%d=t at r3 r4 E2 F2
 have PN:=pick_near r1 r2 r3 r4
 have hN:Nearest d u v (a+(((pick s t d 4).1:Nat):Int) / 2) (b+(((pick s t d 4).1:Nat):Int)%2):=nearest_of E1.out E2.out PN.1 PN.2
 have NE:=nearest_any s t d r1 r2 r3 r4 d2
 have hp:0≤(((pick s t d 4).1:Nat):Int)∧(((pick s t d 4).1:Nat):Int)≤4:=by have:=pick_lt s t d 4;omega
 generalize (((pick s t d 4).1:Nat):Int)=p at hN NE hp
 obtain ⟨i,hi⟩:∃ i,p / 2=i:=⟨_,rfl⟩
 obtain ⟨k,hk⟩:∃ k,p%2=k:=⟨_,rfl⟩
 have i1:0≤i∧i≤2:=by omega
 have k1:0≤k∧k≤1:=by omega
 rw [hi,hk] at hN NE
 replace F1:Hid _:=F1
 replace F2:Hid _:=F2
 replace NE:Hid _:=NE
 replace hN:Hid _:=hN
 have b1:betw d 1 1125899906842624=true:=decide_eq_true ⟨d1,d2⟩
 have b2:betw u (-1152921504606846976) 1152921504606846976=true:=decide_eq_true ⟨u1,u2⟩
 have b3:betw v (-1152921504606846976) 1152921504606846976=true:=decide_eq_true ⟨v1,v2⟩
 clear PN hi hk hp E1 E2 r1 r2 r3 r4
 go_enter Tryz.func94,Tryz.ntmps94
 go_wp2_with (first | (go_at_call 131;refine (within_any _ _ _ _).mono ?_;rintro e w' ⟨rfl,rfl⟩))
 go_wp2_with fail
 refine (F1.out _).mono ?_
 rintro e w1 ⟨rfl,c1⟩
 obtain ⟨hc,hf⟩:=bcell c1
 go_wp2_with fail
 refine (F2.out _).mono ?_
 rintro e w2 ⟨rfl,c2⟩
 replace c2:=belowT c1 c2
 clear c1 hc hf
 obtain ⟨hc,hf⟩:=bcell c2
 go_wp2_with fail
 refine (NE.out _).mono ?_
 rintro e w3 ⟨rfl,c3⟩
 replace c3:=belowT c2 c3
 clear c2 hc hf
 obtain ⟨hc,hf⟩:=bcell c3
 have e0:w3.cell? ⟨w.heap.size+1,0,none⟩=some (.int .i64 0):=by rw [hc _ _ (by simp)];go_simp
 have e1:w3.cell? ⟨w.heap.size+1,1,none⟩=some (.int .i64 0):=by rw [hc _ _ (by simp)];go_simp
 obtain ⟨g0,g1⟩:=two_stores (u:=.int .i64 (a+i)) (v:=.int .i64 (b+k)) e0 e1
 have hB:Below w.heap.size w w3:=Below.trans (by go_grown) (c3.mono (by simp;try omega))
 go_wp2
 exact bodyPost_ret (v:=.tuple #[.agg #[.int .i64 (a+i),.int .i64 (b+k)],.bool true]) (by simp [results,Tryz.results94,go_sem,g0,g1]) rfl ⟨⟨a+i,b+k,rfl,hN.out⟩,(hB.setCell (by simp;try omega) _).setCell (by simp;try omega) _⟩
set_option maxHeartbeats 400000 in
theorem pok_yes (x y:Int) (h1:0≤x) (h2:x < 1073741824) (h3:0≤y) (h4:y < 1073741824) (w:World) :
 Calls Tryz.prog 56 #[.int .i64 x,.int .i64 y] w fun e w'=>e=.returned (.bool true)∧w'=w:=by
 go_enter Tryz.func56,Tryz.ntmps56
 go_wp2
 go_ret
 exact ⟨rfl,rfl⟩
set_option maxHeartbeats 400000 in
theorem pok_no1 (x y:Int) (h1:decide (0≤x)=false) (w:World) :
 Calls Tryz.prog 56 #[.int .i64 x,.int .i64 y] w fun e w'=>e=.returned (.bool false)∧w'=w:=by
 go_enter Tryz.func56,Tryz.ntmps56
 go_wp2
 go_ret
 exact ⟨rfl,rfl⟩
set_option maxHeartbeats 400000 in
theorem pok_no2 (x y:Int) (h1:0≤x) (h2:decide (x < 1073741824)=false) (w:World) :
 Calls Tryz.prog 56 #[.int .i64 x,.int .i64 y] w fun e w'=>e=.returned (.bool false)∧w'=w:=by
 go_enter Tryz.func56,Tryz.ntmps56
 go_wp2
 go_ret
 exact ⟨rfl,rfl⟩
set_option maxHeartbeats 400000 in
theorem pok_no3 (x y:Int) (h1:0≤x) (h2:x < 1073741824) (h3:decide (0≤y)=false) (w:World) :
 Calls Tryz.prog 56 #[.int .i64 x,.int .i64 y] w fun e w'=>e=.returned (.bool false)∧w'=w:=by
 go_enter Tryz.func56,Tryz.ntmps56
 go_wp2
 go_ret
 exact ⟨rfl,rfl⟩
set_option maxHeartbeats 400000 in
theorem pok_no4 (x y:Int) (h1:0≤x) (h2:x < 1073741824) (h3:0≤y) (h4:decide (y < 1073741824)=false) (w:World) :
 Calls Tryz.prog 56 #[.int .i64 x,.int .i64 y] w fun e w'=>e=.returned (.bool false)∧w'=w:=by
 go_enter Tryz.func56,Tryz.ntmps56
 go_wp2
 go_ret
 exact ⟨rfl,rfl⟩
theorem pok_any (x y:Int) (w:World) :
 Calls Tryz.prog 56 #[.int .i64 x,.int .i64 y] w fun e w'=>e=.returned (.bool (inWB x y))∧w'=w:=by
 by_cases h1:0≤x
 · by_cases h2:x < 1073741824
   · by_cases h3:0≤y
     · by_cases h4:y < 1073741824
       · rw [inWB_mk ⟨h1,h2,h3,h4⟩];exact pok_yes x y h1 h2 h3 h4 w
       · rw [inWB_not fun h=>h4 h.2.2.2];exact pok_no4 x y h1 h2 h3 (df h4) w
     · rw [inWB_not fun h=>h3 h.2.2.1];exact pok_no3 x y h1 h2 (df h3) w
   · rw [inWB_not fun h=>h2 h.2.1];exact pok_no2 x y h1 (df h2) w
 · rw [inWB_not fun h=>h1 h.1];exact pok_no1 x y (df h1) w
theorem pok_at (x y:Int) (v:Bool) (h:inWB x y=v) (w:World) :
 Calls Tryz.prog 56 #[.int .i64 x,.int .i64 y] w fun e w'=>e=.returned (.bool v)∧Below w.heap.size w w':=by
 rw [← h];exact (pok_any x y w).mono fun e w' ⟨he,hw⟩=>⟨he,by rw [hw];exact Below.refl _ _⟩
set_option maxHeartbeats 400000 in
theorem paxial_yes (x y u v:Int) (hw:InW x y) (hu:45*x - 26*y=u) (hv:52*y=v) (w:World) :
 Calls Tryz.prog 89 #[.int .i64 x,.int .i64 y] w fun e w'=>e=.returned (.tuple #[.agg #[.int .i64 u,.int .i64 v],.bool true])∧Below w.heap.size w w':=by
 have OK:Hid (∀ w,Calls Tryz.prog 56 #[.int .i64 x,.int .i64 y] w fun e w'=>e=.returned (.bool true)∧w'=w):=pok_yes x y hw.1 hw.2.1 hw.2.2.1 hw.2.2.2
 obtain ⟨h1,h2,h3,h4⟩:=hw
 go_enter Tryz.func89,Tryz.ntmps89
 go_wp2_with fail
 refine (OK.out _).mono ?_
 rintro e w1 ⟨rfl,rfl⟩
 go_wp2
 exact bodyPost_ret (v:=.tuple #[.agg #[.int .i64 u,.int .i64 v],.bool true]) (by simp [results,Tryz.results89,go_sem]) rfl ⟨rfl,by go_grown⟩
set_option maxHeartbeats 400000 in
theorem pstep_yes (r:Int) (K:Nat) (hK:K≤12) (hr:12 - r=(K:Int)) (w:World) :
 Calls Tryz.prog 90 #[.int .i64 r] w fun e w'=>e=.returned (.tuple #[.agg #[.int .i64 (bet K).1,.int .i64 (bet K).2],.bool true])∧Below w.heap.size w w':=by
 have BE:Hid (∀ w,Calls Tryz.prog 123 #[.int .i64 (12 - r)] w fun e w'=>e=.returned (.tuple #[.agg #[.int .i64 (bet K).1,.int .i64 (bet K).2],.bool true])∧Below w.heap.size w w'):=fun w=>by rw [hr];exact ebeta_yes K (by omega) w
 have r0:0≤r:=by omega
 have r1:r≤12:=by omega
 clear hr
 generalize (bet K).1=X at *
 generalize (bet K).2=Y at *
 go_enter Tryz.func90,Tryz.ntmps90
 go_wp2_with fail
 refine (BE.out _).mono ?_
 rintro e w1 ⟨rfl,c1⟩
 obtain ⟨hc,hf⟩:=bcell c1
 have e0:w1.cell? ⟨w.heap.size,0,none⟩=some (.int .i64 0):=by rw [hc _ _ (by simp)];go_simp
 have e1:w1.cell? ⟨w.heap.size,1,none⟩=some (.int .i64 0):=by rw [hc _ _ (by simp)];go_simp
 obtain ⟨g0,g1⟩:=two_stores (u:=.int .i64 X) (v:=.int .i64 Y) e0 e1
 have hB:Below w.heap.size w w1:=Below.trans (by go_grown) (c1.mono (by simp;try omega))
 go_wp2
 exact bodyPost_ret (v:=.tuple #[.agg #[.int .i64 X,.int .i64 Y],.bool true]) (by simp [results,Tryz.results90,go_sem,g0,g1]) rfl ⟨rfl,(hB.setCell (by simp;try omega) _).setCell (by simp;try omega) _⟩
set_option maxHeartbeats 2000000 in
theorem pnear_core (x y r u v X Y c d N A B:Int) (P:Int→Int→Prop) (N1:1≤N) (N2:N≤13841287201)
 (AX:∀ w,Calls Tryz.prog 89 #[.int .i64 x,.int .i64 y] w fun e w'=>e=.returned (.tuple #[.agg #[.int .i64 u,.int .i64 v],.bool true])∧Below w.heap.size w w')
 (ST:∀ w,Calls Tryz.prog 90 #[.int .i64 r] w fun e w'=>e=.returned (.tuple #[.agg #[.int .i64 X,.int .i64 Y],.bool true])∧Below w.heap.size w w')
 (CJ:∀ w,Calls Tryz.prog 91 #[.agg #[.int .i64 X,.int .i64 Y]] w fun e w'=>e=.returned (.tuple #[.agg #[.int .i64 c,.int .i64 d],.bool true])∧Below w.heap.size w w')
 (MU:∀ w,Calls Tryz.prog 92 #[.agg #[.int .i64 u,.int .i64 v],.agg #[.int .i64 c,.int .i64 d]] w fun e w'=>e=.returned (.tuple #[.agg #[.int .i64 A,.int .i64 B],.bool true])∧Below w.heap.size w w')
 (NO:∀ w,Calls Tryz.prog 93 #[.agg #[.int .i64 X,.int .i64 Y]] w fun e w'=>e=.returned (.tuple #[.int .i64 N,.bool true])∧Below w.heap.size w w')
 (RO:∀ w,Calls Tryz.prog 94 #[.agg #[.int .i64 A,.int .i64 B],.int .i64 (2340*N)] w fun e w'=>TellsP P e∧Below w.heap.size w w')
 (w:World) :
 Calls Tryz.prog 57 #[.int .i64 x,.int .i64 y,.int .i64 r] w fun e w'=>TellsP P e∧Below w.heap.size w w':=by
 replace AX:Hid _:=AX
 replace ST:Hid _:=ST
 replace CJ:Hid _:=CJ
 replace MU:Hid _:=MU
 replace NO:Hid _:=NO
 replace RO:Hid _:=RO
 go_enter Tryz.func57,Tryz.ntmps57
 go_wp2_with fail
 refine (AX.out _).mono ?_
 rintro e w1 ⟨rfl,d1⟩
 have c1:Below w.heap.size w w1:=Below.trans (by go_grown) (d1.mono (by simp;try omega))
 have r0:w1.cell? ⟨w.heap.size,0,none⟩=some (.int .i64 0):=keepCell d1 (by go_simp)
 have fr0:w1.frozen? ⟨w.heap.size,0,none⟩=false:=keepFrozen (v:=.int .i64 0) d1 (by go_simp) (by go_simp)
 have qr0:=World.block_lt_of_cell? _ _ r0
 have r1:w1.cell? ⟨w.heap.size,1,none⟩=some (.int .i64 0):=keepCell d1 (by go_simp)
 have fr1:w1.frozen? ⟨w.heap.size,1,none⟩=false:=keepFrozen (v:=.int .i64 0) d1 (by go_simp) (by go_simp)
 have hB:=c1
 clear c1 d1
 have n1:¬ w1.heap.size=w.heap.size:=Nat.ne_of_gt qr0
 have l1:w.heap.size≤w1.heap.size:=Nat.le_of_lt qr0
 go_wp2_with fail
 refine (ST.out _).mono ?_
 rintro e w2 ⟨rfl,d2⟩
 have c2:Below w1.heap.size w1 w2:=Below.trans (by go_grown) (d2.mono (by simp;try omega))
 replace fr0:=keepFrozen c2 r0 fr0
 replace r0:=keepCell c2 r0
 replace qr0:=World.block_lt_of_cell? _ _ r0
 replace fr1:=keepFrozen c2 r1 fr1
 replace r1:=keepCell c2 r1
 have p0:w2.cell? ⟨w1.heap.size,0,none⟩=some (.int .i64 u):=keepCell d2 (by go_simp)
 have fp0:w2.frozen? ⟨w1.heap.size,0,none⟩=false:=keepFrozen (v:=.int .i64 u) d2 (by go_simp) (by go_simp)
 have qp0:=World.block_lt_of_cell? _ _ p0
 have p1:w2.cell? ⟨w1.heap.size,1,none⟩=some (.int .i64 v):=keepCell d2 (by go_simp)
 have fp1:w2.frozen? ⟨w1.heap.size,1,none⟩=false:=keepFrozen (v:=.int .i64 v) d2 (by go_simp) (by go_simp)
 replace hB:=belowT hB c2
 clear c2 d2
 have n2:¬ w1.heap.size=w2.heap.size:=Nat.ne_of_lt qp0
 go_wp2_with fail
 refine (CJ.out _).mono ?_
 rintro e w3 ⟨rfl,d3⟩
 have c3:Below w2.heap.size w2 w3:=Below.trans (by go_grown) (d3.mono (by simp;try omega))
 replace fr0:=keepFrozen c3 r0 fr0
 replace r0:=keepCell c3 r0
 replace qr0:=World.block_lt_of_cell? _ _ r0
 replace fr1:=keepFrozen c3 r1 fr1
 replace r1:=keepCell c3 r1
 replace fp0:=keepFrozen c3 p0 fp0
 replace p0:=keepCell c3 p0
 replace qp0:=World.block_lt_of_cell? _ _ p0
 replace fp1:=keepFrozen c3 p1 fp1
 replace p1:=keepCell c3 p1
 have s0:w3.cell? ⟨w2.heap.size,0,none⟩=some (.int .i64 X):=keepCell d3 (by go_simp)
 have qs0:=World.block_lt_of_cell? _ _ s0
 have s1:w3.cell? ⟨w2.heap.size,1,none⟩=some (.int .i64 Y):=keepCell d3 (by go_simp)
 replace hB:=belowT hB c3
 clear c3 d3
 go_wp2_with fail
 refine (MU.out _).mono ?_
 rintro e w4 ⟨rfl,d4⟩
 have c4:Below w3.heap.size w3 w4:=Below.trans (by go_grown) (d4.mono (by simp;try omega))
 replace fr0:=keepFrozen c4 r0 fr0
 replace r0:=keepCell c4 r0
 replace qr0:=World.block_lt_of_cell? _ _ r0
 replace fr1:=keepFrozen c4 r1 fr1
 replace r1:=keepCell c4 r1
 replace fp0:=keepFrozen c4 p0 fp0
 replace p0:=keepCell c4 p0
 replace qp0:=World.block_lt_of_cell? _ _ p0
 replace fp1:=keepFrozen c4 p1 fp1
 replace p1:=keepCell c4 p1
 replace s0:=keepCell c4 s0
 replace qs0:=World.block_lt_of_cell? _ _ s0
 replace s1:=keepCell c4 s1
 have c0:w4.cell? ⟨w3.heap.size,0,none⟩=some (.int .i64 c):=keepCell d4 (by go_simp)
 have qc0:=World.block_lt_of_cell? _ _ c0
 have c1:w4.cell? ⟨w3.heap.size,1,none⟩=some (.int .i64 d):=keepCell d4 (by go_simp)
 replace hB:=belowT hB c4
 clear c4 d4
 go_wp2_with fail
 have q0:=store_keep (u:=.int .i64 B) (q:=⟨w1.heap.size,1,none⟩) (store_new (u:=.int .i64 A) p0) (by simp)
 have q1:=store_new (u:=.int .i64 B) (store_keep (u:=.int .i64 A) (q:=⟨w1.heap.size,0,none⟩) p1 (by simp))
 have k0:=store_keep (u:=.int .i64 B) (q:=⟨w1.heap.size,1,none⟩) (store_keep (u:=.int .i64 A) (q:=⟨w1.heap.size,0,none⟩) r0 (by simp)) (by simp)
 have k1:=store_keep (u:=.int .i64 B) (q:=⟨w1.heap.size,1,none⟩) (store_keep (u:=.int .i64 A) (q:=⟨w1.heap.size,0,none⟩) r1 (by simp)) (by simp)
 have fk0:((w4.setCell ⟨w1.heap.size,0,none⟩ (.int .i64 A)).setCell ⟨w1.heap.size,1,none⟩ (.int .i64 B)).frozen? ⟨w.heap.size,0,none⟩=false:=by simp [fr0]
 have fk1:((w4.setCell ⟨w1.heap.size,0,none⟩ (.int .i64 A)).setCell ⟨w1.heap.size,1,none⟩ (.int .i64 B)).frozen? ⟨w.heap.size,1,none⟩=false:=by simp [fr1]
 replace hB:=(hB.setCell (p:=⟨w1.heap.size,0,none⟩) (by exact l1) (.int .i64 A)).setCell (p:=⟨w1.heap.size,1,none⟩) (by exact l1) (.int .i64 B)
 clear p0 p1 r0 r1 s0 s1 c0 c1 qr0 qp0 qs0 qc0 fr0 fr1 fp0 fp1
 generalize (w4.setCell ⟨w1.heap.size,0,none⟩ (.int .i64 A)).setCell ⟨w1.heap.size,1,none⟩ (.int .i64 B)=wc at *
 have qq0:=World.block_lt_of_cell? _ _ q0
 have qk0:=World.block_lt_of_cell? _ _ k0
 go_wp2_with fail
 refine (NO.out _).mono ?_
 rintro e v1 ⟨rfl,d1⟩
 have c1:Below wc.heap.size wc v1:=Below.trans (by go_grown) (d1.mono (by simp;try omega))
 replace q0:=keepCell c1 q0
 replace qq0:=World.block_lt_of_cell? _ _ q0
 replace q1:=keepCell c1 q1
 replace fk0:=keepFrozen c1 k0 fk0
 replace k0:=keepCell c1 k0
 replace qk0:=World.block_lt_of_cell? _ _ k0
 replace fk1:=keepFrozen c1 k1 fk1
 replace k1:=keepCell c1 k1
 replace hB:=belowT hB c1
 clear c1 d1
 go_wp2_with fail
 refine (RO.out _).mono ?_
 rintro e v2 ⟨⟨a,b,rfl,hn⟩,d2⟩
 have c2:Below v1.heap.size v1 v2:=Below.trans (by go_grown) (d2.mono (by simp;try omega))
 replace q0:=keepCell c2 q0
 replace qq0:=World.block_lt_of_cell? _ _ q0
 replace q1:=keepCell c2 q1
 replace fk0:=keepFrozen c2 k0 fk0
 replace k0:=keepCell c2 k0
 replace qk0:=World.block_lt_of_cell? _ _ k0
 replace fk1:=keepFrozen c2 k1 fk1
 replace k1:=keepCell c2 k1
 replace hB:=belowT hB c2
 clear c2 d2
 obtain ⟨g0,g1⟩:=two_stores (u:=.int .i64 a) (v:=.int .i64 b) k0 k1
 go_wp2
 exact bodyPost_ret (v:=.tuple #[.agg #[.int .i64 a,.int .i64 b],.bool true]) (by simp [results,Tryz.results57,go_sem,g0,g1]) rfl ⟨⟨a,b,rfl,hn⟩,(hB.setCell (by simp) _).setCell (by simp) _⟩
theorem pnear_see (x y r:Int) (K:Nat) (hK:K≤12) (hr:12 - r=(K:Int)) (hw:InW x y) (w:World) :
 Calls Tryz.prog 57 #[.int .i64 x,.int .i64 y,.int .i64 r] w fun e w'=>TellsP (Nearest (dvK K) (nuA K x y) (nuB K x y)) e∧Below w.heap.size w w':=by
 have hs:=sev_box hK
 have hd:=dvK_box hK
 have hb:=bet_small hK
 have hu:=nu_box hK hw
 obtain ⟨x1,x2,y1,y2⟩:=id hw
 exact pnear_core x y r _ _ _ _ (cjA K) (cjB K) (sev K) (nuA K x y) (nuB K x y) _ hs.1 hs.2 (paxial_yes x y _ _ hw rfl rfl) (pstep_yes r K hK hr)
  (econj_small _ _ _ _ rfl rfl (by omega) (by omega) (by omega) (by omega))
  (emul_small _ _ _ _ _ _ rfl rfl (by omega) (by omega) (by omega) (by omega) (by omega) (by omega) (by omega) (by omega) (by omega) (by omega) (by omega) (by omega))
  (enorm_small _ _ _ rfl (by omega) (by omega) (by omega) (by omega) (by omega))
  (eround_see _ _ _ (by omega) (by omega) (by omega) (by omega) hd.1 hd.2) w
theorem pnear_at (x y r:Int) (K:Nat) (hK:K≤12) (hr:12 - r=(K:Int)) (hw:InW x y) (a b:Int) (hn:Nearest (dvK K) (nuA K x y) (nuB K x y) a b) (w:World) :
 Calls Tryz.prog 57 #[.int .i64 x,.int .i64 y,.int .i64 r] w fun e w'=>e=.returned (.tuple #[.agg #[.int .i64 a,.int .i64 b],.bool true])∧Below w.heap.size w w':=by
 refine (pnear_see x y r K hK hr hw w).mono ?_
 rintro e w' ⟨⟨a',b',rfl,hn'⟩,hb⟩
 obtain ⟨rfl,rfl⟩:=nearest_one hn hn'
 exact ⟨rfl,hb⟩
set_option maxHeartbeats 1000000 in
theorem refbeta_yes (K:Nat) (hK:K≤20) (w:World) :
 Calls Tryz.prog 32 #[.int .i64 (K:Int)] w fun e w'=>e=.returned (.tuple #[.agg #[.int .i64 (bet K).1,.int .i64 (bet K).2],.bool true])∧Below w.heap.size w w':=by
 go_enter Tryz.func32,Tryz.ntmps32
 go_wp2_with fail
 go_loopw [5] (fun vi wr=>∃ q:Nat,q≤K∧vi=.int .i64 (q:Int)∧Hid (BetAt w q wr)) (fun vi _=>K - (intOf vi).toNat)
 case atStart =>
  refine ⟨0,Nat.zero_le _,rfl,?_⟩
  show BetAt w 0 _
  exact ⟨by go_simp;rfl,by go_simp;rfl,by go_simp,by go_simp,by go_simp,by go_simp,by go_simp,by go_simp,by go_grown⟩
 case round =>
  obtain ⟨q,hq,rfl,HB⟩:=hrel
  obtain ⟨z0,z1,fz0,fz1,s0,s1,fs0,fs1,hb⟩:=HB.out
  clear HB
  have hz:w.heap.size+1 < wr.heap.size:=World.block_lt_of_cell? _ _ z0
  by_cases hlt:q < K
  · obtain ⟨b1,b2,b3,b4⟩:=bet_box q (by omega)
    obtain ⟨n1,n2,n3,n4⟩:=bet_box (q+1) (by omega)
    have HM:Hid (∀ w,Calls Tryz.prog 33 #[.agg #[.int .i64 (bet q).1,.int .i64 (bet q).2],.agg #[.int .i64 2,.int .i64 1]] w fun e w'=>e=.returned (.tuple #[.agg #[.int .i64 (bet (q+1)).1,.int .i64 (bet (q+1)).2],.bool true])∧Below w.heap.size w w') :=
     refmul_yes (bet q).1 (bet q).2 2 1 (by omega) (by omega) (by omega) (by omega) (by omega) (by omega) (by omega) (by omega) (fits_mk ⟨by show _≤(bet (q+1)).1;omega,by show (bet (q+1)).1≤_;omega⟩) (fits_mk ⟨by show _≤(bet (q+1)).2;omega,by show (bet (q+1)).2≤_;omega⟩)
    clear b1 b2 b3 b4 n1 n2 n3 n4
    obtain ⟨X,hX⟩:∃ X,(bet q).1=X:=⟨_,rfl⟩
    obtain ⟨Y,hY⟩:∃ Y,(bet q).2=Y:=⟨_,rfl⟩
    obtain ⟨U,hU⟩:∃ U,(bet (q+1)).1=U:=⟨_,rfl⟩
    obtain ⟨V,hV⟩:∃ V,(bet (q+1)).2=V:=⟨_,rfl⟩
    rw [hX,hY,hU,hV] at HM
    rw [hX] at z0
    rw [hY] at z1
    have HU:Hid ((bet (q+1)).1=U):=hU
    have HV:Hid ((bet (q+1)).2=V):=hV
    clear hX hY hU hV
    go_wp2_with fail
    refine (HM.out _).mono ?_
    rintro e w2 ⟨rfl,c2⟩
    have k0:=keepCell c2 z0
    have k1:=keepCell c2 z1
    have g0:=keepFrozen c2 z0 fz0
    have g1:=keepFrozen c2 z1 fz1
    have r0:=keepCell c2 s0
    have r1:=keepCell c2 s1
    have t0:=keepFrozen c2 s0 fs0
    have t1:=keepFrozen c2 s1 fs1
    have hb2:=belowT hb c2
    clear z0 z1 fz0 fz1 s0 s1 fs0 fs1 hb c2
    obtain ⟨y0,y1⟩:=two_stores (u:=.int .i64 U) (v:=.int .i64 V) k0 k1
    go_wp2
    go_roundw
    case rel =>
     refine ⟨q+1,by omega,by go_num,?_⟩
     show BetAt w (q+1) _
     unfold BetAt
     rw [HU.out,HV.out]
     refine ⟨y0,y1,by simp [g0],by simp [g1],?_,?_,by simp [t0],by simp [t1],(hb2.setCell (by simp) _).setCell (by simp) _⟩
     · rw [World.cell?_setCell_other _ _ _ _ (by simp),World.cell?_setCell_other _ _ _ _ (by simp)];exact r0
     · rw [World.cell?_setCell_other _ _ _ _ (by simp),World.cell?_setCell_other _ _ _ _ (by simp)];exact r1
    case measure=>simp [intOf];omega
  · obtain rfl:q=K:=by omega
    obtain ⟨X,hX⟩:∃ X,(bet q).1=X:=⟨_,rfl⟩
    obtain ⟨Y,hY⟩:∃ Y,(bet q).2=Y:=⟨_,rfl⟩
    rw [hX] at z0
    rw [hY] at z1
    have HX:Hid ((bet q).1=X):=hX
    have HY:Hid ((bet q).2=Y):=hY
    clear hX hY
    obtain ⟨y0,y1⟩:=two_stores (u:=.int .i64 X) (v:=.int .i64 Y) s0 s1
    go_wp2
    exact bodyPost_ret (v:=.tuple #[.agg #[.int .i64 X,.int .i64 Y],.bool true]) (by simp [results,Tryz.results32,go_sem,y0,y1]) rfl ⟨by rw [HX.out,HY.out],(hb.setCell (by simp) _).setCell (by simp) _⟩
def In64 (n:Int):Prop:= -9223372036854775808≤n∧n≤9223372036854775807
theorem natAbs_two (a:Int) (e:Nat) (h:¬ In64 (a^e)):2≤a.natAbs:=by
 by_cases h2:2≤a.natAbs
 · exact h2
 · exfalso
   apply h
   have hle:(a^e).natAbs≤1:=by
    rw [Int.natAbs_pow]
    have:a.natAbs^e≤1^e:=Nat.pow_le_pow_left (by omega) e
    simpa using this
   unfold In64
   omega
theorem over_mono {a:Int} {e K:Nat} (hle:e≤K) (h:¬ In64 (a^e)):¬ In64 (a^K):=by
 have h2:=natAbs_two a e h
 by_cases hk:e=K
 · subst hk;exact h
 · have h1:9223372036854775808≤(a^e).natAbs:=by unfold In64 at h;omega
   have h3:(a^K).natAbs=(a^e).natAbs*a.natAbs^(K - e):=by
    rw [Int.natAbs_pow,Int.natAbs_pow,← Nat.pow_add];congr 1;omega
   have h4:2≤a.natAbs^(K - e):=by
    have:a.natAbs^1≤a.natAbs^(K - e):=Nat.pow_le_pow_right (by omega) (by omega)
    rw [Nat.pow_one] at this
    omega
   have h5:9223372036854775808*2≤(a^e).natAbs*a.natAbs^(K - e):=Nat.mul_le_mul h1 h4
   unfold In64
   omega
theorem pow_nil {a:Int} {q K:Nat} (hq:q≤K) (h:a^q=0):a^K=0:=by
 rw [show K=q+(K - q) by omega,Int.pow_add,h,Int.zero_mul]
theorem minus_even (I:Nat):(-1:Int)^(2*I)=1:=by
 induction I with
 | zero=>rfl
 | succ I ih=>rw [show 2*(I+1)=2*I+1+1 by omega,Int.pow_succ,Int.pow_succ,ih];decide
theorem minus_pow (K:Nat):(K%2=1→(-1:Int)^K= -1)∧(K%2=0→(-1:Int)^K=1):=by
 constructor
 · intro h
   have e:K=2*(K / 2)+1:=by omega
   rw [e,Int.pow_succ,minus_even];decide
 · intro h
   have e:K=2*(K / 2):=by omega
   rw [e,minus_even]
set_option maxHeartbeats 1000000 in
theorem refpow_rest (a:Int) (K:Nat) (a1: -9223372036854775808≤a) (a2:a≤9223372036854775807) (hK:K≤9223372036854775807) (n1:(a == 1)=false) (n2:(a == -1)=false) (w:World) :
 Calls Tryz.prog 86 #[.int .i64 a,.int .i64 (K:Int)] w fun e w'=>e=.returned (.tuple #[.int .i64 (kept (a^K)),.bool (fits (a^K))])∧Below w.heap.size w w':=by
 go_enter Tryz.func86,Tryz.ntmps86
 go_wp2
 go_loopw [6,7] (fun v i wr=>∃ (q:Nat) (m:Int),q≤K∧i=.int .i64 (q:Int)∧v=.int .i64 m∧-9223372036854775808≤m∧m≤9223372036854775807∧Hid (m=a^q)∧Below w.heap.size w wr) (fun _ i _=>K - (intOf i).toNat)
 case atStart=>exact ⟨0,1,Nat.zero_le _,rfl,rfl,by omega,by omega,(by show (1:Int)=a^0;simp),Below.refl _ _⟩
 case round =>
  obtain ⟨q,m,hq,rfl,rfl,m1,m2,HM,hb⟩:=hrel
  by_cases hlt:q < K
  · by_cases hm:m=0
    · have HA:Hid (kept (a^K)=0∧fits (a^K)=true):=by
       have e:=HM.out
       rw [hm] at e
       rw [pow_nil (q:=q) (K:=K) hq e.symm]
       exact ⟨kept_mk (fits_mk ⟨by omega,by omega⟩),fits_mk ⟨by omega,by omega⟩⟩
      clear HM
      subst hm
      go_wp2
      go_ret2
      exact ⟨by rw [HA.out.1,HA.out.2];rfl,hb⟩
    · have hm0:(m == 0)=false:=by simpa using hm
      have PB:Hid (-170141183460469231731687303715884105728≤m*a∧m*a < 170141183460469231731687303715884105728):=prod_bd m a m1 m2 a1 a2
      by_cases hd:In64 (m*a)
      · have E2:Hid (kept (m*a)=m*a):=kept_mk (fits_mk hd)
        have E3:Hid (fits (m*a)=true):=fits_mk hd
        by_cases ho:m=1
        · clear E2 E3 hd PB hm hm0
          subst ho
          have E2:Hid (kept a=a):=kept_mk (fits_mk ⟨a1,a2⟩)
          have E3:Hid (fits a=true):=fits_mk ⟨a1,a2⟩
          go_wp2_with fail
          refine (times_any 1 a m1 m2 a1 a2 _).mono ?_
          rw [Int.one_mul]
          rintro e w1 ⟨rfl,c1⟩
          go_wp2_with fail
          refine (small_any a (by omega) (by omega) _).mono ?_
          rw [E2.out,E3.out]
          rintro e w2 ⟨rfl,c2⟩
          replace c2:=belowT c1 c2
          clear c1
          have hb':=belowT hb c2
          clear hb c2
          go_wp2
          go_roundw
          case rel =>
           exact ⟨q+1,a,by omega,by go_num,rfl,a1,a2,(by show a=a^(q+1);rw [Int.pow_succ,← HM.out,Int.one_mul]),hb'⟩
          case measure=>simp [intOf];omega
        · have ho':(m == 1)=false:=by simpa using ho
          clear ho
          go_wp2_with fail
          refine (times_any m a m1 m2 a1 a2 _).mono ?_
          rintro e w1 ⟨rfl,c1⟩
          go_wp2_with fail
          refine (small_any (m*a) (by have h0:=PB.out;omega) (by have h0:=PB.out;omega) _).mono ?_
          rw [E2.out,E3.out]
          rintro e w2 ⟨rfl,c2⟩
          replace c2:=belowT c1 c2
          clear c1
          have hb':=belowT hb c2
          clear hb c2
          go_wp2
          go_roundw
          case rel =>
           exact ⟨q+1,m*a,by omega,by go_num,rfl,hd.1,hd.2,(by show m*a=a^(q+1);rw [Int.pow_succ,← HM.out]),hb'⟩
          case measure=>simp [intOf];omega
      · have HA:Hid (kept (a^K)=0∧fits (a^K)=false):=by
         have hn:¬ In64 (a^K):=over_mono (e:=q+1) (by omega) (by rw [Int.pow_succ,← HM.out];exact hd)
         exact ⟨kept_no (fits_no hn),fits_no hn⟩
        have E2:Hid (kept (m*a)=0):=kept_no (fits_no hd)
        have E3:Hid (fits (m*a)=false):=fits_no hd
        have ho:(m == 1)=false:=by
         have:m≠1:=by
          intro e
          apply hd
          rw [e,Int.one_mul]
          exact ⟨a1,a2⟩
         simpa using this
        clear HM
        go_wp2_with fail
        refine (times_any m a m1 m2 a1 a2 _).mono ?_
        rintro e w1 ⟨rfl,c1⟩
        go_wp2_with fail
        refine (small_any (m*a) (by have h0:=PB.out;omega) (by have h0:=PB.out;omega) _).mono ?_
        rw [E2.out,E3.out]
        rintro e w2 ⟨rfl,c2⟩
        replace c2:=belowT c1 c2
        clear c1
        have hb':=belowT hb c2
        clear hb c2
        go_wp2
        go_ret2
        exact ⟨by rw [HA.out.1,HA.out.2];rfl,hb'⟩
  · obtain rfl:q=K:=by omega
    have HA:Hid (kept (a^q)=m∧fits (a^q)=true):=by
     have e:=HM.out
     rw [← e]
     exact ⟨kept_mk (fits_mk ⟨m1,m2⟩),fits_mk ⟨m1,m2⟩⟩
    clear HM
    go_wp2
    go_ret2
    exact ⟨by rw [HA.out.1,HA.out.2];rfl,hb⟩
set_option maxHeartbeats 1000000 in
theorem refpow_one (K:Nat) (_hK:K≤9223372036854775807) (w:World) :
 Calls Tryz.prog 86 #[.int .i64 1,.int .i64 (K:Int)] w fun e w'=>e=.returned (.tuple #[.int .i64 1,.bool true])∧Below w.heap.size w w':=by
 by_cases hlt:0 < K
 all_goals
  go_enter Tryz.func86,Tryz.ntmps86
  go_wp2
  refine wp_loop_rounds 1 ?_
  rw [rounds_succ]
  go_wp2
  go_ret2
  exact ⟨rfl,Below.refl _ _⟩
set_option maxHeartbeats 1000000 in
theorem refpow_odd (K:Nat) (_hK:K≤9223372036854775807) (h0:0 < K) (h2:((K:Int)%2 == 1)=true) (w:World) :
 Calls Tryz.prog 86 #[.int .i64 (-1),.int .i64 (K:Int)] w fun e w'=>e=.returned (.tuple #[.int .i64 (-1),.bool true])∧Below w.heap.size w w':=by
 go_enter Tryz.func86,Tryz.ntmps86
 go_wp2
 refine wp_loop_rounds 1 ?_
 rw [rounds_succ]
 go_wp2
 go_ret2
 exact ⟨rfl,Below.refl _ _⟩
set_option maxHeartbeats 1000000 in
theorem refpow_even (K:Nat) (_hK:K≤9223372036854775807) (h0:0 < K) (h2:((K:Int)%2 == 1)=false) (w:World) :
 Calls Tryz.prog 86 #[.int .i64 (-1),.int .i64 (K:Int)] w fun e w'=>e=.returned (.tuple #[.int .i64 (1),.bool true])∧Below w.heap.size w w':=by
 go_enter Tryz.func86,Tryz.ntmps86
 go_wp2
 refine wp_loop_rounds 1 ?_
 rw [rounds_succ]
 go_wp2
 go_ret2
 exact ⟨rfl,Below.refl _ _⟩
set_option maxHeartbeats 1000000 in
theorem refpow_first (a:Int) (w:World) :
 Calls Tryz.prog 86 #[.int .i64 a,.int .i64 0] w fun e w'=>e=.returned (.tuple #[.int .i64 1,.bool true])∧Below w.heap.size w w':=by
 go_enter Tryz.func86,Tryz.ntmps86
 go_wp2
 refine wp_loop_rounds 1 ?_
 rw [rounds_succ]
 go_wp2
 go_ret2
 exact ⟨rfl,Below.refl _ _⟩
theorem refpow_any (a:Int) (K:Nat) (a1: -9223372036854775808≤a) (a2:a≤9223372036854775807) (hK:K≤9223372036854775807) (w:World) :
 Calls Tryz.prog 86 #[.int .i64 a,.int .i64 (K:Int)] w fun e w'=>e=.returned (.tuple #[.int .i64 (kept (a^K)),.bool (fits (a^K))])∧Below w.heap.size w w':=by
 by_cases h0:K=0
 · subst h0
   have e:kept (a^0)=1∧fits (a^0)=true:=by rw [Int.pow_zero];exact ⟨kept_mk (fits_mk ⟨by omega,by omega⟩),fits_mk ⟨by omega,by omega⟩⟩
   rw [e.1,e.2]
   exact refpow_first a w
 · by_cases h1:a=1
   · subst h1
     have e:kept ((1:Int)^K)=1∧fits ((1:Int)^K)=true:=by rw [Int.one_pow];exact ⟨kept_mk (fits_mk ⟨by omega,by omega⟩),fits_mk ⟨by omega,by omega⟩⟩
     rw [e.1,e.2]
     exact refpow_one K hK w
   · by_cases h2:a= -1
     · subst h2
       have hm:=minus_pow K
       by_cases hp:(K:Int)%2=1
       · have e:kept ((-1:Int)^K)= -1∧fits ((-1:Int)^K)=true:=by rw [hm.1 (by omega)];exact ⟨kept_mk (fits_mk ⟨by omega,by omega⟩),fits_mk ⟨by omega,by omega⟩⟩
         rw [e.1,e.2]
         exact refpow_odd K hK (by omega) (by simpa using hp) w
       · have e:kept ((-1:Int)^K)=1∧fits ((-1:Int)^K)=true:=by rw [hm.2 (by omega)];exact ⟨kept_mk (fits_mk ⟨by omega,by omega⟩),fits_mk ⟨by omega,by omega⟩⟩
         rw [e.1,e.2]
         exact refpow_even K hK (by omega) (by simpa using hp) w
     · exact refpow_rest a K a1 a2 hK (by simpa using h1) (by simpa using h2) w
set_option maxHeartbeats 400000 in
theorem rworld_yes (x y:Int) (h1:0≤x) (h2:x < 1073741824) (h3:0≤y) (h4:y < 1073741824) (w:World) :
 Calls Tryz.prog 11 #[.int .i64 x,.int .i64 y] w fun e w'=>e=.returned (.bool true)∧w'=w:=by
 go_enter Tryz.func11,Tryz.ntmps11
 go_wp2
 go_ret
 exact ⟨rfl,rfl⟩
set_option maxHeartbeats 400000 in
theorem rworld_no1 (x y:Int) (h1:decide (0≤x)=false) (w:World) :
 Calls Tryz.prog 11 #[.int .i64 x,.int .i64 y] w fun e w'=>e=.returned (.bool false)∧w'=w:=by
 go_enter Tryz.func11,Tryz.ntmps11
 go_wp2
 go_ret
 exact ⟨rfl,rfl⟩
set_option maxHeartbeats 400000 in
theorem rworld_no2 (x y:Int) (h1:0≤x) (h2:decide (x < 1073741824)=false) (w:World) :
 Calls Tryz.prog 11 #[.int .i64 x,.int .i64 y] w fun e w'=>e=.returned (.bool false)∧w'=w:=by
 go_enter Tryz.func11,Tryz.ntmps11
 go_wp2
 go_ret
 exact ⟨rfl,rfl⟩
set_option maxHeartbeats 400000 in
theorem rworld_no3 (x y:Int) (h1:0≤x) (h2:x < 1073741824) (h3:decide (0≤y)=false) (w:World) :
 Calls Tryz.prog 11 #[.int .i64 x,.int .i64 y] w fun e w'=>e=.returned (.bool false)∧w'=w:=by
 go_enter Tryz.func11,Tryz.ntmps11
 go_wp2
 go_ret
 exact ⟨rfl,rfl⟩
set_option maxHeartbeats 400000 in
theorem rworld_no4 (x y:Int) (h1:0≤x) (h2:x < 1073741824) (h3:0≤y) (h4:decide (y < 1073741824)=false) (w:World) :
 Calls Tryz.prog 11 #[.int .i64 x,.int .i64 y] w fun e w'=>e=.returned (.bool false)∧w'=w:=by
 go_enter Tryz.func11,Tryz.ntmps11
 go_wp2
 go_ret
 exact ⟨rfl,rfl⟩
theorem rworld_any (x y:Int) (w:World) :
 Calls Tryz.prog 11 #[.int .i64 x,.int .i64 y] w fun e w'=>e=.returned (.bool (inWB x y))∧w'=w:=by
 by_cases h1:0≤x
 · by_cases h2:x < 1073741824
   · by_cases h3:0≤y
     · by_cases h4:y < 1073741824
       · rw [inWB_mk ⟨h1,h2,h3,h4⟩];exact rworld_yes x y h1 h2 h3 h4 w
       · rw [inWB_not fun h=>h4 h.2.2.2];exact rworld_no4 x y h1 h2 h3 (df h4) w
     · rw [inWB_not fun h=>h3 h.2.2.1];exact rworld_no3 x y h1 h2 (df h3) w
   · rw [inWB_not fun h=>h2 h.2.1];exact rworld_no2 x y h1 (df h2) w
 · rw [inWB_not fun h=>h1 h.1];exact rworld_no1 x y (df h1) w
set_option maxHeartbeats 1000000 in
theorem rconj_core (k X Y c d:Int) (hc:X+Y=c) (hd: -Y=d) (X1: -262144≤X) (X2:X≤262144) (Y1: -262144≤Y) (Y2:Y≤262144)
 (BE:∀ w,Calls Tryz.prog 32 #[.int .i64 k] w fun e w'=>e=.returned (.tuple #[.agg #[.int .i64 X,.int .i64 Y],.bool true])∧Below w.heap.size w w') (w:World) :
 Calls Tryz.prog 48 #[.int .i64 k] w fun e w'=>e=.returned (.agg #[.int .i64 c,.int .i64 d])∧Below w.heap.size w w':=by
 replace BE:Hid _:=BE
 subst hc hd
 go_enter Tryz.func48,Tryz.ntmps48
 go_wp2_with fail
 refine (BE.out _).mono ?_
 rintro e w1 ⟨rfl,d1⟩
 have c1:Below w.heap.size w w1:=Below.trans (by go_grown) (d1.mono (by simp;try omega))
 have r0:w1.cell? ⟨w.heap.size,0,none⟩=some (.int .i64 0):=keepCell d1 (by go_simp)
 have fr0:w1.frozen? ⟨w.heap.size,0,none⟩=false:=keepFrozen (v:=.int .i64 0) d1 (by go_simp) (by go_simp)
 have qr0:=World.block_lt_of_cell? _ _ r0
 have r1:w1.cell? ⟨w.heap.size,1,none⟩=some (.int .i64 0):=keepCell d1 (by go_simp)
 have fr1:w1.frozen? ⟨w.heap.size,1,none⟩=false:=keepFrozen (v:=.int .i64 0) d1 (by go_simp) (by go_simp)
 have hB:=c1
 clear c1 d1
 have n1:¬ w1.heap.size=w.heap.size:=Nat.ne_of_gt qr0
 obtain ⟨g0,g1⟩:=two_stores (u:=.int .i64 (X+Y)) (v:=.int .i64 (-Y)) r0 r1
 have e0:=keepCell (allocB _ (.cells #[.int .i64 X,.int .i64 Y] 23)) g0
 have e1:=keepCell (allocB _ (.cells #[.int .i64 X,.int .i64 Y] 23)) g1
 go_wp2
 exact bodyPost_ret (v:=.agg #[.int .i64 (X+Y),.int .i64 (-Y)]) (by simp [results,Tryz.results48,go_sem,e0,e1]) rfl ⟨rfl,((hB.setCell (by simp) _).setCell (by simp) _).alloc (by simp;omega) _⟩
theorem rconj_any (K:Nat) (hK:K≤12) (w:World) :
 Calls Tryz.prog 48 #[.int .i64 (K:Int)] w fun e w'=>e=.returned (.agg #[.int .i64 (cjA K),.int .i64 (cjB K)])∧Below w.heap.size w w':=by
 have hb:=bet_small hK
 exact rconj_core K _ _ (cjA K) (cjB K) rfl rfl (by omega) (by omega) (by omega) (by omega) (refbeta_yes K (by omega)) w
set_option maxHeartbeats 400000 in
theorem rseven_any (K:Nat) (hK:K≤12) (w:World) :
 Calls Tryz.prog 50 #[.int .i64 (K:Int)] w fun e w'=>e=.returned (.int .i64 (sev K))∧Below w.heap.size w w':=by
 have h:Hid (∀ w,Calls Tryz.prog 86 #[.int .i64 7,.int .i64 (K:Int)] w fun e w'=>e=.returned (.tuple #[.int .i64 (sev K),.bool true])∧Below w.heap.size w w'):=by
  have h:=refpow_any 7 K (by omega) (by omega) (by omega)
  have hs:=sev_box hK
  have hf:fits ((7:Int)^K)=true:=by rw [← sev_pow hK];exact fits_mk ⟨by omega,by omega⟩
  rw [kept_mk hf,hf,← sev_pow hK] at h
  exact h
 generalize sev K=S at h
 go_enter Tryz.func50,Tryz.ntmps50
 go_wp2_with fail
 refine (h.out _).mono ?_
 rintro e w1 ⟨rfl,d1⟩
 have c1:Below w.heap.size w w1:=Below.trans (by go_grown) (d1.mono (by simp;try omega))
 have hB:=c1
 clear c1 d1
 go_wp2
 go_ret
 exact ⟨rfl,hB⟩
set_option maxHeartbeats 2000000 in
theorem rnear_core (x y r u v c d N A B:Int) (P:Int→Int→Prop) (x1:0≤x) (x2:x < 1073741824) (y1:0≤y) (y2:y < 1073741824) (r1:0≤r) (r2:r≤12) (hu:45*x - 26*y=u) (hv:52*y=v) (N1:1≤N) (N2:N≤13841287201)
 (WO:∀ w,Calls Tryz.prog 11 #[.int .i64 x,.int .i64 y] w fun e w'=>e=.returned (.bool true)∧w'=w)
 (CJ:∀ w,Calls Tryz.prog 48 #[.int .i64 (12 - r)] w fun e w'=>e=.returned (.agg #[.int .i64 c,.int .i64 d])∧Below w.heap.size w w')
 (MU:∀ w,Calls Tryz.prog 33 #[.agg #[.int .i64 u,.int .i64 v],.agg #[.int .i64 c,.int .i64 d]] w fun e w'=>e=.returned (.tuple #[.agg #[.int .i64 A,.int .i64 B],.bool true])∧Below w.heap.size w w')
 (SV:∀ w,Calls Tryz.prog 50 #[.int .i64 (12 - r)] w fun e w'=>e=.returned (.int .i64 N)∧Below w.heap.size w w')
 (RO:∀ w,Calls Tryz.prog 49 #[.agg #[.int .i64 A,.int .i64 B],.int .i64 (2340*N)] w fun e w'=>TellsP P e∧Below w.heap.size w w')
 (w:World) :
 Calls Tryz.prog 20 #[.int .i64 x,.int .i64 y,.int .i64 r] w fun e w'=>TellsP P e∧Below w.heap.size w w':=by
 have SV2:Hid (∀ w,Calls Tryz.prog 50 #[.int .i64 (IntKind.i64.wrap (12 - r))] w fun e w'=>e=.returned (.int .i64 N)∧Below w.heap.size w w'):=by
  rw [IntWalk.i64_left,wrap_fits ⟨by omega,by omega⟩];exact SV
 have RO2:Hid (∀ w,Calls Tryz.prog 49 #[.agg #[.int .i64 A,.int .i64 B],.int .i64 (IntKind.i64.wrap (2340*N))] w fun e w'=>TellsP P e∧Below w.heap.size w w'):=by
  rw [IntWalk.i64_left,wrap_fits ⟨by omega,by omega⟩];exact RO
 replace WO:Hid _:=WO
 replace CJ:Hid _:=CJ
 replace MU:Hid _:=MU
 replace SV:Hid _:=SV
 replace RO:Hid _:=RO
 go_enter Tryz.func20,Tryz.ntmps20
 go_wp2_with fail
 refine (WO.out _).mono ?_
 rintro e w0 ⟨rfl,rfl⟩
 go_wp2_with fail
 refine (CJ.out _).mono ?_
 rintro e w1 ⟨rfl,d1⟩
 have c1:Below w.heap.size w w1:=Below.trans (by go_grown) (d1.mono (by simp;try omega))
 have p0:w1.cell? ⟨w.heap.size,0,none⟩=some (.int .i64 0):=keepCell d1 (by go_simp)
 have fp0:w1.frozen? ⟨w.heap.size,0,none⟩=false:=keepFrozen (v:=.int .i64 0) d1 (by go_simp) (by go_simp)
 have qp0:=World.block_lt_of_cell? _ _ p0
 have p1:w1.cell? ⟨w.heap.size,1,none⟩=some (.int .i64 0):=keepCell d1 (by go_simp)
 have fp1:w1.frozen? ⟨w.heap.size,1,none⟩=false:=keepFrozen (v:=.int .i64 0) d1 (by go_simp) (by go_simp)
 have hB:=c1
 clear c1 d1
 go_wp2_with fail
 refine (MU.out _).mono ?_
 rintro e w2 ⟨rfl,d2⟩
 have c2:Below w1.heap.size w1 w2:=Below.trans (by go_grown) (d2.mono (by simp;try omega))
 replace fp0:=keepFrozen c2 p0 fp0
 replace p0:=keepCell c2 p0
 replace qp0:=World.block_lt_of_cell? _ _ p0
 replace fp1:=keepFrozen c2 p1 fp1
 replace p1:=keepCell c2 p1
 replace hB:=belowT hB c2
 clear c2 d2
 have n2:¬ w2.heap.size=w.heap.size:=Nat.ne_of_gt qp0
 go_wp2_with fail
 have hk:=allocB w2 (.cells #[.int .i64 A,.int .i64 B] 23)
 have q0:(w2.alloc (.cells #[.int .i64 A,.int .i64 B] 23)).cell? ⟨w2.heap.size,0,none⟩=some (.int .i64 A):=by go_simp
 have q1:(w2.alloc (.cells #[.int .i64 A,.int .i64 B] 23)).cell? ⟨w2.heap.size,1,none⟩=some (.int .i64 B):=by go_simp
 replace fp0:=keepFrozen hk p0 fp0
 replace fp1:=keepFrozen hk p1 fp1
 replace p0:=keepCell hk p0
 replace p1:=keepCell hk p1
 replace hB:=belowT hB hk
 clear hk qp0
 generalize hwc:w2.alloc (.cells #[.int .i64 A,.int .i64 B] 23)=wc at *
 clear hwc
 have hS0:=keepHeld (drewB wc) ⟨q0,q1,q0,q1,slot_of p0,slot_of p1,q0,q1,fp0,fp1,hB⟩
 go_region_held3 (fun w'=>w'.cell? ⟨w2.heap.size,0,none⟩=some (.int .i64 A)∧w'.cell? ⟨w2.heap.size,1,none⟩=some (.int .i64 B)∧w'.cell? ⟨w2.heap.size,0,none⟩=some (.int .i64 A)∧w'.cell? ⟨w2.heap.size,1,none⟩=some (.int .i64 B)∧w'.cell? ⟨w.heap.size,0,none⟩=some (.int .i64 (slotInt w' ⟨w.heap.size,0,none⟩))∧w'.cell? ⟨w.heap.size,1,none⟩=some (.int .i64 (slotInt w' ⟨w.heap.size,1,none⟩))∧w'.cell? ⟨w2.heap.size,0,none⟩=some (.int .i64 A)∧w'.cell? ⟨w2.heap.size,1,none⟩=some (.int .i64 B)∧w'.frozen? ⟨w.heap.size,0,none⟩=false∧w'.frozen? ⟨w.heap.size,1,none⟩=false∧Below w.heap.size w w') (first | exact hS0 | exact keepHeld hb (by assumption) | exact keepStore (by simp;try omega) (by simp;try omega) (by simp;try omega) (by simp;try omega) (by simp;try omega) (by simp;try omega) rfl (by simp) (by simp;try omega) (by assumption))
  (first | (go_at_call 50;(first | with_reducible refine (SV.out _).mono ?_ | with_reducible refine (SV2.out _).mono ?_);rintro e w' ⟨rfl,hb⟩) | (go_at_call 49;(first | with_reducible refine (RO.out _).mono ?_ | with_reducible refine (RO2.out _).mono ?_);rintro e w' ⟨⟨a,b,rfl,hn⟩,hb⟩))
 go_wp2
 rename_i wA bA hS
 obtain ⟨g0,g1⟩:=two_stores (u:=.int .i64 a) (v:=.int .i64 b) (keepCell hb (keepCell bA (keepCell (drewB wc) p0))) (keepCell hb (keepCell bA (keepCell (drewB wc) p1)))
 exact bodyPost_ret (v:=.tuple #[.agg #[.int .i64 a,.int .i64 b],.bool true]) (by simp [results,Tryz.results20,go_sem,g0,g1]) rfl ⟨⟨a,b,rfl,hn⟩,hS.2.2.2.2.2.2.2.2.2.2⟩
theorem rnear_see (x y r:Int) (K:Nat) (hK:K≤12) (hr:12 - r=(K:Int)) (hw:InW x y) (w:World) :
 Calls Tryz.prog 20 #[.int .i64 x,.int .i64 y,.int .i64 r] w fun e w'=>TellsP (Nearest (dvK K) (nuA K x y) (nuB K x y)) e∧Below w.heap.size w w':=by
 have hs:=sev_box hK
 have hd:=dvK_box hK
 have hb:=bet_small hK
 have hu:=nu_box hK hw
 obtain ⟨x1,x2,y1,y2⟩:=id hw
 have eA:mulA (45*x - 26*y) (52*y) (cjA K) (cjB K)=nuA K x y:=by unfold mulA nuA;omega
 have MU:=refmul_yes (45*x - 26*y) (52*y) (cjA K) (cjB K) (by omega) (by omega) (by omega) (by omega) (by omega) (by omega) (by omega) (by omega) (by rw [eA];exact fits_mk ⟨by omega,by omega⟩) (fits_mk ⟨by show _≤nuB K x y;omega,by show nuB K x y≤_;omega⟩)
 rw [eA] at MU
 exact rnear_core x y r _ _ (cjA K) (cjB K) (sev K) (nuA K x y) (nuB K x y) _ x1 x2 y1 y2 (by omega) (by omega) rfl rfl hs.1 hs.2 (rworld_yes x y x1 x2 y1 y2)
  (by rw [hr];exact rconj_any K hK) MU (by rw [hr];exact rseven_any K hK)
  (refround_see _ _ _ (by omega) (by omega) (by omega) (by omega) hd.1 hd.2) w
theorem rnear_at (x y r:Int) (K:Nat) (hK:K≤12) (hr:12 - r=(K:Int)) (hw:InW x y) (a b:Int) (hn:Nearest (dvK K) (nuA K x y) (nuB K x y) a b) (w:World) :
 Calls Tryz.prog 20 #[.int .i64 x,.int .i64 y,.int .i64 r] w fun e w'=>e=.returned (.tuple #[.agg #[.int .i64 a,.int .i64 b],.bool true])∧Below w.heap.size w w':=by
 refine (rnear_see x y r K hK hr hw w).mono ?_
 rintro e w' ⟨⟨a',b',rfl,hn'⟩,hb⟩
 obtain ⟨rfl,rfl⟩:=nearest_one hn hn'
 exact ⟨rfl,hb⟩
set_option maxHeartbeats 1000000 in
theorem rnear_world (x y r:Int) (h:inWB x y=false) (w:World) :
 Calls Tryz.prog 20 #[.int .i64 x,.int .i64 y,.int .i64 r] w fun e w'=>e=.returned (.tuple #[.agg #[.int .i64 0,.int .i64 0],.bool false])∧Below w.heap.size w w':=by
 have WO:Hid (∀ w,Calls Tryz.prog 11 #[.int .i64 x,.int .i64 y] w fun e w'=>e=.returned (.bool false)∧w'=w):=fun w=>by rw [← h];exact rworld_any x y w
 clear h
 go_enter Tryz.func20,Tryz.ntmps20
 go_wp2_with fail
 refine (WO.out _).mono ?_
 rintro e w0 ⟨rfl,rfl⟩
 go_wp2
 exact bodyPost_ret (v:=.tuple #[.agg #[.int .i64 0,.int .i64 0],.bool false]) (by simp [results,Tryz.results20,go_sem]) rfl ⟨rfl,by go_grown⟩
set_option maxHeartbeats 1000000 in
theorem rnear_below (x y r:Int) (hw:InW x y) (h:r < 0) (w:World) :
 Calls Tryz.prog 20 #[.int .i64 x,.int .i64 y,.int .i64 r] w fun e w'=>e=.returned (.tuple #[.agg #[.int .i64 0,.int .i64 0],.bool false])∧Below w.heap.size w w':=by
 have WO:Hid (∀ w,Calls Tryz.prog 11 #[.int .i64 x,.int .i64 y] w fun e w'=>e=.returned (.bool true)∧w'=w):=rworld_yes x y hw.1 hw.2.1 hw.2.2.1 hw.2.2.2
 clear hw
 go_enter Tryz.func20,Tryz.ntmps20
 go_wp2_with fail
 refine (WO.out _).mono ?_
 rintro e w0 ⟨rfl,rfl⟩
 go_wp2
 exact bodyPost_ret (v:=.tuple #[.agg #[.int .i64 0,.int .i64 0],.bool false]) (by simp [results,Tryz.results20,go_sem]) rfl ⟨rfl,by go_grown⟩
set_option maxHeartbeats 1000000 in
theorem rnear_above (x y r:Int) (hw:InW x y) (h0:decide (r < 0)=false) (h:12 < r) (w:World) :
 Calls Tryz.prog 20 #[.int .i64 x,.int .i64 y,.int .i64 r] w fun e w'=>e=.returned (.tuple #[.agg #[.int .i64 0,.int .i64 0],.bool false])∧Below w.heap.size w w':=by
 have WO:Hid (∀ w,Calls Tryz.prog 11 #[.int .i64 x,.int .i64 y] w fun e w'=>e=.returned (.bool true)∧w'=w):=rworld_yes x y hw.1 hw.2.1 hw.2.2.1 hw.2.2.2
 clear hw
 go_enter Tryz.func20,Tryz.ntmps20
 go_wp2_with fail
 refine (WO.out _).mono ?_
 rintro e w0 ⟨rfl,rfl⟩
 go_wp2
 exact bodyPost_ret (v:=.tuple #[.agg #[.int .i64 0,.int .i64 0],.bool false]) (by simp [results,Tryz.results20,go_sem]) rfl ⟨rfl,by go_grown⟩
theorem rnear_no (x y r:Int) (h:¬ (InW x y∧0≤r∧r≤12)) (w:World) :
 Calls Tryz.prog 20 #[.int .i64 x,.int .i64 y,.int .i64 r] w fun e w'=>e=.returned (.tuple #[.agg #[.int .i64 0,.int .i64 0],.bool false])∧Below w.heap.size w w':=by
 by_cases hw:InW x y
 · by_cases h0:r < 0
   · exact rnear_below x y r hw h0 w
   · exact rnear_above x y r hw (df h0) (by have:¬ r≤12:=fun h2=>h ⟨hw,by omega,h2⟩;omega) w
 · exact rnear_world x y r (inWB_not hw) w
theorem size13 (r:Int):∃ t s:Int,∃ K:Nat,r.tmod 13=t∧(t+13).tmod 13=s∧-13 < t∧t < 13∧K≤12∧12 - s=(K:Int):=by
 have h:=tmod_box r 13 (by omega)
 refine ⟨_,_,(12 - (r.tmod 13+13).tmod 13).toNat,rfl,rfl,h.1,h.2,?_,?_⟩
 all_goals
  generalize r.tmod 13=t at *
  rw [Int.tmod_eq_emod_of_nonneg (by omega)]
  omega
set_option maxHeartbeats 400000 in
theorem point_core (x0 y0 x y:Int) (hx:bits .and .i64 x0 1073741823=x) (hy:bits .and .i64 y0 1073741823=y) (w:World) :
 Calls Tryz.prog 30 #[.int .i64 x0,.int .i64 y0] w fun e w'=>e=.returned (.tuple #[.int .i64 x,.int .i64 y])∧Below w.heap.size w w':=by
 go_enter Tryz.func30,Tryz.ntmps30
 go_wp2
 go_ret2
 exact ⟨rfl,by go_grown⟩
theorem point_any (x0 y0:Int):∃ x y:Int,InW x y∧∀ w,Calls Tryz.prog 30 #[.int .i64 x0,.int .i64 y0] w fun e w'=>e=.returned (.tuple #[.int .i64 x,.int .i64 y])∧Below w.heap.size w w' :=
 ⟨x0%1073741824,y0%1073741824,⟨by omega,by omega,by omega,by omega⟩,point_core x0 y0 _ _ (mask30 x0) (mask30 y0)⟩
end Go.Proofs.YtdklpgphmoaniaaGreatDoor
