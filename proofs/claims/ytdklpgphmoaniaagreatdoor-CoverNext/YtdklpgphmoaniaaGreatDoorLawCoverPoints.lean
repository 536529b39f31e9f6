/-
  The law CoverPoints holds: whatever numbers come in; in whatever memory where the three tables hold what their texts lay. Over the contracts of package cover.
-/
import Derived.Test.YtdklpgphmoaniaaGreatDoorVLawBox
import Derived.Test.YtdklpgphmoaniaaGreatDoorJn37
namespace Go.Proofs.YtdklpgphmoaniaaGreatDoor
open Go.RowKit
theorem Cov3.tabs {w:World} (h:Cov3 w):Tabs w:=h.1
set_option maxHeartbeats 16000000 in
set_option maxRecDepth 20000 in
theorem coverPoints_walk (x0 y0 w0 h0 r0 i0 k0:Int) (W:World) (hT:Cov3 W) :
 Calls Tryz.prog 8 #[.int .i64 x0,.int .i64 y0,.int .i64 w0,.int .i64 h0,.int .i64 r0,.int .i64 i0,.int .i64 k0] W fun e w'=>e=.returned (.bool true)∧Below W.heap.size W w':=by
 obtain ⟨t,s,K,e1,e2,t1,t2,hK,hs⟩:=size13 r0
 obtain ⟨r,rfl⟩:∃ r:Nat,s=(r:Int):=⟨s.toNat,by have h:=e2;rw [Int.tmod_eq_emod_of_nonneg (by omega)] at h;omega⟩
 obtain ⟨l1,l2,u1,u2,⟨⟨h1,h2,h3,h4⟩,h5,h6⟩,⟨k1,k2⟩,LB⟩:=lbox x0 y0 w0 h0 r K hK hs
 obtain ⟨p,hp⟩:∃ p,(i0%4294967296).tmod (u1 - l1+1)=p:=⟨_,rfl⟩
 obtain ⟨q,hq⟩:∃ q,(k0%4294967296).tmod (u2 - l2+1)=q:=⟨_,rfl⟩
 have p1:0≤p∧p < u1 - l1+1:=by
  rw [← hp,Int.tmod_eq_emod_of_nonneg (by omega)]
  exact ⟨Int.emod_nonneg _ (by omega),Int.emod_lt_of_pos _ (by omega)⟩
 have q1:0≤q∧q < u2 - l2+1:=by
  rw [← hq,Int.tmod_eq_emod_of_nonneg (by omega)]
  exact ⟨Int.emod_nonneg _ (by omega),Int.emod_lt_of_pos _ (by omega)⟩
 have m1:=mask32 i0
 have m2:=mask32 k0
 have LB:=hidd LB
 obtain ⟨a,b,hn⟩:=nearest_some (d:=dvK K) (dvK_box hK).1 (nuA K (l1+p) (l2+q)) (nuB K (l1+p) (l2+q))
 have hw:InW (l1+p) (l2+q):=⟨by omega,by omega,by omega,by omega⟩
 have hok:=near_ok hK hs hw hn
 have ht:=tou_at (K:=K) (l1:=l1) (u1:=u1) (l2:=l2) (u2:=u2) (x:=l1+p) (y:=l2+q) ⟨by omega,by omega⟩ ⟨by omega,by omega⟩ hn.1
 have htw:=tw_mk hok ht
 have hrK:(12 - (r:Int)).toNat=K:=by omega
 have far:∀ z v:Int,-2147483648≤z→z≤2147483648→-2147483648≤v→v≤2147483648→¬ FarT z v:=fun z v _ _ _ _=>by unfold FarT;omega
 have okb:=ok4_part hok
 have hr12:(r:Int)≤12:=by omega
 have OF:=hidd fun w=>cof_yes (l1+p) (l2+q) (r:Int) K hK hs hw a b hn w
 have IO:=hidd fun w hT=>iof_yes r a b hok w hT
 have T1:=hidd fun w hT=>p_touch (r:Int) a b l1 l2 u1 u2 true ⟨fun _=>⟨hok,far _ _ (by omega) (by omega) (by omega) (by omega),far _ _ (by omega) (by omega) (by omega) (by omega),⟨h5,h6⟩,by rw [hrK];exact ht⟩,fun _=>rfl⟩ (fun z hz=>by simp at hz;omega) w hT
 have T2:=hidd fun w hT=>p_touch (r:Int) a b (l1+p) (l2+q) (l1+p) (l2+q) true ⟨fun _=>⟨hok,far _ _ (by omega) (by omega) (by omega) (by omega),far _ _ (by omega) (by omega) (by omega) (by omega),⟨Int.le_refl _,Int.le_refl _⟩,by rw [hrK];exact tou_at ⟨Int.le_refl _,Int.le_refl _⟩ ⟨Int.le_refl _,Int.le_refl _⟩ hn.1⟩,fun _=>rfl⟩ (fun z hz=>by simp at hz;omega) w hT
 have T3:=hidd fun w hT=>p_touch (r:Int) a b (l1 - 7) l2 u1 (u2+9) true ⟨fun _=>⟨hok,far _ _ (by omega) (by omega) (by omega) (by omega),far _ _ (by omega) (by omega) (by omega) (by omega),⟨by omega,by omega⟩,by rw [hrK];exact tou_mono ht (by omega) (by omega) (by omega) (by omega)⟩,fun _=>rfl⟩ (fun z hz=>by simp at hz;omega) w hT
 have U:∀ z,TW K l1 l2 u1 u2 z r→U64 z:=fun z hz=>by have:=whole_box hz.1;exact ⟨by omega,by omega⟩
 have BX:Hid (∀ w,Cov3 w→Calls Tryz.prog 14 #[.agg #[.int .i64 l1,.int .i64 l2],.agg #[.int .i64 u1,.int .i64 u2],.int .i64 (r:Int)] w fun e w'=>(∃ s L,e=.returned (.tuple #[s,.int .i64 0])∧RowAt 0 w' s L∧∀ w,RowAt 0 w s L→Calls Tryz.prog 22 #[s,.int .u64 (wordOf r a b)] w fun e w'=>e=.returned (.bool true)∧Below w.heap.size w w')∧Below w.heap.size w w'):=hidd fun w hT=>by
  refine (p_box l1 l2 u1 u2 r K hK hs h1 h2 h3 h4 h5 h6 w hT).mono ?_
  rintro e w' ⟨h,hb⟩
  obtain ⟨s,L,rfl,g1,g2,g3,g4⟩:=h.row (few_box hK k1 k2)
  refine ⟨⟨s,L,rfl,g1,fun w hw=>?_⟩,hb⟩
  have:=rhas 0 s L (wordOf r a b) (U _ htw) g2 (fun z hz=>U z ((g3 z).1 hz)) (by omega) w hw
  rwa [decide_eq_true ((g3 _).2 htw)] at this
 have HT:=hidd hT
 have AW:=hidd fun w hT=>cawake10 w hT
 obtain ⟨x,ex⟩:∃ x,wordOf r a b=x:=⟨_,rfl⟩
 rw [ex] at IO BX
 clear U ex htw ht hok okb hn far hw hrK k1 k2 hT
 go_enter Tryz.func8,Tryz.ntmps8
 go_wp2_with fail
 refine (LB.out _).mono ?_
 rintro e w1 ⟨rfl,b1⟩
 have B1:=hidd b1
 have H1:=hidd (HT.out.below b1)
 clear LB HT b1
 go_wp2_with fail
 have al1:=allocB w1 (.cells #[.int .i64 l1,.int .i64 l2] 38)
 have al2:=allocB (w1.alloc (.cells #[.int .i64 l1,.int .i64 l2] 38)) (.cells #[.int .i64 u1,.int .i64 u2] 38)
 have c0:((w1.alloc (.cells #[.int .i64 l1,.int .i64 l2] 38)).alloc (.cells #[.int .i64 u1,.int .i64 u2] 38)).cell? ⟨w1.heap.size,0,none⟩=some (.int .i64 l1):=by go_simp
 have c1:((w1.alloc (.cells #[.int .i64 l1,.int .i64 l2] 38)).alloc (.cells #[.int .i64 u1,.int .i64 u2] 38)).cell? ⟨w1.heap.size,1,none⟩=some (.int .i64 l2):=by go_simp
 have d0:((w1.alloc (.cells #[.int .i64 l1,.int .i64 l2] 38)).alloc (.cells #[.int .i64 u1,.int .i64 u2] 38)).cell? ⟨w1.heap.size+1,0,none⟩=some (.int .i64 u1):=by go_simp
 have d1:((w1.alloc (.cells #[.int .i64 l1,.int .i64 l2] 38)).alloc (.cells #[.int .i64 u1,.int .i64 u2] 38)).cell? ⟨w1.heap.size+1,1,none⟩=some (.int .i64 u2):=by go_simp
 have B2:=hidd (belowT (belowT B1.out al1) al2)
 have H2:=hidd ((H1.out.below al1).below al2)
 clear al1 al2 B1 H1
 generalize (w1.alloc (.cells #[.int .i64 l1,.int .i64 l2] 38)).alloc (.cells #[.int .i64 u1,.int .i64 u2] 38)=w2 at *
 go_quiet (fail)
 have bN:=belowN (Below.refl w2.heap.size w2) nq
 replace c0:=keepCell bN c0
 replace c1:=keepCell bN c1
 replace d0:=keepCell bN d0
 replace d1:=keepCell bN d1
 have B3:=hidd (belowT B2.out bN)
 have H3:=hidd (H2.out.below bN)
 clear bN B2 H2
 generalize w2.drewN nq=w3 at *
 go_wp2_with fail
 refine (OF.out _).mono ?_
 rintro e w4 ⟨rfl,b4⟩
 have al:=allocB w4 (.cells #[.int .i64 (r:Int),.int .i64 a,.int .i64 b] 25)
 replace c0:=keepCell (belowT b4 al) c0
 replace c1:=keepCell (belowT b4 al) c1
 replace d0:=keepCell (belowT b4 al) d0
 replace d1:=keepCell (belowT b4 al) d1
 have z0:(w4.alloc (.cells #[.int .i64 (r:Int),.int .i64 a,.int .i64 b] 25)).cell? ⟨w4.heap.size,0,none⟩=some (.int .i64 (r:Int)):=by go_simp
 have z1:(w4.alloc (.cells #[.int .i64 (r:Int),.int .i64 a,.int .i64 b] 25)).cell? ⟨w4.heap.size,1,none⟩=some (.int .i64 a):=by go_simp
 have z2:(w4.alloc (.cells #[.int .i64 (r:Int),.int .i64 a,.int .i64 b] 25)).cell? ⟨w4.heap.size,2,none⟩=some (.int .i64 b):=by go_simp
 have B5:=hidd (belowT (belowT B3.out b4) al)
 have H5:=hidd ((H3.out.below b4).below al)
 clear al b4 B3 H3 OF
 go_wp2_with fail
 generalize w4.alloc (.cells #[.int .i64 (r:Int),.int .i64 a,.int .i64 b] 25)=w5 at *
 refine (IO.out _ H5.out.tabs).mono ?_
 rintro e w6 ⟨rfl,b6⟩
 replace c0:=keepCell b6 c0
 replace c1:=keepCell b6 c1
 replace d0:=keepCell b6 d0
 replace d1:=keepCell b6 d1
 replace z0:=keepCell b6 z0
 replace z1:=keepCell b6 z1
 replace z2:=keepCell b6 z2
 have B6:=hidd (belowT B5.out b6)
 have H6:=hidd (H5.out.below b6)
 clear b6 B5 H5 IO
 go_wp2_with fail
 refine (BX.out _ H6.out).mono ?_
 rintro e w7 ⟨⟨sv,L,rfl,hS,HA⟩,b7⟩
 replace c0:=keepCell b7 c0
 replace c1:=keepCell b7 c1
 replace d0:=keepCell b7 d0
 replace d1:=keepCell b7 d1
 replace z0:=keepCell b7 z0
 replace z1:=keepCell b7 z1
 replace z2:=keepCell b7 z2
 have S7:=hidd hS
 have HA:=hidd HA
 have B7:=hidd (belowT B6.out b7)
 have H7:=hidd (H6.out.below b7)
 clear b7 B6 H6 BX hS
 go_wp2_with fail
 refine (HA.out _ S7.out).mono ?_
 rintro e w8 ⟨rfl,b8⟩
 replace c0:=keepCell b8 c0
 replace c1:=keepCell b8 c1
 replace d0:=keepCell b8 d0
 replace d1:=keepCell b8 d1
 replace z0:=keepCell b8 z0
 replace z1:=keepCell b8 z1
 replace z2:=keepCell b8 z2
 have B8:=hidd (belowT B7.out b8)
 have H8:=hidd (H7.out.below b8)
 clear b8 B7 H7 HA S7
 go_wp2_with fail
 refine (T1.out _ H8.out).mono ?_
 rintro e w9 ⟨rfl,b9⟩
 replace c0:=keepCell b9 c0
 replace c1:=keepCell b9 c1
 replace d0:=keepCell b9 d0
 replace d1:=keepCell b9 d1
 replace z0:=keepCell b9 z0
 replace z1:=keepCell b9 z1
 replace z2:=keepCell b9 z2
 have B9:=hidd (belowT B8.out b9)
 have H9:=hidd (H8.out.below b9)
 clear b9 B8 H8 T1
 go_wp2_with fail
 refine (T2.out _ H9.out).mono ?_
 rintro e w10 ⟨rfl,b10⟩
 replace c0:=keepCell b10 c0
 replace c1:=keepCell b10 c1
 replace d0:=keepCell b10 d0
 replace d1:=keepCell b10 d1
 replace z0:=keepCell b10 z0
 replace z1:=keepCell b10 z1
 replace z2:=keepCell b10 z2
 have B10:=hidd (belowT B9.out b10)
 have H10:=hidd (H9.out.below b10)
 clear b10 B9 H9 T2
 go_wp2_with fail
 refine (T3.out _ H10.out).mono ?_
 rintro e w11 ⟨rfl,b11⟩
 have B11:=hidd (belowT B10.out b11)
 have H11:=hidd (H10.out.below b11)
 clear b11 B10 H10 T3 c0 c1 d0 d1 z0 z1 z2
 go_wp2_with fail
 refine (AW.out _ H11.out).mono ?_
 rintro e w12 ⟨rfl,b12⟩
 go_wp2_with fail
 go_ret
 exact ⟨rfl,belowT B11.out b12⟩
end Go.Proofs.YtdklpgphmoaniaaGreatDoor
