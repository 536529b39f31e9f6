/-
  The law CoverSizes holds: whatever numbers come in; in whatever memory where the three tables hold what their texts lay. Over the contracts of package cover.
-/
import Derived.Test.YtdklpgphmoaniaaGreatDoorVLawBox
import Derived.Test.YtdklpgphmoaniaaGreatDoorJn37
namespace Go.Proofs.YtdklpgphmoaniaaGreatDoor
open Go.RowKit
theorem mask29 (n:Int):bits .and .i64 n 536870911=n%536870912:=by
 have:=i64_mask n 29 (by omega)
 simpa using this
set_option maxHeartbeats 16000000 in
set_option maxRecDepth 20000 in
theorem coverSizes_walk (x0 y0 r0:Int) (W:World) (hT:Cov3 W) :
 Calls Tryz.prog 5 #[.int .i64 x0,.int .i64 y0,.int .i64 r0] W fun e w'=>e=.returned (.bool true)∧Below W.heap.size W w':=by
 have ht:=tmod_box r0 12 (by omega)
 obtain ⟨t,e1⟩:∃ t,r0.tmod 12=t:=⟨_,rfl⟩
 rw [e1] at ht
 obtain ⟨u,e2⟩:∃ u,(t+12).tmod 12=u:=⟨_,rfl⟩
 have hu:0≤u∧u < 12:=by
  have h:=e2
  rw [Int.tmod_eq_emod_of_nonneg (by omega)] at h
  omega
 obtain ⟨r,e3⟩:∃ r:Nat,u+1=(r:Int):=⟨(u+1).toNat,by omega⟩
 obtain ⟨K,hs⟩:∃ K:Nat,12 - (r:Int)=(K:Int):=⟨(12 - (r:Int)).toNat,by omega⟩
 have hK:K≤12:=by omega
 have hK1:K+1≤12:=by omega
 have m1:=mask29 x0
 have m2:=mask29 y0
 obtain ⟨xm,hxm⟩:∃ xm,x0%536870912=xm:=⟨_,rfl⟩
 obtain ⟨ym,hym⟩:∃ ym,y0%536870912=ym:=⟨_,rfl⟩
 have bx:0≤xm∧xm < 536870912:=by omega
 have by':0≤ym∧ym < 536870912:=by omega
 rw [hxm] at m1
 rw [hym] at m2
 clear hxm hym
 obtain ⟨x,ex⟩:∃ x,xm+268435456=x:=⟨_,rfl⟩
 obtain ⟨y,ey⟩:∃ y,ym+268435456=y:=⟨_,rfl⟩
 have hw:InW x y:=⟨by omega,by omega,by omega,by omega⟩
 obtain ⟨a,b,hn⟩:=nearest_some (d:=dvK K) (dvK_box hK).1 (nuA K x y) (nuB K x y)
 have hok:=near_ok hK hs hw hn
 have hz:=sz_in hK
 have ht0:=tou_at (K:=K) (l1:=x - 2*szK K) (u1:=x+2*szK K) (l2:=y - 2*szK K) (u2:=y+2*szK K) (x:=x) (y:=y) ⟨by omega,by omega⟩ ⟨by omega,by omega⟩ hn.1
 have hp0:=parent_touch hK hn.1
 have hpt:=tou_at (K:=K) (l1:=x) (u1:=x) (l2:=y) (u2:=y) (x:=x) (y:=y) ⟨by omega,by omega⟩ ⟨by omega,by omega⟩ hn.1
 have htw:=tw_mk hok hpt
 have hrK:(12 - (r:Int)).toNat=K:=by omega
 have hrP:(12 - ((r:Int) - 1)).toNat=K+1:=by omega
 have hop:Ok4 ((r:Int) - 1) (parA a b) (parB a b):=by
  have:=ok4_ups hok 1 (by omega)
  exact this
 have far:∀ z v:Int,-2147483648≤z→z≤2147483648→-2147483648≤v→v≤2147483648→¬ FarT z v:=fun z v _ _ _ _=>by unfold FarT;omega
 have okb:=ok4_part hok
 have opb:=ok4_part hop
 have hr12:(r:Int)≤12∧1≤(r:Int):=by omega
 obtain ⟨w1,w2,w3,w4⟩:=hw
 have NE:=hidd fun w=>rnear_at x y (r:Int) K hK hs ⟨w1,w2,w3,w4⟩ a b hn w
 have PA:=hidd fun w=>rparent4_yes (r:Int) a b hok (by omega) w
 have WE:=hidd fun w=>rword_yes r a b hok w
 have T1:=hidd fun w hT=>p_touch ((r:Int) - 1) (parA a b) (parB a b) (x - 2*szK K) (y - 2*szK K) (x+2*szK K) (y+2*szK K) true ⟨fun _=>⟨hop,far _ _ (by omega) (by omega) (by omega) (by omega),far _ _ (by omega) (by omega) (by omega) (by omega),⟨by omega,by omega⟩,by rw [hrP];exact hp0⟩,fun _=>rfl⟩ (fun z hz=>by simp at hz;omega) w hT
 have T2:=hidd fun w hT=>p_touch (r:Int) a b (x - 2*szK K) (y - 2*szK K) (x+2*szK K) (y+2*szK K) true ⟨fun _=>⟨hok,far _ _ (by omega) (by omega) (by omega) (by omega),far _ _ (by omega) (by omega) (by omega) (by omega),⟨by omega,by omega⟩,by rw [hrK];exact ht0⟩,fun _=>rfl⟩ (fun z hz=>by simp at hz;omega) w hT
 have U:∀ z,TW K x y x y z r→U64 z:=fun z hz=>by have:=whole_box hz.1;exact ⟨by omega,by omega⟩
 have BX:Hid (∀ w,Cov3 w→Calls Tryz.prog 14 #[.agg #[.int .i64 x,.int .i64 y],.agg #[.int .i64 x,.int .i64 y],.int .i64 (r:Int)] w fun e w'=>(∃ (p:Option Addr) (n c:Nat) (L:List Int),e=.returned (.tuple #[.slice p n c,.int .i64 0])∧(1≤n∧n≤3)∧RowAt 0 w' (.slice p n c) L∧∀ w,RowAt 0 w (.slice p n c) L→Calls Tryz.prog 22 #[.slice p n c,.int .u64 (wordOf r a b)] w fun e w'=>e=.returned (.bool true)∧Below w.heap.size w w')∧Below w.heap.size w w'):=hidd fun w hT=>by
  refine (p_box x y x y r K hK hs (by omega) (by omega) (by omega) (by omega) (Int.le_refl _) (Int.le_refl _) w hT).mono ?_
  rintro e w' ⟨h,hb⟩
  obtain ⟨s,L,rfl,g1,g2,g3,g4⟩:=h.row (few_point hK x y)
  have hl:=List.length_pos_of_mem ((g3 _).2 htw)
  have hl3:=point_few hK (rising_nodup g2) fun z hz=>(g3 z).1 hz
  obtain ⟨p,c,rfl,-⟩:=g1.form
  refine ⟨⟨p,L.length,c,L,rfl,⟨by omega,hl3⟩,g1,fun w hw=>?_⟩,hb⟩
  have:=rhas 0 _ L (wordOf r a b) (U _ htw) g2 (fun z hz=>U z ((g3 z).1 hz)) (by omega) w hw
  rwa [decide_eq_true ((g3 _).2 htw)] at this
 have HT:=hidd hT
 have AW:=hidd fun w hT=>cawake10 w hT
 obtain ⟨X,eX⟩:∃ X,wordOf r a b=X:=⟨_,rfl⟩
 rw [eX] at WE BX
 clear U eX htw hpt ht0 hp0 hok hop hn far hrK hrP hT
 go_enter Tryz.func5,Tryz.ntmps5
 go_wp2_with fail
 refine (NE.out _).mono ?_
 rintro e w1 ⟨rfl,b1⟩
 have al1:=allocB w1 (.cells #[.int .i64 a,.int .i64 b] 23)
 have al2:=allocB (w1.alloc (.cells #[.int .i64 a,.int .i64 b] 23)) (.cells #[.int .i64 (r:Int),.int .i64 a,.int .i64 b] 25)
 have z0:((w1.alloc (.cells #[.int .i64 a,.int .i64 b] 23)).alloc (.cells #[.int .i64 (r:Int),.int .i64 a,.int .i64 b] 25)).cell? ⟨w1.heap.size+1,0,none⟩=some (.int .i64 (r:Int)):=by go_simp
 have z1:((w1.alloc (.cells #[.int .i64 a,.int .i64 b] 23)).alloc (.cells #[.int .i64 (r:Int),.int .i64 a,.int .i64 b] 25)).cell? ⟨w1.heap.size+1,1,none⟩=some (.int .i64 a):=by go_simp
 have z2:((w1.alloc (.cells #[.int .i64 a,.int .i64 b] 23)).alloc (.cells #[.int .i64 (r:Int),.int .i64 a,.int .i64 b] 25)).cell? ⟨w1.heap.size+1,2,none⟩=some (.int .i64 b):=by go_simp
 have B2:=hidd (belowT (belowT b1 al1) al2)
 have H2:=hidd (((HT.out.below b1).below al1).below al2)
 clear al1 al2 b1 HT NE
 go_wp2_with fail
 generalize (w1.alloc (.cells #[.int .i64 a,.int .i64 b] 23)).alloc (.cells #[.int .i64 (r:Int),.int .i64 a,.int .i64 b] 25)=w2 at *
 refine (PA.out _).mono ?_
 rintro e w3 ⟨rfl,b3⟩
 have al:=allocB w3 (.cells #[.int .i64 ((r:Int) - 1),.int .i64 (parA a b),.int .i64 (parB a b)] 25)
 replace z0:=keepCell (belowT b3 al) z0
 replace z1:=keepCell (belowT b3 al) z1
 replace z2:=keepCell (belowT b3 al) z2
 have p0:(w3.alloc (.cells #[.int .i64 ((r:Int) - 1),.int .i64 (parA a b),.int .i64 (parB a b)] 25)).cell? ⟨w3.heap.size,0,none⟩=some (.int .i64 ((r:Int) - 1)):=by go_simp
 have p1:(w3.alloc (.cells #[.int .i64 ((r:Int) - 1),.int .i64 (parA a b),.int .i64 (parB a b)] 25)).cell? ⟨w3.heap.size,1,none⟩=some (.int .i64 (parA a b)):=by go_simp
 have p2:(w3.alloc (.cells #[.int .i64 ((r:Int) - 1),.int .i64 (parA a b),.int .i64 (parB a b)] 25)).cell? ⟨w3.heap.size,2,none⟩=some (.int .i64 (parB a b)):=by go_simp
 have B4:=hidd (belowT (belowT B2.out b3) al)
 have H4:=hidd ((H2.out.below b3).below al)
 clear al b3 B2 H2 PA
 go_wp2_with fail
 generalize w3.alloc (.cells #[.int .i64 ((r:Int) - 1),.int .i64 (parA a b),.int .i64 (parB a b)] 25)=w4 at *
 go_loopw [12,13] (fun v12 v13 wr=>∃ (i:Nat) (S:Int),r≤i∧i≤12∧v12=.int .i64 S∧v13=.int .i64 (i:Int)∧Hid (S=szK (i - r))∧(52≤S∧S≤7000000)∧wr=w4) (fun _ v13 _=>12 - (intOf v13).toNat)
 case atStart=>exact ⟨r,52,Nat.le_refl _,by omega,rfl,rfl,hidd (by rw [Nat.sub_self];rfl),by omega,rfl⟩
 case round =>
  obtain ⟨i,S,i1,i2,rfl,rfl,eS,hS,rfl⟩:=hrel
  rcases Nat.lt_or_ge i 12 with c | c
  · have et:(S*8).tdiv 3=S*8 / 3:=Int.tdiv_eq_ediv_of_nonneg (by omega)
    have eS':Hid (S*8 / 3=szK (i+1 - r)):=hidd (by rw [show i+1 - r=(i - r)+1 by omega,eS.out];rfl)
    have hS':=sz_in (K:=i+1 - r) (by omega)
    rw [← eS'.out] at hS'
    clear eS
    go_wp2_with fail
    go_roundw
    case rel=>exact ⟨i+1,S*8 / 3,by omega,by omega,rfl,by go_num,eS',hS',trivial⟩
    case measure=>simp [intOf];omega
  · obtain rfl:i=12:=by omega
    have hE:szK K=S:=by rw [eS.out];congr 1;omega
    rw [hE] at T1 T2
    clear eS hE hz
    have al1:=allocB wr (.cells #[.int .i64 (x - 2*S),.int .i64 (y - 2*S)] 38)
    have al2:=allocB (wr.alloc (.cells #[.int .i64 (x - 2*S),.int .i64 (y - 2*S)] 38)) (.cells #[.int .i64 (x+2*S),.int .i64 (y+2*S)] 38)
    replace z0:=keepCell (belowT al1 al2) z0
    replace z1:=keepCell (belowT al1 al2) z1
    replace z2:=keepCell (belowT al1 al2) z2
    replace p0:=keepCell (belowT al1 al2) p0
    replace p1:=keepCell (belowT al1 al2) p1
    replace p2:=keepCell (belowT al1 al2) p2
    have c0:((wr.alloc (.cells #[.int .i64 (x - 2*S),.int .i64 (y - 2*S)] 38)).alloc (.cells #[.int .i64 (x+2*S),.int .i64 (y+2*S)] 38)).cell? ⟨wr.heap.size,0,none⟩=some (.int .i64 (x - 2*S)):=by go_simp
    have c1:((wr.alloc (.cells #[.int .i64 (x - 2*S),.int .i64 (y - 2*S)] 38)).alloc (.cells #[.int .i64 (x+2*S),.int .i64 (y+2*S)] 38)).cell? ⟨wr.heap.size,1,none⟩=some (.int .i64 (y - 2*S)):=by go_simp
    have d0:((wr.alloc (.cells #[.int .i64 (x - 2*S),.int .i64 (y - 2*S)] 38)).alloc (.cells #[.int .i64 (x+2*S),.int .i64 (y+2*S)] 38)).cell? ⟨wr.heap.size+1,0,none⟩=some (.int .i64 (x+2*S)):=by go_simp
    have d1:((wr.alloc (.cells #[.int .i64 (x - 2*S),.int .i64 (y - 2*S)] 38)).alloc (.cells #[.int .i64 (x+2*S),.int .i64 (y+2*S)] 38)).cell? ⟨wr.heap.size+1,1,none⟩=some (.int .i64 (y+2*S)):=by go_simp
    have B5:=hidd (belowT (belowT B4.out al1) al2)
    have H5:=hidd ((H4.out.below al1).below al2)
    clear al1 al2 B4 H4
    go_wp2_with fail
    generalize (wr.alloc (.cells #[.int .i64 (x - 2*S),.int .i64 (y - 2*S)] 38)).alloc (.cells #[.int .i64 (x+2*S),.int .i64 (y+2*S)] 38)=w5 at *
    refine (BX.out _ H5.out).mono ?_
    rintro e w6 ⟨⟨sp,n,cp,L,rfl,⟨n1,n3⟩,hS6,HA⟩,b6⟩
    replace z0:=keepCell b6 z0
    replace z1:=keepCell b6 z1
    replace z2:=keepCell b6 z2
    replace p0:=keepCell b6 p0
    replace p1:=keepCell b6 p1
    replace p2:=keepCell b6 p2
    replace c0:=keepCell b6 c0
    replace c1:=keepCell b6 c1
    replace d0:=keepCell b6 d0
    replace d1:=keepCell b6 d1
    have S6:=hidd hS6
    have HA:=hidd HA
    have B6:=hidd (belowT B5.out b6)
    have H6:=hidd (H5.out.below b6)
    clear b6 B5 H5 BX hS6
    go_wp2_with fail
    refine (WE.out _).mono ?_
    rintro e w7 ⟨rfl,b7⟩
    replace z0:=keepCell b7 z0
    replace z1:=keepCell b7 z1
    replace z2:=keepCell b7 z2
    replace p0:=keepCell b7 p0
    replace p1:=keepCell b7 p1
    replace p2:=keepCell b7 p2
    replace c0:=keepCell b7 c0
    replace c1:=keepCell b7 c1
    replace d0:=keepCell b7 d0
    replace d1:=keepCell b7 d1
    have S7:=hidd (S6.out.keep b7)
    have B7:=hidd (belowT B6.out b7)
    have H7:=hidd (H6.out.below b7)
    clear b7 B6 H6 WE S6
    go_wp2_with fail
    refine (HA.out _ S7.out).mono ?_
    rintro e w8 ⟨rfl,b8⟩
    replace z0:=keepCell b8 z0
    replace z1:=keepCell b8 z1
    replace z2:=keepCell b8 z2
    replace p0:=keepCell b8 p0
    replace p1:=keepCell b8 p1
    replace p2:=keepCell b8 p2
    replace c0:=keepCell b8 c0
    replace c1:=keepCell b8 c1
    replace d0:=keepCell b8 d0
    replace d1:=keepCell b8 d1
    have B8:=hidd (belowT B7.out b8)
    have H8:=hidd (H7.out.below b8)
    clear b8 B7 H7 HA S7
    go_wp2_with fail
    refine (T1.out _ H8.out).mono ?_
    rintro e w9 ⟨rfl,b9⟩
    replace z0:=keepCell b9 z0
    replace z1:=keepCell b9 z1
    replace z2:=keepCell b9 z2
    replace c0:=keepCell b9 c0
    replace c1:=keepCell b9 c1
    replace d0:=keepCell b9 d0
    replace d1:=keepCell b9 d1
    have B9:=hidd (belowT B8.out b9)
    have H9:=hidd (H8.out.below b9)
    clear b9 B8 H8 T1
    go_wp2_with fail
    refine (T2.out _ H9.out).mono ?_
    rintro e w10 ⟨rfl,b10⟩
    have B10:=hidd (belowT B9.out b10)
    have H10:=hidd (H9.out.below b10)
    clear b10 B9 H9 T2 c0 c1 d0 d1 z0 z1 z2 p0 p1 p2
    go_wp2_with fail
    refine (AW.out _ H10.out).mono ?_
    rintro e w12 ⟨rfl,b12⟩
    go_wp2_with fail
    go_ret
    exact ⟨rfl,belowT B10.out b12⟩
end Go.Proofs.YtdklpgphmoaniaaGreatDoor
