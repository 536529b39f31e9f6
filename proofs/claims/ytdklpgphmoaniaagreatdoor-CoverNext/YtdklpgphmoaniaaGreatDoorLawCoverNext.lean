/-
  The law CoverNext holds: whatever numbers come in; in whatever memory where the three tables hold what their texts lay. Over the contracts of package cover.
-/
import Derived.Test.YtdklpgphmoaniaaGreatDoorLawCoverPoints
import Derived.Test.YtdklpgphmoaniaaGreatDoorCovNextX
import Derived.Test.YtdklpgphmoaniaaGreatDoorNRDX
namespace Go.Proofs.YtdklpgphmoaniaaGreatDoor
open Go.RowKit
theorem mask8 (n:Int):bits .and .i64 n 255=n%256:=by
 have:=i64_mask n 8 (by omega)
 simpa using this
theorem centres_own {K r:Nat} (hK:K≤12) (hr:12 - (r:Int)=(K:Int)) {a b:Int} (hok:Ok4 (r:Int) a b) (hw:InW (poX K a b) (poY K a b)) (w:World) (hT:Cov3 w) :
 Calls Tryz.prog 15 #[.agg #[.int .i64 (poX K a b),.int .i64 (poY K a b)],.agg #[.int .i64 (poX K a b),.int .i64 (poY K a b)],.int .i64 (r:Int)] w fun e w'=>(∃ s,e=.returned (.tuple #[s,.int .i64 0])∧RowAt 0 w' s [wordOf r a b])∧Below w.heap.size w w':=by
 obtain ⟨w1,w2,w3,w4⟩:=hw
 refine (p_centres _ _ _ _ r K hK hr (by omega) (by omega) (by omega) (by omega) (Int.le_refl _) (Int.le_refl _) w hT).mono ?_
 rintro e w' ⟨h,hb⟩
 obtain ⟨s,L,rfl,h1,h2,h3,-⟩:=h.row (few_point hK _ _)
 have e:=rising_ext h2 (List.pairwise_singleton _ _) fun x=>(h3 x).trans (show _↔x∈[wordOf r a b] from ⟨fun k=>(own_centre hK hok x).2 k.1,fun k=>⟨(own_centre hK hok x).1 k,by
  rw [List.mem_singleton.1 k]
  have c:=cell_word hok
  unfold inCB
  rw [c.1,c.2]
  exact decide_eq_true ⟨Int.le_refl _,Int.le_refl _,Int.le_refl _,Int.le_refl _⟩⟩⟩)
 rw [e] at h1
 exact ⟨⟨s,rfl,h1⟩,hb⟩
set_option maxHeartbeats 16000000 in
set_option maxRecDepth 20000 in
theorem coverNext_walk (x0 y0 r0 k0:Int) (W:World) (hT:Cov3 W) :
 Calls Tryz.prog 3 #[.int .i64 x0,.int .i64 y0,.int .i64 r0,.int .i64 k0] W fun e w'=>e=.returned (.bool true)∧Below W.heap.size W w':=by
 obtain ⟨sz,s0,s12,SO⟩:=csome_any x0 (bits .andNot .i64 y0 1) r0
 obtain ⟨r,rfl⟩:∃ r:Nat,sz=(r:Int):=⟨sz.toNat,by omega⟩
 obtain ⟨K,hs⟩:∃ K:Nat,12 - (r:Int)=(K:Int):=⟨(12 - (r:Int)).toNat,by omega⟩
 have hK:K≤12:=by omega
 have SO:=hidd SO
 have HT:=hidd hT
 have AW:=hidd fun w hT=>cawake10 w hT
 have m1:=mask8 k0
 obtain ⟨km,hkm⟩:∃ km,k0%256=km:=⟨_,rfl⟩
 have hk:0≤km∧km < 256:=by omega
 rw [hkm] at m1
 clear hkm hT
 go_enter Tryz.func3,Tryz.ntmps3
 go_wp2_with fail
 refine (SO.out _).mono ?_
 rintro e w1 ⟨⟨P,Q,rfl,hok⟩,b1⟩
 have okb:=ok4_part hok
 obtain ⟨u,eu⟩:∃ u,poX K P Q=u:=⟨_,rfl⟩
 obtain ⟨v,ev⟩:∃ v,poY K P Q=v:=⟨_,rfl⟩
 have CE:=hidd fun w=>rcentre_yes P Q (r:Int) K hK hs ⟨by omega,by omega⟩ ⟨by omega,by omega⟩ w
 rw [eu,ev] at CE
 have WW:=hidd fun w=>rworld_any u v w
 have al:=allocB w1 (.cells #[.int .i64 (r:Int),.int .i64 P,.int .i64 Q] 25)
 have z0:(w1.alloc (.cells #[.int .i64 (r:Int),.int .i64 P,.int .i64 Q] 25)).cell? ⟨w1.heap.size,0,none⟩=some (.int .i64 (r:Int)):=by go_simp
 have z1:(w1.alloc (.cells #[.int .i64 (r:Int),.int .i64 P,.int .i64 Q] 25)).cell? ⟨w1.heap.size,1,none⟩=some (.int .i64 P):=by go_simp
 have z2:(w1.alloc (.cells #[.int .i64 (r:Int),.int .i64 P,.int .i64 Q] 25)).cell? ⟨w1.heap.size,2,none⟩=some (.int .i64 Q):=by go_simp
 have B2:=hidd (belowT b1 al)
 have H2:=hidd ((HT.out.below b1).below al)
 have HOK:=hidd hok
 clear al b1 HT SO hok
 go_wp2_with fail
 generalize w1.alloc (.cells #[.int .i64 (r:Int),.int .i64 P,.int .i64 Q] 25)=w2 at *
 refine (CE.out _).mono ?_
 rintro e w3 ⟨rfl,b3⟩
 replace z0:=keepCell b3 z0
 replace z1:=keepCell b3 z1
 replace z2:=keepCell b3 z2
 have B3:=hidd (belowT B2.out b3)
 have H3:=hidd (H2.out.below b3)
 clear b3 B2 H2 CE
 cases hW:inWB u v with
 | false =>
  rw [hW] at WW
  clear hW
  go_wp2_with fail
  refine (WW.out _).mono ?_
  rintro e w4 ⟨rfl,rfl⟩
  go_wp2_with fail
  refine (AW.out _ H3.out).mono ?_
  rintro e w5 ⟨rfl,b5⟩
  go_wp2_with fail
  go_ret
  exact ⟨rfl,belowT B3.out b5⟩
 | true =>
  rw [hW] at WW
  have hw:InW (poX K P Q) (poY K P Q):=by rw [eu,ev];exact inWB_yes hW
  have BO:=hidd fun w hT=>box_own hK hs HOK.out hw w hT
  have CO:=hidd fun w hT=>centres_own hK hs HOK.out hw w hT
  have WE:=hidd fun w=>rword_yes r P Q HOK.out w
  have hwp:=word_parts HOK.out
  have hcw:=cell_word HOK.out
  have NE:=hidd fun w hT=>nneigh_yes (wordOf r P Q) hwp.1 w hT
  rw [hwp.2.1,hcw.1,hcw.2,Int.toNat_natCast] at NE
  have HN:=hidd (has_neighbour hK hs hw (near_self hK P Q).1)
  have NT:=hidd fun (p q:Int) (h:stp p q=1) (ho:Ok4 (r:Int) (P+p) (Q+q))=>And.intro (next_tou hK hs hw h HOK.out ho) (next_box hK hw h)
  have SA:=hidd fun s t w h1 h2=>rsame 0 0 s t [wordOf r P Q] (by simp) w h1 h2
  rw [eu,ev] at BO CO NT
  have hw2:=inWB_yes hW
  obtain ⟨w1',w2',w3',w4'⟩:=hw2
  obtain ⟨X,eX⟩:∃ X,wordOf r P Q=X:=⟨_,rfl⟩
  rw [eX] at BO CO WE NE SA
  clear hW hw hwp hcw eX eu ev
  go_wp2_with fail
  refine (WW.out _).mono ?_
  rintro e w4 ⟨rfl,rfl⟩
  go_wp2_with fail
  refine (WE.out _).mono ?_
  rintro e w5 ⟨rfl,b5⟩
  replace z0:=keepCell b5 z0
  replace z1:=keepCell b5 z1
  replace z2:=keepCell b5 z2
  have B5:=hidd (belowT B3.out b5)
  have H5:=hidd (H3.out.below b5)
  clear b5 B3 H3 WW WE
  go_wp2_with fail
  refine (BO.out _ H5.out).mono ?_
  rintro e w6 ⟨⟨s6,rfl,hA⟩,b6⟩
  replace z0:=keepCell b6 z0
  replace z1:=keepCell b6 z1
  replace z2:=keepCell b6 z2
  have A6:=hidd hA
  have B6:=hidd (belowT B5.out b6)
  have H6:=hidd (H5.out.below b6)
  clear b6 B5 H5 BO hA
  go_wp2_with fail
  refine (CO.out _ H6.out).mono ?_
  rintro e w7 ⟨⟨s7,rfl,hC⟩,b7⟩
  have al:=allocB w7 (.cells #[.int .u64 X] 31)
  replace z0:=keepCell (belowT b7 al) z0
  replace z1:=keepCell (belowT b7 al) z1
  replace z2:=keepCell (belowT b7 al) z2
  have A8:=hidd ((A6.out.keep b7).keep al)
  have C8:=hidd (hC.keep al)
  have T8:=hidd (row_own (w:=w7.alloc (.cells #[.int .u64 X] 31)) (x:=X) (g:=w7.heap.size) (c:=1) (by go_simp))
  have B8:=hidd (belowT (belowT B6.out b7) al)
  have H8:=hidd ((H6.out.below b7).below al)
  clear b7 B6 H6 CO hC A6 al
  go_wp2_with fail
  generalize w7.alloc (.cells #[.int .u64 X] 31)=w8 at *
  refine (SA.out _ _ _ A8.out T8.out).mono ?_
  rintro e w9 ⟨rfl,b9⟩
  replace z0:=keepCell b9 z0
  replace z1:=keepCell b9 z1
  replace z2:=keepCell b9 z2
  have A9:=hidd (A8.out.keep b9)
  have C9:=hidd (C8.out.keep b9)
  have B9:=hidd (belowT B8.out b9)
  have H9:=hidd (H8.out.below b9)
  clear b9 B8 H8 A8 C8 T8
  go_wp2_with fail
  refine (SA.out _ _ _ C9.out A9.out).mono ?_
  rintro e w10 ⟨rfl,b10⟩
  replace z0:=keepCell b10 z0
  replace z1:=keepCell b10 z1
  replace z2:=keepCell b10 z2
  have B10:=hidd (belowT B9.out b10)
  have H10:=hidd (H9.out.below b10)
  clear b10 B9 H9 A9 C9 SA
  go_wp2_with fail
  refine (NE.out _ H10.out.tabs).mono ?_
  rintro e w11 ⟨⟨L,⟨s11,rfl,hS⟩,hR⟩,b11⟩
  replace z0:=keepCell b11 z0
  replace z1:=keepCell b11 z1
  replace z2:=keepCell b11 z2
  have B11:=hidd (belowT B10.out b11)
  have H11:=hidd (H10.out.below b11)
  have hpos:0 < L.length:=by
   obtain ⟨p,q,h1,h2⟩:=HN.out
   exact List.length_pos_of_mem ((hR.mem _).2 ⟨p,q,mem_rngP.2 h1,h2,rfl⟩)
  obtain ⟨n,en⟩:∃ n,L.length=n:=⟨_,rfl⟩
  obtain ⟨pL,cL,rfl,hp⟩:=hS.form
  rw [en] at hpos
  obtain ⟨j,hj⟩:∃ j:Nat,km.tmod (n:Int)=(j:Int):=⟨(km.tmod n).toNat,by rw [Int.tmod_eq_emod_of_nonneg (by omega)];have:=Int.emod_nonneg km (show (n:Int)≠0 by omega);omega⟩
  have hjn:j < n:=by
   have h:=hj
   rw [Int.tmod_eq_emod_of_nonneg (by omega)] at h
   have:=Int.emod_lt_of_pos km (show (0:Int) < n by omega)
   omega
  obtain ⟨y,hy⟩:∃ y,L[j]'(by omega)=y:=⟨_,rfl⟩
  obtain ⟨p,q,hpq,hok2,hyw⟩:=(hR.mem y).1 (by rw [← hy];exact List.getElem_mem _)
  obtain ⟨g,hg,gx⟩:=hp j (by omega)
  subst hg
  rw [hy] at gx
  rw [en]
  have WC:=hidd fun w=>rwcell_yes y (by rw [hyw];exact (word_parts hok2).1) w
  rw [hyw,(word_parts hok2).2.1,(cell_word hok2).1,(cell_word hok2).2,← hyw] at WC
  have okb2:=ok4_part hok2
  have NB:=NT.out p q (mem_rngP.1 hpq) hok2
  obtain ⟨s,es⟩:∃ s,poX K (P+p) (Q+q)=s:=⟨_,rfl⟩
  obtain ⟨t,et⟩:∃ t,poY K (P+p) (Q+q)=t:=⟨_,rfl⟩
  have CD:=hidd fun w=>rcentre_yes (P+p) (Q+q) (r:Int) K hK hs ⟨by omega,by omega⟩ ⟨by omega,by omega⟩ w
  rw [es,et] at CD NB
  obtain ⟨⟨N1,N2,N3⟩,bx⟩:=NB
  have T1:=hidd fun w hT=>p_touch (r:Int) (P+p) (Q+q) (min u s) (min v t) (max u s) (max v t) true ⟨fun _=>N1,fun _=>rfl⟩ (fun z hz=>by simp at hz;omega) w hT
  have T2:=hidd fun w hT=>p_touch (r:Int) P Q (min u s) (min v t) (max u s) (max v t) true ⟨fun _=>N2,fun _=>rfl⟩ (fun z hz=>by simp at hz;omega) w hT
  have T3:=hidd fun w hT=>p_touch (r:Int) P Q s t s t false ⟨fun h=>(by cases h),fun h=>absurd h N3⟩ (fun z hz=>by simp at hz;omega) w hT
  clear b11 B10 H10 NE HN NT N1 N2 N3 es et hyw hok2 hy hp hS hR en hpq HOK
  go_wp2_with fail
  refine (WC.out _).mono ?_
  rintro e w12 ⟨rfl,b12⟩
  have al:=allocB w12 (.cells #[.int .i64 (r:Int),.int .i64 (P+p),.int .i64 (Q+q)] 25)
  replace z0:=keepCell (belowT b12 al) z0
  replace z1:=keepCell (belowT b12 al) z1
  replace z2:=keepCell (belowT b12 al) z2
  have p0:(w12.alloc (.cells #[.int .i64 (r:Int),.int .i64 (P+p),.int .i64 (Q+q)] 25)).cell? ⟨w12.heap.size,0,none⟩=some (.int .i64 (r:Int)):=by go_simp
  have p1:(w12.alloc (.cells #[.int .i64 (r:Int),.int .i64 (P+p),.int .i64 (Q+q)] 25)).cell? ⟨w12.heap.size,1,none⟩=some (.int .i64 (P+p)):=by go_simp
  have p2:(w12.alloc (.cells #[.int .i64 (r:Int),.int .i64 (P+p),.int .i64 (Q+q)] 25)).cell? ⟨w12.heap.size,2,none⟩=some (.int .i64 (Q+q)):=by go_simp
  have B13:=hidd (belowT (belowT B11.out b12) al)
  have H13:=hidd ((H11.out.below b12).below al)
  clear al b12 B11 H11 WC gx
  go_wp2_with fail
  generalize w12.alloc (.cells #[.int .i64 (r:Int),.int .i64 (P+p),.int .i64 (Q+q)] 25)=w13 at *
  refine (CD.out _).mono ?_
  rintro e w14 ⟨rfl,b14⟩
  have al1:=allocB w14 (.cells #[.int .i64 (min u s),.int .i64 (min v t)] 38)
  have al2:=allocB (w14.alloc (.cells #[.int .i64 (min u s),.int .i64 (min v t)] 38)) (.cells #[.int .i64 (max u s),.int .i64 (max v t)] 38)
  replace z0:=keepCell (belowT (belowT b14 al1) al2) z0
  replace z1:=keepCell (belowT (belowT b14 al1) al2) z1
  replace z2:=keepCell (belowT (belowT b14 al1) al2) z2
  replace p0:=keepCell (belowT (belowT b14 al1) al2) p0
  replace p1:=keepCell (belowT (belowT b14 al1) al2) p1
  replace p2:=keepCell (belowT (belowT b14 al1) al2) p2
  have c0:((w14.alloc (.cells #[.int .i64 (min u s),.int .i64 (min v t)] 38)).alloc (.cells #[.int .i64 (max u s),.int .i64 (max v t)] 38)).cell? ⟨w14.heap.size,0,none⟩=some (.int .i64 (min u s)):=by go_simp
  have c1:((w14.alloc (.cells #[.int .i64 (min u s),.int .i64 (min v t)] 38)).alloc (.cells #[.int .i64 (max u s),.int .i64 (max v t)] 38)).cell? ⟨w14.heap.size,1,none⟩=some (.int .i64 (min v t)):=by go_simp
  have d0:((w14.alloc (.cells #[.int .i64 (min u s),.int .i64 (min v t)] 38)).alloc (.cells #[.int .i64 (max u s),.int .i64 (max v t)] 38)).cell? ⟨w14.heap.size+1,0,none⟩=some (.int .i64 (max u s)):=by go_simp
  have d1:((w14.alloc (.cells #[.int .i64 (min u s),.int .i64 (min v t)] 38)).alloc (.cells #[.int .i64 (max u s),.int .i64 (max v t)] 38)).cell? ⟨w14.heap.size+1,1,none⟩=some (.int .i64 (max v t)):=by go_simp
  have B15:=hidd (belowT (belowT (belowT B13.out b14) al1) al2)
  have H15:=hidd (((H13.out.below b14).below al1).below al2)
  clear al1 al2 b14 B13 H13 CD
  go_wp2_with fail
  generalize (w14.alloc (.cells #[.int .i64 (min u s),.int .i64 (min v t)] 38)).alloc (.cells #[.int .i64 (max u s),.int .i64 (max v t)] 38)=w15 at *
  refine (T1.out _ H15.out).mono ?_
  rintro e w16 ⟨rfl,b16⟩
  replace z0:=keepCell b16 z0
  replace z1:=keepCell b16 z1
  replace z2:=keepCell b16 z2
  replace c0:=keepCell b16 c0
  replace c1:=keepCell b16 c1
  replace d0:=keepCell b16 d0
  replace d1:=keepCell b16 d1
  have B16:=hidd (belowT B15.out b16)
  have H16:=hidd (H15.out.below b16)
  clear b16 B15 H15 T1 p0 p1 p2
  go_wp2_with fail
  refine (T2.out _ H16.out).mono ?_
  rintro e w17 ⟨rfl,b17⟩
  replace z0:=keepCell b17 z0
  replace z1:=keepCell b17 z1
  replace z2:=keepCell b17 z2
  have B17:=hidd (belowT B16.out b17)
  have H17:=hidd (H16.out.below b17)
  clear b17 B16 H16 T2 c0 c1 d0 d1
  go_wp2_with fail
  refine (T3.out _ H17.out).mono ?_
  rintro e w18 ⟨rfl,b18⟩
  have B18:=hidd (belowT B17.out b18)
  have H18:=hidd (H17.out.below b18)
  clear b18 B17 H17 T3 z0 z1 z2
  go_wp2_with fail
  refine (AW.out _ H18.out).mono ?_
  rintro e w19 ⟨rfl,b19⟩
  go_wp2_with fail
  go_ret
  exact ⟨rfl,belowT B18.out b19⟩
end Go.Proofs.YtdklpgphmoaniaaGreatDoor
