/-
  The law CoverBoxes holds: whatever numbers come in; in whatever memory where the three tables hold what their texts lay. Over the contracts of package cover.
-/
import Derived.Test.YtdklpgphmoaniaaGreatDoorVLawBox
import Derived.Test.YtdklpgphmoaniaaGreatDoorJn37
namespace Go.Proofs.YtdklpgphmoaniaaGreatDoor
open Go.RowKit
theorem may_some (l1 l2 u1 u2 r:Int):∃ t,MayT l1 l2 u1 u2 r t:=by
 by_cases h:r < 0∨12 < r
 · exact ⟨1,.inl ⟨h,rfl⟩⟩
 · by_cases k:InW l1 l2∧InW u1 u2
   · by_cases c:u1 < l1∨u2 < l2
     · exact ⟨1,.inr (.inr (.inl ⟨by omega,k,c,rfl⟩))⟩
     · exact ⟨0,.inr (.inr (.inr ⟨by omega,k,by omega,rfl⟩))⟩
   · exact ⟨4,.inr (.inl ⟨by omega,k,rfl⟩)⟩
set_option maxHeartbeats 16000000 in
set_option maxRecDepth 20000 in
theorem coverBoxes_walk (a1 a2 g1 g2 rw x0 y0 w0 h0 r0:Int) (W:World) (hT:Cov3 W) :
 Calls Tryz.prog 7 #[.agg #[.int .i64 a1,.int .i64 a2],.agg #[.int .i64 g1,.int .i64 g2],.int .i64 rw,.int .i64 x0,.int .i64 y0,.int .i64 w0,.int .i64 h0,.int .i64 r0] W fun e w'=>e=.returned (.bool true)∧Below W.heap.size W w':=by
 obtain ⟨t,s',K,e1,e2,t1,t2,hK,hs⟩:=size13 r0
 obtain ⟨r,rfl⟩:∃ r:Nat,s'=(r:Int):=⟨s'.toNat,by have h:=e2;rw [Int.tmod_eq_emod_of_nonneg (by omega)] at h;omega⟩
 obtain ⟨l1,l2,u1,u2,⟨⟨h1,h2,h3,h4⟩,h5,h6⟩,⟨k1,k2⟩,LB⟩:=lbox x0 y0 w0 h0 r K hK hs
 have LB:=hidd LB
 have hr12:(r:Int)≤12:=by omega
 obtain ⟨te,hM⟩:=may_some a1 a2 g1 g2 rw
 have BM:=hidd fun w=>r_may a1 a2 g1 g2 rw te hM w
 have BE:=hidd fun (h:te≠0) w=>p_box_bad a1 a2 g1 g2 rw te hM h w
 have CE:=hidd fun (h:te≠0) w=>p_centres_bad a1 a2 g1 g2 rw te hM h w
 have RB:=hidd fun w=>r_box l1 l2 u1 u2 r K 400 hK hs h1 h2 h3 h4 h5 h6 (by omega) (by omega) w
 have RB:Hid (∀ w,Calls Tryz.prog 26 #[.agg #[.int .i64 l1,.int .i64 l2],.agg #[.int .i64 u1,.int .i64 u2],.int .i64 (r:Int),.int .i64 400] w fun e w'=>((∃ s L,e=.returned (.tuple #[s,.bool true])∧RowAt 0 w' s L∧(Rising L∧(∀ x,x∈L↔TW K l1 l2 u1 u2 x r)∧L.length≤400))∨∃ s,e=.returned (.tuple #[s,.bool false]))∧Below w.heap.size w w'):=hidd fun w=>by
  refine (RB.out w).mono ?_
  rintro e w' ⟨h,hb⟩
  rcases h with ⟨s,L,rfl,g1,g2,g3,g4⟩ | ⟨rfl,-⟩
  · exact ⟨.inl ⟨s,L,rfl,g1,g2,g3,g4⟩,hb⟩
  · exact ⟨.inr ⟨_,rfl⟩,hb⟩
 have BX:Hid (∀ L:List Int,Rising L→(∀ x,x∈L↔TW K l1 l2 u1 u2 x r)→∀ w,Cov3 w→Calls Tryz.prog 14 #[.agg #[.int .i64 l1,.int .i64 l2],.agg #[.int .i64 u1,.int .i64 u2],.int .i64 (r:Int)] w fun e w'=>(∃ s,e=.returned (.tuple #[s,.int .i64 0])∧RowAt 0 w' s L)∧Below w.heap.size w w'):=hidd fun L hR hL w hT=>by
  refine (p_box l1 l2 u1 u2 r K hK hs h1 h2 h3 h4 h5 h6 w hT).mono ?_
  rintro e w' ⟨h,hb⟩
  obtain ⟨s,L',rfl,g1,g2,g3,g4⟩:=h.row (few_box hK k1 k2)
  have e:=rising_ext g2 hR fun x=>(g3 x).trans (hL x).symm
  rw [e] at g1
  exact ⟨⟨s,rfl,g1⟩,hb⟩
 have CX:Hid (∀ L:List Int,Rising L→(∀ x,x∈L↔TW K l1 l2 u1 u2 x r)→∀ w,Cov3 w→Calls Tryz.prog 15 #[.agg #[.int .i64 l1,.int .i64 l2],.agg #[.int .i64 u1,.int .i64 u2],.int .i64 (r:Int)] w fun e w'=>(∃ s,e=.returned (.tuple #[s,.int .i64 0])∧RowAt 0 w' s (L.filter (inCB K l1 l2 u1 u2)))∧Below w.heap.size w w'):=hidd fun L hR hL w hT=>by
  refine (p_centres l1 l2 u1 u2 r K hK hs h1 h2 h3 h4 h5 h6 w hT).mono ?_
  rintro e w' ⟨h,hb⟩
  obtain ⟨s,L',rfl,g1,g2,g3,g4⟩:=h.row (few_box hK k1 k2)
  have e:=rising_ext g2 (hR.filter (inCB K l1 l2 u1 u2)) fun x=>(g3 x).trans (by rw [List.mem_filter,hL x])
  rw [e] at g1
  exact ⟨⟨s,rfl,g1⟩,hb⟩
 have RC:=hidd fun s (L:List Int) (hL:(∀ x,x∈L↔TW K l1 l2 u1 u2 x r)∧L.length≤400) w h=>r_centres s L r K hK hs (fun x hx=>⟨((hL.1 x).1 hx).1,((hL.1 x).1 hx).2.1⟩) (by omega) l1 l2 u1 u2 w h
 have FL:=hidd fun (L:List Int)=>List.length_filter_le (inCB K l1 l2 u1 u2) L
 have HT:=hidd hT
 have AW:=hidd fun w hT=>cawake10 w hT
 have c0:((W.alloc (.cells #[.int .i64 a1,.int .i64 a2] 38)).alloc (.cells #[.int .i64 g1,.int .i64 g2] 38)).cell? ⟨W.heap.size,0,none⟩=some (.int .i64 a1):=by go_simp
 have c1:((W.alloc (.cells #[.int .i64 a1,.int .i64 a2] 38)).alloc (.cells #[.int .i64 g1,.int .i64 g2] 38)).cell? ⟨W.heap.size,1,none⟩=some (.int .i64 a2):=by go_simp
 have d0:((W.alloc (.cells #[.int .i64 a1,.int .i64 a2] 38)).alloc (.cells #[.int .i64 g1,.int .i64 g2] 38)).cell? ⟨W.heap.size+1,0,none⟩=some (.int .i64 g1):=by go_simp
 have d1:((W.alloc (.cells #[.int .i64 a1,.int .i64 a2] 38)).alloc (.cells #[.int .i64 g1,.int .i64 g2] 38)).cell? ⟨W.heap.size+1,1,none⟩=some (.int .i64 g2):=by go_simp
 have B0:=hidd (belowT (allocB W (.cells #[.int .i64 a1,.int .i64 a2] 38)) (allocB _ (.cells #[.int .i64 g1,.int .i64 g2] 38)))
 have H0:=hidd ((HT.out.below (allocB W (.cells #[.int .i64 a1,.int .i64 a2] 38))).below (allocB _ (.cells #[.int .i64 g1,.int .i64 g2] 38)))
 clear hT HT hM h1 h2 h3 h4 h5 h6 k1 k2 hs
 go_enter Tryz.func7,Tryz.ntmps7
 go_wp2_with fail
 generalize (W.alloc (.cells #[.int .i64 a1,.int .i64 a2] 38)).alloc (.cells #[.int .i64 g1,.int .i64 g2] 38)=w1 at *
 refine (BM.out _).mono ?_
 rintro e w2 ⟨rfl,b2⟩
 replace c0:=keepCell b2 c0
 replace c1:=keepCell b2 c1
 replace d0:=keepCell b2 d0
 replace d1:=keepCell b2 d1
 have B2:=hidd (belowT B0.out b2)
 have H2:=hidd (H0.out.below b2)
 clear b2 B0 H0 BM
 have MID:∃ z:Bool,(te == 0)=z:=⟨_,rfl⟩
 obtain ⟨z,hz⟩:=MID
 cases z with
 | false =>
  have hne:te≠0:=by simpa using hz
  have BE:=hidd (BE.out hne)
  have CE:=hidd (CE.out hne)
  go_wp2_with fail
  refine (BE.out _).mono ?_
  rintro e w3 ⟨⟨p3,q3,rfl⟩,b3⟩
  replace c0:=keepCell b3 c0
  replace c1:=keepCell b3 c1
  replace d0:=keepCell b3 d0
  replace d1:=keepCell b3 d1
  have B3:=hidd (belowT B2.out b3)
  have H3:=hidd (H2.out.below b3)
  clear b3 B2 H2 BE
  go_wp2_with fail
  refine (CE.out _).mono ?_
  rintro e w4 ⟨⟨p4,q4,rfl⟩,b4⟩
  have B4:=hidd (belowT B3.out b4)
  have H4:=hidd (H3.out.below b4)
  clear b4 B3 H3 CE c0 c1 d0 d1
  go_wp2_with fail
  refine (LB.out _).mono ?_
  rintro e w5 ⟨rfl,b5⟩
  have al1:=allocB w5 (.cells #[.int .i64 l1,.int .i64 l2] 38)
  have al2:=allocB (w5.alloc (.cells #[.int .i64 l1,.int .i64 l2] 38)) (.cells #[.int .i64 u1,.int .i64 u2] 38)
  have c0:((w5.alloc (.cells #[.int .i64 l1,.int .i64 l2] 38)).alloc (.cells #[.int .i64 u1,.int .i64 u2] 38)).cell? ⟨w5.heap.size,0,none⟩=some (.int .i64 l1):=by go_simp
  have c1:((w5.alloc (.cells #[.int .i64 l1,.int .i64 l2] 38)).alloc (.cells #[.int .i64 u1,.int .i64 u2] 38)).cell? ⟨w5.heap.size,1,none⟩=some (.int .i64 l2):=by go_simp
  have d0:((w5.alloc (.cells #[.int .i64 l1,.int .i64 l2] 38)).alloc (.cells #[.int .i64 u1,.int .i64 u2] 38)).cell? ⟨w5.heap.size+1,0,none⟩=some (.int .i64 u1):=by go_simp
  have d1:((w5.alloc (.cells #[.int .i64 l1,.int .i64 l2] 38)).alloc (.cells #[.int .i64 u1,.int .i64 u2] 38)).cell? ⟨w5.heap.size+1,1,none⟩=some (.int .i64 u2):=by go_simp
  have B6:=hidd (belowT (belowT (belowT B4.out b5) al1) al2)
  have H6:=hidd (((H4.out.below b5).below al1).below al2)
  clear al1 al2 b5 B4 H4 LB
  go_wp2_with fail
  generalize (w5.alloc (.cells #[.int .i64 l1,.int .i64 l2] 38)).alloc (.cells #[.int .i64 u1,.int .i64 u2] 38)=w6 at *
  refine (RB.out _).mono ?_
  rintro e w7 ⟨⟨s,L,rfl,hS,hL⟩ | ⟨s,rfl⟩,b7⟩
  · have BX:=hidd (BX.out L hL.1 hL.2.1)
    have CX:=hidd (CX.out L hL.1 hL.2.1)
    have RC:=hidd (RC.out s L hL.2)
    have SA:=hidd fun s t w h1 h2=>rsame 0 0 s t L (by have:=hL.2.2;omega) w h1 h2
    have SB:=hidd fun s t w h1 h2=>rsame 0 0 s t (L.filter (inCB K l1 l2 u1 u2)) (by have:=hL.2.2;have:=FL.out L;omega) w h1 h2
    replace c0:=keepCell b7 c0
    replace c1:=keepCell b7 c1
    replace d0:=keepCell b7 d0
    replace d1:=keepCell b7 d1
    have S7:=hidd hS
    have B7:=hidd (belowT B6.out b7)
    have H7:=hidd (H6.out.below b7)
    clear b7 B6 H6 RB hS hL FL
    generalize L.filter (inCB K l1 l2 u1 u2)=M at *
    go_wp2_with fail
    refine (BX.out _ H7.out).mono ?_
    rintro e w8 ⟨⟨s8,rfl,hA⟩,b8⟩
    replace c0:=keepCell b8 c0
    replace c1:=keepCell b8 c1
    replace d0:=keepCell b8 d0
    replace d1:=keepCell b8 d1
    have S8:=hidd (S7.out.keep b8)
    have A8:=hidd hA
    have B8:=hidd (belowT B7.out b8)
    have H8:=hidd (H7.out.below b8)
    clear b8 B7 H7 S7 BX hA
    go_wp2_with fail
    refine (CX.out _ H8.out).mono ?_
    rintro e w9 ⟨⟨s9,rfl,hC⟩,b9⟩
    replace c0:=keepCell b9 c0
    replace c1:=keepCell b9 c1
    replace d0:=keepCell b9 d0
    replace d1:=keepCell b9 d1
    have S9:=hidd (S8.out.keep b9)
    have A9:=hidd (A8.out.keep b9)
    have C9:=hidd hC
    have B9:=hidd (belowT B8.out b9)
    have H9:=hidd (H8.out.below b9)
    clear b9 B8 H8 S8 A8 CX hC
    go_wp2_with fail
    refine (SA.out _ _ _ A9.out S9.out).mono ?_
    rintro e w10 ⟨rfl,b10⟩
    replace c0:=keepCell b10 c0
    replace c1:=keepCell b10 c1
    replace d0:=keepCell b10 d0
    replace d1:=keepCell b10 d1
    have S10:=hidd (S9.out.keep b10)
    have C10:=hidd (C9.out.keep b10)
    have B10:=hidd (belowT B9.out b10)
    have H10:=hidd (H9.out.below b10)
    clear b10 B9 H9 S9 A9 C9 SA
    go_wp2_with fail
    refine (RC.out _ S10.out).mono ?_
    rintro e w11 ⟨⟨v11,rfl,hO⟩,b11⟩
    have O11:=hidd (own_mono hO (Nat.zero_le _))
    have D11:=hidd (own_row O11.out)
    have C11:=hidd (C10.out.keep b11)
    have B11:=hidd (belowT B10.out b11)
    have H11:=hidd (H10.out.below b11)
    clear b11 B10 H10 S10 C10 RC hO O11 c0 c1 d0 d1
    go_wp2_with fail
    refine (SB.out _ _ _ C11.out D11.out).mono ?_
    rintro e w12 ⟨rfl,b12⟩
    have B12:=hidd (belowT B11.out b12)
    have H12:=hidd (H11.out.below b12)
    clear b12 B11 H11 C11 D11 SB
    go_wp2_with fail
    refine (AW.out _ H12.out).mono ?_
    rintro e w13 ⟨rfl,b13⟩
    go_wp2_with fail
    go_ret
    exact ⟨rfl,belowT B12.out b13⟩
  · have B7:=hidd (belowT B6.out b7)
    have H7:=hidd (H6.out.below b7)
    clear b7 B6 H6 RB c0 c1 d0 d1 BX CX RC
    go_wp2_with fail
    refine (AW.out _ H7.out).mono ?_
    rintro e w8 ⟨rfl,b8⟩
    go_wp2_with fail
    go_ret
    exact ⟨rfl,belowT B7.out b8⟩
 | true =>
  have h0:te=0:=by simpa using hz
  subst h0
  have B4:=B2
  have H4:=H2
  obtain ⟨w4,ew⟩:∃ w4,w2=w4:=⟨_,rfl⟩
  subst ew
  clear B2 H2 BE CE c0 c1 d0 d1
  go_wp2_with fail
  refine (LB.out _).mono ?_
  rintro e w5 ⟨rfl,b5⟩
  have al1:=allocB w5 (.cells #[.int .i64 l1,.int .i64 l2] 38)
  have al2:=allocB (w5.alloc (.cells #[.int .i64 l1,.int .i64 l2] 38)) (.cells #[.int .i64 u1,.int .i64 u2] 38)
  have c0:((w5.alloc (.cells #[.int .i64 l1,.int .i64 l2] 38)).alloc (.cells #[.int .i64 u1,.int .i64 u2] 38)).cell? ⟨w5.heap.size,0,none⟩=some (.int .i64 l1):=by go_simp
  have c1:((w5.alloc (.cells #[.int .i64 l1,.int .i64 l2] 38)).alloc (.cells #[.int .i64 u1,.int .i64 u2] 38)).cell? ⟨w5.heap.size,1,none⟩=some (.int .i64 l2):=by go_simp
  have d0:((w5.alloc (.cells #[.int .i64 l1,.int .i64 l2] 38)).alloc (.cells #[.int .i64 u1,.int .i64 u2] 38)).cell? ⟨w5.heap.size+1,0,none⟩=some (.int .i64 u1):=by go_simp
  have d1:((w5.alloc (.cells #[.int .i64 l1,.int .i64 l2] 38)).alloc (.cells #[.int .i64 u1,.int .i64 u2] 38)).cell? ⟨w5.heap.size+1,1,none⟩=some (.int .i64 u2):=by go_simp
  have B6:=hidd (belowT (belowT (belowT B4.out b5) al1) al2)
  have H6:=hidd (((H4.out.below b5).below al1).below al2)
  clear al1 al2 b5 B4 H4 LB
  go_wp2_with fail
  generalize (w5.alloc (.cells #[.int .i64 l1,.int .i64 l2] 38)).alloc (.cells #[.int .i64 u1,.int .i64 u2] 38)=w6 at *
  refine (RB.out _).mono ?_
  rintro e w7 ⟨⟨s,L,rfl,hS,hL⟩ | ⟨s,rfl⟩,b7⟩
  · have BX:=hidd (BX.out L hL.1 hL.2.1)
    have CX:=hidd (CX.out L hL.1 hL.2.1)
    have RC:=hidd (RC.out s L hL.2)
    have SA:=hidd fun s t w h1 h2=>rsame 0 0 s t L (by have:=hL.2.2;omega) w h1 h2
    have SB:=hidd fun s t w h1 h2=>rsame 0 0 s t (L.filter (inCB K l1 l2 u1 u2)) (by have:=hL.2.2;have:=FL.out L;omega) w h1 h2
    replace c0:=keepCell b7 c0
    replace c1:=keepCell b7 c1
    replace d0:=keepCell b7 d0
    replace d1:=keepCell b7 d1
    have S7:=hidd hS
    have B7:=hidd (belowT B6.out b7)
    have H7:=hidd (H6.out.below b7)
    clear b7 B6 H6 RB hS hL FL
    generalize L.filter (inCB K l1 l2 u1 u2)=M at *
    go_wp2_with fail
    refine (BX.out _ H7.out).mono ?_
    rintro e w8 ⟨⟨s8,rfl,hA⟩,b8⟩
    replace c0:=keepCell b8 c0
    replace c1:=keepCell b8 c1
    replace d0:=keepCell b8 d0
    replace d1:=keepCell b8 d1
    have S8:=hidd (S7.out.keep b8)
    have A8:=hidd hA
    have B8:=hidd (belowT B7.out b8)
    have H8:=hidd (H7.out.below b8)
    clear b8 B7 H7 S7 BX hA
    go_wp2_with fail
    refine (CX.out _ H8.out).mono ?_
    rintro e w9 ⟨⟨s9,rfl,hC⟩,b9⟩
    replace c0:=keepCell b9 c0
    replace c1:=keepCell b9 c1
    replace d0:=keepCell b9 d0
    replace d1:=keepCell b9 d1
    have S9:=hidd (S8.out.keep b9)
    have A9:=hidd (A8.out.keep b9)
    have C9:=hidd hC
    have B9:=hidd (belowT B8.out b9)
    have H9:=hidd (H8.out.below b9)
    clear b9 B8 H8 S8 A8 CX hC
    go_wp2_with fail
    refine (SA.out _ _ _ A9.out S9.out).mono ?_
    rintro e w10 ⟨rfl,b10⟩
    replace c0:=keepCell b10 c0
    replace c1:=keepCell b10 c1
    replace d0:=keepCell b10 d0
    replace d1:=keepCell b10 d1
    have S10:=hidd (S9.out.keep b10)
    have C10:=hidd (C9.out.keep b10)
    have B10:=hidd (belowT B9.out b10)
    have H10:=hidd (H9.out.below b10)
    clear b10 B9 H9 S9 A9 C9 SA
    go_wp2_with fail
    refine (RC.out _ S10.out).mono ?_
    rintro e w11 ⟨⟨v11,rfl,hO⟩,b11⟩
    have O11:=hidd (own_mono hO (Nat.zero_le _))
    have D11:=hidd (own_row O11.out)
    have C11:=hidd (C10.out.keep b11)
    have B11:=hidd (belowT B10.out b11)
    have H11:=hidd (H10.out.below b11)
    clear b11 B10 H10 S10 C10 RC hO O11 c0 c1 d0 d1
    go_wp2_with fail
    refine (SB.out _ _ _ C11.out D11.out).mono ?_
    rintro e w12 ⟨rfl,b12⟩
    have B12:=hidd (belowT B11.out b12)
    have H12:=hidd (H11.out.below b12)
    clear b12 B11 H11 C11 D11 SB
    go_wp2_with fail
    refine (AW.out _ H12.out).mono ?_
    rintro e w13 ⟨rfl,b13⟩
    go_wp2_with fail
    go_ret
    exact ⟨rfl,belowT B12.out b13⟩
  · have B7:=hidd (belowT B6.out b7)
    have H7:=hidd (H6.out.below b7)
    clear b7 B6 H6 RB c0 c1 d0 d1 BX CX RC
    go_wp2_with fail
    refine (AW.out _ H7.out).mono ?_
    rintro e w8 ⟨rfl,b8⟩
    go_wp2_with fail
    go_ret
    exact ⟨rfl,belowT B7.out b8⟩
end Go.Proofs.YtdklpgphmoaniaaGreatDoor
