/-
  TOUCHES of package cover, over the landed code; in whatever memory where the tables hold what its texts lay.
-/
import Derived.Test.YtdklpgphmoaniabGreatDoorJn24
import Derived.Test.YtdklpgphmoaniabGreatDoorJn15
import Derived.Test.YtdklpgphmoaniabGreatDoorJn31
namespace Go.Proofs.YtdklpgphmoaniabGreatDoor
open Go.RowKit
def TchS (B:Nat) (r a b l1 l2 u1 u2:Int) (W:World):Prop:=(W.cell? ⟨B,0,none⟩=some (.int .i64 r)∧W.cell? ⟨B,1,none⟩=some (.int .i64 a)∧W.cell? ⟨B,2,none⟩=some (.int .i64 b)) ∧
 W.cell? ⟨B+1+1+1,0,none⟩=some (.int .i64 l1)∧W.cell? ⟨B+1+1+1,1,none⟩=some (.int .i64 l2)∧W.cell? ⟨B+1+1+1,2,none⟩=some (.int .i64 u1)∧W.cell? ⟨B+1+1+1,3,none⟩=some (.int .i64 u2)
theorem TchS.keep {B:Nat} {r a b l1 l2 u1 u2:Int} {W W':World} (h:TchS B r a b l1 l2 u1 u2 W) (hb:Below W.heap.size W W'):TchS B r a b l1 l2 u1 u2 W' :=
 ⟨⟨keepCell hb h.1.1,keepCell hb h.1.2.1,keepCell hb h.1.2.2⟩,keepCell hb h.2.1,keepCell hb h.2.2.1,keepCell hb h.2.2.2.1,keepCell hb h.2.2.2.2⟩
theorem tch_made (w:World) (e1 e2 e3 e4:TypeId) (r a b l1 l2 u1 u2:Int):TchS w.heap.size r a b l1 l2 u1 u2 ((((w.alloc (.cells #[.int .i64 r,.int .i64 a,.int .i64 b] e1)).alloc (.cells #[.int .i64 l1,.int .i64 l2] e2)).alloc (.cells #[.int .i64 u1,.int .i64 u2] e3)).alloc (.cells #[.int .i64 l1,.int .i64 l2,.int .i64 u1,.int .i64 u2] e4)) ∧
 Below w.heap.size w ((((w.alloc (.cells #[.int .i64 r,.int .i64 a,.int .i64 b] e1)).alloc (.cells #[.int .i64 l1,.int .i64 l2] e2)).alloc (.cells #[.int .i64 u1,.int .i64 u2] e3)).alloc (.cells #[.int .i64 l1,.int .i64 l2,.int .i64 u1,.int .i64 u2] e4)):=by
 refine ⟨⟨⟨by go_simp,by go_simp,by go_simp⟩,by go_simp,by go_simp,by go_simp,by go_simp⟩,?_⟩
 exact belowT (belowT (belowT (allocB _ _) (allocB _ _)) (allocB _ _)) (allocB _ _)
set_option maxHeartbeats 8000000 in
set_option maxRecDepth 100000 in
theorem q_touch_out (r a b l1 l2 u1 u2:Int) (ok p q t:Bool) (h:ok=false∨(ok=true∧(p && q)=false)∨(ok=true∧(p && q)=true∧t=true)) (w:World) (hT:Cov3 w)
 (OK:∀ w,Cov3 w→Calls Tryz.prog 20 #[.agg #[.int .i64 r,.int .i64 a,.int .i64 b]] w fun e w'=>e=.returned (.bool ok)∧Below w.heap.size w w')
 (NR:∀ w,Calls Tryz.prog 21 #[.agg #[.int .i64 l1,.int .i64 l2,.int .i64 u1,.int .i64 u2]] w fun e w'=>e=.returned (.bool (p && q))∧Below w.heap.size w w')
 (TU:∀ w,Calls Tryz.prog 22 #[.agg #[.int .i64 l1,.int .i64 l2,.int .i64 u1,.int .i64 u2]] w fun e w'=>e=.returned (.bool t)∧Below w.heap.size w w') :
 Calls Tryz.prog 13 #[.agg #[.int .i64 r,.int .i64 a,.int .i64 b],.agg #[.int .i64 l1,.int .i64 l2],.agg #[.int .i64 u1,.int .i64 u2]] w fun e w'=>e=.returned (.bool false)∧Below w.heap.size w w':=by
 replace NR:Hid _:=NR
 replace TU:Hid _:=TU
 have S0:=hidd (tch_made w 42 22 22 45 r a b l1 l2 u1 u2)
 have OK1:=hidd (OK _ (hT.below S0.out.2))
 clear OK hT
 generalize (p && q)=nr at *
 go_enter Tryz.func13,Tryz.ntmps13
 go_wp2_with fail
 generalize (((w.alloc (.cells #[.int .i64 r,.int .i64 a,.int .i64 b] 42)).alloc (.cells #[.int .i64 l1,.int .i64 l2] 22)).alloc (.cells #[.int .i64 u1,.int .i64 u2] 22)).alloc (.cells #[.int .i64 l1,.int .i64 l2,.int .i64 u1,.int .i64 u2] 45)=w0 at *
 refine OK1.out.mono ?_
 rintro e w1 ⟨rfl,b1⟩
 have B1:=hidd (belowT S0.out.2 b1)
 obtain ⟨-,y0,y1,y2,y3⟩:=S0.out.1.keep b1
 clear S0 OK1 b1
 rcases h with rfl | ⟨rfl,rfl⟩ | ⟨rfl,rfl,rfl⟩
 · go_wp2_with fail
   go_ret
   exact ⟨rfl,B1.out⟩
 · go_wp2_with fail
   refine (NR.out _).mono ?_
   rintro e w2 ⟨rfl,b2⟩
   have B2:=hidd (belowT B1.out b2)
   clear y0 y1 y2 y3 b2 NR TU
   go_wp2_with fail
   go_ret
   exact ⟨rfl,B2.out⟩
 · go_wp2_with fail
   refine (NR.out _).mono ?_
   rintro e w2 ⟨rfl,b2⟩
   have B2:=hidd (belowT B1.out b2)
   replace y0:=keepCell b2 y0
   replace y1:=keepCell b2 y1
   replace y2:=keepCell b2 y2
   replace y3:=keepCell b2 y3
   clear b2 NR
   go_wp2_with fail
   refine (TU.out _).mono ?_
   rintro e w3 ⟨rfl,b3⟩
   have B3:=hidd (belowT B2.out b3)
   clear y0 y1 y2 y3 b3 TU
   go_wp2_with fail
   go_ret
   exact ⟨rfl,B3.out⟩
set_option maxHeartbeats 8000000 in
set_option maxRecDepth 100000 in
theorem q_touch_main (r a b l1 l2 u1 u2:Int) (M L:List Ed) (hM:∀ e∈M,EdB e) (hL:∀ e∈L,EdB e) (hm:M.length≤1000) (hl:L.length≤1000) (w:World) (hT:Cov3 w)
 (OK:∀ w,Cov3 w→Calls Tryz.prog 20 #[.agg #[.int .i64 r,.int .i64 a,.int .i64 b]] w fun e w'=>e=.returned (.bool true)∧Below w.heap.size w w')
 (NR:∀ w,Calls Tryz.prog 21 #[.agg #[.int .i64 l1,.int .i64 l2,.int .i64 u1,.int .i64 u2]] w fun e w'=>e=.returned (.bool true)∧Below w.heap.size w w')
 (TU:∀ w,Calls Tryz.prog 22 #[.agg #[.int .i64 l1,.int .i64 l2,.int .i64 u1,.int .i64 u2]] w fun e w'=>e=.returned (.bool false)∧Below w.heap.size w w')
 (HX:∀ w,Cov3 w→Calls Tryz.prog 23 #[.agg #[.int .i64 r,.int .i64 a,.int .i64 b]] w fun e w'=>(∃ v,e=.returned v∧RowD w.heap.size v M w')∧Below w.heap.size w w')
 (SD:∀ w,Calls Tryz.prog 24 #[.agg #[.int .i64 l1,.int .i64 l2,.int .i64 u1,.int .i64 u2]] w fun e w'=>(∃ v,e=.returned v∧RowD w.heap.size v L w')∧Below w.heap.size w w') :
 Calls Tryz.prog 13 #[.agg #[.int .i64 r,.int .i64 a,.int .i64 b],.agg #[.int .i64 l1,.int .i64 l2],.agg #[.int .i64 u1,.int .i64 u2]] w fun e w'=>e=.returned (.bool (!outB M L && !outB L M))∧Below w.heap.size w w':=by
 replace NR:Hid _:=NR
 replace TU:Hid _:=TU
 replace SD:Hid _:=SD
 replace HX:Hid _:=HX
 have S0:=hidd (tch_made w 42 22 22 45 r a b l1 l2 u1 u2)
 have OK1:=hidd (OK _ (hT.below S0.out.2))
 have HT:=hidd hT
 have O1:=hidd fun (p q:Value) (bp bq:Nat) (w:World) (hp:RowD bp p M w) (hq:RowD bq q L w)=>q_out bp bq p q M L hM hL hm hl w hp hq
 have O2:=hidd fun (p q:Value) (bp bq:Nat) (w:World) (hp:RowD bp p M w) (hq:RowD bq q L w)=>q_out bq bp q p L M hL hM hl hm w hq hp
 clear OK hT hM hL hm hl
 go_enter Tryz.func13,Tryz.ntmps13
 go_wp2_with fail
 generalize (((w.alloc (.cells #[.int .i64 r,.int .i64 a,.int .i64 b] 42)).alloc (.cells #[.int .i64 l1,.int .i64 l2] 22)).alloc (.cells #[.int .i64 u1,.int .i64 u2] 22)).alloc (.cells #[.int .i64 l1,.int .i64 l2,.int .i64 u1,.int .i64 u2] 45)=w0 at *
 refine OK1.out.mono ?_
 rintro e w1 ⟨rfl,b1⟩
 have B1:=hidd (belowT S0.out.2 b1)
 have S1:=hidd (S0.out.1.keep b1)
 obtain ⟨-,y0,y1,y2,y3⟩:=S1.out
 clear S0 OK1 b1
 go_wp2_with fail
 refine (NR.out _).mono ?_
 rintro e w2 ⟨rfl,b2⟩
 have B2:=hidd (belowT B1.out b2)
 have S2:=hidd (S1.out.keep b2)
 clear y0 y1 y2 y3 b2 NR S1 B1
 obtain ⟨-,y0,y1,y2,y3⟩:=S2.out
 go_wp2_with fail
 refine (TU.out _).mono ?_
 rintro e w3 ⟨rfl,b3⟩
 have B3:=hidd (belowT B2.out b3)
 have S3:=hidd (S2.out.keep b3)
 clear y0 y1 y2 y3 b3 TU S2 B2
 obtain ⟨⟨z0,z1,z2⟩,y0,y1,y2,y3⟩:=S3.out
 go_wp2_with fail
 go_region_with (first
  | (go_at_call 23
     refine (HX.out _ (HT.out.below (by first | exact BX.out | exact belowT B3.out (drewB _)))).mono ?_
     rintro e w4 ⟨⟨v1,rfl,hv1⟩,b4⟩
     have BX1:=hidd (show Below w.heap.size w w4 from (by first | exact belowT BX.out b4 | exact belowT (belowT B3.out (drewB _)) b4))
     have SX:=hidd (show TchS w.heap.size r a b l1 l2 u1 u2 w4 from (by first | exact SX0.out.keep b4 | exact (S3.out.keep (drewB _)).keep b4))
     have RX1:=hidd hv1
     try have RX3:=hidd (RX2.out.keep b4)
     clear z0 z1 z2 y0 y1 y2 y3
     obtain ⟨⟨z0,z1,z2⟩,y0,y1,y2,y3⟩:=SX.out
     clear hv1 b4)
  | (go_at_call 24
     refine (SD.out _).mono ?_
     rintro e w5 ⟨⟨v2,rfl,hv2⟩,b5⟩
     have BX:=hidd (show Below w.heap.size w w5 from (by first | exact belowT BX1.out b5 | exact belowT (belowT B3.out (drewB _)) b5))
     have SX0:=hidd (show TchS w.heap.size r a b l1 l2 u1 u2 w5 from (by first | exact SX.out.keep b5 | exact (S3.out.keep (drewB _)).keep b5))
     have RX2:=hidd hv2
     try have RX4:=hidd (RX1.out.keep b5)
     clear z0 z1 z2 y0 y1 y2 y3
     obtain ⟨⟨z0,z1,z2⟩,y0,y1,y2,y3⟩:=SX0.out
     clear hv2 b5))
 all_goals
  have C1:=hidd (O1.out _ _ _ _ _ RX4.out RX2.out)
  have C2:=hidd fun (w6:World) b6=>O2.out _ _ _ _ w6 (RX4.out.keep b6) (RX2.out.keep b6)
  have BX9:=hidd BX.out
  clear RX1 RX2 RX4 BX1 BX SX SX0 S3 B3 HX SD O1 O2 HT z0 z1 z2 y0 y1 y2 y3
  obtain ⟨t1,e1⟩:∃ t,outB M L=t:=⟨_,rfl⟩
  obtain ⟨t2,e2⟩:∃ t,outB L M=t:=⟨_,rfl⟩
  have E1:=hidd e1
  have E2:=hidd e2
  simp only [e1] at C1
  simp only [e2] at C2
  clear e1 e2
  go_wp2_with fail
  refine C1.out.mono ?_
  rintro e w6 ⟨rfl,b6⟩
  have B6:=hidd (belowT BX9.out b6)
  have C3:=hidd (C2.out w6 b6)
  clear C1 C2 BX9 b6
  cases t1
  · go_wp2_with fail
    refine C3.out.mono ?_
    rintro e w7 ⟨rfl,b7⟩
    have B7:=hidd (belowT B6.out b7)
    clear C3 b7 B6
    go_wp2
    go_ret
    exact ⟨by rw [E1.out,E2.out];simp,B7.out⟩
  · go_wp2
    go_ret
    exact ⟨by rw [E1.out,E2.out];simp,B6.out⟩
theorem far_in (x y:Int):(inB (-2147483648) (-2147483648) 2147483648 2147483648 x y=true↔¬ FarT x y)∧(inB (-2147483648) (-2147483648) 2147483648 2147483648 x y=false↔FarT x y):=by
 unfold inB FarT
 simp only [decide_eq_true_eq,decide_eq_false_iff_not]
 omega
theorem p_touch (r a b l1 l2 u1 u2:Int) (t:Bool) (ht:t=true↔TouP r a b l1 l2 u1 u2) (_hB:∀ z∈[r,a,b,l1,l2,u1,u2],-9223372036854775808≤z∧z≤9223372036854775807) (w:World) (hT:Cov3 w) :
 Calls Tryz.prog 13 #[.agg #[.int .i64 r,.int .i64 a,.int .i64 b],.agg #[.int .i64 l1,.int .i64 l2],.agg #[.int .i64 u1,.int .i64 u2]] w fun e w'=>e=.returned (.bool t)∧Below w.heap.size w w':=by
 have no:¬ TouP r a b l1 l2 u1 u2→t=false:=fun h=>by
  cases ee:t with
  | false=>rfl
  | true=>exact absurd (ht.1 ee) h
 have NR:=fun w=>q_isNear l1 l2 u1 u2 _ _ rfl rfl w
 have tu:(u1 < l1∨u2 < l2)→∀ w,Calls Tryz.prog 22 #[.agg #[.int .i64 l1,.int .i64 l2,.int .i64 u1,.int .i64 u2]] w fun e w'=>e=.returned (.bool true)∧Below w.heap.size w w':=fun h w=>by
  by_cases h1:u1 < l1
  · exact q_turned l1 l2 u1 u2 true (.inl ⟨h1,rfl⟩) w
  · exact q_turned l1 l2 u1 u2 true (.inr (.inl ⟨by simp only [decide_eq_false_iff_not];exact h1,by omega,rfl⟩)) w
 by_cases hok:Ok4 r a b
 · have OK:=fun w (hT:Cov3 w)=>cok_yes r a b hok w hT.1
   by_cases hn:(inB (-2147483648) (-2147483648) 2147483648 2147483648 l1 l2 && inB (-2147483648) (-2147483648) 2147483648 2147483648 u1 u2)=true
   · have hf:=Bool.and_eq_true_iff.1 hn
     have f1:=(far_in l1 l2).1.1 hf.1
     have f2:=(far_in u1 u2).1.1 hf.2
     by_cases h1:u1 < l1∨u2 < l2
     · rw [no fun h=>by have:=h.2.2.2.1;omega]
       exact q_touch_out r a b l1 l2 u1 u2 true _ _ true (.inr (.inr ⟨rfl,hn,rfl⟩)) w hT OK NR (tu h1)
     · have hK:(12 - r).toNat≤12:=by have:=hok.1;omega
       have hr:12 - r=((12 - r).toNat:Int):=by have:=hok.2.1;omega
       have hp:=ok4_part hok
       have bx1:(-2147483648≤l1∧l1≤2147483648)∧(-2147483648≤l2∧l2≤2147483648):=by unfold FarT at f1;omega
       have bx2:(-2147483648≤u1∧u1≤2147483648)∧(-2147483648≤u2∧u2≤2147483648):=by unfold FarT at f2;omega
       have key:=touch_eq (a:=a) (b:=b) hK (show l1≤u1 by omega) (show l2≤u2 by omega)
       have et:t=(!outB (exL (hv (12 - r).toNat a b) 6) (sdL l1 l2 u1 u2) && !outB (sdL l1 l2 u1 u2) (exL (hv (12 - r).toNat a b) 6)):=by
        rw [Bool.eq_iff_iff,ht,Bool.and_eq_true_iff,Bool.not_eq_true',Bool.not_eq_true',key]
        exact ⟨fun h=>h.2.2.2.2,fun h=>⟨hok,f1,f2,⟨by omega,by omega⟩,h⟩⟩
       rw [et]
       exact q_touch_main r a b l1 l2 u1 u2 _ _ (ex_box hok) (sd_boxQ bx1.1 bx1.2 bx2.1 bx2.2) (by rw [exL_len];omega) (by simp [sdL]) w hT OK (fun w=>by have:=NR w;rwa [hn] at this)
        (fun w=>q_turned l1 l2 u1 u2 false (.inr (.inr ⟨by simp only [decide_eq_false_iff_not];omega,by simp only [decide_eq_false_iff_not];omega,rfl⟩)) w)
        (fun w hC=>q_hexOf r a b _ hK hr ⟨by omega,by omega⟩ ⟨by omega,by omega⟩ (fun j hj=>hv_box hok hj) w hC.2) (fun w=>q_sides l1 l2 u1 u2 bx1.1 bx1.2 bx2.1 bx2.2 w)
   · have hn':=Bool.eq_false_iff.2 hn
     rw [no fun h=>hn (Bool.and_eq_true_iff.2 ⟨(far_in l1 l2).1.2 h.2.1,(far_in u1 u2).1.2 h.2.2.1⟩)]
     by_cases h1:u1 < l1∨u2 < l2
     · exact q_touch_out r a b l1 l2 u1 u2 true _ _ true (.inr (.inl ⟨rfl,hn'⟩)) w hT OK NR (tu h1)
     · exact q_touch_out r a b l1 l2 u1 u2 true _ _ false (.inr (.inl ⟨rfl,hn'⟩)) w hT OK NR (fun w=>q_turned l1 l2 u1 u2 false (.inr (.inr ⟨by simp only [decide_eq_false_iff_not];omega,by simp only [decide_eq_false_iff_not];omega,rfl⟩)) w)
 · have OK:=fun w (hT:Cov3 w)=>cok_no r a b hok w hT.1
   rw [no fun h=>hok h.1]
   by_cases h1:u1 < l1∨u2 < l2
   · exact q_touch_out r a b l1 l2 u1 u2 false _ _ true (.inl rfl) w hT OK NR (tu h1)
   · exact q_touch_out r a b l1 l2 u1 u2 false _ _ false (.inl rfl) w hT OK NR (fun w=>q_turned l1 l2 u1 u2 false (.inr (.inr ⟨by simp only [decide_eq_false_iff_not];omega,by simp only [decide_eq_false_iff_not];omega,rfl⟩)) w)
end Go.Proofs.YtdklpgphmoaniabGreatDoor
