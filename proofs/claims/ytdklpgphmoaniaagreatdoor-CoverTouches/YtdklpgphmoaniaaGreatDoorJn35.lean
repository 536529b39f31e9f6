/-
  TOUCHES of package cover, over the landed code; in whatever memory where the tables hold what its texts lay.
-/
import Derived.Test.YtdklpgphmoaniaaGreatDoorJn34
import Derived.Test.YtdklpgphmoaniaaGreatDoorQFrom
namespace Go.Proofs.YtdklpgphmoaniaaGreatDoor
open Go.RowKit
def TchS (B:Nat) (r a b l1 l2 u1 u2:Int) (W:World):Prop:=(W.cell? ⟨B,0,none⟩=some (.int .i64 r)∧W.cell? ⟨B,1,none⟩=some (.int .i64 a)∧W.cell? ⟨B,2,none⟩=some (.int .i64 b)) ∧
 W.cell? ⟨B+1+1+1,0,none⟩=some (.int .i64 l1)∧W.cell? ⟨B+1+1+1,1,none⟩=some (.int .i64 l2)∧W.cell? ⟨B+1+1+1,2,none⟩=some (.int .i64 u1)∧W.cell? ⟨B+1+1+1,3,none⟩=some (.int .i64 u2)
theorem TchS.keep {B:Nat} {r a b l1 l2 u1 u2:Int} {W W':World} (h:TchS B r a b l1 l2 u1 u2 W) (hb:Below W.heap.size W W'):TchS B r a b l1 l2 u1 u2 W' :=
 ⟨⟨keepCell hb h.1.1,keepCell hb h.1.2.1,keepCell hb h.1.2.2⟩,keepCell hb h.2.1,keepCell hb h.2.2.1,keepCell hb h.2.2.2.1,keepCell hb h.2.2.2.2⟩
theorem tch_made (w:World) (e1 e2 e3 e4:TypeId) (r a b l1 l2 u1 u2:Int):TchS w.heap.size r a b l1 l2 u1 u2 ((((w.alloc (.cells #[.int .i64 r,.int .i64 a,.int .i64 b] e1)).alloc (.cells #[.int .i64 l1,.int .i64 l2] e2)).alloc (.cells #[.int .i64 u1,.int .i64 u2] e3)).alloc (.cells #[.int .i64 l1,.int .i64 l2,.int .i64 u1,.int .i64 u2] e4)) ∧
 Below w.heap.size w ((((w.alloc (.cells #[.int .i64 r,.int .i64 a,.int .i64 b] e1)).alloc (.cells #[.int .i64 l1,.int .i64 l2] e2)).alloc (.cells #[.int .i64 u1,.int .i64 u2] e3)).alloc (.cells #[.int .i64 l1,.int .i64 l2,.int .i64 u1,.int .i64 u2] e4)):=by
 refine ⟨⟨⟨by go_simp,by go_simp,by go_simp⟩,by go_simp,by go_simp,by go_simp,by go_simp⟩,?_⟩
 exact belowT (belowT (belowT (allocB _ _) (allocB _ _)) (allocB _ _)) (allocB _ _)
set_option maxHeartbeats 8000000 in
set_option maxRecDepth 100000 in
theorem q_touch_out (r a b l1 l2 u1 u2:Int) (ok p q t:Bool) (h:ok=false∨(ok=true∧(p && q)=false)∨(ok=true∧(p && q)=true∧t=true)) (w:World) (hT:Cov3 w)
 (OK:∀ w,Cov3 w→Calls Tryz.prog 42 #[.agg #[.int .i64 r,.int .i64 a,.int .i64 b]] w fun e w'=>e=.returned (.bool ok)∧Below w.heap.size w w')
 (NR:∀ w,Calls Tryz.prog 43 #[.agg #[.int .i64 l1,.int .i64 l2,.int .i64 u1,.int .i64 u2]] w fun e w'=>e=.returned (.bool (p && q))∧Below w.heap.size w w')
 (TU:∀ w,Calls Tryz.prog 44 #[.agg #[.int .i64 l1,.int .i64 l2,.int .i64 u1,.int .i64 u2]] w fun e w'=>e=.returned (.bool t)∧Below w.heap.size w w') :
 Calls Tryz.prog 19 #[.agg #[.int .i64 r,.int .i64 a,.int .i64 b],.agg #[.int .i64 l1,.int .i64 l2],.agg #[.int .i64 u1,.int .i64 u2]] w fun e w'=>e=.returned (.bool false)∧Below w.heap.size w w':=by
 replace NR:Hid _:=NR
 replace TU:Hid _:=TU
 have S0:=hidd (tch_made w 25 38 38 80 r a b l1 l2 u1 u2)
 have OK1:=hidd (OK _ (hT.below S0.out.2))
 clear OK hT
 generalize (p && q)=nr at *
 go_enter Tryz.func19,Tryz.ntmps19
 go_wp2_with fail
 generalize (((w.alloc (.cells #[.int .i64 r,.int .i64 a,.int .i64 b] 25)).alloc (.cells #[.int .i64 l1,.int .i64 l2] 38)).alloc (.cells #[.int .i64 u1,.int .i64 u2] 38)).alloc (.cells #[.int .i64 l1,.int .i64 l2,.int .i64 u1,.int .i64 u2] 80)=w0 at *
 refine OK1.out.mono ?_
 rintro e w1 ⟨rfl,b1⟩
 have B1:=hidd (belowT S0.out.2 b1)
 obtain ⟨-,y0,y1,y2,y3⟩:=S0.out.1.keep b1
 clear S0 OK1 b1
 rcases h with rfl | ⟨rfl,rfl⟩ | ⟨rfl,rfl,rfl⟩
 · go_wp2_with fail
   go_ret
   exact ⟨rfl,B1.out⟩
 · go_wp2_with fail
   refine (NR.out _).mono ?_
   rintro e w2 ⟨rfl,b2⟩
   have B2:=hidd (belowT B1.out b2)
   clear y0 y1 y2 y3 b2 NR TU
   go_wp2_with fail
   go_ret
   exact ⟨rfl,B2.out⟩
 · go_wp2_with fail
   refine (NR.out _).mono ?_
   rintro e w2 ⟨rfl,b2⟩
   have B2:=hidd (belowT B1.out b2)
   replace y0:=keepCell b2 y0
   replace y1:=keepCell b2 y1
   replace y2:=keepCell b2 y2
   replace y3:=keepCell b2 y3
   clear b2 NR
   go_wp2_with fail
   refine (TU.out _).mono ?_
   rintro e w3 ⟨rfl,b3⟩
   have B3:=hidd (belowT B2.out b3)
   clear y0 y1 y2 y3 b3 TU
   go_wp2_with fail
   go_ret
   exact ⟨rfl,B3.out⟩
set_option maxHeartbeats 8000000 in
set_option maxRecDepth 100000 in
theorem q_touch_main (r a b l1 l2 u1 u2:Int) (M L:List Ed) (hM:∀ e∈M,EdB e) (hL:∀ e∈L,EdB e) (hm:M.length≤1000) (hl:L.length≤1000) (w:World) (hT:Cov3 w)
 (OK:∀ w,Cov3 w→Calls Tryz.prog 42 #[.agg #[.int .i64 r,.int .i64 a,.int .i64 b]] w fun e w'=>e=.returned (.bool true)∧Below w.heap.size w w')
 (NR:∀ w,Calls Tryz.prog 43 #[.agg #[.int .i64 l1,.int .i64 l2,.int .i64 u1,.int .i64 u2]] w fun e w'=>e=.returned (.bool true)∧Below w.heap.size w w')
 (TU:∀ w,Calls Tryz.prog 44 #[.agg #[.int .i64 l1,.int .i64 l2,.int .i64 u1,.int .i64 u2]] w fun e w'=>e=.returned (.bool false)∧Below w.heap.size w w')
 (HX:∀ w,Cov3 w→Calls Tryz.prog 45 #[.agg #[.int .i64 r,.int .i64 a,.int .i64 b]] w fun e w'=>(∃ v,e=.returned v∧RowD w.heap.size v M w')∧Below w.heap.size w w')
 (SD:∀ w,Calls Tryz.prog 46 #[.agg #[.int .i64 l1,.int .i64 l2,.int .i64 u1,.int .i64 u2]] w fun e w'=>(∃ v,e=.returned v∧RowD w.heap.size v L w')∧Below w.heap.size w w') :
 Calls Tryz.prog 19 #[.agg #[.int .i64 r,.int .i64 a,.int .i64 b],.agg #[.int .i64 l1,.int .i64 l2],.agg #[.int .i64 u1,.int .i64 u2]] w fun e w'=>e=.returned (.bool (!outB M L && !outB L M))∧Below w.heap.size w w':=by
 replace NR:Hid _:=NR
 replace TU:Hid _:=TU
 replace SD:Hid _:=SD
 replace HX:Hid _:=HX
 have S0:=hidd (tch_made w 25 38 38 80 r a b l1 l2 u1 u2)
 have OK1:=hidd (OK _ (hT.below S0.out.2))
 have HT:=hidd hT
 have O1:=hidd fun (p q:Value) (bp bq:Nat) (w:World) (hp:RowD bp p M w) (hq:RowD bq q L w)=>q_out bp bq p q M L hM hL hm hl w hp hq
 have O2:=hidd fun (p q:Value) (bp bq:Nat) (w:World) (hp:RowD bp p M w) (hq:RowD bq q L w)=>q_out bq bp q p L M hL hM hl hm w hq hp
 clear OK hT hM hL hm hl
 go_enter Tryz.func19,Tryz.ntmps19
 go_wp2_with fail
 generalize (((w.alloc (.cells #[.int .i64 r,.int .i64 a,.int .i64 b] 25)).alloc (.cells #[.int .i64 l1,.int .i64 l2] 38)).alloc (.cells #[.int .i64 u1,.int .i64 u2] 38)).alloc (.cells #[.int .i64 l1,.int .i64 l2,.int .i64 u1,.int .i64 u2] 80)=w0 at *
 refine OK1.out.mono ?_
 rintro e w1 ⟨rfl,b1⟩
 have B1:=hidd (belowT S0.out.2 b1)
 have S1:=hidd (S0.out.1.keep b1)
 obtain ⟨-,y0,y1,y2,y3⟩:=S1.out
 clear S0 OK1 b1
 go_wp2_with fail
 refine (NR.out _).mono ?_
 rintro e w2 ⟨rfl,b2⟩
 have B2:=hidd (belowT B1.out b2)
 have S2:=hidd (S1.out.keep b2)
 clear y0 y1 y2 y3 b2 NR S1 B1
 obtain ⟨-,y0,y1,y2,y3⟩:=S2.out
 go_wp2_with fail
 refine (TU.out _).mono ?_
 rintro e w3 ⟨rfl,b3⟩
 have B3:=hidd (belowT B2.out b3)
 have S3:=hidd (S2.out.keep b3)
 clear y0 y1 y2 y3 b3 TU S2 B2
 obtain ⟨⟨z0,z1,z2⟩,y0,y1,y2,y3⟩:=S3.out
 go_wp2_with fail
 go_region_with (first
  | (go_at_call 45
     refine (HX.out _ (HT.out.below (by first | exact BX.out | exact belowT B3.out (drewB _)))).mono ?_
     rintro e w4 ⟨⟨v1,rfl,hv1⟩,b4⟩
     have BX1:=hidd (show Below w.heap.size w w4 from (by first | exact belowT BX.out b4 | exact belowT (belowT B3.out (drewB _)) b4))
     have SX:=hidd (show TchS w.heap.size r a b l1 l2 u1 u2 w4 from (by first | exact SX0.out.keep b4 | exact (S3.out.keep (drewB _)).keep b4))
     have RX1:=hidd hv1
     try have RX3:=hidd (RX2.out.keep b4)
     clear z0 z1 z2 y0 y1 y2 y3
     obtain ⟨⟨z0,z1,z2⟩,y0,y1,y2,y3⟩:=SX.out
     clear hv1 b4)
  | (go_at_call 46
     refine (SD.out _).mono ?_
     rintro e w5 ⟨⟨v2,rfl,hv2⟩,b5⟩
     have BX:=hidd (show Below w.heap.size w w5 from (by first | exact belowT BX1.out b5 | exact belowT (belowT B3.out (drewB _)) b5))
     have SX0:=hidd (show TchS w.heap.size r a b l1 l2 u1 u2 w5 from (by first | exact SX.out.keep b5 | exact (S3.out.keep (drewB _)).keep b5))
     have RX2:=hidd hv2
     try have RX4:=hidd (RX1.out.keep b5)
     clear z0 z1 z2 y0 y1 y2 y3
     obtain ⟨⟨z0,z1,z2⟩,y0,y1,y2,y3⟩:=SX0.out
     clear hv2 b5))
 all_goals
  have C1:=hidd (O1.out _ _ _ _ _ RX4.out RX2.out)
  have C2:=hidd fun (w6:World) b6=>O2.out _ _ _ _ w6 (RX4.out.keep b6) (RX2.out.keep b6)
  have BX9:=hidd BX.out
  clear RX1 RX2 RX4 BX1 BX SX SX0 S3 B3 HX SD O1 O2 HT z0 z1 z2 y0 y1 y2 y3
  obtain ⟨t1,e1⟩:∃ t,outB M L=t:=⟨_,rfl⟩
  obtain ⟨t2,e2⟩:∃ t,outB L M=t:=⟨_,rfl⟩
  have E1:=hidd e1
  have E2:=hidd e2
  simp only [e1] at C1
  simp only [e2] at C2
  clear e1 e2
  go_wp2_with fail
  refine C1.out.mono ?_
  rintro e w6 ⟨rfl,b6⟩
  have B6:=hidd (belowT BX9.out b6)
  have C3:=hidd (C2.out w6 b6)
  clear C1 C2 BX9 b6
  cases t1
  · go_wp2_with fail
    refine C3.out.mono ?_
    rintro e w7 ⟨rfl,b7⟩
    have B7:=hidd (belowT B6.out b7)
    clear C3 b7 B6
    go_wp2
    go_ret
    exact ⟨by rw [E1.out,E2.out];simp,B7.out⟩
  · go_wp2
    go_ret
    exact ⟨by rw [E1.out,E2.out];simp,B6.out⟩
theorem far_in (x y:Int):(inB (-2147483648) (-2147483648) 2147483648 2147483648 x y=true↔¬ FarT x y)∧(inB (-2147483648) (-2147483648) 2147483648 2147483648 x y=false↔FarT x y):=by
 unfold inB FarT
 simp only [decide_eq_true_eq,decide_eq_false_iff_not]
 omega
theorem p_touch (r a b l1 l2 u1 u2:Int) (t:Bool) (ht:t=true↔TouP r a b l1 l2 u1 u2) (_hB:∀ z∈[r,a,b,l1,l2,u1,u2],-9223372036854775808≤z∧z≤9223372036854775807) (w:World) (hT:Cov3 w) :
 Calls Tryz.prog 19 #[.agg #[.int .i64 r,.int .i64 a,.int .i64 b],.agg #[.int .i64 l1,.int .i64 l2],.agg #[.int .i64 u1,.int .i64 u2]] w fun e w'=>e=.returned (.bool t)∧Below w.heap.size w w':=by
 have no:¬ TouP r a b l1 l2 u1 u2→t=false:=fun h=>by
  cases ee:t with
  | false=>rfl
  | true=>exact absurd (ht.1 ee) h
 have NR:=fun w=>q_isNear l1 l2 u1 u2 _ _ rfl rfl w
 have tu:(u1 < l1∨u2 < l2)→∀ w,Calls Tryz.prog 44 #[.agg #[.int .i64 l1,.int .i64 l2,.int .i64 u1,.int .i64 u2]] w fun e w'=>e=.returned (.bool true)∧Below w.heap.size w w':=fun h w=>by
  by_cases h1:u1 < l1
  · exact q_turned l1 l2 u1 u2 true (.inl ⟨h1,rfl⟩) w
  · exact q_turned l1 l2 u1 u2 true (.inr (.inl ⟨by simp only [decide_eq_false_iff_not];exact h1,by omega,rfl⟩)) w
 by_cases hok:Ok4 r a b
 · have OK:=fun w (hT:Cov3 w)=>cok_yes r a b hok w hT.1
   by_cases hn:(inB (-2147483648) (-2147483648) 2147483648 2147483648 l1 l2 && inB (-2147483648) (-2147483648) 2147483648 2147483648 u1 u2)=true
   · have hf:=Bool.and_eq_true_iff.1 hn
     have f1:=(far_in l1 l2).1.1 hf.1
     have f2:=(far_in u1 u2).1.1 hf.2
     by_cases h1:u1 < l1∨u2 < l2
     · rw [no fun h=>by have:=h.2.2.2.1;omega]
       exact q_touch_out r a b l1 l2 u1 u2 true _ _ true (.inr (.inr ⟨rfl,hn,rfl⟩)) w hT OK NR (tu h1)
     · have hK:(12 - r).toNat≤12:=by have:=hok.1;omega
       have hr:12 - r=((12 - r).toNat:Int):=by have:=hok.2.1;omega
       have hp:=ok4_part hok
       have bx1:(-2147483648≤l1∧l1≤2147483648)∧(-2147483648≤l2∧l2≤2147483648):=by unfold FarT at f1;omega
       have bx2:(-2147483648≤u1∧u1≤2147483648)∧(-2147483648≤u2∧u2≤2147483648):=by unfold FarT at f2;omega
       have key:=touch_eq (a:=a) (b:=b) hK (show l1≤u1 by omega) (show l2≤u2 by omega)
       have et:t=(!outB (exL (hv (12 - r).toNat a b) 6) (sdL l1 l2 u1 u2) && !outB (sdL l1 l2 u1 u2) (exL (hv (12 - r).toNat a b) 6)):=by
        rw [Bool.eq_iff_iff,ht,Bool.and_eq_true_iff,Bool.not_eq_true',Bool.not_eq_true',key]
        exact ⟨fun h=>h.2.2.2.2,fun h=>⟨hok,f1,f2,⟨by omega,by omega⟩,h⟩⟩
       rw [et]
       exact q_touch_main r a b l1 l2 u1 u2 _ _ (ex_box hok) (sd_boxQ bx1.1 bx1.2 bx2.1 bx2.2) (by rw [exL_len];omega) (by simp [sdL]) w hT OK (fun w=>by have:=NR w;rwa [hn] at this)
        (fun w=>q_turned l1 l2 u1 u2 false (.inr (.inr ⟨by simp only [decide_eq_false_iff_not];omega,by simp only [decide_eq_false_iff_not];omega,rfl⟩)) w)
        (fun w hC=>q_hexOf r a b _ hK hr ⟨by omega,by omega⟩ ⟨by omega,by omega⟩ (fun j hj=>hv_box hok hj) w hC.2) (fun w=>q_sides l1 l2 u1 u2 bx1.1 bx1.2 bx2.1 bx2.2 w)
   · have hn':=Bool.eq_false_iff.2 hn
     rw [no fun h=>hn (Bool.and_eq_true_iff.2 ⟨(far_in l1 l2).1.2 h.2.1,(far_in u1 u2).1.2 h.2.2.1⟩)]
     by_cases h1:u1 < l1∨u2 < l2
     · exact q_touch_out r a b l1 l2 u1 u2 true _ _ true (.inr (.inl ⟨rfl,hn'⟩)) w hT OK NR (tu h1)
     · exact q_touch_out r a b l1 l2 u1 u2 true _ _ false (.inr (.inl ⟨rfl,hn'⟩)) w hT OK NR (fun w=>q_turned l1 l2 u1 u2 false (.inr (.inr ⟨by simp only [decide_eq_false_iff_not];omega,by simp only [decide_eq_false_iff_not];omega,rfl⟩)) w)
 · have OK:=fun w (hT:Cov3 w)=>cok_no r a b hok w hT.1
   rw [no fun h=>hok h.1]
   by_cases h1:u1 < l1∨u2 < l2
   · exact q_touch_out r a b l1 l2 u1 u2 false _ _ true (.inl rfl) w hT OK NR (tu h1)
   · exact q_touch_out r a b l1 l2 u1 u2 false _ _ false (.inl rfl) w hT OK NR (fun w=>q_turned l1 l2 u1 u2 false (.inr (.inr ⟨by simp only [decide_eq_false_iff_not];omega,by simp only [decide_eq_false_iff_not];omega,rfl⟩)) w)
def NwS (S:Nat) (d K:Nat) (l1 l2 u1 u2 r:Int) (vo:Value) (W:World):Prop :=
 SweepM S l1 l2 u1 u2 r (d:Int) vo W∧(W.cell? ⟨S,7,none⟩=some (.slice none 0 0)∧W.frozen? ⟨S,7,none⟩=false)∧W.ownsRow (S+1) 3 1 vo (onw K d).length (natV (onw K d))
theorem NwS.keep {S d K:Nat} {l1 l2 u1 u2 r:Int} {vo:Value} {W W':World} (h:NwS S d K l1 l2 u1 u2 r vo W) (hb:Below W.heap.size W W'):NwS S d K l1 l2 u1 u2 r vo W' :=
 ⟨h.1.keep hb,⟨keepCell hb h.2.1.1,keepFrozen hb h.2.1.1 h.2.1.2⟩,own_keep hb h.2.2⟩
theorem NwS.lt {S d K:Nat} {l1 l2 u1 u2 r:Int} {vo:Value} {W:World} (h:NwS S d K l1 l2 u1 u2 r vo W):S < W.heap.size:=World.block_lt_of_cell? _ _ h.2.1.1
theorem LowT.le {B B':Nat} (h:LowT B) (hb:B≤B'):LowT B':=⟨⟨by have:=h.1.1;omega,by have:=h.1.2;omega⟩,by have:=h.2;omega⟩
def TellsN (K:Nat) (l1 l2 u1 u2:Int) (b:Nat) (e:Ending) (w':World):Prop :=
 (∃ (v:Value) (F:List (Int × Int)),e=.returned (.tuple #[v,.int .i64 0])∧RowE b v F w'∧F.Nodup∧(∀ x y,Tou K l1 l2 u1 u2 x y↔(x,y)∈F)∧F.length≤20000) ∨
 ((∃ p c,e=.returned (.tuple #[.slice p 0 c,.int .i64 7]))∧∃ F:List (Int × Int),F.Nodup∧(∀ p∈F,Tou K l1 l2 u1 u2 p.1 p.2)∧20000 < F.length)
theorem two_sweeps {K:Nat} (hK:K≤12) {r l1 l2 u1 u2 p q:Int} (hr:12 - r=(K:Int)) (h1:0≤l1) (h2:0≤l2) (h3:u1 < 1073741824) (h4:u2 < 1073741824) (h5:l1≤u1)
 (hn:Nearest (dvK K) (nuA K l1 l2) (nuB K l1 l2) p q) {F1 F2:List (Int × Int)} (k1:F1.Nodup) (k2:∀ z∈F1,Tou K l1 l2 l1 u2 z.1 z.2) (k3:F1.length≤20001) (k4:F1.length≤20000→Swp K 1 l1 l2 l1 u2 (arL p q 6) F1 [])
 (hl:F2.length≤20000) (hF:Swp K 0 l1 l2 u1 u2 F1 F2 []) (x y:Int):Tou K l1 l2 u1 u2 x y↔(x,y)∈F2:=by
 have sub:∀ z∈F1,z∈F2:=fun z hz=>(hF.from_ z hz (tou_mono (k2 z hz) (Int.le_refl _) (Int.le_refl _) h5 (Int.le_refl _))).elim id fun k=>absurd k (by simp)
 have len:=nodup_len k1 sub
 have s1:=swp_done hK (by omega) hr h1 h2 (by omega) h4 (k4 (by omega)) (fun a b hs _=>arL_around hK hn hs)
 exact swp_done hK (by omega) hr h1 h2 h3 h4 hF (fun a b hs _=>(s1 a b).1 hs) x y
set_option maxHeartbeats 8000000 in
set_option maxRecDepth 100000 in
theorem q_touching_bad (l1 l2 u1 u2 r t:Int) (h:MayT l1 l2 u1 u2 r t) (ht:t≠0) (w:World) :
 Calls Tryz.prog 36 #[.agg #[.int .i64 l1,.int .i64 l2,.int .i64 u1,.int .i64 u2],.int .i64 r] w fun e w'=>e=.returned (.tuple #[.slice none 0 0,.int .i64 t])∧Below w.heap.size w w':=by
 have FA:=hidd fun w=>q_fault l1 l2 u1 u2 r t h w
 have ht':(t == 0)=false:=by simpa using ht
 have ht2:decide (t=0)=false:=by simpa using ht
 have S0:=hidd (box4_made w 80 l1 l2 u1 u2)
 have B0:=hidd (allocB w (.cells #[.int .i64 l1,.int .i64 l2,.int .i64 u1,.int .i64 u2] 80))
 obtain ⟨y0,y1,y2,y3⟩:=S0.out
 clear h
 go_enter Tryz.func36,Tryz.ntmps36
 go_wp2_with fail
 generalize w.alloc (.cells #[.int .i64 l1,.int .i64 l2,.int .i64 u1,.int .i64 u2] 80)=w0 at *
 refine (FA.out _).mono ?_
 rintro e w1 ⟨rfl,b1⟩
 have B1:=hidd (belowT B0.out b1)
 clear y0 y1 y2 y3 S0 B0 b1 FA
 go_wp2
 go_ret2
 exact ⟨rfl,B1.out⟩
set_option maxHeartbeats 8000000 in
set_option maxRecDepth 100000 in
theorem q_touching_core (l1 l2 u1 u2 r:Int) (K:Nat) (A1:List (Int × Int)) (w:World) (hT:Cov3 w)
 (FA:∀ w,Calls Tryz.prog 66 #[.agg #[.int .i64 l1,.int .i64 l2,.int .i64 u1,.int .i64 u2],.int .i64 r] w fun e w'=>e=.returned (.int .i64 0)∧Below w.heap.size w w')
 (NS1:∀ w,Uni w→Calls Tryz.prog 67 #[.agg #[.int .i64 l1,.int .i64 l2,.int .i64 l1,.int .i64 u2],.int .i64 r,.int .i64 1] w fun e w'=>∃ (S:Nat) (vo:Value),e=.returned (.pointer (some ⟨S,0,none⟩))∧w.heap.size≤S∧NwS S 1 K l1 l2 l1 u2 r vo w'∧Below w.heap.size w w')
 (NS0:∀ w,Uni w→Calls Tryz.prog 67 #[.agg #[.int .i64 l1,.int .i64 l2,.int .i64 u1,.int .i64 u2],.int .i64 r,.int .i64 0] w fun e w'=>∃ (S:Nat) (vo:Value),e=.returned (.pointer (some ⟨S,0,none⟩))∧w.heap.size≤S∧NwS S 0 K l1 l2 u1 u2 r vo w'∧Below w.heap.size w w')
 (AR:∀ w,Uni w→Calls Tryz.prog 69 #[.agg #[.int .i64 l1,.int .i64 l2],.int .i64 r] w fun e w'=>(∃ v,e=.returned v∧RowE w.heap.size v A1 w')∧Below w.heap.size w w')
 (FR1:∀ (S:Nat) (vo sv:Value) (b0:Nat) (w:World),NwS S 1 K l1 l2 l1 u2 r vo w→RowE b0 sv A1 w→sv.ownBlock≠some S→Cov3 w→LowT S →
   Calls Tryz.prog 68 #[.pointer (some ⟨S,0,none⟩),sv] w fun e w'=>TellsF K 1 l1 l2 l1 u2 A1 w.heap.size e w'∧ButQ S 7 none w w')
 (FR0:∀ (F1:List (Int × Int)) (S:Nat) (vo sv:Value) (b0:Nat) (w:World),F1.length≤20001→(∀ p∈F1,Tou K l1 l2 l1 u2 p.1 p.2)→NwS S 0 K l1 l2 u1 u2 r vo w→RowE b0 sv F1 w→sv.ownBlock≠some S→Cov3 w→LowT S →
   Calls Tryz.prog 68 #[.pointer (some ⟨S,0,none⟩),sv] w fun e w'=>TellsF K 0 l1 l2 u1 u2 F1 w.heap.size e w'∧ButQ S 7 none w w')
 (TW2:∀ F1 F2:List (Int × Int),F1.Nodup→(∀ z∈F1,Tou K l1 l2 l1 u2 z.1 z.2)→F1.length≤20001→(F1.length≤20000→Swp K 1 l1 l2 l1 u2 A1 F1 [])→F2.length≤20000→Swp K 0 l1 l2 u1 u2 F1 F2 []→∀ x y,Tou K l1 l2 u1 u2 x y↔(x,y)∈F2) :
 Calls Tryz.prog 36 #[.agg #[.int .i64 l1,.int .i64 l2,.int .i64 u1,.int .i64 u2],.int .i64 r] w fun e w'=>TellsN K l1 l2 u1 u2 w.heap.size e w'∧Below w.heap.size w w':=by
 replace FA:Hid _:=FA
 replace NS1:Hid _:=NS1
 replace NS0:Hid _:=NS0
 replace AR:Hid _:=AR
 replace FR1:Hid _:=FR1
 replace FR0:Hid _:=FR0
 replace TW2:Hid _:=TW2
 have S0:=hidd (box4_made w 80 l1 l2 u1 u2)
 have B0:=hidd (allocB w (.cells #[.int .i64 l1,.int .i64 l2,.int .i64 u1,.int .i64 u2] 80))
 have HT:=hidd hT
 obtain ⟨y0,y1,y2,y3⟩:=S0.out
 clear hT
 go_enter Tryz.func36,Tryz.ntmps36
 go_wp2_with fail
 generalize w.alloc (.cells #[.int .i64 l1,.int .i64 l2,.int .i64 u1,.int .i64 u2] 80)=w0 at *
 refine (FA.out _).mono ?_
 rintro e w1 ⟨rfl,b1⟩
 have B1:=hidd (belowT B0.out b1)
 have S1:=hidd (S0.out.keep b1)
 clear y0 y1 y2 y3 S0 B0 b1 FA
 obtain ⟨y0,y1,y2,y3⟩:=S1.out
 go_wp2_with fail
 have S2:=hidd (S1.out.keep (allocB w1 (.cells #[.int .i64 l1,.int .i64 l2,.int .i64 l1,.int .i64 u2] 80)))
 have L2:=hidd (box4_made w1 80 l1 l2 l1 u2)
 have B2:=hidd (belowT B1.out (allocB w1 (.cells #[.int .i64 l1,.int .i64 l2,.int .i64 l1,.int .i64 u2] 80)))
 generalize w1.alloc (.cells #[.int .i64 l1,.int .i64 l2,.int .i64 l1,.int .i64 u2] 80)=W1 at *
 clear y0 y1 y2 y3 S1 B1
 obtain ⟨y0,y1,y2,y3⟩:=S2.out
 obtain ⟨z0,z1,z2,z3⟩:=L2.out
 go_cut [8] from 26 to 34 (fun v8 wx=>∃ (F1:List (Int × Int)),Hid (F1.Nodup∧(∀ z∈F1,Tou K l1 l2 l1 u2 z.1 z.2)∧F1.length≤20001∧(F1.length≤20000→Swp K 1 l1 l2 l1 u2 A1 F1 []))∧Hid (RowE W1.heap.size v8 F1 wx)∧Hid (Below W1.heap.size W1 wx))
 case first =>
  go_region_with (first
   | (go_at_call 67
      refine (NS1.out _ (HT.out.below (belowT B2.out (by first | exact BA.out | exact drewB _))).1.2).mono ?_
      rintro e w4 ⟨S,vo,rfl,hS,hM,b4⟩
      have BS:=hidd (show Below W1.heap.size W1 w4 from belowT (by first | exact BA.out | exact drewB _) b4)
      have NW:=hidd hM
      have GS:=hidd (show W1.heap.size≤S from Nat.le_trans (Below.size (show Below W1.heap.size W1 _ from by first | exact BA.out | exact drewB _)) hS)
      try have RE:=hidd (RA.out.keep b4)
      try have NE:=hidd (show v.ownBlock≠some S from fun e=>by have:=(World.ownsRow.lt RA.out _ e).2;omega)
      have X1:=hidd (S2.out.keep BS.out)
      have X2:=hidd (L2.out.keep BS.out)
      clear y0 y1 y2 y3 z0 z1 z2 z3
      obtain ⟨y0,y1,y2,y3⟩:=X1.out
      obtain ⟨z0,z1,z2,z3⟩:=X2.out
      clear hS hM b4)
   | (go_at_call 69
      refine (AR.out _ (HT.out.below (belowT B2.out (by first | exact BS.out | exact drewB _))).1.2).mono ?_
      rintro e w5 ⟨⟨v,rfl,hv⟩,b5⟩
      have BA:=hidd (show Below W1.heap.size W1 w5 from belowT (by first | exact BS.out | exact drewB _) b5)
      have RA:=hidd hv
      try have NW2:=hidd (NW.out.keep b5)
      try have NE:=hidd (show v.ownBlock≠some S from fun e=>by have:=(World.ownsRow.lt RA.out _ e).1;have:=NW.out.lt;omega)
      have X3:=hidd (S2.out.keep BA.out)
      have X4:=hidd (L2.out.keep BA.out)
      clear y0 y1 y2 y3 z0 z1 z2 z3
      obtain ⟨y0,y1,y2,y3⟩:=X3.out
      obtain ⟨z0,z1,z2,z3⟩:=X4.out
      clear hv b5)
   | (go_at_call 68
      refine (by first | exact FR1.out _ _ _ _ _ NW2.out RA.out NE.out (HT.out.below (belowT B2.out BA.out)) ((HT.out.below B2.out).lt.le GS.out) | exact FR1.out _ _ _ _ _ NW.out RE.out NE.out (HT.out.below (belowT B2.out BS.out)) ((HT.out.below B2.out).lt.le GS.out):Calls _ _ _ _ fun e w'=>TellsF K 1 l1 l2 l1 u2 A1 _ e w'∧ButQ S 7 none _ w').mono ?_
      rintro e w6 ⟨⟨v2,F1,rfl,f1,f2,f3,f4,f5⟩,g6⟩
      have RF:=hidd (show RowE W1.heap.size v2 F1 w6 from own_mono f1 (by first | exact BA.out.size | exact BS.out.size))
      have FF:=hidd (And.intro f2 (And.intro f3 (And.intro f4 f5)))
      have BF:=hidd (show Below W1.heap.size W1 w6 from by first | exact BA.out.trans (g6.below GS.out (fun _ e=>by cases e) BA.out.size) | exact BS.out.trans (g6.below GS.out (fun _ e=>by cases e) BS.out.size))
      clear f1 f2 f3 f4 f5 g6))
  all_goals
   clear y0 y1 y2 y3 z0 z1 z2 z3
   go_wp2_with fail
   go_meet
   exact ⟨F1,FF,RF,BF⟩
 case rest =>
  obtain ⟨F1,FF,RF,BF⟩:=hcut
  have S4:=hidd (S2.out.keep BF.out)
  have BW:=hidd (belowT B2.out BF.out)
  clear y0 y1 y2 y3 z0 z1 z2 z3 S2 L2 NS1 AR FR1
  obtain ⟨y0,y1,y2,y3⟩:=S4.out
  go_wp2_with fail
  refine (NS0.out _ (HT.out.below BW.out).1.2).mono ?_
  rintro e w4 ⟨S,vo,rfl,hS,hM,b4⟩
  have NW:=hidd hM
  have RE:=hidd (RF.out.keep b4)
  have NE:=hidd (show Value.ownBlock _≠some S from fun e=>by have:=(World.ownsRow.lt RF.out _ e).2;omega)
  have B4:=hidd (belowT BW.out b4)
  have GS:=hidd (Nat.le_trans BW.out.size hS)
  clear y0 y1 y2 y3 S4 b4 hS hM RF
  go_wp2_with fail
  refine (FR0.out F1 S vo _ _ _ FF.out.2.2.1 FF.out.2.1 NW.out RE.out NE.out (HT.out.below B4.out) (HT.out.lt.le GS.out)).mono ?_
  rintro e w6 ⟨⟨v2,F2,rfl,f1,f2,f3,f4,f5⟩,g6⟩
  obtain ⟨p2,c2,rfl⟩:=f1.any
  have RF2:=hidd (show RowE w.heap.size _ F2 w6 from own_mono f1 B4.out.size)
  have B6:=hidd (show Below w.heap.size w w6 from B4.out.trans (g6.below GS.out (fun _ e=>by cases e) B4.out.size))
  have FF2:=hidd (And.intro f2 (And.intro f3 (And.intro f4 f5)))
  obtain ⟨n,en⟩:∃ n,F2.length=n:=⟨_,rfl⟩
  have EN:=hidd en
  clear f1 f2 f3 f4 f5 g6 RE NE NW B4 GS BW BF
  rw [en] at RF2 ⊢
  clear en
  by_cases hl:n≤20000
  · have hl':decide (20000 < (n:Int))=false:=by simp only [decide_eq_false_iff_not];omega
    go_wp2
    go_ret2
    exact ⟨.inl ⟨_,F2,rfl,by have:=RF2.out;rwa [← EN.out] at this,FF2.out.1,TW2.out F1 F2 FF.out.1 FF.out.2.1 FF.out.2.2.1 FF.out.2.2.2 (by rw [EN.out];exact hl) (FF2.out.2.2.2 (by rw [EN.out];exact hl)),by rw [EN.out];exact hl⟩,B6.out⟩
  · have hl':(20000:Int) < (n:Int):=by omega
    go_wp2
    go_ret2
    exact ⟨.inr ⟨⟨_,_,rfl⟩,F2,FF2.out.1,FF2.out.2.1,by rw [EN.out];omega⟩,B6.out⟩
theorem q_touching (l1 l2 u1 u2 r:Int) (K:Nat) (hK:K≤12) (hr:12 - r=(K:Int)) (h1:0≤l1) (h2:0≤l2) (h3:u1 < 1073741824) (h4:u2 < 1073741824) (h5:l1≤u1) (h6:l2≤u2) (w:World) (hT:Cov3 w) :
 Calls Tryz.prog 36 #[.agg #[.int .i64 l1,.int .i64 l2,.int .i64 u1,.int .i64 u2],.int .i64 r] w fun e w'=>TellsN K l1 l2 u1 u2 w.heap.size e w'∧Below w.heap.size w w':=by
 have hw1:InW l1 l2:=⟨h1,by omega,h2,by omega⟩
 have hw2:InW u1 u2:=⟨by omega,h3,by omega,h4⟩
 obtain ⟨p,q,hn⟩:=nearest_some (d:=dvK K) (dvK_box hK).1 (nuA K l1 l2) (nuB K l1 l2)
 have hp:=near_tame hK hw1 hn
 have nr:∀ z∈arL p q 6,Near9 z.1 z.2:=by
  intro z hz
  unfold arL at hz
  rcases List.mem_cons.1 hz with rfl | hz
  · unfold Near9;simp only;omega
  · obtain ⟨i,-,rfl⟩:=List.mem_map.1 hz
    have:=u_box i
    unfold Near9;simp only;omega
 have TCC:∀ v1,v1≤u1→l1≤v1→∀ a b t,Near9 a b→(t=true↔Tou K l1 l2 v1 u2 a b)→∀ w,Cov3 w→Calls Tryz.prog 19 #[.agg #[.int .i64 r,.int .i64 a,.int .i64 b],.agg #[.int .i64 l1,.int .i64 l2],.agg #[.int .i64 v1,.int .i64 u2]] w fun e w'=>e=.returned (.bool t)∧Below w.heap.size w w':=by
  intro v1 hv hv' a b t hab ht w hC
  have eK:(12 - r).toNat=K:=by omega
  refine p_touch r a b l1 l2 v1 u2 t ?_ ?_ w hC
  · rw [ht]
    unfold TouP FarT
    rw [eK]
    exact ⟨fun h=>⟨tou_ok hK hr h1 h2 (by omega) h4 h,by omega,by omega,⟨by omega,by omega⟩,h⟩,fun h=>h.2.2.2.2⟩
  · unfold Near9 at hab
    intro z hz
    simp only [List.mem_cons,List.not_mem_nil,or_false] at hz
    rcases hz with rfl | rfl | rfl | rfl | rfl | rfl | rfl <;>omega
 have ti1:Tight K l1 l2 l1 u2:=tight_world hK hr h1 h2 (by omega) h4
 have ti0:Tight K l1 l2 u1 u2:=tight_world hK hr h1 h2 h3 h4
 exact q_touching_core l1 l2 u1 u2 r K (arL p q 6) w hT
  (fun w=>q_fault l1 l2 u1 u2 r 0 (.inr (.inr (.inr ⟨by omega,⟨hw1,hw2⟩,⟨h5,h6⟩,rfl⟩))) w)
  (fun w hU=>(q_newSweep l1 l2 l1 u2 r 1 (by omega) K hK hr w hU).mono fun e w' ⟨S,vo,a1,a2,a3,a4,a5,a6⟩=>⟨S,vo,a1,a2,⟨a3,a4,a5⟩,a6⟩)
  (fun w hU=>(q_newSweep l1 l2 u1 u2 r 0 (by omega) K hK hr w hU).mono fun e w' ⟨S,vo,a1,a2,a3,a4,a5,a6⟩=>⟨S,vo,a1,a2,⟨a3,a4,a5⟩,a6⟩)
  (fun w hU=>q_around l1 l2 r p q K hK hr hw1 hn w hU)
  (fun S vo sv b0 w hN hR hsv hC hL=>q_from S 1 (by omega) r K hK hr l1 l2 l1 u2 ti1 vo sv (arL p q 6) (by rw [arL_len];omega) nr (hidd (TCC l1 h5 (Int.le_refl _))) w hN.1 hN.2.1.1 hN.2.1.2 hN.2.2 b0 hR hsv hC hL)
  (fun F1 S vo sv b0 w hl hF hN hR hsv hC hL=>q_from S 0 (by omega) r K hK hr l1 l2 u1 u2 ti0 vo sv F1 hl (fun z hz=>ti1.near (hF z hz)) (hidd (TCC u1 (Int.le_refl _) h5)) w hN.1 hN.2.1.1 hN.2.1.2 hN.2.2 b0 hR hsv hC hL)
  (fun F1 F2 k1 k2 k3 k4 hl hF=>two_sweeps hK hr h1 h2 h3 h4 h5 hn k1 k2 k3 k4 hl hF)
end Go.Proofs.YtdklpgphmoaniaaGreatDoor
