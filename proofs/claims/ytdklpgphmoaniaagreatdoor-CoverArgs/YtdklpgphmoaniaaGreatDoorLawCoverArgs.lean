/-
  The law CoverArgs holds: whatever numbers come in; in whatever memory where the three tables hold what their texts lay. Over the contracts of package cover.
-/
import Derived.Test.YtdklpgphmoaniaaGreatDoorJn37
namespace Go.Proofs.YtdklpgphmoaniaaGreatDoor
open Go.RowKit
theorem touch_never {r a b l1 l2 u1 u2:Int} (h:Ok4 r a b) (hn:FarT u1 u2∨u1 < l1) (hB:∀ z∈[l1,l2,u1,u2],-9223372036854775808≤z∧z≤9223372036854775807) (w:World) (hT:Cov3 w) :
 Calls Tryz.prog 19 #[.agg #[.int .i64 r,.int .i64 a,.int .i64 b],.agg #[.int .i64 l1,.int .i64 l2],.agg #[.int .i64 u1,.int .i64 u2]] w fun e w'=>e=.returned (.bool false)∧Below w.heap.size w w':=by
 have hb:=ok4_part h
 have h0:=h.1
 have h1:=h.2.1
 refine p_touch r a b l1 l2 u1 u2 false ⟨fun k=>(by cases k),fun k=>?_⟩ (fun z hz=>?_) w hT
 · rcases hn with hn | hn
   · exact absurd hn k.2.2.1
   · have:=k.2.2.2.1
     omega
 · rcases List.mem_cons.1 hz with e | hz
   · omega
   · rcases List.mem_cons.1 hz with e | hz
     · omega
     · rcases List.mem_cons.1 hz with e | hz
       · omega
       · exact hB z hz
set_option maxHeartbeats 16000000 in
set_option maxRecDepth 20000 in
theorem coverArgs_walk (a0 b0 r0 f0:Int) (W:World) (hT:Cov3 W) :
 Calls Tryz.prog 4 #[.int .i64 a0,.int .i64 b0,.int .i64 r0,.int .i64 f0] W fun e w'=>e=.returned (.bool true)∧Below W.heap.size W w':=by
 obtain ⟨t,s',K,e1,e2,t1,t2,hK,hs⟩:=size13 r0
 obtain ⟨r,rfl⟩:∃ r:Nat,s'=(r:Int):=⟨s'.toNat,by have h:=e2;rw [Int.tmod_eq_emod_of_nonneg (by omega)] at h;omega⟩
 have m1:=mask30 a0
 have m2:=mask30 b0
 have m3:=mask16 f0
 obtain ⟨a,ea⟩:∃ a,a0%1073741824=a:=⟨_,rfl⟩
 obtain ⟨b,eb⟩:∃ b,b0%1073741824=b:=⟨_,rfl⟩
 obtain ⟨f,ef⟩:∃ f,f0%65536=f:=⟨_,rfl⟩
 have ha:0≤a∧a < 1073741824:=by omega
 have hb:0≤b∧b < 1073741824:=by omega
 have hf:0≤f∧f < 65536:=by omega
 rw [ea] at m1
 rw [eb] at m2
 rw [ef] at m3
 clear ea eb ef
 have hr12:(r:Int)≤12:=by omega
 obtain ⟨te,hz⟩:∃ te:Int,((a == 0)=true∧te=4)∨((a == 0)=false∧te=1):=by
  by_cases c:a=0
  · exact ⟨4,.inl ⟨by rw [c];rfl,rfl⟩⟩
  · exact ⟨1,.inr ⟨by simpa using c,rfl⟩⟩
 have hte:te≠0∧MayT a b (a - 1) b (r:Int) te:=by
  rcases hz with ⟨c,rfl⟩ | ⟨c,rfl⟩
  · have c':a=0:=by simpa using c
    exact ⟨by omega,.inr (.inl ⟨by omega,fun k=>by have:=k.2.1;omega,rfl⟩)⟩
  · have c':a≠0:=by simpa using c
    exact ⟨by omega,.inr (.inr (.inl ⟨by omega,⟨⟨by omega,by omega,by omega,by omega⟩,by omega,by omega,by omega,by omega⟩,.inl (by omega),rfl⟩))⟩
 have BE:=hidd fun w=>p_box_bad a b (a - 1) b (r:Int) te hte.2 hte.1 w
 have BW:=hidd fun w=>p_box_bad a b a 1073741824 (r:Int) 4 (.inr (.inl ⟨by omega,fun k=>by have:=k.2.2.2.2;omega,rfl⟩)) (by omega) w
 have CE:=hidd fun w=>p_centres_bad a (-1) a b 13 1 (.inl ⟨by omega,rfl⟩) (by omega) w
 have CC:Hid (∀ w,Cov3 w→Calls Tryz.prog 15 #[.agg #[.int .i64 a,.int .i64 b],.agg #[.int .i64 a,.int .i64 b],.int .i64 (r:Int)] w fun e w'=>(∃ s,e=.returned (.tuple #[s,.int .i64 0]))∧Below w.heap.size w w'):=hidd fun w hT=>by
  refine (p_centres a b a b r K hK hs (by omega) (by omega) (by omega) (by omega) (Int.le_refl _) (Int.le_refl _) w hT).mono ?_
  rintro e w' ⟨h,hb⟩
  obtain ⟨s,L,rfl,-⟩:=h.row (few_point hK a b)
  exact ⟨⟨s,rfl⟩,hb⟩
 obtain ⟨s,s0,s12,SO⟩:=csome_any a (bits .andNot .i64 b 1) (r:Int)
 have SO:=hidd SO
 have TF:=hidd fun P Q (h:Ok4 s P Q) w hT=>touch_never h (l1:=a) (l2:=b) (u1:=f+2147483648+1) (u2:=b) (.inl (by unfold FarT;omega)) (fun z hz=>by simp at hz;omega) w hT
 have TG:=hidd fun P Q (h:Ok4 s P Q) w hT=>touch_never h (l1:=a+1) (l2:=b) (u1:=a) (u2:=b) (.inr (by omega)) (fun z hz=>by simp at hz;omega) w hT
 have HT:=hidd hT
 have AW:=hidd fun w hT=>cawake10 w hT
 clear hte hT
 go_enter Tryz.func4,Tryz.ntmps4
 go_wp2_with fail
 refine (BE.out _).mono ?_
 rintro e w1 ⟨⟨p1,c1,rfl⟩,b1⟩
 have B1:=hidd b1
 have H1:=hidd (HT.out.below b1)
 clear b1 HT BE
 go_wp2_with fail
 refine (BW.out _).mono ?_
 rintro e w2 ⟨⟨p2,c2,rfl⟩,b2⟩
 have B2:=hidd (belowT B1.out b2)
 have H2:=hidd (H1.out.below b2)
 clear b2 B1 H1 BW
 go_wp2_with fail
 refine (CE.out _).mono ?_
 rintro e w3 ⟨⟨p3,c3,rfl⟩,b3⟩
 have B3:=hidd (belowT B2.out b3)
 have H3:=hidd (H2.out.below b3)
 clear b3 B2 H2 CE
 go_wp2_with fail
 refine (CC.out _ H3.out).mono ?_
 rintro e w4 ⟨⟨s4,rfl⟩,b4⟩
 have B4:=hidd (belowT B3.out b4)
 have H4:=hidd (H3.out.below b4)
 clear b4 B3 H3 CC
 rcases hz with ⟨hz,rfl⟩ | ⟨hz,rfl⟩
 all_goals
  go_wp2_with fail
  refine (SO.out _).mono ?_
  rintro e w5 ⟨⟨P,Q,rfl,hPQ⟩,b5⟩
  have al:=allocB w5 (.cells #[.int .i64 s,.int .i64 P,.int .i64 Q] 25)
  have z0:(w5.alloc (.cells #[.int .i64 s,.int .i64 P,.int .i64 Q] 25)).cell? ⟨w5.heap.size,0,none⟩=some (.int .i64 s):=by go_simp
  have z1:(w5.alloc (.cells #[.int .i64 s,.int .i64 P,.int .i64 Q] 25)).cell? ⟨w5.heap.size,1,none⟩=some (.int .i64 P):=by go_simp
  have z2:(w5.alloc (.cells #[.int .i64 s,.int .i64 P,.int .i64 Q] 25)).cell? ⟨w5.heap.size,2,none⟩=some (.int .i64 Q):=by go_simp
  have B6:=hidd (belowT (belowT B4.out b5) al)
  have H6:=hidd ((H4.out.below b5).below al)
  have TF:=hidd (TF.out P Q hPQ)
  have TG:=hidd (TG.out P Q hPQ)
  clear al b5 B4 H4 SO hPQ
  go_wp2_with fail
  generalize w5.alloc (.cells #[.int .i64 s,.int .i64 P,.int .i64 Q] 25)=w6 at *
  refine (TF.out _ H6.out).mono ?_
  rintro e w7 ⟨rfl,b7⟩
  replace z0:=keepCell b7 z0
  replace z1:=keepCell b7 z1
  replace z2:=keepCell b7 z2
  have B7:=hidd (belowT B6.out b7)
  have H7:=hidd (H6.out.below b7)
  clear b7 B6 H6 TF
  go_wp2_with fail
  refine (TG.out _ H7.out).mono ?_
  rintro e w8 ⟨rfl,b8⟩
  have B8:=hidd (belowT B7.out b8)
  have H8:=hidd (H7.out.below b8)
  clear b8 B7 H7 TG z0 z1 z2
  go_wp2_with fail
  refine (AW.out _ H8.out).mono ?_
  rintro e w9 ⟨rfl,b9⟩
  go_wp2_with fail
  go_ret
  exact ⟨rfl,belowT B8.out b9⟩
end Go.Proofs.YtdklpgphmoaniaaGreatDoor
