/-
  The law CoverTouches.
-/
import Derived.Test.YtdklpgphmoaniaaGreatDoorVLawBox
import Derived.Test.YtdklpgphmoaniaaGreatDoorJn37
namespace Go.Proofs.YtdklpgphmoaniaaGreatDoor
open Go.RowKit
theorem both_touch (r a b l1 l2 u1 u2:Int) (hB:∀ z∈[r,a,b,l1,l2,u1,u2],-9223372036854775808≤z∧z≤9223372036854775807):∃ t:Bool,
 Hid (∀ w,Cov3 w→Calls Tryz.prog 19 #[.agg #[.int .i64 r,.int .i64 a,.int .i64 b],.agg #[.int .i64 l1,.int .i64 l2],.agg #[.int .i64 u1,.int .i64 u2]] w fun e w'=>e=.returned (.bool t)∧Below w.heap.size w w') ∧
 Hid (∀ w,Calls Tryz.prog 23 #[.agg #[.int .i64 r,.int .i64 a,.int .i64 b],.agg #[.int .i64 l1,.int .i64 l2],.agg #[.int .i64 u1,.int .i64 u2]] w fun e w'=>e=.returned (.bool t)∧Below w.heap.size w w'):=by
 by_cases h:TouP r a b l1 l2 u1 u2
 · exact ⟨true,hidd fun w hT=>p_touch _ _ _ _ _ _ _ true ⟨fun _=>h,fun _=>rfl⟩ hB w hT,hidd fun w=>r_touch _ _ _ _ _ _ _ true ⟨fun _=>h,fun _=>rfl⟩ w⟩
 · exact ⟨false,hidd fun w hT=>p_touch _ _ _ _ _ _ _ false ⟨fun k=>(by cases k),fun k=>absurd k h⟩ hB w hT,hidd fun w=>r_touch _ _ _ _ _ _ _ false ⟨fun k=>(by cases k),fun k=>absurd k h⟩ w⟩
def szT:Nat→Int
 | 0=>100
 | k+1=>szT k*8 / 3
theorem szT_box:∀ i:Fin 13,(decide (100≤szT i.val) && decide (szT i.val≤14000000))=true:=by decide
theorem szT_in {K:Nat} (hK:K≤12):100≤szT K∧szT K≤14000000:=by
 have:=szT_box ⟨K,by omega⟩
 simpa [Bool.and_eq_true,decide_eq_true_eq] using this
theorem keepSevB {w0 a b:World} {p0 p1 p2 p3 p4 p5 p6:Addr} {v0 v1 v2 v3 v4 v5 v6:Value} (hb:Below a.heap.size a b) (h:a.cell? p0=some v0∧a.cell? p1=some v1∧a.cell? p2=some v2∧a.cell? p3=some v3∧a.cell? p4=some v4∧a.cell? p5=some v5∧a.cell? p6=some v6∧Below w0.heap.size w0 a) :
 b.cell? p0=some v0∧b.cell? p1=some v1∧b.cell? p2=some v2∧b.cell? p3=some v3∧b.cell? p4=some v4∧b.cell? p5=some v5∧b.cell? p6=some v6∧Below w0.heap.size w0 b :=
 ⟨keepCell hb h.1,keepCell hb h.2.1,keepCell hb h.2.2.1,keepCell hb h.2.2.2.1,keepCell hb h.2.2.2.2.1,keepCell hb h.2.2.2.2.2.1,keepCell hb h.2.2.2.2.2.2.1,belowT h.2.2.2.2.2.2.2 hb⟩
theorem lastSev {w0 a:World} {p0 p1 p2 p3 p4 p5 p6:Addr} {v0 v1 v2 v3 v4 v5 v6:Value} (h:a.cell? p0=some v0∧a.cell? p1=some v1∧a.cell? p2=some v2∧a.cell? p3=some v3∧a.cell? p4=some v4∧a.cell? p5=some v5∧a.cell? p6=some v6∧Below w0.heap.size w0 a):Below w0.heap.size w0 a:=h.2.2.2.2.2.2.2
set_option maxHeartbeats 16000000 in
set_option maxRecDepth 20000 in
theorem coverTouches_walk (c1 c2 c3 a1 a2 g1 g2 x0 y0 r0 y1 y2 y3 y4:Int) (W:World) (hT:Cov3 W) (hB1:∀ z∈[c1,c2,c3,a1,a2,g1,g2],-9223372036854775808≤z∧z≤9223372036854775807) (_hB2:∀ z∈[y1,y2,y3,y4],-9223372036854775808≤z∧z≤9223372036854775807) :
 Calls Tryz.prog 6 #[.agg #[.int .i64 c1,.int .i64 c2,.int .i64 c3],.agg #[.int .i64 a1,.int .i64 a2],.agg #[.int .i64 g1,.int .i64 g2],.int .i64 x0,.int .i64 y0,.int .i64 r0,.agg #[.int .i64 y1,.int .i64 y2,.int .i64 y3,.int .i64 y4]] W fun e w'=>e=.returned (.bool true)∧Below W.heap.size W w':=by
 obtain ⟨sz,s0,s12,SO⟩:=csome_any x0 y0 r0
 obtain ⟨r,rfl⟩:∃ r:Nat,sz=(r:Int):=⟨sz.toNat,by omega⟩
 obtain ⟨K,hs⟩:∃ K:Nat,12 - (r:Int)=(K:Int):=⟨(12 - (r:Int)).toNat,by omega⟩
 have hK:K≤12:=by omega
 have SO:=hidd SO
 have AW:=hidd fun w hT=>cawake10 w hT
 obtain ⟨t,TA,TR⟩:=both_touch c1 c2 c3 a1 a2 g1 g2 hB1
 have al1:=allocB W (.cells #[.int .i64 c1,.int .i64 c2,.int .i64 c3] 25)
 have al2:=allocB (W.alloc (.cells #[.int .i64 c1,.int .i64 c2,.int .i64 c3] 25)) (.cells #[.int .i64 a1,.int .i64 a2] 38)
 have al3:=allocB ((W.alloc (.cells #[.int .i64 c1,.int .i64 c2,.int .i64 c3] 25)).alloc (.cells #[.int .i64 a1,.int .i64 a2] 38)) (.cells #[.int .i64 g1,.int .i64 g2] 38)
 have al4:=allocB (((W.alloc (.cells #[.int .i64 c1,.int .i64 c2,.int .i64 c3] 25)).alloc (.cells #[.int .i64 a1,.int .i64 a2] 38)).alloc (.cells #[.int .i64 g1,.int .i64 g2] 38)) (.cells #[.int .i64 y1,.int .i64 y2,.int .i64 y3,.int .i64 y4] 51)
 have B0:=hidd (belowT (belowT (belowT al1 al2) al3) al4)
 have H0:=hidd ((((hT.below al1).below al2).below al3).below al4)
 have q0:((((W.alloc (.cells #[.int .i64 c1,.int .i64 c2,.int .i64 c3] 25)).alloc (.cells #[.int .i64 a1,.int .i64 a2] 38)).alloc (.cells #[.int .i64 g1,.int .i64 g2] 38)).alloc (.cells #[.int .i64 y1,.int .i64 y2,.int .i64 y3,.int .i64 y4] 51)).cell? ⟨W.heap.size,0,none⟩=some (.int .i64 c1):=by go_simp
 have q1:((((W.alloc (.cells #[.int .i64 c1,.int .i64 c2,.int .i64 c3] 25)).alloc (.cells #[.int .i64 a1,.int .i64 a2] 38)).alloc (.cells #[.int .i64 g1,.int .i64 g2] 38)).alloc (.cells #[.int .i64 y1,.int .i64 y2,.int .i64 y3,.int .i64 y4] 51)).cell? ⟨W.heap.size,1,none⟩=some (.int .i64 c2):=by go_simp
 have q2:((((W.alloc (.cells #[.int .i64 c1,.int .i64 c2,.int .i64 c3] 25)).alloc (.cells #[.int .i64 a1,.int .i64 a2] 38)).alloc (.cells #[.int .i64 g1,.int .i64 g2] 38)).alloc (.cells #[.int .i64 y1,.int .i64 y2,.int .i64 y3,.int .i64 y4] 51)).cell? ⟨W.heap.size,2,none⟩=some (.int .i64 c3):=by go_simp
 have l0:((((W.alloc (.cells #[.int .i64 c1,.int .i64 c2,.int .i64 c3] 25)).alloc (.cells #[.int .i64 a1,.int .i64 a2] 38)).alloc (.cells #[.int .i64 g1,.int .i64 g2] 38)).alloc (.cells #[.int .i64 y1,.int .i64 y2,.int .i64 y3,.int .i64 y4] 51)).cell? ⟨W.heap.size+1,0,none⟩=some (.int .i64 a1):=by go_simp
 have l1:((((W.alloc (.cells #[.int .i64 c1,.int .i64 c2,.int .i64 c3] 25)).alloc (.cells #[.int .i64 a1,.int .i64 a2] 38)).alloc (.cells #[.int .i64 g1,.int .i64 g2] 38)).alloc (.cells #[.int .i64 y1,.int .i64 y2,.int .i64 y3,.int .i64 y4] 51)).cell? ⟨W.heap.size+1,1,none⟩=some (.int .i64 a2):=by go_simp
 have u0:((((W.alloc (.cells #[.int .i64 c1,.int .i64 c2,.int .i64 c3] 25)).alloc (.cells #[.int .i64 a1,.int .i64 a2] 38)).alloc (.cells #[.int .i64 g1,.int .i64 g2] 38)).alloc (.cells #[.int .i64 y1,.int .i64 y2,.int .i64 y3,.int .i64 y4] 51)).cell? ⟨W.heap.size+1+1,0,none⟩=some (.int .i64 g1):=by go_simp
 have u1:((((W.alloc (.cells #[.int .i64 c1,.int .i64 c2,.int .i64 c3] 25)).alloc (.cells #[.int .i64 a1,.int .i64 a2] 38)).alloc (.cells #[.int .i64 g1,.int .i64 g2] 38)).alloc (.cells #[.int .i64 y1,.int .i64 y2,.int .i64 y3,.int .i64 y4] 51)).cell? ⟨W.heap.size+1+1,1,none⟩=some (.int .i64 g2):=by go_simp
 have Y4:Hid (((((W.alloc (.cells #[.int .i64 c1,.int .i64 c2,.int .i64 c3] 25)).alloc (.cells #[.int .i64 a1,.int .i64 a2] 38)).alloc (.cells #[.int .i64 g1,.int .i64 g2] 38)).alloc (.cells #[.int .i64 y1,.int .i64 y2,.int .i64 y3,.int .i64 y4] 51)).cell? ⟨W.heap.size+1+1+1,0,none⟩=some (.int .i64 y1)∧((((W.alloc (.cells #[.int .i64 c1,.int .i64 c2,.int .i64 c3] 25)).alloc (.cells #[.int .i64 a1,.int .i64 a2] 38)).alloc (.cells #[.int .i64 g1,.int .i64 g2] 38)).alloc (.cells #[.int .i64 y1,.int .i64 y2,.int .i64 y3,.int .i64 y4] 51)).cell? ⟨W.heap.size+1+1+1,1,none⟩=some (.int .i64 y2)∧((((W.alloc (.cells #[.int .i64 c1,.int .i64 c2,.int .i64 c3] 25)).alloc (.cells #[.int .i64 a1,.int .i64 a2] 38)).alloc (.cells #[.int .i64 g1,.int .i64 g2] 38)).alloc (.cells #[.int .i64 y1,.int .i64 y2,.int .i64 y3,.int .i64 y4] 51)).cell? ⟨W.heap.size+1+1+1,2,none⟩=some (.int .i64 y3)∧((((W.alloc (.cells #[.int .i64 c1,.int .i64 c2,.int .i64 c3] 25)).alloc (.cells #[.int .i64 a1,.int .i64 a2] 38)).alloc (.cells #[.int .i64 g1,.int .i64 g2] 38)).alloc (.cells #[.int .i64 y1,.int .i64 y2,.int .i64 y3,.int .i64 y4] 51)).cell? ⟨W.heap.size+1+1+1,3,none⟩=some (.int .i64 y4)):=hidd ⟨by go_simp,by go_simp,by go_simp,by go_simp⟩
 clear al1 al2 al3 al4 hT
 go_enter Tryz.func6,Tryz.ntmps6
 go_wp2_with fail
 generalize ((((W.alloc (.cells #[.int .i64 c1,.int .i64 c2,.int .i64 c3] 25)).alloc (.cells #[.int .i64 a1,.int .i64 a2] 38)).alloc (.cells #[.int .i64 g1,.int .i64 g2] 38)).alloc (.cells #[.int .i64 y1,.int .i64 y2,.int .i64 y3,.int .i64 y4] 51))=w1 at *
 have hS0:w1.drew.cell? ⟨W.heap.size,0,none⟩=some (.int .i64 c1)∧w1.drew.cell? ⟨W.heap.size,1,none⟩=some (.int .i64 c2)∧w1.drew.cell? ⟨W.heap.size,2,none⟩=some (.int .i64 c3)∧w1.drew.cell? ⟨W.heap.size+1,0,none⟩=some (.int .i64 a1)∧w1.drew.cell? ⟨W.heap.size+1,1,none⟩=some (.int .i64 a2)∧w1.drew.cell? ⟨W.heap.size+1+1,0,none⟩=some (.int .i64 g1)∧w1.drew.cell? ⟨W.heap.size+1+1,1,none⟩=some (.int .i64 g2)∧Below w1.heap.size w1 w1.drew:=⟨q0,q1,q2,l0,l1,u0,u1,(Below.refl _ _).drew⟩
 go_region_held3 (fun w'=>w'.cell? ⟨W.heap.size,0,none⟩=some (.int .i64 c1)∧w'.cell? ⟨W.heap.size,1,none⟩=some (.int .i64 c2)∧w'.cell? ⟨W.heap.size,2,none⟩=some (.int .i64 c3)∧w'.cell? ⟨W.heap.size+1,0,none⟩=some (.int .i64 a1)∧w'.cell? ⟨W.heap.size+1,1,none⟩=some (.int .i64 a2)∧w'.cell? ⟨W.heap.size+1+1,0,none⟩=some (.int .i64 g1)∧w'.cell? ⟨W.heap.size+1+1,1,none⟩=some (.int .i64 g2)∧Below w1.heap.size w1 w') (first | exact hS0 | exact keepSevB hb (by assumption)) (first | (go_at_call 19;refine (TA.out _ (H0.out.below (lastSev (by assumption)))).mono ?_;rintro e w' ⟨rfl,hb⟩) | (go_at_call 23;refine (TR.out _).mono ?_;rintro e w' ⟨rfl,hb⟩))
 all_goals
  rename_i hS
  obtain ⟨q0',q1',q2',l0',l1',u0',u1',hX⟩:=hS
  obtain ⟨k0,k1,k2,k3⟩:=Y4.out
  replace k0:=keepCell hX k0
  replace k1:=keepCell hX k1
  replace k2:=keepCell hX k2
  replace k3:=keepCell hX k3
  have B2:=hidd (belowT B0.out hX)
  have H2:=hidd (H0.out.below hX)
  clear hS0 TA TR hX hb q0 q1 q2 l0 l1 u0 u1 Y4 B0 H0 q0' q1' q2'
  obtain ⟨w2,ewd⟩:∃ z,z=w':=⟨_,rfl⟩
  rw [← ewd] at l0' l1' u0' u1' k0 k1 k2 k3 B2 H2 ⊢
  clear ewd
  go_wp2_with fail
  refine (SO.out _).mono ?_
  rintro e w3 ⟨⟨P,Q,rfl,hok⟩,b3⟩
  have okb:=ok4_part hok
  have al:=allocB w3 (.cells #[.int .i64 (r:Int),.int .i64 P,.int .i64 Q] 25)
  have l0:=keepCell (belowT b3 al) l0'
  have l1:=keepCell (belowT b3 al) l1'
  have u0:=keepCell (belowT b3 al) u0'
  have u1:=keepCell (belowT b3 al) u1'
  replace k0:=keepCell (belowT b3 al) k0
  replace k1:=keepCell (belowT b3 al) k1
  replace k2:=keepCell (belowT b3 al) k2
  replace k3:=keepCell (belowT b3 al) k3
  have z0:(w3.alloc (.cells #[.int .i64 (r:Int),.int .i64 P,.int .i64 Q] 25)).cell? ⟨w3.heap.size,0,none⟩=some (.int .i64 (r:Int)):=by go_simp
  have z1:(w3.alloc (.cells #[.int .i64 (r:Int),.int .i64 P,.int .i64 Q] 25)).cell? ⟨w3.heap.size,1,none⟩=some (.int .i64 P):=by go_simp
  have z2:(w3.alloc (.cells #[.int .i64 (r:Int),.int .i64 P,.int .i64 Q] 25)).cell? ⟨w3.heap.size,2,none⟩=some (.int .i64 Q):=by go_simp
  have B4:=hidd (belowT (belowT B2.out b3) al)
  have H4:=hidd ((H2.out.below b3).below al)
  obtain ⟨g,eg⟩:∃ g,w3.heap.size=g:=⟨_,rfl⟩
  clear al b3 B2 H2 SO l0' l1' u0' u1'
  obtain ⟨t2,TA,TR⟩:=both_touch (r:Int) P Q a1 a2 g1 g2 (fun z hz=>by
   rcases List.mem_cons.1 hz with e | hz
   · omega
   · rcases List.mem_cons.1 hz with e | hz
     · omega
     · rcases List.mem_cons.1 hz with e | hz
       · omega
       · exact hB1 z (List.mem_cons_of_mem _ (List.mem_cons_of_mem _ (List.mem_cons_of_mem _ hz))))
  go_wp2_with fail
  rw [eg] at z0 z1 z2
  generalize w3.alloc (.cells #[.int .i64 (r:Int),.int .i64 P,.int .i64 Q] 25)=w4 at *
  have hS0:w4.drew.cell? ⟨g,0,none⟩=some (.int .i64 (r:Int))∧w4.drew.cell? ⟨g,1,none⟩=some (.int .i64 P)∧w4.drew.cell? ⟨g,2,none⟩=some (.int .i64 Q)∧w4.drew.cell? ⟨W.heap.size+1,0,none⟩=some (.int .i64 a1)∧w4.drew.cell? ⟨W.heap.size+1,1,none⟩=some (.int .i64 a2)∧w4.drew.cell? ⟨W.heap.size+1+1,0,none⟩=some (.int .i64 g1)∧w4.drew.cell? ⟨W.heap.size+1+1,1,none⟩=some (.int .i64 g2)∧Below w4.heap.size w4 w4.drew:=⟨z0,z1,z2,l0,l1,u0,u1,(Below.refl _ _).drew⟩
  go_region_held3 (fun w'=>w'.cell? ⟨g,0,none⟩=some (.int .i64 (r:Int))∧w'.cell? ⟨g,1,none⟩=some (.int .i64 P)∧w'.cell? ⟨g,2,none⟩=some (.int .i64 Q)∧w'.cell? ⟨W.heap.size+1,0,none⟩=some (.int .i64 a1)∧w'.cell? ⟨W.heap.size+1,1,none⟩=some (.int .i64 a2)∧w'.cell? ⟨W.heap.size+1+1,0,none⟩=some (.int .i64 g1)∧w'.cell? ⟨W.heap.size+1+1,1,none⟩=some (.int .i64 g2)∧Below w4.heap.size w4 w') (first | exact hS0 | exact keepSevB hb (by assumption)) (first | (go_at_call 19;refine (TA.out _ (H4.out.below (lastSev (by assumption)))).mono ?_;rintro e w' ⟨rfl,hb⟩) | (go_at_call 23;refine (TR.out _).mono ?_;rintro e w' ⟨rfl,hb⟩))
  all_goals
   rename_i hS
   obtain ⟨z0',z1',z2',-,-,-,-,hX⟩:=hS
   replace k0:=keepCell hX k0
   replace k1:=keepCell hX k1
   replace k2:=keepCell hX k2
   replace k3:=keepCell hX k3
   have B5:=hidd (belowT B4.out hX)
   have H5:=hidd (H4.out.below hX)
   clear hS0 TA TR hX hb l0 l1 u0 u1 z0 z1 z2 B4 H4 eg
   obtain ⟨w5,ewd⟩:∃ z,z=w':=⟨_,rfl⟩
   rw [← ewd] at z0' z1' z2' k0 k1 k2 k3 B5 H5 ⊢
   clear ewd
   have CE:=hidd fun w=>rcentre_yes P Q (r:Int) K hK hs ⟨by omega,by omega⟩ ⟨by omega,by omega⟩ w
   have hct:=ct_box (K:=K) (a:=P) (b:=Q) hK (by omega) (by omega)
   have hpo:(-400000000000000000≤poX K P Q∧poX K P Q≤400000000000000000)∧-400000000000000000≤poY K P Q∧poY K P Q≤400000000000000000:=by unfold poX poY;omega
   clear hct
   obtain ⟨u,eu⟩:∃ u,poX K P Q=u:=⟨_,rfl⟩
   obtain ⟨v,ev⟩:∃ v,poY K P Q=v:=⟨_,rfl⟩
   rw [eu,ev] at CE hpo
   clear eu ev
   go_wp2_with fail
   refine (CE.out _).mono ?_
   rintro e w6 ⟨rfl,b6⟩
   have z0:=keepCell b6 z0'
   have z1:=keepCell b6 z1'
   have z2:=keepCell b6 z2'
   replace k0:=keepCell b6 k0
   replace k1:=keepCell b6 k1
   replace k2:=keepCell b6 k2
   replace k3:=keepCell b6 k3
   have B6:=hidd (belowT B5.out b6)
   have H6:=hidd (H5.out.below b6)
   clear b6 B5 H5 CE z0' z1' z2'
   go_wp2_with fail
   go_loopw [19,20] (fun v19 v20 wr=>∃ (i:Nat) (S:Int),r≤i∧i≤12∧v19=.int .i64 S∧v20=.int .i64 (i:Int)∧Hid (S=szT (i - r))∧(100≤S∧S≤14000000)∧wr=w6) (fun _ v20 _=>12 - (intOf v20).toNat)
   case atStart=>exact ⟨r,100,Nat.le_refl _,by omega,rfl,rfl,hidd (by rw [Nat.sub_self];rfl),by omega,rfl⟩
   case round =>
    obtain ⟨i,S,i1,i2,rfl,rfl,eS,hS,rfl⟩:=hrel
    rcases Nat.lt_or_ge i 12 with c | c
    · have et:(S*8).tdiv 3=S*8 / 3:=Int.tdiv_eq_ediv_of_nonneg (by omega)
      have eS':Hid (S*8 / 3=szT (i+1 - r)):=hidd (by rw [show i+1 - r=(i - r)+1 by omega,eS.out];rfl)
      have hS':=szT_in (K:=i+1 - r) (by omega)
      rw [← eS'.out] at hS'
      clear eS
      go_wp2_with fail
      go_roundw
      case rel=>exact ⟨i+1,S*8 / 3,by omega,by omega,rfl,by go_num,eS',hS',trivial⟩
      case measure=>simp [intOf];omega
    · obtain rfl:i=12:=by omega
      clear eS
      have q1:=tmod_box y1 S (by omega)
      have q2:=tmod_box y2 S (by omega)
      have m3:=mask32 y3
      have m4:=mask32 y4
      obtain ⟨n3,en3⟩:∃ n,y3%4294967296=n:=⟨_,rfl⟩
      obtain ⟨n4,en4⟩:∃ n,y4%4294967296=n:=⟨_,rfl⟩
      rw [en3] at m3
      rw [en4] at m4
      have q3:=tmod_box n3 S (by omega)
      have q4:=tmod_box n4 S (by omega)
      obtain ⟨p1,ep1⟩:∃ p,y1.tmod S=p:=⟨_,rfl⟩
      obtain ⟨p2,ep2⟩:∃ p,y2.tmod S=p:=⟨_,rfl⟩
      obtain ⟨p3,ep3⟩:∃ p,n3.tmod S=p:=⟨_,rfl⟩
      obtain ⟨p4,ep4⟩:∃ p,n4.tmod S=p:=⟨_,rfl⟩
      rw [ep1] at q1
      rw [ep2] at q2
      rw [ep3] at q3
      rw [ep4] at q4
      have f1:IntKind.i64.wrap p1=p1:=by rw [IntKind.wrap_i64];omega
      have f2:IntKind.i64.wrap p2=p2:=by rw [IntKind.wrap_i64];omega
      have f3:IntKind.i64.wrap p3=p3:=by rw [IntKind.wrap_i64];omega
      have f4:IntKind.i64.wrap p4=p4:=by rw [IntKind.wrap_i64];omega
      have f5:IntKind.i64.wrap (u+p1)=u+p1:=by rw [IntKind.wrap_i64];omega
      have f6:IntKind.i64.wrap (v+p2)=v+p2:=by rw [IntKind.wrap_i64];omega
      have f7:IntKind.i64.wrap (u+p1+p3)=u+p1+p3:=by rw [IntKind.wrap_i64];omega
      have f8:IntKind.i64.wrap (v+p2+p4)=v+p2+p4:=by rw [IntKind.wrap_i64];omega
      have lk:=World.block_lt_of_cell? _ _ k0
      have nk1:=Nat.ne_of_lt lk
      have nk2:=Nat.ne_of_gt lk
      go_wp2_with fail
      go_big_region
      have al:=allocB wr (.cells #[.int .i64 (u+p1),.int .i64 (v+p2)] 38)
      have h0:(wr.alloc (.cells #[.int .i64 (u+p1),.int .i64 (v+p2)] 38)).drew.cell? ⟨wr.heap.size,0,none⟩=some (.int .i64 (u+p1)):=show (wr.alloc (.cells #[.int .i64 (u+p1),.int .i64 (v+p2)] 38)).cell? _=_ by go_simp
      have h1:(wr.alloc (.cells #[.int .i64 (u+p1),.int .i64 (v+p2)] 38)).drew.cell? ⟨wr.heap.size,1,none⟩=some (.int .i64 (v+p2)):=show (wr.alloc (.cells #[.int .i64 (u+p1),.int .i64 (v+p2)] 38)).cell? _=_ by go_simp
      have al':Below wr.heap.size wr (wr.alloc (.cells #[.int .i64 (u+p1),.int .i64 (v+p2)] 38)).drew:=al.drew
      replace z0:=keepCell al' z0
      replace z1:=keepCell al' z1
      replace z2:=keepCell al' z2
      replace k2:=keepCell al' k2
      replace k3:=keepCell al' k3
      have B7:=hidd (belowT B6.out al')
      have H7:=hidd (H6.out.below al')
      obtain ⟨h,eh⟩:∃ h,wr.heap.size=h:=⟨_,rfl⟩
      rw [eh] at h0 h1
      clear al al' B6 H6 k0 k1 lk nk1 nk2
      obtain ⟨w7,e7⟩:∃ z,z=(wr.alloc (.cells #[.int .i64 (u+p1),.int .i64 (v+p2)] 38)).drew:=⟨_,rfl⟩
      rw [← e7] at h0 h1 z0 z1 z2 k2 k3 B7 H7 ⊢
      rw [eh]
      clear e7 eh
      have lk:=World.block_lt_of_cell? _ _ k2
      have nk1:=Nat.ne_of_lt lk
      have nk2:=Nat.ne_of_gt lk
      have lh:=World.block_lt_of_cell? _ _ h0
      have nh1:=Nat.ne_of_lt lh
      have nh2:=Nat.ne_of_gt lh
      go_wp2_with fail
      go_big_region
      have al:=allocB w7 (.cells #[.int .i64 (u+p1+p3),.int .i64 (v+p2+p4)] 38)
      have e0:(w7.alloc (.cells #[.int .i64 (u+p1+p3),.int .i64 (v+p2+p4)] 38)).drew.cell? ⟨w7.heap.size,0,none⟩=some (.int .i64 (u+p1+p3)):=show (w7.alloc (.cells #[.int .i64 (u+p1+p3),.int .i64 (v+p2+p4)] 38)).cell? _=_ by go_simp
      have e1:(w7.alloc (.cells #[.int .i64 (u+p1+p3),.int .i64 (v+p2+p4)] 38)).drew.cell? ⟨w7.heap.size,1,none⟩=some (.int .i64 (v+p2+p4)):=show (w7.alloc (.cells #[.int .i64 (u+p1+p3),.int .i64 (v+p2+p4)] 38)).cell? _=_ by go_simp
      have al':Below w7.heap.size w7 (w7.alloc (.cells #[.int .i64 (u+p1+p3),.int .i64 (v+p2+p4)] 38)).drew:=al.drew
      replace z0:=keepCell al' z0
      replace z1:=keepCell al' z1
      replace z2:=keepCell al' z2
      replace h0:=keepCell al' h0
      replace h1:=keepCell al' h1
      have B8:=hidd (belowT B7.out al')
      have H8:=hidd (H7.out.below al')
      obtain ⟨k,ek⟩:∃ k,w7.heap.size=k:=⟨_,rfl⟩
      rw [ek] at e0 e1
      clear al al' B7 H7 k2 k3 lk nk1 nk2 lh nh1 nh2
      obtain ⟨w8,e8⟩:∃ z,z=(w7.alloc (.cells #[.int .i64 (u+p1+p3),.int .i64 (v+p2+p4)] 38)).drew:=⟨_,rfl⟩
      rw [← e8] at h0 h1 z0 z1 z2 e0 e1 B8 H8 ⊢
      rw [ek]
      clear e8 ek
      obtain ⟨t3,TA,TR⟩:=both_touch (r:Int) P Q (u+p1) (v+p2) (u+p1+p3) (v+p2+p4) (fun z hz=>by simp at hz;omega)
      clear m3 m4 en3 en4 ep1 ep2 ep3 ep4 f1 f2 f3 f4 f5 f6 f7 f8
      go_wp2_with fail
      have hS0:w8.drew.cell? ⟨g,0,none⟩=some (.int .i64 (r:Int))∧w8.drew.cell? ⟨g,1,none⟩=some (.int .i64 P)∧w8.drew.cell? ⟨g,2,none⟩=some (.int .i64 Q)∧w8.drew.cell? ⟨h,0,none⟩=some (.int .i64 (u+p1))∧w8.drew.cell? ⟨h,1,none⟩=some (.int .i64 (v+p2))∧w8.drew.cell? ⟨k,0,none⟩=some (.int .i64 (u+p1+p3))∧w8.drew.cell? ⟨k,1,none⟩=some (.int .i64 (v+p2+p4))∧Below w8.heap.size w8 w8.drew:=⟨z0,z1,z2,h0,h1,e0,e1,(Below.refl _ _).drew⟩
      rename_i qq kk aa k2 a2
      clear aa kk qq
      clear hB1 SO hok okb hpo q1 q2 q3 q4 hS i1 i2 c hs hK s0 s12 hb
      as_aux_lemma =>
       refine wp_region_held_drew (S:=(fun w'=>w'.cell? ⟨g,0,none⟩=some (.int .i64 (r:Int))∧w'.cell? ⟨g,1,none⟩=some (.int .i64 P)∧w'.cell? ⟨g,2,none⟩=some (.int .i64 Q)∧w'.cell? ⟨h,0,none⟩=some (.int .i64 (u+p1))∧w'.cell? ⟨h,1,none⟩=some (.int .i64 (v+p2))∧w'.cell? ⟨k,0,none⟩=some (.int .i64 (u+p1+p3))∧w'.cell? ⟨k,1,none⟩=some (.int .i64 (v+p2+p4))∧Below w8.heap.size w8 w')) (by kernel_rfl) ?hS0 (fun hHeld=>?_)
       case hS0=>(try dsimp only);exact hS0
       refine take_atQ (v:=?v0) 0 rfl (by kernel_rfl) (by kernel_rfl) (by kernel_rfl) (fun _ _ _ h=>h) (Or.inl ⟨by rfl,?hy0⟩) (by assumption) ?rest0
       case hy0=>(intro w' hSw;(try dsimp only at hSw);go_simp;try with_reducible rfl)
       (try simp only [Act.put,List.setIfInBounds_toArray,List.set_cons_zero,List.set_cons_succ])
       refine take_atQ (v:=?v1) 1 rfl (by kernel_rfl) (by kernel_rfl) (by kernel_rfl) (fun _ _ _ h=>h) (Or.inl ⟨by rfl,?hy1⟩) (by assumption) ?rest1
       case hy1=>(intro w' hSw;(try dsimp only at hSw);go_simp;try with_reducible rfl)
       (try simp only [Act.put,List.setIfInBounds_toArray,List.set_cons_zero,List.set_cons_succ])
       refine take_atQ (v:=?v2) 2 rfl (by kernel_rfl) (by kernel_rfl) (by kernel_rfl) (fun _ _ _ h=>h) (Or.inl ⟨by rfl,?hy2⟩) (by assumption) ?rest2
       case hy2=>(intro w' hSw;(try dsimp only at hSw);go_simp;try with_reducible rfl)
       (try simp only [Act.put,List.setIfInBounds_toArray,List.set_cons_zero,List.set_cons_succ])
       refine take_atQ (v:=?v4) 4 rfl (by kernel_rfl) (by kernel_rfl) (by kernel_rfl) (fun _ _ _ h=>h) (Or.inl ⟨by rfl,?hy4⟩) (by assumption) ?rest4
       case hy4=>(intro w' hSw;(try dsimp only at hSw);go_simp;try with_reducible rfl)
       (try simp only [Act.put,List.setIfInBounds_toArray,List.set_cons_zero,List.set_cons_succ])
       refine take_atQ (v:=?v5) 5 rfl (by kernel_rfl) (by kernel_rfl) (by kernel_rfl) (fun _ _ _ h=>h) (Or.inl ⟨by rfl,?hy5⟩) (by assumption) ?rest5
       case hy5=>(intro w' hSw;(try dsimp only at hSw);go_simp;try with_reducible rfl)
       (try simp only [Act.put,List.setIfInBounds_toArray,List.set_cons_zero,List.set_cons_succ])
       refine take_atQ (v:=?v6) 6 rfl (by kernel_rfl) (by kernel_rfl) (by kernel_rfl) (fun _ _ _ h=>h) (Or.inl ⟨by rfl,?hy6⟩) (by assumption) ?rest6
       case hy6=>(intro w' hSw;(try dsimp only at hSw);go_simp;try with_reducible rfl)
       (try simp only [Act.put,List.setIfInBounds_toArray,List.set_cons_zero,List.set_cons_succ])
       refine wpAnyH_ready (rs:=[3]) (by kernel_rfl) (by simp) ?_
       refine ready_atQ rfl (fun K hK=>?_)
       go_simp
       with_reducible refine (TA.out _ (H8.out.below (lastSev hHeld))).mono ?_
       rintro e w' ⟨rfl,hb⟩
       go_wp2_with fail
       refine hK.out _ _ ?hS3 (fun hHeld=>?_)
       case hS3=>(try dsimp only);(first | exact keepSevB hb (by assumption))
       clear hK K
       (try simp only [Act.put,List.setIfInBounds_toArray,List.set_cons_zero,List.set_cons_succ])
       refine wpAnyH_ready (rs:=[7]) (by kernel_rfl) (by simp) ?_
       refine ready_atQ rfl (fun K hK=>?_)
       go_simp
       with_reducible refine (TR.out _).mono ?_
       rintro e w' ⟨rfl,hb⟩
       go_wp2_with fail
       refine hK.out _ _ ?hS7 (fun hHeld=>?_)
       case hS7=>(try dsimp only);(first | exact keepSevB hb (by assumption))
       clear hK K
       (try simp only [Act.put,List.setIfInBounds_toArray,List.set_cons_zero,List.set_cons_succ])
       refine take_atQ (v:=?v8) 8 rfl (by kernel_rfl) (by kernel_rfl) (by kernel_rfl) (fun _ _ _ h=>h) (Or.inl ⟨by rfl,?hy8⟩) (by assumption) ?rest8
       case hy8=>(intro w' hSw;(try dsimp only at hSw);go_simp;try with_reducible rfl)
       (try simp only [Act.put,List.setIfInBounds_toArray,List.set_cons_zero,List.set_cons_succ])
       refine take_atQ (v:=?v9) 9 rfl (by kernel_rfl) (by kernel_rfl) (by kernel_rfl) (fun _ _ _ h=>h) (Or.inl ⟨by rfl,?hy9⟩) (by assumption) ?rest9
       case hy9=>(intro w' hSw;(try dsimp only at hSw);go_simp;try with_reducible rfl)
       (try simp only [Act.put,List.setIfInBounds_toArray,List.set_cons_zero,List.set_cons_succ])
       refine wpAnyH_ready (rs:=[10]) (by kernel_rfl) (by simp) ?_
       refine ready_atQ rfl (fun K hK=>?_)
       go_simp
       with_reducible refine (AW.out _ (H8.out.below (lastSev hHeld))).mono ?_
       rintro e w' ⟨rfl,hb⟩
       go_wp2_with fail
       refine hK.out _ _ ?hS10 (fun hHeld=>?_)
       case hS10=>(try dsimp only);(first | exact keepSevB hb (by assumption))
       clear hK K
       (try simp only [Act.put,List.setIfInBounds_toArray,List.set_cons_zero,List.set_cons_succ])
       refine take_atQ (v:=?v11) 11 rfl (by kernel_rfl) (by kernel_rfl) (by kernel_rfl) (fun _ _ _ h=>h) (Or.inl ⟨by rfl,?hy11⟩) (by assumption) ?rest11
       case hy11=>(intro w' hSw;(try dsimp only at hSw);go_simp;try with_reducible rfl)
       (try simp only [Act.put,List.setIfInBounds_toArray,List.set_cons_zero,List.set_cons_succ])
       refine take_atQ (v:=?v12) 12 rfl (by kernel_rfl) (by kernel_rfl) (by kernel_rfl) (fun _ _ _ h=>h) (Or.inl ⟨by rfl,?hy12⟩) (by assumption) ?rest12
       case hy12=>(intro w' hSw;(try dsimp only at hSw);go_simp;try with_reducible rfl)
       (try simp only [Act.put,List.setIfInBounds_toArray,List.set_cons_zero,List.set_cons_succ])
       refine wpAnyH_done (by kernel_rfl) ?_ _
       go_wp2_with fail
       go_ret
       exact ⟨rfl,belowT B8.out (lastSev hHeld)⟩
theorem coverTouches_lift (c1 c2 c3 a1 a2 g1 g2 x0 y0 r0 y1 y2 y3 y4:Int) (W:World) (hT:Cov3 W) (l0: -9223372036854775808≤c1) (u0:c1≤9223372036854775807) (l1: -9223372036854775808≤c2) (u1:c2≤9223372036854775807) (l2: -9223372036854775808≤c3) (u2:c3≤9223372036854775807) (l3: -9223372036854775808≤a1) (u3:a1≤9223372036854775807) (l4: -9223372036854775808≤a2) (u4:a2≤9223372036854775807) (l5: -9223372036854775808≤g1) (u5:g1≤9223372036854775807) (l6: -9223372036854775808≤g2) (u6:g2≤9223372036854775807) (_: -9223372036854775808≤x0) (_:x0≤9223372036854775807) (_: -9223372036854775808≤y0) (_:y0≤9223372036854775807) (_: -9223372036854775808≤r0) (_:r0≤9223372036854775807) (l10: -9223372036854775808≤y1) (u10:y1≤9223372036854775807) (l11: -9223372036854775808≤y2) (u11:y2≤9223372036854775807) (l12: -9223372036854775808≤y3) (u12:y3≤9223372036854775807) (l13: -9223372036854775808≤y4) (u13:y4≤9223372036854775807) :
 Calls Tryz.prog 6 #[.agg #[.int .i64 c1,.int .i64 c2,.int .i64 c3],.agg #[.int .i64 a1,.int .i64 a2],.agg #[.int .i64 g1,.int .i64 g2],.int .i64 x0,.int .i64 y0,.int .i64 r0,.agg #[.int .i64 y1,.int .i64 y2,.int .i64 y3,.int .i64 y4]] W fun e w'=>e=.returned (.bool true)∧Below W.heap.size W w' :=
 coverTouches_walk c1 c2 c3 a1 a2 g1 g2 x0 y0 r0 y1 y2 y3 y4 W hT
  (fun z hz=>by
    simp only [List.mem_cons,List.not_mem_nil,or_false] at hz
    rcases hz with rfl | rfl | rfl | rfl | rfl | rfl | rfl <;>exact ⟨by assumption,by assumption⟩)
  (fun z hz=>by
    simp only [List.mem_cons,List.not_mem_nil,or_false] at hz
    rcases hz with rfl | rfl | rfl | rfl <;>exact ⟨by assumption,by assumption⟩)
end Go.Proofs.YtdklpgphmoaniaaGreatDoor
