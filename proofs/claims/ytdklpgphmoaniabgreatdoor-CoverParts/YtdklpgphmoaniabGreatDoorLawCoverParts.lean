/-
  The law CoverParts holds: whatever numbers come in; in whatever memory where the three tables hold what their texts lay. Over the contracts of package cover.
-/
import Derived.Test.YtdklpgphmoaniabGreatDoorRBeside
import Derived.Test.YtdklpgphmoaniabGreatDoorVLawBox
import Derived.Test.YtdklpgphmoaniabGreatDoorJn39
import Derived.Test.YtdklpgphmoaniabGreatDoorUApartX
namespace Go.Proofs.YtdklpgphmoaniabGreatDoor
open Go.RowKit
def RowP (w:World) (s:Value) (L:List Int):Prop:=RowAt 0 w s L∧Lst w s L∧Addressed s
theorem RowP.keep {w w':World} {s:Value} {L:List Int} (h:RowP w s L) (hb:Below w.heap.size w w'):RowP w' s L:=⟨h.1.keep hb,h.2.1.keep hb,h.2.2⟩
theorem rowP_mk {w:World} {p:Option Addr} {c:Nat} {L:List Int} (h:RowAt 0 w (.slice p L.length c) L) (hc:L.length≤c):RowP w (.slice p L.length c) L:=by
 refine ⟨h,?_,?_⟩
 · obtain ⟨p',c',e,k⟩:=h.form
   simp only [Value.slice.injEq,true_and] at e
   obtain ⟨rfl,rfl⟩:=e
   exact ⟨p,c,rfl,hc,fun j hj=>by
    obtain ⟨g,e,k⟩:=k j hj
    exact ⟨g,0,e,by rw [Nat.zero_add];exact k⟩⟩
 · rcases h with ⟨-,e⟩ | ⟨g,c',e,-⟩
   · exact .inl e
   · exact .inr ⟨_,_,_,e⟩
def TellsPQ (P:Int→Prop) (e:Ending) (w':World):Prop:=∃ (p:Option Addr) (c:Nat) (L:List Int),e=.returned (.tuple #[.slice p L.length c,.int .i64 0])∧RowP w' (.slice p L.length c) L∧Rising L∧(∀ x,x∈L↔P x)∧L.length≤20000
theorem box_tells {l1 l2 u1 u2:Int} {r K:Nat} (hK:K≤12) (hr:12 - (r:Int)=(K:Int)) (h1:0≤l1) (h2:0≤l2) (h3:u1 < 1073741824) (h4:u2 < 1073741824) (h5:l1≤u1) (h6:l2≤u2) (hx:u1 - l1≤8*szK K) (hy:u2 - l2≤8*szK K) (w:World) (hT:Cov3 w) :
 Calls Tryz.prog 8 #[.agg #[.int .i64 l1,.int .i64 l2],.agg #[.int .i64 u1,.int .i64 u2],.int .i64 (r:Int)] w fun e w'=>TellsPQ (fun x=>TW K l1 l2 u1 u2 x r) e w'∧Below w.heap.size w w' :=
 (p_box_cap l1 l2 u1 u2 r K hK hr h1 h2 h3 h4 h5 h6 w hT).mono fun e w' ⟨⟨h,hc⟩,hb⟩=>⟨by
   obtain ⟨s,L,rfl,g1,g2,g3,g4⟩:=h.row (few_box hK hx hy)
   obtain ⟨p,c,rfl,-⟩:=g1.form
   exact ⟨p,c,L,rfl,rowP_mk g1 (hc _ _ _ _ rfl),g2,g3,g4⟩,hb⟩
theorem centres_tell {l1 l2 u1 u2:Int} {r K:Nat} (hK:K≤12) (hr:12 - (r:Int)=(K:Int)) (h1:0≤l1) (h2:0≤l2) (h3:u1 < 1073741824) (h4:u2 < 1073741824) (h5:l1≤u1) (h6:l2≤u2) (hx:u1 - l1≤8*szK K) (hy:u2 - l2≤8*szK K) (w:World) (hT:Cov3 w) :
 Calls Tryz.prog 7 #[.agg #[.int .i64 l1,.int .i64 l2],.agg #[.int .i64 u1,.int .i64 u2],.int .i64 (r:Int)] w fun e w'=>TellsPQ (fun x=>(Whole x∧wR x=(r:Int))∧(l1≤poX K (cellA x) (cellB x)∧poX K (cellA x) (cellB x)≤u1∧l2≤poY K (cellA x) (cellB x)∧poY K (cellA x) (cellB x)≤u2)) e w'∧Below w.heap.size w w' :=
 (p_centres_cap l1 l2 u1 u2 r K hK hr h1 h2 h3 h4 h5 h6 w hT).mono fun e w' ⟨⟨h,hc⟩,hb⟩=>⟨by
   obtain ⟨s,L,rfl,g1,g2,g3,g4⟩:=h.row (few_box hK hx hy)
   obtain ⟨p,c,rfl,-⟩:=g1.form
   refine ⟨p,c,L,rfl,rowP_mk g1 (hc _ _ _ _ rfl),g2,fun x=>(g3 x).trans ?_,g4⟩
   constructor
   · rintro ⟨⟨k1,k2,-⟩,k3⟩
     exact ⟨⟨k1,k2⟩,of_decide_eq_true k3⟩
   · rintro ⟨⟨k1,k2⟩,k3⟩
     exact ⟨⟨k1,k2,tou_at ⟨k3.1,k3.2.1⟩ ⟨k3.2.2.1,k3.2.2.2⟩ (near_self hK _ _).1⟩,decide_eq_true k3⟩,hb⟩
theorem rowat_ownQ {w:World} {base:Nat} {s:Value} {L:List Int} (h:w.ownsRow base 36 1 s L.length (vals L)):RowAt 0 w s L:=by
 rcases h.2 with ⟨e1,e2⟩ | ⟨g,cap,cur,e1,_,_,hl,_⟩
 · exact .inl ⟨List.length_eq_zero_iff.1 e2,e1⟩
 · subst e1
   exact .inr ⟨g,cap,rfl,Nat.zero_le _,(own_cells h).2.1⟩
theorem join_two {A B L:List Int} (X:List Int) (hX:∀ x,x∈X↔x∈A++B) (rX:Rising X) (rL:Rising L) (h:∀ x,x∈L↔x∈A∨x∈B):X=L :=
 rising_ext rX rL fun x=>by rw [hX,List.mem_append,h]
set_option maxHeartbeats 16000000 in
set_option maxRecDepth 20000 in
theorem coverParts_walk (x0 y0 w0 h0 r0 a0:Int) (W:World) (hT:Cov3 W) :
 Calls Tryz.prog 3 #[.int .i64 x0,.int .i64 y0,.int .i64 w0,.int .i64 h0,.int .i64 r0,.int .i64 a0] W fun e w'=>e=.returned (.bool true)∧Below W.heap.size W w':=by
 obtain ⟨t,s,K,e1,e2,t1,t2,hK,hs⟩:=size13 r0
 obtain ⟨r,rfl⟩:∃ r:Nat,s=(r:Int):=⟨s.toNat,by have h:=e2;rw [Int.tmod_eq_emod_of_nonneg (by omega)] at h;omega⟩
 obtain ⟨l1,l2,u1,u2,⟨⟨h1,h2,h3,h4⟩,h5,h6⟩,⟨k1,k2⟩,LB⟩:=lbox x0 y0 w0 h0 r K hK hs
 have hr12:(r:Int)≤12:=by omega
 have LB:=hidd LB
 have HT:=hidd hT
 have AW:=hidd fun w hT=>cawake10 w hT
 have M32:=mask32 a0
 clear hT
 by_cases hu:u1=l1
 · subst hu
   go_enter Tryz.func3,Tryz.ntmps3
   go_wp2_with fail
   refine (LB.out _).mono ?_
   rintro e w1 ⟨rfl,b1⟩
   have B1:=hidd b1
   have H1:=hidd (HT.out.below b1)
   clear LB HT b1
   have B3:=hidd (belowT (belowT B1.out (allocB w1 (.cells #[.int .i64 u1,.int .i64 l2] 22))) (allocB (w1.alloc (.cells #[.int .i64 u1,.int .i64 l2] 22)) (.cells #[.int .i64 u1,.int .i64 u2] 22)))
   have H3:=hidd ((H1.out.below (allocB w1 (.cells #[.int .i64 u1,.int .i64 l2] 22))).below (allocB (w1.alloc (.cells #[.int .i64 u1,.int .i64 l2] 22)) (.cells #[.int .i64 u1,.int .i64 u2] 22)))
   go_wp2_with fail
   refine (AW.out _ H3.out).mono ?_
   rintro e w4 ⟨rfl,b4⟩
   go_wp2_with fail
   go_ret
   exact ⟨rfl,belowT B3.out b4⟩
 · obtain ⟨n,hn⟩:∃ n,a0%4294967296=n:=⟨_,rfl⟩
   have bn:0≤n:=by omega
   rw [hn] at M32
   obtain ⟨p,hp⟩:∃ p,n.tmod (u1 - l1)=p:=⟨_,rfl⟩
   have p1:0≤p∧p < u1 - l1:=by
    rw [← hp,Int.tmod_eq_emod_of_nonneg (by omega)]
    exact ⟨Int.emod_nonneg _ (by omega),Int.emod_lt_of_pos _ (by omega)⟩
   have C0:=hidd fun w hT=>centres_tell (l1:=l1) (l2:=l2) (u1:=u1) (u2:=u2) hK hs h1 h2 h3 h4 h5 h6 k1 k2 w hT
   have C1:=hidd fun w hT=>centres_tell (l1:=l1) (l2:=l2) (u1:=l1+p) (u2:=u2) hK hs h1 h2 (by omega) h4 (by omega) h6 (by omega) k2 w hT
   have C2:=hidd fun w hT=>centres_tell (l1:=l1+p+1) (l2:=l2) (u1:=u1) (u2:=u2) hK hs (by omega) h2 h3 h4 (by omega) h6 (by omega) k2 w hT
   have D0:=hidd fun w hT=>box_tells (l1:=l1) (l2:=l2) (u1:=u1) (u2:=u2) hK hs h1 h2 h3 h4 h5 h6 k1 k2 w hT
   have D1:=hidd fun w hT=>box_tells (l1:=l1) (l2:=l2) (u1:=l1+p) (u2:=u2) hK hs h1 h2 (by omega) h4 (by omega) h6 (by omega) k2 w hT
   have D2:=hidd fun w hT=>box_tells (l1:=l1+p) (l2:=l2) (u1:=u1) (u2:=u2) hK hs (by omega) h2 h3 h4 (by omega) h6 (by omega) k2 w hT
   have CUT:=hidd fun (x:Int)=>tou_cut (K:=K) (l1:=l1) (l2:=l2) (u1:=u1) (u2:=u2) (m:=l1+p) (a:=cellA x) (b:=cellB x) (by omega) (by omega)
   have hne:decide (u1=l1)=false:=by simp only [decide_eq_false_iff_not];exact hu
   have hd0:u1 - l1≠0:=by omega
   clear hn hs hK k1 k2
   go_enter Tryz.func3,Tryz.ntmps3
   go_wp2_with fail
   refine (LB.out _).mono ?_
   rintro e w1 ⟨rfl,b1⟩
   have B1:=hidd b1
   have H1:=hidd (HT.out.below b1)
   clear LB HT b1
   have al1:=allocB w1 (.cells #[.int .i64 l1,.int .i64 l2] 22)
   have al2:=allocB (w1.alloc (.cells #[.int .i64 l1,.int .i64 l2] 22)) (.cells #[.int .i64 u1,.int .i64 u2] 22)
   have c0:((w1.alloc (.cells #[.int .i64 l1,.int .i64 l2] 22)).alloc (.cells #[.int .i64 u1,.int .i64 u2] 22)).cell? ⟨w1.heap.size,0,none⟩=some (.int .i64 l1):=by go_simp
   have c1:((w1.alloc (.cells #[.int .i64 l1,.int .i64 l2] 22)).alloc (.cells #[.int .i64 u1,.int .i64 u2] 22)).cell? ⟨w1.heap.size,1,none⟩=some (.int .i64 l2):=by go_simp
   have d0:((w1.alloc (.cells #[.int .i64 l1,.int .i64 l2] 22)).alloc (.cells #[.int .i64 u1,.int .i64 u2] 22)).cell? ⟨w1.heap.size+1,0,none⟩=some (.int .i64 u1):=by go_simp
   have d1:((w1.alloc (.cells #[.int .i64 l1,.int .i64 l2] 22)).alloc (.cells #[.int .i64 u1,.int .i64 u2] 22)).cell? ⟨w1.heap.size+1,1,none⟩=some (.int .i64 u2):=by go_simp
   have B2:=hidd (belowT (belowT B1.out al1) al2)
   have H2:=hidd ((H1.out.below al1).below al2)
   clear al1 al2 B1 H1
   go_wp2_with fail
   generalize (w1.alloc (.cells #[.int .i64 l1,.int .i64 l2] 22)).alloc (.cells #[.int .i64 u1,.int .i64 u2] 22)=w2 at *
   go_quiet (fail)
   have bN:=belowN (Below.refl w2.heap.size w2) nq
   replace c0:=keepCell bN c0
   replace c1:=keepCell bN c1
   replace d0:=keepCell bN d0
   replace d1:=keepCell bN d1
   have B3:=hidd (belowT B2.out bN)
   have H3:=hidd (H2.out.below bN)
   clear bN B2 H2
   generalize w2.drewN nq=w3 at *
   go_wp2_with fail
   refine (C0.out _ H3.out).mono ?_
   rintro e w4 ⟨⟨p0,cc0,L0,rfl,R0,i0,f0,n0⟩,b4⟩
   have R0:=hidd R0
   have F0:=hidd (And.intro i0 (And.intro f0 n0))
   replace c0:=keepCell b4 c0
   replace c1:=keepCell b4 c1
   replace d0:=keepCell b4 d0
   replace d1:=keepCell b4 d1
   have B4:=hidd (belowT B3.out b4)
   have H4:=hidd (H3.out.below b4)
   clear b4 B3 H3 C0 i0 f0 n0
   go_wp2_with fail
   refine (C1.out _ H4.out).mono ?_
   rintro e w5 ⟨⟨p1',cc1,L1,rfl,R1,i1,f1,n1⟩,b5⟩
   have R1:=hidd R1
   have F1:=hidd (And.intro i1 (And.intro f1 n1))
   replace R0:=hidd (R0.out.keep b5)
   replace c0:=keepCell b5 c0
   replace c1:=keepCell b5 c1
   replace d0:=keepCell b5 d0
   replace d1:=keepCell b5 d1
   have B5:=hidd (belowT B4.out b5)
   have H5:=hidd (H4.out.below b5)
   clear b5 B4 H4 C1 i1 f1 n1
   go_wp2_with fail
   refine (C2.out _ H5.out).mono ?_
   rintro e w6 ⟨⟨p2',cc2,L2,rfl,R2,i2,f2,n2⟩,b6⟩
   have R2:=hidd R2
   have F2:=hidd (And.intro i2 (And.intro f2 n2))
   replace R0:=hidd (R0.out.keep b6)
   replace R1:=hidd (R1.out.keep b6)
   replace c0:=keepCell b6 c0
   replace c1:=keepCell b6 c1
   replace d0:=keepCell b6 d0
   replace d1:=keepCell b6 d1
   have B6:=hidd (belowT B5.out b6)
   have H6:=hidd (H5.out.below b6)
   clear b6 B5 H5 C2 i2 f2 n2
   go_wp2_with fail
   refine (D0.out _ H6.out).mono ?_
   rintro e w7 ⟨⟨p3',cc3,L3,rfl,R3,i3,f3,n3⟩,b7⟩
   have R3:=hidd R3
   have F3:=hidd (And.intro i3 (And.intro f3 n3))
   replace R0:=hidd (R0.out.keep b7)
   replace R1:=hidd (R1.out.keep b7)
   replace R2:=hidd (R2.out.keep b7)
   replace c0:=keepCell b7 c0
   replace c1:=keepCell b7 c1
   replace d0:=keepCell b7 d0
   replace d1:=keepCell b7 d1
   have B7:=hidd (belowT B6.out b7)
   have H7:=hidd (H6.out.below b7)
   clear b7 B6 H6 D0 i3 f3 n3
   go_wp2_with fail
   refine (D1.out _ H7.out).mono ?_
   rintro e w8 ⟨⟨p4',cc4,L4,rfl,R4,i4,f4,n4⟩,b8⟩
   have R4:=hidd R4
   have F4:=hidd (And.intro i4 (And.intro f4 n4))
   replace R0:=hidd (R0.out.keep b8)
   replace R1:=hidd (R1.out.keep b8)
   replace R2:=hidd (R2.out.keep b8)
   replace R3:=hidd (R3.out.keep b8)
   replace c0:=keepCell b8 c0
   replace c1:=keepCell b8 c1
   replace d0:=keepCell b8 d0
   replace d1:=keepCell b8 d1
   have B8:=hidd (belowT B7.out b8)
   have H8:=hidd (H7.out.below b8)
   clear b8 B7 H7 D1 i4 f4 n4
   go_wp2_with fail
   refine (D2.out _ H8.out).mono ?_
   rintro e w9 ⟨⟨p5',cc5,L5,rfl,R5,i5,f5,n5⟩,b9⟩
   have R5:=hidd R5
   have F5:=hidd (And.intro i5 (And.intro f5 n5))
   replace R0:=hidd (R0.out.keep b9)
   replace R1:=hidd (R1.out.keep b9)
   replace R2:=hidd (R2.out.keep b9)
   replace R3:=hidd (R3.out.keep b9)
   replace R4:=hidd (R4.out.keep b9)
   have B9:=hidd (belowT B8.out b9)
   have H9:=hidd (H8.out.below b9)
   clear b9 B8 H8 D2 i5 f5 n5 c0 c1 d0 d1
   have J1:=hidd (show ∀ x,x∈L0↔x∈L1∨x∈L2 from fun x=>by
    rw [F0.out.2.1 x,F1.out.2.1 x,F2.out.2.1 x]
    constructor
    · rintro ⟨k,k3⟩
      by_cases c:poX K (cellA x) (cellB x)≤l1+p
      · exact .inl ⟨k,k3.1,c,k3.2.2⟩
      · exact .inr ⟨k,by omega,k3.2⟩
    · rintro (⟨k,k3⟩ | ⟨k,k3⟩)
      · exact ⟨k,k3.1,by omega,k3.2.2⟩
      · exact ⟨k,by omega,k3.2⟩)
   have J2:=hidd (show ∀ x,x∈L3↔x∈L4∨x∈L5 from fun x=>by
    rw [F3.out.2.1 x,F4.out.2.1 x,F5.out.2.1 x]
    unfold TW
    rw [CUT.out x]
    constructor
    · rintro ⟨k1,k2,k | k⟩
      · exact .inl ⟨k1,k2,k⟩
      · exact .inr ⟨k1,k2,k⟩
    · rintro (⟨k1,k2,k⟩ | ⟨k1,k2,k⟩)
      · exact ⟨k1,k2,.inl k⟩
      · exact ⟨k1,k2,.inr k⟩)
   have NL:=hidd (show L1.length+L2.length=L0.length from len_two F1.out.1 F2.out.1 F0.out.1 J1.out fun x hx hy=>by
    have a1:=((F1.out.2.1 x).1 hx).2
    have a2:=((F2.out.2.1 x).1 hy).2
    omega)
   have U1:=hidd (show ∀ x∈L1++L2,U64 x from fun x hx=>by
    have hz:=(List.mem_append.1 hx).elim (fun k=>((F1.out.2.1 x).1 k).1.1) (fun k=>((F2.out.2.1 x).1 k).1.1)
    have:=whole_box hz
    exact ⟨by omega,by omega⟩)
   have U2:=hidd (show ∀ x∈L4++L5,U64 x from fun x hx=>by
    have hz:=(List.mem_append.1 hx).elim (fun k=>((F4.out.2.1 x).1 k).1) (fun k=>((F5.out.2.1 x).1 k).1)
    have:=whole_box hz
    exact ⟨by omega,by omega⟩)
   have nl:(L1.length:Int)+(L2.length:Int)=(L0.length:Int):=by have:=NL.out;omega
   have nb1:(L1.length:Int)≤20000:=by have:=F1.out.2.2;omega
   have nb2:(L2.length:Int)≤20000:=by have:=F2.out.2.2;omega
   have al:=allocB w9 (.cells #[] 36)
   have O0:=hidd (own_fresh w9)
   have la:=hidd ((R1.out.keep al).2.1)
   have A1:=hidd R1.out.2.2
   have A2:=hidd R2.out.2.2
   have Ln1:=hidd F1.out.2.2
   have Ln2:=hidd F2.out.2.2
   go_wp2_with (at_builtin;refine wpList_append_lst (by rfl) (.tmp 135) (.tmp 136) rfl w9.heap.size _ 0 [] rfl O0.out _ L1 rfl la.out A1.out (by have:=Ln1.out;omega) al.size ?_)
   intro va y1 ho1 hg1
   have dd1:Below w9.heap.size w9 y1:=al.grown hg1 al.size (own_block O0.out)
   have O1:=hidd ho1
   have lb:=hidd ((R2.out.keep dd1).2.1)
   have q1:=dd1.size
   obtain ⟨pa,ca,rfl,-⟩:=own_slice ho1
   clear al O0 la ho1 hg1 A1
   go_wp2_with (at_builtin;refine wpList_append_lst (by rfl) (.tmp 137) (.tmp 138) rfl w9.heap.size _ _ _ rfl O1.out _ L2 rfl lb.out A2.out (by have:=Ln1.out;have:=Ln2.out;omega) q1 ?_)
   intro vb y2 ho2 hg2
   have dd2:Below w9.heap.size w9 y2:=dd1.grown hg2 q1 (own_block O1.out)
   have O2:=hidd (show y2.ownsRow w9.heap.size 36 1 vb (L1++L2).length (vals (L1++L2)) from by
    rw [List.length_append,show vals (L1++L2)=vals L1++vals L2 by simp [vals]]
    simpa using ho2)
   obtain ⟨pb,cb,rfl,-⟩:=own_slice ho2
   have B10a:=hidd (B9.out.trans (dd2.mono B9.out.size))
   have H10a:=hidd (H9.out.below dd2)
   replace R0:=hidd (R0.out.keep dd2)
   replace R3:=hidd (R3.out.keep dd2)
   replace R4:=hidd (R4.out.keep dd2)
   replace R5:=hidd (R5.out.keep dd2)
   clear O1 ho2 hg2 dd2 dd1 lb A2 q1
   have ST:=hidd (rset_own (L1++L2) (by rw [List.length_append];have:=Ln1.out;have:=Ln2.out;omega) U1.out _ _ y2 O2.out)
   clear O2
   go_wp2_with fail
   refine ST.out.mono ?_
   rintro e y3 ⟨⟨s10,X10,rfl,r10,m10,n10,o10⟩,b10⟩
   obtain rfl:X10=L0:=join_two X10 m10 r10 F0.out.1 J1.out
   have B10b:=hidd (belowT B10a.out b10)
   have H10b:=hidd (H10a.out.below b10)
   replace R0:=hidd (R0.out.keep b10)
   replace R3:=hidd (R3.out.keep b10)
   replace R4:=hidd (R4.out.keep b10)
   replace R5:=hidd (R5.out.keep b10)
   have SM:=hidd (rsame 0 0 s10 _ X10 (by have:=F0.out.2.2;omega) y3 (rowat_ownQ o10) R0.out.1)
   obtain ⟨ps,cs,rfl,-⟩:=own_slice o10
   clear ST r10 m10 n10 o10 b10 B10a H10a
   go_wp2_with fail
   refine SM.out.mono ?_
   rintro e y4 ⟨rfl,b10⟩
   have B10c:=hidd (belowT B10b.out b10)
   have H10c:=hidd (H10b.out.below b10)
   replace R0:=hidd (R0.out.keep b10)
   replace R3:=hidd (R3.out.keep b10)
   replace R4:=hidd (R4.out.keep b10)
   replace R5:=hidd (R5.out.keep b10)
   clear SM b10 B10b H10b Ln1 Ln2
   have al:=allocB y4 (.cells #[] 36)
   have O0:=hidd (own_fresh y4)
   have la:=hidd ((R4.out.keep al).2.1)
   have A1:=hidd R4.out.2.2
   have A2:=hidd R5.out.2.2
   have Ln1:=hidd F4.out.2.2
   have Ln2:=hidd F5.out.2.2
   go_wp2_with (at_builtin;refine wpList_append_lst (by rfl) (.tmp 154) (.tmp 155) rfl y4.heap.size _ 0 [] rfl O0.out _ L4 rfl la.out A1.out (by have:=Ln1.out;omega) al.size ?_)
   intro va v1 ho1 hg1
   have dd1:Below y4.heap.size y4 v1:=al.grown hg1 al.size (own_block O0.out)
   have O1:=hidd ho1
   have lb:=hidd ((R5.out.keep dd1).2.1)
   have q1:=dd1.size
   obtain ⟨pa,ca,rfl,-⟩:=own_slice ho1
   clear al O0 la ho1 hg1 A1
   go_wp2_with (at_builtin;refine wpList_append_lst (by rfl) (.tmp 156) (.tmp 157) rfl y4.heap.size _ _ _ rfl O1.out _ L5 rfl lb.out A2.out (by have:=Ln1.out;have:=Ln2.out;omega) q1 ?_)
   intro vb v2 ho2 hg2
   have dd2:Below y4.heap.size y4 v2:=dd1.grown hg2 q1 (own_block O1.out)
   have O2:=hidd (show v2.ownsRow y4.heap.size 36 1 vb (L4++L5).length (vals (L4++L5)) from by
    rw [List.length_append,show vals (L4++L5)=vals L4++vals L5 by simp [vals]]
    simpa using ho2)
   obtain ⟨pb,cb,rfl,-⟩:=own_slice ho2
   have B11a:=hidd (B10c.out.trans (dd2.mono B10c.out.size))
   have H11a:=hidd (H10c.out.below dd2)
   replace R3:=hidd (R3.out.keep dd2)
   clear O1 ho2 hg2 dd2 dd1 lb A2 q1
   have ST:=hidd (rset_own (L4++L5) (by rw [List.length_append];have:=Ln1.out;have:=Ln2.out;omega) U2.out _ _ v2 O2.out)
   clear O2
   go_wp2_with fail
   refine ST.out.mono ?_
   rintro e v3 ⟨⟨s11,X11,rfl,r11,m11,n11,o11⟩,b11⟩
   obtain rfl:X11=L3:=join_two X11 m11 r11 F3.out.1 J2.out
   have B11b:=hidd (belowT B11a.out b11)
   have H11b:=hidd (H11a.out.below b11)
   replace R3:=hidd (R3.out.keep b11)
   have SM:=hidd (rsame 0 0 s11 _ X11 (by have:=F3.out.2.2;omega) v3 (rowat_ownQ o11) R3.out.1)
   obtain ⟨ps,cs,rfl,-⟩:=own_slice o11
   clear ST r11 m11 n11 o11 b11 B11a H11a
   go_wp2_with fail
   refine SM.out.mono ?_
   rintro e v4 ⟨rfl,b11⟩
   have B11c:=hidd (belowT B11b.out b11)
   have H11c:=hidd (H11b.out.below b11)
   replace R3:=hidd (R3.out.keep b11)
   clear SM b11 B11b H11b Ln1 Ln2
   go_wp2_with fail
   refine (AW.out _ H11c.out).mono ?_
   rintro e w20 ⟨rfl,b20⟩
   go_wp2_with fail
   go_ret
   exact ⟨rfl,belowT B11c.out b20⟩
end Go.Proofs.YtdklpgphmoaniabGreatDoor
