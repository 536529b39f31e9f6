/-
  The law FillHalves answers true for every five numbers, in whatever memory where the three tables hold what their texts lay.
-/
import Derived.Test.YtbnlhdnnenahfaaGreatDoorH1M
import Derived.Test.YtbnlhdnnenahfaaGreatDoorZBM
namespace Go.Proofs.YtbnlhdnnenahfaaGreatDoor
open Go.RowKit
theorem okay_halfA {x y u v:Int} (hx:0≤x∧x < 1073741824) (hy:0≤y∧y < 1073741824) (hu:0≤u∧u < 1073741824) (hv:0≤v∧v < 1073741824):Okay [halfA x y u v] :=
 okay_few (show 3≤3 by omega) (show 3≤500 by omega) fun p hp=>by
  unfold halfA at hp
  simp only [List.mem_cons,List.not_mem_nil,or_false] at hp
  unfold InWo
  rcases hp with rfl | rfl | rfl <;>dsimp only <;>omega
theorem okay_halfB {x y u v:Int} (hx:0≤x∧x < 1073741824) (hy:0≤y∧y < 1073741824) (hu:0≤u∧u < 1073741824) (hv:0≤v∧v < 1073741824):Okay [halfB x y u v] :=
 okay_few (show 3≤3 by omega) (show 3≤500 by omega) fun p hp=>by
  unfold halfB at hp
  simp only [List.mem_cons,List.not_mem_nil,or_false] at hp
  unfold InWo
  rcases hp with rfl | rfl | rfl <;>dsimp only <;>omega
theorem bx_halfA {x y u v:Int} (h1:x≤u) (h2:y≤v):Bx [halfA x y u v].flatten (x,y) (u,v):=by
 have e:[halfA x y u v].flatten=halfA x y u v:=by simp
 rw [e]
 unfold halfA
 refine ⟨fun p hp=>?_,⟨(x,y),by simp,rfl⟩,⟨(x,y),by simp,rfl⟩,⟨(u,v),by simp,rfl⟩,⟨(u,v),by simp,rfl⟩⟩
 simp only [List.mem_cons,List.not_mem_nil,or_false] at hp
 rcases hp with rfl | rfl | rfl <;>dsimp only <;>omega
theorem bx_halfB {x y u v:Int} (h1:x≤u) (h2:y≤v):Bx [halfB x y u v].flatten (x,y) (u,v):=by
 have e:[halfB x y u v].flatten=halfB x y u v:=by simp
 rw [e]
 unfold halfB
 refine ⟨fun p hp=>?_,⟨(x,y),by simp,rfl⟩,⟨(x,y),by simp,rfl⟩,⟨(u,v),by simp,rfl⟩,⟨(u,v),by simp,rfl⟩⟩
 simp only [List.mem_cons,List.not_mem_nil,or_false] at hp
 rcases hp with rfl | rfl | rfl <;>dsimp only <;>omega
theorem fil_halves {x y u v:Int} (hx:0≤x∧x < 1073741824) (hy:0≤y∧y < 1073741824) (hu:0≤u∧u < 1073741824) (hv:0≤v∧v < 1073741824) (h1:x≤u) (h2:y≤v) {K r:Nat} {z:Int} :
 FilS [box4 x y u v] K r z↔FilS [halfA x y u v] K r z∨FilS [halfB x y u v] K r z:=by
 unfold FilS
 rw [in_ring (okay_box4 hx hy hu hv),in_ring (okay_halfA hx hy hu hv),in_ring (okay_halfB hx hy hu hv),box_all]
 have k:=halves_all (s:=poX K (cellA z) (cellB z)) (t:=poY K (cellA z) (cellB z)) h1 h2
 rw [show min x u=x by omega,show max x u=u by omega,show min y v=y by omega,show max y v=v by omega]
 constructor
 · rintro ⟨a,b,c⟩
   exact (k.2 c).elim (fun d=>.inl ⟨a,b,d⟩) fun d=>.inr ⟨a,b,d⟩
 · rintro (⟨a,b,d⟩ | ⟨a,b,d⟩)
   · exact ⟨a,b,k.1 (.inl d)⟩
   · exact ⟨a,b,k.1 (.inr d)⟩
theorem fil_cut {x y u v:Int} (hx:0≤x∧x < 1073741824) (hy:0≤y∧y < 1073741824) (hu:0≤u∧u < 1073741824) (hv:0≤v∧v < 1073741824) (h1:x≤u) (h2:y≤v) {K r:Nat} {z:Int} (ha:FilS [halfA x y u v] K r z) (hb:FilS [halfB x y u v] K r z) :
 (poX K (cellA z) (cellB z) - x)*(v - y)=(poY K (cellA z) (cellB z) - y)*(u - x) :=
 halves_cut h1 h2 ((in_ring (okay_halfA hx hy hu hv)).1 ha.2).2 ((in_ring (okay_halfB hx hy hu hv)).1 hb.2).2
theorem fil_world {x y u v:Int} (h1:x≤u) (h2:y≤v) {K r:Nat} {z:Int} (ha:FilS [halfA x y u v] K r z) :
 x≤poX K (cellA z) (cellB z)∧poX K (cellA z) (cellB z)≤u∧y≤poY K (cellA z) (cellB z)∧poY K (cellA z) (cellB z)≤v:=in_bx (bx_halfA h1 h2) ha.2
theorem u64_of {x:Int} (h:Whole x):U64 x:=by have:=whole_box h;exact ⟨by omega,by omega⟩
theorem mem_two {A B:List Int} {x:Int} (h:x∈A++B) {P:Int→Prop} (hA:∀ x∈A,P x) (hB:∀ x∈B,P x):P x:=(List.mem_append.1 h).elim (hA x) (hB x)
set_option maxHeartbeats 16000000 in
set_option maxRecDepth 20000 in
theorem fillHalves_core (x y r0 w0 h0 X0 Y0 t s' u v U V p q:Int) (r K:Nat) (hK:K≤12) (hr:12 - (r:Int)=(K:Int)) (es:s'=(r:Int)) (e1:r0.tmod 13=t) (e2:(t+13).tmod 13=s') (t1: -13 < t) (t2:t < 13)
 (ex:bits .and .i64 X0 1073741823=x) (ey:bits .and .i64 Y0 1073741823=y) (hx:0≤x∧x < 1073741824) (hy:0≤y∧y < 1073741824)
 (eU:bits .and .i64 w0 4294967295=U) (eV:bits .and .i64 h0 4294967295=V) (ep:U.tmod (7*szK K)=p) (eq:V.tmod (7*szK K)=q) (hp:0≤p∧p < 7*szK K) (hq:0≤q∧q < 7*szK K)
 (eu:min (x+p) 1073741823=u) (ev:min (y+q) 1073741823=v) (W:World) (hT:Cov3 W) :
 Calls Tryz.prog 4 #[.int .i64 X0,.int .i64 Y0,.int .i64 w0,.int .i64 h0,.int .i64 r0] W fun e w'=>e=.returned (.bool true)∧Below W.heap.size W w':=by
 subst es
 have hu:0≤u∧u < 1073741824:=by omega
 have hv:0≤v∧v < 1073741824:=by omega
 have hxu:x≤u:=by omega
 have hyv:y≤v:=by omega
 have hsz:=sz_in hK
 have hfew:¬ Many K x y u v r 20000:=few_box hK (by omega) (by omega)
 have bxL:Bx [box4 x y u v].flatten (x,y) (u,v):=by
  have:=bx_box4 (a:=x) (b:=y) (c:=u) (d:=v)
  rwa [show min x u=x by omega,show max x u=u by omega,show min y v=y by omega,show max y v=v by omega] at this
 have FL:=hidd fun sG w h1 h2=>f_fill sG [box4 x y u v] (okay_box4 hx hy hu hv) _ _ bxL r K hK hr hfew w h1 h2
 have FA:=hidd fun sG w h1 h2=>f_fill sG [halfA x y u v] (okay_halfA hx hy hu hv) _ _ (bx_halfA hxu hyv) r K hK hr hfew w h1 h2
 have FB:=hidd fun sG w h1 h2=>f_fill sG [halfB x y u v] (okay_halfB hx hy hu hv) _ _ (bx_halfB hxu hyv) r K hK hr hfew w h1 h2
 have JO:=hidd fun z=>fil_halves (K:=K) (r:=r) (z:=z) hx hy hu hv hxu hyv
 have CU:=hidd fun z=>fil_cut (K:=K) (r:=r) (z:=z) hx hy hu hv hxu hyv
 have BD:=hidd fun z=>fil_world (K:=K) (r:=r) (z:=z) hxu hyv
 have AW:=hidd fun w h=>fawake w h
 have HT:=hidd hT
 have hr12:(r:Int)≤12:=by omega
 clear hT bxL hfew
 go_enter Tryz.func4,Tryz.ntmps4
 go_wp2_with fail
 go_loopw [11,12] (fun v11 v12 wr=>∃ (i:Nat) (S:Int),r≤i∧i≤12∧v11=.int .i64 S∧v12=.int .i64 (i:Int)∧Hid (S=szK (i - r))∧(52≤S∧S≤7000000)∧wr=W) (fun _ v12 _=>12 - (intOf v12).toNat)
 case atStart=>exact ⟨r,52,Nat.le_refl _,by omega,rfl,rfl,hidd (by rw [Nat.sub_self];rfl),by omega,rfl⟩
 case round =>
  obtain ⟨i,S,i1,i2,rfl,rfl,eS,hS,rfl⟩:=hrel
  rcases Nat.lt_or_ge i 12 with c | c
  · have et:(S*8).tdiv 3=S*8 / 3:=Int.tdiv_eq_ediv_of_nonneg (by omega)
    have eS':Hid (S*8 / 3=szK (i+1 - r)):=hidd (by rw [show i+1 - r=(i - r)+1 by omega,eS.out];rfl)
    have hS':=sz_in (K:=i+1 - r) (by omega)
    rw [← eS'.out] at hS'
    clear eS
    go_wp2_with fail
    go_roundw
    case rel=>exact ⟨i+1,S*8 / 3,by omega,by omega,rfl,by go_num,eS',hS',trivial⟩
    case measure=>simp [intOf];omega
  · obtain rfl:i=12:=by omega
    have hE:szK K=S:=by rw [eS.out];congr 1;omega
    rw [hE] at ep eq hp hq
    clear eS hE
    go_wp2_with fail
    have f1:IntKind.i64.wrap (7*S)=7*S:=by rw [IntKind.wrap_i64];omega
    have f2:IntKind.i64.wrap p=p:=by rw [IntKind.wrap_i64];omega
    have f3:IntKind.i64.wrap q=q:=by rw [IntKind.wrap_i64];omega
    have f4:IntKind.i64.wrap (x+p)=x+p:=by rw [IntKind.wrap_i64];omega
    have f5:IntKind.i64.wrap (y+q)=y+q:=by rw [IntKind.wrap_i64];omega
    go_quiet (fail)
    have bN:=belowN (Below.refl wr.heap.size wr) nq
    have HT0:=hidd (HT.out.below bN)
    have B0:=hidd bN
    clear HT bN
    generalize wr.drewN nq=w9 at *
    clear f1 f2 f3 f4 f5 ep eq
    have L1:Hid (RingL (w9.alloc (.cells #[.int .i64 x,.int .i64 y,.int .i64 u,.int .i64 y,.int .i64 u,.int .i64 v,.int .i64 x,.int .i64 v] 26)) (.slice (some ⟨w9.heap.size,0,none⟩) 4 4) (box4 x y u v)):=hidd (lit_ring w9 (box4 x y u v) 26)
    have L2:=hidd (lit_rings1_next _ _ _ _ 27 L1.out)
    have B2:=hidd (belowT (belowT B0.out (allocB w9 (.cells #[.int .i64 x,.int .i64 y,.int .i64 u,.int .i64 y,.int .i64 u,.int .i64 v,.int .i64 x,.int .i64 v] 26))) (allocB (w9.alloc (.cells #[.int .i64 x,.int .i64 y,.int .i64 u,.int .i64 y,.int .i64 u,.int .i64 v,.int .i64 x,.int .i64 v] 26)) (.cells #[.slice (some ⟨w9.heap.size,0,none⟩) 4 4] 27)))
    have H2:=hidd ((HT0.out.below (allocB w9 (.cells #[.int .i64 x,.int .i64 y,.int .i64 u,.int .i64 y,.int .i64 u,.int .i64 v,.int .i64 x,.int .i64 v] 26))).below (allocB (w9.alloc (.cells #[.int .i64 x,.int .i64 y,.int .i64 u,.int .i64 y,.int .i64 u,.int .i64 v,.int .i64 x,.int .i64 v] 26)) (.cells #[.slice (some ⟨w9.heap.size,0,none⟩) 4 4] 27)))
    clear L1 HT0 B0
    go_wp2_with fail
    refine (FL.out _ _ L2.out H2.out).mono ?_
    rintro e w10 ⟨⟨vL,L,rfl,a1,a2,a3,a4⟩,b10⟩
    have R10:=hidd ((own_row a4).mono (Nat.zero_le _))
    have PL:=hidd (And.intro a1 (And.intro a2 a3))
    obtain ⟨pL,cL,rfl,-⟩:=own_slice a4
    have B10:=hidd (belowT B2.out b10)
    have H10:=hidd (H2.out.below b10)
    clear FL L2 B2 H2 a1 a2 a3 a4 b10
    have al1:=allocB w10 (.cells #[.int .i64 x,.int .i64 y,.int .i64 u,.int .i64 y,.int .i64 u,.int .i64 v] 26)
    have al2:=allocB (w10.alloc (.cells #[.int .i64 x,.int .i64 y,.int .i64 u,.int .i64 y,.int .i64 u,.int .i64 v] 26)) (.cells #[.slice (some ⟨w10.heap.size,0,none⟩) 3 3] 27)
    have L3:Hid (RingL (w10.alloc (.cells #[.int .i64 x,.int .i64 y,.int .i64 u,.int .i64 y,.int .i64 u,.int .i64 v] 26)) (.slice (some ⟨w10.heap.size,0,none⟩) 3 3) (halfA x y u v)):=hidd (lit_ring w10 (halfA x y u v) 26)
    have L4:=hidd (lit_rings1_next _ _ _ _ 27 L3.out)
    have H11:=hidd ((H10.out.below al1).below al2)
    have B11:=hidd (belowT (belowT B10.out al1) al2)
    have R11:=hidd ((R10.out.keep al1).keep al2)
    clear al1 al2 L3 H10 B10 R10
    obtain ⟨nL,eL⟩:∃ nL,L.length=nL:=⟨_,rfl⟩
    rw [eL] at R11 ⊢
    go_wp2_with fail
    refine (FA.out _ _ L4.out H11.out).mono ?_
    rintro e w12 ⟨⟨vA,A,rfl,a1,a2,a3,a4⟩,b12⟩
    have RA:=hidd ((own_row a4).mono (Nat.zero_le _))
    have TA:=hidd (Lst.own a4)
    have AA:=hidd (own_addr a4)
    have PA:=hidd (And.intro a1 (And.intro a2 a3))
    obtain ⟨pA,cA,rfl,-⟩:=own_slice a4
    have B12:=hidd (belowT B11.out b12)
    have H12:=hidd (H11.out.below b12)
    have R12:=hidd (R11.out.keep b12)
    clear FA L4 B11 H11 R11 a1 a2 a3 a4 b12
    have al1:=allocB w12 (.cells #[.int .i64 x,.int .i64 y,.int .i64 u,.int .i64 v,.int .i64 x,.int .i64 v] 26)
    have al2:=allocB (w12.alloc (.cells #[.int .i64 x,.int .i64 y,.int .i64 u,.int .i64 v,.int .i64 x,.int .i64 v] 26)) (.cells #[.slice (some ⟨w12.heap.size,0,none⟩) 3 3] 27)
    have L5:Hid (RingL (w12.alloc (.cells #[.int .i64 x,.int .i64 y,.int .i64 u,.int .i64 v,.int .i64 x,.int .i64 v] 26)) (.slice (some ⟨w12.heap.size,0,none⟩) 3 3) (halfB x y u v)):=hidd (lit_ring w12 (halfB x y u v) 26)
    have L6:=hidd (lit_rings1_next _ _ _ _ 27 L5.out)
    have H13:=hidd ((H12.out.below al1).below al2)
    have B13:=hidd (belowT (belowT B12.out al1) al2)
    have R13:=hidd ((R12.out.keep al1).keep al2)
    have RA13:=hidd ((RA.out.keep al1).keep al2)
    have TA13:=hidd ((TA.out.keep al1).keep al2)
    clear al1 al2 L5 H12 B12 R12 RA TA
    obtain ⟨nA,eA⟩:∃ nA,A.length=nA:=⟨_,rfl⟩
    have EA:=hidd eA
    rw [eA] at AA RA13 TA13 ⊢
    go_wp2_with fail
    refine (FB.out _ _ L6.out H13.out).mono ?_
    rintro e w14 ⟨⟨vB,B,rfl,a1,a2,a3,a4⟩,b14⟩
    have RB:=hidd ((own_row a4).mono (Nat.zero_le _))
    have TB:=hidd (Lst.own a4)
    have AB:=hidd (own_addr a4)
    have PB:=hidd (And.intro a1 (And.intro a2 a3))
    obtain ⟨pB,cB,rfl,-⟩:=own_slice a4
    have B14:=hidd (belowT B13.out b14)
    have H14:=hidd (H13.out.below b14)
    have R14:=hidd (R13.out.keep b14)
    have RA14:=hidd (RA13.out.keep b14)
    have TA14:=hidd (TA13.out.keep b14)
    clear FB L6 B13 H13 R13 RA13 TA13 a1 a2 a3 a4 b14
    obtain ⟨nB,eB⟩:∃ nB,B.length=nB:=⟨_,rfl⟩
    have EB:=hidd eB
    rw [eB] at AB RB TB ⊢
    have nb1:(nA:Int)≤20000:=by have:=PA.out.1;omega
    have nb2:(nB:Int)≤20000:=by have:=PB.out.1;omega
    have JX:Hid (∀ z,z∈L↔z∈A∨z∈B):=hidd fun z=>by rw [PL.out.2.2 z,PA.out.2.2 z,PB.out.2.2 z];exact JO.out z
    have U1:Hid (∀ z∈A++B,U64 z):=hidd fun z hz=>by
     have hw:Whole z:=mem_two hz (fun z k=>((PA.out.2.2 z).1 k).1.1) fun z k=>((PB.out.2.2 z).1 k).1.1
     have:=whole_box hw
     exact ⟨by omega,by omega⟩
    have al:=allocB w14 (.cells #[] 35)
    have O0:=hidd (own_fresh w14)
    have la:=hidd (TA14.out.keep al)
    clear JO eA eB eL
    go_wp2_with (at_builtin;refine wpList_append_lst (by rfl) (.tmp 121) (.tmp 122) rfl w14.heap.size _ 0 [] rfl O0.out _ A rfl la.out AA.out (by have:=EA.out;omega) al.size ?_)
    intro va y1 ho1 hg1
    have dd1:Below w14.heap.size w14 y1:=al.grown hg1 al.size (own_block O0.out)
    have O1:=hidd ho1
    have lb:=hidd (TB.out.keep dd1)
    have q1:=dd1.size
    obtain ⟨pa,ca,rfl,-⟩:=own_slice ho1
    clear al O0 la ho1 hg1
    go_wp2_with (at_builtin;refine wpList_append_lst (by rfl) (.tmp 123) (.tmp 124) rfl w14.heap.size _ _ _ rfl O1.out _ B rfl lb.out AB.out (by have:=EA.out;have:=EB.out;omega) q1 ?_)
    intro vb y2 ho2 hg2
    have dd2:Below w14.heap.size w14 y2:=dd1.grown hg2 q1 (own_block O1.out)
    have O2:=hidd (show y2.ownsRow w14.heap.size 35 1 vb (A++B).length (vals (A++B)) from by
     rw [List.length_append,show vals (A++B)=vals A++vals B by simp [vals]]
     simpa using ho2)
    obtain ⟨pb,cb,rfl,-⟩:=own_slice ho2
    have B15:=hidd (B14.out.trans (dd2.mono B14.out.size))
    have H15:=hidd (H14.out.below dd2)
    have R15:=hidd (R14.out.keep dd2)
    have RA15:=hidd (RA14.out.keep dd2)
    have RB15:=hidd (RB.out.keep dd2)
    clear O1 ho2 hg2 dd2 dd1 lb q1 B14 H14 R14 RA14 RB TA14 TB AA AB
    have ST:=hidd (rset_own (A++B) (by rw [List.length_append];have:=EA.out;have:=EB.out;omega) U1.out _ _ y2 O2.out)
    clear O2 U1
    go_wp2_with fail
    refine ST.out.mono ?_
    rintro e y3 ⟨⟨s10,X10,rfl,r10,m10,n10,o10⟩,b16⟩
    obtain rfl:X10=L:=rising_ext r10 PL.out.2.1 fun z=>by rw [m10,List.mem_append,JX.out z]
    have B16:=hidd (belowT B15.out b16)
    have H16:=hidd (H15.out.below b16)
    have R16:=hidd (R15.out.keep b16)
    have RA16:=hidd (RA15.out.keep b16)
    have RB16:=hidd (RB15.out.keep b16)
    have SM:=hidd (rsame 0 0 s10 _ X10 (by have:=PL.out.1;omega) y3 ((own_row o10).mono (Nat.zero_le _)) R16.out)
    obtain ⟨ps,cs,rfl,-⟩:=own_slice o10
    clear ST r10 m10 n10 o10 b16 B15 H15 R15 RA15 RB15 JX R16
    go_wp2_with fail
    refine SM.out.mono ?_
    rintro e y4 ⟨rfl,b17⟩
    have B17:=hidd (belowT B16.out b17)
    have H17:=hidd (H16.out.below b17)
    have RA17:=hidd (RA16.out.keep b17)
    have RB17:=hidd (RB16.out.keep b17)
    clear SM b17 B16 H16 RA16 RB16 PL
    go_wp2_with fail
    go_loopw [21] (fun v21 wr=>∃ j:Nat,j≤nA∧v21=.int .i64 (j:Int)∧Hid (Below y4.heap.size y4 wr)) (fun v21 _=>nA - (intOf v21).toNat)
    case atStart=>exact ⟨0,by omega,rfl,hidd (Below.refl _ _)⟩
    case round =>
     obtain ⟨j,hj,rfl,BJ⟩:=hrel
     by_cases hjn:j < nA
     · have hjn':(j:Int) < (nA:Int):=by omega
       have hjA:j < A.length:=by rw [EA.out];exact hjn
       have RAj:=RA17.out.keep BJ.out
       obtain ⟨p',c',e',hp⟩:=RAj.form
       simp only [Value.slice.injEq] at e'
       obtain ⟨rfl,-,rfl⟩:=e'
       obtain ⟨g,rfl,x0⟩:=hp j hjA
       have zA:A[j]∈A:=List.getElem_mem hjA
       have HA1:=hidd (rhas 0 (.slice pB nB cB) B A[j] (u64_of ((PA.out.2.2 A[j]).1 zA).1.1) PB.out.2.1 (fun y hy=>u64_of ((PB.out.2.2 y).1 hy).1.1) (by have:=PB.out.1;omega) wr (RB17.out.keep BJ.out))
       have FZ:=hidd ((PA.out.2.2 A[j]).1 zA)
       have CE:=hidd fun w=>rwcell_yes A[j] FZ.out.1.1 w
       have pt4:=ok4_part (cell_ok FZ.out.1.1)
       have PO:=hidd fun w=>rcentre_yes (cellA A[j]) (cellB A[j]) (wR A[j]) K hK (by rw [FZ.out.1.2];exact hr) ⟨by omega,by omega⟩ ⟨by omega,by omega⟩ w
       have bd:=BD.out A[j] FZ.out
       have CT:Hid (A[j]∈B→(poX K (cellA A[j]) (cellB A[j]) - x)*(v - y)=(poY K (cellA A[j]) (cellB A[j]) - y)*(u - x)):=hidd fun h=>CU.out A[j] FZ.out ((PB.out.2.2 _).1 h)
       clear RAj hp pt4 FZ zA
       obtain ⟨tb,etb⟩:∃ tb,decide (A[j]∈B)=tb:=⟨_,rfl⟩
       rw [etb] at HA1
       have CT2:Hid (tb=true→(poX K (cellA A[j]) (cellB A[j]) - x)*(v - y)=(poY K (cellA A[j]) (cellB A[j]) - y)*(u - x)):=hidd fun h=>CT.out (of_decide_eq_true (by rw [etb];exact h))
       clear CT etb
       generalize poX K (cellA A[j]) (cellB A[j])=PX at *
       generalize poY K (cellA A[j]) (cellB A[j])=PY at *
       generalize cellA A[j]=ca at *
       generalize cellB A[j]=cb at *
       generalize wR A[j]=rr at *
       generalize A[j]=z at *
       cases tb
       · go_wp2_with fail
         refine HA1.out.mono ?_
         rintro e z1 ⟨rfl,c1⟩
         have BJ1:=hidd (belowT BJ.out c1)
         clear HA1 c1 BJ CE PO CT2 x0
         go_wp2_with fail
         go_roundw
         case rel=>exact ⟨j+1,by omega,by go_num,BJ1⟩
         case measure=>simp [intOf];omega
       · have EQ:=CT2.out rfl
         obtain ⟨b1,b2,b3,b4⟩:=bd
         have TM1:=hidd fun w=>times_any (PX - x) (v - y) (by omega) (by omega) (by omega) (by omega) w
         have TM2:=hidd fun w=>times_any (PY - y) (u - x) (by omega) (by omega) (by omega) (by omega) w
         rw [EQ] at TM1
         have g1:IntKind.i64.wrap (PX - x)=PX - x:=by rw [IntKind.wrap_i64];omega
         have g2:IntKind.i64.wrap (v - y)=v - y:=by rw [IntKind.wrap_i64];omega
         have g3:IntKind.i64.wrap (PY - y)=PY - y:=by rw [IntKind.wrap_i64];omega
         have g4:IntKind.i64.wrap (u - x)=u - x:=by rw [IntKind.wrap_i64];omega
         clear EQ CT2
         generalize high64 ((PY - y)*(u - x))=hh at *
         generalize low64 ((PY - y)*(u - x))=hl at *
         go_wp2_with fail
         refine HA1.out.mono ?_
         rintro e z1 ⟨rfl,c1⟩
         have BJ1:=hidd (belowT BJ.out c1)
         replace x0:=keepCell c1 x0
         clear HA1 c1 BJ
         go_wp2_with fail
         refine (CE.out _).mono ?_
         rintro e z2 ⟨rfl,c2⟩
         have BJ2:=hidd (belowT (belowT BJ1.out c2) (allocB z2 (.cells #[.int .i64 rr,.int .i64 ca,.int .i64 cb] 39)))
         clear CE c2 BJ1 x0
         go_wp2_with fail
         generalize z2.alloc (.cells #[.int .i64 rr,.int .i64 ca,.int .i64 cb] 39)=z3 at *
         refine (PO.out _).mono ?_
         rintro e z4 ⟨rfl,c4⟩
         have BJ4:=hidd (belowT BJ2.out c4)
         clear PO c4 BJ2
         go_wp2_with fail
         refine (TM1.out _).mono ?_
         rintro e z5 ⟨rfl,c5⟩
         have BJ5:=hidd (belowT BJ4.out c5)
         clear TM1 c5 BJ4
         go_wp2_with fail
         refine (TM2.out _).mono ?_
         rintro e z6 ⟨rfl,c6⟩
         have BJ6:=hidd (belowT BJ5.out c6)
         clear TM2 c6 BJ5
         go_wp2_with fail
         go_roundw
         case rel=>exact ⟨j+1,by omega,by go_num,BJ6⟩
         case measure=>simp [intOf];omega
     · obtain rfl:j=nA:=by omega
       have hjn':decide ((j:Int) < (j:Int))=false:=by simp
       have H18:=hidd (H17.out.below BJ.out)
       have B18:=hidd (belowT B17.out BJ.out)
       go_wp2_with fail
       refine (AW.out _ H18.out).mono ?_
       rintro e z1 ⟨rfl,c1⟩
       go_wp2_with fail
       go_ret
       exact ⟨rfl,belowT B18.out c1⟩
theorem fillHalves_walk (X0 Y0 w0 h0 r0:Int) (W:World) (hT:Cov3 W) (_: -9223372036854775808≤X0) (_:X0≤9223372036854775807) (_: -9223372036854775808≤Y0) (_:Y0≤9223372036854775807) (_: -9223372036854775808≤w0) (_:w0≤9223372036854775807) (_: -9223372036854775808≤h0) (_:h0≤9223372036854775807) (_: -9223372036854775808≤r0) (_:r0≤9223372036854775807) :
 Calls Tryz.prog 4 #[.int .i64 X0,.int .i64 Y0,.int .i64 w0,.int .i64 h0,.int .i64 r0] W fun e w'=>e=.returned (.bool true)∧Below W.heap.size W w':=by
 obtain ⟨t,s',K,e1,e2,t1,t2,hK,hs⟩:=size13 r0
 obtain ⟨r,es⟩:∃ r:Nat,s'=(r:Int):=⟨s'.toNat,by have h:=e2;rw [Int.tmod_eq_emod_of_nonneg (by omega)] at h;omega⟩
 have hz:=sz_in hK
 obtain ⟨U,p,eU,-,-,ep,p1,p2⟩:=rem_num w0 (7*szK K) (by omega)
 obtain ⟨V,q,eV,-,-,eq,q1,q2⟩:=rem_num h0 (7*szK K) (by omega)
 exact fillHalves_core (X0%1073741824) (Y0%1073741824) r0 w0 h0 X0 Y0 t s' _ _ U V p q r K hK (by rw [← es];exact hs) es e1 e2 t1 t2 (mask30 X0) (mask30 Y0) (by omega) (by omega) eU eV ep eq ⟨p1,p2⟩ ⟨q1,q2⟩ rfl rfl W hT
end Go.Proofs.YtbnlhdnnenahfaaGreatDoor
