/-
  The law FillBoxes answers true for every five numbers, in whatever memory where the three tables hold what their texts lay.
-/
import Derived.Test.YtbnlhdnnenahfaaGreatDoorFXM
namespace Go.Proofs.YtbnlhdnnenahfaaGreatDoor
open Go.RowKit
theorem rem_num (w0 z:Int) (hz:0 < z):∃ U u:Int,bits .and .i64 w0 4294967295=U∧0≤U∧U < 4294967296∧U.tmod z=u∧0≤u∧u < z:=by
 rw [mask32]
 refine ⟨_,_,rfl,by omega,by omega,rfl,?_,?_⟩
 · rw [Int.tmod_eq_emod_of_nonneg (by omega)];exact Int.emod_nonneg _ (by omega)
 · rw [Int.tmod_eq_emod_of_nonneg (by omega)];exact Int.emod_lt_of_pos _ (by omega)
set_option maxHeartbeats 16000000 in
set_option maxRecDepth 20000 in
theorem fillBoxes_core (x y r0 w0 h0 X0 Y0 t s' u v U V p q:Int) (r K:Nat) (hK:K≤12) (hr:12 - (r:Int)=(K:Int)) (es:s'=(r:Int)) (e1:r0.tmod 13=t) (e2:(t+13).tmod 13=s') (t1: -13 < t) (t2:t < 13)
 (ex:bits .and .i64 X0 1073741823=x) (ey:bits .and .i64 Y0 1073741823=y) (hx:0≤x∧x < 1073741824) (hy:0≤y∧y < 1073741824)
 (eU:bits .and .i64 w0 4294967295=U) (eV:bits .and .i64 h0 4294967295=V) (ep:U.tmod (7*szK K)=p) (eq:V.tmod (7*szK K)=q) (hp:0≤p∧p < 7*szK K) (hq:0≤q∧q < 7*szK K)
 (eu:min (x+p) 1073741823=u) (ev:min (y+q) 1073741823=v) (W:World) (hT:Cov3 W) :
 Calls Tryz.prog 3 #[.int .i64 X0,.int .i64 Y0,.int .i64 w0,.int .i64 h0,.int .i64 r0] W fun e w'=>e=.returned (.bool true)∧Below W.heap.size W w':=by
 subst es
 have hu:0≤u∧u < 1073741824:=by omega
 have hv:0≤v∧v < 1073741824:=by omega
 have hxu:x≤u:=by omega
 have hyv:y≤v:=by omega
 have hsz:=sz_in hK
 have m1:min x u=x∧max x u=u∧min y v=y∧max y v=v∧min v y=y∧max v y=v:=by omega
 have bxA:Bx [box4 x y u v].flatten (x,y) (u,v):=by have:=bx_box4 (a:=x) (b:=y) (c:=u) (d:=v);rw [m1.1,m1.2.1,m1.2.2.1,m1.2.2.2.1] at this;exact this
 have bxC:Bx [box4 x v u y].flatten (x,y) (u,v):=by have:=bx_box4 (a:=x) (b:=v) (c:=u) (d:=y);rw [m1.1,m1.2.1,m1.2.2.2.2.1,m1.2.2.2.2.2] at this;exact this
 have hfew:¬ Many K x y u v r 20000:=few_box hK (by omega) (by omega)
 have FA:=hidd fun sG w h1 h2=>f_fill sG [box4 x y u v] (okay_box4 hx hy hu hv) _ _ bxA r K hK hr hfew w h1 h2
 have FC:=hidd fun sG w h1 h2=>f_fill sG [box4 x v u y] (okay_box4 hx hv hu hy) _ _ bxC r K hK hr hfew w h1 h2
 have CE:=hidd fun w h=>p_centres x y u v r K hK hr hx.1 hy.1 hu.2 hv.2 hxu hyv w h
 have RW:Hid (∀ (e:Ending) (w:World),TellsCC K r x y u v e w→∃ s L,e=.returned (.tuple #[s,.int .i64 0])∧RowAt 0 w s L∧Rising L∧(∀ z,z∈L↔(Whole z∧wR z=(r:Int))∧inCB K x y u v z=true)∧L.length≤20000):=hidd fun e w h=>by
  obtain ⟨s,L,h1,h2,h3,h4,h5⟩:=h.row hfew
  exact ⟨s,L,h1,h2,h3,fun z=>(h4 z).trans (cen_box hK),h5⟩
 have MA:Hid (∀ z,FilS [box4 x y u v] K r z↔(Whole z∧wR z=(r:Int))∧inCB K x y u v z=true):=hidd fun z=>by
  have:=fil_box4 (K:=K) (r:=r) (x:=z) hx hy hu hv
  rw [m1.1,m1.2.1,m1.2.2.1,m1.2.2.2.1] at this
  exact this
 have MC:Hid (∀ z,FilS [box4 x v u y] K r z↔(Whole z∧wR z=(r:Int))∧inCB K x y u v z=true):=hidd fun z=>by
  have:=fil_box4 (K:=K) (r:=r) (x:=z) hx hv hu hy
  rw [m1.1,m1.2.1,m1.2.2.2.2.1,m1.2.2.2.2.2] at this
  exact this
 have AW:=hidd fun w h=>fawake w h
 have HT:=hidd hT
 have hr12:(r:Int)≤12:=by omega
 clear hT bxA bxC hfew m1
 go_enter Tryz.func3,Tryz.ntmps3
 go_wp2_with fail
 go_loopw [11,12] (fun v11 v12 wr=>∃ (i:Nat) (S:Int),r≤i∧i≤12∧v11=.int .i64 S∧v12=.int .i64 (i:Int)∧Hid (S=szK (i - r))∧(52≤S∧S≤7000000)∧wr=W) (fun _ v12 _=>12 - (intOf v12).toNat)
 case atStart=>exact ⟨r,52,Nat.le_refl _,by omega,rfl,rfl,hidd (by rw [Nat.sub_self];rfl),by omega,rfl⟩
 case round =>
  obtain ⟨i,S,i1,i2,rfl,rfl,eS,hS,rfl⟩:=hrel
  rcases Nat.lt_or_ge i 12 with c | c
  · have et:(S*8).tdiv 3=S*8 / 3:=Int.tdiv_eq_ediv_of_nonneg (by omega)
    have eS':Hid (S*8 / 3=szK (i+1 - r)):=hidd (by rw [show i+1 - r=(i - r)+1 by omega,eS.out];rfl)
    have hS':=sz_in (K:=i+1 - r) (by omega)
    rw [← eS'.out] at hS'
    clear eS
    go_wp2_with fail
    go_roundw
    case rel=>exact ⟨i+1,S*8 / 3,by omega,by omega,rfl,by go_num,eS',hS',trivial⟩
    case measure=>simp [intOf];omega
  · obtain rfl:i=12:=by omega
    have hE:szK K=S:=by rw [eS.out];congr 1;omega
    rw [hE] at ep eq hp hq
    clear eS hE
    go_wp2_with fail
    have f1:IntKind.i64.wrap (7*S)=7*S:=by rw [IntKind.wrap_i64];omega
    have f2:IntKind.i64.wrap p=p:=by rw [IntKind.wrap_i64];omega
    have f3:IntKind.i64.wrap q=q:=by rw [IntKind.wrap_i64];omega
    have f4:IntKind.i64.wrap (x+p)=x+p:=by rw [IntKind.wrap_i64];omega
    have f5:IntKind.i64.wrap (y+q)=y+q:=by rw [IntKind.wrap_i64];omega
    go_quiet (fail)
    have bN:=belowN (Below.refl wr.heap.size wr) nq
    have HT0:=hidd (HT.out.below bN)
    have B0:=hidd bN
    clear HT bN
    generalize wr.drewN nq=w9 at *
    clear f1 f2 f3 f4 f5 ep eq
    have L1:Hid (RingL (w9.alloc (.cells #[.int .i64 x,.int .i64 y,.int .i64 u,.int .i64 y,.int .i64 u,.int .i64 v,.int .i64 x,.int .i64 v] 26)) (.slice (some ⟨w9.heap.size,0,none⟩) 4 4) (box4 x y u v)):=hidd (lit_ring w9 (box4 x y u v) 26)
    have L2:=hidd (lit_rings1_next _ _ _ _ 27 L1.out)
    have B2:=hidd (belowT (belowT B0.out (allocB w9 (.cells #[.int .i64 x,.int .i64 y,.int .i64 u,.int .i64 y,.int .i64 u,.int .i64 v,.int .i64 x,.int .i64 v] 26))) (allocB (w9.alloc (.cells #[.int .i64 x,.int .i64 y,.int .i64 u,.int .i64 y,.int .i64 u,.int .i64 v,.int .i64 x,.int .i64 v] 26)) (.cells #[.slice (some ⟨w9.heap.size,0,none⟩) 4 4] 27)))
    have H2:=hidd ((HT0.out.below (allocB w9 (.cells #[.int .i64 x,.int .i64 y,.int .i64 u,.int .i64 y,.int .i64 u,.int .i64 v,.int .i64 x,.int .i64 v] 26))).below (allocB (w9.alloc (.cells #[.int .i64 x,.int .i64 y,.int .i64 u,.int .i64 y,.int .i64 u,.int .i64 v,.int .i64 x,.int .i64 v] 26)) (.cells #[.slice (some ⟨w9.heap.size,0,none⟩) 4 4] 27)))
    clear L1 HT0 B0
    go_wp2_with fail
    refine (FA.out _ _ L2.out H2.out).mono ?_
    rintro e w10 ⟨⟨va,LA,rfl,a1,a2,a3,a4⟩,b10⟩
    have A10:=hidd ((own_row a4).mono (Nat.zero_le _))
    have PA:=hidd (And.intro a1 (And.intro a2 fun z=>(a3 z).trans (MA.out z)))
    have B10:=hidd (belowT B2.out b10)
    have H10:=hidd (H2.out.below b10)
    clear FA MA L2 B2 H2 a1 a2 a3 a4 b10
    go_wp2_with fail
    refine (CE.out _ H10.out).mono ?_
    rintro e w11 ⟨hC,b11⟩
    obtain ⟨sb,LB,rfl,c1,c2,c3,c4⟩:=RW.out _ _ hC
    obtain rfl:LB=LA:=same_rows c2 PA.out.2.1 c3 PA.out.2.2
    have C11:=hidd c1
    have A11:=hidd (A10.out.keep b11)
    have al1:=allocB w11 (.cells #[.int .i64 x,.int .i64 v,.int .i64 u,.int .i64 v,.int .i64 u,.int .i64 y,.int .i64 x,.int .i64 y] 26)
    have al2:=allocB (w11.alloc (.cells #[.int .i64 x,.int .i64 v,.int .i64 u,.int .i64 v,.int .i64 u,.int .i64 y,.int .i64 x,.int .i64 y] 26)) (.cells #[.slice (some ⟨w11.heap.size,0,none⟩) 4 4] 27)
    have L3:Hid (RingL (w11.alloc (.cells #[.int .i64 x,.int .i64 v,.int .i64 u,.int .i64 v,.int .i64 u,.int .i64 y,.int .i64 x,.int .i64 y] 26)) (.slice (some ⟨w11.heap.size,0,none⟩) 4 4) (box4 x v u y)):=hidd (lit_ring w11 (box4 x v u y) 26)
    have L4:=hidd (lit_rings1_next _ _ _ _ 27 L3.out)
    have H12:=hidd (((H10.out.below b11).below al1).below al2)
    have B12:=hidd (belowT (belowT (belowT B10.out b11) al1) al2)
    have A12:=hidd ((A11.out.keep al1).keep al2)
    have C12:=hidd ((C11.out.keep al1).keep al2)
    clear CE RW hC c1 c2 c3 c4 b11 A10 A11 C11 al1 al2 L3 H10 B10
    go_wp2_with fail
    refine (FC.out _ _ L4.out H12.out).mono ?_
    rintro e w13 ⟨⟨vc,LC,rfl,d1,d2,d3,d4⟩,b13⟩
    obtain rfl:LC=LB:=same_rows d2 PA.out.2.1 (fun z=>(d3 z).trans (MC.out z)) PA.out.2.2
    have D13:=hidd ((own_row d4).mono (Nat.zero_le _))
    have A13:=hidd (A12.out.keep b13)
    have C13:=hidd (C12.out.keep b13)
    have H13:=hidd (H12.out.below b13)
    have B13:=hidd (belowT B12.out b13)
    have SM:=hidd fun s t w h1 h2=>rsame 0 0 s t LC (by omega) w h1 h2
    clear FC MC L4 H12 B12 A12 C12 d1 d2 d3 d4 b13 PA
    go_wp2_with fail
    refine (SM.out _ _ _ A13.out C13.out).mono ?_
    rintro e w14 ⟨rfl,b14⟩
    have A14:=hidd (A13.out.keep b14)
    have D14:=hidd (D13.out.keep b14)
    have H14:=hidd (H13.out.below b14)
    have B14:=hidd (belowT B13.out b14)
    clear A13 C13 D13 H13 B13 b14
    go_wp2_with fail
    refine (SM.out _ _ _ A14.out D14.out).mono ?_
    rintro e w15 ⟨rfl,b15⟩
    have H15:=hidd (H14.out.below b15)
    have B15:=hidd (belowT B14.out b15)
    clear A14 D14 H14 B14 b15 SM
    go_wp2_with fail
    refine (AW.out _ H15.out).mono ?_
    rintro e w16 ⟨rfl,b16⟩
    go_wp2_with fail
    go_ret
    exact ⟨rfl,belowT B15.out b16⟩
theorem fillBoxes_walk (X0 Y0 w0 h0 r0:Int) (W:World) (hT:Cov3 W) (_: -9223372036854775808≤X0) (_:X0≤9223372036854775807) (_: -9223372036854775808≤Y0) (_:Y0≤9223372036854775807) (_: -9223372036854775808≤w0) (_:w0≤9223372036854775807) (_: -9223372036854775808≤h0) (_:h0≤9223372036854775807) (_: -9223372036854775808≤r0) (_:r0≤9223372036854775807) :
 Calls Tryz.prog 3 #[.int .i64 X0,.int .i64 Y0,.int .i64 w0,.int .i64 h0,.int .i64 r0] W fun e w'=>e=.returned (.bool true)∧Below W.heap.size W w':=by
 obtain ⟨t,s',K,e1,e2,t1,t2,hK,hs⟩:=size13 r0
 obtain ⟨r,es⟩:∃ r:Nat,s'=(r:Int):=⟨s'.toNat,by have h:=e2;rw [Int.tmod_eq_emod_of_nonneg (by omega)] at h;omega⟩
 have hz:=sz_in hK
 obtain ⟨U,p,eU,-,-,ep,p1,p2⟩:=rem_num w0 (7*szK K) (by omega)
 obtain ⟨V,q,eV,-,-,eq,q1,q2⟩:=rem_num h0 (7*szK K) (by omega)
 exact fillBoxes_core (X0%1073741824) (Y0%1073741824) r0 w0 h0 X0 Y0 t s' _ _ U V p q r K hK (by rw [← es];exact hs) es e1 e2 t1 t2 (mask30 X0) (mask30 Y0) (by omega) (by omega) eU eV ep eq ⟨p1,p2⟩ ⟨q1,q2⟩ rfl rfl W hT
end Go.Proofs.YtbnlhdnnenahfaaGreatDoor
