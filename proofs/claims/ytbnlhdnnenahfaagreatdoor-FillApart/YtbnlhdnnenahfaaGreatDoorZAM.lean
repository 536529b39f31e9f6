/-
  What the texts FApart, LawFillApart say, so far as this seat's proofs need it.
-/
import Derived.Test.YtbnlhdnnenahfaaGreatDoorZRM
import Derived.Test.YtbnlhdnnenahfaaGreatDoorZHM
namespace Go.Proofs.YtbnlhdnnenahfaaGreatDoor
open Go.RowKit
def farL (D:Int) (L:List (Int × Int)):List (Int × Int):=L.map fun p=>(p.1+D,p.2)
theorem farL_len (D:Int) (L:List (Int × Int)):(farL D L).length=L.length:=by unfold farL;simp
theorem farL_next {D:Int} {L:List (Int × Int)} {j:Nat} (hj:j < L.length):farL D (L.take (j+1))=farL D (L.take j)++[(L[j].1+D,L[j].2)]:=by
 unfold farL
 rw [List.take_succ_eq_append_getElem hj,List.map_append]
 rfl
theorem farL_near {x y s D:Int} {L:List (Int × Int)} (hD:x+s+D≤1073741824) (h:NearR x y s L):NearR (x+D) y s (farL D L):=fun p hp=>by
 unfold farL at hp
 obtain ⟨q,hq,rfl⟩:=List.mem_map.1 hp
 have:=h q hq
 dsimp only
 omega
theorem near_wide {x y s s' x':Int} {L:List (Int × Int)} (h:NearR x' y s L) (h1:x≤x') (h2:x'+s≤x+s') (h3:s≤s'):NearR x y s' L:=fun p hp=>by
 have:=h p hp
 omega
theorem near_some {x y s:Int} {K r:Nat} (hK:K≤12) {G:List (List (Int × Int))} (hw:0≤x∧0≤y) (h0:G≠[]) (h2:G.length≤2) (h:∀ L∈G,3≤L.length∧L.length≤6∧NearR x y s L) (hs:s≤8*szK K+1) :
 Okay G∧∃ lo hi,Bx G.flatten lo hi∧¬ Many K lo.1 lo.2 hi.1 hi.2 r 20000:=by
 have hok:=near_okay hw h0 h2 h
 obtain ⟨lo,hi,hb⟩:=bx_some (okay_ne hok)
 have k:=near_bx (fun L hL=>(h L hL).2.2) hb
 exact ⟨hok,lo,hi,hb,few_box hK (by omega) (by omega)⟩
theorem near_many {x y s:Int} {K r:Nat} (hK:K≤4) {G:List (List (Int × Int))} (hw:0≤x∧0≤y) (h0:G≠[]) (h2:G.length≤2) (h:∀ L∈G,3≤L.length∧L.length≤6∧NearR x y s L) (hs:s≤28*szK K+1) :
 Okay G∧∃ lo hi,Bx G.flatten lo hi∧¬ Many K lo.1 lo.2 hi.1 hi.2 r 20000:=by
 have hok:=near_okay hw h0 h2 h
 obtain ⟨lo,hi,hb⟩:=bx_some (okay_ne hok)
 have k:=near_bx (fun L hL=>(h L hL).2.2) hb
 exact ⟨hok,lo,hi,hb,wide_few hK (by omega) (by omega)⟩
theorem onG_two (L M:List (Int × Int)) (x y:Int):onG [L,M] x y=onN L x y+onN M x y:=by show onN L x y+(onN M x y+0)=_;omega
theorem crG_two (L M:List (Int × Int)) (x y:Int):crG [L,M] x y=crN L x y+crN M x y:=by show crN L x y+(crN M x y+0)=_;omega
theorem fil_two {A B:List (Int × Int)} {c:Int} (hA:Okay [A]) (hB:Okay [B]) (hAB:Okay [A,B]) (h1:∀ p∈A,p.1 < c) (h2:∀ p∈B,c≤p.1) {K r:Nat} {z:Int} :
 (FilS [A,B] K r z↔FilS [A] K r z∨FilS [B] K r z)∧¬ (FilS [A] K r z∧FilS [B] K r z):=by
 unfold FilS InT
 rw [onG_two,crG_two,onG_one,crG_one,onG_one,crG_one]
 generalize poX K (cellA z) (cellB z)=X
 generalize poY K (cellA z) (cellB z)=Y
 rcases Int.lt_or_le X c with hc | hc
 · have k:onN B X Y=0∧crN B X Y%2=0:=by
    have:=in_beside (G:=[B]) (x:=X) (y:=Y) (.inl fun L hL p hp=>by rw [List.mem_singleton.1 hL] at hp;have:=h2 p hp;omega)
    rw [onG_one,crG_one] at this
    exact this
   have e:(crN A X Y+crN B X Y)%2=1↔crN A X Y%2=1:=by omega
   rw [k.1,Int.add_zero,e]
   constructor
   · constructor
     · rintro ⟨a,_,b⟩
       exact .inl ⟨a,hA,b⟩
     · rintro (⟨a,_,b⟩ | ⟨a,_,b⟩)
       · exact ⟨a,hAB,b⟩
       · omega
   · rintro ⟨_,_,_,b⟩
     omega
 · have k:onN A X Y=0∧crN A X Y%2=0:=by
    have:=in_beside (G:=[A]) (x:=X) (y:=Y) (.inr (.inl fun L hL p hp=>by rw [List.mem_singleton.1 hL] at hp;have:=h1 p hp;omega))
    rw [onG_one,crG_one] at this
    exact this
   have e:(crN A X Y+crN B X Y)%2=1↔crN B X Y%2=1:=by omega
   rw [k.1,Int.zero_add,e]
   constructor
   · constructor
     · rintro ⟨a,_,b⟩
       exact .inr ⟨a,hB,b⟩
     · rintro (⟨a,_,b⟩ | ⟨a,_,b⟩)
       · omega
       · exact ⟨a,hAB,b⟩
   · rintro ⟨⟨_,_,_,b⟩,_⟩
     omega
theorem fil_hole {A B:List (Int × Int)} (hA:Okay [A]) (hB:Okay [B]) (hAB:Okay [A,B]) {K r:Nat} {z:Int} (h:FilS [A] K r z) (hn:¬ FilS [B] K r z):FilS [A,B] K r z:=by
 obtain ⟨h1,h2⟩:=h
 have h3:=(in_ring hA).1 h2
 have h4:¬ inR B (poX K (cellA z) (cellB z)) (poY K (cellA z) (cellB z)):=fun k=>hn ⟨h1,(in_ring hB).2 ⟨h3.1,k⟩⟩
 unfold inR at h3 h4
 refine ⟨h1,hAB,h3.1,?_⟩
 rw [onG_two,crG_two]
 have k1:=onN_nonneg B (poX K (cellA z) (cellB z)) (poY K (cellA z) (cellB z))
 have k2:=crN_nonneg B (poX K (cellA z) (cellB z)) (poY K (cellA z) (cellB z))
 omega
theorem box_near {u v s t:Int} (hs:0≤s) (ht:0≤t) (hw:u+s+t < 1073741824∧v+s+t < 1073741824) {e:Int} (he:s+t≤e):NearR u v (e+1) (box4 (u+s) (v+s) (u+s+t) (v+s+t)):=fun p hp=>by
 unfold box4 at hp
 simp only [List.mem_cons,List.not_mem_nil,or_false] at hp
 rcases hp with rfl | rfl | rfl | rfl <;>dsimp only <;>omega
theorem lit_ring_next (w:World) (o:Obj) (L:List (Int × Int)) (e:TypeId):RingL ((w.alloc o).alloc (.cells (flatG L).toArray e)) (.slice (some ⟨w.heap.size+1,0,none⟩) L.length L.length) L:=by
 have k:=lit_ring (w.alloc o) L e
 rwa [size_one] at k
theorem lit_rings1_next2 (w:World) (o o2:Obj) (L:List (Int × Int)) (s:Value) (e:TypeId) (h:RingL ((w.alloc o).alloc o2) s L):RingsL (((w.alloc o).alloc o2).alloc (.cells #[s] e)) (.slice (some ⟨w.heap.size+1+1,0,none⟩) 1 1) [L]:=by
 have k:=lit_rings1 ((w.alloc o).alloc o2) L s e h
 rwa [size_one,size_one] at k
theorem mask28 (n:Int):bits .and .i64 n 268435455=n%268435456:=by
 have:=i64_mask n 28 (by omega)
 simpa using this
theorem mask8r (n:Int):bits .and .i64 n 255=n%256:=by
 have:=i64_mask n 8 (by omega)
 simpa using this
theorem take_farL (D:Int) (A:List (Int × Int)):farL D (A.take A.length)=farL D A:=by rw [List.take_length]
set_option maxHeartbeats 32000000 in
set_option maxRecDepth 20000 in
theorem fillApart_core (X0 Y0 r0 x y q t u v S0:Int) (sX:Value) (X:List Int) (r K:Nat) (hK:K≤4) (hr:12 - (r:Int)=(K:Int)) (ex:bits .and .i64 X0 268435455=x) (ey:bits .and .i64 Y0 268435455=y) (hx:0≤x∧x < 268435456) (hy:0≤y∧y < 268435456)
 (eq:bits .and .i64 r0 255=q) (et:q.tmod 5=t) (er:t+8=(r:Int)) (eS0:szK K=S0) (eu:x+20*S0=u) (ev:y+20*S0=v) (W:World) (hT:Cov3 W) (hX:LstK .i64 W sX X) :
 Calls Tryz.prog 6 #[.int .i64 X0,.int .i64 Y0,sX,.int .i64 r0] W fun e w'=>e=.returned (.bool true)∧Below W.heap.size W w':=by
 have hr12:(r:Int)≤12:=by omega
 have hK12:K≤12:=by omega
 have hz:=sz_in hK12
 rw [eS0] at hz
 have RG:=hidd (rings11 x y sX X r K hK12 hr W hX)
 rw [Int.emod_eq_of_lt (by omega) (show x < 1073741824 by omega),Int.emod_eq_of_lt (by omega) (show y < 1073741824 by omega),eS0] at RG
 obtain ⟨pX,cX,rfl,-,-⟩:=hX
 obtain ⟨nX,enX⟩:∃ nX,X.length=nX:=⟨_,rfl⟩
 rw [enX] at RG ⊢
 have AW:=hidd fun w h=>fawake w h
 have HT:=hidd hT
 have FI:=hidd fun sG G hok lo hi hbx hfew w h1 h2=>f_fill sG G hok lo hi hbx r K hK12 hr hfew w h1 h2
 have NS:=hidd fun x y s G hw h0 h2 h hs=>near_some (x:=x) (y:=y) (s:=s) (K:=K) (r:=r) (G:=G) hK12 hw h0 h2 h hs
 have NM:=hidd fun x y s G hw h0 h2 h hs=>near_many (x:=x) (y:=y) (s:=s) (K:=K) (r:=r) (G:=G) hK hw h0 h2 h hs
 rw [eS0] at NS NM
 have ES:=hidd eS0
 have ERR:=hidd hr
 clear hT enX hr
 go_enter Tryz.func6,Tryz.ntmps6
 go_wp2_with fail
 refine RG.out.mono ?_
 rintro e w1 ⟨⟨sl,G,SL,rfl,h2,hG,hR⟩,b1⟩
 have HG:=hidd hR.rings
 have HO:=hR.2.1
 have B1:=hidd b1
 have H1:=hidd (HT.out.below b1)
 obtain ⟨pG,cG,rfl,-⟩:=own_slice HO
 clear RG HT b1 hR HO
 by_cases hgo:G.length=0∨40 < nX
 · obtain ⟨nG,enG⟩:∃ nG,G.length=nG:=⟨_,rfl⟩
   rw [enG] at hgo ⊢
   have A1:=hidd (AW.out w1 H1.out)
   clear HG FI NS NM AW enG
   rcases Nat.eq_zero_or_pos nG with h0 | h0
   · subst h0
     go_wp2_with fail
     refine A1.out.mono ?_
     rintro e w2 ⟨rfl,b2⟩
     go_wp2_with fail
     go_ret
     exact ⟨rfl,belowT B1.out b2⟩
   · have h0':((nG:Int) == 0)=false:=by simp;omega
     have h40:(40:Int) < (nX:Int):=by omega
     go_wp2_with fail
     refine A1.out.mono ?_
     rintro e w2 ⟨rfl,b2⟩
     go_wp2_with fail
     go_ret
     exact ⟨rfl,belowT B1.out b2⟩
 · have h40:decide ((40:Int) < (nX:Int))=false:=decide_eq_false (by omega)
   have h0':((G.length:Int) == 0)=false:=by rw [beq_eq_false_iff_ne];omega
   have hG0:0 < G.length:=by omega
   have hng:(0:Int) < (G.length:Int):=by omega
   obtain ⟨A,eA⟩:∃ A,G[0]=A:=⟨_,rfl⟩
   obtain ⟨hA3,hA6,hAN⟩:=hG _ (List.getElem_mem hG0)
   obtain ⟨pg,cg,eg,-,hcg⟩:=HG.out
   simp only [Value.slice.injEq,true_and] at eg
   obtain ⟨rfl,rfl⟩:=eg
   obtain ⟨g,o,sA,rfl,x0,hRA⟩:=hcg 0 hG0
   rw [eA] at hA3 hA6 hAN hRA
   rw [Nat.add_zero] at x0
   have RA1:=hidd hRA
   have AN:=hidd hAN
   obtain ⟨pA,cA,rfl,-,hcA⟩:=hRA
   have HCA:=hidd hcA
   obtain ⟨nA,enA⟩:∃ nA,A.length=nA:=⟨_,rfl⟩
   have ENA:=hidd enA
   rw [enA] at x0 RA1 hA3 hA6
   obtain ⟨nG,enG⟩:∃ nG,G.length=nG:=⟨_,rfl⟩
   rw [enG] at h0' hng ⊢
   obtain ⟨i1,hi1,hp0,hp1,hp2⟩:=info_parts infoP
   clear HG hgo hG h2 hcg eA hG0 hcA hAN enA enG
   go_wp2_with fail
   go_loopw [10,11] (fun v10 v11 wr=>∃ (i:Nat) (S:Int),r≤i∧i≤12∧v10=.int .i64 S∧v11=.int .i64 (i:Int)∧Hid (S=szK (i - r))∧(52≤S∧S≤7000000)∧wr=w1) (fun _ v11 _=>12 - (intOf v11).toNat)
   case atStart=>exact ⟨r,52,Nat.le_refl _,by omega,rfl,rfl,hidd (by rw [Nat.sub_self];rfl),by omega,rfl⟩
   case round =>
    obtain ⟨i,S,j1,j2,rfl,rfl,eS,hS,rfl⟩:=hrel
    rcases Nat.lt_or_ge i 12 with c | c
    · have et':(S*8).tdiv 3=S*8 / 3:=Int.tdiv_eq_ediv_of_nonneg (by omega)
      have eS':Hid (S*8 / 3=szK (i+1 - r)):=hidd (by rw [show i+1 - r=(i - r)+1 by omega,eS.out];rfl)
      have hS':=sz_in (K:=i+1 - r) (by omega)
      rw [← eS'.out] at hS'
      clear eS
      go_wp2_with fail
      go_roundw
      case rel=>exact ⟨i+1,S*8 / 3,by omega,by omega,rfl,by go_num,eS',hS',trivial⟩
      case measure=>simp [intOf];omega
    · have hc:decide ((i:Int) < 12)=false:=decide_eq_false (by omega)
      have hE:S0=S:=by rw [← ES.out,eS.out];congr 1;have:=ERR.out;omega
      have hSx:x+28*S < 1073741824∧y+28*S < 1073741824:=by omega
      have huv:u=x+20*S∧v=y+20*S:=by rw [← eu,← ev,hE];exact ⟨rfl,rfl⟩
      rw [hE] at AN NS NM
      have HUV:=hidd huv
      have f1:IntKind.i64.wrap (20*S)=20*S:=by rw [IntKind.wrap_i64];omega
      have f20:x+20*S=u:=huv.1.symm
      have f21:y+20*S=v:=huv.2.symm
      clear eS hE eu ev huv ES ERR hz
      obtain ⟨wk,rfl⟩:∃ z,z=wr:=⟨_,rfl⟩
      go_wp2_with fail
      go_loopw [13,14] (fun v13 v14 wr=>∃ j:Nat,j≤nA∧v14=.int .i64 (j:Int)∧Hid (wr.ownsRow wk.heap.size 26 2 v13 j (flatG (farL (20*S) (A.take j))))∧Hid (Below wk.heap.size wk wr)) (fun _ v14 _=>nA - (intOf v14).toNat)
      case atStart=>exact ⟨0,by omega,rfl,hidd (World.ownsRow_nil _ _ _ _),hidd (Below.refl _ _)⟩
      case round =>
       obtain ⟨j,hj,rfl,hO,hB⟩:=hrel
       obtain ⟨p13,c13,rfl,-⟩:=own_slice hO.out
       by_cases hjn:j < nA
       · have hjn':(j:Int) < (nA:Int):=by omega
         have hjA:j < A.length:=by rw [ENA.out];exact hjn
         obtain ⟨g2,o2,rfl,y0,y1⟩:=HCA.out j hjA
         replace y0:=keepCell hB.out y0
         replace y1:=keepCell hB.out y1
         have bd:=AN.out A[j] (List.getElem_mem hjA)
         have NX:Hid (flatG (farL (20*S) (A.take (j+1)))=flatG (farL (20*S) (A.take j))++[.int .i64 (A[j].1+20*S),.int .i64 A[j].2]):=hidd (by rw [farL_next hjA,flat_snoc])
         generalize A[j].1=a1 at *
         generalize A[j].2=a2 at *
         have f3:IntKind.i64.wrap (a1+20*S)=a1+20*S:=by rw [IntKind.wrap_i64];omega
         obtain ⟨a3,ea3⟩:∃ a3,a1+20*S=a3:=⟨_,rfl⟩
         rw [ea3] at f3 NX
         have hsX:=hB.out.size
         have OO:=hidd hO.out
         have BB:=hidd hB.out
         clear hO hB bd
         go_wp2_with fail
         go_region_law ((refine step_append_lies _ (by rfl) _ _ _ (by rfl) wk.heap.size 26 i1 (.agg #[.int .i64 0,.int .i64 0]) 2 16 Tryz.underlying27 hi1 hp0 hp1 hp2 rfl (by decide) _ j (flatG (farL (20*S) (A.take j))) (by rfl) (own_keep (belowT (allocB wr _) (drewB _)) OO.out) ⟨wr.heap.size,0,none⟩ 1 1 [.int .i64 a3,.int .i64 a2] (by rfl) rfl (two_lie9 wr a3 a2 26) (two_one9 _ _) (by decide) (by unfold maxLen;omega) (by omega) (by simp;omega) (wr.heap.size+1) (by simp) ?_;intro g6 c6 w6 hown hgrow hat hlt6))
         all_goals
          have B6:=hidd (BB.out.trans (((allocB wr (.cells #[.int .i64 a3,.int .i64 a2] 26)).mono hsX)) |>.drew |>.grown hgrow (by simp;omega) (own_block OO.out))
          have O6:Hid (w6.ownsRow wk.heap.size 26 2 (.slice (some ⟨g6,0,none⟩) (j+1) c6) (j+1) (flatG (farL (20*S) (A.take (j+1))))):=hidd (by rw [NX.out];exact hown)
          clear hown hgrow hat hlt6 OO BB y0 y1 NX f3 ea3
          go_wp2_with fail
          go_roundw
          case rel=>exact ⟨j+1,by omega,by go_num,O6,B6⟩
          case measure=>simp [intOf];omega
       · obtain rfl:j=nA:=by omega
         have hjn':decide ((j:Int) < (j:Int))=false:=by simp
         have RB2:Hid (RingL wr (.slice p13 j c13) (farL (20*S) A)):=hidd (by
          have k:=hO.out
          rw [← ENA.out,take_farL] at k
          have k2:=ring_own k (farL_len _ _)
          rw [ENA.out] at k2
          exact k2)
         have RA2:=hidd (RA1.out.keep hB.out)
         have H2:=hidd (H1.out.below hB.out)
         have B2:=hidd (belowT B1.out hB.out)
         have BN:=hidd (farL_near (D:=20*S) (by omega) AN.out)
         have LA:Hid (3≤A.length∧A.length≤6):=hidd (by rw [ENA.out];exact ⟨hA3,hA6⟩)
         have LB:Hid (3≤(farL (20*S) A).length∧(farL (20*S) A).length≤6):=hidd (by rw [farL_len];exact LA.out)
         clear hO hB RA1 H1 B1 HCA ENA hjn
         generalize farL (20*S) A=B at *
         obtain ⟨okA,loA,hiA,bxA,fwA⟩:=NS.out x y (7*S) [A] ⟨hx.1,hy.1⟩ (by simp) (by simp) (fun L hL=>by rw [List.mem_singleton.1 hL];exact ⟨LA.out.1,LA.out.2,AN.out⟩) (by omega)
         obtain ⟨okB,loB,hiB,bxB,fwB⟩:=NS.out (x+20*S) y (7*S) [B] ⟨by omega,hy.1⟩ (by simp) (by simp) (fun L hL=>by rw [List.mem_singleton.1 hL];exact ⟨LB.out.1,LB.out.2,BN.out⟩) (by omega)
         obtain ⟨okC,loC,hiC,bxC,fwC⟩:=NM.out x y (28*S) [A,B] ⟨hx.1,hy.1⟩ (by simp) (by simp) (fun L hL=>by
          simp only [List.mem_cons,List.not_mem_nil,or_false] at hL
          rcases hL with rfl | rfl
          · exact ⟨LA.out.1,LA.out.2,near_wide AN.out (Int.le_refl _) (by omega) (by omega)⟩
          · exact ⟨LB.out.1,LB.out.2,near_wide BN.out (by omega) (by omega) (by omega)⟩) (by omega)
         have JN:=hidd fun z=>fil_two (A:=A) (B:=B) (c:=x+20*S) (K:=K) (r:=r) (z:=z) okA okB okC (fun p hp=>by have:=AN.out p hp;omega) (fun p hp=>(BN.out p hp).1.1)
         have FA:=hidd fun sG w h1 h2=>FI.out sG [A] okA loA hiA bxA fwA w h1 h2
         have FB:=hidd fun sG w h1 h2=>FI.out sG [B] okB loB hiB bxB fwB w h1 h2
         have FC:=hidd fun sG w h1 h2=>FI.out sG [A,B] okC loC hiC bxC fwC w h1 h2
         have hu0:0≤u∧u+8*S < 1073741824∧0≤v∧v+8*S < 1073741824:=by have:=HUV.out;omega
         have oN:NearR u v (8*S+1) (box4 u v (u+8*S) (v+8*S)):=by
          have k:=box_near (u:=u) (v:=v) (s:=0) (t:=8*S) (by omega) (by omega) (by omega) (e:=8*S) (by omega)
          rwa [Int.add_zero,Int.add_zero] at k
         have iN:NearR u v (8*S+1) (box4 (u+2*S) (v+2*S) (u+5*S) (v+5*S)):=by
          have k:=box_near (u:=u) (v:=v) (s:=2*S) (t:=3*S) (by omega) (by omega) (by omega) (e:=8*S) (by omega)
          rwa [show u+2*S+3*S=u+5*S by omega,show v+2*S+3*S=v+5*S by omega] at k
         obtain ⟨okO,loO,hiO,bxO,fwO⟩:=NS.out u v (8*S+1) [box4 u v (u+8*S) (v+8*S)] ⟨hu0.1,hu0.2.2.1⟩ (by simp) (by simp) (fun L hL=>by rw [List.mem_singleton.1 hL];exact ⟨show 3≤4 by omega,show 4≤6 by omega,oN⟩) (by omega)
         obtain ⟨okI,loI,hiI,bxI,fwI⟩:=NS.out u v (8*S+1) [box4 (u+2*S) (v+2*S) (u+5*S) (v+5*S)] ⟨hu0.1,hu0.2.2.1⟩ (by simp) (by simp) (fun L hL=>by rw [List.mem_singleton.1 hL];exact ⟨show 3≤4 by omega,show 4≤6 by omega,iN⟩) (by omega)
         obtain ⟨okR,loR,hiR,bxR,fwR⟩:=NS.out u v (8*S+1) [box4 u v (u+8*S) (v+8*S),box4 (u+2*S) (v+2*S) (u+5*S) (v+5*S)] ⟨hu0.1,hu0.2.2.1⟩ (by simp) (by simp) (fun L hL=>by
          simp only [List.mem_cons,List.not_mem_nil,or_false] at hL
          rcases hL with rfl | rfl
          · exact ⟨show 3≤4 by omega,show 4≤6 by omega,oN⟩
          · exact ⟨show 3≤4 by omega,show 4≤6 by omega,iN⟩) (by omega)
         have HO1:Hid (∀ z,FilS [box4 u v (u+8*S) (v+8*S),box4 (u+2*S) (v+2*S) (u+5*S) (v+5*S)] K r z→FilS [box4 u v (u+8*S) (v+8*S)] K r z):=hidd fun z hz=>by
          have k:=in_bx bxR hz.2
          have k2:=near_bx (x:=u) (y:=v) (s:=8*S+1) (fun L hL=>by
           simp only [List.mem_cons,List.not_mem_nil,or_false] at hL
           rcases hL with rfl | rfl
           · exact oN
           · exact iN) bxR
          refine (fil_box4 (by omega) (by omega) (by omega) (by omega)).2 ⟨hz.1,?_⟩
          unfold inCB
          exact decide_eq_true (by omega)
         have HO2:=hidd fun z=>fil_hole (K:=K) (r:=r) (z:=z) okO okI okR
         have FO:=hidd fun sG w h1 h2=>FI.out sG _ okO loO hiO bxO fwO w h1 h2
         have FN:=hidd fun sG w h1 h2=>FI.out sG _ okI loI hiI bxI fwI w h1 h2
         have FR:=hidd fun sG w h1 h2=>FI.out sG _ okR loR hiR bxR fwR w h1 h2
         clear FI NS NM okA bxA fwA okB bxB fwB okC bxC fwC okO bxO fwO okI bxI fwI okR bxR fwR oN iN AN BN LA LB
         have al1:=allocB wr (.cells #[.slice pA j cA] 27)
         have L3:=hidd (lit_rings1 wr A (.slice pA j cA) 27 RA2.out)
         have H3:=hidd (H2.out.below al1)
         have B3:=hidd (belowT B2.out al1)
         have RA3:=hidd (RA2.out.keep al1)
         have RB3:=hidd (RB2.out.keep al1)
         clear al1 RA2 RB2 H2 B2
         go_wp2_with fail
         refine (FA.out _ _ L3.out H3.out).mono ?_
         rintro e w4 ⟨⟨vP,P,rfl,a1,a2,a3,a4⟩,b4⟩
         have RP4:=hidd ((own_row a4).mono (Nat.zero_le _))
         have TP4:=hidd (Lst.own a4)
         have AP:=hidd (own_addr a4)
         have PP:=hidd (And.intro a1 (And.intro a2 a3))
         obtain ⟨pP,cP,rfl,-⟩:=own_slice a4
         have al1:=allocB w4 (.cells #[.slice p13 j c13] 27)
         have RB4:=RB3.out.keep b4
         have L4:=hidd (lit_rings1 w4 B (.slice p13 j c13) 27 RB4)
         have H5:=hidd ((H3.out.below b4).below al1)
         have B5:=hidd (belowT (belowT B3.out b4) al1)
         have RA5:=hidd ((RA3.out.keep b4).keep al1)
         have RB5:=hidd (RB4.keep al1)
         have TP5:=hidd (TP4.out.keep al1)
         obtain ⟨nP,eP⟩:∃ nP,P.length=nP:=⟨_,rfl⟩
         have EP:=hidd eP
         rw [eP] at TP5 AP ⊢
         clear FA L3 H3 B3 RA3 RB3 RB4 TP4 RP4 a1 a2 a3 a4 b4 al1 eP
         go_wp2_with fail
         refine (FB.out _ _ L4.out H5.out).mono ?_
         rintro e w6 ⟨⟨vQ,Q,rfl,a1,a2,a3,a4⟩,b6⟩
         have TQ6:=hidd (Lst.own a4)
         have AQ:=hidd (own_addr a4)
         have PQ:=hidd (And.intro a1 (And.intro a2 a3))
         obtain ⟨pQ,cQ,rfl,-⟩:=own_slice a4
         have al1:=allocB w6 (.cells #[.slice pA j cA,.slice p13 j c13] 27)
         have RA6:=RA5.out.keep b6
         have RB6:=RB5.out.keep b6
         have L6:=hidd (lit_rings2 w6 A B (.slice pA j cA) (.slice p13 j c13) 27 RA6 RB6)
         have H7:=hidd ((H5.out.below b6).below al1)
         have B7:=hidd (belowT (belowT B5.out b6) al1)
         have TP7:=hidd ((TP5.out.keep b6).keep al1)
         have TQ7:=hidd (TQ6.out.keep al1)
         obtain ⟨nQ,eQ⟩:∃ nQ,Q.length=nQ:=⟨_,rfl⟩
         have EQ:=hidd eQ
         rw [eQ] at TQ7 AQ ⊢
         clear FB L4 H5 B5 RA5 RB5 RA6 RB6 TP5 TQ6 a1 a2 a3 a4 b6 al1 eQ
         go_wp2_with fail
         refine (FC.out _ _ L6.out H7.out).mono ?_
         rintro e w8 ⟨⟨vC,C,rfl,a1,a2,a3,a4⟩,b8⟩
         have RC8:=hidd ((own_row a4).mono (Nat.zero_le _))
         have PC:=hidd (And.intro a1 (And.intro a2 a3))
         obtain ⟨pC,cC,rfl,-⟩:=own_slice a4
         have H8:=hidd (H7.out.below b8)
         have B8:=hidd (belowT B7.out b8)
         have TP8:=hidd (TP7.out.keep b8)
         have TQ8:=hidd (TQ7.out.keep b8)
         obtain ⟨nC,eC⟩:∃ nC,C.length=nC:=⟨_,rfl⟩
         have EC:=hidd eC
         rw [eC] at RC8 ⊢
         have nb1:(nP:Int)≤20000:=by have:=PP.out.1;have:=EP.out;omega
         have nb2:(nQ:Int)≤20000:=by have:=PQ.out.1;have:=EQ.out;omega
         have nb3:(nC:Int)≤20000:=by have:=PC.out.1;have:=EC.out;omega
         have JX:Hid (∀ z,z∈C↔z∈P∨z∈Q):=hidd fun z=>by rw [PC.out.2.2 z,PP.out.2.2 z,PQ.out.2.2 z];exact (JN.out z).1
         have LN:Hid (P.length+Q.length=C.length):=hidd (len_two PP.out.2.1 PQ.out.2.1 PC.out.2.1 JX.out fun z h1 h2=>(JN.out z).2 ⟨(PP.out.2.2 z).1 h1,(PQ.out.2.2 z).1 h2⟩)
         have hsum:(nP:Int)+(nQ:Int)=(nC:Int):=by have:=LN.out;have:=EP.out;have:=EQ.out;have:=EC.out;omega
         have U1:Hid (∀ z∈P++Q,U64 z):=hidd fun z hz=>u64_of (mem_two hz (fun z k=>((PP.out.2.2 z).1 k).1.1) fun z k=>((PQ.out.2.2 z).1 k).1.1)
         have al:=allocB w8 (.cells #[] 35)
         have O0:=hidd (own_fresh w8)
         have la:=hidd (TP8.out.keep al)
         clear FC L6 H7 B7 TP7 TQ7 a1 a2 a3 a4 b8 eC JN LN
         go_wp2_with (at_builtin;refine wpList_append_lst (by rfl) (.tmp 123) (.tmp 124) rfl w8.heap.size _ 0 [] rfl O0.out _ P rfl la.out AP.out (by have:=EP.out;omega) al.size ?_)
         intro va y1 ho1 hg1
         have dd1:Below w8.heap.size w8 y1:=al.grown hg1 al.size (own_block O0.out)
         have O1:=hidd ho1
         have lb:=hidd (TQ8.out.keep dd1)
         have q1:=dd1.size
         obtain ⟨pa,ca,rfl,-⟩:=own_slice ho1
         clear al O0 la ho1 hg1
         go_wp2_with (at_builtin;refine wpList_append_lst (by rfl) (.tmp 125) (.tmp 126) rfl w8.heap.size _ _ _ rfl O1.out _ Q rfl lb.out AQ.out (by have:=EP.out;have:=EQ.out;omega) q1 ?_)
         intro vb y2 ho2 hg2
         have dd2:Below w8.heap.size w8 y2:=dd1.grown hg2 q1 (own_block O1.out)
         have O2:=hidd (show y2.ownsRow w8.heap.size 35 1 vb (P++Q).length (vals (P++Q)) from by
          rw [List.length_append,show vals (P++Q)=vals P++vals Q by simp [vals]]
          simpa using ho2)
         obtain ⟨pb,cb,rfl,-⟩:=own_slice ho2
         have B9:=hidd (B8.out.trans (dd2.mono B8.out.size))
         have H9:=hidd (H8.out.below dd2)
         have R9:=hidd (RC8.out.keep dd2)
         clear O1 ho2 hg2 dd2 dd1 lb q1 B8 H8 RC8 TP8 TQ8 AP AQ
         have ST:=hidd (rset_own (P++Q) (by rw [List.length_append];have:=EP.out;have:=EQ.out;omega) U1.out _ _ y2 O2.out)
         clear O2 U1
         go_wp2_with fail
         refine ST.out.mono ?_
         rintro e y3 ⟨⟨s10,X10,rfl,r10,m10,n10,o10⟩,b10⟩
         obtain rfl:X10=C:=rising_ext r10 PC.out.2.1 fun z=>by rw [m10,List.mem_append,JX.out z]
         have B10:=hidd (belowT B9.out b10)
         have H10:=hidd (H9.out.below b10)
         have RX10:=hidd ((own_row o10).mono (Nat.zero_le _))
         obtain ⟨ps,cs,rfl,-⟩:=own_slice o10
         rw [EC.out] at RX10 ⊢
         have SM:=hidd (rsame 0 0 _ _ X10 (by have:=EC.out;omega) y3 (R9.out.keep b10) RX10.out)
         clear ST r10 m10 n10 o10 b10 B9 H9 JX R9 RX10 PC PP PQ EP EQ EC
         go_wp2_with fail
         refine SM.out.mono ?_
         rintro e y4 ⟨rfl,b11⟩
         have B11:=hidd (belowT B10.out b11)
         have H11:=hidd (H10.out.below b11)
         have hne:(((nC:Int)) != ((nC:Int)))=false:=by simp
         have g8:IntKind.i64.wrap (8*S)=8*S:=by rw [IntKind.wrap_i64];omega
         have g2:IntKind.i64.wrap (2*S)=2*S:=by rw [IntKind.wrap_i64];omega
         have g5:IntKind.i64.wrap (5*S)=5*S:=by rw [IntKind.wrap_i64];omega
         have gu8:IntKind.i64.wrap (u+8*S)=u+8*S:=by rw [IntKind.wrap_i64];omega
         have gv8:IntKind.i64.wrap (v+8*S)=v+8*S:=by rw [IntKind.wrap_i64];omega
         have gu2:IntKind.i64.wrap (u+2*S)=u+2*S:=by rw [IntKind.wrap_i64];omega
         have gv2:IntKind.i64.wrap (v+2*S)=v+2*S:=by rw [IntKind.wrap_i64];omega
         have gu5:IntKind.i64.wrap (u+5*S)=u+5*S:=by rw [IntKind.wrap_i64];omega
         have gv5:IntKind.i64.wrap (v+5*S)=v+5*S:=by rw [IntKind.wrap_i64];omega
         have gu0:IntKind.i64.wrap u=u:=by rw [IntKind.wrap_i64];omega
         have gv0:IntKind.i64.wrap v=v:=by rw [IntKind.wrap_i64];omega
         have RO:Hid (RingL (y4.alloc (.cells #[.int .i64 u,.int .i64 v,.int .i64 (u+8*S),.int .i64 v,.int .i64 (u+8*S),.int .i64 (v+8*S),.int .i64 u,.int .i64 (v+8*S)] 26)) (.slice (some ⟨y4.heap.size,0,none⟩) 4 4) (box4 u v (u+8*S) (v+8*S))):=hidd (lit_ring y4 (box4 u v (u+8*S) (v+8*S)) 26)
         have RI:Hid (RingL ((y4.alloc (.cells #[.int .i64 u,.int .i64 v,.int .i64 (u+8*S),.int .i64 v,.int .i64 (u+8*S),.int .i64 (v+8*S),.int .i64 u,.int .i64 (v+8*S)] 26)).alloc (.cells #[.int .i64 (u+2*S),.int .i64 (v+2*S),.int .i64 (u+5*S),.int .i64 (v+2*S),.int .i64 (u+5*S),.int .i64 (v+5*S),.int .i64 (u+2*S),.int .i64 (v+5*S)] 26)) (.slice (some ⟨y4.heap.size+1,0,none⟩) 4 4) (box4 (u+2*S) (v+2*S) (u+5*S) (v+5*S))):=hidd (lit_ring_next y4 _ (box4 (u+2*S) (v+2*S) (u+5*S) (v+5*S)) 26)
         have a1:=allocB y4 (.cells #[.int .i64 u,.int .i64 v,.int .i64 (u+8*S),.int .i64 v,.int .i64 (u+8*S),.int .i64 (v+8*S),.int .i64 u,.int .i64 (v+8*S)] 26)
         have a2:=allocB (y4.alloc (.cells #[.int .i64 u,.int .i64 v,.int .i64 (u+8*S),.int .i64 v,.int .i64 (u+8*S),.int .i64 (v+8*S),.int .i64 u,.int .i64 (v+8*S)] 26)) (.cells #[.int .i64 (u+2*S),.int .i64 (v+2*S),.int .i64 (u+5*S),.int .i64 (v+2*S),.int .i64 (u+5*S),.int .i64 (v+5*S),.int .i64 (u+2*S),.int .i64 (v+5*S)] 26)
         have a3:=allocB ((y4.alloc (.cells #[.int .i64 u,.int .i64 v,.int .i64 (u+8*S),.int .i64 v,.int .i64 (u+8*S),.int .i64 (v+8*S),.int .i64 u,.int .i64 (v+8*S)] 26)).alloc (.cells #[.int .i64 (u+2*S),.int .i64 (v+2*S),.int .i64 (u+5*S),.int .i64 (v+2*S),.int .i64 (u+5*S),.int .i64 (v+5*S),.int .i64 (u+2*S),.int .i64 (v+5*S)] 26)) (.cells #[.slice (some ⟨y4.heap.size,0,none⟩) 4 4] 27)
         have RO2:=hidd (RO.out.keep a2)
         have L12:=hidd (lit_rings1_next2 y4 _ _ _ _ 27 RO2.out)
         have H12:=hidd (((H11.out.below a1).below a2).below a3)
         have B12:=hidd (belowT (belowT (belowT B11.out a1) a2) a3)
         have RO3:=hidd (RO2.out.keep a3)
         have RI3:=hidd (RI.out.keep a3)
         clear SM b11 B10 H10 RO RI RO2 a1 a2 a3 B11 H11 h40 h0' hng
         go_wp2_with fail
         clear hsum nb1 nb2 nb3 g8 g2 g5 gu8 gv8 gu2 gv2 gu5 gv5 gu0 gv0
         generalize ((y4.alloc (.cells #[.int .i64 u,.int .i64 v,.int .i64 (u+8*S),.int .i64 v,.int .i64 (u+8*S),.int .i64 (v+8*S),.int .i64 u,.int .i64 (v+8*S)] 26)).alloc (.cells #[.int .i64 (u+2*S),.int .i64 (v+2*S),.int .i64 (u+5*S),.int .i64 (v+2*S),.int .i64 (u+5*S),.int .i64 (v+5*S),.int .i64 (u+2*S),.int .i64 (v+5*S)] 26)).alloc (.cells #[.slice (some ⟨y4.heap.size,0,none⟩) 4 4] 27)=w12 at *
         obtain ⟨ka,eka⟩:∃ ka,y4.heap.size=ka:=⟨_,rfl⟩
         obtain ⟨kb,ekb⟩:∃ kb,y4.heap.size+1=kb:=⟨_,rfl⟩
         obtain ⟨kc,ekc⟩:∃ kc,y4.heap.size+1+1=kc:=⟨_,rfl⟩
         rw [ekc] at L12 ⊢
         rw [ekb] at RI3 ⊢
         rw [eka] at RO3 ⊢
         clear eka ekb ekc
         refine (FO.out _ _ L12.out H12.out).mono ?_
         rintro e w13 ⟨⟨vO,LO,rfl,a1,a2,a3,a4⟩,b13⟩
         have RL13:=hidd ((own_row a4).mono (Nat.zero_le _))
         have PO:=hidd (And.intro a1 (And.intro a2 a3))
         obtain ⟨pO,cO,rfl,-⟩:=own_slice a4
         have al1:=allocB w13 (.cells #[.slice (some ⟨kb,0,none⟩) 4 4] 27)
         have RI4:=RI3.out.keep b13
         have L14:=hidd (lit_rings1 w13 _ (.slice (some ⟨kb,0,none⟩) 4 4) 27 RI4)
         have H14:=hidd ((H12.out.below b13).below al1)
         have B14:=hidd (belowT (belowT B12.out b13) al1)
         have RO5:=hidd ((RO3.out.keep b13).keep al1)
         have RI5:=hidd (RI4.keep al1)
         have RL14:=hidd (RL13.out.keep al1)
         obtain ⟨nO,eO⟩:∃ nO,LO.length=nO:=⟨_,rfl⟩
         have EO:=hidd eO
         rw [eO] at RL14 ⊢
         clear FO L12 H12 B12 RO3 RI3 RI4 RL13 a1 a2 a3 a4 b13 al1 eO
         go_wp2_with fail
         refine (FN.out _ _ L14.out H14.out).mono ?_
         rintro e w15 ⟨⟨vI,LI,rfl,a1,a2,a3,a4⟩,b15⟩
         have RH15:=hidd ((own_row a4).mono (Nat.zero_le _))
         have PI:=hidd (And.intro a1 (And.intro a2 a3))
         obtain ⟨pI,cI,rfl,-⟩:=own_slice a4
         have al1:=allocB w15 (.cells #[.slice (some ⟨ka,0,none⟩) 4 4,.slice (some ⟨kb,0,none⟩) 4 4] 27)
         have L16:=hidd (lit_rings2 w15 _ _ (.slice (some ⟨ka,0,none⟩) 4 4) (.slice (some ⟨kb,0,none⟩) 4 4) 27 (RO5.out.keep b15) (RI5.out.keep b15))
         have H16:=hidd ((H14.out.below b15).below al1)
         have B16:=hidd (belowT (belowT B14.out b15) al1)
         have RL16:=hidd ((RL14.out.keep b15).keep al1)
         have RH16:=hidd (RH15.out.keep al1)
         obtain ⟨nI,eI⟩:∃ nI,LI.length=nI:=⟨_,rfl⟩
         have EI:=hidd eI
         rw [eI] at RH16 ⊢
         clear FN L14 H14 B14 RO5 RI5 RL14 RH15 a1 a2 a3 a4 b15 al1 eI
         go_wp2_with fail
         refine (FR.out _ _ L16.out H16.out).mono ?_
         rintro e w17 ⟨⟨vR,LR,rfl,a1,a2,a3,a4⟩,b17⟩
         have RR17:=hidd ((own_row a4).mono (Nat.zero_le _))
         have PR:=hidd (And.intro a1 (And.intro a2 a3))
         obtain ⟨pR,cR,rfl,-⟩:=own_slice a4
         have H17:=hidd (H16.out.below b17)
         have B17:=hidd (belowT B16.out b17)
         have RL17:=hidd (RL16.out.keep b17)
         have RH17:=hidd (RH16.out.keep b17)
         obtain ⟨nR,eR⟩:∃ nR,LR.length=nR:=⟨_,rfl⟩
         have ER:=hidd eR
         rw [eR] at RR17 ⊢
         have SU:Hid (∀ z,z∈LR→z∈LO):=hidd fun z hz=>(PO.out.2.2 z).2 (HO1.out z ((PR.out.2.2 z).1 hz))
         have SV:Hid (∀ z,z∈LO→z ∉ LI→z∈LR):=hidd fun z hz hn=>(PR.out.2.2 z).2 (HO2.out z ((PO.out.2.2 z).1 hz) fun k=>hn ((PI.out.2.2 z).2 k))
         have n1:nR≤nO:=by
          have:=nodup_len (rising_nodup PR.out.2.1) SU.out
          have:=ER.out
          have:=EO.out
          omega
         have n2:nO≤nI+nR:=by
          have:=nodup_len (L:=LI++LR) (rising_nodup PO.out.2.1) fun z hz=>by
           by_cases c:z∈LI
           · exact List.mem_append_left _ c
           · exact List.mem_append_right _ (SV.out z hz c)
          rw [List.length_append] at this
          have:=ER.out
          have:=EO.out
          have:=EI.out
          omega
         have nb1:nO≤20000:=by have:=PO.out.1;have:=EO.out;omega
         have nb2:nI≤20000:=by have:=PI.out.1;have:=EI.out;omega
         have m1:decide ((nR:Int) < (nO:Int) - (nI:Int))=false:=decide_eq_false (by omega)
         have m2:decide ((nO:Int) < (nR:Int))=false:=decide_eq_false (by omega)
         have m4:decide (nO < nR)=false:=decide_eq_false (by omega)
         have m3:IntKind.i64.wrap ((nO:Int) - (nI:Int))=(nO:Int) - (nI:Int):=by rw [IntKind.wrap_i64];omega
         clear FR L16 H16 B16 RL16 RH16 a1 a2 a3 a4 b17 eR HO1 HO2
         go_wp2_with fail
         clear m1 m2 m3 m4
         go_loopw [31] (fun v31 wr=>∃ k:Nat,k≤nR∧v31=.int .i64 (k:Int)∧Hid (Below w17.heap.size w17 wr)) (fun v31 _=>nR - (intOf v31).toNat)
         case atStart=>exact ⟨0,by omega,rfl,hidd (Below.refl _ _)⟩
         case round =>
          obtain ⟨k,hk,rfl,BJ⟩:=hrel
          by_cases hkn:k < nR
          · have hkn':(k:Int) < (nR:Int):=by omega
            have hkL:k < LR.length:=by rw [ER.out];exact hkn
            obtain ⟨p',c',e',hp⟩:=(RR17.out.keep BJ.out).form
            simp only [Value.slice.injEq] at e'
            obtain ⟨rfl,-,rfl⟩:=e'
            obtain ⟨g3,rfl,z0⟩:=hp k hkL
            have zm:LR[k]∈LR:=List.getElem_mem hkL
            have HA1:=hidd (rhas 0 (.slice pO nO cO) LO LR[k] (u64_of ((PR.out.2.2 LR[k]).1 zm).1.1) PO.out.2.1 (fun y hy=>u64_of ((PO.out.2.2 y).1 hy).1.1) (by have:=EO.out;omega) wr (RL17.out.keep BJ.out))
            rw [decide_eq_true (SU.out _ zm)] at HA1
            clear hp zm
            generalize LR[k]=z at *
            go_wp2_with fail
            refine HA1.out.mono ?_
            rintro e z1 ⟨rfl,c1⟩
            have BJ1:=hidd (belowT BJ.out c1)
            clear HA1 c1 BJ z0
            go_wp2_with fail
            go_roundw
            case rel=>exact ⟨k+1,by omega,by go_num,BJ1⟩
            case measure=>simp [intOf];omega
          · obtain rfl:k=nR:=by omega
            have hkn':decide ((k:Int) < (k:Int))=false:=by simp
            have H18:=hidd (H17.out.below BJ.out)
            have B18:=hidd (belowT B17.out BJ.out)
            have RL18:=hidd (RL17.out.keep BJ.out)
            have RH18:=hidd (RH17.out.keep BJ.out)
            have RR18:=hidd (RR17.out.keep BJ.out)
            clear H17 B17 RL17 RH17 RR17 BJ hkn
            obtain ⟨w18,rfl⟩:∃ z,z=wr:=⟨_,rfl⟩
            go_wp2_with fail
            go_loopw [32] (fun v32 wr=>∃ m:Nat,m≤nO∧v32=.int .i64 (m:Int)∧Hid (Below w18.heap.size w18 wr)) (fun v32 _=>nO - (intOf v32).toNat)
            case atStart=>exact ⟨0,by omega,rfl,hidd (Below.refl _ _)⟩
            case round =>
             obtain ⟨m,hm,rfl,BJ⟩:=hrel
             by_cases hmn:m < nO
             · have hmn':(m:Int) < (nO:Int):=by omega
               have hmL:m < LO.length:=by rw [EO.out];exact hmn
               obtain ⟨p',c',e',hp⟩:=(RL18.out.keep BJ.out).form
               simp only [Value.slice.injEq] at e'
               obtain ⟨rfl,-,rfl⟩:=e'
               obtain ⟨g3,rfl,z0⟩:=hp m hmL
               have zm:LO[m]∈LO:=List.getElem_mem hmL
               have HA1:=hidd (rhas 0 (.slice pI nI cI) LI LO[m] (u64_of ((PO.out.2.2 LO[m]).1 zm).1.1) PI.out.2.1 (fun y hy=>u64_of ((PI.out.2.2 y).1 hy).1.1) (by have:=EI.out;omega) wr (RH18.out.keep BJ.out))
               have HB1:=hidd fun w h=>rhas 0 (.slice pR k cR) LR LO[m] (u64_of ((PO.out.2.2 LO[m]).1 zm).1.1) PR.out.2.1 (fun y hy=>u64_of ((PR.out.2.2 y).1 hy).1.1) (by have:=ER.out;omega) w h
               have ZV:Hid (decide (LO[m]∈LI)=false→decide (LO[m]∈LR)=true):=hidd fun h=>decide_eq_true (SV.out _ zm (of_decide_eq_false h))
               clear hp zm
               generalize decide (LO[m]∈LI)=tb at *
               generalize decide (LO[m]∈LR)=tc at *
               generalize LO[m]=z at *
               cases tb
               · obtain rfl:tc=true:=ZV.out rfl
                 go_wp2_with fail
                 refine HA1.out.mono ?_
                 rintro e z1 ⟨rfl,c1⟩
                 have BJ1:=hidd (belowT BJ.out c1)
                 replace z0:=keepCell c1 z0
                 clear HA1 c1 BJ
                 go_wp2_with fail
                 refine (HB1.out _ (RR18.out.keep BJ1.out)).mono ?_
                 rintro e z2 ⟨rfl,c2⟩
                 have BJ2:=hidd (belowT BJ1.out c2)
                 clear HB1 c2 BJ1 z0
                 go_wp2_with fail
                 go_roundw
                 case rel=>exact ⟨m+1,by omega,by go_num,BJ2⟩
                 case measure=>simp [intOf];omega
               · go_wp2_with fail
                 refine HA1.out.mono ?_
                 rintro e z1 ⟨rfl,c1⟩
                 have BJ1:=hidd (belowT BJ.out c1)
                 clear HA1 HB1 c1 BJ z0 ZV
                 go_wp2_with fail
                 go_roundw
                 case rel=>exact ⟨m+1,by omega,by go_num,BJ1⟩
                 case measure=>simp [intOf];omega
             · obtain rfl:m=nO:=by omega
               have hmn':decide ((m:Int) < (m:Int))=false:=by simp
               have H19:=hidd (H18.out.below BJ.out)
               have B19:=hidd (belowT B18.out BJ.out)
               go_wp2_with fail
               refine (AW.out _ H19.out).mono ?_
               rintro e z1 ⟨rfl,c1⟩
               go_wp2_with fail
               go_ret
               exact ⟨rfl,belowT B19.out c1⟩
theorem fillApart_walk (X0 Y0:Int) (sX:Value) (X:List Int) (r0:Int) (W:World) (hT:Cov3 W) (_: -9223372036854775808≤X0) (_:X0≤9223372036854775807) (_: -9223372036854775808≤Y0) (_:Y0≤9223372036854775807) (hX:LstK .i64 W sX X) (_:∀ x∈X,-9223372036854775808≤x∧x≤9223372036854775807) (_: -9223372036854775808≤r0) (_:r0≤9223372036854775807) :
 Calls Tryz.prog 6 #[.int .i64 X0,.int .i64 Y0,sX,.int .i64 r0] W fun e w'=>e=.returned (.bool true)∧Below W.heap.size W w':=by
 obtain ⟨t,et⟩:∃ t,(r0%256).tmod 5=t:=⟨_,rfl⟩
 have ht:0≤t∧t < 5:=by
  rw [Int.tmod_eq_emod_of_nonneg (by omega)] at et
  omega
 exact fillApart_core X0 Y0 r0 (X0%268435456) (Y0%268435456) (r0%256) t _ _ _ sX X (t+8).toNat (4 - t).toNat (by omega) (by omega) (mask28 X0) (mask28 Y0) (by omega) (by omega) (mask8r r0) et (by omega) rfl rfl rfl W hT hX
end Go.Proofs.YtbnlhdnnenahfaaGreatDoor
