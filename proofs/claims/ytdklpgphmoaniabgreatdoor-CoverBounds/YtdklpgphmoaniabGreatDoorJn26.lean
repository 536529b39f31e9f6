/-
  A spot is put into package cover's heap; in whatever memory.
-/
import Derived.Test.YtdklpgphmoaniabGreatDoorJn22
namespace Go.Proofs.YtdklpgphmoaniabGreatDoor
open Go.RowKit
theorem spot_lie (w:World) (B:Nat) (h:w.heap.size=B) (x y z:Int) (e:TypeId):∀ j u,([.int .i64 x,.int .i64 y,.int .i64 z]:List Value)[j]?=some u→(w.alloc (.cells #[.int .i64 x,.int .i64 y,.int .i64 z] e)).cell? ((⟨B,0,none⟩:Addr).add j)=some u:=by
 subst h
 intro j u hj
 match j,hj with
 | 0,hj=>simp at hj;subst hj;simp [Addr.add]
 | 1,hj=>simp at hj;subst hj;simp [Addr.add]
 | 2,hj=>simp at hj;subst hj;simp [Addr.add]
theorem spot_one (x y z:Int):∀ u∈([.int .i64 x,.int .i64 y,.int .i64 z]:List Value),u.oneCell'=true:=by
 intro u hu
 simp at hu
 rcases hu with rfl | rfl | rfl <;>rfl
theorem infoSpot:(Tryz.prog.info? 126).map (fun i=>(i.zero,i.size,i.bytes))=some (some (.agg #[.int .i64 0,.int .i64 0,.int .i64 0]),3,24):=by kernel_rfl
theorem info_partsQ {i?:Option TypeInfo} {z:Value} {s b:Nat} (h:i?.map (fun i=>(i.zero,i.size,i.bytes))=some (some z,s,b)):∃ i,i?=some i∧i.zero=some z∧i.size=s∧i.bytes=b:=by
 cases i? with
 | none=>simp at h
 | some i=>simp at h;exact ⟨i,rfl,h.1,h.2.1,h.2.2⟩
theorem far_keep {w w6:World} {row:Option Nat} {p:Addr} {v:Value} (hg:w.grownBy w6 row) (hne:some p.block≠row) (h:w.cell? p=some v∧w.frozen? p=false):w6.cell? p=some v∧w6.frozen? p=false :=
 ⟨hg.cell h.1 hne,by rw [World.frozen?_of_block (hg.block p.block (World.block_lt_of_cell? _ _ h.1) hne)];exact h.2⟩
set_option maxHeartbeats 8000000 in
set_option maxRecDepth 100000 in
theorem q_push (base B o n c:Nat) (p:Option Addr) (L:List Int) (x:Int) (hn:L.length=n) (w:World) (h:HatQ w base B o (.slice p n c) L) (hbase:base≤w.heap.size) (hsz:n≤200000) :
 Calls Tryz.prog 163 #[.pointer (some ⟨B,o,none⟩),.iface 126 (.agg #[.int .i64 (sp0 x),.int .i64 (sp1 x),.int .i64 (sp2 x)])] w fun e w'=>e=.returned (.tuple #[])∧∃ g' c',HatQ w' base B o (.slice (some ⟨g',0,none⟩) (n+1) c') (L++[x])∧ButQ B o (Value.slice p n c).ownBlock w w'∧((Value.slice p n c).ownBlock=some g'∨w.heap.size≤g'):=by
 have hB:=h.cell
 have hF:=h.frz
 have hlt:=h.lt
 have hne:=h.ne
 have hO:=h.own
 rw [hn] at hO
 have HN:=hidd hn
 have hA:=fun w=>as_spot (sp0 x) (sp1 x) (sp2 x) w
 have al:=allocB w (.cells #[.int .i64 (sp0 x),.int .i64 (sp1 x),.int .i64 (sp2 x)] 126)
 have CS:=hidd (And.intro (keepCell al hB) (keepFrozen al hB hF))
 have hOa:=hidd (own_keep al hO)
 have AL:=hidd al
 have hneQ:some (⟨B,o,none⟩:Addr).block≠(Value.slice p n c).ownBlock:=fun e=>hne e.symm
 have HX:=hidd (flat_one x)
 clear h hn hO al
 generalize sp0 x=s0 at *
 generalize sp1 x=s1 at *
 generalize sp2 x=s2 at *
 obtain ⟨i0,hi,hz0,hz1,hz2⟩:=info_partsQ infoSpot
 go_enter Tryz.func163,Tryz.ntmps163
 go_wp2_with fail
 go_region_law ((refine step_append_lies _ (by rfl) _ _ _ (by rfl) base 126 i0 (.agg #[.int .i64 0,.int .i64 0,.int .i64 0]) 3 24 Tryz.underlying87 hi hz0 hz1 hz2 rfl (by decide) _ n (flat L) (by rfl) hOa.out ⟨w.heap.size,0,none⟩ 1 1 [.int .i64 s0,.int .i64 s1,.int .i64 s2] (by rfl) rfl (spot_lie w.drew w.heap.size rfl s0 s1 s2 126) (spot_one _ _ _) (by decide) (by unfold maxLen;omega) (by omega) (by simp;omega) (w.heap.size+1) (by simp) ?_;intro g6 c6 w6 hown hgrow hat hlt6;obtain ⟨cs6,fs6⟩:=far_keep hgrow hneQ CS.out))
 all_goals
  have hg6:B≠g6∧((Value.slice p n c).ownBlock=some g6∨w.heap.size≤g6):=by
   rcases hat with h | h
   · exact ⟨fun e=>hne (by rw [h,e]),.inl h⟩
   · exact ⟨by omega,.inr (by omega)⟩
  have hb6:ButQ B o (Value.slice p n c).ownBlock w w6:=by
   have b1:ButQ B o (Value.slice p n c).ownBlock w (w.alloc (.cells #[.int .i64 s0,.int .i64 s1,.int .i64 s2] 126)).drew:=ButQ.of_below (belowT AL.out (drewB _)) hlt
   exact b1.trans (ButQ.grown hgrow (by simp;omega) hne) (.inl rfl)
  have FIN:=hidd (And.intro hown (And.intro hg6 hb6))
  have CF:=hidd (And.intro cs6 fs6)
  clear hown hgrow hat hg6 hb6
  go_wp2_with fail
  go_end0
  obtain ⟨ho,hg6,hb6⟩:=FIN.out
  have hl6:(L++[x]).length=n+1:=by simp [HN.out]
  have hv:flat (L++[x])=flat L++[.int .i64 s0,.int .i64 s1,.int .i64 s2]:=by rw [flat_app,HX.out]
  refine ⟨rfl,g6,c6,⟨store_new CF.out.1,by rw [World.frozen?_setCell];exact CF.out.2,fun e=>hg6.1 (by simpa [Value.ownBlock,eq_comm] using e),?_⟩,hb6.set _,hg6.2⟩
  rw [hl6,hv]
  exact (((ButQ.refl B o none _).set _).own ho (fun e=>hg6.1 (by simpa [Value.ownBlock,eq_comm] using e)) (fun x e=>by cases e))
set_option maxHeartbeats 8000000 in
set_option maxRecDepth 100000 in
theorem q_hpush (base B o n c:Nat) (p:Option Addr) (L:List Int) (x:Int) (hn:L.length=n) (w:World) (h:HatQ w base B o (.slice p n c) L) (hp:Hp n L.toArray) (hbase:base≤w.heap.size) (hsz:n≤200000) :
 Calls Tryz.prog 70 #[.iface 124 (.pointer (some ⟨B,o,none⟩)),.iface 126 (.agg #[.int .i64 (sp0 x),.int .i64 (sp1 x),.int .i64 (sp2 x)])] w fun e w'=>e=.returned (.tuple #[])∧∃ g' c' L',HatQ w' base B o (.slice (some ⟨g',0,none⟩) (n+1) c') L'∧L'.Perm (x :: L)∧Hp (n+1) L'.toArray∧L'.length=n+1∧ButQ B o (Value.slice p n c).ownBlock w w'∧((Value.slice p n c).ownBlock=some g'∨w.heap.size≤g'):=by
 have hP:=hidd (hp_push hp (by simp [hn]) x)
 have FP:=hidd (q_push base B o n c p L x hn w h hbase hsz)
 have HN:=hidd hn
 have mP:=n_push B o w
 have hlt:=h.lt
 clear h hp hn
 go_enter Tryz.func70,Tryz.ntmps70
 go_wp2_with fail
 refine FP.out.mono ?_
 rintro e w1 ⟨rfl,g1,c1,h1,hb1,hg1⟩
 have hl1:(L++[x]).length=n+1:=by simp [HN.out]
 have hB1:=h1.cell
 have mN:=n_len B o w1 _ hB1
 have hsd:((L++[x]).toArray).size=n+1:=by simp [HN.out]
 have hne1:B≠g1:=fun e=>h1.ne (by rw [e];rfl)
 have hR1:RowS base g1 c1 (L++[x]).toArray w1:=by
  have:=h1.own
  rw [hl1] at this
  unfold RowS
  rw [hsd]
  exact this
 have UP:=hidd (n_up B o base g1 c1 (n+1) n (L++[x]).toArray hsd w1 hB1 hne1 hR1 (by omega) (by omega))
 have H1:=hidd (And.intro h1 (And.intro hb1 hg1))
 have e1:((n+1:Nat):Int) - 1=(n:Int):=by omega
 clear FP mP h1 hb1 hg1 hR1
 go_wp2_with fail
 refine (q_len _ (n+1) ⟨_,_,rfl⟩ _).mono ?_
 rintro e w2 ⟨rfl,rfl⟩
 go_wp2_with fail
 refine UP.out.mono ?_
 rintro e w3 ⟨rfl,h3,g3⟩
 have HS:=hidd (And.intro h3 g3)
 clear UP h3 g3 mN
 go_wp2_with fail
 go_end0
 obtain ⟨h1,hb1,hg1⟩:=H1.out
 obtain ⟨h3,g3⟩:=HS.out
 have e2:(L++[x]).toArray=L.toArray.push x:=by simp
 have hp:=hP.out
 rw [← e2] at hp
 refine ⟨rfl,g1,c1,(siftUp n (L++[x]).toArray).toList,⟨g3.cell h1.cell (by simpa using hne1),by rw [World.frozen?_of_block (g3.block B h1.lt (by simpa using hne1))];exact h1.frz,h1.ne,?_⟩,by simpa using hp.2.1,by simpa using hp.1,by simpa using hp.2.2,hb1.trans (ButQ.grown g3 h1.lt (fun e=>hne1 (Option.some.inj e).symm)) (hg1.imp (fun h=>h.symm) fun h z hz=>by rw [← Option.some.inj hz];exact h),hg1⟩
 have h4:RowS base g1 c1 (siftUp n (L++[x]).toArray) w3:=h3
 unfold RowS at h4
 rw [hp.2.2] at h4
 rw [show (siftUp n (L++[x]).toArray).toList.length=n+1 by simpa using hp.2.2]
 exact h4
set_option maxHeartbeats 4000000 in
theorem q_centre_core (a b r X Y:Int) (CE:Hid (∀ w,Calls Tryz.prog 30 #[.agg #[.int .i64 a,.int .i64 b],.int .i64 r] w fun e w'=>e=.returned (.tuple #[.int .i64 X,.int .i64 Y,.bool true])∧Below w.heap.size w w')) (w:World) :
 Calls Tryz.prog 16 #[.agg #[.int .i64 a,.int .i64 b],.int .i64 r] w fun e w'=>e=.returned (.agg #[.int .i64 X,.int .i64 Y])∧Below w.heap.size w w':=by
 go_enter Tryz.func16,Tryz.ntmps16
 go_wp2_with fail
 refine (CE.out _).mono ?_
 rintro e w1 ⟨rfl,d1⟩
 have c1:Below w.heap.size w w1:=Below.trans (by go_grown) (d1.mono (by simp;try omega))
 have r0:w1.cell? ⟨w.heap.size+1,0,none⟩=some (.int .i64 0):=keepCell d1 (by go_simp)
 have fr0:w1.frozen? ⟨w.heap.size+1,0,none⟩=false:=keepFrozen (v:=.int .i64 0) d1 (by go_simp) (by go_simp)
 have qr0:=World.block_lt_of_cell? _ _ r0
 have r1:w1.cell? ⟨w.heap.size+1,1,none⟩=some (.int .i64 0):=keepCell d1 (by go_simp)
 have fr1:w1.frozen? ⟨w.heap.size+1,1,none⟩=false:=keepFrozen (v:=.int .i64 0) d1 (by go_simp) (by go_simp)
 have hB:=c1
 clear c1 d1
 obtain ⟨g0,g1⟩:=two_stores (u:=.int .i64 X) (v:=.int .i64 Y) r0 r1
 go_wp2_with fail
 exact bodyPost_ret (v:=.agg #[.int .i64 X,.int .i64 Y]) (by simp [results,Tryz.results16,go_sem,g0,g1]) rfl ⟨rfl,(hB.setCell (by simp;try omega) _).setCell (by simp;try omega) _⟩
theorem q_centre (a b r:Int) (K:Nat) (hK:K≤12) (hr:12 - r=(K:Int)) (ha:In30 a) (hb:In30 b) (w:World) :
 Calls Tryz.prog 16 #[.agg #[.int .i64 a,.int .i64 b],.int .i64 r] w fun e w'=>e=.returned (.agg #[.int .i64 (poX K a b),.int .i64 (poY K a b)])∧Below w.heap.size w w' :=
 q_centre_core a b r _ _ (hidd fun w=>pcentre_yes a b r K hK hr ha hb w) w
theorem unit_u {i:Nat} (hi:i < 6):unitA ((i:Int)%6)=uA i∧unitB ((i:Int)%6)=uB i:=by
 obtain rfl | rfl | rfl | rfl | rfl | rfl:=six_cases hi
 all_goals exact ⟨by decide,by decide⟩
set_option maxHeartbeats 8000000 in
set_option maxRecDepth 20000 in
theorem q_neigh_core (a b i p q X Y:Int) (UN:Hid (∀ w,Uni w→Calls Tryz.prog 45 #[.int .i64 i] w fun e w'=>e=.returned (.agg #[.int .i64 p,.int .i64 q])∧Below w.heap.size w w')) (AD:Hid (∀ w,Calls Tryz.prog 72 #[.agg #[.int .i64 a,.int .i64 b],.agg #[.int .i64 p,.int .i64 q]] w fun e w'=>e=.returned (.tuple #[.agg #[.int .i64 X,.int .i64 Y],.bool true])∧Below w.heap.size w w')) (w:World) (hU:Uni w) :
 Calls Tryz.prog 48 #[.agg #[.int .i64 a,.int .i64 b],.int .i64 i] w fun e w'=>e=.returned (.agg #[.int .i64 X,.int .i64 Y])∧Below w.heap.size w w':=by
 have al0:=allocB w (.cells #[.int .i64 a,.int .i64 b] 40)
 have al1:=allocB (w.alloc (.cells #[.int .i64 a,.int .i64 b] 40)) (.cells #[.int .i64 0,.int .i64 0] 40)
 have hB:=belowT al0 al1
 have hU1:=hidd (hU.below hB)
 have z0:((w.alloc (.cells #[.int .i64 a,.int .i64 b] 40)).alloc (.cells #[.int .i64 0,.int .i64 0] 40)).cell? ⟨w.heap.size,0,none⟩=some (.int .i64 a):=by go_simp
 have z1:((w.alloc (.cells #[.int .i64 a,.int .i64 b] 40)).alloc (.cells #[.int .i64 0,.int .i64 0] 40)).cell? ⟨w.heap.size,1,none⟩=some (.int .i64 b):=by go_simp
 have r0:((w.alloc (.cells #[.int .i64 a,.int .i64 b] 40)).alloc (.cells #[.int .i64 0,.int .i64 0] 40)).cell? ⟨w.heap.size+1,0,none⟩=some (.int .i64 0):=by go_simp
 have r1:((w.alloc (.cells #[.int .i64 a,.int .i64 b] 40)).alloc (.cells #[.int .i64 0,.int .i64 0] 40)).cell? ⟨w.heap.size+1,1,none⟩=some (.int .i64 0):=by go_simp
 have fr0:((w.alloc (.cells #[.int .i64 a,.int .i64 b] 40)).alloc (.cells #[.int .i64 0,.int .i64 0] 40)).frozen? ⟨w.heap.size+1,0,none⟩=false:=by go_simp
 have fr1:((w.alloc (.cells #[.int .i64 a,.int .i64 b] 40)).alloc (.cells #[.int .i64 0,.int .i64 0] 40)).frozen? ⟨w.heap.size+1,1,none⟩=false:=by go_simp
 clear al0 al1 hU
 go_enter Tryz.func48,Tryz.ntmps48
 go_wp2_with fail
 generalize (w.alloc (.cells #[.int .i64 a,.int .i64 b] 40)).alloc (.cells #[.int .i64 0,.int .i64 0] 40)=w1 at *
 have hT1:Hid (∀ wx,(wx.cell? ⟨w.heap.size,0,none⟩=some (.int .i64 a)∧wx.cell? ⟨w.heap.size,1,none⟩=some (.int .i64 b)∧Below w1.heap.size w1 wx)→Uni wx):=hidd fun wx h=>hU1.out.below h.2.2
 have hS0:=keepTwo (drewB w1) ⟨z0,z1,Below.refl _ _⟩
 have qz:=World.block_lt_of_cell? _ _ r0
 go_cut [5] from 8 to 13 (fun v5 wx=>∃ p:Nat,v5=.pointer (some ⟨p,0,none⟩)∧w1.heap.size≤p∧wx.cell? ⟨p,0,none⟩=some (.int .i64 X)∧wx.cell? ⟨p,1,none⟩=some (.int .i64 Y)∧Below w1.heap.size w1 wx)
 case first =>
  go_region_held3 (fun w'=>w'.cell? ⟨w.heap.size,0,none⟩=some (.int .i64 a)∧w'.cell? ⟨w.heap.size,1,none⟩=some (.int .i64 b)∧Below w1.heap.size w1 w') (first | exact hS0 | exact keepTwo hb (by assumption) | exact keepTwo (allocB _ _) (by assumption) | exact keepTwoSwap (by first | omega | (simp;omega) | simp) (by first | omega | (simp;omega) | simp) (by first | omega | (simp;omega) | simp) (by assumption) | exact keepTwoStore (by first | omega | (simp;omega) | simp) (by first | omega | (simp;omega) | simp) (by first | omega | (simp;omega) | simp) (by assumption))
   (first | (go_at_call 45;refine (UN.out _ (hT1.out _ (by assumption))).mono ?_;rintro e w' ⟨rfl,hb⟩;(try (have nw:=keepNew hb (by first | assumption | exact new_alloc _);have nw0:=nw.1;have nw1:=nw.2.1;have nw2:=nw.2.2.1;have nw3:=nw.2.2.2));have hz:=hb.size;(try simp at hz)) | (go_at_call 72;refine (AD.out _).mono ?_;rintro e w' ⟨rfl,hb⟩;(try (have nw:=keepNew hb (by first | assumption | exact new_alloc _);have nw0:=nw.1;have nw1:=nw.2.1;have nw2:=nw.2.2.1;have nw3:=nw.2.2.2));have hz:=hb.size;(try simp at hz)))
  all_goals
   rename_i hS
   go_wp2_with fail
   go_meet
   exact ⟨_,rfl,(by first | omega | (simp;omega) | simp),(by first | exact store_keep (store_new nw0) (by simp) | go_simp),(by first | exact store_new (store_keep nw1 (by simp)) | go_simp),hS.2.2⟩
 case rest =>
  obtain ⟨k,rfl,hk,t0,t1,hw⟩:=hcut
  replace fr0:=keepFrozen hw r0 fr0
  replace fr1:=keepFrozen hw r1 fr1
  replace r0:=keepCell hw r0
  replace r1:=keepCell hw r1
  replace hB:=belowT hB hw
  obtain ⟨g0,g1⟩:=two_stores (u:=.int .i64 X) (v:=.int .i64 Y) r0 r1
  go_wp2_with fail
  exact bodyPost_ret (v:=.agg #[.int .i64 X,.int .i64 Y]) (by simp [results,Tryz.results48,go_sem,g0,g1]) rfl ⟨rfl,(hB.setCell (by simp;try omega) _).setCell (by simp;try omega) _⟩
theorem q_neigh (a b:Int) (i:Nat) (hi:i < 6) (ha: -1000000000≤a∧a≤1000000000) (hb: -1000000000≤b∧b≤1000000000) (w:World) (hU:Uni w) :
 Calls Tryz.prog 48 #[.agg #[.int .i64 a,.int .i64 b],.int .i64 (i:Int)] w fun e w'=>e=.returned (.agg #[.int .i64 (a+uA i),.int .i64 (b+uB i)])∧Below w.heap.size w w':=by
 have hu:(-1≤uA i∧uA i≤1)∧(-1≤uB i∧uB i≤1):=by
  obtain rfl | rfl | rfl | rfl | rfl | rfl:=six_cases hi <;>simp [uA,uB]
 refine q_neigh_core a b i (uA i) (uB i) _ _ (hidd fun w hU=>?_) (hidd fun w=>eadd_small a b (uA i) (uB i) _ _ rfl rfl (by omega) (by omega) (by omega) (by omega) (by omega) (by omega) (by omega) (by omega) w) w hU
 have:=eunit_any (i:Int) (by omega) (by omega) w hU
 rwa [(unit_u hi).1,(unit_u hi).2] at this
end Go.Proofs.YtdklpgphmoaniabGreatDoor
