/-
  A spot is put into package cover's heap; in whatever memory.
-/
import Derived.Test.YtdklpgphmoaniaaGreatDoorJn27
namespace Go.Proofs.YtdklpgphmoaniaaGreatDoor
open Go.RowKit
theorem spot_lie (w:World) (B:Nat) (h:w.heap.size=B) (x y z:Int) (e:TypeId):∀ j u,([.int .i64 x,.int .i64 y,.int .i64 z]:List Value)[j]?=some u→(w.alloc (.cells #[.int .i64 x,.int .i64 y,.int .i64 z] e)).cell? ((⟨B,0,none⟩:Addr).add j)=some u:=by
 subst h
 intro j u hj
 match j,hj with
 | 0,hj=>simp at hj;subst hj;simp [Addr.add]
 | 1,hj=>simp at hj;subst hj;simp [Addr.add]
 | 2,hj=>simp at hj;subst hj;simp [Addr.add]
theorem spot_one (x y z:Int):∀ u∈([.int .i64 x,.int .i64 y,.int .i64 z]:List Value),u.oneCell'=true:=by
 intro u hu
 simp at hu
 rcases hu with rfl | rfl | rfl <;>rfl
theorem infoSpot:(Tryz.prog.info? 188).map (fun i=>(i.zero,i.size,i.bytes))=some (some (.agg #[.int .i64 0,.int .i64 0,.int .i64 0]),3,24):=by kernel_rfl
theorem info_partsQ {i?:Option TypeInfo} {z:Value} {s b:Nat} (h:i?.map (fun i=>(i.zero,i.size,i.bytes))=some (some z,s,b)):∃ i,i?=some i∧i.zero=some z∧i.size=s∧i.bytes=b:=by
 cases i? with
 | none=>simp at h
 | some i=>simp at h;exact ⟨i,rfl,h.1,h.2.1,h.2.2⟩
theorem far_keep {w w6:World} {row:Option Nat} {p:Addr} {v:Value} (hg:w.grownBy w6 row) (hne:some p.block≠row) (h:w.cell? p=some v∧w.frozen? p=false):w6.cell? p=some v∧w6.frozen? p=false :=
 ⟨hg.cell h.1 hne,by rw [World.frozen?_of_block (hg.block p.block (World.block_lt_of_cell? _ _ h.1) hne)];exact h.2⟩
set_option maxHeartbeats 8000000 in
set_option maxRecDepth 100000 in
theorem q_push (base B o n c:Nat) (p:Option Addr) (L:List Int) (x:Int) (hn:L.length=n) (w:World) (h:HatQ w base B o (.slice p n c) L) (hbase:base≤w.heap.size) (hsz:n≤200000) :
 Calls Tryz.prog 205 #[.pointer (some ⟨B,o,none⟩),.iface 188 (.agg #[.int .i64 (sp0 x),.int .i64 (sp1 x),.int .i64 (sp2 x)])] w fun e w'=>e=.returned (.tuple #[])∧∃ g' c',HatQ w' base B o (.slice (some ⟨g',0,none⟩) (n+1) c') (L++[x])∧ButQ B o (Value.slice p n c).ownBlock w w'∧((Value.slice p n c).ownBlock=some g'∨w.heap.size≤g'):=by
 have hB:=h.cell
 have hF:=h.frz
 have hlt:=h.lt
 have hne:=h.ne
 have hO:=h.own
 rw [hn] at hO
 have HN:=hidd hn
 have hA:=fun w=>as_spot (sp0 x) (sp1 x) (sp2 x) w
 have al:=allocB w (.cells #[.int .i64 (sp0 x),.int .i64 (sp1 x),.int .i64 (sp2 x)] 188)
 have CS:=hidd (And.intro (keepCell al hB) (keepFrozen al hB hF))
 have hOa:=hidd (own_keep al hO)
 have AL:=hidd al
 have hneQ:some (⟨B,o,none⟩:Addr).block≠(Value.slice p n c).ownBlock:=fun e=>hne e.symm
 have HX:=hidd (flat_one x)
 clear h hn hO al
 generalize sp0 x=s0 at *
 generalize sp1 x=s1 at *
 generalize sp2 x=s2 at *
 obtain ⟨i0,hi,hz0,hz1,hz2⟩:=info_partsQ infoSpot
 go_enter Tryz.func205,Tryz.ntmps205
 go_wp2_with fail
 go_region_law ((refine step_append_lies _ (by rfl) _ _ _ (by rfl) base 188 i0 (.agg #[.int .i64 0,.int .i64 0,.int .i64 0]) 3 24 Tryz.underlying152 hi hz0 hz1 hz2 rfl (by decide) _ n (flat L) (by rfl) hOa.out ⟨w.heap.size,0,none⟩ 1 1 [.int .i64 s0,.int .i64 s1,.int .i64 s2] (by rfl) rfl (spot_lie w.drew w.heap.size rfl s0 s1 s2 188) (spot_one _ _ _) (by decide) (by unfold maxLen;omega) (by omega) (by simp;omega) (w.heap.size+1) (by simp) ?_;intro g6 c6 w6 hown hgrow hat hlt6;obtain ⟨cs6,fs6⟩:=far_keep hgrow hneQ CS.out))
 all_goals
  have hg6:B≠g6∧((Value.slice p n c).ownBlock=some g6∨w.heap.size≤g6):=by
   rcases hat with h | h
   · exact ⟨fun e=>hne (by rw [h,e]),.inl h⟩
   · exact ⟨by omega,.inr (by omega)⟩
  have hb6:ButQ B o (Value.slice p n c).ownBlock w w6:=by
   have b1:ButQ B o (Value.slice p n c).ownBlock w (w.alloc (.cells #[.int .i64 s0,.int .i64 s1,.int .i64 s2] 188)).drew:=ButQ.of_below (belowT AL.out (drewB _)) hlt
   exact b1.trans (ButQ.grown hgrow (by simp;omega) hne) (.inl rfl)
  have FIN:=hidd (And.intro hown (And.intro hg6 hb6))
  have CF:=hidd (And.intro cs6 fs6)
  clear hown hgrow hat hg6 hb6
  go_wp2_with fail
  go_end0
  obtain ⟨ho,hg6,hb6⟩:=FIN.out
  have hl6:(L++[x]).length=n+1:=by simp [HN.out]
  have hv:flat (L++[x])=flat L++[.int .i64 s0,.int .i64 s1,.int .i64 s2]:=by rw [flat_app,HX.out]
  refine ⟨rfl,g6,c6,⟨store_new CF.out.1,by rw [World.frozen?_setCell];exact CF.out.2,fun e=>hg6.1 (by simpa [Value.ownBlock,eq_comm] using e),?_⟩,hb6.set _,hg6.2⟩
  rw [hl6,hv]
  exact (((ButQ.refl B o none _).set _).own ho (fun e=>hg6.1 (by simpa [Value.ownBlock,eq_comm] using e)) (fun x e=>by cases e))
set_option maxHeartbeats 8000000 in
set_option maxRecDepth 100000 in
theorem q_hpush (base B o n c:Nat) (p:Option Addr) (L:List Int) (x:Int) (hn:L.length=n) (w:World) (h:HatQ w base B o (.slice p n c) L) (hp:Hp n L.toArray) (hbase:base≤w.heap.size) (hsz:n≤200000) :
 Calls Tryz.prog 136 #[.iface 186 (.pointer (some ⟨B,o,none⟩)),.iface 188 (.agg #[.int .i64 (sp0 x),.int .i64 (sp1 x),.int .i64 (sp2 x)])] w fun e w'=>e=.returned (.tuple #[])∧∃ g' c' L',HatQ w' base B o (.slice (some ⟨g',0,none⟩) (n+1) c') L'∧L'.Perm (x :: L)∧Hp (n+1) L'.toArray∧L'.length=n+1∧ButQ B o (Value.slice p n c).ownBlock w w'∧((Value.slice p n c).ownBlock=some g'∨w.heap.size≤g'):=by
 have hP:=hidd (hp_push hp (by simp [hn]) x)
 have FP:=hidd (q_push base B o n c p L x hn w h hbase hsz)
 have HN:=hidd hn
 have mP:=n_push B o w
 have hlt:=h.lt
 clear h hp hn
 go_enter Tryz.func136,Tryz.ntmps136
 go_wp2_with fail
 refine FP.out.mono ?_
 rintro e w1 ⟨rfl,g1,c1,h1,hb1,hg1⟩
 have hl1:(L++[x]).length=n+1:=by simp [HN.out]
 have hB1:=h1.cell
 have mN:=n_len B o w1 _ hB1
 have hsd:((L++[x]).toArray).size=n+1:=by simp [HN.out]
 have hne1:B≠g1:=fun e=>h1.ne (by rw [e];rfl)
 have hR1:RowS base g1 c1 (L++[x]).toArray w1:=by
  have:=h1.own
  rw [hl1] at this
  unfold RowS
  rw [hsd]
  exact this
 have UP:=hidd (n_up B o base g1 c1 (n+1) n (L++[x]).toArray hsd w1 hB1 hne1 hR1 (by omega) (by omega))
 have H1:=hidd (And.intro h1 (And.intro hb1 hg1))
 have e1:((n+1:Nat):Int) - 1=(n:Int):=by omega
 clear FP mP h1 hb1 hg1 hR1
 go_wp2_with fail
 refine (q_len _ (n+1) ⟨_,_,rfl⟩ _).mono ?_
 rintro e w2 ⟨rfl,rfl⟩
 go_wp2_with fail
 refine UP.out.mono ?_
 rintro e w3 ⟨rfl,h3,g3⟩
 have HS:=hidd (And.intro h3 g3)
 clear UP h3 g3 mN
 go_wp2_with fail
 go_end0
 obtain ⟨h1,hb1,hg1⟩:=H1.out
 obtain ⟨h3,g3⟩:=HS.out
 have e2:(L++[x]).toArray=L.toArray.push x:=by simp
 have hp:=hP.out
 rw [← e2] at hp
 refine ⟨rfl,g1,c1,(siftUp n (L++[x]).toArray).toList,⟨g3.cell h1.cell (by simpa using hne1),by rw [World.frozen?_of_block (g3.block B h1.lt (by simpa using hne1))];exact h1.frz,h1.ne,?_⟩,by simpa using hp.2.1,by simpa using hp.1,by simpa using hp.2.2,hb1.trans (ButQ.grown g3 h1.lt (fun e=>hne1 (Option.some.inj e).symm)) (hg1.imp (fun h=>h.symm) fun h z hz=>by rw [← Option.some.inj hz];exact h),hg1⟩
 have h4:RowS base g1 c1 (siftUp n (L++[x]).toArray) w3:=h3
 unfold RowS at h4
 rw [hp.2.2] at h4
 rw [show (siftUp n (L++[x]).toArray).toList.length=n+1 by simpa using hp.2.2]
 exact h4
set_option maxHeartbeats 4000000 in
theorem q_centre_core (a b r X Y:Int) (CE:Hid (∀ w,Calls Tryz.prog 71 #[.agg #[.int .i64 a,.int .i64 b],.int .i64 r] w fun e w'=>e=.returned (.tuple #[.int .i64 X,.int .i64 Y,.bool true])∧Below w.heap.size w w')) (w:World) :
 Calls Tryz.prog 39 #[.agg #[.int .i64 a,.int .i64 b],.int .i64 r] w fun e w'=>e=.returned (.agg #[.int .i64 X,.int .i64 Y])∧Below w.heap.size w w':=by
 go_enter Tryz.func39,Tryz.ntmps39
 go_wp2_with fail
 refine (CE.out _).mono ?_
 rintro e w1 ⟨rfl,d1⟩
 have c1:Below w.heap.size w w1:=Below.trans (by go_grown) (d1.mono (by simp;try omega))
 have r0:w1.cell? ⟨w.heap.size+1,0,none⟩=some (.int .i64 0):=keepCell d1 (by go_simp)
 have fr0:w1.frozen? ⟨w.heap.size+1,0,none⟩=false:=keepFrozen (v:=.int .i64 0) d1 (by go_simp) (by go_simp)
 have qr0:=World.block_lt_of_cell? _ _ r0
 have r1:w1.cell? ⟨w.heap.size+1,1,none⟩=some (.int .i64 0):=keepCell d1 (by go_simp)
 have fr1:w1.frozen? ⟨w.heap.size+1,1,none⟩=false:=keepFrozen (v:=.int .i64 0) d1 (by go_simp) (by go_simp)
 have hB:=c1
 clear c1 d1
 obtain ⟨g0,g1⟩:=two_stores (u:=.int .i64 X) (v:=.int .i64 Y) r0 r1
 go_wp2_with fail
 exact bodyPost_ret (v:=.agg #[.int .i64 X,.int .i64 Y]) (by simp [results,Tryz.results39,go_sem,g0,g1]) rfl ⟨rfl,(hB.setCell (by simp;try omega) _).setCell (by simp;try omega) _⟩
theorem q_centre (a b r:Int) (K:Nat) (hK:K≤12) (hr:12 - r=(K:Int)) (ha:In30 a) (hb:In30 b) (w:World) :
 Calls Tryz.prog 39 #[.agg #[.int .i64 a,.int .i64 b],.int .i64 r] w fun e w'=>e=.returned (.agg #[.int .i64 (poX K a b),.int .i64 (poY K a b)])∧Below w.heap.size w w' :=
 q_centre_core a b r _ _ (hidd fun w=>pcentre_yes a b r K hK hr ha hb w) w
theorem unit_u {i:Nat} (hi:i < 6):unitA ((i:Int)%6)=uA i∧unitB ((i:Int)%6)=uB i:=by
 obtain rfl | rfl | rfl | rfl | rfl | rfl:=six_cases hi
 all_goals exact ⟨by decide,by decide⟩
set_option maxHeartbeats 8000000 in
set_option maxRecDepth 20000 in
theorem q_neigh_core (a b i p q X Y:Int) (UN:Hid (∀ w,Uni w→Calls Tryz.prog 103 #[.int .i64 i] w fun e w'=>e=.returned (.agg #[.int .i64 p,.int .i64 q])∧Below w.heap.size w w')) (AD:Hid (∀ w,Calls Tryz.prog 111 #[.agg #[.int .i64 a,.int .i64 b],.agg #[.int .i64 p,.int .i64 q]] w fun e w'=>e=.returned (.tuple #[.agg #[.int .i64 X,.int .i64 Y],.bool true])∧Below w.heap.size w w')) (w:World) (hU:Uni w) :
 Calls Tryz.prog 106 #[.agg #[.int .i64 a,.int .i64 b],.int .i64 i] w fun e w'=>e=.returned (.agg #[.int .i64 X,.int .i64 Y])∧Below w.heap.size w w':=by
 have al0:=allocB w (.cells #[.int .i64 a,.int .i64 b] 23)
 have al1:=allocB (w.alloc (.cells #[.int .i64 a,.int .i64 b] 23)) (.cells #[.int .i64 0,.int .i64 0] 23)
 have hB:=belowT al0 al1
 have hU1:=hidd (hU.below hB)
 have z0:((w.alloc (.cells #[.int .i64 a,.int .i64 b] 23)).alloc (.cells #[.int .i64 0,.int .i64 0] 23)).cell? ⟨w.heap.size,0,none⟩=some (.int .i64 a):=by go_simp
 have z1:((w.alloc (.cells #[.int .i64 a,.int .i64 b] 23)).alloc (.cells #[.int .i64 0,.int .i64 0] 23)).cell? ⟨w.heap.size,1,none⟩=some (.int .i64 b):=by go_simp
 have r0:((w.alloc (.cells #[.int .i64 a,.int .i64 b] 23)).alloc (.cells #[.int .i64 0,.int .i64 0] 23)).cell? ⟨w.heap.size+1,0,none⟩=some (.int .i64 0):=by go_simp
 have r1:((w.alloc (.cells #[.int .i64 a,.int .i64 b] 23)).alloc (.cells #[.int .i64 0,.int .i64 0] 23)).cell? ⟨w.heap.size+1,1,none⟩=some (.int .i64 0):=by go_simp
 have fr0:((w.alloc (.cells #[.int .i64 a,.int .i64 b] 23)).alloc (.cells #[.int .i64 0,.int .i64 0] 23)).frozen? ⟨w.heap.size+1,0,none⟩=false:=by go_simp
 have fr1:((w.alloc (.cells #[.int .i64 a,.int .i64 b] 23)).alloc (.cells #[.int .i64 0,.int .i64 0] 23)).frozen? ⟨w.heap.size+1,1,none⟩=false:=by go_simp
 clear al0 al1 hU
 go_enter Tryz.func106,Tryz.ntmps106
 go_wp2_with fail
 generalize (w.alloc (.cells #[.int .i64 a,.int .i64 b] 23)).alloc (.cells #[.int .i64 0,.int .i64 0] 23)=w1 at *
 have hT1:Hid (∀ wx,(wx.cell? ⟨w.heap.size,0,none⟩=some (.int .i64 a)∧wx.cell? ⟨w.heap.size,1,none⟩=some (.int .i64 b)∧Below w1.heap.size w1 wx)→Uni wx):=hidd fun wx h=>hU1.out.below h.2.2
 have hS0:=keepTwo (drewB w1) ⟨z0,z1,Below.refl _ _⟩
 have qz:=World.block_lt_of_cell? _ _ r0
 go_cut [5] from 8 to 13 (fun v5 wx=>∃ p:Nat,v5=.pointer (some ⟨p,0,none⟩)∧w1.heap.size≤p∧wx.cell? ⟨p,0,none⟩=some (.int .i64 X)∧wx.cell? ⟨p,1,none⟩=some (.int .i64 Y)∧Below w1.heap.size w1 wx)
 case first =>
  go_region_held3 (fun w'=>w'.cell? ⟨w.heap.size,0,none⟩=some (.int .i64 a)∧w'.cell? ⟨w.heap.size,1,none⟩=some (.int .i64 b)∧Below w1.heap.size w1 w') (first | exact hS0 | exact keepTwo hb (by assumption) | exact keepTwo (allocB _ _) (by assumption) | exact keepTwoSwap (by first | omega | (simp;omega) | simp) (by first | omega | (simp;omega) | simp) (by first | omega | (simp;omega) | simp) (by assumption) | exact keepTwoStore (by first | omega | (simp;omega) | simp) (by first | omega | (simp;omega) | simp) (by first | omega | (simp;omega) | simp) (by assumption))
   (first | (go_at_call 103;refine (UN.out _ (hT1.out _ (by assumption))).mono ?_;rintro e w' ⟨rfl,hb⟩;(try (have nw:=keepNew hb (by first | assumption | exact new_alloc _);have nw0:=nw.1;have nw1:=nw.2.1;have nw2:=nw.2.2.1;have nw3:=nw.2.2.2));have hz:=hb.size;(try simp at hz)) | (go_at_call 111;refine (AD.out _).mono ?_;rintro e w' ⟨rfl,hb⟩;(try (have nw:=keepNew hb (by first | assumption | exact new_alloc _);have nw0:=nw.1;have nw1:=nw.2.1;have nw2:=nw.2.2.1;have nw3:=nw.2.2.2));have hz:=hb.size;(try simp at hz)))
  all_goals
   rename_i hS
   go_wp2_with fail
   go_meet
   exact ⟨_,rfl,(by first | omega | (simp;omega) | simp),(by first | exact store_keep (store_new nw0) (by simp) | go_simp),(by first | exact store_new (store_keep nw1 (by simp)) | go_simp),hS.2.2⟩
 case rest =>
  obtain ⟨k,rfl,hk,t0,t1,hw⟩:=hcut
  replace fr0:=keepFrozen hw r0 fr0
  replace fr1:=keepFrozen hw r1 fr1
  replace r0:=keepCell hw r0
  replace r1:=keepCell hw r1
  replace hB:=belowT hB hw
  obtain ⟨g0,g1⟩:=two_stores (u:=.int .i64 X) (v:=.int .i64 Y) r0 r1
  go_wp2_with fail
  exact bodyPost_ret (v:=.agg #[.int .i64 X,.int .i64 Y]) (by simp [results,Tryz.results106,go_sem,g0,g1]) rfl ⟨rfl,(hB.setCell (by simp;try omega) _).setCell (by simp;try omega) _⟩
theorem q_neigh (a b:Int) (i:Nat) (hi:i < 6) (ha: -1000000000≤a∧a≤1000000000) (hb: -1000000000≤b∧b≤1000000000) (w:World) (hU:Uni w) :
 Calls Tryz.prog 106 #[.agg #[.int .i64 a,.int .i64 b],.int .i64 (i:Int)] w fun e w'=>e=.returned (.agg #[.int .i64 (a+uA i),.int .i64 (b+uB i)])∧Below w.heap.size w w':=by
 have hu:(-1≤uA i∧uA i≤1)∧(-1≤uB i∧uB i≤1):=by
  obtain rfl | rfl | rfl | rfl | rfl | rfl:=six_cases hi <;>simp [uA,uB]
 refine q_neigh_core a b i (uA i) (uB i) _ _ (hidd fun w hU=>?_) (hidd fun w=>eadd_small a b (uA i) (uB i) _ _ rfl rfl (by omega) (by omega) (by omega) (by omega) (by omega) (by omega) (by omega) (by omega) w) w hU
 have:=eunit_any (i:Int) (by omega) (by omega) w hU
 rwa [(unit_u hi).1,(unit_u hi).2] at this
def SizA (S:Nat) (r d:Int) (w:World):Prop:=w.cell? ⟨S,4,none⟩=some (.int .i64 r)∧w.cell? ⟨S,5,none⟩=some (.int .i64 d)
theorem SizA.keep {S:Nat} {r d:Int} {w w':World} (h:SizA S r d w) (hb:Below w.heap.size w w'):SizA S r d w':=⟨keepCell hb h.1,keepCell hb h.2⟩
theorem SizA.but {S:Nat} {r d:Int} {o:Nat} {row:Option Nat} {w w':World} (h:SizA S r d w) (hb:ButQ S o row w w') (h1:o≠4) (h2:o≠5):SizA S r d w':=⟨hb.cellB h.1 (fun e=>h1 e.symm),hb.cellB h.2 (fun e=>h2 e.symm)⟩
theorem keepFourQ {w0 a b:World} {p0 p1 p2 p3:Addr} {v0 v1 v2 v3:Value} (hb:Below a.heap.size a b) (h:a.cell? p0=some v0∧a.cell? p1=some v1∧a.cell? p2=some v2∧a.cell? p3=some v3∧Below w0.heap.size w0 a) :
 b.cell? p0=some v0∧b.cell? p1=some v1∧b.cell? p2=some v2∧b.cell? p3=some v3∧Below w0.heap.size w0 b :=
 ⟨keepCell hb h.1,keepCell hb h.2.1,keepCell hb h.2.2.1,keepCell hb h.2.2.2.1,belowT h.2.2.2.2 hb⟩
theorem ix_0 (X Y:Int) (w:World):(Instr.index 38 (.agg #[.int .i64 X,.int .i64 Y]) (.int .i64 0)).run Tryz.prog w=.ok (.int .i64 X) w:=by kernel_rfl
theorem ix_1 (X Y:Int) (w:World):(Instr.index 38 (.agg #[.int .i64 X,.int .i64 Y]) (.int .i64 1)).run Tryz.prog w=.ok (.int .i64 Y) w:=by kernel_rfl
set_option maxHeartbeats 4000000 in
set_option maxRecDepth 20000 in
theorem q_place_core (S d:Nat) (a b r X Y P:Int) (hd:(d=0∧P=X)∨(d=1∧P=Y)) (CE:Hid (∀ w,Calls Tryz.prog 39 #[.agg #[.int .i64 a,.int .i64 b],.int .i64 r] w fun e w'=>e=.returned (.agg #[.int .i64 X,.int .i64 Y])∧Below w.heap.size w w')) (w:World) (h:SizA S r (d:Int) w) :
 Calls Tryz.prog 102 #[.pointer (some ⟨S,0,none⟩),.agg #[.int .i64 a,.int .i64 b]] w fun e w'=>e=.returned (.int .i64 P)∧Below w.heap.size w w':=by
 obtain ⟨c4,c5⟩:=h
 have al:=allocB w (.cells #[.int .i64 a,.int .i64 b] 23)
 replace c4:=keepCell al c4
 replace c5:=keepCell al c5
 have z0:(w.alloc (.cells #[.int .i64 a,.int .i64 b] 23)).cell? ⟨w.heap.size,0,none⟩=some (.int .i64 a):=by go_simp
 have z1:(w.alloc (.cells #[.int .i64 a,.int .i64 b] 23)).cell? ⟨w.heap.size,1,none⟩=some (.int .i64 b):=by go_simp
 have I0:=ix_0 X Y
 have I1:=ix_1 X Y
 rcases hd with ⟨rfl,rfl⟩ | ⟨rfl,rfl⟩
 · have c5':(w.alloc (.cells #[.int .i64 a,.int .i64 b] 23)).cell? ⟨S,5,none⟩=some (.int .i64 0):=c5
   clear c5
   go_enter Tryz.func102,Tryz.ntmps102
   go_wp2_with fail
   generalize w.alloc (.cells #[.int .i64 a,.int .i64 b] 23)=w1 at *
   have hS0:=keepFourQ (drewB w1) ⟨z0,z1,c4,c5',al⟩
   go_region_held3 (fun w'=>w'.cell? ⟨w.heap.size,0,none⟩=some (.int .i64 a)∧w'.cell? ⟨w.heap.size,1,none⟩=some (.int .i64 b)∧w'.cell? ⟨S,4,none⟩=some (.int .i64 r)∧w'.cell? ⟨S,5,none⟩=some (.int .i64 0)∧Below w.heap.size w w') (first | exact hS0 | exact keepFourQ hb (by assumption))
    (first | (go_at_call 39;refine (CE.out _).mono ?_;rintro e w' ⟨rfl,hb⟩))
   go_wp2
   go_ret
   rename_i hS
   exact ⟨rfl,hS.2.2.2.2⟩
 · have c5':(w.alloc (.cells #[.int .i64 a,.int .i64 b] 23)).cell? ⟨S,5,none⟩=some (.int .i64 1):=c5
   clear c5
   go_enter Tryz.func102,Tryz.ntmps102
   go_wp2_with fail
   generalize w.alloc (.cells #[.int .i64 a,.int .i64 b] 23)=w1 at *
   have hS0:=keepFourQ (drewB w1) ⟨z0,z1,c4,c5',al⟩
   go_region_held3 (fun w'=>w'.cell? ⟨w.heap.size,0,none⟩=some (.int .i64 a)∧w'.cell? ⟨w.heap.size,1,none⟩=some (.int .i64 b)∧w'.cell? ⟨S,4,none⟩=some (.int .i64 r)∧w'.cell? ⟨S,5,none⟩=some (.int .i64 1)∧Below w.heap.size w w') (first | exact hS0 | exact keepFourQ hb (by assumption))
    (first | (go_at_call 39;refine (CE.out _).mono ?_;rintro e w' ⟨rfl,hb⟩))
   go_wp2
   go_ret
   rename_i hS
   exact ⟨rfl,hS.2.2.2.2⟩
theorem q_place (S d:Nat) (hd:d≤1) (a b r:Int) (K:Nat) (hK:K≤12) (hr:12 - r=(K:Int)) (hn:Near9 a b) (w:World) (h:SizA S r (d:Int) w) :
 Calls Tryz.prog 102 #[.pointer (some ⟨S,0,none⟩),.agg #[.int .i64 a,.int .i64 b]] w fun e w'=>e=.returned (.int .i64 (plc K d a b))∧Below w.heap.size w w':=by
 unfold Near9 at hn
 refine q_place_core S d a b r _ _ _ ?_ (hidd fun w=>q_centre a b r K hK hr ⟨by omega,by omega⟩ ⟨by omega,by omega⟩ w) w h
 unfold plc
 obtain rfl | rfl:d=0∨d=1:=by omega
 · exact .inl ⟨rfl,rfl⟩
 · exact .inr ⟨rfl,rfl⟩
set_option maxHeartbeats 4000000 in
set_option maxRecDepth 20000 in
theorem q_put_core (base S n c d:Nat) (r:Int) (p:Option Addr) (H:List Int) (x a b t:Int) (hn:H.length=n) (PL:Hid (∀ w,SizA S r (d:Int) w→Calls Tryz.prog 102 #[.pointer (some ⟨S,0,none⟩),.agg #[.int .i64 a,.int .i64 b]] w fun e w'=>e=.returned (.int .i64 t)∧Below w.heap.size w w'))
 (PU:Hid (∀ w,HatQ w base S 7 (.slice p n c) H→base≤w.heap.size→Calls Tryz.prog 136 #[.iface 186 (.pointer (some ⟨S,7,none⟩)),.iface 188 (.agg #[.int .i64 t,.int .i64 a,.int .i64 b])] w fun e w'=>e=.returned (.tuple #[])∧∃ g' c' H',HatQ w' base S 7 (.slice (some ⟨g',0,none⟩) (n+1) c') H'∧H'.Perm (x :: H)∧Hp (n+1) H'.toArray∧H'.length=n+1∧ButQ S 7 (Value.slice p n c).ownBlock w w'∧((Value.slice p n c).ownBlock=some g'∨w.heap.size≤g')))
 (w:World) (h:SizA S r (d:Int) w) (hH:HatQ w base S 7 (.slice p n c) H) (hbase:base≤w.heap.size) :
 Calls Tryz.prog 104 #[.pointer (some ⟨S,0,none⟩),.agg #[.int .i64 a,.int .i64 b]] w fun e w'=>e=.returned (.tuple #[])∧∃ g' c' H',HatQ w' base S 7 (.slice (some ⟨g',0,none⟩) (n+1) c') H'∧H'.Perm (x :: H)∧Hp (n+1) H'.toArray∧H'.length=n+1∧ButQ S 7 (Value.slice p n c).ownBlock w w'∧((Value.slice p n c).ownBlock=some g'∨w.heap.size≤g'):=by
 have al:=allocB w (.cells #[.int .i64 a,.int .i64 b] 23)
 have z0:(w.alloc (.cells #[.int .i64 a,.int .i64 b] 23)).cell? ⟨w.heap.size,0,none⟩=some (.int .i64 a):=by go_simp
 have z1:(w.alloc (.cells #[.int .i64 a,.int .i64 b] 23)).cell? ⟨w.heap.size,1,none⟩=some (.int .i64 b):=by go_simp
 have hlt:=hH.lt
 have S1:=hidd (h.keep al)
 have H1:=hidd (hH.keep al)
 have AL:=hidd al
 have hN:=hidd hn
 clear h hH al hn
 go_enter Tryz.func104,Tryz.ntmps104
 go_wp2_with fail
 generalize w.alloc (.cells #[.int .i64 a,.int .i64 b] 23)=w1 at *
 have y0:=keepCell (drewB w1) z0
 have y1:=keepCell (drewB w1) z1
 have T1:=hidd (S1.out.keep (drewB w1))
 have BD:=hidd (belowT AL.out (drewB w1))
 have HD:=hidd (H1.out.keep (drewB w1))
 go_region_with (first | (go_at_call 102;refine (PL.out _ T1.out).mono ?_;rintro e w2 ⟨rfl,hb⟩;have u0:=keepCell hb y0;have u1:=keepCell hb y1;have B2:=hidd (belowT BD.out hb);have H2:=hidd (HD.out.keep hb);clear hb) | (go_at_call 136;refine (PU.out _ H2.out (Nat.le_trans hbase B2.out.size)).mono ?_;rintro e w3 ⟨rfl,k⟩;have K:=hidd k;clear k))
 all_goals
  go_wp2_with fail
  go_end0
  obtain ⟨g',c',H',k1,k2,k3,k4,k5,k6⟩:=K.out
  exact ⟨rfl,g',c',H',k1,k2,k3,k4,(ButQ.of_below B2.out hlt).trans k5 (.inl rfl),k6.imp id fun h=>Nat.le_trans B2.out.size h⟩
theorem q_put (base S n c d:Nat) (hd:d≤1) (r:Int) (K:Nat) (hK:K≤12) (hr:12 - r=(K:Int)) (p:Option Addr) (H:List Int) (a b:Int) (hab:Near9 a b) (hn:H.length=n) (hp:Hp n H.toArray) (hsz:n≤200000) (w:World) (h:SizA S r (d:Int) w) (hH:HatQ w base S 7 (.slice p n c) H) (hbase:base≤w.heap.size) :
 Calls Tryz.prog 104 #[.pointer (some ⟨S,0,none⟩),.agg #[.int .i64 a,.int .i64 b]] w fun e w'=>e=.returned (.tuple #[])∧∃ g' c' H',HatQ w' base S 7 (.slice (some ⟨g',0,none⟩) (n+1) c') H'∧H'.Perm (spot K d a b :: H)∧Hp (n+1) H'.toArray∧H'.length=n+1∧ButQ S 7 (Value.slice p n c).ownBlock w w'∧((Value.slice p n c).ownBlock=some g'∨w.heap.size≤g'):=by
 have e:=spot_of (K:=K) (d:=d) hab
 refine q_put_core base S n c d r p H (spot K d a b) a b (plc K d a b) hn (hidd fun w h=>q_place S d hd a b r K hK hr hab w h) (hidd fun w h hb=>?_) w h hH hbase
 have:=q_hpush base S 7 n c p H (spot K d a b) hn w h hp hb hsz
 rwa [e.1,e.2.1,e.2.2] at this
structure SweepM (S:Nat) (l1 l2 u1 u2 r d:Int) (vo:Value) (w:World):Prop where
 a0:w.cell? ⟨S,0,none⟩=some (.int .i64 l1)
 a1:w.cell? ⟨S,1,none⟩=some (.int .i64 l2)
 a2:w.cell? ⟨S,2,none⟩=some (.int .i64 u1)
 a3:w.cell? ⟨S,3,none⟩=some (.int .i64 u2)
 siz:SizA S r d w
 way:w.cell? ⟨S,6,none⟩=some vo
theorem SweepM.keep {S:Nat} {l1 l2 u1 u2 r d:Int} {vo:Value} {w w':World} (h:SweepM S l1 l2 u1 u2 r d vo w) (hb:Below w.heap.size w w'):SweepM S l1 l2 u1 u2 r d vo w' :=
 ⟨keepCell hb h.a0,keepCell hb h.a1,keepCell hb h.a2,keepCell hb h.a3,h.siz.keep hb,keepCell hb h.way⟩
theorem SweepM.but {S:Nat} {l1 l2 u1 u2 r d:Int} {vo:Value} {row:Option Nat} {w w':World} (h:SweepM S l1 l2 u1 u2 r d vo w) (hb:ButQ S 7 row w w'):SweepM S l1 l2 u1 u2 r d vo w' :=
 ⟨hb.cellB h.a0 (by omega),hb.cellB h.a1 (by omega),hb.cellB h.a2 (by omega),hb.cellB h.a3 (by omega),h.siz.but hb (by omega) (by omega),hb.cellB h.way (by omega)⟩
theorem SweepM.far {S:Nat} {l1 l2 u1 u2 r d:Int} {vo:Value} {row:Option Nat} {w w':World} (h:SweepM S l1 l2 u1 u2 r d vo w) (hg:w.grownBy w' row) (hr:some S≠row):SweepM S l1 l2 u1 u2 r d vo w' :=
 ⟨hg.cell h.a0 hr,hg.cell h.a1 hr,hg.cell h.a2 hr,hg.cell h.a3 hr,⟨hg.cell h.siz.1 hr,hg.cell h.siz.2 hr⟩,hg.cell h.way hr⟩
theorem SweepM.way_set {S:Nat} {l1 l2 u1 u2 r d:Int} {vo:Value} {w:World} (h:SweepM S l1 l2 u1 u2 r d vo w) (v:Value):SweepM S l1 l2 u1 u2 r d v (w.setCell ⟨S,6,none⟩ v) :=
 ⟨store_keep h.a0 (by simp),store_keep h.a1 (by simp),store_keep h.a2 (by simp),store_keep h.a3 (by simp),⟨store_keep h.siz.1 (by simp),store_keep h.siz.2 (by simp)⟩,store_new h.way⟩
def onwT (K d j:Nat):List Nat:=(List.range j).filter fun i=>decide (0 < plc K d (uA i) (uB i))
def natV (L:List Nat):List Value:=L.map fun (i:Nat)=>Value.int .i64 (i:Int)
theorem natV_len (L:List Nat):(natV L).length=L.length:=by simp [natV]
theorem onwT_yes {K d j:Nat} (h:0 < plc K d (uA j) (uB j)):onwT K d (j+1)=onwT K d j++[j]:=by
 unfold onwT
 rw [List.range_succ,List.filter_append]
 simp [h]
theorem onwT_no {K d j:Nat} (h:¬ 0 < plc K d (uA j) (uB j)):onwT K d (j+1)=onwT K d j:=by
 unfold onwT
 rw [List.range_succ,List.filter_append]
 simp [h]
theorem onwT_len (K d j:Nat):(onwT K d j).length≤j:=by
 unfold onwT
 exact Nat.le_trans (List.length_filter_le _ _) (by simp)
theorem own_any {w:World} {base:Nat} {e:TypeId} {size n:Nat} {v:Value} {xs:List Value} (h:w.ownsRow base e size v n xs):∃ p c,v=.slice p n c:=by
 rcases h.2 with ⟨e,e0⟩ | ⟨g2,c2,cur,e,_⟩
 · exact ⟨none,0,by rw [e,e0]⟩
 · exact ⟨_,_,e⟩
theorem infoInt:(Tryz.prog.info? 3).map (fun i=>(i.zero,i.size,i.bytes))=some (some (.int .i64 0),1,8):=by kernel_rfl
set_option maxHeartbeats 8000000 in
set_option maxRecDepth 100000 in
theorem q_newSweep (l1 l2 u1 u2 r:Int) (d:Nat) (hd:d≤1) (K:Nat) (hK:K≤12) (hr:12 - r=(K:Int)) (w:World) (hU:Uni w) :
 Calls Tryz.prog 67 #[.agg #[.int .i64 l1,.int .i64 l2,.int .i64 u1,.int .i64 u2],.int .i64 r,.int .i64 (d:Int)] w fun e w'=>∃ (S:Nat) (vo:Value),e=.returned (.pointer (some ⟨S,0,none⟩))∧w.heap.size≤S∧SweepM S l1 l2 u1 u2 r d vo w'∧(w'.cell? ⟨S,7,none⟩=some (.slice none 0 0)∧w'.frozen? ⟨S,7,none⟩=false)∧w'.ownsRow (S+1) 3 1 vo (onw K d).length (natV (onw K d))∧Below w.heap.size w w':=by
 have UN:=hidd fun (j:Nat) (hj:j < 6) w hU=>(by have:=eunit_any (j:Int) (by omega) (by omega) w hU;rwa [(unit_u hj).1,(unit_u hj).2] at this:Calls Tryz.prog 103 #[.int .i64 (j:Int)] w fun e w'=>e=.returned (.agg #[.int .i64 (uA j),.int .i64 (uB j)])∧Below w.heap.size w w')
 have PL:=hidd fun (S j:Nat) (hj:j < 6) w h=>q_place S d hd (uA j) (uB j) r K hK hr (by have:=u_box j;unfold Near9;omega) w h
 have HU:=hidd hU
 clear hU
 obtain ⟨i0,hi,hz0,hz1,hz2⟩:=info_partsQ infoInt
 go_enter Tryz.func67,Tryz.ntmps67
 go_wp2_with fail
 have al:=belowT (allocB w (.cells #[.int .i64 l1,.int .i64 l2,.int .i64 u1,.int .i64 u2] 80)) (allocB (w.alloc (.cells #[.int .i64 l1,.int .i64 l2,.int .i64 u1,.int .i64 u2] 80)) (.cells #[.int .i64 l1,.int .i64 l2,.int .i64 u1,.int .i64 u2,.int .i64 r,.int .i64 (d:Int),.slice none 0 0,.slice none 0 0] 154))
 have M0:SweepM (w.heap.size+1) l1 l2 u1 u2 r (d:Int) (.slice none 0 0) ((w.alloc (.cells #[.int .i64 l1,.int .i64 l2,.int .i64 u1,.int .i64 u2] 80)).alloc (.cells #[.int .i64 l1,.int .i64 l2,.int .i64 u1,.int .i64 u2,.int .i64 r,.int .i64 (d:Int),.slice none 0 0,.slice none 0 0] 154)):=⟨by go_simp,by go_simp,by go_simp,by go_simp,⟨by go_simp,by go_simp⟩,by go_simp⟩
 have c7:((w.alloc (.cells #[.int .i64 l1,.int .i64 l2,.int .i64 u1,.int .i64 u2] 80)).alloc (.cells #[.int .i64 l1,.int .i64 l2,.int .i64 u1,.int .i64 u2,.int .i64 r,.int .i64 (d:Int),.slice none 0 0,.slice none 0 0] 154)).cell? ⟨w.heap.size+1,7,none⟩=some (.slice none 0 0):=by go_simp
 have f6:((w.alloc (.cells #[.int .i64 l1,.int .i64 l2,.int .i64 u1,.int .i64 u2] 80)).alloc (.cells #[.int .i64 l1,.int .i64 l2,.int .i64 u1,.int .i64 u2,.int .i64 r,.int .i64 (d:Int),.slice none 0 0,.slice none 0 0] 154)).frozen? ⟨w.heap.size+1,6,none⟩=false:=by go_simp
 have f7:((w.alloc (.cells #[.int .i64 l1,.int .i64 l2,.int .i64 u1,.int .i64 u2] 80)).alloc (.cells #[.int .i64 l1,.int .i64 l2,.int .i64 u1,.int .i64 u2,.int .i64 r,.int .i64 (d:Int),.slice none 0 0,.slice none 0 0] 154)).frozen? ⟨w.heap.size+1,7,none⟩=false:=by go_simp
 generalize ((w.alloc (.cells #[.int .i64 l1,.int .i64 l2,.int .i64 u1,.int .i64 u2] 80)).alloc (.cells #[.int .i64 l1,.int .i64 l2,.int .i64 u1,.int .i64 u2,.int .i64 r,.int .i64 (d:Int),.slice none 0 0,.slice none 0 0] 154))=w1 at *
 obtain ⟨S,eS⟩:∃ S,w.heap.size+1=S:=⟨_,rfl⟩
 rw [eS] at M0 c7 f6 f7 ⊢
 have hS1:=World.block_lt_of_cell? _ _ c7
 simp only at hS1
 go_loopw [14] (fun v14 wr=>∃ (j:Nat) (vo:Value),j≤6∧v14=.int .i64 (j:Int)∧Hid (SweepM S l1 l2 u1 u2 r (d:Int) vo wr)∧wr.cell? ⟨S,7,none⟩=some (.slice none 0 0)∧wr.frozen? ⟨S,7,none⟩=false∧wr.frozen? ⟨S,6,none⟩=false∧Hid (wr.ownsRow (S+1) 3 1 vo (onwT K d j).length (natV (onwT K d j)))∧Hid (Below w.heap.size w wr)) (fun v14 _=>6 - (intOf v14).toNat)
 case atStart=>exact ⟨0,_,by omega,rfl,hidd M0,c7,f7,f6,hidd (World.ownsRow_nil _ _ _ _),hidd al⟩
 case round =>
  clear c7 f6 f7 M0 al
  obtain ⟨j,vo,hj,rfl,M,c7,f7,f6,OW,B⟩:=hrel
  obtain ⟨vp,vc,evo⟩:=own_any OW.out
  by_cases hj6:j < 6
  · have hj6':(j:Int) < 6:=by omega
    have U1:=hidd (UN.out j hj6 wr (HU.out.below B.out))
    go_wp2_with fail
    refine U1.out.mono ?_
    rintro e w2 ⟨rfl,b2⟩
    have hb2:=b2.size
    replace f7:=keepFrozen b2 c7 f7
    replace f6:=keepFrozen b2 M.out.way f6
    replace c7:=keepCell b2 c7
    replace M:=hidd (M.out.keep b2)
    replace OW:=hidd (own_keep b2 OW.out)
    replace B:=hidd (belowT B.out b2)
    have P1:=hidd (PL.out S j hj6 w2 M.out.siz)
    clear U1 b2
    have YES:=hidd fun (h:0 < plc K d (uA j) (uB j))=>onwT_yes h
    have NO:=hidd fun (h:¬ 0 < plc K d (uA j) (uB j))=>onwT_no h
    generalize uA j=pa at *
    generalize uB j=pb at *
    generalize plc K d pa pb=P at *
    go_wp2_with fail
    refine P1.out.mono ?_
    rintro e w3 ⟨rfl,b3⟩
    have hb3:=b3.size
    replace f7:=keepFrozen b3 c7 f7
    replace f6:=keepFrozen b3 M.out.way f6
    replace c7:=keepCell b3 c7
    replace M:=hidd (M.out.keep b3)
    replace OW:=hidd (own_keep b3 OW.out)
    replace B:=hidd (belowT B.out b3)
    clear P1 b3
    by_cases hP:0 < P
    · have c6:=M.out.way
      rw [evo] at c6
      have ol:=onwT_len K d j
      have lS:=World.block_lt_of_cell? _ _ c7
      simp only at lS
      have NX:=hidd (YES.out hP)
      clear YES NO
      have al:=allocB w3 (.cells #[.int .i64 (j:Int)] 3)
      have nS:some S≠(Value.slice vp (onwT K d j).length vc).ownBlock:=fun e=>by rw [← evo] at e;have:=(World.ownsRow.lt OW.out S e.symm).1;omega
      have CF:=hidd (And.intro (And.intro (keepCell al c6) (keepFrozen al c6 f6)) (And.intro (keepCell al c7) (keepFrozen al c7 f7)))
      go_wp2_with (at_builtin;(refine wpList_append_lies _ rfl (.tmp 26) (.tmp 28) 150 rfl (S+1) 3 i0 (.int .i64 0) 1 8 Tryz.underlying150 hi hz0 hz1 hz2 rfl (by decide) (.slice vp (onwT K d j).length vc) _ _ rfl (own_keep (allocB _ _) (by rw [← evo];exact OW.out)) ⟨w3.heap.size,0,none⟩ 1 1 [.int .i64 (j:Int)] rfl rfl (one_lies _ _ rfl _ _) (one_int _ _) (by decide) (by unfold maxLen;omega) (by omega) (by simp;omega) (w3.heap.size+1) (by simp) ?_;intro g6 q6 w6 hown hgrow hat hlt6;obtain ⟨c6',f6'⟩:=far_keep hgrow nS CF.out.1))
      have gS:g6≠S:=by
       rcases hat with h | h
       · exact fun e=>nS (by rw [h,e])
       · omega
      have M6:=hidd ((M.out.keep al).far hgrow nS)
      have f7':=far_keep (p:=⟨S,7,none⟩) hgrow nS CF.out.2
      have B6:=hidd ((belowT B.out al).grown hgrow (by have:=B.out.size;simp;omega) (fun k e=>by rw [← evo] at e;have:=(World.ownsRow.lt OW.out k e).1;omega))
      have OW6:=hidd hown
      obtain ⟨c7',f7''⟩:=f7'
      clear hown hgrow hat al M OW B c7 f7 f6 c6
      go_roundw
      case rel =>
       refine ⟨j+1,_,by omega,by go_num,hidd (M6.out.way_set _),store_keep c7' (by simp),by rw [World.frozen?_setCell];exact f7'',by rw [World.frozen?_setCell];exact f6',hidd ?_,hidd (B6.out.setCell (by simp;omega) _)⟩
       rw [NX.out,List.length_append]
       have hv:natV (onwT K d j++[j])=natV (onwT K d j)++[.int .i64 (j:Int)]:=by unfold natV;rw [List.map_append];rfl
       rw [hv]
       exact World.ownsRow.kept OW6.out (grown_set _ S 6 _) (.inr (by simpa [Value.ownBlock] using gS))
      case measure=>simp [intOf];omega
    · have hP0:decide (0 < P)=false:=df (by omega)
      have NX:=hidd (NO.out (by omega))
      clear YES NO hP
      go_wp2_with fail
      go_roundw
      case rel=>exact ⟨j+1,vo,by omega,by go_num,M,c7,f7,f6,hidd (by rw [NX.out];exact OW.out),B⟩
      case measure=>simp [intOf];omega
  · obtain rfl:j=6:=by omega
    have hj6':decide (((6:Nat):Int) < 6)=false:=by decide
    go_wp2
    go_ret
    exact ⟨S,vo,rfl,by omega,M.out,⟨c7,f7⟩,OW.out,B.out⟩
end Go.Proofs.YtdklpgphmoaniaaGreatDoor
