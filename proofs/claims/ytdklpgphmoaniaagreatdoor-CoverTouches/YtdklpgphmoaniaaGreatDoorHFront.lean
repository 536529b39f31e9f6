/-
  Package cover's heap of spots as the call holds it: a spot taken off, as often as it is there; a spot put in; all but the heap's variable and its row stays; in whatever memory.
-/
import Derived.Test.YtdklpgphmoaniaaGreatDoorJn25
import Derived.Deep.AppendLies
namespace Go.Proofs.YtdklpgphmoaniaaGreatDoor
open Go.RowKit
structure ButQ (B o:Nat) (r:Option Nat) (w w':World):Prop where
 os:w'.os=w.os
 tape:w'.tape=w.tape
 output:w'.output=w.output
 size:w.heap.size≤w'.heap.size
 block:∀ k,k < w.heap.size→k≠B→r≠some k→w'.heap[k]?=w.heap[k]?
 cell:∀ k,k≠o→w'.cell? ⟨B,k,none⟩=w.cell? ⟨B,k,none⟩
 froz:∀ k,w'.frozen? ⟨B,k,none⟩=w.frozen? ⟨B,k,none⟩
theorem ButQ.refl (B o:Nat) (r:Option Nat) (w:World):ButQ B o r w w:=⟨rfl,rfl,rfl,Nat.le_refl _,fun _ _ _ _=>rfl,fun _ _=>rfl,fun _=>rfl⟩
theorem ButQ.trans {B o:Nat} {r r':Option Nat} {u v w:World} (h:ButQ B o r u v) (k:ButQ B o r' v w) (hr:r'=r∨∀ x,r'=some x→u.heap.size≤x):ButQ B o r u w :=
 ⟨k.os.trans h.os,k.tape.trans h.tape,k.output.trans h.output,Nat.le_trans h.size k.size,fun i hi hB hn=>by
   refine (k.block i (Nat.lt_of_lt_of_le hi h.size) hB fun e=>?_).trans (h.block i hi hB hn)
   rcases hr with hr | hr
   · exact hn (by rw [← hr,e])
   · have:=hr i e;omega,fun i hi=>(k.cell i hi).trans (h.cell i hi),fun i=>(k.froz i).trans (h.froz i)⟩
theorem ButQ.grown {B o:Nat} {r:Option Nat} {w w':World} (hg:w.grownBy w' r) (hB:B < w.heap.size) (hne:r≠some B):ButQ B o r w w':=by
 have hb:=hg.block B hB (fun e=>hne e.symm)
 exact ⟨hg.os,hg.tape,hg.output,hg.size,fun k hk _ hn=>hg.block k hk (fun e=>hn e.symm),fun _ _=>World.cell?_of_block hb,fun _=>World.frozen?_of_block hb⟩
theorem ButQ.of_below {B o:Nat} {r:Option Nat} {w w':World} (h:Below w.heap.size w w') (hB:B < w.heap.size):ButQ B o r w w' :=
 ⟨h.os,h.tape,h.output,h.size,fun k hk _ _=>h.block k hk,fun _ _=>World.cell?_of_block (h.block B hB),fun _=>World.frozen?_of_block (h.block B hB)⟩
theorem ButQ.set {B o:Nat} {r:Option Nat} {u w:World} (h:ButQ B o r u w) (v:Value):ButQ B o r u (w.setCell ⟨B,o,none⟩ v):=by
 refine ⟨h.os,h.tape,h.output,by simpa using h.size,fun k hk hB hn=>?_,fun k hk=>?_,fun k=>by rw [World.frozen?_setCell];exact h.froz k⟩
 · rw [heap_setCell_other _ _ _ _ (fun e=>hB e)]
   exact h.block k hk hB hn
 · rw [World.cell?_setCell_other _ _ _ _ (fun e=>by injection e with _ e2 _;exact hk e2.symm)]
   exact h.cell k hk
theorem ButQ.cellK {B o:Nat} {r:Option Nat} {w w':World} (h:ButQ B o r w w') {p:Addr} {v:Value} (hc:w.cell? p=some v) (h1:p.block≠B) (h2:r≠some p.block):w'.cell? p=some v :=
 (World.cell?_of_block (h.block p.block (World.block_lt_of_cell? _ _ hc) h1 h2)).trans hc
theorem ButQ.cellB {B o:Nat} {r:Option Nat} {w w':World} (h:ButQ B o r w w') {k:Nat} {v:Value} (hc:w.cell? ⟨B,k,none⟩=some v) (h1:k≠o):w'.cell? ⟨B,k,none⟩=some v:=(h.cell k h1).trans hc
theorem ButQ.frozK {B o:Nat} {r:Option Nat} {w w':World} (h:ButQ B o r w w') {p:Addr} (hl:p.block < w.heap.size) (h1:p.block≠B) (h2:r≠some p.block):w'.frozen? p=w.frozen? p :=
 World.frozen?_of_block (h.block p.block hl h1 h2)
theorem ButQ.below {B o G:Nat} {r:Option Nat} {w w':World} (h:ButQ B o r w w') (ha:G≤B) (hr:∀ x,r=some x→G≤x) (hG:G≤w.heap.size):Below G w w' :=
 ⟨h.os,h.tape,h.output,h.size,fun k hk=>h.block k (by omega) (by omega) (fun e=>by have:=hr k e;omega)⟩
theorem ButQ.own {B o:Nat} {r:Option Nat} {w w':World} (h:ButQ B o r w w') {base:Nat} {e:TypeId} {size:Nat} {v:Value} {n:Nat} {xs:List Value} (ho:w.ownsRow base e size v n xs) (h1:v.ownBlock≠some B) (h2:∀ x,r=some x→v.ownBlock≠some x):w'.ownsRow base e size v n xs:=by
 refine ⟨ho.1,?_⟩
 rcases ho.2 with hn | ⟨g,cap,cur,rfl,hb,hgg,rest⟩
 · exact .inl hn
 · refine .inr ⟨g,cap,cur,rfl,hb,?_,rest⟩
   rw [h.block g (Array.getElem?_eq_some_iff.1 hgg).1 (fun e=>h1 (by rw [e];rfl)) (fun e=>h2 g e rfl)]
   exact hgg
structure HatQ (w:World) (base B o:Nat) (v:Value) (L:List Int):Prop where
 cell:w.cell? ⟨B,o,none⟩=some v
 frz:w.frozen? ⟨B,o,none⟩=false
 ne:v.ownBlock≠some B
 own:w.ownsRow base 188 3 v L.length (flat L)
theorem HatQ.lt {w:World} {base B o:Nat} {v:Value} {L:List Int} (h:HatQ w base B o v L):B < w.heap.size:=World.block_lt_of_cell? _ _ h.cell
theorem HatQ.form {w:World} {base B o:Nat} {v:Value} {L:List Int} (h:HatQ w base B o v L) (hn:0 < L.length) :
 ∃ g c,v=.slice (some ⟨g,0,none⟩) L.length c∧base≤g∧B≠g∧RowS base g c L.toArray w∧L.length≤c∧g < w.heap.size:=by
 obtain ⟨g,c,rfl,hb,hl⟩:=World.ownsRow.form h.own hn
 refine ⟨g,c,rfl,hb,fun e=>h.ne (by rw [e];rfl),by unfold RowS;simpa using h.own,?_,hl⟩
 rcases h.own.2 with ⟨e,_⟩ | ⟨g2,c2,cur,e,_,_,h1,_⟩
 · cases e
 · simp only [Value.slice.injEq,true_and] at e
   rw [e.2];exact h1
theorem HatQ.any {w:World} {base B o:Nat} {v:Value} {L:List Int} (h:HatQ w base B o v L):∃ p c,v=.slice p L.length c:=by
 rcases h.own.2 with ⟨e,e0⟩ | ⟨g2,c2,cur,e,_⟩
 · exact ⟨none,0,by rw [e,e0]⟩
 · exact ⟨_,_,e⟩
theorem HatQ.keep {w w':World} {base B o:Nat} {v:Value} {L:List Int} (h:HatQ w base B o v L) (hb:Below w.heap.size w w'):HatQ w' base B o v L :=
 ⟨keepCell hb h.cell,keepFrozen hb h.cell h.frz,h.ne,own_keep hb h.own⟩
theorem own_prefixQ {w:World} {base g c n m:Nat} {L:List Int} (ho:w.ownsRow base 188 3 (.slice (some ⟨g,0,none⟩) n c) n (flat L)) (hm:m≤n):w.ownsRow base 188 3 (.slice (some ⟨g,0,none⟩) m c) m (flat (L.take m)):=by
 have hl:L.length*3=n*3:=by rw [← flat_len];exact ho.1
 rcases ho.2 with ⟨e,_⟩ | ⟨g2,c2,cur,e,hb,hgg,h1,h2,h3,h4⟩
 · cases e
 simp only [Value.slice.injEq,Option.some.injEq,Addr.mk.injEq,and_true,true_and] at e
 obtain ⟨rfl,rfl⟩:=e
 refine ⟨by rw [flat_len,List.length_take];omega,.inr ⟨g,c,cur,rfl,hb,hgg,by omega,h2,h3,?_⟩⟩
 rw [← flat_take,← h4,List.take_take,Nat.min_eq_left (by omega)]
set_option maxHeartbeats 8000000 in
set_option maxRecDepth 100000 in
theorem q_pop (base B o g c m:Nat) (L:List Int) (x:Int) (hL:L.length=m+1) (w:World) (h:HatQ w base B o (.slice (some ⟨g,0,none⟩) (m+1) c) L) (hx:L[m]'(by omega)=x) (hsz:m≤1000000) :
 Calls Tryz.prog 204 #[.pointer (some ⟨B,o,none⟩)] w fun e w'=>e=.returned (.iface 188 (.agg #[.int .i64 (sp0 x),.int .i64 (sp1 x),.int .i64 (sp2 x)]))∧HatQ w' base B o (.slice (some ⟨g,0,none⟩) m c) (L.take m)∧ButQ B o (some g) w w':=by
 have hO:=h.own
 rw [hL] at hO
 obtain ⟨⟨x0,x1,x2⟩,-⟩:=rowS_at hO m (by omega)
 rw [hx] at x0 x1 x2
 have hB:=h.cell
 have hF:=h.frz
 have hne:B≠g:=fun e=>h.ne (by rw [e];rfl)
 have hlt:=h.lt
 have hle:m+1≤c:=by
  rcases hO.2 with ⟨e,_⟩ | ⟨g2,c2,cur,e,_,_,h1,_⟩
  · cases e
  · simp only [Value.slice.injEq,true_and] at e
    rw [e.2];exact h1
 have HO:=hidd hO
 have HL:=hidd hL
 clear h hL hx hO
 generalize sp0 x=s0 at *
 generalize sp1 x=s1 at *
 generalize sp2 x=s2 at *
 have e1:((m+1:Nat):Int) - 1=(m:Int):=by omega
 go_enter Tryz.func204,Tryz.ntmps204
 go_wp2
 go_ret
 have al:=allocB (w.setCell ⟨B,o,none⟩ (.slice (some ⟨g,0,none⟩) m c)) (.cells #[.int .i64 s0,.int .i64 s1,.int .i64 s2] 188)
 have hl:(L.take m).length=m:=by rw [List.length_take];have:=HL.out;omega
 have BQ:=((ButQ.refl B o (some g) w).set (.slice (some ⟨g,0,none⟩) m c))
 have H1:HatQ (w.setCell ⟨B,o,none⟩ (.slice (some ⟨g,0,none⟩) m c)) base B o (.slice (some ⟨g,0,none⟩) m c) (L.take m):=by
  refine ⟨store_new hB,by rw [World.frozen?_setCell];exact hF,fun e=>hne (by simpa [Value.ownBlock] using e.symm),?_⟩
  rw [hl]
  exact (((ButQ.refl B o none _).set _).own (own_prefixQ HO.out (m:=m) (by omega)) (fun e=>hne (by simpa [Value.ownBlock] using e.symm)) (fun x e=>by cases e))
 exact ⟨rfl,H1.keep al,BQ.trans (ButQ.of_below al (by simpa using hlt)) (.inl rfl)⟩
set_option maxHeartbeats 8000000 in
set_option maxRecDepth 100000 in
theorem q_hpop (base B o m:Nat) (v:Value) (L:List Int) (hL:L.length=m+1) (w:World) (h:HatQ w base B o v L) (hp:Hp (m+1) L.toArray) (hsz:m+1≤1000000) :
 Calls Tryz.prog 166 #[.iface 186 (.pointer (some ⟨B,o,none⟩))] w fun e w'=>∃ (x:Int) (L':List Int) (v':Value),e=.returned (.iface 188 (.agg #[.int .i64 (sp0 x),.int .i64 (sp1 x),.int .i64 (sp2 x)]))∧L[0]?=some x∧L.Perm (x :: L')∧(∀ y∈L',y≤x)∧L'.length=m∧Hp m L'.toArray∧HatQ w' base B o v' L'∧v'.ownBlock=v.ownBlock∧ButQ B o v.ownBlock w w':=by
 have hs:L.toArray.size=m+1:=by simp [hL]
 have P:=hp_pop hp hs
 have hmax:=hp_max hp hs
 obtain ⟨x,hx⟩:∃ x,L.toArray[0]! =x:=⟨_,rfl⟩
 have hx0:L[0]?=some x:=by rw [← hx,getElem!_pos _ 0 (by omega),List.getElem?_eq_getElem (by omega)];simp
 rw [hx] at P hmax
 clear hx
 obtain ⟨g,c,rfl,hbg,hne,hR,hle,hgl⟩:=h.form (by omega)
 have hB:=h.cell
 have hlt:=h.lt
 rw [hL] at hB
 have mN:=n_len B o w _ hB
 have mS:=n_swap B o w _ hB
 have SW:=hidd (q_swap base g c (m+1) (i:=0) (j:=(m:Int)) 0 m rfl rfl L.toArray w hs hR (by omega) (by omega))
 have HH:=hidd h
 have HL:=hidd hL
 have HP:=hidd P
 have HM:=hidd hmax
 have HX:=hidd hx0
 have e1:((m+1:Nat):Int) - 1=(m:Int):=by omega
 clear h hL hp P hmax hR hs hx0
 go_enter Tryz.func166,Tryz.ntmps166
 go_wp2_with fail
 refine (q_len _ (m+1) ⟨_,_,rfl⟩ _).mono ?_
 rintro e w0 ⟨rfl,rfl⟩
 go_wp2_with fail
 refine SW.out.mono ?_
 rintro e w1 ⟨rfl,h1,g1⟩
 have cB1:=g1.cell hB (by simpa using hne)
 have hs1:(Sort.swp L.toArray 0 m).size=m+1:=by rw [Sort.size_swp];simp [HL.out]
 have DN:=hidd (n_down B o base g c (m+1) 0 m (Sort.swp L.toArray 0 m) hs1 w1 cB1 hne h1 (by omega) hsz (Nat.zero_le _))
 have G1:=hidd g1
 clear SW h1 mN mS g1 hs1
 go_wp2_with fail
 refine DN.out.mono ?_
 rintro e w2 ⟨⟨b,rfl⟩,h2,g2⟩
 have G2:=hidd (grown_trans G1.out g2)
 have cB2:=G2.out.cell hB (by simpa using hne)
 have fB2:w2.frozen? ⟨B,o,none⟩=false:=(World.frozen?_of_block (G2.out.block B hlt (by simpa using hne))).trans HH.out.frz
 have hD2:(popD m L.toArray).toList.length=m+1:=by simp [HP.out.1]
 have H2:HatQ w2 base B o (.slice (some ⟨g,0,none⟩) (m+1) c) (popD m L.toArray).toList:=by
  refine ⟨cB2,fB2,HH.out.ne,?_⟩
  have h3:RowS base g c (popD m L.toArray) w2:=h2
  unfold RowS at h3
  rw [HP.out.1] at h3
  rw [hD2]
  exact h3
 have PO:=hidd (q_pop base B o g c m (popD m L.toArray).toList x hD2 w2 H2 (by have:=HP.out.2.1;rw [getElem!_pos _ m (by have:=HP.out.1;omega)] at this;simpa using this) (by omega))
 have mP:=n_pop B o w2
 clear DN h2 g2 H2 G1 cB1 hD2
 go_wp2_with fail
 refine PO.out.mono ?_
 rintro e w3 ⟨rfl,h3,b3⟩
 have H3:=hidd h3
 have BQ:=hidd ((ButQ.grown (o:=o) G2.out hlt (by simpa using fun e=>hne e.symm)).trans b3 (.inl rfl))
 clear PO mP h3 b3 G2
 go_wp2
 go_ret
 exact ⟨x,_,_,rfl,HX.out,HP.out.2.2.2.1,fun y hy=>HM.out y (HP.out.2.2.2.1.mem_iff.2 (List.mem_cons_of_mem _ hy)),HP.out.2.2.2.2,HP.out.2.2.1,H3.out,rfl,BQ.out⟩
end Go.Proofs.YtdklpgphmoaniaaGreatDoor
