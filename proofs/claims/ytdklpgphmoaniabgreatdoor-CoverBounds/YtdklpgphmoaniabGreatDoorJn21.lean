/-
  Package cover's heap of spots as the call holds it: a spot taken off, as often as it is there; a spot put in; all but the heap's variable and its row stays; in whatever memory.
-/
import Derived.Test.YtdklpgphmoaniabGreatDoorHHeap
import Derived.Deep.AppendLies
import Derived.Test.YtdklpgphmoaniabGreatDoorC1X
namespace Go.Proofs.YtdklpgphmoaniabGreatDoor
open Go.RowKit
structure ButQ (B o:Nat) (r:Option Nat) (w w':World):Prop where
 os:w'.os=w.os
 tape:w'.tape=w.tape
 output:w'.output=w.output
 size:w.heap.size≤w'.heap.size
 block:∀ k,k < w.heap.size→k≠B→r≠some k→w'.heap[k]?=w.heap[k]?
 cell:∀ k,k≠o→w'.cell? ⟨B,k,none⟩=w.cell? ⟨B,k,none⟩
 froz:∀ k,w'.frozen? ⟨B,k,none⟩=w.frozen? ⟨B,k,none⟩
theorem ButQ.refl (B o:Nat) (r:Option Nat) (w:World):ButQ B o r w w:=⟨rfl,rfl,rfl,Nat.le_refl _,fun _ _ _ _=>rfl,fun _ _=>rfl,fun _=>rfl⟩
theorem ButQ.trans {B o:Nat} {r r':Option Nat} {u v w:World} (h:ButQ B o r u v) (k:ButQ B o r' v w) (hr:r'=r∨∀ x,r'=some x→u.heap.size≤x):ButQ B o r u w :=
 ⟨k.os.trans h.os,k.tape.trans h.tape,k.output.trans h.output,Nat.le_trans h.size k.size,fun i hi hB hn=>by
   refine (k.block i (Nat.lt_of_lt_of_le hi h.size) hB fun e=>?_).trans (h.block i hi hB hn)
   rcases hr with hr | hr
   · exact hn (by rw [← hr,e])
   · have:=hr i e;omega,fun i hi=>(k.cell i hi).trans (h.cell i hi),fun i=>(k.froz i).trans (h.froz i)⟩
theorem ButQ.grown {B o:Nat} {r:Option Nat} {w w':World} (hg:w.grownBy w' r) (hB:B < w.heap.size) (hne:r≠some B):ButQ B o r w w':=by
 have hb:=hg.block B hB (fun e=>hne e.symm)
 exact ⟨hg.os,hg.tape,hg.output,hg.size,fun k hk _ hn=>hg.block k hk (fun e=>hn e.symm),fun _ _=>World.cell?_of_block hb,fun _=>World.frozen?_of_block hb⟩
theorem ButQ.of_below {B o:Nat} {r:Option Nat} {w w':World} (h:Below w.heap.size w w') (hB:B < w.heap.size):ButQ B o r w w' :=
 ⟨h.os,h.tape,h.output,h.size,fun k hk _ _=>h.block k hk,fun _ _=>World.cell?_of_block (h.block B hB),fun _=>World.frozen?_of_block (h.block B hB)⟩
theorem ButQ.set {B o:Nat} {r:Option Nat} {u w:World} (h:ButQ B o r u w) (v:Value):ButQ B o r u (w.setCell ⟨B,o,none⟩ v):=by
 refine ⟨h.os,h.tape,h.output,by simpa using h.size,fun k hk hB hn=>?_,fun k hk=>?_,fun k=>by rw [World.frozen?_setCell];exact h.froz k⟩
 · rw [heap_setCell_other _ _ _ _ (fun e=>hB e)]
   exact h.block k hk hB hn
 · rw [World.cell?_setCell_other _ _ _ _ (fun e=>by injection e with _ e2 _;exact hk e2.symm)]
   exact h.cell k hk
theorem ButQ.cellK {B o:Nat} {r:Option Nat} {w w':World} (h:ButQ B o r w w') {p:Addr} {v:Value} (hc:w.cell? p=some v) (h1:p.block≠B) (h2:r≠some p.block):w'.cell? p=some v :=
 (World.cell?_of_block (h.block p.block (World.block_lt_of_cell? _ _ hc) h1 h2)).trans hc
theorem ButQ.cellB {B o:Nat} {r:Option Nat} {w w':World} (h:ButQ B o r w w') {k:Nat} {v:Value} (hc:w.cell? ⟨B,k,none⟩=some v) (h1:k≠o):w'.cell? ⟨B,k,none⟩=some v:=(h.cell k h1).trans hc
theorem ButQ.frozK {B o:Nat} {r:Option Nat} {w w':World} (h:ButQ B o r w w') {p:Addr} (hl:p.block < w.heap.size) (h1:p.block≠B) (h2:r≠some p.block):w'.frozen? p=w.frozen? p :=
 World.frozen?_of_block (h.block p.block hl h1 h2)
theorem ButQ.below {B o G:Nat} {r:Option Nat} {w w':World} (h:ButQ B o r w w') (ha:G≤B) (hr:∀ x,r=some x→G≤x) (hG:G≤w.heap.size):Below G w w' :=
 ⟨h.os,h.tape,h.output,h.size,fun k hk=>h.block k (by omega) (by omega) (fun e=>by have:=hr k e;omega)⟩
theorem ButQ.own {B o:Nat} {r:Option Nat} {w w':World} (h:ButQ B o r w w') {base:Nat} {e:TypeId} {size:Nat} {v:Value} {n:Nat} {xs:List Value} (ho:w.ownsRow base e size v n xs) (h1:v.ownBlock≠some B) (h2:∀ x,r=some x→v.ownBlock≠some x):w'.ownsRow base e size v n xs:=by
 refine ⟨ho.1,?_⟩
 rcases ho.2 with hn | ⟨g,cap,cur,rfl,hb,hgg,rest⟩
 · exact .inl hn
 · refine .inr ⟨g,cap,cur,rfl,hb,?_,rest⟩
   rw [h.block g (Array.getElem?_eq_some_iff.1 hgg).1 (fun e=>h1 (by rw [e];rfl)) (fun e=>h2 g e rfl)]
   exact hgg
structure HatQ (w:World) (base B o:Nat) (v:Value) (L:List Int):Prop where
 cell:w.cell? ⟨B,o,none⟩=some v
 frz:w.frozen? ⟨B,o,none⟩=false
 ne:v.ownBlock≠some B
 own:w.ownsRow base 126 3 v L.length (flat L)
theorem HatQ.lt {w:World} {base B o:Nat} {v:Value} {L:List Int} (h:HatQ w base B o v L):B < w.heap.size:=World.block_lt_of_cell? _ _ h.cell
theorem HatQ.form {w:World} {base B o:Nat} {v:Value} {L:List Int} (h:HatQ w base B o v L) (hn:0 < L.length) :
 ∃ g c,v=.slice (some ⟨g,0,none⟩) L.length c∧base≤g∧B≠g∧RowS base g c L.toArray w∧L.length≤c∧g < w.heap.size:=by
 obtain ⟨g,c,rfl,hb,hl⟩:=World.ownsRow.form h.own hn
 refine ⟨g,c,rfl,hb,fun e=>h.ne (by rw [e];rfl),by unfold RowS;simpa using h.own,?_,hl⟩
 rcases h.own.2 with ⟨e,_⟩ | ⟨g2,c2,cur,e,_,_,h1,_⟩
 · cases e
 · simp only [Value.slice.injEq,true_and] at e
   rw [e.2];exact h1
theorem HatQ.any {w:World} {base B o:Nat} {v:Value} {L:List Int} (h:HatQ w base B o v L):∃ p c,v=.slice p L.length c:=by
 rcases h.own.2 with ⟨e,e0⟩ | ⟨g2,c2,cur,e,_⟩
 · exact ⟨none,0,by rw [e,e0]⟩
 · exact ⟨_,_,e⟩
theorem HatQ.keep {w w':World} {base B o:Nat} {v:Value} {L:List Int} (h:HatQ w base B o v L) (hb:Below w.heap.size w w'):HatQ w' base B o v L :=
 ⟨keepCell hb h.cell,keepFrozen hb h.cell h.frz,h.ne,own_keep hb h.own⟩
theorem own_prefixQ {w:World} {base g c n m:Nat} {L:List Int} (ho:w.ownsRow base 126 3 (.slice (some ⟨g,0,none⟩) n c) n (flat L)) (hm:m≤n):w.ownsRow base 126 3 (.slice (some ⟨g,0,none⟩) m c) m (flat (L.take m)):=by
 have hl:L.length*3=n*3:=by rw [← flat_len];exact ho.1
 rcases ho.2 with ⟨e,_⟩ | ⟨g2,c2,cur,e,hb,hgg,h1,h2,h3,h4⟩
 · cases e
 simp only [Value.slice.injEq,Option.some.injEq,Addr.mk.injEq,and_true,true_and] at e
 obtain ⟨rfl,rfl⟩:=e
 refine ⟨by rw [flat_len,List.length_take];omega,.inr ⟨g,c,cur,rfl,hb,hgg,by omega,h2,h3,?_⟩⟩
 rw [← flat_take,← h4,List.take_take,Nat.min_eq_left (by omega)]
set_option maxHeartbeats 8000000 in
set_option maxRecDepth 100000 in
theorem q_pop (base B o g c m:Nat) (L:List Int) (x:Int) (hL:L.length=m+1) (w:World) (h:HatQ w base B o (.slice (some ⟨g,0,none⟩) (m+1) c) L) (hx:L[m]'(by omega)=x) (hsz:m≤1000000) :
 Calls Tryz.prog 162 #[.pointer (some ⟨B,o,none⟩)] w fun e w'=>e=.returned (.iface 126 (.agg #[.int .i64 (sp0 x),.int .i64 (sp1 x),.int .i64 (sp2 x)]))∧HatQ w' base B o (.slice (some ⟨g,0,none⟩) m c) (L.take m)∧ButQ B o (some g) w w':=by
 have hO:=h.own
 rw [hL] at hO
 obtain ⟨⟨x0,x1,x2⟩,-⟩:=rowS_at hO m (by omega)
 rw [hx] at x0 x1 x2
 have hB:=h.cell
 have hF:=h.frz
 have hne:B≠g:=fun e=>h.ne (by rw [e];rfl)
 have hlt:=h.lt
 have hle:m+1≤c:=by
  rcases hO.2 with ⟨e,_⟩ | ⟨g2,c2,cur,e,_,_,h1,_⟩
  · cases e
  · simp only [Value.slice.injEq,true_and] at e
    rw [e.2];exact h1
 have HO:=hidd hO
 have HL:=hidd hL
 clear h hL hx hO
 generalize sp0 x=s0 at *
 generalize sp1 x=s1 at *
 generalize sp2 x=s2 at *
 have e1:((m+1:Nat):Int) - 1=(m:Int):=by omega
 go_enter Tryz.func162,Tryz.ntmps162
 go_wp2
 go_ret
 have al:=allocB (w.setCell ⟨B,o,none⟩ (.slice (some ⟨g,0,none⟩) m c)) (.cells #[.int .i64 s0,.int .i64 s1,.int .i64 s2] 126)
 have hl:(L.take m).length=m:=by rw [List.length_take];have:=HL.out;omega
 have BQ:=((ButQ.refl B o (some g) w).set (.slice (some ⟨g,0,none⟩) m c))
 have H1:HatQ (w.setCell ⟨B,o,none⟩ (.slice (some ⟨g,0,none⟩) m c)) base B o (.slice (some ⟨g,0,none⟩) m c) (L.take m):=by
  refine ⟨store_new hB,by rw [World.frozen?_setCell];exact hF,fun e=>hne (by simpa [Value.ownBlock] using e.symm),?_⟩
  rw [hl]
  exact (((ButQ.refl B o none _).set _).own (own_prefixQ HO.out (m:=m) (by omega)) (fun e=>hne (by simpa [Value.ownBlock] using e.symm)) (fun x e=>by cases e))
 exact ⟨rfl,H1.keep al,BQ.trans (ButQ.of_below al (by simpa using hlt)) (.inl rfl)⟩
set_option maxHeartbeats 8000000 in
set_option maxRecDepth 100000 in
theorem q_hpop (base B o m:Nat) (v:Value) (L:List Int) (hL:L.length=m+1) (w:World) (h:HatQ w base B o v L) (hp:Hp (m+1) L.toArray) (hsz:m+1≤1000000) :
 Calls Tryz.prog 93 #[.iface 124 (.pointer (some ⟨B,o,none⟩))] w fun e w'=>∃ (x:Int) (L':List Int) (v':Value),e=.returned (.iface 126 (.agg #[.int .i64 (sp0 x),.int .i64 (sp1 x),.int .i64 (sp2 x)]))∧L[0]?=some x∧L.Perm (x :: L')∧(∀ y∈L',y≤x)∧L'.length=m∧Hp m L'.toArray∧HatQ w' base B o v' L'∧v'.ownBlock=v.ownBlock∧ButQ B o v.ownBlock w w':=by
 have hs:L.toArray.size=m+1:=by simp [hL]
 have P:=hp_pop hp hs
 have hmax:=hp_max hp hs
 obtain ⟨x,hx⟩:∃ x,L.toArray[0]! =x:=⟨_,rfl⟩
 have hx0:L[0]?=some x:=by rw [← hx,getElem!_pos _ 0 (by omega),List.getElem?_eq_getElem (by omega)];simp
 rw [hx] at P hmax
 clear hx
 obtain ⟨g,c,rfl,hbg,hne,hR,hle,hgl⟩:=h.form (by omega)
 have hB:=h.cell
 have hlt:=h.lt
 rw [hL] at hB
 have mN:=n_len B o w _ hB
 have mS:=n_swap B o w _ hB
 have SW:=hidd (q_swap base g c (m+1) (i:=0) (j:=(m:Int)) 0 m rfl rfl L.toArray w hs hR (by omega) (by omega))
 have HH:=hidd h
 have HL:=hidd hL
 have HP:=hidd P
 have HM:=hidd hmax
 have HX:=hidd hx0
 have e1:((m+1:Nat):Int) - 1=(m:Int):=by omega
 clear h hL hp P hmax hR hs hx0
 go_enter Tryz.func93,Tryz.ntmps93
 go_wp2_with fail
 refine (q_len _ (m+1) ⟨_,_,rfl⟩ _).mono ?_
 rintro e w0 ⟨rfl,rfl⟩
 go_wp2_with fail
 refine SW.out.mono ?_
 rintro e w1 ⟨rfl,h1,g1⟩
 have cB1:=g1.cell hB (by simpa using hne)
 have hs1:(Sort.swp L.toArray 0 m).size=m+1:=by rw [Sort.size_swp];simp [HL.out]
 have DN:=hidd (n_down B o base g c (m+1) 0 m (Sort.swp L.toArray 0 m) hs1 w1 cB1 hne h1 (by omega) hsz (Nat.zero_le _))
 have G1:=hidd g1
 clear SW h1 mN mS g1 hs1
 go_wp2_with fail
 refine DN.out.mono ?_
 rintro e w2 ⟨⟨b,rfl⟩,h2,g2⟩
 have G2:=hidd (grown_trans G1.out g2)
 have cB2:=G2.out.cell hB (by simpa using hne)
 have fB2:w2.frozen? ⟨B,o,none⟩=false:=(World.frozen?_of_block (G2.out.block B hlt (by simpa using hne))).trans HH.out.frz
 have hD2:(popD m L.toArray).toList.length=m+1:=by simp [HP.out.1]
 have H2:HatQ w2 base B o (.slice (some ⟨g,0,none⟩) (m+1) c) (popD m L.toArray).toList:=by
  refine ⟨cB2,fB2,HH.out.ne,?_⟩
  have h3:RowS base g c (popD m L.toArray) w2:=h2
  unfold RowS at h3
  rw [HP.out.1] at h3
  rw [hD2]
  exact h3
 have PO:=hidd (q_pop base B o g c m (popD m L.toArray).toList x hD2 w2 H2 (by have:=HP.out.2.1;rw [getElem!_pos _ m (by have:=HP.out.1;omega)] at this;simpa using this) (by omega))
 have mP:=n_pop B o w2
 clear DN h2 g2 H2 G1 cB1 hD2
 go_wp2_with fail
 refine PO.out.mono ?_
 rintro e w3 ⟨rfl,h3,b3⟩
 have H3:=hidd h3
 have BQ:=hidd ((ButQ.grown (o:=o) G2.out hlt (by simpa using fun e=>hne e.symm)).trans b3 (.inl rfl))
 clear PO mP h3 b3 G2
 go_wp2
 go_ret
 exact ⟨x,_,_,rfl,HX.out,HP.out.2.2.2.1,fun y hy=>HM.out y (HP.out.2.2.2.1.mem_iff.2 (List.mem_cons_of_mem _ hy)),HP.out.2.2.2.2,HP.out.2.2.1,H3.out,rfl,BQ.out⟩
def cellLen (w:World) (p:Addr):Nat:=match w.cell? p with
 | some (.slice _ n _)=>n
 | _=>0
theorem cellLen_of {w:World} {p:Addr} {q:Option Addr} {n c:Nat} (h:w.cell? p=some (.slice q n c)):cellLen w p=n:=by unfold cellLen;rw [h]
theorem as_spot (a b c:Int) (w:World):(Instr.typeAssert (.iface 126 (.agg #[.int .i64 a,.int .i64 b,.int .i64 c])) 20 126 false).run Tryz.prog w=.ok (.agg #[.int .i64 a,.int .i64 b,.int .i64 c]) w:=by kernel_rfl
theorem hp_top {L:List Int} {x:Int} (h:Hp L.length L.toArray) (h0:L[0]?=some x):∀ y∈L,y≤x:=fun y hy=>by
 have h1:0 < L.length:=by
  cases L with
  | nil=>simp at h0
  | cons _ _=>simp
 have:=hp_max h (by simp) y (by simpa using hy)
 rw [getElem!_pos _ 0 (by simpa using h1)] at this
 have e:L[0]=x:=by rw [List.getElem?_eq_getElem h1] at h0;exact Option.some.inj h0
 have e2:L.toArray[0]'(by simpa using h1)=L[0]:=by simp
 rw [e2,e] at this
 exact this
theorem grown_set (w:World) (R k:Nat) (v:Value):w.grownBy (w.setCell ⟨R,k,none⟩ v) (some R):=⟨rfl,rfl,rfl,by simp,fun i _ hi=>heap_setCell_other _ _ _ _ (fun e=>hi (by rw [e]))⟩
theorem HatQ.grown {w w':World} {base B o R:Nat} {v:Value} {L:List Int} (h:HatQ w base B o v L) (hg:w.grownBy w' (some R)) (h1:B≠R) (h2:v.ownBlock≠some R):HatQ w' base B o v L :=
 ⟨hg.cell h.cell (by simpa using h1),by rw [World.frozen?_of_block (hg.block B h.lt (by simpa using h1))];exact h.frz,h.ne,World.ownsRow.kept h.own hg (.inr h2)⟩
set_option maxHeartbeats 8000000 in
set_option maxRecDepth 100000 in
theorem q_next (base B o m:Nat) (v:Value) (L:List Int) (hL:L.length=m+1) (w:World) (h:HatQ w base B o v L) (hp:Hp (m+1) L.toArray) (hsz:m+1≤1000000) :
 Calls Tryz.prog 71 #[.pointer (some ⟨B,o,none⟩)] w fun e w'=>∃ (x:Int) (L':List Int) (v':Value),e=.returned (.agg #[.int .i64 (sp0 x),.int .i64 (sp1 x),.int .i64 (sp2 x)])∧x∈L∧(∀ y∈L',y∈L∧y < x)∧(∀ y∈L,y=x∨y∈L')∧L'.length≤m∧Hp L'.length L'.toArray∧HatQ w' base B o v' L'∧v'.ownBlock=v.ownBlock∧ButQ B o v.ownBlock w w':=by
 have hlt:=h.lt
 have al0:=allocB w (.cells #[.int .i64 0,.int .i64 0,.int .i64 0] 126)
 have PO:=hidd (q_hpop base B o m v L hL _ (h.keep al0) hp hsz)
 have HH:=hidd h
 have HL:=hidd hL
 have hob:∀ x,v.ownBlock=some x→x < w.heap.size:=fun x hx=>(World.ownsRow.lt h.own x hx).2
 have OB:=hidd hob
 clear h hL hp hob
 go_enter Tryz.func71,Tryz.ntmps71
 go_wp2_with fail
 refine PO.out.mono ?_
 rintro e w1 ⟨x,L1,v1,rfl,hx,hperm,hle,hl1,hp1,h1,ob1,b1⟩
 have r0:=b1.cellK (p:=⟨w.heap.size,0,none⟩) (v:=.int .i64 0) (by go_simp) (by simp;omega) (fun e=>by have:=OB.out _ e;simp at this)
 have r1:=b1.cellK (p:=⟨w.heap.size,1,none⟩) (v:=.int .i64 0) (by go_simp) (by simp;omega) (fun e=>by have:=OB.out _ e;simp at this)
 have r2:=b1.cellK (p:=⟨w.heap.size,2,none⟩) (v:=.int .i64 0) (by go_simp) (by simp;omega) (fun e=>by have:=OB.out _ e;simp at this)
 have f0:=b1.frozK (p:=⟨w.heap.size,0,none⟩) (by simp) (by simp;omega) (fun e=>by have:=OB.out _ e;simp at this)
 have f1:=b1.frozK (p:=⟨w.heap.size,1,none⟩) (by simp) (by simp;omega) (fun e=>by have:=OB.out _ e;simp at this)
 have f2:=b1.frozK (p:=⟨w.heap.size,2,none⟩) (by simp) (by simp;omega) (fun e=>by have:=OB.out _ e;simp at this)
 rw [show (w.alloc (.cells #[.int .i64 0,.int .i64 0,.int .i64 0] 126)).frozen? ⟨w.heap.size,0,none⟩=false by go_simp] at f0
 rw [show (w.alloc (.cells #[.int .i64 0,.int .i64 0,.int .i64 0] 126)).frozen? ⟨w.heap.size,1,none⟩=false by go_simp] at f1
 rw [show (w.alloc (.cells #[.int .i64 0,.int .i64 0,.int .i64 0] 126)).frozen? ⟨w.heap.size,2,none⟩=false by go_simp] at f2
 have hRS:w.heap.size < w1.heap.size:=World.block_lt_of_cell? _ _ r0
 have BQ1:=hidd ((ButQ.of_below (o:=o) (r:=v.ownBlock) al0 hlt).trans b1 (.inl rfl))
 have H1:=hidd h1
 have OB1:=hidd ob1
 have IN:Hid ((∀ y∈L1,y∈L∧y≤x)∧(∀ y∈L,y=x∨y∈L1)∧x∈L):=hidd ⟨fun y hy=>⟨hperm.mem_iff.2 (List.mem_cons_of_mem _ hy),hle y hy⟩,fun y hy=>List.mem_cons.1 (hperm.mem_iff.1 hy),hperm.mem_iff.2 (List.mem_cons_self ..)⟩
 have HP1:Hid (Hp L1.length L1.toArray):=hidd (by rw [hl1];exact hp1)
 have L1m:L1.length≤m:=by omega
 clear PO al0 h1 b1 ob1 hperm hle hp1 hx hl1
 have tA:=fun w=>as_spot (sp0 x) (sp1 x) (sp2 x) w
 go_wp2_with fail
 have al1:=allocB w1 (.cells #[.int .i64 (sp0 x),.int .i64 (sp1 x),.int .i64 (sp2 x)] 126)
 have s0:(w1.alloc (.cells #[.int .i64 (sp0 x),.int .i64 (sp1 x),.int .i64 (sp2 x)] 126)).cell? ⟨w1.heap.size,0,none⟩=some (.int .i64 (sp0 x)):=by go_simp
 have s1:(w1.alloc (.cells #[.int .i64 (sp0 x),.int .i64 (sp1 x),.int .i64 (sp2 x)] 126)).cell? ⟨w1.heap.size,1,none⟩=some (.int .i64 (sp1 x)):=by go_simp
 have s2:(w1.alloc (.cells #[.int .i64 (sp0 x),.int .i64 (sp1 x),.int .i64 (sp2 x)] 126)).cell? ⟨w1.heap.size,2,none⟩=some (.int .i64 (sp2 x)):=by go_simp
 replace f0:=keepFrozen al1 r0 f0
 replace f1:=keepFrozen al1 r1 f1
 replace f2:=keepFrozen al1 r2 f2
 replace r0:=keepCell al1 r0
 replace r1:=keepCell al1 r1
 replace r2:=keepCell al1 r2
 have BQ2:=hidd (BQ1.out.trans (ButQ.of_below (o:=o) (r:=v.ownBlock) al1 (Nat.lt_of_lt_of_le hlt BQ1.out.size)) (.inl rfl))
 have H2:=hidd (H1.out.keep al1)
 clear al1 BQ1 H1
 generalize w1.alloc (.cells #[.int .i64 (sp0 x),.int .i64 (sp1 x),.int .i64 (sp2 x)] 126)=w2 at *
 have hS2:w1.heap.size < w2.heap.size:=World.block_lt_of_cell? _ _ s0
 have hBS:B≠w1.heap.size∧B≠w.heap.size:=by have:=BQ2.out.size;exact ⟨by omega,by omega⟩
 obtain ⟨S,eS⟩:∃ S,w1.heap.size=S:=⟨_,rfl⟩
 obtain ⟨R,eR⟩:∃ R,w.heap.size=R:=⟨_,rfl⟩
 rw [eS] at s0 s1 s2 hS2 hRS hBS
 rw [eR] at r0 r1 r2 f0 f1 f2 hRS hBS
 have OBS:∀ z,v.ownBlock=some z→z≠S∧z≠R:=fun z hz=>by have:=OB.out z hz;omega
 have OBS:=hidd OBS
 have hRw:w.heap.size≤R:=by omega
 rw [eS,eR]
 clear eS eR
 go_loopw [] (fun wr=>∃ (Lk:List Int) (vk:Value),Lk.length≤m∧Hid (HatQ wr base B o vk Lk)∧Hid (Hp Lk.length Lk.toArray)∧Hid ((∀ y∈Lk,y∈L∧y≤x)∧(∀ y∈L,y=x∨y∈Lk))∧Hid (vk.ownBlock=v.ownBlock)∧Hid (ButQ B o v.ownBlock w wr) ∧
  (wr.cell? ⟨R,0,none⟩=some (.int .i64 0)∧wr.cell? ⟨R,1,none⟩=some (.int .i64 0)∧wr.cell? ⟨R,2,none⟩=some (.int .i64 0))∧(wr.frozen? ⟨R,0,none⟩=false∧wr.frozen? ⟨R,1,none⟩=false∧wr.frozen? ⟨R,2,none⟩=false) ∧
  (wr.cell? ⟨S,0,none⟩=some (.int .i64 (sp0 x))∧wr.cell? ⟨S,1,none⟩=some (.int .i64 (sp1 x))∧wr.cell? ⟨S,2,none⟩=some (.int .i64 (sp2 x)))) (fun wr=>cellLen wr ⟨B,o,none⟩)
 case atStart=>exact ⟨L1,v1,L1m,H2,HP1,hidd ⟨IN.out.1,IN.out.2.1⟩,OB1,BQ2,⟨r0,r1,r2⟩,⟨f0,f1,f2⟩,s0,s1,s2⟩
 case round =>
  clear r0 r1 r2 f0 f1 f2 s0 s1 s2
  obtain ⟨Lk,vk,hlm,HA,HPk,INk,OBk,BQ,⟨r0,r1,r2⟩,⟨f0,f1,f2⟩,s0,s1,s2⟩:=hrel
  have hcB:=HA.out.cell
  obtain ⟨n,hn⟩:∃ n,Lk.length=n:=⟨_,rfl⟩
  obtain ⟨p,c,rfl⟩:=HA.out.any
  rw [hn] at hcB hlm HPk
  have FIN:(∀ y∈Lk,y < x)→∀ W,Below wr.heap.size wr W→(((W.setCell ⟨R,0,none⟩ (.int .i64 (sp0 x))).setCell ⟨R,1,none⟩ (.int .i64 (sp1 x))).setCell ⟨R,2,none⟩ (.int .i64 (sp2 x))).cell? ⟨R,0,none⟩=some (.int .i64 (sp0 x)) ∧
   (((W.setCell ⟨R,0,none⟩ (.int .i64 (sp0 x))).setCell ⟨R,1,none⟩ (.int .i64 (sp1 x))).setCell ⟨R,2,none⟩ (.int .i64 (sp2 x))).cell? ⟨R,1,none⟩=some (.int .i64 (sp1 x)) ∧
   (((W.setCell ⟨R,0,none⟩ (.int .i64 (sp0 x))).setCell ⟨R,1,none⟩ (.int .i64 (sp1 x))).setCell ⟨R,2,none⟩ (.int .i64 (sp2 x))).cell? ⟨R,2,none⟩=some (.int .i64 (sp2 x)) ∧
   ∃ (L':List Int) (v':Value),(∀ y∈L',y∈L∧y < x)∧(∀ y∈L,y=x∨y∈L')∧L'.length≤m∧Hp L'.length L'.toArray∧HatQ (((W.setCell ⟨R,0,none⟩ (.int .i64 (sp0 x))).setCell ⟨R,1,none⟩ (.int .i64 (sp1 x))).setCell ⟨R,2,none⟩ (.int .i64 (sp2 x))) base B o v' L'∧v'.ownBlock=v.ownBlock∧ButQ B o v.ownBlock w (((W.setCell ⟨R,0,none⟩ (.int .i64 (sp0 x))).setCell ⟨R,1,none⟩ (.int .i64 (sp1 x))).setCell ⟨R,2,none⟩ (.int .i64 (sp2 x))):=by
   intro hy W hW
   have t:=three_stores (u0:=.int .i64 (sp0 x)) (u1:=.int .i64 (sp1 x)) (u2:=.int .i64 (sp2 x)) (keepCell hW r0) (keepCell hW r1) (keepCell hW r2)
   have G:=grown_trans (grown_trans (grown_set W R 0 (.int .i64 (sp0 x))) (grown_set _ R 1 (.int .i64 (sp1 x)))) (grown_set _ R 2 (.int .i64 (sp2 x)))
   have hBW:B < W.heap.size:=Nat.lt_of_lt_of_le (Nat.lt_of_lt_of_le hlt BQ.out.size) hW.size
   refine ⟨t.1,t.2.1,t.2.2,Lk,_,fun y h=>⟨(INk.out.1 y h).1,hy y h⟩,INk.out.2,by omega,by rw [hn];exact HPk.out,(HA.out.keep hW).grown G hBS.2 (fun e=>(OBS.out R (OBk.out.symm.trans e)).2 rfl),OBk.out,?_⟩
   have hBr:B < wr.heap.size:=Nat.lt_of_lt_of_le hlt BQ.out.size
   exact (BQ.out.trans (ButQ.of_below (r:=v.ownBlock) hW hBr) (.inl rfl)).trans (ButQ.grown G hBW (fun e=>hBS.2 (Option.some.inj e).symm)) (.inr fun z hz=>by rw [← Option.some.inj hz];exact hRw)
  have FIN:=hidd FIN
  by_cases h0:n=0
  · have hd:decide (0 < n)=false:=df (by omega)
    have FI:=hidd (FIN.out (fun y hy=>by rw [h0] at hn;rw [List.length_eq_zero_iff.1 hn] at hy;cases hy))
    clear FIN h0
    go_wp2_with fail
    go_quiet (fail)
    have bN:=belowN (Below.refl wr.heap.size wr) nq
    obtain ⟨t0,t1,t2,L',v',k⟩:=FI.out _ bN
    have K:=hidd k
    clear FI k
    go_wp2_with fail
    exact bodyPost_ret (v:=.agg #[.int .i64 (sp0 x),.int .i64 (sp1 x),.int .i64 (sp2 x)]) (by simp [results,Tryz.results71,go_sem,t0,t1,t2]) rfl ⟨x,L',v',rfl,IN.out.2.2,K.out⟩
  · obtain ⟨k,rfl⟩:∃ k,n=k+1:=⟨n - 1,by omega⟩
    have hd:decide (0 < k+1)=true:=decide_eq_true (by omega)
    obtain ⟨g,c2,e,-,hBg,hRow,-,-⟩:=HA.out.form (by omega)
    simp only [Value.slice.injEq] at e
    obtain ⟨rfl,-,rfl⟩:=e
    obtain ⟨t,ht⟩:∃ t,Lk[0]?=some t:=⟨_,List.getElem?_eq_getElem (by omega)⟩
    have hrow:=(hRow.at_ 0 (by simp;omega)).1
    have e0:Lk.toArray[0]! =t:=by rw [getElem!_pos _ 0 (by simp;omega)];rw [List.getElem?_eq_getElem (by omega)] at ht;simpa using ht
    rw [e0,Nat.zero_mul] at hrow
    obtain ⟨a0,a1,a2⟩:=hrow
    simp only [Nat.zero_add] at a1 a2
    have TOP:=hidd (hp_top (by rw [hn];exact HPk.out) ht)
    have HT:=hidd ht
    clear hRow e0 ht
    have hcB0:=hidd hcB
    by_cases hx:t=x
    · subst hx
      clear FIN
      have HPk2:Hp (k+1) Lk.toArray:=HPk.out
      have PO:=hidd fun W (hW:Below wr.heap.size wr W)=>q_hpop base B o k _ Lk hn W (HA.out.keep hW) HPk2 (by omega)
      have hBr:B < wr.heap.size:=Nat.lt_of_lt_of_le hlt BQ.out.size
      clear HPk2
      go_wp2_with fail
      go_quiet (fail)
      have bN:=belowN (Below.refl wr.heap.size wr) nq
      have PO2:=hidd (PO.out _ bN)
      replace r0:=keepCell bN r0
      replace r1:=keepCell bN r1
      replace r2:=keepCell bN r2
      replace f0:=keepFrozen bN r0 f0
      replace f1:=keepFrozen bN r1 f1
      replace f2:=keepFrozen bN r2 f2
      replace s0:=keepCell bN s0
      replace s1:=keepCell bN s1
      replace s2:=keepCell bN s2
      have BQN:=hidd (BQ.out.trans (ButQ.of_below (r:=v.ownBlock) bN hBr) (.inl rfl))
      have hcN:=keepCell bN hcB
      clear PO bN a0 a1 a2 hd hcB
      generalize wr.drewN nq=wN at *
      go_wp2_with fail
      refine PO2.out.mono ?_
      rintro e w3 ⟨x',L'',v'',rfl,hx',hperm,-,hl,hp',h',ob',b'⟩
      obtain rfl:x'=t:=Option.some.inj (hx'.symm.trans HT.out)
      have nR:(Value.slice (some ⟨g,0,none⟩) (k+1) c).ownBlock≠some R:=fun e=>(OBS.out R (OBk.out.symm.trans e)).2 rfl
      have nS:(Value.slice (some ⟨g,0,none⟩) (k+1) c).ownBlock≠some S:=fun e=>(OBS.out S (OBk.out.symm.trans e)).1 rfl
      have nB:R≠B∧S≠B:=⟨fun e=>hBS.2 e.symm,fun e=>hBS.1 e.symm⟩
      have lR:=World.block_lt_of_cell? _ _ r0
      replace f0:=(b'.frozK (p:=⟨R,0,none⟩) lR nB.1 nR).trans f0
      replace f1:=(b'.frozK (p:=⟨R,1,none⟩) lR nB.1 nR).trans f1
      replace f2:=(b'.frozK (p:=⟨R,2,none⟩) lR nB.1 nR).trans f2
      replace r0:=b'.cellK r0 nB.1 nR
      replace r1:=b'.cellK r1 nB.1 nR
      replace r2:=b'.cellK r2 nB.1 nR
      replace s0:=b'.cellK s0 nB.2 nS
      replace s1:=b'.cellK s1 nB.2 nS
      replace s2:=b'.cellK s2 nB.2 nS
      have H3:=hidd h'
      have HP3:Hid (Hp L''.length L''.toArray):=hidd (by rw [hl];exact hp')
      have OB3:=hidd (ob'.trans OBk.out)
      have BQ3:=hidd (BQN.out.trans b' (.inl OBk.out))
      have IN3:Hid ((∀ y∈L'',y∈L∧y≤x')∧(∀ y∈L,y=x'∨y∈L'')):=hidd ⟨fun y hy=>INk.out.1 y (hperm.mem_iff.2 (List.mem_cons_of_mem _ hy)),fun y hy=>(INk.out.2 y hy).elim .inl fun h=>List.mem_cons.1 (hperm.mem_iff.1 h)⟩
      obtain ⟨p3,c3,e3⟩:=h'.any
      have M3:=cellLen_of (by rw [← e3];exact h'.cell)
      rw [hl] at M3
      have M0:=hidd (cellLen_of hcB0.out)
      have M3:=hidd M3
      clear PO2 h' hp' ob' b' hperm hx' BQN e3 HA HPk INk OBk BQ
      go_wp2_with fail
      go_roundw
      case rel=>exact ⟨L'',v'',by omega,H3,HP3,IN3,OB3,BQ3,⟨r0,r1,r2⟩,⟨f0,f1,f2⟩,s0,s1,s2⟩
      case measure=>rw [M0.out,M3.out];omega
    · have FI0:∀ y∈Lk,y < x:=fun y hy=>by
       have h1:=TOP.out y hy
       have h2:=(INk.out.1 t (List.mem_of_getElem? HT.out)).2
       omega
      have FI:=hidd (FIN.out FI0)
      have hne:¬ (sp0 t=sp0 x∧sp1 t=sp1 x∧sp2 t=sp2 x):=fun h=>hx (sp_ext h.1 h.2.1 h.2.2)
      clear FIN FI0 TOP HT hx
      generalize sp0 t=z0 at *
      generalize sp1 t=z1 at *
      generalize sp2 t=z2 at *
      by_cases c0:z0=sp0 x
      · by_cases c1:z1=sp1 x
        · have c2':(z2 == sp2 x)=false:=by simpa using fun e=>hne ⟨c0,c1,e⟩
          rw [c0] at a0
          rw [c1] at a1
          clear hne c0 c1
          go_wp2_with fail
          go_quiet (fail)
          have bN:=belowN (Below.refl wr.heap.size wr) nq
          obtain ⟨t0,t1,t2,L',v',k⟩:=FI.out _ bN
          have K:=hidd k
          clear FI k
          go_wp2_with fail
          exact bodyPost_ret (v:=.agg #[.int .i64 (sp0 x),.int .i64 (sp1 x),.int .i64 (sp2 x)]) (by simp [results,Tryz.results71,go_sem,t0,t1,t2]) rfl ⟨x,L',v',rfl,IN.out.2.2,K.out⟩
        · have c1':(z1 == sp1 x)=false:=by simpa using c1
          rw [c0] at a0
          clear hne c0 c1
          go_wp2_with fail
          go_quiet (fail)
          have bN:=belowN (Below.refl wr.heap.size wr) nq
          obtain ⟨t0,t1,t2,L',v',k⟩:=FI.out _ bN
          have K:=hidd k
          clear FI k
          go_wp2_with fail
          exact bodyPost_ret (v:=.agg #[.int .i64 (sp0 x),.int .i64 (sp1 x),.int .i64 (sp2 x)]) (by simp [results,Tryz.results71,go_sem,t0,t1,t2]) rfl ⟨x,L',v',rfl,IN.out.2.2,K.out⟩
      · have c0':(z0 == sp0 x)=false:=by simpa using c0
        clear hne c0
        go_wp2_with fail
        go_quiet (fail)
        have bN:=belowN (Below.refl wr.heap.size wr) nq
        obtain ⟨t0,t1,t2,L',v',k⟩:=FI.out _ bN
        have K:=hidd k
        clear FI k
        go_wp2_with fail
        exact bodyPost_ret (v:=.agg #[.int .i64 (sp0 x),.int .i64 (sp1 x),.int .i64 (sp2 x)]) (by simp [results,Tryz.results71,go_sem,t0,t1,t2]) rfl ⟨x,L',v',rfl,IN.out.2.2,K.out⟩
end Go.Proofs.YtdklpgphmoaniabGreatDoor
