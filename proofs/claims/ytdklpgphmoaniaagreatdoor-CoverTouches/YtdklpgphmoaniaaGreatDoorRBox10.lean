/-
  What the document's own Box tells: the words of all cells that touch a box of the world, rising, or that there are too many; in whatever memory.
-/
import Derived.Test.YtdklpgphmoaniaaGreatDoorJn29
namespace Go.Proofs.YtdklpgphmoaniaaGreatDoor
open Go.RowKit
def RefSayN (C:Nat) (v:Int) (Q:Int × Int→Prop) (e:Ending) (w:World):Prop:=∃ (s:Value) (L:List Int),e=.returned (.tuple #[s,.int .i64 0])∧RowAt C w s L∧Rising L∧(∀ x,x∈L↔∃ p q,Q (p,q)∧Ok4 (wR v) (cellA v+p) (cellB v+q)∧x=wordOf (wR v).toNat (cellA v+p) (cellB v+q))∧L.length≤1000
set_option maxHeartbeats 8000000 in
set_option maxRecDepth 20000 in
theorem rneigh_new (v:Int) (hv:Whole v) (w:World) :
 Calls Tryz.prog 54 #[.int .u64 v] w fun e w'=>RefSayN w.heap.size v (fun x=>stp x.1 x.2=1) e w'∧Below w.heap.size w w':=by
 have CE:=hidd (rwcell_yes v hv)
 have p1:=ok4_part (cell_ok hv)
 have hr:=wR_box v
 obtain ⟨r,er⟩:∃ r:Nat,wR v=r:=⟨(wR v).toNat,by omega⟩
 have FIN:Hid (∀ (s:Value) (L:List Int) (C:Nat) (w':World),w.heap.size≤C→(Rising L∧(∀ x,x∈L↔x∈wordsAt r (cellA v) (cellB v) ((List.range 6).map fun i=>(uA i,uB i)))∧L.length≤1000∧RowAt C w' s L)→RefSayN w.heap.size v (fun x=>stp x.1 x.2=1) (.returned (.tuple #[s,.int .i64 0])) w'):=by
  refine hidd fun s L C w' hC ⟨h1,h2,h3,h4⟩=>⟨s,L,rfl,h4.mono hC,h1,fun x=>?_,h3⟩
  rw [h2 x,er,show ((r:Int)).toNat=r by omega]
  exact words_iff (Q:=fun x=>stp x.1 x.2=1) (fun x=>unit_iff x) x
 rw [er] at CE
 have BE:Hid (∀ (v':Value) (w:World),PRow w v' ((List.range 6).map fun i=>(uA i,uB i))→_):=hidd (fun v' w h=>rbeside r (cellA v) (cellB v) (by omega) (by omega) ((List.range 6).map fun i=>(uA i,uB i)) (by simp) (fun x hx=>by have:=(unit_iff x).1 hx;omega) v' w h)
 have UN:Hid (∀ k:Nat,k < 6→∀ w,Calls Tryz.prog 41 #[.int .i64 (k:Int)] w fun e w'=>e=.returned (.agg #[.int .i64 (uA k),.int .i64 (uB k)])∧Below w.heap.size w w'):=by
  refine hidd fun k hk w=>?_
  have:=refunit_any (k:Int) w
  rw [show (k:Int)%6=k by omega] at this
  have hu:unitA (k:Int)=uA k∧unitB (k:Int)=uB k:=by rcases six_cases hk with rfl | rfl | rfl | rfl | rfl | rfl <;>decide
  rwa [hu.1,hu.2] at this
 obtain ⟨i0,hi',hz0,hz1,hz2⟩:=info_parts infoE
 generalize cellA v=a at *
 generalize cellB v=b at *
 clear hv p1 hr er
 go_enter Tryz.func54,Tryz.ntmps54
 go_wp2_with fail
 refine (CE.out _).mono ?_
 rintro e w1 ⟨rfl,d1⟩
 have c1:Below w.heap.size w w1:=Below.trans (by go_grown) (d1.mono (by simp;try omega))
 have hB:=c1
 clear c1 d1
 have z0:(w1.alloc (.cells #[.int .i64 r,.int .i64 a,.int .i64 b] 25)).cell? ⟨w1.heap.size,0,none⟩=some (.int .i64 r):=by go_simp
 have z1:(w1.alloc (.cells #[.int .i64 r,.int .i64 a,.int .i64 b] 25)).cell? ⟨w1.heap.size,1,none⟩=some (.int .i64 a):=by go_simp
 have z2:(w1.alloc (.cells #[.int .i64 r,.int .i64 a,.int .i64 b] 25)).cell? ⟨w1.heap.size,2,none⟩=some (.int .i64 b):=by go_simp
 have hwb:=belowT hB (allocB w1 (.cells #[.int .i64 r,.int .i64 a,.int .i64 b] 25))
 have hWs:(w1.alloc (.cells #[.int .i64 r,.int .i64 a,.int .i64 b] 25)).heap.size=w1.heap.size+1:=by simp
 go_wp2_with fail
 generalize (w1.alloc (.cells #[.int .i64 r,.int .i64 a,.int .i64 b] 25))=W at z0 z1 z2 hwb hWs ⊢
 have hWl:w.heap.size≤w1.heap.size:=hB.size
 generalize w1.heap.size=M at z0 z1 z2 hWs hWl ⊢
 clear hB CE
 go_loopw [6,7] (fun v6 v7 wr=>∃ k:Nat,k≤6∧v7=.int .i64 (k:Int)∧Hid (wr.ownsRow (M+1) 23 2 v6 k (pvals ((List.range k).map fun i=>(uA i,uB i))))∧Below (M+1) W wr) (fun _ v7 _=>6 - (intOf v7).toNat)
 case atStart=>exact ⟨0,by omega,rfl,World.ownsRow_nil _ _ _ _,Below.refl _ _⟩
 case round =>
  obtain ⟨k,hk,rfl,hO,hB⟩:=hrel
  have y0:=keepLow hB z0 (Nat.lt_succ_self _)
  have y1:=keepLow hB z1 (Nat.lt_succ_self _)
  have y2:=keepLow hB z2 (Nat.lt_succ_self _)
  by_cases hlt:k < 6
  · have UK:=hidd (UN.out k hlt)
    have hv:Hid (pvals ((List.range (k+1)).map fun i=>(uA i,uB i))=pvals ((List.range k).map fun i=>(uA i,uB i))++[.int .i64 (uA k),.int .i64 (uB k)]):=hidd (by rw [List.range_succ,List.map_append];exact pvals_step _ _ _)
    generalize uA k=X at *
    generalize uB k=Y at *
    clear y0 y1 y2
    go_wp2_with fail
    refine (UK.out wr).mono ?_
    rintro e w3 ⟨rfl,hb1⟩
    have hO1:=hidd (own_keep hb1 hO.out)
    have hB1:=hB.trans (hb1.mono (by have:=hB.size;omega))
    have hws:M+1≤w3.heap.size:=by have:=hB1.size;omega
    clear hO hB hb1 UK
    go_wp2_with (at_builtin;refine wpList_append_own _ rfl (.tmp 20) (.tmp 23) 76 rfl (M+1) 23 i0 (.agg #[.int .i64 0,.int .i64 0]) 2 16 Tryz.underlying76 hi' hz0 hz1 hz2 rfl (by decide) _ _ _ rfl (own_keep (allocB _ _) hO1.out) ⟨w3.heap.size,0,none⟩ 1 1 [.int .i64 X,.int .i64 Y] rfl rfl (pair_lies _ _ rfl _ _ _) (pair_int _ _) (by unfold maxLen;omega) (by omega) (by simp;omega) ?_)
    intro v' w5 hown hgrow _
    have hB5:=(hB1.alloc hws (.cells #[.int .i64 X,.int .i64 Y] 23)).grown hgrow (by simp;omega) (own_block hO1.out)
    have hO5:Hid (w5.ownsRow (M+1) 23 2 v' (k+1) (pvals ((List.range (k+1)).map fun i=>(uA i,uB i)))):=hidd (by rw [hv.out];exact hown)
    clear hown hgrow hO1 hB1 hws hv
    go_wp2
    go_roundw
    case rel=>exact ⟨k+1,by omega,by go_num,hO5,hB5⟩
    case measure=>simp [intOf];omega
  · obtain rfl:k=6:=by omega
    have PR:PRow wr u6 ((List.range 6).map fun i=>(uA i,uB i)):=own_prow (base:=M+1) (by rw [List.length_map,List.length_range];exact hO.out)
    have BK:=hidd (BE.out u6 wr PR)
    have hBw:=hwb.trans (hB.mono (by omega))
    clear hO PR BE UN hB
    go_wp2_with fail
    refine BK.out.mono ?_
    rintro e w3 ⟨⟨s,L,rfl,q⟩,hb3⟩
    have HR:=hidd (FIN.out s L _ w3 hBw.size q)
    have hB3:=belowT hBw hb3
    clear q FIN BK
    go_wp2
    go_ret2
    exact ⟨HR.out,hB3⟩
def QAt (B g:Nat) (w:World) (v:Value) (Q:List Int):Prop :=
 ∃ o cap,v=.slice (some ⟨g,o,none⟩) Q.length cap∧Q.length≤cap∧B≤g∧g < w.heap.size∧(∀ (j:Nat) (hj:j < Q.length),w.cell? ⟨g,o+j,none⟩=some (.int .u64 Q[j]))∧∀ j,j < cap→(∃ u,w.cell? ⟨g,o+j,none⟩=some u)∧w.frozen? ⟨g,o+j,none⟩=false
theorem QAt.keep {B g:Nat} {w w':World} {v:Value} {Q:List Int} (h:QAt B g w v Q) (hb:Below w.heap.size w w'):QAt B g w' v Q:=by
 obtain ⟨o,cap,e,h1,h2,h3,h4,h5⟩:=h
 exact ⟨o,cap,e,h1,h2,Nat.lt_of_lt_of_le h3 hb.size,fun j hj=>keepCell hb (h4 j hj),fun j hj=>by
  obtain ⟨⟨u,hu⟩,hf⟩:=h5 j hj
  exact ⟨⟨u,keepCell hb hu⟩,keepFrozen hb hu hf⟩⟩
def FAt (g:Nat) (w:World) (v:Value) (F:List Int):Prop :=
 ∃ cap,v=.slice (some ⟨g,0,none⟩) F.length cap∧g < w.heap.size∧∀ (j:Nat) (hj:j < F.length),w.cell? ⟨g,j,none⟩=some (.int .u64 F[j])
theorem FAt.keep {g:Nat} {w w':World} {v:Value} {F:List Int} (h:FAt g w v F) (hb:Below w.heap.size w w'):FAt g w' v F:=by
 obtain ⟨cap,e,h1,h2⟩:=h
 exact ⟨cap,e,Nat.lt_of_lt_of_le h1 hb.size,fun j hj=>keepCell hb (h2 j hj)⟩
theorem FAt.row {g:Nat} {w:World} {v:Value} {F:List Int} (h:FAt g w v F):RowAt 0 w v F:=by
 obtain ⟨cap,e,h1,h2⟩:=h
 exact .inr ⟨g,cap,e,Nat.zero_le _,h2⟩
theorem FAt.put {g b o:Nat} {w:World} {v u:Value} {F:List Int} (h:FAt g w v F) (hne:g≠b):FAt g (w.setCell ⟨b,o,none⟩ u) v F:=by
 obtain ⟨cap,e,h1,h2⟩:=h
 exact ⟨cap,e,by simpa using h1,fun j hj=>(World.cell?_setCell_other _ _ _ _ (by intro e;injection e;omega)).trans (h2 j hj)⟩
theorem f_of_own {w:World} {base:Nat} {v:Value} {F:List Int} (h:w.ownsRow base 31 1 v F.length (vals F)) (hF:0 < F.length):∃ g,base≤g∧FAt g w v F:=by
 obtain ⟨g,cap,rfl⟩:=own_shape h hF
 have hc:=own_cells h
 exact ⟨g,hc.2.2.1,cap,rfl,hc.2.2.2,hc.2.1⟩
theorem q_of_own {w:World} {base:Nat} {v:Value} {Q:List Int} (h:w.ownsRow base 31 1 v Q.length (vals Q)) (hQ:0 < Q.length):∃ g,base≤g∧QAt base g w v Q:=by
 have hh:=h
 rcases hh.2 with ⟨-,h0⟩ | ⟨g,cap,cur,rfl,hb,hg,hn,hm,hs,-⟩
 · omega
 · have hc:=own_cells h
   refine ⟨g,hb,0,cap,rfl,hn,hb,hc.2.2.2,fun j hj=>by rw [Nat.zero_add];exact hc.2.1 j hj,fun j hj=>?_⟩
   rw [Nat.zero_add]
   refine ⟨?_,h.frozenAt j⟩
   have hlt:j < cur.size:=by omega
   exact ⟨cur[j],by unfold World.cell?;rw [hg];simp [hlt]⟩
theorem own_one (w:World) (x:Int):(w.alloc (.cells #[.int .u64 x] 31)).ownsRow w.heap.size 31 1 (.slice (some ⟨w.heap.size,0,none⟩) 1 1) [x].length (vals [x]) :=
 ⟨rfl,.inr ⟨w.heap.size,1,#[.int .u64 x],rfl,Nat.le_refl _,by show (w.heap.push _)[w.heap.size]?=_;simp,Nat.le_refl _,by unfold maxLen;omega,rfl,rfl⟩⟩
theorem QAt.pop {B g o cap n:Nat} {w:World} {x:Int} {Q:List Int} (h:QAt B g w (.slice (some ⟨g,o,none⟩) n cap) (x :: Q)):n=Q.length+1∧1≤cap∧w.cell? ⟨g,o,none⟩=some (.int .u64 x)∧QAt B g w (.slice (some (if cap=1 then ⟨g,o,none⟩ else ⟨g,o+1,none⟩)) Q.length (cap - 1)) Q:=by
 obtain ⟨o',cap',e,h1,h2,h3,h4,h5⟩:=h
 simp only [Value.slice.injEq,Option.some.injEq,Addr.mk.injEq,and_true,true_and,List.length_cons] at e
 obtain ⟨rfl,rfl,rfl⟩:=e
 rw [List.length_cons] at h1
 refine ⟨rfl,by omega,by have:=h4 0 (by simp);rwa [Nat.add_zero] at this,?_⟩
 by_cases c:cap=1
 · rw [if_pos c]
   exact ⟨o,cap - 1,rfl,by omega,h2,h3,fun j hj=>by omega,fun j hj=>by omega⟩
 · rw [if_neg c]
   refine ⟨o+1,cap - 1,rfl,by omega,h2,h3,fun j hj=>?_,fun j hj=>?_⟩
   · have:=h4 (j+1) (by simp;omega)
     rw [List.getElem_cons_succ] at this
     rw [show o+1+j=o+(j+1) by omega]
     exact this
   · have:=h5 (j+1) (by omega)
     rw [show o+1+j=o+(j+1) by omega]
     exact this
theorem QAt.put {B g o cap n:Nat} {w:World} {x:Int} {Q:List Int} (h:QAt B g w (.slice (some ⟨g,o,none⟩) n cap) Q) (hn:n+1≤cap):QAt B g (w.setCell ⟨g,o+n,none⟩ (.int .u64 x)) (.slice (some ⟨g,o,none⟩) (n+1) cap) (Q++[x]):=by
 obtain ⟨o',cap',e,h1,h2,h3,h4,h5⟩:=h
 simp only [Value.slice.injEq,Option.some.injEq,Addr.mk.injEq,and_true,true_and] at e
 obtain ⟨rfl,rfl,rfl⟩:=e
 refine ⟨o,cap,by rw [List.length_append];rfl,by rw [List.length_append];exact hn,h2,by simpa using h3,fun j hj=>?_,fun j hj=>?_⟩
 · by_cases c:j=Q.length
   · subst c
     obtain ⟨u,hu⟩:=(h5 Q.length (by omega)).1
     rw [store_new hu]
     simp
   · have hj':j < Q.length:=by simp at hj;omega
     rw [store_keep (h4 j hj') (by intro e;injection e;omega),List.getElem_append_left hj']
 · refine ⟨?_,by rw [World.frozen?_setCell];exact (h5 j hj).2⟩
   obtain ⟨u,hu⟩:=(h5 j hj).1
   by_cases c:j=Q.length
   · subst c;exact ⟨_,store_new hu⟩
   · exact ⟨u,store_keep hu (by intro e;injection e;omega)⟩
def LAt (p:Option Addr) (gq:Nat) (w:World) (L:List Int):Prop:=∀ (j:Nat) (hj:j < L.length),∃ g,p=some ⟨g,0,none⟩∧g≠gq∧g < w.heap.size∧w.cell? ⟨g,j,none⟩=some (.int .u64 L[j])
theorem LAt.keep {p:Option Addr} {gq:Nat} {w w':World} {L:List Int} (h:LAt p gq w L) (hb:Below w.heap.size w w'):LAt p gq w' L:=fun j hj=>by
 obtain ⟨g,h1,h2,h3,h4⟩:=h j hj
 exact ⟨g,h1,h2,Nat.lt_of_lt_of_le h3 hb.size,keepCell hb h4⟩
theorem LAt.put {p:Option Addr} {gq o:Nat} {w:World} {L:List Int} {u:Value} (h:LAt p gq w L):LAt p gq (w.setCell ⟨gq,o,none⟩ u) L:=fun j hj=>by
 obtain ⟨g,h1,h2,h3,h4⟩:=h j hj
 exact ⟨g,h1,h2,by simpa using h3,store_keep h4 (by intro e;injection e;omega)⟩
theorem LAt.new {p:Option Addr} {gq g':Nat} {w w':World} {L:List Int} (h:LAt p gq w L) (hb:Below w.heap.size w w') (hg:w.heap.size≤g'):LAt p g' w' L:=fun j hj=>by
 obtain ⟨g,h1,h2,h3,h4⟩:=h j hj
 exact ⟨g,h1,by omega,Nat.lt_of_lt_of_le h3 hb.size,keepCell hb h4⟩
theorem FAt.lies {g n cap:Nat} {w:World} {F:List Int} (h:FAt g w (.slice (some ⟨g,0,none⟩) n cap) F):∀ j u,(vals F)[j]?=some u→w.cell? ((⟨g,0,none⟩:Addr).add j)=some u:=by
 obtain ⟨cap',-,-,hc⟩:=h
 intro j u hj
 have hl:j < F.length:=by rw [List.getElem?_eq_some_iff] at hj;have:=hj.1;rwa [vals_len] at this
 rw [vals_at F j hl] at hj
 injection hj with hj
 subst hj
 rw [Addr.add_lit,Nat.zero_add]
 exact hc j hl
theorem QAt.lies {B g o n cap:Nat} {w:World} {Q:List Int} (h:QAt B g w (.slice (some ⟨g,o,none⟩) n cap) Q):(∀ j u,(vals Q)[j]?=some u→w.cell? ⟨g,o+j,none⟩=some u)∧∀ j,j < cap→(w.cell? ⟨g,o+j,none⟩).isSome=true∧w.frozen? ⟨g,o+j,none⟩=false:=by
 obtain ⟨o',cap',e,h1,h2,h3,h4,h5⟩:=h
 simp only [Value.slice.injEq,Option.some.injEq,Addr.mk.injEq,and_true,true_and] at e
 obtain ⟨rfl,rfl,rfl⟩:=e
 refine ⟨fun j u hj=>?_,fun j hj=>?_⟩
 · have hl:j < Q.length:=by rw [List.getElem?_eq_some_iff] at hj;have:=hj.1;rwa [vals_len] at this
   rw [vals_at Q j hl] at hj
   injection hj with hj
   subst hj
   exact h4 j hl
 · obtain ⟨⟨u,hu⟩,hf⟩:=h5 j hj
   exact ⟨by rw [hu];rfl,hf⟩
theorem QAt.base {B B' g:Nat} {w:World} {v:Value} {Q:List Int} (h:QAt B g w v Q) (hb:B'≤B):QAt B' g w v Q:=by
 obtain ⟨o,cap,e,h1,h2,h3⟩:=h
 exact ⟨o,cap,e,h1,Nat.le_trans hb h2,h3⟩
def NB (x y:Int):Prop:=∃ p q,stp p q=1∧Ok4 (wR x) (cellA x+p) (cellB x+q)∧y=wordOf (wR x).toNat (cellA x+p) (cellB x+q)
def InvB (T:Int→Prop) (s0:Int) (F Q:List Int):Prop:=(Rising F∧(∀ x∈F,T x)∧s0∈F)∧(∀ x∈Q,x∈F)∧∀ x∈F,x∈Q∨∀ y,NB x y→T y→y∈F
def InvX (T:Int→Prop) (s0 x:Int) (N F Q:List Int):Prop:=(Rising F∧(∀ z∈F,T z)∧s0∈F)∧(∀ z∈Q,z∈F)∧(∀ z∈F,z=x∨z∈Q∨∀ y,NB z y→T y→y∈F)∧∀ y∈N,T y→y∈F
theorem InvB.look {T:Int→Prop} {s0 x:Int} {F Q:List Int} (h:InvB T s0 F (x :: Q)):InvX T s0 x [] F Q :=
 ⟨h.1,fun z hz=>h.2.1 z (List.mem_cons_of_mem _ hz),fun z hz=>by
   rcases h.2.2 z hz with k | k
   · rcases List.mem_cons.1 k with k | k
     · exact .inl k
     · exact .inr (.inl k)
   · exact .inr (.inr k),fun y hy=>by cases hy⟩
theorem InvX.done {T:Int→Prop} {s0 x:Int} {N F Q:List Int} (h:InvX T s0 x N F Q) (hN:∀ y,NB x y→y∈N):InvB T s0 F Q :=
 ⟨h.1,h.2.1,fun z hz=>by
   rcases h.2.2.1 z hz with k | k | k
   · subst k;exact .inr fun y hy ht=>h.2.2.2 y (hN y hy) ht
   · exact .inl k
   · exact .inr k⟩
theorem InvX.pass {T:Int→Prop} {s0 x y:Int} {N F Q:List Int} (h:InvX T s0 x N F Q) (hy:T y→y∈F):InvX T s0 x (N++[y]) F Q :=
 ⟨h.1,h.2.1,h.2.2.1,fun z hz ht=>by
   rcases List.mem_append.1 hz with k | k
   · exact h.2.2.2 z k ht
   · rw [List.mem_singleton.1 k] at ht ⊢;exact hy ht⟩
theorem InvX.more {T:Int→Prop} {s0 x y:Int} {N F F' Q:List Int} (h:InvX T s0 x N F Q) (ht:T y) (hR:Rising F') (hF:∀ z,z∈F'↔z∈y :: F):InvX T s0 x (N++[y]) F' (Q++[y]):=by
 have up:∀ z,z∈F→z∈F':=fun z hz=>(hF z).2 (List.mem_cons_of_mem _ hz)
 refine ⟨⟨hR,fun z hz=>?_,up _ h.1.2.2⟩,fun z hz=>?_,fun z hz=>?_,fun z hz hT=>?_⟩
 · rcases List.mem_cons.1 ((hF z).1 hz) with k | k
   · rw [k];exact ht
   · exact h.1.2.1 z k
 · rcases List.mem_append.1 hz with k | k
   · exact up z (h.2.1 z k)
   · rw [List.mem_singleton.1 k];exact (hF y).2 (List.mem_cons_self ..)
 · rcases List.mem_cons.1 ((hF z).1 hz) with k | k
   · exact .inr (.inl (List.mem_append.2 (.inr (List.mem_singleton.2 k))))
   · rcases h.2.2.1 z k with k | k | k
     · exact .inl k
     · exact .inr (.inl (List.mem_append.2 (.inl k)))
     · exact .inr (.inr fun y hy hT=>up y (k y hy hT))
 · rcases List.mem_append.1 hz with k | k
   · exact up z (h.2.2.2 z k hT)
   · rw [List.mem_singleton.1 k];exact (hF y).2 (List.mem_cons_self ..)
theorem more_len {F F':List Int} {y:Int} (hF:Rising F) (hF':Rising F') (hy:y ∉ F) (h:∀ z,z∈F'↔z∈y :: F):F'.length=F.length+1:=by
 have n1:=rising_nodup hF'
 have n2:(y :: F).Nodup:=List.nodup_cons.2 ⟨hy,rising_nodup hF⟩
 have a1:=nodup_len n1 fun z hz=>(h z).1 hz
 have a2:=nodup_len n2 fun z hz=>(h z).2 hz
 rw [List.length_cons] at a1 a2
 omega
def lenV:Value→Nat
 | .slice _ n _=>n
 | _=>0
def TellsBox (K r m:Nat) (l1 l2 u1 u2:Int) (e:Ending) (w':World):Prop :=
 (∃ s L,e=.returned (.tuple #[s,.bool true])∧RowAt 0 w' s L∧Rising L∧(∀ x,x∈L↔TW K l1 l2 u1 u2 x r)∧L.length≤m) ∨
 (e=.returned (.tuple #[.slice none 0 0,.bool false])∧∃ L,Rising L∧(∀ x∈L,TW K l1 l2 u1 u2 x r)∧m < L.length)
set_option maxHeartbeats 16000000 in
set_option maxRecDepth 20000 in
theorem r_box (l1 l2 u1 u2:Int) (r K m:Nat) (hK:K≤12) (hr:12 - (r:Int)=(K:Int)) (h1:0≤l1) (h2:0≤l2) (h3:u1 < 1073741824) (h4:u2 < 1073741824) (h5:l1≤u1) (h6:l2≤u2) (hm:m≤19000) (hm0:1≤m) (w:World) :
 Calls Tryz.prog 26 #[.agg #[.int .i64 l1,.int .i64 l2],.agg #[.int .i64 u1,.int .i64 u2],.int .i64 (r:Int),.int .i64 (m:Int)] w fun e w'=>TellsBox K r m l1 l2 u1 u2 e w'∧Below w.heap.size w w':=by
 have hw:InW l1 l2:=⟨h1,by omega,h2,by omega⟩
 obtain ⟨sa,sb,hN⟩:=nearest_some (d:=dvK K) (dvK_box hK).1 (nuA K l1 l2) (nuB K l1 l2)
 have hO:=near_ok hK hr hw hN
 have NE:=hidd fun w=>rnear_at l1 l2 (r:Int) K hK hr hw sa sb hN w
 have WE:=hidd fun w=>rword_yes r sa sb hO w
 obtain ⟨T,eT⟩:∃ T:Int→Prop,(fun x=>TW K l1 l2 u1 u2 x r)=T:=⟨_,rfl⟩
 have TT:Hid (∀ x,T x↔TW K l1 l2 u1 u2 x r):=hidd fun x=>by rw [← eT]
 have I0:Hid (InvB T (wordOf r sa sb) [wordOf r sa sb] [wordOf r sa sb]):=hidd ⟨⟨List.pairwise_singleton _ _,fun x hx=>by rw [List.mem_singleton.1 hx];exact (TT.out _).2 (tw_mk hO (tou_at ⟨Int.le_refl _,h5⟩ ⟨Int.le_refl _,h6⟩ hN.1)),List.mem_singleton.2 rfl⟩,fun x hx=>hx,fun x hx=>.inl hx⟩
 have ALL:Hid (∀ F,InvB T (wordOf r sa sb) F []→∀ x,x∈F↔TW K l1 l2 u1 u2 x r):=hidd fun F h=>bfs_all hK hr h1 h2 h3 h4 h5 h6 hN.1 (fun x hx=>(TT.out x).1 (h.1.2.1 x hx)) h.1.2.2 fun x hx p q hpq hok ht=>by
  have hx':=(TT.out x).1 (h.1.2.1 x hx)
  rcases h.2.2 x hx with k | k
  · cases k
  · exact k _ ⟨p,q,hpq,by rw [hx'.2.1];exact hok,by rw [hx'.2.1,Int.toNat_natCast]⟩ ((TT.out _).2 (tw_mk hok ht))
 have TC:Hid (∀ y,Whole y→wR y=(r:Int)→∀ t:Bool,(t=true↔T y)→∀ w,Calls Tryz.prog 23 #[.agg #[.int .i64 (wR y),.int .i64 (cellA y),.int .i64 (cellB y)],.agg #[.int .i64 l1,.int .i64 l2],.agg #[.int .i64 u1,.int .i64 u2]] w fun e w'=>e=.returned (.bool t)∧Below w.heap.size w w'):=hidd fun y hy hR t ht w=>r_touch _ _ _ _ _ _ _ t (ht.trans ((TT.out y).trans ⟨fun h=>⟨cell_ok hy,by unfold FarT;omega,by unfold FarT;omega,⟨h5,h6⟩,by rw [hR,hr,Int.toNat_natCast];exact h.2.2⟩,fun h=>⟨hy,hR,by have:=h.2.2.2.2;rwa [hR,hr,Int.toNat_natCast] at this⟩⟩)) w
 have S0:Hid (Row12 w.heap.size 2 (prT l1 l2) ((w.alloc (.cells #[.int .i64 l1,.int .i64 l2] 38)).alloc (.cells #[.int .i64 u1,.int .i64 u2] 38))∧Row12 (w.heap.size+1) 2 (prT u1 u2) ((w.alloc (.cells #[.int .i64 l1,.int .i64 l2] 38)).alloc (.cells #[.int .i64 u1,.int .i64 u2] 38))):=hidd ⟨fun o ho=>by
  obtain rfl | rfl:o=0∨o=1:=by omega
  · unfold prT;go_simp
  · unfold prT;go_simp,fun o ho=>by
  obtain rfl | rfl:o=0∨o=1:=by omega
  · unfold prT;go_simp
  · unfold prT;go_simp⟩
 have B0:=hidd (belowT (allocB w (.cells #[.int .i64 l1,.int .i64 l2] 38)) (allocB _ (.cells #[.int .i64 u1,.int .i64 u2] 38)))
 have H0:w.heap.size+2≤((w.alloc (.cells #[.int .i64 l1,.int .i64 l2] 38)).alloc (.cells #[.int .i64 u1,.int .i64 u2] 38)).heap.size:=by simp
 have WB:=whole_box (word_parts hO).1
 obtain ⟨s0,es0⟩:∃ s0,wordOf r sa sb=s0:=⟨_,rfl⟩
 rw [es0] at WE I0 ALL WB
 obtain ⟨i0,hi,hz0,hz1,hz2⟩:=info_parts infoU64
 clear hN hO hw es0 h1 h2 h3 h4 h5 h6 eT
 go_enter Tryz.func26,Tryz.ntmps26
 go_wp2_with fail
 generalize (w.alloc (.cells #[.int .i64 l1,.int .i64 l2] 38)).alloc (.cells #[.int .i64 u1,.int .i64 u2] 38)=w0 at *
 refine (NE.out _).mono ?_
 rintro e w1 ⟨rfl,b1⟩
 have Ba:=hidd (belowT b1 (allocB w1 (.cells #[.int .i64 sa,.int .i64 sb] 23)))
 clear NE b1
 go_wp2_with fail
 generalize w1.alloc (.cells #[.int .i64 sa,.int .i64 sb] 23)=w2 at *
 refine (WE.out _).mono ?_
 rintro e w3 ⟨rfl,b3⟩
 have B3:=hidd (belowT Ba.out b3)
 clear WE b3 Ba
 go_wp2_with fail
 have hal:=allocB w3 (.cells #[.int .u64 s0] 31)
 have hal2:=allocB (w3.alloc (.cells #[.int .u64 s0] 31)) (.cells #[.int .u64 s0] 31)
 have hs3:=B3.out.size
 have FF:Hid (FAt w3.heap.size ((w3.alloc (.cells #[.int .u64 s0] 31)).alloc (.cells #[.int .u64 s0] 31)) (.slice (some ⟨w3.heap.size,0,none⟩) 1 1) [s0]):=hidd (FAt.keep ⟨1,rfl,by simp,fun j hj=>by
  obtain rfl:j=0:=by simp at hj;omega
  go_simp⟩ hal2)
 have QQ:Hid (QAt w0.heap.size (w3.heap.size+1) ((w3.alloc (.cells #[.int .u64 s0] 31)).alloc (.cells #[.int .u64 s0] 31)) (.slice (some ⟨w3.heap.size+1,0,none⟩) 1 1) [s0]):=hidd ⟨0,1,rfl,Nat.le_refl _,by omega,by simp,fun j hj=>by
  obtain rfl:j=0:=by simp at hj;omega
  go_simp,fun j hj=>by
  obtain rfl:j=0:=by omega
  exact ⟨⟨.int .u64 s0,by go_simp⟩,by go_simp⟩⟩
 have B4:=hidd (belowT (belowT B3.out hal) hal2)
 clear hal hal2 B3
 generalize (w3.alloc (.cells #[.int .u64 s0] 31)).alloc (.cells #[.int .u64 s0] 31)=w4 at *
 have hm1:(1:Int)≤(m:Int):=by omega
 go_loopw [14,15] (fun v14 v15 wr=>∃ (F Q:List Int) (gf gq:Nat),Hid (FAt gf wr v14 F)∧Hid (QAt w0.heap.size gq wr v15 Q)∧gf≠gq∧Hid (InvB T s0 F Q)∧F.length≤m∧Q.length≤F.length∧Hid (Below w0.heap.size w0 wr)) (fun v14 v15 _=>2*(m - lenV v14)+lenV v15)
 case atStart=>exact ⟨[s0],[s0],_,_,FF,QQ,by omega,I0,by simp;omega,by simp,B4⟩
 case round =>
  clear FF QQ I0 B4
  obtain ⟨F,Q,gf,gq,hF,hQ,hne,hI,hFl,hQl,hB⟩:=hrel
  obtain ⟨nf,enf⟩:∃ nf,F.length=nf:=⟨_,rfl⟩
  have ENF:=hidd enf
  obtain ⟨cF,eF,-,-⟩:=hF.out
  rw [enf] at eF hFl hQl
  subst eF
  clear enf
  cases Q with
  | nil =>
   obtain ⟨o,cap,e,-⟩:=hQ.out
   rw [List.length_nil] at e
   subst e
   have HR:=hidd hF.out.row
   have HM:=hidd (ALL.out F hI.out)
   have HRi:=hidd hI.out.1.1
   clear hF hQ hI ALL TC TT
   go_wp2_with fail
   go_ret2
   exact ⟨.inl ⟨_,F,rfl,HR.out,HRi.out,HM.out,by rw [ENF.out];exact hFl⟩,B0.out.trans (hB.out.mono (by omega))⟩
  | cons x Q =>
   have hTx:=(TT.out x).1 (hI.out.1.2.1 x (hI.out.2.1 x (List.mem_cons_self ..)))
   have NC:=hidd fun w=>rneigh_new x hTx.1 w
   have HxR:=hidd hTx.2.1
   have IX:=hidd hI.out.look
   obtain ⟨k,ek⟩:∃ k,Q.length=k:=⟨_,rfl⟩
   have EK:=hidd ek
   obtain ⟨o,cap,e,hcap,-⟩:=hQ.out
   rw [List.length_cons,ek] at e hcap hQl
   subst e
   have hp:=QAt.pop hQ.out
   obtain ⟨-,hc1,x0,hQ2⟩:=hp
   rw [ek] at hQ2
   have hgq:gq < wr.heap.size:=World.block_lt_of_cell? _ _ x0
   have HQ2:=hidd hQ2
   clear hTx hI hQ hQ2 ek
   go_wp2_with fail
   refine (NC.out _).mono ?_
   rintro e w5 ⟨⟨s,L,rfl,hL1,hL2,hL3,hL4⟩,b5⟩
   have hF5:=hidd (hF.out.keep b5)
   have HQ5:=hidd (HQ2.out.keep b5)
   have B5:=hidd (hB.out.trans (b5.mono hB.out.size))
   obtain ⟨nl,enl⟩:∃ nl,L.length=nl:=⟨_,rfl⟩
   have ENL:=hidd enl
   have LL:∃ pL cL,s=.slice pL nl cL∧Hid (LAt pL gq w5 L):=by
    rcases hL1 with ⟨rfl,rfl⟩ | ⟨g,cL,rfl,hC,hc⟩
    · rw [List.length_nil] at enl
      subst enl
      exact ⟨none,0,rfl,hidd fun j hj=>absurd hj (Nat.not_lt_zero _)⟩
    · exact ⟨_,cL,by rw [enl],hidd fun j hj=>⟨g,rfl,by omega,World.block_lt_of_cell? _ _ (hc j hj),hc j hj⟩⟩
   obtain ⟨pL,cL,rfl,LW⟩:=LL
   rw [enl] at hL4
   have LM:=hidd hL3
   clear x0 hL1 hL2 hL3 b5 NC hF hB HQ2 enl
   rcases (show (k=0∧cap=1)∨cap≠1 by omega) with ⟨rfl,rfl⟩ | hc
   all_goals
    first | rw [if_pos rfl] at HQ5 | rw [if_neg hc] at HQ5
    go_wp2_with fail
    go_loopw [14,15,18] (fun v14 v15 v18 wi=>∃ (i:Nat) (F2 Q2:List Int) (gf2 gq2:Nat),i≤nl∧v18=.int .i64 (i:Int)∧Hid (FAt gf2 wi v14 F2)∧Hid (QAt w0.heap.size gq2 wi v15 Q2)∧gf2≠gq2∧Hid (LAt pL gq2 wi L)∧Hid (InvX T s0 x (L.take i) F2 Q2)∧F2.length≤m∧Q2.length≤F2.length∧2*(m - F2.length)+Q2.length≤2*(m - nf)+Q.length∧Hid (Below w0.heap.size w0 wi)) (fun _ _ v18 _=>nl - (intOf v18).toNat)
    case atStart=>exact ⟨0,F,Q,gf,gq,Nat.zero_le _,rfl,hF5,HQ5,hne,LW,IX,by rw [ENF.out];exact hFl,by rw [ENF.out,EK.out];omega,by rw [ENF.out];omega,B5⟩
    case round =>
     clear HQ5 hF5 IX LW B5
     obtain ⟨i,F2,Q2,gf2,gq2,hi1,e18,hF,hQ,hne2,LW,IX,hF2,hQ2,hM2,hB⟩:=hrel
     subst e18
     rcases Nat.lt_or_ge i nl with hlt | hge
     · have hiL:i < L.length:=by rw [ENL.out];exact hlt
       obtain ⟨y,hy⟩:∃ y,L[i]=y:=⟨_,rfl⟩
       have hmem:y∈L:=by rw [← hy];exact List.getElem_mem hiL
       obtain ⟨p0,q0,hst,hok,hyw⟩:=(LM.out y).1 hmem
       rw [HxR.out] at hok hyw
       rw [Int.toNat_natCast] at hyw
       have WY:Whole y:=by rw [hyw];exact (word_parts hok).1
       have hyR:wR y=(r:Int):=by rw [hyw];exact (word_parts hok).2.1
       have WYB:=whole_box WY
       have WC:=hidd fun w=>rwcell_yes y WY w
       have HS:=hidd fun (w:World) v (h:FAt gf2 w v F2)=>rhas 0 v F2 y ⟨by omega,by omega⟩ IX.out.1.1 (fun z hz=>by have:=whole_box ((TT.out z).1 (IX.out.1.2.1 z hz)).1;exact ⟨by omega,by omega⟩) (by omega) w h.row
       have TK:L.take (i+1)=L.take i++[y]:=by rw [List.take_succ_eq_append_getElem hiL,hy]
       have IN:=hidd fun F3 Q3 (h:InvX T s0 x (L.take i++[y]) F3 Q3)=>(by rw [TK];exact h:InvX T s0 x (L.take (i+1)) F3 Q3)
       have HTY:Hid (∀ t:Bool,(t=true↔T y)→∀ w,Calls Tryz.prog 23 #[.agg #[.int .i64 (wR y),.int .i64 (cellA y),.int .i64 (cellB y)],.agg #[.int .i64 l1,.int .i64 l2],.agg #[.int .i64 u1,.int .i64 u2]] w fun e w'=>e=.returned (.bool t)∧Below w.heap.size w w'):=hidd (TC.out y WY hyR)
       have UY:U64 y:=⟨by omega,by omega⟩
       have UF:Hid (∀ z∈y :: F2,U64 z):=hidd fun z hz=>by
        rcases List.mem_cons.1 hz with k | k
        · rw [k];exact UY
        · have:=whole_box ((TT.out z).1 (IX.out.1.2.1 z k)).1;exact ⟨by omega,by omega⟩
       obtain ⟨gl,epL,hgl,hgl2,c0⟩:=LW.out i hiL
       rw [hy] at c0
       subst epL
       obtain ⟨cF2,eF2,hgF,-⟩:=hF.out
       obtain ⟨oQ2,cQ2,eQ2,hcQ,hgB,hgQ,-⟩:=hQ.out
       subst eF2 eQ2
       have hwB:=hB.out.size
       clear hmem hst hok hyw hy TK LM WY hyR ALL
       go_wp2_with fail
       refine (WC.out _).mono ?_
       rintro e w6 ⟨rfl,b6⟩
       have Ba:=hidd (belowT b6 (allocB w6 (.cells #[.int .i64 (wR y),.int .i64 (cellA y),.int .i64 (cellB y)] 25)))
       have C19:(w6.alloc (.cells #[.int .i64 (wR y),.int .i64 (cellA y),.int .i64 (cellB y)] 25)).cell? ⟨w6.heap.size,0,none⟩=some (.int .i64 (wR y))∧(w6.alloc (.cells #[.int .i64 (wR y),.int .i64 (cellA y),.int .i64 (cellB y)] 25)).cell? ⟨w6.heap.size,1,none⟩=some (.int .i64 (cellA y))∧(w6.alloc (.cells #[.int .i64 (wR y),.int .i64 (cellA y),.int .i64 (cellB y)] 25)).cell? ⟨w6.heap.size,2,none⟩=some (.int .i64 (cellB y)):=⟨by go_simp,by go_simp,by go_simp⟩
       obtain ⟨r0,r1,r2⟩:=C19
       have c7:=keepCell Ba.out c0
       have hF7:=hidd (hF.out.keep Ba.out)
       have hQ7:=hidd (hQ.out.keep Ba.out)
       have LW7:=hidd (LW.out.keep Ba.out)
       have B7:=hidd (hB.out.trans (Ba.out.mono hwB))
       have hg7:=Nat.lt_of_lt_of_le hgQ Ba.out.size
       have hg7F:=Nat.lt_of_lt_of_le hgF Ba.out.size
       clear WC b6 hF hQ LW hB hgQ hgF c0 Ba
       go_wp2_with fail
       generalize w6.alloc (.cells #[.int .i64 (wR y),.int .i64 (cellA y),.int .i64 (cellB y)] 25)=w7 at *
       refine (HS.out _ _ hF7.out).mono ?_
       rintro e w8 ⟨rfl,b8⟩
       have c8:=keepCell b8 c7
       replace r0:=keepCell b8 r0
       replace r1:=keepCell b8 r1
       replace r2:=keepCell b8 r2
       have hF8:=hidd (hF7.out.keep b8)
       have hQ8:=hidd (hQ7.out.keep b8)
       have LW8:=hidd (LW7.out.keep b8)
       have B8:=hidd (B7.out.trans (b8.mono B7.out.size))
       have hg8:=Nat.lt_of_lt_of_le hg7 b8.size
       have hg8F:=Nat.lt_of_lt_of_le hg7F b8.size
       clear b8 hF7 hQ7 LW7 B7 hg7 hg7F c7 HS
       by_cases hin:y∈F2
       · have hd:decide (y∈F2)=true:=decide_eq_true hin
         have IX2:=hidd (IN.out _ _ (IX.out.pass fun _=>hin))
         clear hin IX IN HTY UF
         rw [hd]
         go_wp2_with fail
         go_roundw
         case rel=>exact ⟨i+1,F2,Q2,gf2,gq2,by omega,by go_num,hF8,hQ8,hne2,LW8,IX2,hF2,hQ2,hM2,B8⟩
         case measure=>simp [intOf];omega
       · have hd:decide (y∈F2)=false:=decide_eq_false hin
         rw [hd]
         have b0:w8.cell? ⟨w.heap.size,0,none⟩=some (.int .i64 l1):=keepCell B8.out (S0.out.1 0 (by omega))
         have b1:w8.cell? ⟨w.heap.size,1,none⟩=some (.int .i64 l2):=keepCell B8.out (S0.out.1 1 (by omega))
         have b2:w8.cell? ⟨w.heap.size+1,0,none⟩=some (.int .i64 u1):=keepCell B8.out (S0.out.2 0 (by omega))
         have b3:w8.cell? ⟨w.heap.size+1,1,none⟩=some (.int .i64 u2):=keepCell B8.out (S0.out.2 1 (by omega))
         by_cases hT:T y
         · have TY:=hidd (HTY.out true ⟨fun _=>hT,fun _=>rfl⟩)
           have IX2:=hidd fun (F3:List Int) (hR:Rising F3) (hz:∀ z,z∈F3↔z∈y :: F2)=>IN.out F3 (Q2++[y]) (IX.out.more hT hR hz)
           have HL3:=hidd fun (F3:List Int) (hR:Rising F3) (hz:∀ z,z∈F3↔z∈y :: F2)=>more_len IX.out.1.1 hR hin hz
           have HT3:=hidd fun (F3:List Int) (hz:∀ z,z∈F3↔z∈y :: F2)=>(fun z hz'=>by
            rcases List.mem_cons.1 ((hz z).1 hz') with k | k
            · rw [k];exact (TT.out y).1 hT
            · exact (TT.out z).1 (IX.out.1.2.1 z k):∀ z∈F3,TW K l1 l2 u1 u2 z r)
           clear hin hT IX IN HTY
           go_wp2_with fail
           refine (TY.out _).mono ?_
           rintro e w9 ⟨rfl,b9⟩
           have c9:=keepCell b9 c8
           have hF9:=hidd (hF8.out.keep b9)
           have hQ9:=hidd (hQ8.out.keep b9)
           have LW9:=hidd (LW8.out.keep b9)
           have B9:=hidd (B8.out.trans (b9.mono B8.out.size))
           have hg9:=Nat.lt_of_lt_of_le hg8 b9.size
           have hg9F:=Nat.lt_of_lt_of_le hg8F b9.size
           clear b9 hF8 hQ8 LW8 B8 hg8 hg8F c8 TY b0 b1 b2 b3 r0 r1 r2
           have al9:=allocB w9 (.cells #[.int .u64 y] 31)
           have LF:=hidd (hF9.out.keep al9).lies
           go_wp2_with (at_builtin;refine wpList_append_own _ rfl (.tmp 84) (.tmp 85) 34 rfl w9.heap.size 31 i0 (.int .u64 0) 1 8 Tryz.underlying34 hi hz0 hz1 hz2 rfl (by decide) _ _ _ rfl (own_one w9 y) ⟨gf2,0,none⟩ F2.length cF2 (vals F2) rfl (by rw [vals_len];omega) LF.out (vals_one F2) (by unfold maxLen;show 1+_≤_;omega) (by show (1+_)*8≤_;omega) (by simp) ?_)
           intro v' w10 hown hgrow _
           have b10:=hidd (al9.grown hgrow (by simp) (own_block (own_one w9 y)))
           have hO10:=hidd (show w10.ownsRow w9.heap.size 31 1 v' (y :: F2).length (vals (y :: F2)) by rw [List.length_cons,Nat.add_comm];exact hown)
           have RS:=hidd (rset_own (y :: F2) (by rw [List.length_cons];omega) UF.out _ v' w10 hO10.out)
           have c10:=keepCell b10.out c9
           have hQ10:=hidd (hQ9.out.keep b10.out)
           have LW10:=hidd (LW9.out.keep b10.out)
           have B10:=hidd (B9.out.trans (b10.out.mono B9.out.size))
           have hg10:=Nat.lt_of_lt_of_le hg9 b10.out.size
           have hs10:=b10.out.size
           clear hown hgrow al9 LF hO10 b10 hF9 hQ9 LW9 B9 c9
           go_wp2_with fail
           refine RS.out.mono ?_
           rintro e w11 ⟨⟨s3,F3,rfl,hR3,hM3,-,hO3⟩,b11⟩
           have hL3:=HL3.out F3 hR3 hM3
           have IX3:=hidd (IX2.out F3 hR3 hM3)
           have HT4:=hidd (HT3.out F3 hM3)
           have HR3:=hidd hR3
           obtain ⟨g3,hg3,hF3⟩:=f_of_own hO3 (by omega)
           have HF3:=hidd hF3
           obtain ⟨c3,eF3,hg3s,-⟩:=hF3
           obtain ⟨n3,en3⟩:∃ n3,F3.length=n3:=⟨_,rfl⟩
           rw [en3] at eF3 hL3
           have EN3:=hidd en3
           have HN3:=hidd hL3
           have hn3:n3≤19001:=by omega
           subst eF3
           have c11:=keepCell b11 c10
           have hQ11:=hidd (hQ10.out.keep b11)
           have LW11:=hidd (LW10.out.keep b11)
           have B11:=hidd (B10.out.trans (b11.mono B10.out.size))
           have hg11:=Nat.lt_of_lt_of_le hg10 b11.size
           have hs11:=b11.size
           have hs0:=B11.out.size
           clear RS hR3 hM3 hO3 en3 hL3 b11 c10 hQ10 LW10 B10 HL3 IX2 HT3 UF
           have al11:=allocB w11 (.cells #[.int .u64 y] 31)
           have QA:=hidd (hQ11.out.keep al11)
           have FA:=hidd (HF3.out.keep al11)
           have LA:=hidd (LW11.out.keep al11)
           have BA:=hidd (B11.out.trans (al11.mono hs0))
           have QL:=hidd QA.out.lies
           have one11:=hidd (one_lies w11 w11.heap.size rfl (.int .u64 y) 31)
           have hsa:=al11.size
           clear hQ11 HF3 LW11 B11
           go_wp2_with (at_builtin;refine wpList_append_arg _ rfl (.tmp 88) (.tmp 93) 34 rfl 31 i0 (.int .u64 0) 1 8 Tryz.underlying34 hi hz0 hz1 hz2 rfl (by decide) gq2 oQ2 Q2.length cQ2 (vals Q2) rfl (by rw [vals_len];omega) QL.out.1 ⟨w11.heap.size,0,none⟩ 1 1 [.int .u64 y] rfl rfl one11.out (one_int _ _) (fun h j hj=>by have h1:j < 1:=hj;have hj0:j=0:=Nat.lt_one_iff.1 h1;have h2:=QL.out.2 Q2.length (by omega);rw [hj0,Nat.mul_one,Nat.add_zero];exact h2) (by unfold maxLen;omega) (by omega) ?_ ?_)
           · intro hroom
             have FR:=hidd (FA.out.put (b:=gq2) (o:=oQ2+Q2.length) (u:=.int .u64 y) (by omega))
             have QR:=hidd (QA.out.put (x:=y) (by omega))
             have LR:=hidd (LA.out.put (o:=oQ2+Q2.length) (u:=.int .u64 y))
             have BR:=hidd (BA.out.setCell (p:=⟨gq2,oQ2+Q2.length,none⟩) hgB (.int .u64 y))
             have hne3:g3≠gq2:=by omega
             rw [show ((w11.alloc (.cells #[.int .u64 y] 31)).setCells gq2 (oQ2+Q2.length) [.int .u64 y])=(w11.alloc (.cells #[.int .u64 y] 31)).setCell ⟨gq2,oQ2+Q2.length,none⟩ (.int .u64 y) from rfl]
             generalize (w11.alloc (.cells #[.int .u64 y] 31)).setCell ⟨gq2,oQ2+Q2.length,none⟩ (.int .u64 y)=w12 at *
             clear FA QA LA BA QL one11 al11
             rcases Nat.lt_or_ge m n3 with hgt | hle
             · have hgtI:(m:Int) < (n3:Int):=by omega
               go_wp2_with fail
               go_ret2
               exact ⟨.inr ⟨rfl,F3,HR3.out,HT4.out,by rw [EN3.out];exact hgt⟩,B0.out.trans (BR.out.mono (by omega))⟩
             · have hleI:¬ (m:Int) < (n3:Int):=by omega
               go_wp2_with fail
               go_roundw
               case rel=>exact ⟨i+1,F3,Q2++[y],g3,gq2,by omega,by go_num,FR,QR,hne3,LR,IX3,by rw [EN3.out];exact hle,by rw [EN3.out,List.length_append];have:=HN3.out;show Q2.length+1≤n3;omega,by rw [EN3.out,List.length_append];have:=HN3.out;show 2*(m - n3)+(Q2.length+1)≤_;omega,BR⟩
               case measure=>simp [intOf];omega
           · intro hfull v' w12 hown hgrow
             obtain ⟨gn,hgn,hQn⟩:=q_of_own (Q:=Q2++[y]) (by rw [List.length_append];show w12.ownsRow _ _ _ _ (Q2.length+1) _;rw [vals,List.map_append];exact hown) (by rw [List.length_append];show 0 < Q2.length+1;omega)
             have b12:=hidd ((Below.refl _ _).grown hgrow (Nat.le_refl _) (fun k hk=>by cases hk))
             have FR:=hidd (FA.out.keep b12.out)
             have QR:=hidd (hQn.base (by omega:w0.heap.size≤_))
             have LR:=hidd (LA.out.new b12.out (by simpa using hgn))
             have BR:=hidd (BA.out.trans (b12.out.mono (by omega)))
             have hne3:g3≠gn:=by omega
             obtain ⟨on,cn,eqn,-⟩:=QR.out
             rw [List.length_append] at eqn
             subst eqn
             clear FA QA LA BA QL one11 al11 hown hgrow b12 hQn
             rcases Nat.lt_or_ge m n3 with hgt | hle
             · have hgtI:(m:Int) < (n3:Int):=by omega
               go_wp2_with fail
               go_ret2
               exact ⟨.inr ⟨rfl,F3,HR3.out,HT4.out,by rw [EN3.out];exact hgt⟩,B0.out.trans (BR.out.mono (by omega))⟩
             · have hleI:¬ (m:Int) < (n3:Int):=by omega
               go_wp2_with fail
               go_roundw
               case rel=>exact ⟨i+1,F3,Q2++[y],g3,gn,by omega,by go_num,FR,QR,hne3,LR,IX3,by rw [EN3.out];exact hle,by rw [EN3.out,List.length_append];have:=HN3.out;show Q2.length+1≤n3;omega,by rw [EN3.out,List.length_append];have:=HN3.out;show 2*(m - n3)+(Q2.length+1)≤_;omega,BR⟩
               case measure=>simp [intOf];omega
         · have TY:=hidd (HTY.out false ⟨fun h=>(by cases h),fun h=>absurd h hT⟩)
           have IX2:=hidd (IN.out _ _ (IX.out.pass fun h=>absurd h hT))
           clear hin hT IX IN HTY UF
           go_wp2_with fail
           refine (TY.out _).mono ?_
           rintro e w9 ⟨rfl,b9⟩
           have hF9:=hidd (hF8.out.keep b9)
           have hQ9:=hidd (hQ8.out.keep b9)
           have LW9:=hidd (LW8.out.keep b9)
           have B9:=hidd (B8.out.trans (b9.mono B8.out.size))
           clear b9 hF8 hQ8 LW8 B8 hg8 hg8F c8 TY b0 b1 b2 b3 r0 r1 r2
           go_wp2_with fail
           go_roundw
           case rel=>exact ⟨i+1,F2,Q2,gf2,gq2,by omega,by go_num,hF9,hQ9,hne2,LW9,IX2,hF2,hQ2,hM2,B9⟩
           case measure=>simp [intOf];omega
     · obtain rfl:i=nl:=by omega
       have IB:Hid (InvB T s0 F2 Q2):=hidd (by
        have h:=IX.out
        rw [← ENL.out,List.take_length] at h
        exact h.done fun y hy=>(LM.out y).2 hy)
       clear IX LW TC TT ALL
       obtain ⟨cF2,eF2,hgF,-⟩:=hF.out
       obtain ⟨oQ2,cQ2,eQ2,-⟩:=hQ.out
       subst eF2 eQ2
       go_wp2_with fail
       exact ⟨⟨F2,Q2,gf2,gq2,hF,hQ,hne2,IB,hF2,hQ2,hB⟩,by show 2*(m - F2.length)+Q2.length < 2*(m - nf)+(_+1);rw [EK.out] at hM2;omega⟩
end Go.Proofs.YtdklpgphmoaniaaGreatDoor
