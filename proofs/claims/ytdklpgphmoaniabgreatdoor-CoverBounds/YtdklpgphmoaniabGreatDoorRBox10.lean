/-
  What the document's own Box tells: the words of all cells that touch a box of the world, rising, or that there are too many; in whatever memory.
-/
import Derived.Test.YtdklpgphmoaniabGreatDoorJn17
namespace Go.Proofs.YtdklpgphmoaniabGreatDoor
open Go.RowKit
def RefSayN (C:Nat) (v:Int) (Q:Int × Int→Prop) (e:Ending) (w:World):Prop:=∃ (s:Value) (L:List Int),e=.returned (.tuple #[s,.int .i64 0])∧RowAt C w s L∧Rising L∧(∀ x,x∈L↔∃ p q,Q (p,q)∧Ok4 (wR v) (cellA v+p) (cellB v+q)∧x=wordOf (wR v).toNat (cellA v+p) (cellB v+q))∧L.length≤1000
def QAt (B g:Nat) (w:World) (v:Value) (Q:List Int):Prop :=
 ∃ o cap,v=.slice (some ⟨g,o,none⟩) Q.length cap∧Q.length≤cap∧B≤g∧g < w.heap.size∧(∀ (j:Nat) (hj:j < Q.length),w.cell? ⟨g,o+j,none⟩=some (.int .u64 Q[j]))∧∀ j,j < cap→(∃ u,w.cell? ⟨g,o+j,none⟩=some u)∧w.frozen? ⟨g,o+j,none⟩=false
theorem QAt.keep {B g:Nat} {w w':World} {v:Value} {Q:List Int} (h:QAt B g w v Q) (hb:Below w.heap.size w w'):QAt B g w' v Q:=by
 obtain ⟨o,cap,e,h1,h2,h3,h4,h5⟩:=h
 exact ⟨o,cap,e,h1,h2,Nat.lt_of_lt_of_le h3 hb.size,fun j hj=>keepCell hb (h4 j hj),fun j hj=>by
  obtain ⟨⟨u,hu⟩,hf⟩:=h5 j hj
  exact ⟨⟨u,keepCell hb hu⟩,keepFrozen hb hu hf⟩⟩
def FAt (g:Nat) (w:World) (v:Value) (F:List Int):Prop :=
 ∃ cap,v=.slice (some ⟨g,0,none⟩) F.length cap∧g < w.heap.size∧∀ (j:Nat) (hj:j < F.length),w.cell? ⟨g,j,none⟩=some (.int .u64 F[j])
theorem FAt.keep {g:Nat} {w w':World} {v:Value} {F:List Int} (h:FAt g w v F) (hb:Below w.heap.size w w'):FAt g w' v F:=by
 obtain ⟨cap,e,h1,h2⟩:=h
 exact ⟨cap,e,Nat.lt_of_lt_of_le h1 hb.size,fun j hj=>keepCell hb (h2 j hj)⟩
theorem FAt.row {g:Nat} {w:World} {v:Value} {F:List Int} (h:FAt g w v F):RowAt 0 w v F:=by
 obtain ⟨cap,e,h1,h2⟩:=h
 exact .inr ⟨g,cap,e,Nat.zero_le _,h2⟩
theorem FAt.put {g b o:Nat} {w:World} {v u:Value} {F:List Int} (h:FAt g w v F) (hne:g≠b):FAt g (w.setCell ⟨b,o,none⟩ u) v F:=by
 obtain ⟨cap,e,h1,h2⟩:=h
 exact ⟨cap,e,by simpa using h1,fun j hj=>(World.cell?_setCell_other _ _ _ _ (by intro e;injection e;omega)).trans (h2 j hj)⟩
theorem f_of_own {w:World} {base:Nat} {v:Value} {F:List Int} (h:w.ownsRow base 36 1 v F.length (vals F)) (hF:0 < F.length):∃ g,base≤g∧FAt g w v F:=by
 obtain ⟨g,cap,rfl⟩:=own_shape h hF
 have hc:=own_cells h
 exact ⟨g,hc.2.2.1,cap,rfl,hc.2.2.2,hc.2.1⟩
theorem q_of_own {w:World} {base:Nat} {v:Value} {Q:List Int} (h:w.ownsRow base 36 1 v Q.length (vals Q)) (hQ:0 < Q.length):∃ g,base≤g∧QAt base g w v Q:=by
 have hh:=h
 rcases hh.2 with ⟨-,h0⟩ | ⟨g,cap,cur,rfl,hb,hg,hn,hm,hs,-⟩
 · omega
 · have hc:=own_cells h
   refine ⟨g,hb,0,cap,rfl,hn,hb,hc.2.2.2,fun j hj=>by rw [Nat.zero_add];exact hc.2.1 j hj,fun j hj=>?_⟩
   rw [Nat.zero_add]
   refine ⟨?_,h.frozenAt j⟩
   have hlt:j < cur.size:=by omega
   exact ⟨cur[j],by unfold World.cell?;rw [hg];simp [hlt]⟩
theorem own_one (w:World) (x:Int):(w.alloc (.cells #[.int .u64 x] 36)).ownsRow w.heap.size 36 1 (.slice (some ⟨w.heap.size,0,none⟩) 1 1) [x].length (vals [x]) :=
 ⟨rfl,.inr ⟨w.heap.size,1,#[.int .u64 x],rfl,Nat.le_refl _,by show (w.heap.push _)[w.heap.size]?=_;simp,Nat.le_refl _,by unfold maxLen;omega,rfl,rfl⟩⟩
theorem QAt.pop {B g o cap n:Nat} {w:World} {x:Int} {Q:List Int} (h:QAt B g w (.slice (some ⟨g,o,none⟩) n cap) (x :: Q)):n=Q.length+1∧1≤cap∧w.cell? ⟨g,o,none⟩=some (.int .u64 x)∧QAt B g w (.slice (some (if cap=1 then ⟨g,o,none⟩ else ⟨g,o+1,none⟩)) Q.length (cap - 1)) Q:=by
 obtain ⟨o',cap',e,h1,h2,h3,h4,h5⟩:=h
 simp only [Value.slice.injEq,Option.some.injEq,Addr.mk.injEq,and_true,true_and,List.length_cons] at e
 obtain ⟨rfl,rfl,rfl⟩:=e
 rw [List.length_cons] at h1
 refine ⟨rfl,by omega,by have:=h4 0 (by simp);rwa [Nat.add_zero] at this,?_⟩
 by_cases c:cap=1
 · rw [if_pos c]
   exact ⟨o,cap - 1,rfl,by omega,h2,h3,fun j hj=>by omega,fun j hj=>by omega⟩
 · rw [if_neg c]
   refine ⟨o+1,cap - 1,rfl,by omega,h2,h3,fun j hj=>?_,fun j hj=>?_⟩
   · have:=h4 (j+1) (by simp;omega)
     rw [List.getElem_cons_succ] at this
     rw [show o+1+j=o+(j+1) by omega]
     exact this
   · have:=h5 (j+1) (by omega)
     rw [show o+1+j=o+(j+1) by omega]
     exact this
theorem QAt.put {B g o cap n:Nat} {w:World} {x:Int} {Q:List Int} (h:QAt B g w (.slice (some ⟨g,o,none⟩) n cap) Q) (hn:n+1≤cap):QAt B g (w.setCell ⟨g,o+n,none⟩ (.int .u64 x)) (.slice (some ⟨g,o,none⟩) (n+1) cap) (Q++[x]):=by
 obtain ⟨o',cap',e,h1,h2,h3,h4,h5⟩:=h
 simp only [Value.slice.injEq,Option.some.injEq,Addr.mk.injEq,and_true,true_and] at e
 obtain ⟨rfl,rfl,rfl⟩:=e
 refine ⟨o,cap,by rw [List.length_append];rfl,by rw [List.length_append];exact hn,h2,by simpa using h3,fun j hj=>?_,fun j hj=>?_⟩
 · by_cases c:j=Q.length
   · subst c
     obtain ⟨u,hu⟩:=(h5 Q.length (by omega)).1
     rw [store_new hu]
     simp
   · have hj':j < Q.length:=by simp at hj;omega
     rw [store_keep (h4 j hj') (by intro e;injection e;omega),List.getElem_append_left hj']
 · refine ⟨?_,by rw [World.frozen?_setCell];exact (h5 j hj).2⟩
   obtain ⟨u,hu⟩:=(h5 j hj).1
   by_cases c:j=Q.length
   · subst c;exact ⟨_,store_new hu⟩
   · exact ⟨u,store_keep hu (by intro e;injection e;omega)⟩
def LAt (p:Option Addr) (gq:Nat) (w:World) (L:List Int):Prop:=∀ (j:Nat) (hj:j < L.length),∃ g,p=some ⟨g,0,none⟩∧g≠gq∧g < w.heap.size∧w.cell? ⟨g,j,none⟩=some (.int .u64 L[j])
theorem LAt.keep {p:Option Addr} {gq:Nat} {w w':World} {L:List Int} (h:LAt p gq w L) (hb:Below w.heap.size w w'):LAt p gq w' L:=fun j hj=>by
 obtain ⟨g,h1,h2,h3,h4⟩:=h j hj
 exact ⟨g,h1,h2,Nat.lt_of_lt_of_le h3 hb.size,keepCell hb h4⟩
theorem LAt.put {p:Option Addr} {gq o:Nat} {w:World} {L:List Int} {u:Value} (h:LAt p gq w L):LAt p gq (w.setCell ⟨gq,o,none⟩ u) L:=fun j hj=>by
 obtain ⟨g,h1,h2,h3,h4⟩:=h j hj
 exact ⟨g,h1,h2,by simpa using h3,store_keep h4 (by intro e;injection e;omega)⟩
theorem LAt.new {p:Option Addr} {gq g':Nat} {w w':World} {L:List Int} (h:LAt p gq w L) (hb:Below w.heap.size w w') (hg:w.heap.size≤g'):LAt p g' w' L:=fun j hj=>by
 obtain ⟨g,h1,h2,h3,h4⟩:=h j hj
 exact ⟨g,h1,by omega,Nat.lt_of_lt_of_le h3 hb.size,keepCell hb h4⟩
theorem FAt.lies {g n cap:Nat} {w:World} {F:List Int} (h:FAt g w (.slice (some ⟨g,0,none⟩) n cap) F):∀ j u,(vals F)[j]?=some u→w.cell? ((⟨g,0,none⟩:Addr).add j)=some u:=by
 obtain ⟨cap',-,-,hc⟩:=h
 intro j u hj
 have hl:j < F.length:=by rw [List.getElem?_eq_some_iff] at hj;have:=hj.1;rwa [vals_len] at this
 rw [vals_at F j hl] at hj
 injection hj with hj
 subst hj
 rw [Addr.add_lit,Nat.zero_add]
 exact hc j hl
theorem QAt.lies {B g o n cap:Nat} {w:World} {Q:List Int} (h:QAt B g w (.slice (some ⟨g,o,none⟩) n cap) Q):(∀ j u,(vals Q)[j]?=some u→w.cell? ⟨g,o+j,none⟩=some u)∧∀ j,j < cap→(w.cell? ⟨g,o+j,none⟩).isSome=true∧w.frozen? ⟨g,o+j,none⟩=false:=by
 obtain ⟨o',cap',e,h1,h2,h3,h4,h5⟩:=h
 simp only [Value.slice.injEq,Option.some.injEq,Addr.mk.injEq,and_true,true_and] at e
 obtain ⟨rfl,rfl,rfl⟩:=e
 refine ⟨fun j u hj=>?_,fun j hj=>?_⟩
 · have hl:j < Q.length:=by rw [List.getElem?_eq_some_iff] at hj;have:=hj.1;rwa [vals_len] at this
   rw [vals_at Q j hl] at hj
   injection hj with hj
   subst hj
   exact h4 j hl
 · obtain ⟨⟨u,hu⟩,hf⟩:=h5 j hj
   exact ⟨by rw [hu];rfl,hf⟩
theorem QAt.base {B B' g:Nat} {w:World} {v:Value} {Q:List Int} (h:QAt B g w v Q) (hb:B'≤B):QAt B' g w v Q:=by
 obtain ⟨o,cap,e,h1,h2,h3⟩:=h
 exact ⟨o,cap,e,h1,Nat.le_trans hb h2,h3⟩
def NB (x y:Int):Prop:=∃ p q,stp p q=1∧Ok4 (wR x) (cellA x+p) (cellB x+q)∧y=wordOf (wR x).toNat (cellA x+p) (cellB x+q)
def InvB (T:Int→Prop) (s0:Int) (F Q:List Int):Prop:=(Rising F∧(∀ x∈F,T x)∧s0∈F)∧(∀ x∈Q,x∈F)∧∀ x∈F,x∈Q∨∀ y,NB x y→T y→y∈F
def InvX (T:Int→Prop) (s0 x:Int) (N F Q:List Int):Prop:=(Rising F∧(∀ z∈F,T z)∧s0∈F)∧(∀ z∈Q,z∈F)∧(∀ z∈F,z=x∨z∈Q∨∀ y,NB z y→T y→y∈F)∧∀ y∈N,T y→y∈F
theorem InvB.look {T:Int→Prop} {s0 x:Int} {F Q:List Int} (h:InvB T s0 F (x :: Q)):InvX T s0 x [] F Q :=
 ⟨h.1,fun z hz=>h.2.1 z (List.mem_cons_of_mem _ hz),fun z hz=>by
   rcases h.2.2 z hz with k | k
   · rcases List.mem_cons.1 k with k | k
     · exact .inl k
     · exact .inr (.inl k)
   · exact .inr (.inr k),fun y hy=>by cases hy⟩
theorem InvX.done {T:Int→Prop} {s0 x:Int} {N F Q:List Int} (h:InvX T s0 x N F Q) (hN:∀ y,NB x y→y∈N):InvB T s0 F Q :=
 ⟨h.1,h.2.1,fun z hz=>by
   rcases h.2.2.1 z hz with k | k | k
   · subst k;exact .inr fun y hy ht=>h.2.2.2 y (hN y hy) ht
   · exact .inl k
   · exact .inr k⟩
theorem InvX.pass {T:Int→Prop} {s0 x y:Int} {N F Q:List Int} (h:InvX T s0 x N F Q) (hy:T y→y∈F):InvX T s0 x (N++[y]) F Q :=
 ⟨h.1,h.2.1,h.2.2.1,fun z hz ht=>by
   rcases List.mem_append.1 hz with k | k
   · exact h.2.2.2 z k ht
   · rw [List.mem_singleton.1 k] at ht ⊢;exact hy ht⟩
theorem InvX.more {T:Int→Prop} {s0 x y:Int} {N F F' Q:List Int} (h:InvX T s0 x N F Q) (ht:T y) (hR:Rising F') (hF:∀ z,z∈F'↔z∈y :: F):InvX T s0 x (N++[y]) F' (Q++[y]):=by
 have up:∀ z,z∈F→z∈F':=fun z hz=>(hF z).2 (List.mem_cons_of_mem _ hz)
 refine ⟨⟨hR,fun z hz=>?_,up _ h.1.2.2⟩,fun z hz=>?_,fun z hz=>?_,fun z hz hT=>?_⟩
 · rcases List.mem_cons.1 ((hF z).1 hz) with k | k
   · rw [k];exact ht
   · exact h.1.2.1 z k
 · rcases List.mem_append.1 hz with k | k
   · exact up z (h.2.1 z k)
   · rw [List.mem_singleton.1 k];exact (hF y).2 (List.mem_cons_self ..)
 · rcases List.mem_cons.1 ((hF z).1 hz) with k | k
   · exact .inr (.inl (List.mem_append.2 (.inr (List.mem_singleton.2 k))))
   · rcases h.2.2.1 z k with k | k | k
     · exact .inl k
     · exact .inr (.inl (List.mem_append.2 (.inl k)))
     · exact .inr (.inr fun y hy hT=>up y (k y hy hT))
 · rcases List.mem_append.1 hz with k | k
   · exact up z (h.2.2.2 z k hT)
   · rw [List.mem_singleton.1 k];exact (hF y).2 (List.mem_cons_self ..)
theorem more_len {F F':List Int} {y:Int} (hF:Rising F) (hF':Rising F') (hy:y ∉ F) (h:∀ z,z∈F'↔z∈y :: F):F'.length=F.length+1:=by
 have n1:=rising_nodup hF'
 have n2:(y :: F).Nodup:=List.nodup_cons.2 ⟨hy,rising_nodup hF⟩
 have a1:=nodup_len n1 fun z hz=>(h z).1 hz
 have a2:=nodup_len n2 fun z hz=>(h z).2 hz
 rw [List.length_cons] at a1 a2
 omega
def lenV:Value→Nat
 | .slice _ n _=>n
 | _=>0
def TellsBox (K r m:Nat) (l1 l2 u1 u2:Int) (e:Ending) (w':World):Prop :=
 (∃ s L,e=.returned (.tuple #[s,.bool true])∧RowAt 0 w' s L∧Rising L∧(∀ x,x∈L↔TW K l1 l2 u1 u2 x r)∧L.length≤m) ∨
 (e=.returned (.tuple #[.slice none 0 0,.bool false])∧∃ L,Rising L∧(∀ x∈L,TW K l1 l2 u1 u2 x r)∧m < L.length)
end Go.Proofs.YtdklpgphmoaniabGreatDoor
