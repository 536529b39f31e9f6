/-
  What the document's own beside and around tell: the words of a cell's places, rising; the places of so many steps, for small radii; in whatever memory.
-/
import Derived.Test.YtdklpgphmoaniabGreatDoorR2X
import Derived.Test.YtdklpgphmoaniabGreatDoorRSet
namespace Go.Proofs.YtdklpgphmoaniabGreatDoor
open Go.RowKit
theorem infoE:(Tryz.prog.info? 40).map (fun i=>(i.zero,i.size,i.bytes))=some (some (.agg #[.int .i64 0,.int .i64 0]),2,16):=by kernel_rfl
theorem stp_ref (a b:Int):max (max (a.natAbs:Int) b.natAbs) (a+b).natAbs=stp a b:=by
 unfold stp
 rw [show max 0 (a.natAbs:Int)=(a.natAbs:Int) by omega]
def pvals (P:List (Int × Int)):List Value:=P.flatMap fun p=>[.int .i64 p.1,.int .i64 p.2]
theorem pvals_step (P:List (Int × Int)) (p q:Int):pvals (P++[(p,q)])=pvals P++[.int .i64 p,.int .i64 q]:=by unfold pvals;rw [List.flatMap_append];rfl
theorem pvals_at:∀ (P:List (Int × Int)) (j:Nat) (h:j < P.length),(pvals P)[j*2]?=some (.int .i64 P[j].1)∧(pvals P)[j*2+1]?=some (.int .i64 P[j].2)
 | p :: P,0,_=>⟨rfl,rfl⟩
 | p :: P,j+1,h=>by
  have:=pvals_at P j (by simpa using h)
  have e:pvals (p :: P)=.int .i64 p.1 :: .int .i64 p.2 :: pvals P:=rfl
  rw [e,show (j+1)*2=j*2+1+1 by omega,show j*2+1+1+1=(j*2+1)+1+1 by omega]
  simpa using this
theorem pair_lies (w:World) (B:Nat) (h:w.heap.size=B) (x y:Value) (e:TypeId):∀ j u,([x,y]:List Value)[j]?=some u→(w.alloc (.cells #[x,y] e)).cell? ((⟨B,0,none⟩:Addr).add j)=some u:=by
 subst h
 intro j u hj
 match j,hj with
 | 0,hj=>simp at hj;subst hj;simp [Addr.add]
 | 1,hj=>simp at hj;subst hj;simp [Addr.add]
theorem pair_int (x y:Int):∀ u∈([.int .i64 x,.int .i64 y]:List Value),u.oneCell'=true:=by
 intro u hu
 simp at hu
 rcases hu with rfl | rfl <;>rfl
theorem own_row {w:World} {base:Nat} {v:Value} {L:List Int} (h:w.ownsRow base 36 1 v L.length (vals L)):RowAt base w v L:=by
 rcases h.2 with ⟨hv,h0⟩ | ⟨g,cap,cur,hv,_⟩
 · exact Or.inl ⟨List.length_eq_zero_iff.1 h0,hv⟩
 · subst hv
   have hc:=own_cells h
   exact Or.inr ⟨g,cap,rfl,hc.2.2.1,hc.2.1⟩
def PRow (w:World) (v:Value) (P:List (Int × Int)):Prop:=∃ p cap,v=.slice p P.length cap∧∀ (j:Nat) (hj:j < P.length),∃ g,p=some ⟨g,0,none⟩∧w.cell? ⟨g,j*2,none⟩=some (.int .i64 P[j].1)∧w.cell? ⟨g,j*2+1,none⟩=some (.int .i64 P[j].2)
theorem own_prow {w:World} {base:Nat} {v:Value} {P:List (Int × Int)} (h:w.ownsRow base 40 2 v P.length (pvals P)):PRow w v P:=by
 rcases h.2 with ⟨hv,h0⟩ | ⟨g,cap,cur,hv,_⟩
 · exact ⟨none,0,by rw [h0];exact hv,fun j hj=>by omega⟩
 · subst hv
   refine ⟨_,cap,rfl,fun j hj=>⟨g,rfl,?_,?_⟩⟩
   · rw [h.cellAt (j*2) (by omega),(pvals_at P j hj).1]
   · rw [h.cellAt (j*2+1) (by omega),(pvals_at P j hj).2]
theorem PRow.keep {w w':World} {v:Value} {P:List (Int × Int)} (h:PRow w v P) (hb:Below w.heap.size w w'):PRow w' v P:=by
 obtain ⟨p,cap,h1,h2⟩:=h
 exact ⟨p,cap,h1,fun j hj=>by obtain ⟨g,e,x,y⟩:=h2 j hj;exact ⟨g,e,keepCell hb x,keepCell hb y⟩⟩
set_option maxHeartbeats 1000000 in
theorem rset_nil (w:World):Calls Tryz.prog 10 #[.slice none 0 0] w fun e w'=>e=.returned (.slice none 0 0)∧Below w.heap.size w w':=by
 go_enter Tryz.func10,Tryz.ntmps10
 go_wp2_with fail
 go_loopw [3,4] (fun v3 v4 wr=>v3=.slice none 0 0∧v4=.int .i64 0∧wr=w) (fun _ _ _=>0)
 case atStart=>exact ⟨rfl,rfl,rfl⟩
 case round =>
  obtain ⟨rfl,rfl,rfl⟩:=hrel
  go_wp2
  go_ret
  exact ⟨rfl,Below.refl _ _⟩
theorem rset_own (X:List Int) (hn:X.length≤40000) (hU:∀ x∈X,U64 x) (base:Nat) (v:Value) (w:World) (h:w.ownsRow base 36 1 v X.length (vals X)) :
 Calls Tryz.prog 10 #[v] w fun e w'=>(∃ (s:Value) (L:List Int),e=.returned s∧Rising L∧(∀ x,x∈L↔x∈X)∧L.length≤X.length∧w'.ownsRow w.heap.size 36 1 s L.length (vals L))∧Below w.heap.size w w':=by
 rcases h.2 with ⟨hv,h0⟩ | ⟨g,cap,cur,hv,_⟩
 · have hX:X=[]:=List.length_eq_zero_iff.1 h0
   subst hv hX
   refine (rset_nil w).mono ?_
   rintro e w' ⟨rfl,hb⟩
   exact ⟨⟨_,[],rfl,List.Pairwise.nil,fun x=>Iff.rfl,Nat.le_refl _,World.ownsRow_nil _ _ _ _⟩,hb⟩
 · subst hv
   have hc:=own_cells h
   exact rset_all X X.length rfl hn hU g cap w hc.2.1
set_option maxHeartbeats 1000000 in
theorem rword_none (r a b:Int) (h:¬ Ok4 r a b) (w:World) :
 Calls Tryz.prog 12 #[.agg #[.int .i64 r,.int .i64 a,.int .i64 b]] w fun e w'=>e=.returned (.tuple #[.int .u64 0,.int .i64 2])∧Below w.heap.size w w':=by
 have OK:Hid (∀ w,Calls Tryz.prog 18 #[.agg #[.int .i64 r,.int .i64 a,.int .i64 b]] w fun e w'=>e=.returned (.bool false)∧Below w.heap.size w w'):=fun w=>by rw [← ok4_no h];exact rok_any r a b w
 clear h
 go_enter Tryz.func12,Tryz.ntmps12
 go_wp2_with fail
 refine (OK.out _).mono ?_
 rintro e w1 ⟨rfl,d1⟩
 have c1:Below w.heap.size w w1:=Below.trans (by go_grown) (d1.mono (by simp;try omega))
 have hB:=c1
 clear c1 d1
 go_wp2
 go_ret2
 exact ⟨rfl,hB⟩
theorem keepFive {w0 a b:World} {p0 p1 p2 p3 p4:Addr} {v0 v1 v2 v3 v4:Value} (hb:Below a.heap.size a b) (h:a.cell? p0=some v0∧a.cell? p1=some v1∧a.cell? p2=some v2∧a.cell? p3=some v3∧a.cell? p4=some v4∧Below w0.heap.size w0 a) :
 b.cell? p0=some v0∧b.cell? p1=some v1∧b.cell? p2=some v2∧b.cell? p3=some v3∧b.cell? p4=some v4∧Below w0.heap.size w0 b :=
 ⟨keepCell hb h.1,keepCell hb h.2.1,keepCell hb h.2.2.1,keepCell hb h.2.2.2.1,keepCell hb h.2.2.2.2.1,belowT h.2.2.2.2.2 hb⟩
theorem around_low {x y hi:Int} (h1:x < -hi) (h2:stp x y≤hi):False:=by have:=stp_ge x y;omega
end Go.Proofs.YtdklpgphmoaniabGreatDoor
