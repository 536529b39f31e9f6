/-
  What the texts SortKit, RSeek say, so far as this seat's proofs need it.
-/
import Derived.Test.YtlfjfendlohekaaGreatDoorSPdq
import Derived.Laws.CopyOwn
namespace Go.Proofs.YtlfjfendlohekaaGreatDoor
open Go.RowKit
theorem sorts_list {n:Nat} {L:List Int} {d':Array Int} (hL:L.length=n) (h:Sorts 0 n L.toArray d'):d'.toList.Perm L∧d'.toList.Pairwise (·≤·)∧d'.size=n:=by
 have hs:d'.size=n:=by rw [h.1.1];simpa using hL
 have hp:=h.1.2.2
 have e1:(d'.extract 0 n).toList=d'.toList:=by simp [← hs]
 have e2:(L.toArray.extract 0 n).toList=L:=by simp [← hL]
 rw [e1,e2] at hp
 refine ⟨hp,List.pairwise_iff_getElem.2 fun i j hi hj hij=>?_,hs⟩
 have:=sorted_le h.2 (i:=i) (j:=j) (Nat.zero_le _) hij (by simpa [hs] using hj)
 simpa [show i < d'.size by simpa using hi,show j < d'.size by simpa using hj] using this
theorem take_next {X:List Int} {k:Nat} (h:k < X.length):X.take (k+1)=X.take k++[X[k]]:=List.take_succ_eq_append_getElem h
theorem ins_facts {L:List Int} {x:Int} {lo:Nat} (hR:Rising L) (hlo:lo≤L.length) (h1:∀ (t:Nat) (ht:t < L.length),t < lo→L[t] < x) (h2:∀ (t:Nat) (ht:t < L.length),lo≤t→x < L[t]) :
 Rising (L.take lo++(x :: L.drop lo))∧∀ y,y∈L.take lo++(x :: L.drop lo)↔y∈L∨y=x:=by
 have hT:∀ y∈L.take lo,y < x:=fun y hy=>by
  obtain ⟨t,ht,rfl⟩:=List.mem_iff_getElem.1 hy
  rw [List.length_take] at ht
  rw [List.getElem_take]
  exact h1 t (by omega) (by omega)
 have hD:∀ y∈L.drop lo,x < y:=fun y hy=>by
  obtain ⟨t,ht,rfl⟩:=List.mem_iff_getElem.1 hy
  rw [List.length_drop] at ht
  rw [List.getElem_drop]
  exact h2 (lo+t) (by omega) (by omega)
 refine ⟨List.pairwise_append.2 ⟨hR.sublist (List.take_sublist _ _),List.pairwise_cons.2 ⟨hD,hR.sublist (List.drop_sublist _ _)⟩,fun a ha b hb=>?_⟩,fun y=>?_⟩
 · rcases List.mem_cons.1 hb with rfl | hb
   · exact hT a ha
   · have:=hT a ha;have:=hD b hb;omega
 · rw [List.mem_append,List.mem_cons]
   have e:y∈L↔y∈L.take lo∨y∈L.drop lo:=by rw [← List.mem_append,List.take_append_drop]
   rw [e]
   constructor
   · rintro (h | h | h)
     · exact .inl (.inl h)
     · exact .inr h
     · exact .inl (.inr h)
   · rintro ((h | h) | h)
     · exact .inl h
     · exact .inr (.inr h)
     · exact .inr (.inl h)
theorem rise_at {L:List Int} (h:Rising L) {i j:Nat} (hi:i < L.length) (hj:j < L.length) (hij:i < j):L[i] < L[j]:=List.pairwise_iff_getElem.1 h i j hi hj hij
theorem rise_le {L:List Int} (h:Rising L) {i j:Nat} (hi:i < L.length) (hj:j < L.length) (hij:i≤j):L[i]≤L[j]:=by
 rcases Nat.lt_or_ge i j with k | k
 · have:=rise_at h hi hj k;omega
 · obtain rfl:i=j:=by omega
   exact Int.le_refl _
def Seek (L:List Int) (x:Int) (lo hi:Nat):Prop:=(∀ (t:Nat) (ht:t < L.length),t < lo→L[t] < x)∧∀ (t:Nat) (ht:t < L.length),hi≤t→x≤L[t]
theorem Seek.up {L:List Int} {x:Int} {lo hi mid:Nat} (h:Seek L x lo hi) (hR:Rising L) (hm:mid < L.length) (hx:L[mid] < x):Seek L x (mid+1) hi :=
 ⟨fun t ht hl=>by have:=rise_le hR ht hm (by omega);omega,h.2⟩
theorem Seek.down {L:List Int} {x:Int} {lo hi mid:Nat} (h:Seek L x lo hi) (hR:Rising L) (hm:mid < L.length) (hx:x≤L[mid]):Seek L x lo mid :=
 ⟨h.1,fun t ht hl=>by have:=rise_le hR hm ht hl;omega⟩
end Go.Proofs.YtlfjfendlohekaaGreatDoor
