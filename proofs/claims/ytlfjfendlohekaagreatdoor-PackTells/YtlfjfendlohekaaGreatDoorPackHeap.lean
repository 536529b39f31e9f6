/-
  Plain facts on a heap of numbers with the greatest first, as the library keeps one in a row: laid, taken off, put in.
-/
import Derived.Test.YtlfjfendlohekaaGreatDoorProg
import Derived.Handy
import Derived.Deep.QuietTactic
import Derived.Sort.LotA
import Derived.Sort.LotB
namespace Go.Proofs.YtlfjfendlohekaaGreatDoor
open Go.RowKit
def Hp (n:Nat) (d:Array Int):Prop:=∀ i,i < n→Sort.Ok Sort.ltInt 0 n d i
theorem hp_build (d:Array Int) {n k:Nat} (hn:d.size=n) (hk:n≤2*k+1):Hp n (Sort.heapBuild Sort.ltInt n 0 k d)∧Sort.PermIn 0 n d (Sort.heapBuild Sort.ltInt n 0 k d):=by
 have h:=Sort.build Sort.swo_ltInt n 0 k d (by omega) (fun i h1 _ c hc hch=>by omega)
 rw [Nat.zero_add] at h
 exact h
theorem perm_size {a b:Nat} {d d':Array Int} (h:Sort.PermIn a b d d'):d'.size=d.size:=h.1
theorem perm_list {n:Nat} {d d':Array Int} (hn:d.size=n) (h:Sort.PermIn 0 n d d'):d'.toList.Perm d.toList:=by
 have hp:=h.2.2
 have hs:=h.1
 have e1:(d'.extract 0 n).toList=d'.toList:=by simp [← hn,← hs]
 have e2:(d.extract 0 n).toList=d.toList:=by simp [← hn]
 rwa [e1,e2] at hp
theorem hp_max {n:Nat} {d:Array Int} (h:Hp n d) (hn:d.size=n):∀ x∈d.toList,x≤d[0]! :=by
 intro x hx
 obtain ⟨i,hi,rfl⟩:=List.mem_iff_getElem.1 hx
 have hi':i < n:=by rw [← hn];simpa using hi
 have:=Sort.root_max Sort.swo_ltInt h i i (Nat.le_refl _) hi'
 simp only [Nat.zero_add,Sort.ltInt,decide_eq_false_iff_not] at this
 have e:d[i]! =d[i]'(by omega):=getElem!_pos d i (by omega)
 rw [e] at this
 simpa using this
def popD (n:Nat) (d:Array Int):Array Int:=Sort.siftDown Sort.ltInt n 0 0 (Sort.swp d 0 n)
theorem hp_pop {n:Nat} {d:Array Int} (h:Hp (n+1) d) (hn:d.size=n+1) :
 (popD n d).size=n+1∧(popD n d)[n]! =d[0]!∧Hp n ((popD n d).toList.take n).toArray∧d.toList.Perm (d[0]! :: (popD n d).toList.take n)∧((popD n d).toList.take n).length=n:=by
 have hs:=Sort.swo_ltInt
 have g1n:(Sort.swp d 0 n)[n]! =d[0]! :=Sort.swp_right d _ _ (by omega)
 have g1o:∀ j,j≠0→j≠n→(Sort.swp d 0 n)[j]! =d[j]! :=fun j h1 h2=>Sort.swp_other d _ _ _ h1 h2
 obtain ⟨R1,R2⟩:=Sort.sift hs n 0 0 n 0 (Sort.swp d 0 n) (by omega) (by rw [Sort.size_swp];omega) (Nat.le_refl _)
  (fun i _ h2 h3 kk hkk hkkh=>by rw [Nat.zero_add,Nat.zero_add,g1o i h3 (by omega),g1o kk (by omega) (by omega)];have:=h i (by omega) kk hkk (by omega);simpa using this)
  (fun p _ hp=>by omega)
 rw [Nat.zero_add] at R2
 have hsz:(popD n d).size=n+1:=by rw [show (popD n d).size=_ from R2.1,Sort.size_swp,hn]
 have hlast:(popD n d)[n]! =d[0]! :=by rw [show (popD n d)[n]! =(Sort.swp d 0 n)[n]! from R2.2.1 n (Or.inr (Nat.le_refl _)),g1n]
 have hlen:((popD n d).toList.take n).length=n:=by rw [List.length_take];simp [hsz]
 refine ⟨hsz,hlast,fun i hi k hk hkn=>?_,?_,hlen⟩
 · have e:∀ j,j < n→((popD n d).toList.take n).toArray[j]! =(popD n d)[j]! :=fun j hj=>by
    rw [getElem!_pos _ j (by simpa [hsz] using by omega),getElem!_pos (popD n d) j (by omega)]
    simp
   have:=R1 i (Nat.zero_le _) hi k hk hkn
   rw [Nat.zero_add,Nat.zero_add] at this ⊢
   rw [e i hi,e k hkn]
   exact this
 · have hp:(popD n d).toList.Perm d.toList:=by
    have p1:Sort.PermIn 0 (n+1) d (Sort.swp d 0 n):=Sort.swp_permIn d 0 (n+1) 0 n (Nat.le_refl _) (by omega) (by omega) (by omega) (by omega)
    have p2:Sort.PermIn 0 (n+1) (Sort.swp d 0 n) (popD n d):=Sort.permIn_mono _ _ 0 n 0 (n+1) (Nat.le_refl _) (by omega) (by rw [Sort.size_swp];omega) R2
    exact perm_list hn (Sort.permIn_trans _ _ _ _ _ p1 p2)
   have e:(popD n d).toList=(popD n d).toList.take n++[d[0]!]:=by
    have h1:n < (popD n d).toList.length:=by simp [hsz]
    have h2:=List.take_append_drop n (popD n d).toList
    rw [List.drop_eq_getElem_cons h1,List.drop_eq_nil_of_le (by simp [hsz])] at h2
    rw [← hlast,getElem!_pos (popD n d) n (by omega)]
    simpa using h2.symm
   refine hp.symm.trans ?_
   rw [e,List.take_left' (by simp [hsz])]
   exact List.perm_append_singleton _ _
def siftUp (j:Nat) (d:Array Int):Array Int :=
 if _h:j=0 then d else if Sort.ltInt d[(j - 1) / 2]! d[j]! =true then siftUp ((j - 1) / 2) (Sort.swp d ((j - 1) / 2) j) else d
termination_by j
decreasing_by omega
theorem siftUp_zero (d:Array Int):siftUp 0 d=d:=by rw [siftUp,dif_pos rfl]
theorem siftUp_stop {j:Nat} {d:Array Int} (h:Sort.ltInt d[(j - 1) / 2]! d[j]! =false):siftUp j d=d:=by
 rw [siftUp]
 split
 · rfl
 · rw [if_neg (by rw [h];exact Bool.false_ne_true)]
theorem siftUp_go {j:Nat} {d:Array Int} (hj:0 < j) (h:Sort.ltInt d[(j - 1) / 2]! d[j]! =true):siftUp j d=siftUp ((j - 1) / 2) (Sort.swp d ((j - 1) / 2) j):=by
 rw [siftUp,dif_neg (by omega),if_pos h]
theorem siftUp_hp (n:Nat):∀ (m j:Nat) (d:Array Int),j≤m→d.size=n→j < n→(∀ p k,(k=2*p+1∨k=2*p+2)→k < n→k≠j→d[k]!≤d[p]!) →
 (0 < j→∀ c,(c=2*j+1∨c=2*j+2)→c < n→d[c]!≤d[(j - 1) / 2]!)→Hp n (siftUp j d)∧Sort.PermIn 0 n d (siftUp j d):=by
 intro m
 induction m with
 | zero =>
  intro j d hj hn hjn h1 h2
  obtain rfl:j=0:=by omega
  rw [siftUp_zero]
  refine ⟨fun i hi k hk hkn=>?_,Sort.permIn_refl d _ _⟩
  have:=h1 i k hk hkn (by omega)
  rw [Nat.zero_add,Nat.zero_add]
  simp only [Sort.ltInt,decide_eq_false_iff_not]
  omega
 | succ m ih =>
  intro j d hj hn hjn h1 h2
  by_cases h0:j=0
  · exact ih j d (by omega) hn hjn h1 h2
  · cases hlt:Sort.ltInt d[(j - 1) / 2]! d[j]! with
    | false =>
     rw [siftUp_stop hlt]
     refine ⟨fun i hi k hk hkn=>?_,Sort.permIn_refl d _ _⟩
     rw [Nat.zero_add,Nat.zero_add]
     by_cases hkj:k=j
     · subst hkj
       rw [show i=(k - 1) / 2 by omega]
       exact hlt
     · have:=h1 i k hk hkn hkj
       simp only [Sort.ltInt,decide_eq_false_iff_not]
       omega
    | true =>
     rw [siftUp_go (by omega) hlt]
     simp only [Sort.ltInt,decide_eq_true_eq] at hlt
     obtain ⟨i,hi⟩:∃ i,(j - 1) / 2=i:=⟨_,rfl⟩
     rw [hi] at hlt ⊢
     have hij:i≠j:=by omega
     have gi:(Sort.swp d i j)[i]! =d[j]! :=Sort.swp_left d i j (by omega) hij
     have gj:(Sort.swp d i j)[j]! =d[i]! :=Sort.swp_right d i j (by omega)
     have go:∀ k,k≠i→k≠j→(Sort.swp d i j)[k]! =d[k]! :=fun k a b=>Sort.swp_other d i j k a b
     have hpi:∀ c,(c=2*i+1∨c=2*i+2)→c < n→c≠j→d[c]!≤d[i]! :=fun c hc hcn hcj=>h1 i c hc hcn hcj
     have hgr:∀ c,(c=2*j+1∨c=2*j+2)→c < n→d[c]!≤d[i]! :=fun c hc hcn=>by have:=h2 (by omega) c hc hcn;rwa [hi] at this
     have hres:=ih i (Sort.swp d i j) (by omega) (by rw [Sort.size_swp];exact hn) (by omega) (fun p k hk hkn hki=>?_) (fun h0i c hc hcn=>?_)
     · exact ⟨hres.1,Sort.permIn_trans _ _ _ _ _ (Sort.swp_permIn d 0 n i j (Nat.zero_le _) (by omega) (Nat.zero_le _) hjn (by omega)) hres.2⟩
     · by_cases hkj:k=j
       · obtain rfl:p=i:=by omega
         rw [hkj,gj,gi];omega
       · rw [go k hki hkj]
         by_cases hpi2:p=i
         · rw [hpi2,gi]
           have:=hpi k (by rw [← hpi2];exact hk) hkn hkj
           omega
         · by_cases hpj:p=j
           · rw [hpj,gj];exact hgr k (by rw [← hpj];exact hk) hkn
           · rw [go p hpi2 hpj];exact h1 p k hk hkn hkj
     · have hup:d[i]!≤d[(i - 1) / 2]! :=h1 ((i - 1) / 2) i (by omega) (by omega) hij
       rw [go ((i - 1) / 2) (by omega) (by omega)]
       by_cases hcj:c=j
       · rw [hcj,gj];exact hup
       · rw [go c (by omega) hcj]
         have:=hpi c hc hcn hcj
         omega
theorem hp_push {n:Nat} {d:Array Int} (h:Hp n d) (hn:d.size=n) (x:Int):Hp (n+1) (siftUp n (d.push x))∧(siftUp n (d.push x)).toList.Perm (x :: d.toList)∧(siftUp n (d.push x)).size=n+1:=by
 have hs:(d.push x).size=n+1:=by simp [hn]
 have e:∀ k,k < n→(d.push x)[k]! =d[k]! :=fun k hk=>by
  rw [getElem!_pos _ k (by omega),getElem!_pos d k (by omega),Array.getElem_push_lt]
 have hr:=siftUp_hp (n+1) n n (d.push x) (Nat.le_refl _) hs (by omega) (fun p k hk hkn hki=>by
  rw [e k (by omega),e p (by omega)]
  have:=h p (by omega) k hk (by omega)
  rw [Nat.zero_add,Nat.zero_add] at this
  simp only [Sort.ltInt,decide_eq_false_iff_not] at this
  omega) (fun _ c hc hcn=>by omega)
 refine ⟨hr.1,?_,by rw [perm_size hr.2,hs]⟩
 have:=perm_list hs hr.2
 rw [Array.toList_push] at this
 exact this.trans (List.perm_append_singleton _ _)
end Go.Proofs.YtlfjfendlohekaaGreatDoor
