/-
  What package cover tells of a box and a size that may not be; in whatever memory.
-/
import Derived.Test.YtdklpgphmoaniaaGreatDoorJn22
namespace Go.Proofs.YtdklpgphmoaniaaGreatDoor
open Go.RowKit
def Box4 (B:Nat) (l1 l2 u1 u2:Int) (W:World):Prop:=W.cell? ⟨B,0,none⟩=some (.int .i64 l1)∧W.cell? ⟨B,1,none⟩=some (.int .i64 l2)∧W.cell? ⟨B,2,none⟩=some (.int .i64 u1)∧W.cell? ⟨B,3,none⟩=some (.int .i64 u2)
theorem Box4.keep {B:Nat} {l1 l2 u1 u2:Int} {W W':World} (h:Box4 B l1 l2 u1 u2 W) (hb:Below W.heap.size W W'):Box4 B l1 l2 u1 u2 W':=⟨keepCell hb h.1,keepCell hb h.2.1,keepCell hb h.2.2.1,keepCell hb h.2.2.2⟩
theorem box4_made (w:World) (e:TypeId) (l1 l2 u1 u2:Int):Box4 w.heap.size l1 l2 u1 u2 (w.alloc (.cells #[.int .i64 l1,.int .i64 l2,.int .i64 u1,.int .i64 u2] e)):=⟨by go_simp,by go_simp,by go_simp,by go_simp⟩
set_option maxHeartbeats 8000000 in
set_option maxRecDepth 100000 in
theorem q_fault_core (l1 l2 u1 u2 r t:Int) (p q:Bool) (tb:Bool)
 (h:(r < 0∧t=1)∨(decide (r < 0)=false∧12 < r∧t=1)∨(decide (r < 0)=false∧decide (12 < r)=false∧((p=false∧t=4)∨(p=true∧q=false∧t=4)∨(p=true∧q=true∧tb=true∧t=1)∨(p=true∧q=true∧tb=false∧t=0))))
 (W1:∀ w,Calls Tryz.prog 56 #[.int .i64 l1,.int .i64 l2] w fun e w'=>e=.returned (.bool p)∧Below w.heap.size w w')
 (W2:∀ w,Calls Tryz.prog 56 #[.int .i64 u1,.int .i64 u2] w fun e w'=>e=.returned (.bool q)∧Below w.heap.size w w')
 (TU:∀ w,Calls Tryz.prog 44 #[.agg #[.int .i64 l1,.int .i64 l2,.int .i64 u1,.int .i64 u2]] w fun e w'=>e=.returned (.bool tb)∧Below w.heap.size w w') (w:World) :
 Calls Tryz.prog 66 #[.agg #[.int .i64 l1,.int .i64 l2,.int .i64 u1,.int .i64 u2],.int .i64 r] w fun e w'=>e=.returned (.int .i64 t)∧Below w.heap.size w w':=by
 replace W1:Hid _:=W1
 replace W2:Hid _:=W2
 replace TU:Hid _:=TU
 have S0:=hidd (box4_made w 80 l1 l2 u1 u2)
 have B0:=hidd (allocB w (.cells #[.int .i64 l1,.int .i64 l2,.int .i64 u1,.int .i64 u2] 80))
 obtain ⟨y0,y1,y2,y3⟩:=S0.out
 rcases h with ⟨h1,rfl⟩ | ⟨h1,h2,rfl⟩ | ⟨h1,h2,h3⟩
 ·
  go_enter Tryz.func66,Tryz.ntmps66
  go_wp2_with fail
  go_ret
  exact ⟨rfl,B0.out⟩
 ·
  go_enter Tryz.func66,Tryz.ntmps66
  go_wp2_with fail
  go_ret
  exact ⟨rfl,B0.out⟩
 ·
  go_enter Tryz.func66,Tryz.ntmps66
  go_wp2_with fail
  generalize w.alloc (.cells #[.int .i64 l1,.int .i64 l2,.int .i64 u1,.int .i64 u2] 80)=w0 at *
  refine (W1.out _).mono ?_
  rintro e w1 ⟨rfl,b1⟩
  have B1:=hidd (belowT B0.out b1)
  have S1:=hidd (S0.out.keep b1)
  clear y0 y1 y2 y3 S0 B0 b1 W1
  obtain ⟨y0,y1,y2,y3⟩:=S1.out
  rcases h3 with ⟨rfl,rfl⟩ | ⟨rfl,h3⟩ | ⟨rfl,h3⟩ | ⟨rfl,h3⟩
  · go_wp2_with fail
    go_ret
    exact ⟨rfl,B1.out⟩
  all_goals
   go_wp2_with fail
   refine (W2.out _).mono ?_
   rintro e w2 ⟨rfl,b2⟩
   have B2:=hidd (belowT B1.out b2)
   have S2:=hidd (S1.out.keep b2)
   clear y0 y1 y2 y3 S1 B1 b2 W2
   obtain ⟨y0,y1,y2,y3⟩:=S2.out
  · obtain ⟨rfl,rfl⟩:=h3
    go_wp2_with fail
    go_ret
    exact ⟨rfl,B2.out⟩
  · obtain ⟨rfl,rfl,rfl⟩:=h3
    go_wp2_with fail
    refine (TU.out _).mono ?_
    rintro e w3 ⟨rfl,b3⟩
    have B3:=hidd (belowT B2.out b3)
    clear y0 y1 y2 y3 b3
    go_wp2_with fail
    go_ret
    exact ⟨rfl,B3.out⟩
  · obtain ⟨rfl,rfl,rfl⟩:=h3
    go_wp2_with fail
    refine (TU.out _).mono ?_
    rintro e w3 ⟨rfl,b3⟩
    have B3:=hidd (belowT B2.out b3)
    clear y0 y1 y2 y3 b3
    go_wp2_with fail
    go_ret
    exact ⟨rfl,B3.out⟩
theorem q_fault (l1 l2 u1 u2 r t:Int) (h:MayT l1 l2 u1 u2 r t) (w:World) :
 Calls Tryz.prog 66 #[.agg #[.int .i64 l1,.int .i64 l2,.int .i64 u1,.int .i64 u2],.int .i64 r] w fun e w'=>e=.returned (.int .i64 t)∧Below w.heap.size w w':=by
 have TU:∀ w,Calls Tryz.prog 44 #[.agg #[.int .i64 l1,.int .i64 l2,.int .i64 u1,.int .i64 u2]] w fun e w'=>e=.returned (.bool (decide (u1 < l1∨u2 < l2)))∧Below w.heap.size w w':=fun w=>by
  refine q_turned l1 l2 u1 u2 _ ?_ w
  simp only [decide_eq_false_iff_not,decide_eq_true_eq]
  omega
 refine q_fault_core l1 l2 u1 u2 r t (inWB l1 l2) (inWB u1 u2) _ ?_ (fun w=>pok_at l1 l2 _ rfl w) (fun w=>pok_at u1 u2 _ rfl w) TU w
 unfold MayT at h
 have e1:inWB l1 l2=true↔InW l1 l2:=⟨inWB_yes,inWB_mk⟩
 have e2:inWB u1 u2=true↔InW u1 u2:=⟨inWB_yes,inWB_mk⟩
 cases p:inWB l1 l2 <;>cases q:inWB u1 u2 <;>rw [p] at e1 <;>rw [q] at e2 <;>simp only [Bool.false_eq_true,false_iff,true_iff] at e1 e2
 all_goals
  simp only [decide_eq_false_iff_not,decide_eq_true_eq,true_and,false_and,or_false,false_or,Bool.false_eq_true,Bool.true_eq_false]
  simp only [e1,e2,and_self,and_true,true_and,and_false,false_and,not_false_eq_true,not_true_eq_false,or_false,false_or] at h
  omega
def Hp (n:Nat) (d:Array Int):Prop:=∀ i,i < n→Sort.Ok Sort.ltInt 0 n d i
theorem hp_build (d:Array Int) {n k:Nat} (hn:d.size=n) (hk:n≤2*k+1):Hp n (Sort.heapBuild Sort.ltInt n 0 k d)∧Sort.PermIn 0 n d (Sort.heapBuild Sort.ltInt n 0 k d):=by
 have h:=Sort.build Sort.swo_ltInt n 0 k d (by omega) (fun i h1 _ c hc hch=>by omega)
 rw [Nat.zero_add] at h
 exact h
theorem perm_size {a b:Nat} {d d':Array Int} (h:Sort.PermIn a b d d'):d'.size=d.size:=h.1
theorem perm_list {n:Nat} {d d':Array Int} (hn:d.size=n) (h:Sort.PermIn 0 n d d'):d'.toList.Perm d.toList:=by
 have hp:=h.2.2
 have hs:=h.1
 have e1:(d'.extract 0 n).toList=d'.toList:=by simp [← hn,← hs]
 have e2:(d.extract 0 n).toList=d.toList:=by simp [← hn]
 rwa [e1,e2] at hp
theorem hp_max {n:Nat} {d:Array Int} (h:Hp n d) (hn:d.size=n):∀ x∈d.toList,x≤d[0]! :=by
 intro x hx
 obtain ⟨i,hi,rfl⟩:=List.mem_iff_getElem.1 hx
 have hi':i < n:=by rw [← hn];simpa using hi
 have:=Sort.root_max Sort.swo_ltInt h i i (Nat.le_refl _) hi'
 simp only [Nat.zero_add,Sort.ltInt,decide_eq_false_iff_not] at this
 have e:d[i]! =d[i]'(by omega):=getElem!_pos d i (by omega)
 rw [e] at this
 simpa using this
def popD (n:Nat) (d:Array Int):Array Int:=Sort.siftDown Sort.ltInt n 0 0 (Sort.swp d 0 n)
theorem hp_pop {n:Nat} {d:Array Int} (h:Hp (n+1) d) (hn:d.size=n+1) :
 (popD n d).size=n+1∧(popD n d)[n]! =d[0]!∧Hp n ((popD n d).toList.take n).toArray∧d.toList.Perm (d[0]! :: (popD n d).toList.take n)∧((popD n d).toList.take n).length=n:=by
 have hs:=Sort.swo_ltInt
 have g1n:(Sort.swp d 0 n)[n]! =d[0]! :=Sort.swp_right d _ _ (by omega)
 have g1o:∀ j,j≠0→j≠n→(Sort.swp d 0 n)[j]! =d[j]! :=fun j h1 h2=>Sort.swp_other d _ _ _ h1 h2
 obtain ⟨R1,R2⟩:=Sort.sift hs n 0 0 n 0 (Sort.swp d 0 n) (by omega) (by rw [Sort.size_swp];omega) (Nat.le_refl _)
  (fun i _ h2 h3 kk hkk hkkh=>by rw [Nat.zero_add,Nat.zero_add,g1o i h3 (by omega),g1o kk (by omega) (by omega)];have:=h i (by omega) kk hkk (by omega);simpa using this)
  (fun p _ hp=>by omega)
 rw [Nat.zero_add] at R2
 have hsz:(popD n d).size=n+1:=by rw [show (popD n d).size=_ from R2.1,Sort.size_swp,hn]
 have hlast:(popD n d)[n]! =d[0]! :=by rw [show (popD n d)[n]! =(Sort.swp d 0 n)[n]! from R2.2.1 n (Or.inr (Nat.le_refl _)),g1n]
 have hlen:((popD n d).toList.take n).length=n:=by rw [List.length_take];simp [hsz]
 refine ⟨hsz,hlast,fun i hi k hk hkn=>?_,?_,hlen⟩
 · have e:∀ j,j < n→((popD n d).toList.take n).toArray[j]! =(popD n d)[j]! :=fun j hj=>by
    rw [getElem!_pos _ j (by simpa [hsz] using by omega),getElem!_pos (popD n d) j (by omega)]
    simp
   have:=R1 i (Nat.zero_le _) hi k hk hkn
   rw [Nat.zero_add,Nat.zero_add] at this ⊢
   rw [e i hi,e k hkn]
   exact this
 · have hp:(popD n d).toList.Perm d.toList:=by
    have p1:Sort.PermIn 0 (n+1) d (Sort.swp d 0 n):=Sort.swp_permIn d 0 (n+1) 0 n (Nat.le_refl _) (by omega) (by omega) (by omega) (by omega)
    have p2:Sort.PermIn 0 (n+1) (Sort.swp d 0 n) (popD n d):=Sort.permIn_mono _ _ 0 n 0 (n+1) (Nat.le_refl _) (by omega) (by rw [Sort.size_swp];omega) R2
    exact perm_list hn (Sort.permIn_trans _ _ _ _ _ p1 p2)
   have e:(popD n d).toList=(popD n d).toList.take n++[d[0]!]:=by
    have h1:n < (popD n d).toList.length:=by simp [hsz]
    have h2:=List.take_append_drop n (popD n d).toList
    rw [List.drop_eq_getElem_cons h1,List.drop_eq_nil_of_le (by simp [hsz])] at h2
    rw [← hlast,getElem!_pos (popD n d) n (by omega)]
    simpa using h2.symm
   refine hp.symm.trans ?_
   rw [e,List.take_left' (by simp [hsz])]
   exact List.perm_append_singleton _ _
def siftUp (j:Nat) (d:Array Int):Array Int :=
 if _h:j=0 then d else if Sort.ltInt d[(j - 1) / 2]! d[j]! =true then siftUp ((j - 1) / 2) (Sort.swp d ((j - 1) / 2) j) else d
termination_by j
decreasing_by omega
theorem siftUp_zero (d:Array Int):siftUp 0 d=d:=by rw [siftUp,dif_pos rfl]
theorem siftUp_stop {j:Nat} {d:Array Int} (h:Sort.ltInt d[(j - 1) / 2]! d[j]! =false):siftUp j d=d:=by
 rw [siftUp]
 split
 · rfl
 · rw [if_neg (by rw [h];exact Bool.false_ne_true)]
theorem siftUp_go {j:Nat} {d:Array Int} (hj:0 < j) (h:Sort.ltInt d[(j - 1) / 2]! d[j]! =true):siftUp j d=siftUp ((j - 1) / 2) (Sort.swp d ((j - 1) / 2) j):=by
 rw [siftUp,dif_neg (by omega),if_pos h]
theorem siftUp_hp (n:Nat):∀ (m j:Nat) (d:Array Int),j≤m→d.size=n→j < n→(∀ p k,(k=2*p+1∨k=2*p+2)→k < n→k≠j→d[k]!≤d[p]!) →
 (0 < j→∀ c,(c=2*j+1∨c=2*j+2)→c < n→d[c]!≤d[(j - 1) / 2]!)→Hp n (siftUp j d)∧Sort.PermIn 0 n d (siftUp j d):=by
 intro m
 induction m with
 | zero =>
  intro j d hj hn hjn h1 h2
  obtain rfl:j=0:=by omega
  rw [siftUp_zero]
  refine ⟨fun i hi k hk hkn=>?_,Sort.permIn_refl d _ _⟩
  have:=h1 i k hk hkn (by omega)
  rw [Nat.zero_add,Nat.zero_add]
  simp only [Sort.ltInt,decide_eq_false_iff_not]
  omega
 | succ m ih =>
  intro j d hj hn hjn h1 h2
  by_cases h0:j=0
  · exact ih j d (by omega) hn hjn h1 h2
  · cases hlt:Sort.ltInt d[(j - 1) / 2]! d[j]! with
    | false =>
     rw [siftUp_stop hlt]
     refine ⟨fun i hi k hk hkn=>?_,Sort.permIn_refl d _ _⟩
     rw [Nat.zero_add,Nat.zero_add]
     by_cases hkj:k=j
     · subst hkj
       rw [show i=(k - 1) / 2 by omega]
       exact hlt
     · have:=h1 i k hk hkn hkj
       simp only [Sort.ltInt,decide_eq_false_iff_not]
       omega
    | true =>
     rw [siftUp_go (by omega) hlt]
     simp only [Sort.ltInt,decide_eq_true_eq] at hlt
     obtain ⟨i,hi⟩:∃ i,(j - 1) / 2=i:=⟨_,rfl⟩
     rw [hi] at hlt ⊢
     have hij:i≠j:=by omega
     have gi:(Sort.swp d i j)[i]! =d[j]! :=Sort.swp_left d i j (by omega) hij
     have gj:(Sort.swp d i j)[j]! =d[i]! :=Sort.swp_right d i j (by omega)
     have go:∀ k,k≠i→k≠j→(Sort.swp d i j)[k]! =d[k]! :=fun k a b=>Sort.swp_other d i j k a b
     have hpi:∀ c,(c=2*i+1∨c=2*i+2)→c < n→c≠j→d[c]!≤d[i]! :=fun c hc hcn hcj=>h1 i c hc hcn hcj
     have hgr:∀ c,(c=2*j+1∨c=2*j+2)→c < n→d[c]!≤d[i]! :=fun c hc hcn=>by have:=h2 (by omega) c hc hcn;rwa [hi] at this
     have hres:=ih i (Sort.swp d i j) (by omega) (by rw [Sort.size_swp];exact hn) (by omega) (fun p k hk hkn hki=>?_) (fun h0i c hc hcn=>?_)
     · exact ⟨hres.1,Sort.permIn_trans _ _ _ _ _ (Sort.swp_permIn d 0 n i j (Nat.zero_le _) (by omega) (Nat.zero_le _) hjn (by omega)) hres.2⟩
     · by_cases hkj:k=j
       · obtain rfl:p=i:=by omega
         rw [hkj,gj,gi];omega
       · rw [go k hki hkj]
         by_cases hpi2:p=i
         · rw [hpi2,gi]
           have:=hpi k (by rw [← hpi2];exact hk) hkn hkj
           omega
         · by_cases hpj:p=j
           · rw [hpj,gj];exact hgr k (by rw [← hpj];exact hk) hkn
           · rw [go p hpi2 hpj];exact h1 p k hk hkn hkj
     · have hup:d[i]!≤d[(i - 1) / 2]! :=h1 ((i - 1) / 2) i (by omega) (by omega) hij
       rw [go ((i - 1) / 2) (by omega) (by omega)]
       by_cases hcj:c=j
       · rw [hcj,gj];exact hup
       · rw [go c (by omega) hcj]
         have:=hpi c hc hcn hcj
         omega
theorem hp_push {n:Nat} {d:Array Int} (h:Hp n d) (hn:d.size=n) (x:Int):Hp (n+1) (siftUp n (d.push x))∧(siftUp n (d.push x)).toList.Perm (x :: d.toList)∧(siftUp n (d.push x)).size=n+1:=by
 have hs:(d.push x).size=n+1:=by simp [hn]
 have e:∀ k,k < n→(d.push x)[k]! =d[k]! :=fun k hk=>by
  rw [getElem!_pos _ k (by omega),getElem!_pos d k (by omega),Array.getElem_push_lt]
 have hr:=siftUp_hp (n+1) n n (d.push x) (Nat.le_refl _) hs (by omega) (fun p k hk hkn hki=>by
  rw [e k (by omega),e p (by omega)]
  have:=h p (by omega) k hk (by omega)
  rw [Nat.zero_add,Nat.zero_add] at this
  simp only [Sort.ltInt,decide_eq_false_iff_not] at this
  omega) (fun _ c hc hcn=>by omega)
 refine ⟨hr.1,?_,by rw [perm_size hr.2,hs]⟩
 have:=perm_list hs hr.2
 rw [Array.toList_push] at this
 exact this.trans (List.perm_append_singleton _ _)
end Go.Proofs.YtdklpgphmoaniaaGreatDoor
namespace Go.Proofs.YtdklpgphmoaniaaGreatDoor
theorem lin_move (p q:Int × Int) (X Y M s t dx dy:Int):lin p q (s*X - t*dx) (s*Y - t*dy) (s*M)=s*lin p q X Y M - t*((q.1 - p.1)*dy - (q.2 - p.2)*dx):=by unfold lin;grind
def crD (h:Nat→Int × Int) (dx dy:Int) (i:Nat):Int:=((h (nx i)).1 - (h i).1)*dy - ((h (nx i)).2 - (h i).2)*dx
theorem leaves_dir {h:Nat→Int × Int} {X Y M dx dy T:Int} (hp:InK h X Y M) (hT:0≤T) :
 InK h (X - T*dx) (Y - T*dy) M∨∃ (e:Nat) (s t:Int),e < 6∧0 < s∧0≤t∧t≤T*s∧0 < crD h dx dy e∧InK h (s*X - t*dx) (s*Y - t*dy) (s*M)∧lin (h e) (h (nx e)) (s*X - t*dx) (s*Y - t*dy) (s*M)=0:=by
 have e1:∀ i,lin (h i) (h (nx i)) (X - T*dx) (Y - T*dy) M=lin (h i) (h (nx i)) X Y M - T*crD h dx dy i:=fun i=>by
  have:=lin_move (h i) (h (nx i)) X Y M 1 T dx dy
  rw [Int.one_mul,Int.one_mul,Int.one_mul,Int.one_mul] at this
  exact this
 by_cases hv:∃ i,i < 6∧lin (h i) (h (nx i)) X Y M < T*crD h dx dy i
 · refine .inr ?_
   have pos:∀ i,i < 6→lin (h i) (h (nx i)) X Y M < T*crD h dx dy i→0 < crD h dx dy i:=fun i hi k=>by
    by_cases c:0 < crD h dx dy i
    · exact c
    · have:=hp i hi
      have:=Int.mul_nonneg hT (show 0≤-crD h dx dy i by omega)
      rw [Int.mul_neg] at this
      omega
   obtain ⟨e,he,ve,hm⟩:=first_side (u:=fun i=>if i < 6 then lin (h i) (h (nx i)) X Y M else 0) (w:=fun i=>crD h dx dy i) (fun i=>i < 6∧lin (h i) (h (nx i)) X Y M < T*crD h dx dy i)
    (fun i=>by
      split
      · exact hp i (by assumption)
      · exact Int.le_refl 0) (fun i hi=>pos i hi.1 hi.2) 6 (by obtain ⟨i,hi,k⟩:=hv;exact ⟨i,hi,hi,k⟩)
   have he0:=hp e he
   have hs:=pos e he ve.2
   have ht:lin (h e) (h (nx e)) X Y M≤T*crD h dx dy e:=Int.le_of_lt ve.2
   refine ⟨e,crD h dx dy e,lin (h e) (h (nx e)) X Y M,he,hs,he0,ht,hs,fun f hf=>?_,?_⟩
   · rw [lin_move]
     show 0≤crD h dx dy e*lin (h f) (h (nx f)) X Y M - lin (h e) (h (nx e)) X Y M*crD h dx dy f
     have hf0:=hp f hf
     by_cases vf:lin (h f) (h (nx f)) X Y M < T*crD h dx dy f
     · have h1:=hm f hf ⟨hf,vf⟩
       rw [if_pos he,if_pos hf] at h1
       have e2:=Int.mul_comm (lin (h f) (h (nx f)) X Y M) (crD h dx dy e)
       omega
     · by_cases c:0 < crD h dx dy f
       · have k1:=Int.mul_le_mul_of_nonneg_left (show T*crD h dx dy f≤lin (h f) (h (nx f)) X Y M by omega) (Int.le_of_lt hs)
         have k2:=Int.mul_le_mul_of_nonneg_right ht (Int.le_of_lt c)
         have e2:crD h dx dy e*(T*crD h dx dy f)=T*crD h dx dy e*crD h dx dy f:=by grind
         omega
       · have k1:=Int.mul_nonneg (Int.le_of_lt hs) hf0
         have k2:=Int.mul_nonneg he0 (show 0≤-crD h dx dy f by omega)
         rw [Int.mul_neg] at k2
         omega
   · rw [lin_move]
     show crD h dx dy e*lin (h e) (h (nx e)) X Y M - lin (h e) (h (nx e)) X Y M*crD h dx dy e=0
     rw [Int.mul_comm]
     omega
 · refine .inl fun i hi=>?_
   rw [e1]
   by_cases c:lin (h i) (h (nx i)) X Y M < T*crD h dx dy i
   · exact absurd ⟨i,hi,c⟩ hv
   · omega
theorem side_way (K:Nat) (a b:Int) {e:Nat} (he:e < 6) :
 26*((hv K a b (nx e)).2 - (hv K a b e).2)=45*poX K (sA e) (sB e)∧45*((hv K a b (nx e)).1 - (hv K a b e).1)= -(78*poY K (sA e) (sB e)):=by
 obtain rfl | rfl | rfl | rfl | rfl | rfl:e=0∨e=1∨e=2∨e=3∨e=4∨e=5:=by omega
 · rw [nx_six.1]
   unfold hv coX coY poX poY ctA ctB sA sB wayA wayB
   constructor <;>grind
 · rw [nx_six.2.1]
   unfold hv coX coY poX poY ctA ctB sA sB wayA wayB
   constructor <;>grind
 · rw [nx_six.2.2.1]
   unfold hv coX coY poX poY ctA ctB sA sB wayA wayB
   constructor <;>grind
 · rw [nx_six.2.2.2.1]
   unfold hv coX coY poX poY ctA ctB sA sB wayA wayB
   constructor <;>grind
 · rw [nx_six.2.2.2.2.1]
   unfold hv coX coY poX poY ctA ctB sA sB wayA wayB
   constructor <;>grind
 · rw [nx_six.2.2.2.2.2]
   unfold hv coX coY poX poY ctA ctB sA sB wayA wayB
   constructor <;>grind
def plc (K d:Nat) (a b:Int):Int:=if d=0 then poX K a b else poY K a b
theorem po_add (K:Nat) (a b p q:Int):poX K (a+p) (b+q)=poX K a b+poX K p q∧poY K (a+p) (b+q)=poY K a b+poY K p q:=by
 unfold poX poY ctA ctB
 constructor <;>grind
theorem plc_add (K d:Nat) (a b p q:Int):plc K d (a+p) (b+q)=plc K d a b+plc K d p q:=by
 unfold plc
 split
 · exact (po_add K a b p q).1
 · exact (po_add K a b p q).2
theorem tou_left {K:Nat} {l1 l2 u1 u2 a b:Int} (h:Tou K l1 l2 u1 u2 a b) :
 Tou K l1 l2 l1 u2 a b∨∃ e,e < 6∧poX K (sA e) (sB e) < 0∧Tou K l1 l2 u1 u2 (a+sA e) (b+sB e):=by
 obtain ⟨X,Y,M,hM,hp,hX,hY⟩:=h
 rcases leaves_dir (dx:=1) (dy:=0) (T:=X - M*(3*l1)) hp (by omega) with k | ⟨e,s,t,he,hs,ht,htT,hc,hq,hz⟩
 · refine .inl ⟨_,_,M,hM,k,⟨by omega,by omega⟩,by omega,by omega⟩
 · refine .inr ⟨e,he,?_,?_⟩
   · have:=(side_way K a b he).1
     unfold crD at hc
     omega
   · have hqa:=across he hq hz
     rw [Int.mul_one,Int.mul_zero,Int.sub_zero] at hqa
     have k1:s*(M*(3*l1))=s*M*(3*l1):=(Int.mul_assoc ..).symm
     have k2:=Int.mul_le_mul_of_nonneg_left hX.2 (Int.le_of_lt hs)
     have k3:=Int.mul_le_mul_of_nonneg_left hY.1 (Int.le_of_lt hs)
     have k4:=Int.mul_le_mul_of_nonneg_left hY.2 (Int.le_of_lt hs)
     rw [← Int.mul_assoc] at k2 k3 k4
     have k5:(X - M*(3*l1))*s=s*X - s*M*(3*l1):=by grind
     exact ⟨s*X - t,s*Y,s*M,Int.mul_pos hs hM,hqa,⟨by omega,by omega⟩,k3,k4⟩
theorem tou_low {K:Nat} {l1 l2 u1 u2 a b:Int} (h:Tou K l1 l2 u1 u2 a b) :
 Tou K l1 l2 u1 l2 a b∨∃ e,e < 6∧poY K (sA e) (sB e) < 0∧Tou K l1 l2 u1 u2 (a+sA e) (b+sB e):=by
 obtain ⟨X,Y,M,hM,hp,hX,hY⟩:=h
 rcases leaves_dir (dx:=0) (dy:=1) (T:=Y - M*(3*l2)) hp (by omega) with k | ⟨e,s,t,he,hs,ht,htT,hc,hq,hz⟩
 · refine .inl ⟨_,_,M,hM,k,by omega,⟨by omega,by omega⟩⟩
 · refine .inr ⟨e,he,?_,?_⟩
   · have:=(side_way K a b he).2
     unfold crD at hc
     omega
   · have hqa:=across he hq hz
     rw [Int.mul_one,Int.mul_zero,Int.sub_zero] at hqa
     have k2:=Int.mul_le_mul_of_nonneg_left hY.2 (Int.le_of_lt hs)
     have k3:=Int.mul_le_mul_of_nonneg_left hX.1 (Int.le_of_lt hs)
     have k4:=Int.mul_le_mul_of_nonneg_left hX.2 (Int.le_of_lt hs)
     rw [← Int.mul_assoc] at k2 k3 k4
     have k5:(Y - M*(3*l2))*s=s*Y - s*M*(3*l2):=by grind
     exact ⟨s*X,s*Y - t,s*M,Int.mul_pos hs hM,hqa,⟨k3,k4⟩,by omega,by omega⟩
def sdX (d:Nat) (l u:Int):Int:=if d=0 then l else u
theorem tou_back {K d:Nat} (hd:d≤1) {l1 l2 u1 u2 a b:Int} (h:Tou K l1 l2 u1 u2 a b) :
 Tou K l1 l2 (sdX d l1 u1) (sdX (1 - d) l2 u2) a b∨∃ e,e < 6∧plc K d (sA e) (sB e) < 0∧Tou K l1 l2 u1 u2 (a+sA e) (b+sB e):=by
 obtain rfl | rfl:d=0∨d=1:=by omega
 · exact tou_left h
 · exact tou_low h
theorem plc_box {K d:Nat} (hK:K≤12) {r a b:Int} (h:Ok4 r a b): -1000000000000000000≤plc K d a b∧plc K d a b≤1000000000000000000:=by
 have h1:=ok4_part h
 have h2:=ct_box hK (a:=a) (b:=b) (by omega) (by omega)
 unfold plc poX poY
 split <;>omega
theorem u_of_s {e:Nat} (he:e < 6):∃ i,i < 6∧uA i= -sA e∧uB i= -sB e:=by
 obtain rfl | rfl | rfl | rfl | rfl | rfl:e=0∨e=1∨e=2∨e=3∨e=4∨e=5:=by omega
 · exact ⟨4,by omega,rfl,rfl⟩
 · exact ⟨5,by omega,rfl,rfl⟩
 · exact ⟨0,by omega,rfl,rfl⟩
 · exact ⟨1,by omega,rfl,rfl⟩
 · exact ⟨2,by omega,rfl,rfl⟩
 · exact ⟨3,by omega,rfl,rfl⟩
theorem sweep_all {K d:Nat} (hK:K≤12) (hd:d≤1) {r l1 l2 u1 u2:Int} (hr:12 - r=(K:Int)) (h1:0≤l1) (h2:0≤l2) (h3:u1 < 1073741824) (h4:u2 < 1073741824) (P:Int→Int→Prop)
 (h0:∀ a b,Tou K l1 l2 (sdX d l1 u1) (sdX (1 - d) l2 u2) a b→Tou K l1 l2 u1 u2 a b→P a b)
 (hstep:∀ a b i,i < 6→0 < plc K d (uA i) (uB i)→Tou K l1 l2 u1 u2 a b→P a b→Tou K l1 l2 u1 u2 (a+uA i) (b+uB i)→P (a+uA i) (b+uB i)) :
 ∀ a b,Tou K l1 l2 u1 u2 a b→P a b:=by
 have key:∀ (n:Nat) a b,(plc K d a b+1000000000000000000).toNat < n→Tou K l1 l2 u1 u2 a b→P a b:=by
  intro n
  induction n with
  | zero=>intro a b h;omega
  | succ n ih =>
   intro a b hn hT
   rcases tou_back hd hT with k | ⟨e,he,hc,hT2⟩
   · exact h0 a b k hT
   · have hb:=plc_box (d:=d) hK (tou_ok hK hr h1 h2 h3 h4 hT2)
     have ea:=plc_add K d a b (sA e) (sB e)
     have hp:=ih _ _ (by omega) hT2
     obtain ⟨i,hi,e1,e2⟩:=u_of_s he
     have e3:a+sA e+uA i=a:=by omega
     have e4:b+sB e+uB i=b:=by omega
     have e5:=plc_add K d (a+sA e) (b+sB e) (uA i) (uB i)
     rw [e3,e4] at e5
     have:=hstep (a+sA e) (b+sB e) i hi (by omega) hT2 hp (by rw [e3,e4];exact hT)
     rwa [e3,e4] at this
 exact fun a b hT=>key _ a b (Nat.lt_succ_self _) hT
theorem point_around {K:Nat} (hK:K≤12) {x y p q a b:Int} (hn:Nearest (dvK K) (nuA K x y) (nuB K x y) p q) (h:Tou K x y x y a b):(a=p∧b=q)∨∃ i,i < 6∧a=p+uA i∧b=q+uB i:=by
 have hd:=(dvK_box hK).1
 have h1:=hex_steps (by omega) hn.1 (tou_point h)
 by_cases e:a - p=0∧b - q=0
 · exact .inl ⟨by omega,by omega⟩
 · have h2:=stp_ge (a - p) (b - q)
   have h3:stp (a - p) (b - q)=1:=by omega
   refine .inr ?_
   have h4:=stp_at (a - p) (b - q)
   rw [h3] at h2
   obtain k | k | k | k | k | k:(a=p+1∧b=q)∨(a=p∧b=q+1)∨(a=p - 1∧b=q+1)∨(a=p - 1∧b=q)∨(a=p∧b=q - 1)∨(a=p+1∧b=q - 1):=by omega
   · exact ⟨0,by omega,by rw [k.1];rfl,by rw [k.2];simp [uB]⟩
   · exact ⟨1,by omega,by rw [k.1];simp [uA],by rw [k.2];rfl⟩
   · exact ⟨2,by omega,by rw [k.1];rfl,by rw [k.2];rfl⟩
   · exact ⟨3,by omega,by rw [k.1];rfl,by rw [k.2];simp [uB]⟩
   · exact ⟨4,by omega,by rw [k.1];simp [uA],by rw [k.2];rfl⟩
   · exact ⟨5,by omega,by rw [k.1];rfl,by rw [k.2];rfl⟩
end Go.Proofs.YtdklpgphmoaniaaGreatDoor
