/-
  What the texts SortKit, RSeek say, so far as this seat's proofs need it.
-/
import Derived.Test.YtdklpgphmoaniabGreatDoorSPdqX
import Derived.Test.YtdklpgphmoaniabGreatDoorJn05
import Derived.RangeFuncFrom
import Derived.RangeFuncCalls
import Derived.OwnWalkIn
import Derived.TacticsInMore
import Derived.LoopNIn
import Derived.LoopIn
import Derived.Stop.RegionWithIn
namespace Go.Proofs.YtdklpgphmoaniabGreatDoor
open Go.RowKit
def RowAt (C:Nat) (w:World) (s:Value) (L:List Int):Prop:=(L=[]∧s=.slice none 0 0)∨∃ g cap,s=.slice (some ⟨g,0,none⟩) L.length cap∧C≤g∧∀ (j:Nat) (hj:j < L.length),w.cell? ⟨g,j,none⟩=some (.int .u64 L[j])
theorem RowAt.keep {C:Nat} {w w':World} {s:Value} {L:List Int} (h:RowAt C w s L) (hb:Below w.heap.size w w'):RowAt C w' s L:=by
 rcases h with h | ⟨g,cap,h1,h2,h3⟩
 · exact Or.inl h
 · exact Or.inr ⟨g,cap,h1,h2,fun j hj=>keepCell hb (h3 j hj)⟩
theorem RowAt.mono {C D:Nat} {w:World} {s:Value} {L:List Int} (h:RowAt C w s L) (hD:D≤C):RowAt D w s L:=by
 rcases h with h | ⟨g,cap,h1,h2,h3⟩
 · exact Or.inl h
 · exact Or.inr ⟨g,cap,h1,by omega,h3⟩
theorem sorts_list {n:Nat} {L:List Int} {d':Array Int} (hL:L.length=n) (h:Sorts 0 n L.toArray d'):d'.toList.Perm L∧d'.toList.Pairwise (·≤·)∧d'.size=n:=by
 have hs:d'.size=n:=by rw [h.1.1];simpa using hL
 have hp:=h.1.2.2
 have e1:(d'.extract 0 n).toList=d'.toList:=by simp [← hs]
 have e2:(L.toArray.extract 0 n).toList=L:=by simp [← hL]
 rw [e1,e2] at hp
 refine ⟨hp,List.pairwise_iff_getElem.2 fun i j hi hj hij=>?_,hs⟩
 have:=sorted_le h.2 (i:=i) (j:=j) (Nat.zero_le _) hij (by simpa [hs] using hj)
 simpa [show i < d'.size by simpa using hi,show j < d'.size by simpa using hj] using this
theorem take_next {X:List Int} {k:Nat} (h:k < X.length):X.take (k+1)=X.take k++[X[k]]:=List.take_succ_eq_append_getElem h
theorem ins_facts {L:List Int} {x:Int} {lo:Nat} (hR:Rising L) (hlo:lo≤L.length) (h1:∀ (t:Nat) (ht:t < L.length),t < lo→L[t] < x) (h2:∀ (t:Nat) (ht:t < L.length),lo≤t→x < L[t]) :
 Rising (L.take lo++(x :: L.drop lo))∧∀ y,y∈L.take lo++(x :: L.drop lo)↔y∈L∨y=x:=by
 have hT:∀ y∈L.take lo,y < x:=fun y hy=>by
  obtain ⟨t,ht,rfl⟩:=List.mem_iff_getElem.1 hy
  rw [List.length_take] at ht
  rw [List.getElem_take]
  exact h1 t (by omega) (by omega)
 have hD:∀ y∈L.drop lo,x < y:=fun y hy=>by
  obtain ⟨t,ht,rfl⟩:=List.mem_iff_getElem.1 hy
  rw [List.length_drop] at ht
  rw [List.getElem_drop]
  exact h2 (lo+t) (by omega) (by omega)
 refine ⟨List.pairwise_append.2 ⟨hR.sublist (List.take_sublist _ _),List.pairwise_cons.2 ⟨hD,hR.sublist (List.drop_sublist _ _)⟩,fun a ha b hb=>?_⟩,fun y=>?_⟩
 · rcases List.mem_cons.1 hb with rfl | hb
   · exact hT a ha
   · have:=hT a ha;have:=hD b hb;omega
 · rw [List.mem_append,List.mem_cons]
   have e:y∈L↔y∈L.take lo∨y∈L.drop lo:=by rw [← List.mem_append,List.take_append_drop]
   rw [e]
   constructor
   · rintro (h | h | h)
     · exact .inl (.inl h)
     · exact .inr h
     · exact .inl (.inr h)
   · rintro ((h | h) | h)
     · exact .inl h
     · exact .inr (.inr h)
     · exact .inr (.inl h)
theorem rise_at {L:List Int} (h:Rising L) {i j:Nat} (hi:i < L.length) (hj:j < L.length) (hij:i < j):L[i] < L[j]:=List.pairwise_iff_getElem.1 h i j hi hj hij
theorem rise_le {L:List Int} (h:Rising L) {i j:Nat} (hi:i < L.length) (hj:j < L.length) (hij:i≤j):L[i]≤L[j]:=by
 rcases Nat.lt_or_ge i j with k | k
 · have:=rise_at h hi hj k;omega
 · obtain rfl:i=j:=by omega
   exact Int.le_refl _
def Seek (L:List Int) (x:Int) (lo hi:Nat):Prop:=(∀ (t:Nat) (ht:t < L.length),t < lo→L[t] < x)∧∀ (t:Nat) (ht:t < L.length),hi≤t→x≤L[t]
theorem Seek.up {L:List Int} {x:Int} {lo hi mid:Nat} (h:Seek L x lo hi) (hR:Rising L) (hm:mid < L.length) (hx:L[mid] < x):Seek L x (mid+1) hi :=
 ⟨fun t ht hl=>by have:=rise_le hR ht hm (by omega);omega,h.2⟩
theorem Seek.down {L:List Int} {x:Int} {lo hi mid:Nat} (h:Seek L x lo hi) (hR:Rising L) (hm:mid < L.length) (hx:x≤L[mid]):Seek L x lo mid :=
 ⟨h.1,fun t ht hl=>by have:=rise_le hR hm ht hl;omega⟩
theorem RowAt.form {C:Nat} {w:World} {s:Value} {L:List Int} (h:RowAt C w s L):∃ p cap,s=.slice p L.length cap∧∀ (j:Nat) (hj:j < L.length),∃ g,p=some ⟨g,0,none⟩∧w.cell? ⟨g,j,none⟩=some (.int .u64 L[j]):=by
 rcases h with ⟨rfl,rfl⟩ | ⟨g,cap,h1,h2,h3⟩
 · exact ⟨none,0,rfl,fun j hj=>absurd hj (Nat.not_lt_zero _)⟩
 · exact ⟨_,cap,h1,fun j hj=>⟨g,rfl,h3 j hj⟩⟩
set_option maxHeartbeats 4000000 in
theorem rsame (C D:Nat) (s t:Value) (L:List Int) (hn:L.length≤40000) (w:World) (h1:RowAt C w s L) (h2:RowAt D w t L) :
 Calls Tryz.prog 9 #[s,t] w fun e w'=>e=.returned (.bool true)∧Below w.heap.size w w':=by
 obtain ⟨p,c,rfl,hp⟩:=h1.form
 obtain ⟨q,c2,rfl,hq⟩:=h2.form
 obtain ⟨n,en⟩:∃ n,L.length=n:=⟨_,rfl⟩
 have HP:=hidd hp
 have HQ:=hidd hq
 have EN:=hidd en
 rw [en] at hn ⊢
 clear hp hq h1 h2 en
 go_enter Tryz.func9,Tryz.ntmps9
 go_wp2_with fail
 go_loopw [5] (fun v5 wr=>∃ i:Nat,i≤n∧v5=.int .i64 (i:Int)∧Below w.heap.size w wr) (fun v5 _=>n - (intOf v5).toNat)
 case atStart=>exact ⟨0,by omega,rfl,Below.refl _ _⟩
 case round =>
  obtain ⟨i,hi,rfl,hB⟩:=hrel
  by_cases hlt:i < n
  · obtain ⟨g,rfl,x1⟩:=HP.out i (by rw [EN.out];exact hlt)
    obtain ⟨g2,rfl,x2⟩:=HQ.out i (by rw [EN.out];exact hlt)
    replace x1:=keepCell hB x1
    replace x2:=keepCell hB x2
    generalize L[i]'_=x at *
    clear HP HQ EN
    go_wp2_with fail
    go_quiet (fail)
    go_wp2
    go_roundw
    case rel=>exact ⟨i+1,by omega,by go_num,belowN hB _⟩
    case measure=>simp [intOf];omega
  · obtain rfl:i=n:=by omega
    go_wp2
    go_ret
    exact ⟨rfl,hB⟩
def MayT (l1 l2 u1 u2 r t:Int):Prop :=
 ((r < 0∨12 < r)∧t=1)∨((0≤r∧r≤12)∧¬ (InW l1 l2∧InW u1 u2)∧t=4)∨((0≤r∧r≤12)∧(InW l1 l2∧InW u1 u2)∧(u1 < l1∨u2 < l2)∧t=1)∨((0≤r∧r≤12)∧(InW l1 l2∧InW u1 u2)∧(l1≤u1∧l2≤u2)∧t=0)
def inCB (K:Nat) (l1 l2 u1 u2 x:Int):Bool:=decide (l1≤poX K (cellA x) (cellB x)∧poX K (cellA x) (cellB x)≤u1∧l2≤poY K (cellA x) (cellB x)∧poY K (cellA x) (cellB x)≤u2)
theorem inCB_ways (X Y l1 l2 u1 u2:Int):(decide (l1≤X)=false∧¬ (l1≤X∧X≤u1∧l2≤Y∧Y≤u2))∨(l1≤X∧decide (X≤u1)=false∧¬ (l1≤X∧X≤u1∧l2≤Y∧Y≤u2))∨(l1≤X∧X≤u1∧decide (l2≤Y)=false∧¬ (l1≤X∧X≤u1∧l2≤Y∧Y≤u2))∨(l1≤X∧X≤u1∧l2≤Y∧decide (Y≤u2)=false∧¬ (l1≤X∧X≤u1∧l2≤Y∧Y≤u2))∨(l1≤X∧X≤u1∧l2≤Y∧Y≤u2):=by
 simp only [decide_eq_false_iff_not]
 omega
end Go.Proofs.YtdklpgphmoaniabGreatDoor
namespace Go.Proofs.YtdklpgphmoaniabGreatDoor
theorem tou_point {K:Nat} {x y a b:Int} (h:Tou K x y x y a b):HexAt (dvK K) (nuA K x y) (nuB K x y) a b:=by
 obtain ⟨X,Y,M,hM,hi,⟨h1,h2⟩,h3,h4⟩:=h
 have hX:X=M*(3*x):=by omega
 have hY:Y=M*(3*y):=by omega
 subst hX hY
 refine (at_point K a b x y).1 fun i hi6=>?_
 have k:=hi i hi6
 have e:lin (hv K a b i) (hv K a b (nx i)) (M*(3*x)) (M*(3*y)) M=M*lin (hv K a b i) (hv K a b (nx i)) (3*x) (3*y) 1:=by unfold lin;grind
 rw [e] at k
 exact Int.le_of_mul_le_mul_left (by rw [Int.mul_zero];exact k) hM
theorem cells_nodup {K r:Nat} {l1 l2 u1 u2:Int} {L:List Int} (hn:L.Nodup) (h:∀ x∈L,TW K l1 l2 u1 u2 x r):(L.map fun x=>(cellA x,cellB x)).Nodup:=by
 refine (List.pairwise_map).2 (hn.imp_of_mem fun {x y} hx hy hne he=>hne ?_)
 have e1:=congrArg Prod.fst he
 have e2:=congrArg Prod.snd he
 dsimp only at e1 e2
 have w1:=word_cell (h x hx).1
 have w2:=word_cell (h y hy).1
 rw [(h x hx).2.1,e1,e2] at w1
 rw [(h y hy).2.1] at w2
 exact w1.symm.trans w2
theorem point_few {K r:Nat} (hK:K≤12) {x y:Int} {L:List Int} (hn:L.Nodup) (h:∀ z∈L,TW K x y x y z r):L.length≤3:=by
 have hd:=cells_nodup hn h
 have:=clique hd fun p hp q hq=>by
  obtain ⟨z,hz,rfl⟩:=List.mem_map.1 hp
  obtain ⟨z',hz',rfl⟩:=List.mem_map.1 hq
  exact hex_steps (dvK_box hK).1 (tou_point (h z' hz').2.2) (tou_point (h z hz).2.2)
 rwa [List.length_map] at this
theorem box_few {K r:Nat} (hK:K≤12) {l1 l2 u1 u2:Int} (hx:u1 - l1≤8*szK K) (hy:u2 - l2≤8*szK K) {L:List Int} (hn:L.Nodup) (h:∀ z∈L,TW K l1 l2 u1 u2 z r):L.length≤10267:=by
 obtain ⟨sa,sb,hs⟩:=nearest_some (d:=dvK K) (dvK_box hK).1 (nuA K l1 l2) (nuB K l1 l2)
 have:=few_near (N:=58) (sa:=sa) (sb:=sb) (cells_nodup hn h) fun p hp=>by
  obtain ⟨z,hz,rfl⟩:=List.mem_map.1 hp
  exact box_steps hK hx hy hs.1 (h z hz).2.2
 rw [List.length_map] at this
 omega
theorem sz_two:∀ i:Fin 13,(decide (7300800*7^i.val < 2025*((2*szK i.val+1)*(2*szK i.val+1))) && decide (0≤szK i.val))=true:=by decide
theorem centre_near {K:Nat} (hK:K≤12) {x y a b:Int} (h:HexAt (dvK K) (nuA K x y) (nuB K x y) a b) :
 (x - 2*szK K≤poX K a b∧poX K a b≤x+2*szK K)∧y - 2*szK K≤poY K a b∧poY K a b≤y+2*szK K:=by
 have k:=one_cell hK h (near_self hK a b).1
 rw [sev_pow hK] at k
 have hz:=sz_two ⟨K,by omega⟩
 simp only [Bool.and_eq_true,decide_eq_true_eq] at hz
 have p1:=sq_pos (poX K a b - x)
 have p2:=sq_pos (poY K a b - y)
 have f:∀ m:Int,2025*(m*m)≤7300800*7^K→-(2*szK K)≤m∧m≤2*szK K:=fun m hm=>by
  by_cases c:m≤-(2*szK K+1)∨2*szK K+1≤m
  · have:=far_sq (a:=m) (m:=2*szK K+1) (by omega) c
    omega
  · omega
 have f1:=f (poX K a b - x) (by omega)
 have f2:=f (poY K a b - y) (by omega)
 omega
theorem centre_parent {K:Nat} (hK:K≤12) (a b:Int):HexAt (dvK (K+1)) (nuA (K+1) (poX K a b) (poY K a b)) (nuB (K+1) (poX K a b) (poY K a b)) (parA a b) (parB a b):=by
 have hd:=(dvK_box hK).1
 have h:=(par_nearest a b).1
 have n:=nu_down K (poX K a b) (poY K a b)
 have e1:nuA K (poX K a b) (poY K a b)=dvK K*a:=by unfold nuA dvK sev normE poX poY ctA ctB cjA cjB;grind
 have e2:nuB K (poX K a b) (poY K a b)=dvK K*b:=by unfold nuB dvK sev normE poX poY ctA ctB cjA cjB;grind
 rw [n.1,n.2,e1,e2,dv_down]
 unfold HexAt Hex at h ⊢
 generalize parA a b=P at *
 generalize parB a b=Q at *
 obtain ⟨d,ed⟩:∃ d,dvK K=d:=⟨_,rfl⟩
 rw [ed] at hd ⊢
 have m1:=Int.mul_nonneg (show 0≤d by omega) (show 0≤2*(3*a+b - P*7)+(2*b - a - Q*7)+7 by omega)
 have m2:=Int.mul_nonneg (show 0≤d by omega) (show 0≤7 - (2*(3*a+b - P*7)+(2*b - a - Q*7)) by omega)
 have m3:=Int.mul_nonneg (show 0≤d by omega) (show 0≤(3*a+b - P*7)+2*(2*b - a - Q*7)+7 by omega)
 have m4:=Int.mul_nonneg (show 0≤d by omega) (show 0≤7 - ((3*a+b - P*7)+2*(2*b - a - Q*7)) by omega)
 have m5:=Int.mul_nonneg (show 0≤d by omega) (show 0≤(3*a+b - P*7) - (2*b - a - Q*7)+7 by omega)
 have m6:=Int.mul_nonneg (show 0≤d by omega) (show 0≤7 - ((3*a+b - P*7) - (2*b - a - Q*7)) by omega)
 refine ⟨⟨?_,?_⟩,⟨?_,?_⟩,?_,?_⟩ <;>grind
theorem parent_touch {K:Nat} (hK:K≤12) {x y a b:Int} (h:HexAt (dvK K) (nuA K x y) (nuB K x y) a b) :
 Tou (K+1) (x - 2*szK K) (y - 2*szK K) (x+2*szK K) (y+2*szK K) (parA a b) (parB a b):=by
 have k:=centre_near hK h
 exact tou_at k.1 k.2 (centre_parent hK a b)
theorem centre_own {K:Nat} (hK:K≤12) {a b p q:Int} (h:Tou K (poX K a b) (poY K a b) (poX K a b) (poY K a b) p q):p=a∧q=b:=by
 have hd:=(dvK_box hK).1
 have k:=tou_point h
 have e1:nuA K (poX K a b) (poY K a b)=dvK K*a:=by unfold nuA dvK sev normE poX poY ctA ctB cjA cjB;grind
 have e2:nuB K (poX K a b) (poY K a b)=dvK K*b:=by unfold nuB dvK sev normE poX poY ctA ctB cjA cjB;grind
 rw [e1,e2] at k
 unfold HexAt at k
 have z:=near_hex_zero (x:=p - a) (y:=q - b) (d:=dvK K) (by omega) (by
  have f1:dvK K*a - p*dvK K= -((p - a)*dvK K):=by grind
  have f2:dvK K*b - q*dvK K= -((q - b)*dvK K):=by grind
  rw [f1,f2] at k
  exact k)
 omega
theorem has_neighbour {K r:Nat} (hK:K≤12) (hr:12 - (r:Int)=(K:Int)) {x y a b:Int} (hw:InW x y) (h:HexAt (dvK K) (nuA K x y) (nuB K x y) a b):∃ p q,stp p q=1∧Ok4 (r:Int) (a+p) (b+q):=by
 obtain ⟨w1,w2,w3,w4⟩:=hw
 by_cases c:∃ p q,stp p q=1∧Ok4 (r:Int) (a+p) (b+q)
 · exact c
 · exfalso
   have key:=tou_ind hK (l1:=0) (u1:=1073741823) (l2:=0) (u2:=1073741823) (x:=x) (y:=y) (by omega) (by omega) h (fun a' b'=>a'=a∧b'=b) ⟨rfl,rfl⟩ fun a1 b1 a2 b2 hst _ hp ht=>by
    have ho:=tou_ok (r:=(r:Int)) hK hr (by omega) (by omega) (by omega) (by omega) ht
    rw [hp.1,hp.2] at hst
    exact absurd ⟨a1 - a,b1 - b,hst,by rw [show a+(a1 - a)=a1 by omega,show b+(b1 - b)=b1 by omega];exact ho⟩ c
   have at':∀ x',0≤x'→x'≤1073741823→HexAt (dvK K) (nuA K x' 0) (nuB K x' 0) a b:=fun x' h1 h2=>by
    obtain ⟨p,q,hn⟩:=nearest_some (d:=dvK K) (dvK_box hK).1 (nuA K x' 0) (nuB K x' 0)
    have:=key p q (tou_at (x:=x') (y:=0) ⟨h1,h2⟩ ⟨by omega,by omega⟩ hn.1)
    rw [← this.1,← this.2]
    exact hn.1
   have k:=one_cell hK (at' 0 (by omega) (by omega)) (at' 1073741823 (by omega) (by omega))
   have hs:sev K≤13841287201:=by
    have:=sev_fin ⟨K,by omega⟩
    simp only [Bool.and_eq_true,decide_eq_true_eq] at this
    omega
   omega
theorem tou_mono {K:Nat} {l1 l2 u1 u2 l1' l2' u1' u2' a b:Int} (h:Tou K l1 l2 u1 u2 a b) (h1:l1'≤l1) (h2:l2'≤l2) (h3:u1≤u1') (h4:u2≤u2'):Tou K l1' l2' u1' u2' a b:=by
 obtain ⟨X,Y,M,hM,hi,⟨k1,k2⟩,k3,k4⟩:=h
 have f:∀ p q:Int,p≤q→M*(3*p)≤M*(3*q):=fun p q hpq=>Int.mul_le_mul_of_nonneg_left (by omega) (by omega)
 exact ⟨X,Y,M,hM,hi,⟨Int.le_trans (f _ _ h1) k1,Int.le_trans k2 (f _ _ h3)⟩,Int.le_trans (f _ _ h2) k3,Int.le_trans k4 (f _ _ h4)⟩
theorem tou_cut {K:Nat} {l1 l2 u1 u2 m a b:Int} (h1:l1≤m) (h2:m≤u1):Tou K l1 l2 u1 u2 a b↔Tou K l1 l2 m u2 a b∨Tou K m l2 u1 u2 a b:=by
 constructor
 · rintro ⟨X,Y,M,hM,hi,⟨k1,k2⟩,k3⟩
   rcases Int.lt_or_le (M*(3*m)) X with c | c
   · exact .inr ⟨X,Y,M,hM,hi,⟨by omega,k2⟩,k3⟩
   · exact .inl ⟨X,Y,M,hM,hi,⟨k1,c⟩,k3⟩
 · rintro (h | h)
   · exact tou_mono h (Int.le_refl _) (Int.le_refl _) h2 (Int.le_refl _)
   · exact tou_mono h h1 (Int.le_refl _) (Int.le_refl _) (Int.le_refl _)
theorem len_two {A B L:List Int} (hA:Rising A) (hB:Rising B) (hL:Rising L) (h:∀ x,x∈L↔x∈A∨x∈B) (hd:∀ x∈A,x ∉ B):A.length+B.length=L.length:=by
 have n1:(A++B).Nodup:=List.nodup_append.2 ⟨rising_nodup hA,rising_nodup hB,fun x hx y hy e=>hd x hx (by rw [e];exact hy)⟩
 have a1:=nodup_len n1 fun x hx=>(h x).2 (List.mem_append.1 hx)
 have a2:=nodup_len (rising_nodup hL) fun x hx=>List.mem_append.2 ((h x).1 hx)
 rw [List.length_append] at a1 a2
 omega
end Go.Proofs.YtdklpgphmoaniabGreatDoor
namespace Go.Proofs.YtdklpgphmoaniabGreatDoor
open Go.RowKit
def TellsCB (K r:Nat) (l1 l2 u1 u2:Int) (e:Ending) (w':World):Prop :=
 (∃ s L,e=.returned (.tuple #[s,.int .i64 0])∧RowAt 0 w' s L∧Rising L∧(∀ x,x∈L↔TW K l1 l2 u1 u2 x r)∧L.length≤20000) ∨
 ((∃ p c,e=.returned (.tuple #[.slice p 0 c,.int .i64 7]))∧Many K l1 l2 u1 u2 r 20000)
def TellsCC (K r:Nat) (l1 l2 u1 u2:Int) (e:Ending) (w':World):Prop :=
 (∃ s L,e=.returned (.tuple #[s,.int .i64 0])∧RowAt 0 w' s L∧Rising L∧(∀ x,x∈L↔TW K l1 l2 u1 u2 x r∧inCB K l1 l2 u1 u2 x=true)∧L.length≤20000) ∨
 ((∃ p c,e=.returned (.tuple #[.slice p 0 c,.int .i64 7]))∧Many K l1 l2 u1 u2 r 20000)
theorem TellsCB.row {K r:Nat} {l1 l2 u1 u2:Int} {e:Ending} {w:World} (h:TellsCB K r l1 l2 u1 u2 e w) (hn:¬ Many K l1 l2 u1 u2 r 20000) :
 ∃ s L,e=.returned (.tuple #[s,.int .i64 0])∧RowAt 0 w s L∧Rising L∧(∀ x,x∈L↔TW K l1 l2 u1 u2 x r)∧L.length≤20000:=h.elim id fun k=>absurd k.2 hn
theorem TellsCC.row {K r:Nat} {l1 l2 u1 u2:Int} {e:Ending} {w:World} (h:TellsCC K r l1 l2 u1 u2 e w) (hn:¬ Many K l1 l2 u1 u2 r 20000) :
 ∃ s L,e=.returned (.tuple #[s,.int .i64 0])∧RowAt 0 w s L∧Rising L∧(∀ x,x∈L↔TW K l1 l2 u1 u2 x r∧inCB K l1 l2 u1 u2 x=true)∧L.length≤20000:=h.elim id fun k=>absurd k.2 hn
theorem TellsCB.many {K r:Nat} {l1 l2 u1 u2:Int} {e:Ending} {w:World} (h:TellsCB K r l1 l2 u1 u2 e w) (hm:Many K l1 l2 u1 u2 r 20000):∃ p c,e=.returned (.tuple #[.slice p 0 c,.int .i64 7]) :=
 h.elim (fun ⟨_,L,_,_,_,h1,h2⟩=>absurd (hm.all h1) (by omega)) fun k=>k.1
theorem TellsCC.many {K r:Nat} {l1 l2 u1 u2:Int} {e:Ending} {w:World} (h:TellsCC K r l1 l2 u1 u2 e w) (hm:∀ L:List Int,(∀ x,x∈L↔TW K l1 l2 u1 u2 x r∧inCB K l1 l2 u1 u2 x=true)→20000 < L.length):∃ p c,e=.returned (.tuple #[.slice p 0 c,.int .i64 7]) :=
 h.elim (fun ⟨_,L,_,_,_,h1,h2⟩=>absurd (hm L h1) (by omega)) fun k=>k.1
theorem few_box {K r:Nat} (hK:K≤12) {l1 l2 u1 u2:Int} (hx:u1 - l1≤8*szK K) (hy:u2 - l2≤8*szK K):¬ Many K l1 l2 u1 u2 r 20000:=fun ⟨L,h1,h2,h3⟩=>by
 have:=box_few hK hx hy h1 h2
 omega
theorem few_point {K r:Nat} (hK:K≤12) (x y:Int):¬ Many K x y x y r 20000:=fun ⟨L,h1,h2,h3⟩=>by
 have:=point_few hK h1 h2
 omega
theorem own_centre {K r:Nat} (hK:K≤12) {a b:Int} (hok:Ok4 (r:Int) a b) (x:Int):x∈[wordOf r a b]↔TW K (poX K a b) (poY K a b) (poX K a b) (poY K a b) x r:=by
 rw [List.mem_singleton]
 constructor
 · rintro rfl
   exact tw_mk hok (tou_at ⟨Int.le_refl _,Int.le_refl _⟩ ⟨Int.le_refl _,Int.le_refl _⟩ (near_self hK a b).1)
 · rintro ⟨h1,h2,h3⟩
   have e:=centre_own hK h3
   have w:=word_cell h1
   rw [h2,e.1,e.2,Int.toNat_natCast] at w
   exact w.symm
theorem row_own {w:World} {x:Int} {g c:Nat} (h:w.cell? ⟨g,0,none⟩=some (.int .u64 x)):RowAt 0 w (.slice (some ⟨g,0,none⟩) 1 c) [x] :=
 .inr ⟨g,c,rfl,Nat.zero_le _,fun j hj=>by
  obtain rfl:j=0:=by simp at hj;omega
  exact h⟩
end Go.Proofs.YtdklpgphmoaniabGreatDoor
