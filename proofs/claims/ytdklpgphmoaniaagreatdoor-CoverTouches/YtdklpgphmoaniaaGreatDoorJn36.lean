/-
  Plain facts on rising rows of words that are gone through side by side, on rows without repeats, and on rows of rows.
-/
import Derived.Lib.SlicesS
import Derived.Lib.SlicesCompact
import Derived.Deep.OwnRows
import Derived.Test.YtdklpgphmoaniaaGreatDoorJn32
namespace Go.Proofs.YtdklpgphmoaniaaGreatDoor
open Go.RowKit
def Took (k:Bool→Bool→Bool) (A B A1 B1 K:List Int):Prop :=
 ∃ A0 B0:List Int,A=A0++A1∧B=B0++B1∧Rising K∧(∀ x,x∈K↔k (decide (x∈A)) (decide (x∈B))=true∧(x∈A0∨x∈B0)) ∧
  (∀ x,x∈A0∨x∈B0→(∀ y∈A1,x < y)∧∀ y∈B1,x < y)∧K.length≤A0.length+B0.length
theorem Took.start (k:Bool→Bool→Bool) (A B:List Int):Took k A B A B [] :=
 ⟨[],[],rfl,rfl,List.Pairwise.nil,fun x=>by simp,fun x h=>by simp at h,by simp⟩
theorem Took.len {k:Bool→Bool→Bool} {A B A1 B1 K:List Int} (h:Took k A B A1 B1 K):K.length+A1.length+B1.length≤A.length+B.length:=by
 obtain ⟨A0,B0,rfl,rfl,-,-,-,h6⟩:=h
 simp only [List.length_append]
 omega
theorem Took.done {k:Bool→Bool→Bool} {A B K:List Int} (h:Took k A B [] [] K):Rising K∧(∀ x,x∈K↔k (decide (x∈A)) (decide (x∈B))=true∧(x∈A∨x∈B)):=by
 obtain ⟨A0,B0,e1,e2,h3,h4,-,-⟩:=h
 rw [List.append_nil] at e1 e2
 subst e1 e2
 exact ⟨h3,h4⟩
theorem rising_head {A0 A1:List Int} {x:Int} (h:Rising (A0++x :: A1)):(∀ y∈A0,y < x)∧(∀ y∈A1,x < y):=by
 have h1:=List.pairwise_append.1 h
 exact ⟨fun y hy=>h1.2.2 y hy x (List.mem_cons_self ..),(List.pairwise_cons.1 h1.2.1).1⟩
theorem rising_snoc {K:List Int} {w:Int} (h:Rising K) (hw:∀ x∈K,x < w):Rising (K++[w]) :=
 List.pairwise_append.2 ⟨h,List.pairwise_singleton _ _,fun x hx y hy=>by rw [List.mem_singleton] at hy;subst hy;exact hw x hx⟩
theorem Took.step {k:Bool→Bool→Bool} {A B A1 B1 A2 B2 K:List Int} {w:Int} {p q:Bool} (h:Took k A B A1 B1 K) (hA:Rising A) (hB:Rising B) (hpq:p=true∨q=true)
 (hp:(p=true∧A1=w :: A2)∨(p=false∧A2=A1∧∀ y∈A1,w < y)) (hq:(q=true∧B1=w :: B2)∨(q=false∧B2=B1∧∀ y∈B1,w < y)) :
 Took k A B A2 B2 (if k p q=true then K++[w] else K):=by
 obtain ⟨A0,B0,e1,e2,h3,h4,h5,h6⟩:=h
 have hwA:decide (w∈A)=p:=by
  rcases hp with ⟨rfl,e⟩ | ⟨rfl,rfl,hw⟩
  · exact decide_eq_true (by rw [e1,e];simp)
  · refine decide_eq_false fun hm=>?_
    rw [e1,List.mem_append] at hm
    rcases hm with hm | hm
    · rcases hpq with h | h
      · cases h
      · rcases hq with ⟨_,e⟩ | ⟨rfl,_⟩
        · have:=(h5 w (.inl hm)).2 w (by rw [e];simp);omega
        · cases h
    · have:=hw w hm;omega
 have hwB:decide (w∈B)=q:=by
  rcases hq with ⟨rfl,e⟩ | ⟨rfl,rfl,hw⟩
  · exact decide_eq_true (by rw [e2,e];simp)
  · refine decide_eq_false fun hm=>?_
    rw [e2,List.mem_append] at hm
    rcases hm with hm | hm
    · rcases hpq with h | h
      · rcases hp with ⟨_,e⟩ | ⟨rfl,_⟩
        · have:=(h5 w (.inr hm)).1 w (by rw [e];simp);omega
        · cases h
      · cases h
    · have:=hw w hm;omega
 have hKw:∀ x∈K,x < w:=fun x hx=>by
  have hx0:=((h4 x).1 hx).2
  rcases hpq with h | h
  · rcases hp with ⟨_,e⟩ | ⟨rfl,_⟩
    · exact (h5 x hx0).1 w (by rw [e];simp)
    · cases h
  · rcases hq with ⟨_,e⟩ | ⟨rfl,_⟩
    · exact (h5 x hx0).2 w (by rw [e];simp)
    · cases h
 obtain ⟨A3,eA,mA,lA,gA⟩:∃ A3,A=A3++A2∧(∀ x,x∈A3↔x∈A0∨(p=true∧x=w))∧A3.length=A0.length+(if p=true then 1 else 0)∧∀ y∈A2,w < y:=by
  rcases hp with ⟨rfl,e⟩ | ⟨rfl,rfl,hw⟩
  · refine ⟨A0++[w],by rw [e1,e];simp,fun x=>by simp,by simp,?_⟩
    rw [e1,e] at hA
    exact (rising_head hA).2
  · exact ⟨A0,e1,fun x=>by simp,by simp,hw⟩
 obtain ⟨B3,eB,mB,lB,gB⟩:∃ B3,B=B3++B2∧(∀ x,x∈B3↔x∈B0∨(q=true∧x=w))∧B3.length=B0.length+(if q=true then 1 else 0)∧∀ y∈B2,w < y:=by
  rcases hq with ⟨rfl,e⟩ | ⟨rfl,rfl,hw⟩
  · refine ⟨B0++[w],by rw [e2,e];simp,fun x=>by simp,by simp,?_⟩
    rw [e2,e] at hB
    exact (rising_head hB).2
  · exact ⟨B0,e2,fun x=>by simp,by simp,hw⟩
 have hor:∀ x,(x∈A3∨x∈B3)↔((x∈A0∨x∈B0)∨x=w):=fun x=>by
  rw [mA,mB]
  rcases hpq with h | h <;>simp only [h,true_and] <;>grind
 refine ⟨A3,B3,eA,eB,?_,fun x=>?_,fun x hx=>?_,?_⟩
 · split
   · exact rising_snoc h3 hKw
   · exact h3
 · rw [hor x]
   by_cases hk:k p q=true
   · rw [if_pos hk,List.mem_append,List.mem_singleton,h4 x]
     constructor
     · rintro (h | rfl)
       · exact ⟨h.1,.inl h.2⟩
       · exact ⟨by rw [hwA,hwB];exact hk,.inr rfl⟩
     · rintro ⟨h1,h | rfl⟩
       · exact .inl ⟨h1,h⟩
       · exact .inr rfl
   · rw [if_neg hk,h4 x]
     constructor
     · rintro ⟨h1,h2⟩;exact ⟨h1,.inl h2⟩
     · rintro ⟨h1,h | rfl⟩
       · exact ⟨h1,h⟩
       · rw [hwA,hwB] at h1;exact absurd h1 hk
 · have s2A:∀ y∈A2,y∈A1:=fun y hy=>by
    rcases hp with ⟨_,e⟩ | ⟨_,e,_⟩
    · rw [e];exact List.mem_cons_of_mem _ hy
    · rw [← e];exact hy
   have s2B:∀ y∈B2,y∈B1:=fun y hy=>by
    rcases hq with ⟨_,e⟩ | ⟨_,e,_⟩
    · rw [e];exact List.mem_cons_of_mem _ hy
    · rw [← e];exact hy
   rcases (hor x).1 hx with h | rfl
   · exact ⟨fun y hy=>(h5 x h).1 y (s2A y hy),fun y hy=>(h5 x h).2 y (s2B y hy)⟩
   · exact ⟨gA,gB⟩
 · rw [lA,lB]
   have:(if k p q=true then K++[w] else K).length≤K.length+1:=by split <;>simp
   rcases hpq with h | h
   · rw [if_pos h];omega
   · rw [if_pos h];omega
def Chosen (k:Bool→Bool→Bool) (A B K:List Int):Prop:=Rising K∧∀ x,x∈K↔k (decide (x∈A)) (decide (x∈B))=true∧(x∈A∨x∈B)
theorem Chosen.one {k:Bool→Bool→Bool} {A B A' B' K K':List Int} (h:Chosen k A B K) (h':Chosen k A' B' K') (eA:∀ x,x∈A↔x∈A') (eB:∀ x,x∈B↔x∈B'):K=K' :=
 rising_ext h.1 h'.1 fun x=>by rw [h.2 x,h'.2 x,decide_eq_decide.2 (eA x),decide_eq_decide.2 (eB x),eA x,eB x]
end Go.Proofs.YtdklpgphmoaniaaGreatDoor
namespace Go.Proofs.YtdklpgphmoaniaaGreatDoor
open Go.RowKit Go.Lib
theorem store_u64 {w wr:World} {n blk off:Nat} {dk:Array Int} {i:Nat} (hi:i < dk.size) (hwr:wr=Sort.putRow (Value.int .u64) (Sort.ahead w n) blk off dk) (x:Int) :
 (wr.setCell ⟨blk,off+i,none⟩ (.int .u64 x)).drew=Sort.putRow (Value.int .u64) (Sort.ahead w (n+1)) blk off (dk.setIfInBounds i x):=by
 subst hwr
 rw [Sort.putRow_set (Value.int .u64) _ blk off dk i x hi,← Sort.ahead_drew]
 rfl
theorem upto_facts {d:Array Int} (h:∀ i j,i < j→j < d.size→d[i]!≤d[j]!):∀ m,m≤d.size→Rising (compactUpTo d m)∧(∀ x,x∈compactUpTo d m↔∃ j,j < m∧d[j]! =x)∧(compactUpTo d m).length≤m
 | 0,_=>⟨List.Pairwise.nil,fun x=>by simp [compactUpTo],by simp [compactUpTo]⟩
 | m+1,hm=>by
  obtain ⟨h1,h2,h3⟩:=upto_facts h m (by omega)
  have low:∀ x∈compactUpTo d m,∃ j,j < m∧d[j]! =x:=fun x hx=>(h2 x).1 hx
  rw [compactUpTo_succ]
  by_cases hk:keeps d m=true
  · rw [if_pos hk]
    have hlt:∀ x∈compactUpTo d m,x < d[m]! :=fun x hx=>by
     obtain ⟨j,hj,rfl⟩:=low x hx
     unfold keeps at hk
     have hk2:=of_decide_eq_true hk
     rcases hk2 with e | e
     · omega
     · have g1:=h (m - 1) m (by omega) (by omega)
       rcases Nat.lt_or_ge j (m - 1) with k | k
       · have:=h j (m - 1) k (by omega);omega
       · obtain rfl:j=m - 1:=by omega
         omega
    refine ⟨rising_snoc h1 hlt,fun x=>?_,by simp;omega⟩
    rw [List.mem_append,List.mem_singleton,h2 x]
    constructor
    · rintro (⟨j,hj,e⟩ | rfl)
      · exact ⟨j,by omega,e⟩
      · exact ⟨m,by omega,rfl⟩
    · rintro ⟨j,hj,e⟩
      by_cases hjm:j=m
      · subst hjm;exact .inr e.symm
      · exact .inl ⟨j,by omega,e⟩
  · rw [if_neg hk,List.append_nil]
    refine ⟨h1,fun x=>?_,by omega⟩
    rw [h2 x]
    constructor
    · rintro ⟨j,hj,e⟩;exact ⟨j,by omega,e⟩
    · rintro ⟨j,hj,e⟩
      by_cases hjm:j=m
      · subst hjm
        unfold keeps at hk
        have hk2:¬ (j=0∨d[j]!≠d[j - 1]!):=by simpa using hk
        have:d[j]! =d[j - 1]! :=by
         by_cases e:d[j]! =d[j - 1]!
         · exact e
         · exact absurd (Or.inr e) hk2
        exact ⟨j - 1,by omega,by rw [← this];exact e⟩
      · exact ⟨j,by omega,e⟩
theorem zeroU64 (w:World):(zeroValue 31).run Tryz.prog w=.ok (.int .u64 0) w:=by kernel_rfl
set_option maxHeartbeats 4000000 in
set_option maxRecDepth 1000000 in
theorem ucompact_arr (blk off cap:Nat) (d:Array Int) (w:World) (hH:Sort.Holds (Value.int .u64) w blk off d) (hsz:d.size≤9223372036854775807) (hcap:d.size≤cap) :
 Calls Tryz.prog 107 #[.slice (some ⟨blk,off,none⟩) d.size cap] w fun e w'=>e=.returned (.slice (some ⟨blk,off,none⟩) (compactUpTo d d.size).length cap)∧∃ q,w'=Sort.putRow (Value.int .u64) (Sort.ahead w q) blk off (compactUpTo d d.size++List.replicate (d.size - (compactUpTo d d.size).length) 0).toArray:=by
 have mixed:Tryz.prog.follows Departure.mixedOrders=true:=by kernel_rfl
 have same:∀ q,(∀ j,j < d.size→keeps d j=true)→(compactUpTo d d.size).length=d.size∧w.drewN q=Sort.putRow (Value.int .u64) (Sort.ahead w q) blk off (compactUpTo d d.size++List.replicate (d.size - (compactUpTo d d.size).length) 0).toArray:=by
  intro q hall
  have e:compactUpTo d d.size=d.toList:=by rw [compactUpTo_all d _ hall,range_map_get]
  rw [e]
  refine ⟨by simp,?_⟩
  simp only [Array.length_toList,Nat.sub_self,List.replicate_zero,List.append_nil,Array.toArray_toList]
  exact (Sort.putRow_self (Value.int .u64) (Sort.ahead w q) blk off d (Sort.holds_ahead (Value.int .u64) w q blk off d hH)).symm
 have HS:Hid (∀ q,(∀ j,j < d.size→keeps d j=true)→(compactUpTo d d.size).length=d.size∧w.drewN q=Sort.putRow (Value.int .u64) (Sort.ahead w q) blk off (compactUpTo d d.size++List.replicate (d.size - (compactUpTo d d.size).length) 0).toArray):=same
 clear same
 by_cases h2:d.size < 2
 · have HH:Hid (Sort.Holds (Value.int .u64) w blk off d):=hH
   clear hH
   go_enter Tryz.func107,Tryz.ntmps107
   go_wp2
   go_ret
   obtain ⟨e1,e2⟩:=HS.out 0 (fun j hj=>keeps_lt_one d j (by omega))
   exact ⟨by rw [e1];rfl,0,e2⟩
 · go_enter Tryz.func107,Tryz.ntmps107
   go_wp2
   go_loopg [3] d.size (fun g s3 wr=>∃ k q:Nat,1≤k∧k≤d.size∧d.size - k≤g∧s3=.int .i64 k∧wr=w.drewN q∧∀ j,j < k→keeps d j=true)
   case atStart=>exact ⟨1,0,Nat.le_refl _,by omega,by omega,rfl,rfl,keeps_lt_one d⟩
   case round =>
    obtain ⟨k,q,hk1,hk,hg,rfl,rfl,hall⟩:=hrel
    by_cases hlt:k < d.size
    · obtain ⟨c1,f1⟩:=hH k hlt
      obtain ⟨c0,f0⟩:=hH (k - 1) (by omega)
      have A:Hid (∀ j,j < k→keeps d j=true):=hall
      have HH:Hid (Sort.Holds (Value.int .u64) w blk off d):=hH
      clear hall hH
      generalize hx:d[k]! =x at c1
      generalize hy:d[k - 1]! =y at c0
      have B:Hid (d[k]! =x∧d[k - 1]! =y):=⟨hx,hy⟩
      clear hx hy
      by_cases hdup:x=y
      · subst hdup
        go_wp2_with fail
        go_region_o
        go_wp2
        clear c0 c1 f0 f1
        go_loopg [3,5] d.size (fun g s3 s5 wr=>∃ (kk k2 q2:Nat) (dk:Array Int),s3=.int .i64 kk∧s5=.int .i64 k2∧1≤k2∧k+k2≤d.size∧d.size - (k+k2)≤g∧wr=Sort.putRow (Value.int .u64) (Sort.ahead w q2) blk off dk∧CompInv d (k+k2) kk dk)
        case atStart=>exact ⟨k,1,q+1,d,rfl,rfl,Nat.le_refl _,by omega,by omega,(Sort.putRow_self (Value.int .u64) (Sort.ahead w (q+1)) blk off d (Sort.holds_ahead (Value.int .u64) w (q+1) blk off d HH.out)).symm,CompInv.start A.out (keeps_neg (by omega) (by rw [B.out.1,B.out.2]))⟩
        case round =>
         obtain ⟨kk,k2,q2,dk,rfl,rfl,h1,hle,hg2,hwr,hI⟩:=hrel
         have hkk:=hI.lt
         have hds:=hI.size
         have hHk:Sort.Holds (Value.int .u64) wr blk off dk:=by rw [hwr];exact Sort.holds_putRow (Value.int .u64) _ blk off d dk (Sort.holds_ahead (Value.int .u64) w q2 blk off d HH.out) hds
         have W2:Hid (wr=Sort.putRow (Value.int .u64) (Sort.ahead w q2) blk off dk):=hwr
         have I2:Hid (CompInv d (k+k2) kk dk):=hI
         clear hwr
         by_cases hlt2:k+k2 < d.size
         · obtain ⟨cm,_⟩:=hHk (k+k2) (by omega)
           obtain ⟨cp,_⟩:=hHk (k+k2 - 1) (by omega)
           obtain ⟨ck,fk⟩:=hHk kk (by omega)
           rw [hI.high (k+k2) (by omega),show off+(k+k2)=off+k+k2 by omega] at cm
           rw [hI.high (k+k2 - 1) (by omega),show off+(k+k2 - 1)=off+k+(k2 - 1) by omega] at cp
           clear hHk hI
           generalize hu:d[k+k2]! =u at cm
           generalize hv:d[k+k2 - 1]! =v at cp
           generalize dk[kk]! =old at ck
           have C:Hid (d[k+k2]! =u∧d[k+k2 - 1]! =v):=⟨hu,hv⟩
           clear hu hv
           by_cases huv:u=v
           · subst huv
             go_wp2_with fail
             go_region_o
             go_wp2
             go_roundg (d.size - (k+(k2+1)))
             case measure=>omega
             case rel=>exact ⟨kk,k2+1,q2+1,dk,rfl,by go_num,by omega,by omega,Nat.le_refl _,by rw [W2.out];rfl,I2.out.skip (keeps_neg (by omega) (by rw [C.out.1,C.out.2]))⟩
           · go_wp2_with fail
             go_region_o
             go_wp2
             go_roundg (d.size - (k+(k2+1)))
             case measure=>omega
             case rel=>exact ⟨kk+1,k2+1,q2+1,dk.setIfInBounds kk u,by go_num,by go_num,by omega,by omega,Nat.le_refl _,store_u64 (by omega) W2.out u,by have:=I2.out.keep hlt2 (keeps_pos (by rw [C.out.1,C.out.2];exact huv));rwa [C.out.1] at this⟩
         · have hend:k+k2=d.size:=by omega
           have hcl:∀ ty,(Builtin.clear_ #[34] ty #[.slice (some ⟨blk,off+kk,none⟩) (d.size - kk) (cap - kk)]).run Tryz.prog wr=.ok (.tuple #[]) (wr.setCells blk (off+kk) (List.replicate (d.size - kk) (.int .u64 0))) :=
            fun ty=>Lib.run_clear_slice wr _ _ ty _ Tryz.underlying34 zeroU64 rfl rfl blk (off+kk) _ _ (by omega) (fun j hj=>by rw [show off+kk+j=off+(kk+j) by omega,(hHk (kk+j) (by omega)).1];rfl) (fun j hj=>by rw [show off+kk+j=off+(kk+j) by omega];exact (hHk (kk+j) (by omega)).2)
           clear hHk hI
           go_wp2
           go_ret
           have hI:=I2.out
           rw [hend] at hI
           refine ⟨by rw [hI.len];rfl,q2,?_⟩
           rw [hI.len,← hI.done 0,← putRow_setCells (Value.int .u64) _ blk off _ dk kk (by simp;omega),← W2.out,List.map_replicate]
      · go_wp2_with fail
        go_region_o
        go_wp2
        go_roundg (d.size - (k+1))
        case measure=>omega
        case rel =>
         refine ⟨k+1,q+1,by omega,by omega,Nat.le_refl _,by go_num,rfl,fun j hj=>?_⟩
         by_cases e:j=k
         · subst e
           exact keeps_pos (by rw [B.out.1,B.out.2];exact hdup)
         · exact A.out j (by omega)
    · have:k=d.size:=by omega
      subst this
      have HH:Hid (Sort.Holds (Value.int .u64) w blk off d):=hH
      clear hH
      go_wp2
      go_ret
      obtain ⟨e1,e2⟩:=HS.out q hall
      exact ⟨by rw [e1];rfl,q,e2⟩
end Go.Proofs.YtdklpgphmoaniaaGreatDoor
namespace Go.Proofs.YtdklpgphmoaniaaGreatDoor
open Go.RowKit
def TellsSet (C:Nat) (X:List Int) (e:Ending) (w:World):Prop:=∃ (g cap:Nat) (L:List Int),e=.returned (.slice (some ⟨g,0,none⟩) L.length cap)∧C≤g∧L.length≤cap∧Rising L∧(∀ x,x∈L↔x∈X)∧L.length≤X.length∧∀ (j:Nat) (hj:j < L.length),w.cell? ⟨g,0+j,none⟩=some (.int .u64 L[j])
def TellsOwn (C:Nat) (X:List Int) (e:Ending) (w:World):Prop:=∃ (g cap:Nat) (L:List Int),e=.returned (.slice (some ⟨g,0,none⟩) L.length cap)∧Rising L∧(∀ x,x∈L↔x∈X)∧L.length≤X.length∧w.ownsRow C 31 1 (.slice (some ⟨g,0,none⟩) L.length cap) L.length (vals L)
theorem TellsOwn.set {C:Nat} {X:List Int} {e:Ending} {w:World} (h:TellsOwn C X e w):TellsSet C X e w:=by
 obtain ⟨g,cap,L,h1,h2,h3,h4,h5⟩:=h
 have hc:=own_cells h5
 refine ⟨g,cap,L,h1,hc.2.2.1,?_,h2,h3,h4,fun j hj=>by rw [Nat.zero_add];exact hc.2.1 j hj⟩
 rcases h5.2 with ⟨e1,_⟩ | ⟨g2,c2,cur,e1,_,_,hl,_⟩
 · cases e1
 · simp only [Value.slice.injEq,true_and] at e1
   rw [e1.2];exact hl
theorem putRow_below (w:World) (g off q:Nat) (d:Array Int):Below g w (Sort.putRow (Value.int .u64) (Sort.ahead w q) g off d):=by
 refine ⟨rfl,rfl,rfl,by simp [Sort.putRow,Sort.mapBlock,Sort.ahead],fun k hk=>?_⟩
 show (w.heap.modify g _)[k]?=_
 rw [Array.getElem?_modify,if_neg (by omega)]
theorem holds_of_block {w:World} {g:Nat} {X:List Int} (h:w.heap[g]?=some (.cells (vals X).toArray 31 (0,0))):Sort.Holds (Value.int .u64) w g 0 X.toArray:=fun j hj=>by
 have hj':j < X.length:=by simpa using hj
 refine ⟨?_,?_⟩
 · rw [cell_of_row w g (0+j) _ 31 (0,0) h,Nat.zero_add]
   simp [vals,hj']
 · simp [World.frozen?,h]
theorem set_done {X:List Int} {d:Array Int} {n:Nat} (hX:X.length=n) (hs:Sorts 0 n X.toArray d) (hd:d.size=n):Rising (Lib.compactUpTo d d.size)∧(∀ x,x∈Lib.compactUpTo d d.size↔x∈X)∧(Lib.compactUpTo d d.size).length≤X.length:=by
 have hl:=sorts_list hX hs
 have f:=upto_facts (d:=d) (fun i j h1 h2=>by
  have:=sorted_le hs.2 (i:=i) (j:=j) (Nat.zero_le _) h1 (by omega)
  exact this) d.size (Nat.le_refl _)
 refine ⟨f.1,fun x=>?_,by omega⟩
 rw [f.2.1 x,← hl.1.mem_iff,List.mem_iff_getElem]
 constructor
 · rintro ⟨j,hj,e⟩
   refine ⟨j,by simpa using hj,?_⟩
   rw [← e]
   simp [hj]
 · rintro ⟨j,hj,e⟩
   have hj':j < d.size:=by simpa using hj
   refine ⟨j,hj',?_⟩
   rw [← e]
   simp [hj']
set_option maxHeartbeats 4000000 in
set_option maxRecDepth 20000 in
theorem cset_row (s:Value) (X:List Int) (hn:X.length≤50000) (w:World) (hl:Lst w s X) :
 Calls Tryz.prog 70 #[s] w fun e w'=>TellsOwn w.heap.size X e w'∧Below w.heap.size w w':=by
 obtain ⟨p,cap,rfl,-,hc⟩:=hl
 obtain ⟨n,hX⟩:∃ n,X.length=n:=⟨_,rfl⟩
 have HC:=hidd hc
 have HX:=hidd hX
 rw [hX] at hn ⊢
 clear hX hc
 have hmk:=fun w=>run_make_row' (P:=Tryz.prog) 34 31 (.int .u64 0) 8 Tryz.underlying34 infoU64 rfl .i64 .i64 n (by omega) (by omega) w
 obtain ⟨w6,hcopy,hrow,hB6⟩:∃ w6,(∀ ty,(Builtin.copy_ #[34,34] ty #[.slice (some ⟨w.heap.size,0,none⟩) n n,.slice p n cap]).run Tryz.prog (w.alloc (.cells (madeCells #[.int .u64 0] n) 31))=.ok (.int .i64 (n:Int)) w6) ∧
  Hid (w6.heap[w.heap.size]?=some (.cells (vals X).toArray 31 (0,0)))∧Hid (Below w.heap.size w w6):=by
  have hinf:(Tryz.prog.info? 31).map (·.size)=some 1:=by kernel_rfl
  have hblk:(w.alloc (.cells (madeCells #[.int .u64 0] n) 31)).heap[w.heap.size]?=some (.cells (madeCells #[.int .u64 0] n) 31 (0,0)):=by show (w.heap.push _)[w.heap.size]?=_;simp
  by_cases h0:n=0
  · subst h0
    refine ⟨w.alloc (.cells (madeCells #[.int .u64 0] 0) 31),fun ty=>run_copy_none _ _ _ ty _ _ _ _ _ _ _ Tryz.underlying34 hinf rfl,hidd ?_,hidd (allocB w _)⟩
    have:X=[]:=List.length_eq_zero_iff.1 HX.out
    subst this
    rw [hblk]
    simp [madeCells,vals]
  · obtain ⟨g,o,rfl,-⟩:=HC.out 0 (by rw [HX.out];omega)
    have hlen:(vals X).length=Nat.min n n:=by rw [vals_len,HX.out];show _=min n n;omega
    have hsrc:∀ j v,(vals X)[j]?=some v→(w.alloc (.cells (madeCells #[.int .u64 0] n) 31)).cell? ((⟨g,o,none⟩:Addr).add j)=some v:=fun j v hj=>by
     have hj':j < X.length:=by rw [List.getElem?_eq_some_iff] at hj;rw [← vals_len];exact hj.1
     obtain ⟨g',o',e,hcj⟩:=HC.out j hj'
     simp only [Option.some.injEq,Addr.mk.injEq,and_true] at e
     obtain ⟨rfl,rfl⟩:=e
     rw [vals_at X j hj'] at hj
     rw [Go.WideShapes.add_plain,keepCell (allocB w _) hcj,hj]
    have hrun:=fun ty=>run_copy_row (P:=Tryz.prog) (w.alloc (.cells (madeCells #[.int .u64 0] n) 31)) 34 34 ty 31 w.heap.size 0 n n ⟨g,o,none⟩ n cap (madeCells #[.int .u64 0] n) 31 (vals X) Tryz.underlying34 hinf hblk hlen hsrc (by rw [vals_len,HX.out,size_madeCells];omega) (vals_one X)
    have ec:goInt ((vals X).length:Nat)=.int .i64 (n:Int):=by rw [vals_len,HX.out];rfl
    refine ⟨_,fun ty=>by rw [hrun ty,ec],hidd ?_,hidd (below_setRow (allocB w _) (Nat.le_refl _) _)⟩
    rw [setRow_heap _ _ _ _ 31 (0,0) hblk]
    congr 2
    simp [vals_len,HX.out,size_madeCells]
 have hH:=holds_of_block hrow.out
 have hsz:w.heap.size < w6.heap.size:=(Array.getElem?_eq_some_iff.1 hrow.out).1
 have SO:=hidd (u_sort w.heap.size 0 n n X.toArray (by simp [HX.out]) w6 hH hsz (by omega))
 clear hH HC
 go_enter Tryz.func70,Tryz.ntmps70
 go_wp2_with fail
 refine SO.out.mono ?_
 rintro e w7 ⟨rfl,d,hS,hR⟩
 have hd:d.size=n:=(sorts_list HX.out hS).2.2
 have hB7:=hB6.out.trans hR.2.2.1
 have hT7:Hid (∃ c',c'.size=n∧w7.heap[w.heap.size]?=some (.cells c' 31 (0,0))):=by
  obtain ⟨c',h1,h2⟩:=hR.2.2.2 _ _ _ hrow.out
  exact ⟨c',by rw [h1];simp [vals_len,HX.out],h2⟩
 have CM:=ucompact_arr w.heap.size 0 n d w7 hR.2.1 (by omega) (by omega)
 have DN:=hidd (set_done HX.out hS hd)
 have HH:=hidd hR.2.1
 rw [hd] at CM
 have HD:=hidd hd
 replace CM:=hidd CM
 clear hS hR SO hB6 hrow hsz hcopy hmk
 go_wp2_with fail
 refine CM.out.mono ?_
 rintro e w8 ⟨rfl,q,hw8⟩
 have hT8:Hid (∃ c',c'.size=n∧w8.heap[w.heap.size]?=some (.cells c' 31 (0,0))):=by
  obtain ⟨c1,h1,h2⟩:=hT7.out
  rw [hw8]
  obtain ⟨c2,h3,h4⟩:=tag_put w7 w.heap.size 0 q (Lib.compactUpTo d n++List.replicate (n - (Lib.compactUpTo d n).length) 0).toArray _ _ _ h2
  exact ⟨c2,h3.trans h1,h4⟩
 have hp8:Below w.heap.size w7 w8:=by rw [hw8];exact putRow_below w7 w.heap.size 0 q _
 have hB8:=hB7.trans hp8
 have hd:=HD.out
 have hsz2:(Lib.compactUpTo d n++List.replicate (n - (Lib.compactUpTo d n).length) 0).toArray.size=d.size:=by
  have:=DN.out.2.2
  rw [hd,HX.out] at this
  simp;omega
 have hH8:=Sort.holds_putRow (Value.int .u64) (Sort.ahead w7 q) w.heap.size 0 d _ (Sort.holds_ahead (Value.int .u64) w7 q w.heap.size 0 d HH.out) hsz2
 rw [← hw8] at hH8
 replace hH8:=hidd hH8
 replace hw8:=hidd hw8
 clear CM
 go_wp2
 go_ret
 have dn:=DN.out
 rw [hd] at dn
 have hle:=dn.2.2
 rw [HX.out] at hle
 obtain ⟨c8,e8,t8⟩:=hT8.out
 refine ⟨⟨w.heap.size,n,_,rfl,dn.1,dn.2.1,dn.2.2,by rw [vals_len];omega,.inr ⟨w.heap.size,n,c8,rfl,Nat.le_refl _,t8,hle,by unfold maxLen;omega,by omega,?_⟩⟩,hB8⟩
 refine List.ext_getElem? fun j=>?_
 rw [Nat.mul_one,List.getElem?_take]
 by_cases hj:j < (Lib.compactUpTo d n).length
 · rw [if_pos hj]
   have h8:=(hH8.out j (by simp;omega)).1
   rw [cell_of_row w8 w.heap.size (0+j) c8 31 (0,0) t8,Nat.zero_add] at h8
   rw [Array.getElem?_toList,h8,vals_at _ j hj]
   simp
   rw [List.getElem?_append_left hj,List.getElem?_eq_getElem hj]
   rfl
 · rw [if_neg hj,List.getElem?_eq_none (by rw [vals_len];omega)]
theorem cset (s:Value) (X:List Int) (hn:X.length≤50000) (w:World) (hl:Lst w s X) :
 Calls Tryz.prog 70 #[s] w fun e w'=>TellsSet w.heap.size X e w'∧Below w.heap.size w w' :=
 (cset_row s X hn w hl).mono fun _ _ h=>⟨h.1.set,h.2⟩
theorem lst_ownQ {w:World} {base:Nat} {v:Value} {L:List Int} {n:Nat} (hn:L.length=n) (h:w.ownsRow base 31 1 v n (vals L)):Lst w v L:=by
 subst hn
 rcases h.2 with ⟨e1,e2⟩ | ⟨g,cap,cur,e1,_,_,hl,_⟩
 · exact ⟨none,0,by rw [e1,e2],by omega,fun j hj=>by omega⟩
 · subst e1
   have hc:=own_cells h
   exact ⟨some ⟨g,0,none⟩,cap,rfl,hl,fun j hj=>⟨g,0,rfl,by rw [Nat.zero_add];exact hc.2.1 j hj⟩⟩
def wdL (r:Nat) (S:List (Int × Int)):List Int:=S.map fun p=>wordOf r p.1 p.2
theorem wdL_len (r:Nat) (S:List (Int × Int)):(wdL r S).length=S.length:=by simp [wdL]
theorem wdL_step (r:Nat) (S:List (Int × Int)) {j:Nat} (hj:j < S.length):wdL r (S.take (j+1))=wdL r (S.take j)++[wordOf r S[j].1 S[j].2]:=by
 unfold wdL
 rw [List.take_add_one,List.getElem?_eq_getElem hj,List.map_append]
 rfl
set_option maxHeartbeats 8000000 in
set_option maxRecDepth 100000 in
theorem q_words (r:Nat) (b0:Nat) (sv:Value) (S0:List (Int × Int)) (hok:∀ p∈S0,Ok4 (r:Int) p.1 p.2) (hn:S0.length≤50000) (w:World) (hT:Tabs w) (hO:RowE b0 sv S0 w) :
 Calls Tryz.prog 37 #[sv,.int .i64 (r:Int)] w fun e w'=>TellsSet w.heap.size (wdL r S0) e w'∧Below w.heap.size w w':=by
 have OF:=hidd fun p (hp:p∈S0) w hT=>iof_yes r p.1 p.2 (hok p hp) w hT
 have HT:=hidd hT
 have HO:=hidd hO
 obtain ⟨sp,sc,rfl⟩:=hO.any
 have NN:=hidd hn
 obtain ⟨n,en⟩:∃ n,S0.length=n:=⟨_,rfl⟩
 rw [en] at HO hn ⊢
 have EN:=hidd en
 clear hT hO hok en
 obtain ⟨i0,hi,hz0,hz1,hz2⟩:=info_partsQ infoU64
 go_enter Tryz.func37,Tryz.ntmps37
 go_wp2
 go_loopw [5,12] (fun v5 v12 wr=>∃ j:Nat,j≤n∧v12=.int .i64 (j:Int)∧Hid (wr.ownsRow w.heap.size 31 1 v5 j (vals (wdL r (S0.take j))))∧Hid (Below w.heap.size w wr)) (fun _ v12 _=>n - (intOf v12).toNat)
 case atStart=>exact ⟨0,by omega,rfl,hidd (World.ownsRow_nil _ _ _ _),hidd (Below.refl _ _)⟩
 case round =>
  obtain ⟨j,hj,rfl,OW,B⟩:=hrel
  obtain ⟨vp,vc,rfl⟩:=own_any OW.out
  by_cases hjn:j < n
  · have hjn':(j:Int) < (n:Int):=by omega
    have hjL:j < S0.length:=by rw [EN.out];exact hjn
    have hrow:RowE b0 (.slice sp S0.length sc) S0 wr:=RowE.keep (by have:=HO.out;rwa [← EN.out] at this) B.out
    obtain ⟨g,c2,e,-,y0,y1⟩:=hrow.at_ j hjL
    rw [EN.out] at e
    simp only [Value.slice.injEq] at e
    obtain ⟨rfl,-,rfl⟩:=e
    have al:=allocB wr (.cells #[.int .i64 S0[j].1,.int .i64 S0[j].2] 23)
    have ST:=hidd (wdL_step r S0 hjL)
    have B1:=hidd (belowT B.out al)
    have P1:=hidd (OF.out S0[j] (List.getElem_mem hjL) _ (HT.out.below B1.out))
    have O1:=hidd (own_keep al OW.out)
    clear hrow al OW B OF
    generalize wordOf r S0[j].1 S0[j].2=x at *
    generalize S0[j].1=a at *
    generalize S0[j].2=b at *
    go_wp2_with fail
    refine P1.out.mono ?_
    rintro e w3 ⟨rfl,b3⟩
    have B3:=hidd (belowT B1.out b3)
    have O3:=hidd (own_keep b3 O1.out)
    have hs3:=B3.out.size
    clear P1 O1 B1 b3 y0 y1
    go_wp2_with (at_builtin;refine wpList_append_lies _ rfl (.tmp 23) (.tmp 25) 34 rfl w.heap.size 31 i0 (.int .u64 0) 1 8 Tryz.underlying34 hi hz0 hz1 hz2 rfl (by decide) (.slice vp j vc) _ _ rfl (own_keep (allocB _ _) O3.out) ⟨w3.heap.size,0,none⟩ 1 1 [.int .u64 x] rfl rfl (one_lies _ _ rfl _ _) (one_int _ _) (by decide) (by unfold maxLen;omega) (by omega) (by simp;omega) (w3.heap.size+1) (by simp) ?_;intro g6 q6 w6 hown hgrow hat hlt6)
    have R6:=hidd (show w6.ownsRow w.heap.size 31 1 (.slice (some ⟨g6,0,none⟩) (j+1) q6) (j+1) (vals (wdL r (S0.take (j+1)))) by
     rw [ST.out]
     unfold vals at hown ⊢
     rw [List.map_append]
     exact hown)
    have hne:∀ k,(Value.slice vp j vc).ownBlock=some k→w.heap.size≤k:=fun k e=>(World.ownsRow.lt O3.out k e).1
    have B6:=hidd ((belowT B3.out (allocB _ _)).grown hgrow (by simp;omega) (fun k e=>by have:=hne k e;omega))
    clear hown hgrow hat B3 O3 hne
    go_roundw
    case rel=>exact ⟨j+1,by omega,by go_num,R6,B6⟩
    case measure=>simp [intOf];omega
  · obtain rfl:j=n:=by omega
    have hjn':decide ((j:Int) < (j:Int))=false:=by simp
    have hX:wdL r (S0.take j)=wdL r S0:=by rw [← EN.out,List.take_length]
    rw [hX] at OW
    have CS:=hidd (cset_row _ (wdL r S0) (by rw [wdL_len,EN.out];omega) _ (lst_ownQ (by rw [wdL_len,EN.out]) OW.out))
    clear hX OW
    go_wp2_with fail
    refine CS.out.mono ?_
    rintro e w3 ⟨h3,b3⟩
    have hsz:=B.out.size
    have B3:=hidd (belowT B.out b3)
    have H3:=hidd h3.set
    obtain ⟨g,cap,L,rfl,-⟩:=h3
    clear CS b3
    go_wp2
    go_ret
    refine ⟨?_,B3.out⟩
    obtain ⟨g',cap',L',e',k1,k2,k3,k4,k5,k6⟩:=H3.out
    exact ⟨g',cap',L',e',by omega,k2,k3,k4,k5,k6⟩
end Go.Proofs.YtdklpgphmoaniaaGreatDoor
