/-
  Plain facts on rising rows of words that are gone through side by side, on rows without repeats, and on rows of rows.
-/
import Derived.Test.YtdklpgphmoaniabGreatDoorCovHex
import Derived.Sort.WalkA6
import Derived.Sort.Walk13a
import Derived.Sort.LotB
import Derived.Deep.RegionHeld3
import Derived.Sort.WalkB3
import Derived.Deep.CutRange
import Derived.Laws.CopyOwn
import Derived.Shelf.RegionOpenPlain
import Derived.Lib.SlicesS
import Derived.Lib.SlicesCompact
namespace Go.Proofs.YtdklpgphmoaniabGreatDoor
open Go.RowKit
def Took (k:Bool→Bool→Bool) (A B A1 B1 K:List Int):Prop :=
 ∃ A0 B0:List Int,A=A0++A1∧B=B0++B1∧Rising K∧(∀ x,x∈K↔k (decide (x∈A)) (decide (x∈B))=true∧(x∈A0∨x∈B0)) ∧
  (∀ x,x∈A0∨x∈B0→(∀ y∈A1,x < y)∧∀ y∈B1,x < y)∧K.length≤A0.length+B0.length
theorem Took.start (k:Bool→Bool→Bool) (A B:List Int):Took k A B A B [] :=
 ⟨[],[],rfl,rfl,List.Pairwise.nil,fun x=>by simp,fun x h=>by simp at h,by simp⟩
theorem Took.len {k:Bool→Bool→Bool} {A B A1 B1 K:List Int} (h:Took k A B A1 B1 K):K.length+A1.length+B1.length≤A.length+B.length:=by
 obtain ⟨A0,B0,rfl,rfl,-,-,-,h6⟩:=h
 simp only [List.length_append]
 omega
theorem Took.done {k:Bool→Bool→Bool} {A B K:List Int} (h:Took k A B [] [] K):Rising K∧(∀ x,x∈K↔k (decide (x∈A)) (decide (x∈B))=true∧(x∈A∨x∈B)):=by
 obtain ⟨A0,B0,e1,e2,h3,h4,-,-⟩:=h
 rw [List.append_nil] at e1 e2
 subst e1 e2
 exact ⟨h3,h4⟩
theorem rising_head {A0 A1:List Int} {x:Int} (h:Rising (A0++x :: A1)):(∀ y∈A0,y < x)∧(∀ y∈A1,x < y):=by
 have h1:=List.pairwise_append.1 h
 exact ⟨fun y hy=>h1.2.2 y hy x (List.mem_cons_self ..),(List.pairwise_cons.1 h1.2.1).1⟩
theorem rising_snoc {K:List Int} {w:Int} (h:Rising K) (hw:∀ x∈K,x < w):Rising (K++[w]) :=
 List.pairwise_append.2 ⟨h,List.pairwise_singleton _ _,fun x hx y hy=>by rw [List.mem_singleton] at hy;subst hy;exact hw x hx⟩
theorem Took.step {k:Bool→Bool→Bool} {A B A1 B1 A2 B2 K:List Int} {w:Int} {p q:Bool} (h:Took k A B A1 B1 K) (hA:Rising A) (hB:Rising B) (hpq:p=true∨q=true)
 (hp:(p=true∧A1=w :: A2)∨(p=false∧A2=A1∧∀ y∈A1,w < y)) (hq:(q=true∧B1=w :: B2)∨(q=false∧B2=B1∧∀ y∈B1,w < y)) :
 Took k A B A2 B2 (if k p q=true then K++[w] else K):=by
 obtain ⟨A0,B0,e1,e2,h3,h4,h5,h6⟩:=h
 have hwA:decide (w∈A)=p:=by
  rcases hp with ⟨rfl,e⟩ | ⟨rfl,rfl,hw⟩
  · exact decide_eq_true (by rw [e1,e];simp)
  · refine decide_eq_false fun hm=>?_
    rw [e1,List.mem_append] at hm
    rcases hm with hm | hm
    · rcases hpq with h | h
      · cases h
      · rcases hq with ⟨_,e⟩ | ⟨rfl,_⟩
        · have:=(h5 w (.inl hm)).2 w (by rw [e];simp);omega
        · cases h
    · have:=hw w hm;omega
 have hwB:decide (w∈B)=q:=by
  rcases hq with ⟨rfl,e⟩ | ⟨rfl,rfl,hw⟩
  · exact decide_eq_true (by rw [e2,e];simp)
  · refine decide_eq_false fun hm=>?_
    rw [e2,List.mem_append] at hm
    rcases hm with hm | hm
    · rcases hpq with h | h
      · rcases hp with ⟨_,e⟩ | ⟨rfl,_⟩
        · have:=(h5 w (.inr hm)).1 w (by rw [e];simp);omega
        · cases h
      · cases h
    · have:=hw w hm;omega
 have hKw:∀ x∈K,x < w:=fun x hx=>by
  have hx0:=((h4 x).1 hx).2
  rcases hpq with h | h
  · rcases hp with ⟨_,e⟩ | ⟨rfl,_⟩
    · exact (h5 x hx0).1 w (by rw [e];simp)
    · cases h
  · rcases hq with ⟨_,e⟩ | ⟨rfl,_⟩
    · exact (h5 x hx0).2 w (by rw [e];simp)
    · cases h
 obtain ⟨A3,eA,mA,lA,gA⟩:∃ A3,A=A3++A2∧(∀ x,x∈A3↔x∈A0∨(p=true∧x=w))∧A3.length=A0.length+(if p=true then 1 else 0)∧∀ y∈A2,w < y:=by
  rcases hp with ⟨rfl,e⟩ | ⟨rfl,rfl,hw⟩
  · refine ⟨A0++[w],by rw [e1,e];simp,fun x=>by simp,by simp,?_⟩
    rw [e1,e] at hA
    exact (rising_head hA).2
  · exact ⟨A0,e1,fun x=>by simp,by simp,hw⟩
 obtain ⟨B3,eB,mB,lB,gB⟩:∃ B3,B=B3++B2∧(∀ x,x∈B3↔x∈B0∨(q=true∧x=w))∧B3.length=B0.length+(if q=true then 1 else 0)∧∀ y∈B2,w < y:=by
  rcases hq with ⟨rfl,e⟩ | ⟨rfl,rfl,hw⟩
  · refine ⟨B0++[w],by rw [e2,e];simp,fun x=>by simp,by simp,?_⟩
    rw [e2,e] at hB
    exact (rising_head hB).2
  · exact ⟨B0,e2,fun x=>by simp,by simp,hw⟩
 have hor:∀ x,(x∈A3∨x∈B3)↔((x∈A0∨x∈B0)∨x=w):=fun x=>by
  rw [mA,mB]
  rcases hpq with h | h <;>simp only [h,true_and] <;>grind
 refine ⟨A3,B3,eA,eB,?_,fun x=>?_,fun x hx=>?_,?_⟩
 · split
   · exact rising_snoc h3 hKw
   · exact h3
 · rw [hor x]
   by_cases hk:k p q=true
   · rw [if_pos hk,List.mem_append,List.mem_singleton,h4 x]
     constructor
     · rintro (h | rfl)
       · exact ⟨h.1,.inl h.2⟩
       · exact ⟨by rw [hwA,hwB];exact hk,.inr rfl⟩
     · rintro ⟨h1,h | rfl⟩
       · exact .inl ⟨h1,h⟩
       · exact .inr rfl
   · rw [if_neg hk,h4 x]
     constructor
     · rintro ⟨h1,h2⟩;exact ⟨h1,.inl h2⟩
     · rintro ⟨h1,h | rfl⟩
       · exact ⟨h1,h⟩
       · rw [hwA,hwB] at h1;exact absurd h1 hk
 · have s2A:∀ y∈A2,y∈A1:=fun y hy=>by
    rcases hp with ⟨_,e⟩ | ⟨_,e,_⟩
    · rw [e];exact List.mem_cons_of_mem _ hy
    · rw [← e];exact hy
   have s2B:∀ y∈B2,y∈B1:=fun y hy=>by
    rcases hq with ⟨_,e⟩ | ⟨_,e,_⟩
    · rw [e];exact List.mem_cons_of_mem _ hy
    · rw [← e];exact hy
   rcases (hor x).1 hx with h | rfl
   · exact ⟨fun y hy=>(h5 x h).1 y (s2A y hy),fun y hy=>(h5 x h).2 y (s2B y hy)⟩
   · exact ⟨gA,gB⟩
 · rw [lA,lB]
   have:(if k p q=true then K++[w] else K).length≤K.length+1:=by split <;>simp
   rcases hpq with h | h
   · rw [if_pos h];omega
   · rw [if_pos h];omega
def Chosen (k:Bool→Bool→Bool) (A B K:List Int):Prop:=Rising K∧∀ x,x∈K↔k (decide (x∈A)) (decide (x∈B))=true∧(x∈A∨x∈B)
theorem Chosen.one {k:Bool→Bool→Bool} {A B A' B' K K':List Int} (h:Chosen k A B K) (h':Chosen k A' B' K') (eA:∀ x,x∈A↔x∈A') (eB:∀ x,x∈B↔x∈B'):K=K' :=
 rising_ext h.1 h'.1 fun x=>by rw [h.2 x,h'.2 x,decide_eq_decide.2 (eA x),decide_eq_decide.2 (eB x),eA x,eB x]
end Go.Proofs.YtdklpgphmoaniabGreatDoor
namespace Go.Proofs.YtdklpgphmoaniabGreatDoor
open Go.RowKit Go.Lib
theorem store_u64 {w wr:World} {n blk off:Nat} {dk:Array Int} {i:Nat} (hi:i < dk.size) (hwr:wr=Sort.putRow (Value.int .u64) (Sort.ahead w n) blk off dk) (x:Int) :
 (wr.setCell ⟨blk,off+i,none⟩ (.int .u64 x)).drew=Sort.putRow (Value.int .u64) (Sort.ahead w (n+1)) blk off (dk.setIfInBounds i x):=by
 subst hwr
 rw [Sort.putRow_set (Value.int .u64) _ blk off dk i x hi,← Sort.ahead_drew]
 rfl
theorem upto_facts {d:Array Int} (h:∀ i j,i < j→j < d.size→d[i]!≤d[j]!):∀ m,m≤d.size→Rising (compactUpTo d m)∧(∀ x,x∈compactUpTo d m↔∃ j,j < m∧d[j]! =x)∧(compactUpTo d m).length≤m
 | 0,_=>⟨List.Pairwise.nil,fun x=>by simp [compactUpTo],by simp [compactUpTo]⟩
 | m+1,hm=>by
  obtain ⟨h1,h2,h3⟩:=upto_facts h m (by omega)
  have low:∀ x∈compactUpTo d m,∃ j,j < m∧d[j]! =x:=fun x hx=>(h2 x).1 hx
  rw [compactUpTo_succ]
  by_cases hk:keeps d m=true
  · rw [if_pos hk]
    have hlt:∀ x∈compactUpTo d m,x < d[m]! :=fun x hx=>by
     obtain ⟨j,hj,rfl⟩:=low x hx
     unfold keeps at hk
     have hk2:=of_decide_eq_true hk
     rcases hk2 with e | e
     · omega
     · have g1:=h (m - 1) m (by omega) (by omega)
       rcases Nat.lt_or_ge j (m - 1) with k | k
       · have:=h j (m - 1) k (by omega);omega
       · obtain rfl:j=m - 1:=by omega
         omega
    refine ⟨rising_snoc h1 hlt,fun x=>?_,by simp;omega⟩
    rw [List.mem_append,List.mem_singleton,h2 x]
    constructor
    · rintro (⟨j,hj,e⟩ | rfl)
      · exact ⟨j,by omega,e⟩
      · exact ⟨m,by omega,rfl⟩
    · rintro ⟨j,hj,e⟩
      by_cases hjm:j=m
      · subst hjm;exact .inr e.symm
      · exact .inl ⟨j,by omega,e⟩
  · rw [if_neg hk,List.append_nil]
    refine ⟨h1,fun x=>?_,by omega⟩
    rw [h2 x]
    constructor
    · rintro ⟨j,hj,e⟩;exact ⟨j,by omega,e⟩
    · rintro ⟨j,hj,e⟩
      by_cases hjm:j=m
      · subst hjm
        unfold keeps at hk
        have hk2:¬ (j=0∨d[j]!≠d[j - 1]!):=by simpa using hk
        have:d[j]! =d[j - 1]! :=by
         by_cases e:d[j]! =d[j - 1]!
         · exact e
         · exact absurd (Or.inr e) hk2
        exact ⟨j - 1,by omega,by rw [← this];exact e⟩
      · exact ⟨j,by omega,e⟩
theorem zeroU64 (w:World):(zeroValue 36).run Tryz.prog w=.ok (.int .u64 0) w:=by kernel_rfl
set_option maxHeartbeats 4000000 in
set_option maxRecDepth 1000000 in
theorem ucompact_arr (blk off cap:Nat) (d:Array Int) (w:World) (hH:Sort.Holds (Value.int .u64) w blk off d) (hsz:d.size≤9223372036854775807) (hcap:d.size≤cap) :
 Calls Tryz.prog 57 #[.slice (some ⟨blk,off,none⟩) d.size cap] w fun e w'=>e=.returned (.slice (some ⟨blk,off,none⟩) (compactUpTo d d.size).length cap)∧∃ q,w'=Sort.putRow (Value.int .u64) (Sort.ahead w q) blk off (compactUpTo d d.size++List.replicate (d.size - (compactUpTo d d.size).length) 0).toArray:=by
 have mixed:Tryz.prog.follows Departure.mixedOrders=true:=by kernel_rfl
 have same:∀ q,(∀ j,j < d.size→keeps d j=true)→(compactUpTo d d.size).length=d.size∧w.drewN q=Sort.putRow (Value.int .u64) (Sort.ahead w q) blk off (compactUpTo d d.size++List.replicate (d.size - (compactUpTo d d.size).length) 0).toArray:=by
  intro q hall
  have e:compactUpTo d d.size=d.toList:=by rw [compactUpTo_all d _ hall,range_map_get]
  rw [e]
  refine ⟨by simp,?_⟩
  simp only [Array.length_toList,Nat.sub_self,List.replicate_zero,List.append_nil,Array.toArray_toList]
  exact (Sort.putRow_self (Value.int .u64) (Sort.ahead w q) blk off d (Sort.holds_ahead (Value.int .u64) w q blk off d hH)).symm
 have HS:Hid (∀ q,(∀ j,j < d.size→keeps d j=true)→(compactUpTo d d.size).length=d.size∧w.drewN q=Sort.putRow (Value.int .u64) (Sort.ahead w q) blk off (compactUpTo d d.size++List.replicate (d.size - (compactUpTo d d.size).length) 0).toArray):=same
 clear same
 by_cases h2:d.size < 2
 · have HH:Hid (Sort.Holds (Value.int .u64) w blk off d):=hH
   clear hH
   go_enter Tryz.func57,Tryz.ntmps57
   go_wp2
   go_ret
   obtain ⟨e1,e2⟩:=HS.out 0 (fun j hj=>keeps_lt_one d j (by omega))
   exact ⟨by rw [e1];rfl,0,e2⟩
 · go_enter Tryz.func57,Tryz.ntmps57
   go_wp2
   go_loopg [3] d.size (fun g s3 wr=>∃ k q:Nat,1≤k∧k≤d.size∧d.size - k≤g∧s3=.int .i64 k∧wr=w.drewN q∧∀ j,j < k→keeps d j=true)
   case atStart=>exact ⟨1,0,Nat.le_refl _,by omega,by omega,rfl,rfl,keeps_lt_one d⟩
   case round =>
    obtain ⟨k,q,hk1,hk,hg,rfl,rfl,hall⟩:=hrel
    by_cases hlt:k < d.size
    · obtain ⟨c1,f1⟩:=hH k hlt
      obtain ⟨c0,f0⟩:=hH (k - 1) (by omega)
      have A:Hid (∀ j,j < k→keeps d j=true):=hall
      have HH:Hid (Sort.Holds (Value.int .u64) w blk off d):=hH
      clear hall hH
      generalize hx:d[k]! =x at c1
      generalize hy:d[k - 1]! =y at c0
      have B:Hid (d[k]! =x∧d[k - 1]! =y):=⟨hx,hy⟩
      clear hx hy
      by_cases hdup:x=y
      · subst hdup
        go_wp2_with fail
        go_region_o
        go_wp2
        clear c0 c1 f0 f1
        go_loopg [3,5] d.size (fun g s3 s5 wr=>∃ (kk k2 q2:Nat) (dk:Array Int),s3=.int .i64 kk∧s5=.int .i64 k2∧1≤k2∧k+k2≤d.size∧d.size - (k+k2)≤g∧wr=Sort.putRow (Value.int .u64) (Sort.ahead w q2) blk off dk∧CompInv d (k+k2) kk dk)
        case atStart=>exact ⟨k,1,q+1,d,rfl,rfl,Nat.le_refl _,by omega,by omega,(Sort.putRow_self (Value.int .u64) (Sort.ahead w (q+1)) blk off d (Sort.holds_ahead (Value.int .u64) w (q+1) blk off d HH.out)).symm,CompInv.start A.out (keeps_neg (by omega) (by rw [B.out.1,B.out.2]))⟩
        case round =>
         obtain ⟨kk,k2,q2,dk,rfl,rfl,h1,hle,hg2,hwr,hI⟩:=hrel
         have hkk:=hI.lt
         have hds:=hI.size
         have hHk:Sort.Holds (Value.int .u64) wr blk off dk:=by rw [hwr];exact Sort.holds_putRow (Value.int .u64) _ blk off d dk (Sort.holds_ahead (Value.int .u64) w q2 blk off d HH.out) hds
         have W2:Hid (wr=Sort.putRow (Value.int .u64) (Sort.ahead w q2) blk off dk):=hwr
         have I2:Hid (CompInv d (k+k2) kk dk):=hI
         clear hwr
         by_cases hlt2:k+k2 < d.size
         · obtain ⟨cm,_⟩:=hHk (k+k2) (by omega)
           obtain ⟨cp,_⟩:=hHk (k+k2 - 1) (by omega)
           obtain ⟨ck,fk⟩:=hHk kk (by omega)
           rw [hI.high (k+k2) (by omega),show off+(k+k2)=off+k+k2 by omega] at cm
           rw [hI.high (k+k2 - 1) (by omega),show off+(k+k2 - 1)=off+k+(k2 - 1) by omega] at cp
           clear hHk hI
           generalize hu:d[k+k2]! =u at cm
           generalize hv:d[k+k2 - 1]! =v at cp
           generalize dk[kk]! =old at ck
           have C:Hid (d[k+k2]! =u∧d[k+k2 - 1]! =v):=⟨hu,hv⟩
           clear hu hv
           by_cases huv:u=v
           · subst huv
             go_wp2_with fail
             go_region_o
             go_wp2
             go_roundg (d.size - (k+(k2+1)))
             case measure=>omega
             case rel=>exact ⟨kk,k2+1,q2+1,dk,rfl,by go_num,by omega,by omega,Nat.le_refl _,by rw [W2.out];rfl,I2.out.skip (keeps_neg (by omega) (by rw [C.out.1,C.out.2]))⟩
           · go_wp2_with fail
             go_region_o
             go_wp2
             go_roundg (d.size - (k+(k2+1)))
             case measure=>omega
             case rel=>exact ⟨kk+1,k2+1,q2+1,dk.setIfInBounds kk u,by go_num,by go_num,by omega,by omega,Nat.le_refl _,store_u64 (by omega) W2.out u,by have:=I2.out.keep hlt2 (keeps_pos (by rw [C.out.1,C.out.2];exact huv));rwa [C.out.1] at this⟩
         · have hend:k+k2=d.size:=by omega
           have hcl:∀ ty,(Builtin.clear_ #[26] ty #[.slice (some ⟨blk,off+kk,none⟩) (d.size - kk) (cap - kk)]).run Tryz.prog wr=.ok (.tuple #[]) (wr.setCells blk (off+kk) (List.replicate (d.size - kk) (.int .u64 0))) :=
            fun ty=>Lib.run_clear_slice wr _ _ ty _ Tryz.underlying26 zeroU64 rfl rfl blk (off+kk) _ _ (by omega) (fun j hj=>by rw [show off+kk+j=off+(kk+j) by omega,(hHk (kk+j) (by omega)).1];rfl) (fun j hj=>by rw [show off+kk+j=off+(kk+j) by omega];exact (hHk (kk+j) (by omega)).2)
           clear hHk hI
           go_wp2
           go_ret
           have hI:=I2.out
           rw [hend] at hI
           refine ⟨by rw [hI.len];rfl,q2,?_⟩
           rw [hI.len,← hI.done 0,← putRow_setCells (Value.int .u64) _ blk off _ dk kk (by simp;omega),← W2.out,List.map_replicate]
      · go_wp2_with fail
        go_region_o
        go_wp2
        go_roundg (d.size - (k+1))
        case measure=>omega
        case rel =>
         refine ⟨k+1,q+1,by omega,by omega,Nat.le_refl _,by go_num,rfl,fun j hj=>?_⟩
         by_cases e:j=k
         · subst e
           exact keeps_pos (by rw [B.out.1,B.out.2];exact hdup)
         · exact A.out j (by omega)
    · have:k=d.size:=by omega
      subst this
      have HH:Hid (Sort.Holds (Value.int .u64) w blk off d):=hH
      clear hH
      go_wp2
      go_ret
      obtain ⟨e1,e2⟩:=HS.out q hall
      exact ⟨by rw [e1];rfl,q,e2⟩
end Go.Proofs.YtdklpgphmoaniabGreatDoor
