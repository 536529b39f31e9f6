/-
  The word of a cell made of numbers: its size, and that it is whole; in whatever memory.
-/
import Derived.Test.YtlfjfendlohekaaGreatDoorI2C
import Derived.Test.YtlfjfendlohekaaGreatDoorM2C
import Derived.Sort.WalkA6
import Derived.Sort.Walk13a
import Derived.Sort.LotB
import Derived.Sort.WalkB3
import Derived.Laws.CopyOwn
import Derived.Lib.SlicesS
import Derived.Lib.SlicesCompact
namespace Go.Proofs.YtlfjfendlohekaaGreatDoor
open Go.RowKit
def szOf (r:Int):Int:=(r.tmod 13+13).tmod 13
theorem csome_sz (x0 y0 r0:Int):0≤szOf r0∧szOf r0≤12∧∀ w,Calls Tryz.prog 34 #[.int .i64 x0,.int .i64 y0,.int .i64 r0] w fun e w'=>TellsS (szOf r0) e∧Below w.heap.size w w':=by
 obtain ⟨t,s,K,ht,hs,t1,t2,hK,hr⟩:=size13 r0
 have e:szOf r0=s:=by unfold szOf;rw [ht,hs]
 rw [e]
 refine ⟨by omega,by omega,fun w=>?_⟩
 cases h0:(bits .and .i64 y0 1 == 0) with
 | true =>
  obtain ⟨u,v,hw,PT⟩:=point_any x0 y0
  obtain ⟨a,b,hn⟩:=nearest_some (dvK_box (K:=K) hK).1 (nuA K u v) (nuB K u v)
  exact (csome_point x0 y0 r0 t s _ u v a b ht hs t1 t2 rfl h0 PT (rnear_at u v s K hK hr hw a b hn) w).mono fun e w' ⟨he,hb⟩=>⟨⟨a,b,he,near_ok hK hr hw hn⟩,hb⟩
 | false =>
  obtain ⟨n,rfl⟩:=Int.eq_ofNat_of_zero_le (show 0≤s by omega)
  exact csome_down x0 y0 r0 t n (by omega) _ ht hs t1 t2 rfl h0 w
theorem w_eq {r:Nat} {a b:Int} (h:Ok4 (r:Int) a b):Whole (wordOf r a b)∧wR (wordOf r a b)=r∧cellA (wordOf r a b)=a∧cellB (wordOf r a b)=b∧U64 (wordOf r a b):=by
 have h1:=word_parts h
 have h2:=cell_word h
 exact ⟨h1.1,h1.2.1,h2.1,h2.2,h1.2.2.2.2.2.1,by have:=h1.2.2.2.2.2.2;omega⟩
theorem aword_sz (x0 y0 r0:Int):∃ s:Nat,szOf r0=(s:Int)∧s≤12∧∀ w,Calls Tryz.prog 13 #[.int .i64 x0,.int .i64 y0,.int .i64 r0] w fun e w'=>(∃ v,e=.returned (.int .u64 v)∧Whole v∧wR v=(s:Int)∧U64 v)∧Below w.heap.size w w':=by
 obtain ⟨s0,s12,SO⟩:=csome_sz x0 y0 r0
 obtain ⟨n,hn⟩:=Int.eq_ofNat_of_zero_le s0
 rw [hn] at SO s12
 refine ⟨n,hn,by omega,fun w=>(aword_at x0 y0 r0 n SO w).mono ?_⟩
 rintro e w' ⟨⟨P,Q,rfl,hO⟩,hb⟩
 have h:=w_eq hO
 exact ⟨⟨_,rfl,h.1,h.2.1,h.2.2.2.2⟩,hb⟩
theorem szOf_box {r:Int} (h0:0≤r) (h12:r≤12):szOf r=r:=by unfold szOf;rw [Int.tmod_eq_emod_of_nonneg h0,Int.emod_eq_of_lt h0 (by omega),Int.tmod_eq_emod_of_nonneg (by omega)];omega
end Go.Proofs.YtlfjfendlohekaaGreatDoor
namespace Go.Proofs.YtlfjfendlohekaaGreatDoor
open Go.RowKit Go.Lib
theorem store_u64 {w wr:World} {n blk off:Nat} {dk:Array Int} {i:Nat} (hi:i < dk.size) (hwr:wr=Sort.putRow (Value.int .u64) (Sort.ahead w n) blk off dk) (x:Int) :
 (wr.setCell ⟨blk,off+i,none⟩ (.int .u64 x)).drew=Sort.putRow (Value.int .u64) (Sort.ahead w (n+1)) blk off (dk.setIfInBounds i x):=by
 subst hwr
 rw [Sort.putRow_set (Value.int .u64) _ blk off dk i x hi,← Sort.ahead_drew]
 rfl
theorem upto_facts {d:Array Int} (h:∀ i j,i < j→j < d.size→d[i]!≤d[j]!):∀ m,m≤d.size→Rising (compactUpTo d m)∧(∀ x,x∈compactUpTo d m↔∃ j,j < m∧d[j]! =x)∧(compactUpTo d m).length≤m
 | 0,_=>⟨List.Pairwise.nil,fun x=>by simp [compactUpTo],by simp [compactUpTo]⟩
 | m+1,hm=>by
  obtain ⟨h1,h2,h3⟩:=upto_facts h m (by omega)
  have low:∀ x∈compactUpTo d m,∃ j,j < m∧d[j]! =x:=fun x hx=>(h2 x).1 hx
  rw [compactUpTo_succ]
  by_cases hk:keeps d m=true
  · rw [if_pos hk]
    have hlt:∀ x∈compactUpTo d m,x < d[m]! :=fun x hx=>by
     obtain ⟨j,hj,rfl⟩:=low x hx
     unfold keeps at hk
     have hk2:=of_decide_eq_true hk
     rcases hk2 with e | e
     · omega
     · have g1:=h (m - 1) m (by omega) (by omega)
       rcases Nat.lt_or_ge j (m - 1) with k | k
       · have:=h j (m - 1) k (by omega);omega
       · obtain rfl:j=m - 1:=by omega
         omega
    refine ⟨rising_snoc h1 hlt,fun x=>?_,by simp;omega⟩
    rw [List.mem_append,List.mem_singleton,h2 x]
    constructor
    · rintro (⟨j,hj,e⟩ | rfl)
      · exact ⟨j,by omega,e⟩
      · exact ⟨m,by omega,rfl⟩
    · rintro ⟨j,hj,e⟩
      by_cases hjm:j=m
      · subst hjm;exact .inr e.symm
      · exact .inl ⟨j,by omega,e⟩
  · rw [if_neg hk,List.append_nil]
    refine ⟨h1,fun x=>?_,by omega⟩
    rw [h2 x]
    constructor
    · rintro ⟨j,hj,e⟩;exact ⟨j,by omega,e⟩
    · rintro ⟨j,hj,e⟩
      by_cases hjm:j=m
      · subst hjm
        unfold keeps at hk
        have hk2:¬ (j=0∨d[j]!≠d[j - 1]!):=by simpa using hk
        have:d[j]! =d[j - 1]! :=by
         by_cases e:d[j]! =d[j - 1]!
         · exact e
         · exact absurd (Or.inr e) hk2
        exact ⟨j - 1,by omega,by rw [← this];exact e⟩
      · exact ⟨j,by omega,e⟩
theorem zeroU64 (w:World):(zeroValue 30).run Tryz.prog w=.ok (.int .u64 0) w:=by kernel_rfl
set_option maxHeartbeats 4000000 in
set_option maxRecDepth 1000000 in
theorem ucompact_arr (blk off cap:Nat) (d:Array Int) (w:World) (hH:Sort.Holds (Value.int .u64) w blk off d) (hsz:d.size≤9223372036854775807) (hcap:d.size≤cap) :
 Calls Tryz.prog 58 #[.slice (some ⟨blk,off,none⟩) d.size cap] w fun e w'=>e=.returned (.slice (some ⟨blk,off,none⟩) (compactUpTo d d.size).length cap)∧∃ q,w'=Sort.putRow (Value.int .u64) (Sort.ahead w q) blk off (compactUpTo d d.size++List.replicate (d.size - (compactUpTo d d.size).length) 0).toArray:=by
 have mixed:Tryz.prog.follows Departure.mixedOrders=true:=by kernel_rfl
 have same:∀ q,(∀ j,j < d.size→keeps d j=true)→(compactUpTo d d.size).length=d.size∧w.drewN q=Sort.putRow (Value.int .u64) (Sort.ahead w q) blk off (compactUpTo d d.size++List.replicate (d.size - (compactUpTo d d.size).length) 0).toArray:=by
  intro q hall
  have e:compactUpTo d d.size=d.toList:=by rw [compactUpTo_all d _ hall,range_map_get]
  rw [e]
  refine ⟨by simp,?_⟩
  simp only [Array.length_toList,Nat.sub_self,List.replicate_zero,List.append_nil,Array.toArray_toList]
  exact (Sort.putRow_self (Value.int .u64) (Sort.ahead w q) blk off d (Sort.holds_ahead (Value.int .u64) w q blk off d hH)).symm
 have HS:Hid (∀ q,(∀ j,j < d.size→keeps d j=true)→(compactUpTo d d.size).length=d.size∧w.drewN q=Sort.putRow (Value.int .u64) (Sort.ahead w q) blk off (compactUpTo d d.size++List.replicate (d.size - (compactUpTo d d.size).length) 0).toArray):=same
 clear same
 by_cases h2:d.size < 2
 · have HH:Hid (Sort.Holds (Value.int .u64) w blk off d):=hH
   clear hH
   go_enter Tryz.func58,Tryz.ntmps58
   go_wp2
   go_ret
   obtain ⟨e1,e2⟩:=HS.out 0 (fun j hj=>keeps_lt_one d j (by omega))
   exact ⟨by rw [e1];rfl,0,e2⟩
 · go_enter Tryz.func58,Tryz.ntmps58
   go_wp2
   go_loopg [3] d.size (fun g s3 wr=>∃ k q:Nat,1≤k∧k≤d.size∧d.size - k≤g∧s3=.int .i64 k∧wr=w.drewN q∧∀ j,j < k→keeps d j=true)
   case atStart=>exact ⟨1,0,Nat.le_refl _,by omega,by omega,rfl,rfl,keeps_lt_one d⟩
   case round =>
    obtain ⟨k,q,hk1,hk,hg,rfl,rfl,hall⟩:=hrel
    by_cases hlt:k < d.size
    · obtain ⟨c1,f1⟩:=hH k hlt
      obtain ⟨c0,f0⟩:=hH (k - 1) (by omega)
      have A:Hid (∀ j,j < k→keeps d j=true):=hall
      have HH:Hid (Sort.Holds (Value.int .u64) w blk off d):=hH
      clear hall hH
      generalize hx:d[k]! =x at c1
      generalize hy:d[k - 1]! =y at c0
      have B:Hid (d[k]! =x∧d[k - 1]! =y):=⟨hx,hy⟩
      clear hx hy
      by_cases hdup:x=y
      · subst hdup
        go_wp2_with fail
        go_region_o
        go_wp2
        clear c0 c1 f0 f1
        go_loopg [3,5] d.size (fun g s3 s5 wr=>∃ (kk k2 q2:Nat) (dk:Array Int),s3=.int .i64 kk∧s5=.int .i64 k2∧1≤k2∧k+k2≤d.size∧d.size - (k+k2)≤g∧wr=Sort.putRow (Value.int .u64) (Sort.ahead w q2) blk off dk∧CompInv d (k+k2) kk dk)
        case atStart=>exact ⟨k,1,q+1,d,rfl,rfl,Nat.le_refl _,by omega,by omega,(Sort.putRow_self (Value.int .u64) (Sort.ahead w (q+1)) blk off d (Sort.holds_ahead (Value.int .u64) w (q+1) blk off d HH.out)).symm,CompInv.start A.out (keeps_neg (by omega) (by rw [B.out.1,B.out.2]))⟩
        case round =>
         obtain ⟨kk,k2,q2,dk,rfl,rfl,h1,hle,hg2,hwr,hI⟩:=hrel
         have hkk:=hI.lt
         have hds:=hI.size
         have hHk:Sort.Holds (Value.int .u64) wr blk off dk:=by rw [hwr];exact Sort.holds_putRow (Value.int .u64) _ blk off d dk (Sort.holds_ahead (Value.int .u64) w q2 blk off d HH.out) hds
         have W2:Hid (wr=Sort.putRow (Value.int .u64) (Sort.ahead w q2) blk off dk):=hwr
         have I2:Hid (CompInv d (k+k2) kk dk):=hI
         clear hwr
         by_cases hlt2:k+k2 < d.size
         · obtain ⟨cm,_⟩:=hHk (k+k2) (by omega)
           obtain ⟨cp,_⟩:=hHk (k+k2 - 1) (by omega)
           obtain ⟨ck,fk⟩:=hHk kk (by omega)
           rw [hI.high (k+k2) (by omega),show off+(k+k2)=off+k+k2 by omega] at cm
           rw [hI.high (k+k2 - 1) (by omega),show off+(k+k2 - 1)=off+k+(k2 - 1) by omega] at cp
           clear hHk hI
           generalize hu:d[k+k2]! =u at cm
           generalize hv:d[k+k2 - 1]! =v at cp
           generalize dk[kk]! =old at ck
           have C:Hid (d[k+k2]! =u∧d[k+k2 - 1]! =v):=⟨hu,hv⟩
           clear hu hv
           by_cases huv:u=v
           · subst huv
             go_wp2_with fail
             go_region_o
             go_wp2
             go_roundg (d.size - (k+(k2+1)))
             case measure=>omega
             case rel=>exact ⟨kk,k2+1,q2+1,dk,rfl,by go_num,by omega,by omega,Nat.le_refl _,by rw [W2.out];rfl,I2.out.skip (keeps_neg (by omega) (by rw [C.out.1,C.out.2]))⟩
           · go_wp2_with fail
             go_region_o
             go_wp2
             go_roundg (d.size - (k+(k2+1)))
             case measure=>omega
             case rel=>exact ⟨kk+1,k2+1,q2+1,dk.setIfInBounds kk u,by go_num,by go_num,by omega,by omega,Nat.le_refl _,store_u64 (by omega) W2.out u,by have:=I2.out.keep hlt2 (keeps_pos (by rw [C.out.1,C.out.2];exact huv));rwa [C.out.1] at this⟩
         · have hend:k+k2=d.size:=by omega
           have hcl:∀ ty,(Builtin.clear_ #[24] ty #[.slice (some ⟨blk,off+kk,none⟩) (d.size - kk) (cap - kk)]).run Tryz.prog wr=.ok (.tuple #[]) (wr.setCells blk (off+kk) (List.replicate (d.size - kk) (.int .u64 0))) :=
            fun ty=>Lib.run_clear_slice wr _ _ ty _ Tryz.underlying24 zeroU64 rfl rfl blk (off+kk) _ _ (by omega) (fun j hj=>by rw [show off+kk+j=off+(kk+j) by omega,(hHk (kk+j) (by omega)).1];rfl) (fun j hj=>by rw [show off+kk+j=off+(kk+j) by omega];exact (hHk (kk+j) (by omega)).2)
           clear hHk hI
           go_wp2
           go_ret
           have hI:=I2.out
           rw [hend] at hI
           refine ⟨by rw [hI.len];rfl,q2,?_⟩
           rw [hI.len,← hI.done 0,← putRow_setCells (Value.int .u64) _ blk off _ dk kk (by simp;omega),← W2.out,List.map_replicate]
      · go_wp2_with fail
        go_region_o
        go_wp2
        go_roundg (d.size - (k+1))
        case measure=>omega
        case rel =>
         refine ⟨k+1,q+1,by omega,by omega,Nat.le_refl _,by go_num,rfl,fun j hj=>?_⟩
         by_cases e:j=k
         · subst e
           exact keeps_pos (by rw [B.out.1,B.out.2];exact hdup)
         · exact A.out j (by omega)
    · have:k=d.size:=by omega
      subst this
      have HH:Hid (Sort.Holds (Value.int .u64) w blk off d):=hH
      clear hH
      go_wp2
      go_ret
      obtain ⟨e1,e2⟩:=HS.out q hall
      exact ⟨by rw [e1];rfl,q,e2⟩
end Go.Proofs.YtlfjfendlohekaaGreatDoor
