/-
  What the texts UCmp, USet say, so far as this seat's proofs need it.
-/
import Derived.Test.YtbnlhdnnenahfaaGreatDoorSPY
import Derived.Test.YtbnlhdnnenahfaaGreatDoorCV2Y
import Derived.Lib.SlicesS
import Derived.Lib.SlicesCompact
import Derived.Deep.OwnRows
set_option maxHeartbeats 4000000
set_option maxRecDepth 1000000
namespace Go.Proofs.YtbnlhdnnenahfaaGreatDoor
open Go.RowKit Go.Lib
theorem An {w wr:World}{n blk off:Nat}{dk:Array Int}{i:Nat}(hi:i<dk.size)(hwr:wr=Sort.putRow (Value.int .u64) (Sort.ahead w n) blk off dk)(x:Int) :
 (wr.setCell ⟨blk,off+i,none⟩ (.int .u64 x)).drew=Sort.putRow (Value.int .u64) (Sort.ahead w (n+1)) blk off (dk.setIfInBounds i x):=by
 subst hwr;rw[Sort.putRow_set (Value.int .u64) _ blk off dk i x hi,←Sort.ahead_drew];rfl
theorem ot {d:Array Int}(h:∀i j,i<j->j<d.size->d[i]!≤d[j]!):∀m,m<=d.size->aq (compactUpTo d m)/\(∀x,x∈compactUpTo d m↔∃j,j<m/\d[j]! =x)/\(compactUpTo d m).length<=m
 | 0,_=>⟨List.Pairwise.nil,fun x=>by simp[compactUpTo],by simp[compactUpTo]⟩
 | m+1,hm=>by
  obtain⟨h1,h2,h3⟩:=ot h m (by omega);have low:∀x∈compactUpTo d m,∃j,j<m/\d[j]! =x:=fun x hx=>(h2 x).1 hx;rw[compactUpTo_succ];by_cases hk:keeps d m=true
  · rw[if_pos hk];have hlt:∀x∈compactUpTo d m,x<d[m]! :=fun x hx=>by
     obtain⟨j,hj,rfl⟩:=low x hx;unfold keeps at hk;have hk2:=of_decide_eq_true hk;rcases hk2 with e | e
     · omega
     · have g1:=h (m-1) m (by omega) (by omega);rcases Nat.lt_or_ge j (m-1)with k | k
       · have:=h j (m-1) k (by omega);omega
       · obtain rfl:j=m-1:=by omega
         omega
    refine⟨tJ h1 hlt,fun x=>?_,by simp;omega⟩;rw[List.mem_append,List.mem_singleton,h2 x];constructor
    · rintro(⟨j,hj,e⟩ | rfl)
      · exact⟨j,by omega,e⟩
      · exact⟨m,by omega,rfl⟩
    · rintro⟨j,hj,e⟩;by_cases hjm:j=m
      · subst hjm;exact .inr e.symm
      · exact .inl ⟨j,by omega,e⟩
  · rw[if_neg hk,List.append_nil];refine⟨h1,fun x=>?_,by omega⟩;rw[h2 x];constructor
    · rintro⟨j,hj,e⟩;exact⟨j,by omega,e⟩
    · rintro⟨j,hj,e⟩;by_cases hjm:j=m
      · subst hjm;unfold keeps at hk;have hk2:¬(j=0∨d[j]!≠d[j-1]!):=by simpa using hk
        have:d[j]! =d[j-1]! :=by
         by_cases e:d[j]! =d[j-1]!
         · exact e
         · exact absurd (Or.inr e) hk2
        exact⟨j-1,by omega,by rw[←this];exact e⟩
      · exact⟨j,by omega,e⟩
theorem GY (w:World):(zeroValue 35).run Tryz.prog w=.ok (.int .u64 0) w:=by kernel_rfl
theorem sI (blk off cap:Nat)(d:Array Int)(w:World)(hH:Sort.Holds (Value.int .u64) w blk off d)(hsz:d.size<=9223372036854775807)(hcap:d.size<=cap) :
 Calls Tryz.prog 104 #[.slice (some ⟨blk,off,none⟩) d.size cap] w fun e w'=>e=.returned (.slice (some ⟨blk,off,none⟩) (compactUpTo d d.size).length cap)/\∃q,w'=Sort.putRow (Value.int .u64) (Sort.ahead w q) blk off (compactUpTo d d.size++List.replicate (d.size-(compactUpTo d d.size).length) 0).toArray:=by
 have mixed:Tryz.prog.follows Departure.mixedOrders=true:=by kernel_rfl
 have same:∀q,(∀j,j<d.size->keeps d j=true)->(compactUpTo d d.size).length=d.size/\w.drewN q=Sort.putRow (Value.int .u64) (Sort.ahead w q) blk off (compactUpTo d d.size++List.replicate (d.size-(compactUpTo d d.size).length) 0).toArray:=by
  intro q hall;have e:compactUpTo d d.size=d.toList:=by rw[compactUpTo_all d _ hall,range_map_get]
  rw[e];refine⟨by simp,?_⟩;simp only[Array.length_toList,Nat.sub_self,List.replicate_zero,List.append_nil,Array.toArray_toList];exact(Sort.putRow_self (Value.int .u64) (Sort.ahead w q) blk off d (Sort.holds_ahead (Value.int .u64) w q blk off d hH)).symm
 have HS:Hid (∀q,(∀j,j<d.size->keeps d j=true)->(compactUpTo d d.size).length=d.size/\w.drewN q=Sort.putRow (Value.int .u64) (Sort.ahead w q) blk off (compactUpTo d d.size++List.replicate (d.size-(compactUpTo d d.size).length) 0).toArray):=same;clear same;by_cases h2:d.size<2
 · have HH:Hid (Sort.Holds (Value.int .u64) w blk off d):=hH;clear hH
   go_enter Tryz.func104,Tryz.ntmps104
   go_wp2;go_ret;obtain⟨e1,e2⟩:=HS.out 0 (fun j hj=>keeps_lt_one d j (by omega));exact⟨by rw[e1];rfl,0,e2⟩
 · go_enter Tryz.func104,Tryz.ntmps104
   go_wp2
   go_loopg [3] d.size (fun g s3 wr=>∃k q:Nat,1<=k/\k<=d.size/\d.size-k<=g/\s3=.int .i64 k/\wr=w.drewN q/\∀j,j<k->keeps d j=true)
   case atStart=>exact⟨1,0,Nat.le_refl _,by omega,by omega,rfl,rfl,keeps_lt_one d⟩
   case round =>
    obtain⟨k,q,hk1,hk,hg,rfl,rfl,hall⟩:=hrel;by_cases hlt:k<d.size
    · obtain⟨c1,f1⟩:=hH k hlt;obtain⟨c0,f0⟩:=hH (k-1) (by omega);have A:Hid (∀j,j<k->keeps d j=true):=hall;have HH:Hid (Sort.Holds (Value.int .u64) w blk off d):=hH;clear hall hH;generalize hx:d[k]! =x at c1;generalize hy:d[k-1]! =y at c0;have B:Hid (d[k]! =x/\d[k-1]! =y):=⟨hx,hy⟩
      clear hx hy;by_cases hdup:x=y
      · subst hdup;go_wp2_with fail
        go_region_o
        go_wp2;clear c0 c1 f0 f1
        go_loopg [3,5] d.size (fun g s3 s5 wr=>∃(kk k2 q2:Nat) (dk:Array Int),s3=.int .i64 kk/\s5=.int .i64 k2/\1<=k2/\k+k2<=d.size/\d.size-(k+k2)<=g/\wr=Sort.putRow (Value.int .u64) (Sort.ahead w q2) blk off dk/\CompInv d (k+k2) kk dk)
        case atStart=>exact⟨k,1,q+1,d,rfl,rfl,Nat.le_refl _,by omega,by omega,(Sort.putRow_self (Value.int .u64) (Sort.ahead w (q+1)) blk off d (Sort.holds_ahead (Value.int .u64) w (q+1) blk off d HH.out)).symm,CompInv.start A.out (keeps_neg (by omega) (by rw[B.out.1,B.out.2]))⟩
        case round =>
         obtain⟨kk,k2,q2,dk,rfl,rfl,h1,hle,hg2,hwr,hI⟩:=hrel;have hkk:=hI.lt;have hds:=hI.size;have hHk:Sort.Holds (Value.int .u64) wr blk off dk:=by rw[hwr];exact Sort.holds_putRow (Value.int .u64) _ blk off d dk (Sort.holds_ahead (Value.int .u64) w q2 blk off d HH.out) hds
         have W2:Hid (wr=Sort.putRow (Value.int .u64) (Sort.ahead w q2) blk off dk):=hwr;have I2:Hid (CompInv d (k+k2) kk dk):=hI;clear hwr;by_cases hlt2:k+k2<d.size
         · obtain⟨cm,_⟩:=hHk (k+k2) (by omega);obtain⟨cp,_⟩:=hHk (k+k2-1) (by omega);obtain⟨ck,fk⟩:=hHk kk (by omega);rw[hI.high (k+k2) (by omega),show off+(k+k2)=off+k+k2 by omega]at cm;rw[hI.high (k+k2-1) (by omega),show off+(k+k2-1)=off+k+(k2-1)by omega]at cp;clear hHk hI;generalize hu:d[k+k2]! =u at cm;generalize hv:d[k+k2-1]! =v at cp;generalize dk[kk]! =old at ck;have C:Hid (d[k+k2]! =u/\d[k+k2-1]! =v):=⟨hu,hv⟩
           clear hu hv;by_cases huv:u=v
           · subst huv;go_wp2_with fail
             go_region_o
             go_wp2
             go_roundg (d.size-(k+(k2+1)))
             case measure=>omega
             case rel=>exact⟨kk,k2+1,q2+1,dk,rfl,by go_num,by omega,by omega,Nat.le_refl _,by rw[W2.out];rfl,I2.out.skip (keeps_neg (by omega) (by rw[C.out.1,C.out.2]))⟩
           · go_wp2_with fail
             go_region_o
             go_wp2
             go_roundg (d.size-(k+(k2+1)))
             case measure=>omega
             case rel=>exact⟨kk+1,k2+1,q2+1,dk.setIfInBounds kk u,by go_num,by go_num,by omega,by omega,Nat.le_refl _,An (by omega) W2.out u,by have:=I2.out.keep hlt2 (keeps_pos (by rw[C.out.1,C.out.2];exact huv));rwa [C.out.1]at this⟩
         · have hend:k+k2=d.size:=by omega
           have hcl:∀ty,(Builtin.clear_ #[22] ty #[.slice (some ⟨blk,off+kk,none⟩) (d.size-kk) (cap-kk)]).run Tryz.prog wr=.ok (.tuple #[]) (wr.setCells blk (off+kk) (List.replicate (d.size-kk) (.int .u64 0))) :=
            fun ty=>Lib.run_clear_slice wr _ _ ty _ Tryz.underlying22 GY rfl rfl blk (off+kk) _ _ (by omega) (fun j hj=>by rw[show off+kk+j=off+(kk+j)by omega,(hHk (kk+j) (by omega)).1];rfl) (fun j hj=>by rw[show off+kk+j=off+(kk+j)by omega];exact(hHk (kk+j) (by omega)).2)
           clear hHk hI;go_wp2;go_ret;have hI:=I2.out;rw[hend]at hI;refine⟨by rw[hI.len];rfl,q2,?_⟩;rw[hI.len,←hI.done 0,←putRow_setCells (Value.int .u64) _ blk off _ dk kk (by simp;omega),←W2.out,List.map_replicate]
      · go_wp2_with fail
        go_region_o
        go_wp2
        go_roundg (d.size-(k+1))
        case measure=>omega
        case rel =>
         refine⟨k+1,q+1,by omega,by omega,Nat.le_refl _,by go_num,rfl,fun j hj=>?_⟩;by_cases e:j=k
         · subst e;exact keeps_pos (by rw[B.out.1,B.out.2];exact hdup)
         · exact A.out j (by omega)
    · have:k=d.size:=by omega
      subst this;have HH:Hid (Sort.Holds (Value.int .u64) w blk off d):=hH;clear hH;go_wp2;go_ret;obtain⟨e1,e2⟩:=HS.out q hall;exact⟨by rw[e1];rfl,q,e2⟩
end Go.Proofs.YtbnlhdnnenahfaaGreatDoor
namespace Go.Proofs.YtbnlhdnnenahfaaGreatDoor
open Go.RowKit
def qy (C:Nat)(X:List Int)(e:Ending)(w:World):Prop:=∃(g cap:Nat) (L:List Int),e=.returned (.slice (some ⟨g,0,none⟩) L.length cap)/\C<=g/\L.length<=cap/\aq L/\(∀x,x∈L↔x∈X)/\L.length<=X.length/\∀(j:Nat) (hj:j<L.length),w.cell? ⟨g,0+j,none⟩=some (.int .u64 L[j])
def TellsOwn (C:Nat)(X:List Int)(e:Ending)(w:World):Prop:=∃(g cap:Nat) (L:List Int),e=.returned (.slice (some ⟨g,0,none⟩) L.length cap)/\aq L/\(∀x,x∈L↔x∈X)/\L.length<=X.length/\w.ownsRow C 35 1 (.slice (some ⟨g,0,none⟩) L.length cap) L.length (aj L)
theorem TellsOwn.set {C:Nat}{X:List Int}{e:Ending}{w:World}(h:TellsOwn C X e w):qy C X e w:=by
 obtain⟨g,cap,L,h1,h2,h3,h4,h5⟩:=h;have hc:=bn h5;refine⟨g,cap,L,h1,hc.2.2.1,?_,h2,h3,h4,fun j hj=>by rw[Nat.zero_add];exact hc.2.1 j hj⟩;rcases h5.2 with⟨e1,_⟩ | ⟨g2,c2,cur,e1,_,_,hl,_⟩
 · cases e1
 · simp only[Value.slice.injEq,true_and]at e1;rw[e1.2];exact hl
theorem rV (w:World)(g off q:Nat)(d:Array Int):Below g w (Sort.putRow (Value.int .u64) (Sort.ahead w q) g off d):=by
 refine⟨rfl,rfl,rfl,by simp[Sort.putRow,Sort.mapBlock,Sort.ahead],fun k hk=>?_⟩;show(w.heap.modify g _)[k]?=_
 rw[Array.getElem?_modify,if_neg (by omega)]
theorem oC {w:World}{g:Nat}{X:List Int}(h:w.heap[g]?=some (.cells (aj X).toArray 35 (0,0))):Sort.Holds (Value.int .u64) w g 0 X.toArray:=fun j hj=>by
 have hj':j<X.length:=by simpa using hj
 refine⟨?_,?_⟩
 · rw[cell_of_row w g (0+j) _ 35 (0,0) h,Nat.zero_add];simp[aj,hj']
 · simp[World.frozen?,h]
theorem Do {X:List Int}{d:Array Int}{n:Nat}(hX:X.length=n)(hs:fw 0 n X.toArray d)(hd:d.size=n):aq (Lib.compactUpTo d d.size)/\(∀x,x∈Lib.compactUpTo d d.size↔x∈X)/\(Lib.compactUpTo d d.size).length<=X.length:=by
 have hl:=jP hX hs;have f:=ot (d:=d) (fun i j h1 h2=>by
  have:=gB hs.2 (i:=i) (j:=j) (Nat.zero_le _) h1 (by omega);exact this) d.size (Nat.le_refl _)
 refine⟨f.1,fun x=>?_,by omega⟩;rw[f.2.1 x,←hl.1.mem_iff,List.mem_iff_getElem];constructor
 · rintro⟨j,hj,e⟩;refine⟨j,by simpa using hj,?_⟩;rw[←e];simp[hj]
 · rintro⟨j,hj,e⟩;have hj':j<d.size:=by simpa using hj
   refine⟨j,hj',?_⟩;rw[←e];simp[hj']
theorem qT (s:Value)(X:List Int)(hn:X.length<=50000)(w:World)(hl:Lst w s X) :
 Calls Tryz.prog 63 #[s] w fun e w'=>TellsOwn w.heap.size X e w'/\Below w.heap.size w w':=by
 obtain⟨p,cap,rfl,-,hc⟩:=hl;obtain⟨n,hX⟩:∃n,X.length=n:=⟨_,rfl⟩
 have HC:=ab hc;have HX:=ab hX;rw[hX]at hn ⊢;clear hX hc;have hmk:=fun w=>run_make_row' (P:=Tryz.prog) 22 35 (.int .u64 0) 8 Tryz.underlying22 ca rfl .i64 .i64 n (by omega) (by omega) w;obtain⟨w6,hcopy,hrow,hB6⟩:∃w6,(∀ty,(Builtin.copy_ #[22,22] ty #[.slice (some ⟨w.heap.size,0,none⟩) n n,.slice p n cap]).run Tryz.prog (w.alloc (.cells (madeCells #[.int .u64 0] n) 35))=.ok (.int .i64 (n:Int)) w6) /\
  Hid (w6.heap[w.heap.size]?=some (.cells (aj X).toArray 35 (0,0)))/\Hid (Below w.heap.size w w6):=by
  have hinf:(Tryz.prog.info? 35).map (·.size)=some 1:=by kernel_rfl
  have hblk:(w.alloc (.cells (madeCells #[.int .u64 0] n) 35)).heap[w.heap.size]?=some (.cells (madeCells #[.int .u64 0] n) 35 (0,0)):=by show(w.heap.push _)[w.heap.size]?=_;simp
  by_cases h0:n=0
  · subst h0;refine⟨w.alloc (.cells (madeCells #[.int .u64 0] 0) 35),fun ty=>run_copy_none _ _ _ ty _ _ _ _ _ _ _ Tryz.underlying22 hinf rfl,ab ?_,ab (ag w _)⟩;have:X=[]:=List.length_eq_zero_iff.1 HX.out;subst this;rw[hblk];simp[madeCells,aj]
  · obtain⟨g,o,rfl,-⟩:=HC.out 0 (by rw[HX.out];omega);have hlen:(aj X).length=Nat.min n n:=by rw[aD,HX.out];show _=min n n;omega
    have hsrc:∀j v,(aj X)[j]?=some v->(w.alloc (.cells (madeCells #[.int .u64 0] n) 35)).cell? ((⟨g,o,none⟩:Addr).add j)=some v:=fun j v hj=>by
     have hj':j<X.length:=by rw[List.getElem?_eq_some_iff]at hj;rw[←aD];exact hj.1
     obtain⟨g',o',e,hcj⟩:=HC.out j hj';simp only[Option.some.injEq,Addr.mk.injEq,and_true]at e;obtain⟨rfl,rfl⟩:=e;rw[dG X j hj']at hj;rw[Go.WideShapes.add_plain,aa (ag w _) hcj,hj]
    have hrun:=fun ty=>run_copy_row (P:=Tryz.prog) (w.alloc (.cells (madeCells #[.int .u64 0] n) 35)) 22 22 ty 35 w.heap.size 0 n n ⟨g,o,none⟩ n cap (madeCells #[.int .u64 0] n) 35 (aj X) Tryz.underlying22 hinf hblk hlen hsrc (by rw[aD,HX.out,size_madeCells];omega) (jU X);have ec:goInt ((aj X).length:Nat)=.int .i64 (n:Int):=by rw[aD,HX.out];rfl
    refine⟨_,fun ty=>by rw[hrun ty,ec],ab ?_,ab (below_setRow (ag w _) (Nat.le_refl _) _)⟩;rw[setRow_heap _ _ _ _ 35 (0,0) hblk];congr 2;simp[aD,HX.out,size_madeCells]
 have hH:=oC hrow.out;have hsz:w.heap.size<w6.heap.size:=(Array.getElem?_eq_some_iff.1 hrow.out).1;have SO:=ab (AB w.heap.size 0 n n X.toArray (by simp[HX.out]) w6 hH hsz (by omega));clear hH HC
 go_enter Tryz.func63,Tryz.ntmps63
 go_wp2_with fail;refine SO.out.mono ?_;rintro e w7 ⟨rfl,d,hS,hR⟩;have hd:d.size=n:=(jP HX.out hS).2.2;have hB7:=hB6.out.trans hR.2.2.1;have hT7:Hid (∃c',c'.size=n/\w7.heap[w.heap.size]?=some (.cells c' 35 (0,0))):=by
  obtain⟨c',h1,h2⟩:=hR.2.2.2 _ _ _ hrow.out;exact⟨c',by rw[h1];simp[aD,HX.out],h2⟩
 have CM:=sI w.heap.size 0 n d w7 hR.2.1 (by omega) (by omega);have DN:=ab (Do HX.out hS hd);have HH:=ab hR.2.1;rw[hd]at CM;have HD:=ab hd;replace CM:=ab CM;clear hS hR SO hB6 hrow hsz hcopy hmk;go_wp2_with fail;refine CM.out.mono ?_;rintro e w8 ⟨rfl,q,hw8⟩;have hT8:Hid (∃c',c'.size=n/\w8.heap[w.heap.size]?=some (.cells c' 35 (0,0))):=by
  obtain⟨c1,h1,h2⟩:=hT7.out;rw[hw8];obtain⟨c2,h3,h4⟩:=vz w7 w.heap.size 0 q (Lib.compactUpTo d n++List.replicate (n-(Lib.compactUpTo d n).length) 0).toArray _ _ _ h2;exact⟨c2,h3.trans h1,h4⟩
 have hp8:Below w.heap.size w7 w8:=by rw[hw8];exact rV w7 w.heap.size 0 q _
 have hB8:=hB7.trans hp8;have hd:=HD.out;have hsz2:(Lib.compactUpTo d n++List.replicate (n-(Lib.compactUpTo d n).length) 0).toArray.size=d.size:=by
  have:=DN.out.2.2;rw[hd,HX.out]at this;simp;omega
 have hH8:=Sort.holds_putRow (Value.int .u64) (Sort.ahead w7 q) w.heap.size 0 d _ (Sort.holds_ahead (Value.int .u64) w7 q w.heap.size 0 d HH.out) hsz2;rw[←hw8]at hH8;replace hH8:=ab hH8;replace hw8:=ab hw8;clear CM;go_wp2;go_ret;have dn:=DN.out;rw[hd]at dn;have hle:=dn.2.2;rw[HX.out]at hle;obtain⟨c8,e8,t8⟩:=hT8.out;refine⟨⟨w.heap.size,n,_,rfl,dn.1,dn.2.1,dn.2.2,by rw[aD];omega,.inr ⟨w.heap.size,n,c8,rfl,Nat.le_refl _,t8,hle,by unfold maxLen;omega,by omega,?_⟩⟩,hB8⟩;refine List.ext_getElem? fun j=>?_;rw[Nat.mul_one,List.getElem?_take];by_cases hj:j<(Lib.compactUpTo d n).length
 · rw[if_pos hj];have h8:=(hH8.out j (by simp;omega)).1;rw[cell_of_row w8 w.heap.size (0+j) c8 35 (0,0) t8,Nat.zero_add]at h8;rw[Array.getElem?_toList,h8,dG _ j hj];simp;rw[List.getElem?_append_left hj,List.getElem?_eq_getElem hj];rfl
 · rw[if_neg hj,List.getElem?_eq_none (by rw[aD];omega)]
end Go.Proofs.YtbnlhdnnenahfaaGreatDoor
