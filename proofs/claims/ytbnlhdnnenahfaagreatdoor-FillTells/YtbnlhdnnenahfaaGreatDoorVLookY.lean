/-
  What the document's own Same, Has and Set tell of lists of words that lie anywhere; in whatever memory. (Walked as in RLook and RSet.)
-/
import Derived.Test.YtbnlhdnnenahfaaGreatDoorSPY
import Derived.Test.YtbnlhdnnenahfaaGreatDoorCV1Y
set_option maxHeartbeats 8000000
set_option maxRecDepth 20000
namespace Go.Proofs.YtbnlhdnnenahfaaGreatDoor
open Go.RowKit
theorem JT (s:Value)(L:List Int)(x:Int)(hx:U64 x)(hR:aq L)(hU:∀y∈L,U64 y)(hn:L.length<=100000)(w:World)(h1:Lst w s L) :
 Calls Tryz.prog 13 #[s,.int .u64 x] w fun e w'=>e=.returned (.bool (decide (x∈L)))/\Below w.heap.size w w':=by
 obtain⟨p,c,rfl,-,hp⟩:=h1;obtain⟨n,en⟩:∃n,L.length=n:=⟨_,rfl⟩
 have HP:=ab hp;have EN:=ab en;have HR:=ab hR;have HU:=ab hU;obtain⟨x0,x1⟩:=hx;rw[en]at hn ⊢;clear hp en hR hU
 go_enter Tryz.func13,Tryz.ntmps13
 go_wp2_with fail;go_loopw [5,6] (fun v5 v6 wr=>∃lo hi:Nat,lo<=hi/\hi<=n/\v5=.int .i64 (lo:Int)/\v6=.int .i64 (hi:Int)/\Hid (Seek L x lo hi)/\Below w.heap.size w wr) (fun v5 v6 _=>(intOf v6-intOf v5).toNat)
 case atStart=>exact⟨0,n,by omega,by omega,rfl,rfl,ab ⟨fun t ht hl=>by omega,fun t ht hl=>by have:=EN.out;omega⟩,Below.refl _ _⟩
 case round =>
  obtain⟨lo,hi,h1,h2,rfl,rfl,hS,hB⟩:=hrel;by_cases hlh:lo<hi
  · obtain⟨mid,hmid⟩:∃mid,(lo+hi) / 2=mid:=⟨_,rfl⟩
    have m1:lo<=mid:=by omega
    have m2:mid<hi:=by omega
    have m3:mid<n:=by omega
    have em:((lo:Int)+(hi:Int)).tdiv 2=(mid:Int):=by rw[Int.tdiv_eq_ediv_of_nonneg (by omega)];omega
    clear hmid;have hmL:mid<L.length:=by rw[EN.out];exact m3
    obtain⟨g,o,rfl,cy⟩:=HP.out mid hmL;replace cy:=aa hB cy;obtain⟨y0,y1⟩:=HU.out _ (List.getElem_mem hmL);have hUp:=ab (fun h=>hS.out.up HR.out hmL h);have hDn:=ab (fun h=>hS.out.down HR.out hmL h);generalize L[mid]=y at *;have hlh':(lo:Int)<(hi:Int):=by omega
    have hq:y<x∨decide (y<x)=false:=by simp only[decide_eq_false_iff_not];omega
    rcases hq with hq | hq
    · go_wp2_with fail;go_roundw
      case rel=>exact⟨mid+1,hi,by omega,by omega,by go_num,rfl,ab (hUp.out hq),hB⟩
      case measure=>simp[intOf];omega
    · go_wp2_with fail;go_roundw
      case rel=>exact⟨lo,mid,by omega,by omega,rfl,rfl,ab (hDn.out (by simpa using hq)),hB⟩
      case measure=>simp[intOf];omega
  · obtain rfl:lo=hi:=by omega
    have hlh':decide ((lo:Int)<(lo:Int))=false:=by simp
    by_cases hln:lo<n
    · have hmL:lo<L.length:=by rw[EN.out];exact hln
      obtain⟨g,o,rfl,cy⟩:=HP.out lo hmL;replace cy:=aa hB cy;have hD:Hid (decide (x∈L)=(L[lo] == x)):=by
       refine ab ?_;by_cases e:L[lo]=x
       · rw[decide_eq_true (e ▸ List.getElem_mem hmL)];simp[e]
       · rw[decide_eq_false]
         · simp[e]
         · intro hm;obtain⟨t,ht,et⟩:=List.mem_iff_getElem.1 hm;rcases Nat.lt_or_ge t lo with k | k
           · have:=hS.out.1 t ht k;omega
           · have h3:=hS.out.2 lo hmL (Nat.le_refl _);have h4:=ga HR.out hmL ht k;omega
      have hln':(lo:Int)<(n:Int):=by omega
      generalize L[lo]=y at *;clear hS HP HR HU EN;go_wp2_with fail;go_ret;exact⟨by rw[hD.out];rfl,hB⟩
    · have hD:Hid (decide (x∈L)=false):=by
       refine ab (decide_eq_false fun hm=>?_);obtain⟨t,ht,et⟩:=List.mem_iff_getElem.1 hm;have:=hS.out.1 t ht (by rw[EN.out]at ht;omega);omega
      have hln':decide ((lo:Int)<(n:Int))=false:=df (by omega);have hln2:decide (lo<n)=false:=df (by omega);clear hS HP HR HU EN;go_wp2_with fail;go_ret;exact⟨by rw[hD.out];rfl,hB⟩
theorem mu (X:List Int)(n:Nat)(hX:X.length=n)(hn:n<=20000)(hDX:∀x∈X,U64 x)(pl:Option Addr)(cap:Nat)(w:World)
 (hl:∀(j:Nat) (hj:j<X.length),∃g o,pl=some ⟨g,o,none⟩/\w.cell? ⟨g,o+j,none⟩=some (.int .u64 X[j])) :
 Calls Tryz.prog 12 #[.slice pl n cap] w fun e w'=>(∃(v:Value) (L:List Int),e=.returned v/\aq L/\(∀x,x∈L↔x∈X)/\L.length<=n/\w'.ownsRow w.heap.size 35 1 v L.length (aj L))/\Below w.heap.size w w':=by
 replace hl:Hid _:=hl;replace hDX:Hid _:=hDX;have hX0:Hid _:=hX;clear hX;obtain⟨i0,hi,hz0,hz1,hz2⟩:=info_parts ca
 go_enter Tryz.func12,Tryz.ntmps12
 go_wp2_with fail;go_loopw [3,4] (fun v3 v4 wr=>∃(k m:Nat) (L:List Int),k<=n/\v4=.int .i64 (k:Int)/\Hid (m<=k/\L.length=m/\aq L/\∀x,x∈L↔x∈X.take k)/\Hid (wr.ownsRow w.heap.size 35 1 v3 m (aj L))/\Below w.heap.size w wr) (fun _ v4 _=>n-(intOf v4).toNat)
 case atStart=>exact⟨0,0,[],by omega,rfl,ab ⟨by omega,rfl,List.Pairwise.nil,fun x=>by simp⟩,World.ownsRow_nil _ _ _ _,by go_grown⟩
 case round =>
  obtain⟨k,m,L,hk,rfl,hM,hO,hB⟩:=hrel;obtain⟨wO,rfl⟩:∃z,z=wr:=⟨_,rfl⟩
  obtain⟨p,c,rfl,hp⟩:=aA hO.out;replace hp:Hid _:=hp;have hmk:=hM.out.1;have hm2:m<=20000:=by omega
  by_cases hlt:k<n
  · have hxk:k<X.length:=by rw[hX0.out];exact hlt
    have hDx:Hid (U64 X[k]):=hDX.out _ (List.getElem_mem hxk);have hTK:Hid (X.take (k+1)=X.take k++[X[k]]):=ab (fH hxk);obtain⟨gl,ol,rfl,hlk0⟩:=hl.out k hxk;have hgl:gl<w.heap.size:=World.block_lt_of_cell? _ _ hlk0;have c0:=aI hB hlk0 hgl;have hlk:Hid (w.cell? ⟨gl,ol+k,none⟩=some (.int .u64 X[k])):=hlk0;clear hlk0;have hxu:=hDx.out;generalize X[k]=x at *;obtain⟨x0,x1⟩:=hxu;have hO2:=hO;have hB2:=hB;go_wp2_with fail;go_loopw [5,6] (fun v5 v6 w2=>∃lo hi:Nat,lo<=hi/\hi<=m/\v5=.int .i64 (lo:Int)/\v6=.int .i64 (hi:Int)/\Below wO.heap.size wO w2/\Hid (Seek L x lo hi)) (fun v5 v6 _=>(intOf v6-intOf v5).toNat)
    case atStart=>exact⟨0,m,by omega,by omega,rfl,rfl,Below.refl _ _,ab ⟨fun t ht hl=>by omega,fun t ht hl=>by have:=hM.out.2.1;omega⟩⟩
    case round =>
     obtain⟨lo,hi',h1,h2,rfl,rfl,hb2,hSK⟩:=hrel;by_cases hlh:lo<hi'
     · obtain⟨mid,hmid⟩:∃mid,(lo+hi') / 2=mid:=⟨_,rfl⟩
       have m1:lo<=mid:=by omega
       have m2:mid<hi':=by omega
       have m3:mid<m:=by omega
       have em:((lo:Int)+(hi':Int)).tdiv 2=(mid:Int):=by rw[Int.tdiv_eq_ediv_of_nonneg (by omega)];omega
       clear hmid;obtain⟨g,rfl⟩:=il hp.out (by omega);have hmL:mid<L.length:=by rw[hM.out.2.1];exact m3
       have cy:=(ai hb2 hO.out).cellAt mid (by omega);rw[dG L mid hmL]at cy;have cx:=aa hb2 c0;have hyu:=hDX.out _ (List.mem_of_mem_take ((hM.out.2.2.2 _).1 (List.getElem_mem hmL)));have hUp:=ab (fun h=>hSK.out.up hM.out.2.2.1 hmL h);have hDn:=ab (fun h=>hSK.out.down hM.out.2.2.1 hmL h);generalize L[mid]=y at *;obtain⟨y0,y1⟩:=hyu;have hlh':(lo:Int)<(hi':Int):=by omega
       clear hxk hmL;have hq:y<x∨decide (y<x)=false:=by simp only[decide_eq_false_iff_not];omega
       rcases hq with hq | hq
       · go_wp2_with fail
         go_quiet (fail)
         go_wp2;go_roundw
         case rel=>exact⟨mid+1,hi',by omega,by omega,by go_num,rfl,hb2.trans ⟨rfl,rfl,rfl,Nat.le_refl _,fun _ _=>rfl⟩,ab (hUp.out hq)⟩
         case measure=>simp[intOf];omega
       · go_wp2_with fail
         go_quiet (fail)
         go_wp2;go_roundw
         case rel=>exact⟨lo,mid,by omega,by omega,rfl,rfl,hb2.trans ⟨rfl,rfl,rfl,Nat.le_refl _,fun _ _=>rfl⟩,ab (hDn.out (by simpa using hq))⟩
         case measure=>simp[intOf];omega
     · obtain rfl:lo=hi':=by omega
       have hlh':decide ((lo:Int)<(lo:Int))=false:=by simp
       have cx:=aa hb2 c0;have hOc:Hid (wr.ownsRow w.heap.size 35 1 (.slice p m c) m (aj L)):=ai hb2 hO.out;have hBc:=hB.trans (hb2.mono hB.size);have hcase:((lo:Int)<(m:Int)/\Hid (x∈L)/\∃g,p=some ⟨g,0,none⟩/\wr.cell? ⟨g,lo,none⟩=some (.int .u64 x))∨((lo:Int)<(m:Int)/\Hid (∀(t:Nat) (ht:t<L.length),lo<=t->x<L[t])/\∃g,p=some ⟨g,0,none⟩/\∃y,wr.cell? ⟨g,lo,none⟩=some (.int .u64 y)/\(y == x)=false)∨(Hid (∀(t:Nat) (ht:t<L.length),lo<=t->x<L[t])/\decide (lo<m)=false):=by
        by_cases h:lo<m
        · obtain⟨g,rfl⟩:=il hp.out (by omega);have hmL:lo<L.length:=by rw[hM.out.2.1];exact h
          have cy:=hOc.out.cellAt lo (by omega);rw[dG L lo hmL]at cy;by_cases hxy:L[lo]=x
          · exact .inl ⟨by omega,ab (hxy ▸ List.getElem_mem hmL),g,rfl,by rw[cy,hxy]⟩
          · refine .inr (.inl ⟨by omega,ab fun t ht hl=>?_,g,rfl,_,cy,by simpa using hxy⟩);have h3:=hSK.out.2 lo hmL (Nat.le_refl _);have h4:=ga hM.out.2.2.1 hmL ht hl;omega
        · exact .inr (.inr ⟨ab fun t ht hl=>by have:=hM.out.2.1;omega,decide_eq_false h⟩)
       clear hO2 hB2 hxk;have hLow:=ab hSK.out.1;clear hSK;rcases hcase with⟨hlm,hxL,g,rfl,cy⟩ | ⟨hlm,hHi,g,rfl,y,cy,hxy⟩ | ⟨hHi,hlm⟩
       · have hm0:0<m:=by omega
         go_wp2_with fail
         go_quiet (fail)
         have dq:Below wr.heap.size wr (wr.drewN nq):=⟨rfl,rfl,rfl,Nat.le_refl _,fun _ _=>rfl⟩
         generalize wr.drewN nq=wq at *;have hOq:Hid (wq.ownsRow w.heap.size 35 1 (.slice (some ⟨g,0,none⟩) m c) m (aj L)):=ai dq hOc.out;have hBq:=hBc.trans (dq.mono hBc.size);go_wp2;go_roundw
         case rel =>
          refine⟨k+1,m,L,by omega,by go_num,ab ⟨by omega,hM.out.2.1,hM.out.2.2.1,fun y=>?_⟩,hOq,hBq⟩;rw[hTK.out,List.mem_append,List.mem_singleton,←hM.out.2.2.2 y];constructor
          · exact fun h=>.inl h
          · rintro(h | rfl)
            · exact h
            · exact hxL.out
         case measure=>simp[intOf];omega
       all_goals
        go_wp2_with fail
        go_quiet (fail)
        have dq:Below wr.heap.size wr (wr.drewN nq):=⟨rfl,rfl,rfl,Nat.le_refl _,fun _ _=>rfl⟩
        generalize wr.drewN nq=wq at *;have hOq:=ab (ai dq hOc.out);have hBq:=hBc.trans (dq.mono hBc.size);have cxq:=aa dq cx;have hBqs:=hBq.size;have hqs:=dq.size;have hBcs:=hBc.size;go_wp2_with (at_builtin;refine wpList_append_own _ rfl (.tmp 50) (.tmp 51) 22 rfl w.heap.size 35 i0 (.int .u64 0) 1 8 Tryz.underlying22 hi hz0 hz1 hz2 rfl (by decide) _ _ _ rfl (ai (ag _ _) hOq.out) ⟨wq.heap.size,0,none⟩ 1 1 [.int .u64 0] rfl rfl (bf _ _ rfl _ _) (bK _ _) (by unfold maxLen;omega) (by omega) (by simp;omega) ?_)
        intro v' w5 hown hgrow _;have hB5:=(hBq.alloc hBqs (.cells #[.int .u64 0] 35)).grown hgrow (by simp;omega) (aM hOq.out);have cx5:=ab (aI hB5 hlk.out hgl);clear hOq hBq cxq dq hgrow cx hOc hBc hb2 c0 hB hO hp hBqs hqs hBcs;obtain⟨g',c',rfl⟩:=cA hown (by omega);obtain⟨hlen,hown2⟩:=hown;rcases hown2 with⟨h,_⟩ | ⟨g2,c2,cur,h,hbg,hg2,hnc,hcm,hcs,htake⟩
        · cases h
        simp only[Value.slice.injEq,Option.some.injEq,Addr.mk.injEq,and_true,true_and]at h;obtain⟨rfl,rfl⟩:=h;have hloL:lo<=L.length:=by rw[hM.out.2.1];exact h2
        have hIN:=ab (pz hM.out.2.2.1 hloL hLow.out hHi.out);have hcl:cur.toList.length=c':=by simpa using hcs
        have htk:cur.toList.take (m+1)=aj L++[.int .u64 0]:=by simpa using htake
        have hcsl:((aj L).drop lo).length=m-lo:=by rw[List.length_drop,aD,hM.out.2.1]
        replace hM:Hid _:=hM;obtain⟨CS,eCS⟩:∃CS,(aj L).drop lo=CS:=⟨_,rfl⟩
        have hsrc:∀j v,CS[j]?=some v->w5.cell? ((⟨g',lo,none⟩:Addr).add j)=some v:=by
         intro j v hj;have hjl:j<CS.length:=by rw[List.getElem?_eq_some_iff]at hj;exact hj.1
         rw[←eCS,hcsl]at hjl;rw[show(⟨g',lo,none⟩:Addr).add j=⟨g',lo+j,none⟩by simp[Addr.add],cell_of_row w5 g' (lo+j) cur 35 (0,0) hg2,←Array.getElem?_toList];have e1:(cur.toList.take (m+1))[lo+j]?=cur.toList[lo+j]?:=by rw[List.getElem?_take,if_pos (by omega)]
         rw[←e1,htk,List.getElem?_append_left (by rw[aD,hM.out.2.1];omega),←hj,←eCS,List.getElem?_drop]
        rw[eCS]at hcsl;have hone:∀v∈CS,v.oneCell'=true:=by
         intro v hv;rw[←eCS]at hv;have:=List.mem_of_mem_drop hv;unfold aj at this;obtain⟨y,_,rfl⟩:=List.mem_map.1 this;rfl
        replace hsrc:Hid _:=hsrc;replace hone:Hid _:=hone;replace htk:Hid _:=htk;have eCS':Hid _:=eCS;have hg5:w5.heap[g']?=some (.cells cur.toList.toArray 35 (0,0)):=by simpa using hg2
        replace hg5:Hid _:=hg5;generalize cur.toList=CL at *;have hmc:m+1<=c':=hnc;clear htake hg2 eCS hlen hcs;have hw1:IntKind.i64.wrap ((lo:Int)+1)=(lo:Int)+1:=by rw[IntKind.wrap_i64];omega
        have hw2:(0:Int)<=(lo:Int)+1:=by omega
        have hw3:(lo:Int)+1<=(m:Int)+1:=by omega
        have hw4:(lo:Int)<=(m:Int)+1:=by omega
        have hw5:lo<=m+1:=by omega
        have hw6:¬c'=lo:=by omega
        have hw7:((lo:Int)+1).toNat=lo+1:=by omega
        have hinf:Hid ((Tryz.prog.info? 35).map (·.size)=some 1):=by show _=_;kernel_rfl
        have hn1:Hid (CS.length=Nat.min (m+1-lo) (m-lo)):=by show _=min _ _;omega
        have hfit:Hid (lo+1+CS.length<=CL.length):=by show _<=_;omega
        by_cases hc1:c'=lo+1
        · first
           | (exfalso;omega)
           | (obtain rfl:=hc1
              obtain rfl:m=lo:=by omega
              have hn2:Hid (CS.length=Nat.min 1 0):=by show _=min _ _;omega
              have hw8:(m:Int)<=(m:Int)+1:=by omega
              go_wp2_with fail
              go_region_law (refine step_copy_splice rfl (.tmp 56) (.tmp 59) 22 22 rfl 35 Tryz.underlying22 hinf.out (some ⟨g',0,none⟩) (some ⟨g',m,none⟩) 0 0 1 1 (by simp[Act.eval,Act.put]) (by simp[Act.eval,Act.put]) g' (m+1) CL 35 hg5.out CS hn2.out (fun hp0=>by exfalso;omega) hfit.out hone.out w.heap.size w hB5.drew hbg ?_;intro w6 hg6 hB6)
              have hspl:(splice CL (m+1) CS).length=(m+1):=by rw[length_splice _ _ _ hfit.out];exact hcl
              have own6:w6.ownsRow w.heap.size 35 1 (.slice (some ⟨g',0,none⟩) (m+1) (m+1)) (m+1) ((splice CL (m+1) CS).take (m+1)) :=
               ⟨by rw[List.length_take,hspl];omega,.inr ⟨g',(m+1),(splice CL (m+1) CS).toArray,rfl,hbg,hg6.out,hnc,hcm,by simp[hspl],by simp⟩⟩
              have own7:=(own6.stored m (.int .u64 x)).1;rw[←eCS'.out,lA hM.out.2.1 h2 htk.out]at own7;obtain⟨z,hz⟩:∃z,w6.cell? ⟨g',m,none⟩=some z:=by
               rw[own6.cellAt m (by omega),List.getElem?_eq_getElem (by rw[List.length_take,hspl];omega)];exact⟨_,rfl⟩
              have hfz:=own6.frozenAt m;have cx6:w6.cell? ⟨gl,ol+k,none⟩=some (.int .u64 x):=aI hB6 hlk.out hgl;have hL':(L.take m++(x :: L.drop m)).length=m+1/\aq (L.take m++(x :: L.drop m))/\∀y,y∈L.take m++(x :: L.drop m)↔y∈X.take (k+1):=by
               refine⟨by simp[hM.out.2.1] <;>omega,hIN.out.1,fun y=>?_⟩;rw[hIN.out.2 y,hTK.out,List.mem_append,List.mem_singleton,hM.out.2.2.2 y]
              have hB7:=hB6.setCell (p:=⟨g',m,none⟩) (by simpa using hbg) (.int .u64 x);replace own7:=ab own7;replace hL':=ab hL';replace hB7:=ab hB7;clear own6 hspl hg6 hsrc hone htk eCS' hg5 cx5 hl hlk hfit hn1 hinf hcsl;go_wp2;go_roundw
              case rel=>exact⟨k+1,m+1,_,by omega,by go_num,ab ⟨by omega,hL'.out⟩,own7,hB7.out⟩
              case measure=>simp[intOf];omega)
        · go_wp2_with fail
          go_region_law (refine step_copy_splice rfl (.tmp 56) (.tmp 59) 22 22 rfl 35 Tryz.underlying22 hinf.out (some ⟨g',lo+1,none⟩) (some ⟨g',lo,none⟩) (m-lo) (c'-(lo+1)) (m+1-lo) (c'-lo) (by simp[Act.eval,Act.put]) (by simp[Act.eval,Act.put]) g' (lo+1) CL 35 hg5.out CS hn1.out (fun _=>⟨rfl,_,rfl,hsrc.out⟩) hfit.out hone.out w.heap.size w hB5.drew hbg ?_;intro w6 hg6 hB6)
          have hspl:(splice CL (lo+1) CS).length=c':=by rw[length_splice _ _ _ hfit.out];exact hcl
          have own6:w6.ownsRow w.heap.size 35 1 (.slice (some ⟨g',0,none⟩) (m+1) c') (m+1) ((splice CL (lo+1) CS).take (m+1)) :=
           ⟨by rw[List.length_take,hspl];omega,.inr ⟨g',c',(splice CL (lo+1) CS).toArray,rfl,hbg,hg6.out,hnc,hcm,by simp[hspl],by simp⟩⟩
          have own7:=(own6.stored lo (.int .u64 x)).1;rw[←eCS'.out,lA hM.out.2.1 h2 htk.out]at own7;obtain⟨z,hz⟩:∃z,w6.cell? ⟨g',lo,none⟩=some z:=by
           rw[own6.cellAt lo (by omega),List.getElem?_eq_getElem (by rw[List.length_take,hspl];omega)];exact⟨_,rfl⟩
          have hfz:=own6.frozenAt lo;have cx6:w6.cell? ⟨gl,ol+k,none⟩=some (.int .u64 x):=aI hB6 hlk.out hgl;have hL':(L.take lo++(x :: L.drop lo)).length=m+1/\aq (L.take lo++(x :: L.drop lo))/\∀y,y∈L.take lo++(x :: L.drop lo)↔y∈X.take (k+1):=by
           refine⟨by simp[hM.out.2.1] <;>omega,hIN.out.1,fun y=>?_⟩;rw[hIN.out.2 y,hTK.out,List.mem_append,List.mem_singleton,hM.out.2.2.2 y]
          have hB7:=hB6.setCell (p:=⟨g',lo,none⟩) (by simpa using hbg) (.int .u64 x);replace own7:=ab own7;replace hL':=ab hL';replace hB7:=ab hB7;clear own6 hspl hg6 hsrc hone htk eCS' hg5 cx5 hl hlk hfit hn1 hinf hcsl;go_wp2;go_roundw
          case rel=>exact⟨k+1,m+1,_,by omega,by go_num,ab ⟨by omega,hL'.out⟩,own7,hB7.out⟩
          case measure=>simp[intOf];omega
  · obtain rfl:k=n:=by omega
    have hfin:Hid (aq L/\(∀y,y∈L↔y∈X)/\L.length<=k/\wO.ownsRow w.heap.size 35 1 (.slice p m c) L.length (aj L)):=by
     refine ab ⟨hM.out.2.2.1,fun y=>?_,by rw[hM.out.2.1];omega,by rw[hM.out.2.1];exact hO.out⟩;rw[hM.out.2.2.2 y,List.take_of_length_le (by rw[hX0.out];omega)]
    clear hl hM hO;go_wp2;go_ret;exact⟨⟨_,L,rfl,hfin.out⟩,hB⟩
end Go.Proofs.YtbnlhdnnenahfaaGreatDoor
