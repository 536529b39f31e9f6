/-
  What the texts RSet, RLook, RBeside, RNear, RTouch, RCov, RBox10 say, so far as this seat's proofs need it.
-/
import Derived.Test.YtbnlhdnnenahfaaGreatDoorSPY
import Derived.Test.YtbnlhdnnenahfaaGreatDoorCV2Y
import Derived.Test.YtbnlhdnnenahfaaGreatDoorRefHexY
import Derived.Test.YtbnlhdnnenahfaaGreatDoorXCY
set_option maxHeartbeats 16000000
set_option maxRecDepth 20000
namespace Go.Proofs.YtbnlhdnnenahfaaGreatDoor
open Go.RowKit
theorem Di (X:List Int)(n:Nat)(hX:X.length=n)(hn:n<=40000)(hDX:∀x∈X,U64 x)(gl cap:Nat)(w:World)
 (hl:∀(j:Nat) (hj:j<X.length),w.cell? ⟨gl,j,none⟩=some (.int .u64 X[j])) :
 Calls Tryz.prog 12 #[.slice (some ⟨gl,0,none⟩) n cap] w fun e w'=>(∃(v:Value) (L:List Int),e=.returned v/\aq L/\(∀x,x∈L↔x∈X)/\L.length<=n/\w'.ownsRow w.heap.size 35 1 v L.length (aj L))/\Below w.heap.size w w':=by
 replace hl:Hid _:=hl;replace hDX:Hid _:=hDX;have hX0:Hid _:=hX;clear hX;obtain⟨i0,hi,hz0,hz1,hz2⟩:=info_parts ca
 go_enter Tryz.func12,Tryz.ntmps12
 go_wp2_with fail;go_loopw [3,4] (fun v3 v4 wr=>∃(k m:Nat) (L:List Int),k<=n/\v4=.int .i64 (k:Int)/\Hid (m<=k/\L.length=m/\aq L/\∀x,x∈L↔x∈X.take k)/\Hid (wr.ownsRow w.heap.size 35 1 v3 m (aj L))/\Below w.heap.size w wr) (fun _ v4 _=>n-(intOf v4).toNat)
 case atStart=>exact⟨0,0,[],by omega,rfl,ab ⟨by omega,rfl,List.Pairwise.nil,fun x=>by simp⟩,World.ownsRow_nil _ _ _ _,by go_grown⟩
 case round =>
  obtain⟨k,m,L,hk,rfl,hM,hO,hB⟩:=hrel;obtain⟨wO,rfl⟩:∃z,z=wr:=⟨_,rfl⟩
  obtain⟨p,c,rfl,hp⟩:=aA hO.out;replace hp:Hid _:=hp;have hmk:=hM.out.1;have hm2:m<=40000:=by omega
  by_cases hlt:k<n
  · have hxk:k<X.length:=by rw[hX0.out];exact hlt
    have hDx:Hid (U64 X[k]):=hDX.out _ (List.getElem_mem hxk);have hTK:Hid (X.take (k+1)=X.take k++[X[k]]):=ab (fH hxk);have hgl:gl<w.heap.size:=World.block_lt_of_cell? _ _ (hl.out k hxk);have c0:=aI hB (hl.out k hxk) hgl;have hlk:Hid (w.cell? ⟨gl,k,none⟩=some (.int .u64 X[k])):=hl.out k hxk;have hxu:=hDx.out;generalize X[k]=x at *;obtain⟨x0,x1⟩:=hxu;have hO2:=hO;have hB2:=hB;go_wp2_with fail;go_loopw [5,6] (fun v5 v6 w2=>∃lo hi:Nat,lo<=hi/\hi<=m/\v5=.int .i64 (lo:Int)/\v6=.int .i64 (hi:Int)/\Below wO.heap.size wO w2/\Hid (Seek L x lo hi)) (fun v5 v6 _=>(intOf v6-intOf v5).toNat)
    case atStart=>exact⟨0,m,by omega,by omega,rfl,rfl,Below.refl _ _,ab ⟨fun t ht hl=>by omega,fun t ht hl=>by have:=hM.out.2.1;omega⟩⟩
    case round =>
     obtain⟨lo,hi',h1,h2,rfl,rfl,hb2,hSK⟩:=hrel;by_cases hlh:lo<hi'
     · obtain⟨mid,hmid⟩:∃mid,(lo+hi') / 2=mid:=⟨_,rfl⟩
       have m1:lo<=mid:=by omega
       have m2:mid<hi':=by omega
       have m3:mid<m:=by omega
       have em:((lo:Int)+(hi':Int)).tdiv 2=(mid:Int):=by rw[Int.tdiv_eq_ediv_of_nonneg (by omega)];omega
       clear hmid;obtain⟨g,rfl⟩:=il hp.out (by omega);have hmL:mid<L.length:=by rw[hM.out.2.1];exact m3
       have cy:=(ai hb2 hO.out).cellAt mid (by omega);rw[dG L mid hmL]at cy;have cx:=aa hb2 c0;have hyu:=hDX.out _ (List.mem_of_mem_take ((hM.out.2.2.2 _).1 (List.getElem_mem hmL)));have hUp:=ab (fun h=>hSK.out.up hM.out.2.2.1 hmL h);have hDn:=ab (fun h=>hSK.out.down hM.out.2.2.1 hmL h);generalize L[mid]=y at *;obtain⟨y0,y1⟩:=hyu;have hlh':(lo:Int)<(hi':Int):=by omega
       clear hxk hmL;have hq:y<x∨decide (y<x)=false:=by simp only[decide_eq_false_iff_not];omega
       rcases hq with hq | hq
       · go_wp2_with fail
         go_quiet (fail)
         go_wp2;go_roundw
         case rel=>exact⟨mid+1,hi',by omega,by omega,by go_num,rfl,hb2.trans ⟨rfl,rfl,rfl,Nat.le_refl _,fun _ _=>rfl⟩,ab (hUp.out hq)⟩
         case measure=>simp[intOf];omega
       · go_wp2_with fail
         go_quiet (fail)
         go_wp2;go_roundw
         case rel=>exact⟨lo,mid,by omega,by omega,rfl,rfl,hb2.trans ⟨rfl,rfl,rfl,Nat.le_refl _,fun _ _=>rfl⟩,ab (hDn.out (by simpa using hq))⟩
         case measure=>simp[intOf];omega
     · obtain rfl:lo=hi':=by omega
       have hlh':decide ((lo:Int)<(lo:Int))=false:=by simp
       have cx:=aa hb2 c0;have hOc:Hid (wr.ownsRow w.heap.size 35 1 (.slice p m c) m (aj L)):=ai hb2 hO.out;have hBc:=hB.trans (hb2.mono hB.size);have hcase:((lo:Int)<(m:Int)/\Hid (x∈L)/\∃g,p=some ⟨g,0,none⟩/\wr.cell? ⟨g,lo,none⟩=some (.int .u64 x))∨((lo:Int)<(m:Int)/\Hid (∀(t:Nat) (ht:t<L.length),lo<=t->x<L[t])/\∃g,p=some ⟨g,0,none⟩/\∃y,wr.cell? ⟨g,lo,none⟩=some (.int .u64 y)/\(y == x)=false)∨(Hid (∀(t:Nat) (ht:t<L.length),lo<=t->x<L[t])/\decide (lo<m)=false):=by
        by_cases h:lo<m
        · obtain⟨g,rfl⟩:=il hp.out (by omega);have hmL:lo<L.length:=by rw[hM.out.2.1];exact h
          have cy:=hOc.out.cellAt lo (by omega);rw[dG L lo hmL]at cy;by_cases hxy:L[lo]=x
          · exact .inl ⟨by omega,ab (hxy ▸ List.getElem_mem hmL),g,rfl,by rw[cy,hxy]⟩
          · refine .inr (.inl ⟨by omega,ab fun t ht hl=>?_,g,rfl,_,cy,by simpa using hxy⟩);have h3:=hSK.out.2 lo hmL (Nat.le_refl _);have h4:=ga hM.out.2.2.1 hmL ht hl;omega
        · exact .inr (.inr ⟨ab fun t ht hl=>by have:=hM.out.2.1;omega,decide_eq_false h⟩)
       clear hO2 hB2 hxk;have hLow:=ab hSK.out.1;clear hSK;rcases hcase with⟨hlm,hxL,g,rfl,cy⟩ | ⟨hlm,hHi,g,rfl,y,cy,hxy⟩ | ⟨hHi,hlm⟩
       · have hm0:0<m:=by omega
         go_wp2_with fail
         go_quiet (fail)
         have dq:Below wr.heap.size wr (wr.drewN nq):=⟨rfl,rfl,rfl,Nat.le_refl _,fun _ _=>rfl⟩
         generalize wr.drewN nq=wq at *;have hOq:Hid (wq.ownsRow w.heap.size 35 1 (.slice (some ⟨g,0,none⟩) m c) m (aj L)):=ai dq hOc.out;have hBq:=hBc.trans (dq.mono hBc.size);go_wp2;go_roundw
         case rel =>
          refine⟨k+1,m,L,by omega,by go_num,ab ⟨by omega,hM.out.2.1,hM.out.2.2.1,fun y=>?_⟩,hOq,hBq⟩;rw[hTK.out,List.mem_append,List.mem_singleton,←hM.out.2.2.2 y];constructor
          · exact fun h=>.inl h
          · rintro(h | rfl)
            · exact h
            · exact hxL.out
         case measure=>simp[intOf];omega
       all_goals
        go_wp2_with fail
        go_quiet (fail)
        have dq:Below wr.heap.size wr (wr.drewN nq):=⟨rfl,rfl,rfl,Nat.le_refl _,fun _ _=>rfl⟩
        generalize wr.drewN nq=wq at *;have hOq:=ab (ai dq hOc.out);have hBq:=hBc.trans (dq.mono hBc.size);have cxq:=aa dq cx;have hBqs:=hBq.size;have hqs:=dq.size;have hBcs:=hBc.size;go_wp2_with (at_builtin;refine wpList_append_own _ rfl (.tmp 50) (.tmp 51) 22 rfl w.heap.size 35 i0 (.int .u64 0) 1 8 Tryz.underlying22 hi hz0 hz1 hz2 rfl (by decide) _ _ _ rfl (ai (ag _ _) hOq.out) ⟨wq.heap.size,0,none⟩ 1 1 [.int .u64 0] rfl rfl (bf _ _ rfl _ _) (bK _ _) (by unfold maxLen;omega) (by omega) (by simp;omega) ?_)
        intro v' w5 hown hgrow _;have hB5:=(hBq.alloc hBqs (.cells #[.int .u64 0] 35)).grown hgrow (by simp;omega) (aM hOq.out);have cx5:=ab (aI hB5 hlk.out hgl);clear hOq hBq cxq dq hgrow cx hOc hBc hb2 c0 hB hO hp hBqs hqs hBcs;obtain⟨g',c',rfl⟩:=cA hown (by omega);obtain⟨hlen,hown2⟩:=hown;rcases hown2 with⟨h,_⟩ | ⟨g2,c2,cur,h,hbg,hg2,hnc,hcm,hcs,htake⟩
        · cases h
        simp only[Value.slice.injEq,Option.some.injEq,Addr.mk.injEq,and_true,true_and]at h;obtain⟨rfl,rfl⟩:=h;have hloL:lo<=L.length:=by rw[hM.out.2.1];exact h2
        have hIN:=ab (pz hM.out.2.2.1 hloL hLow.out hHi.out);have hcl:cur.toList.length=c':=by simpa using hcs
        have htk:cur.toList.take (m+1)=aj L++[.int .u64 0]:=by simpa using htake
        have hcsl:((aj L).drop lo).length=m-lo:=by rw[List.length_drop,aD,hM.out.2.1]
        replace hM:Hid _:=hM;obtain⟨CS,eCS⟩:∃CS,(aj L).drop lo=CS:=⟨_,rfl⟩
        have hsrc:∀j v,CS[j]?=some v->w5.cell? ((⟨g',lo,none⟩:Addr).add j)=some v:=by
         intro j v hj;have hjl:j<CS.length:=by rw[List.getElem?_eq_some_iff]at hj;exact hj.1
         rw[←eCS,hcsl]at hjl;rw[show(⟨g',lo,none⟩:Addr).add j=⟨g',lo+j,none⟩by simp[Addr.add],cell_of_row w5 g' (lo+j) cur 35 (0,0) hg2,←Array.getElem?_toList];have e1:(cur.toList.take (m+1))[lo+j]?=cur.toList[lo+j]?:=by rw[List.getElem?_take,if_pos (by omega)]
         rw[←e1,htk,List.getElem?_append_left (by rw[aD,hM.out.2.1];omega),←hj,←eCS,List.getElem?_drop]
        rw[eCS]at hcsl;have hone:∀v∈CS,v.oneCell'=true:=by
         intro v hv;rw[←eCS]at hv;have:=List.mem_of_mem_drop hv;unfold aj at this;obtain⟨y,_,rfl⟩:=List.mem_map.1 this;rfl
        replace hsrc:Hid _:=hsrc;replace hone:Hid _:=hone;replace htk:Hid _:=htk;have eCS':Hid _:=eCS;have hg5:w5.heap[g']?=some (.cells cur.toList.toArray 35 (0,0)):=by simpa using hg2
        replace hg5:Hid _:=hg5;generalize cur.toList=CL at *;have hmc:m+1<=c':=hnc;clear htake hg2 eCS hlen hcs;have hw1:IntKind.i64.wrap ((lo:Int)+1)=(lo:Int)+1:=by rw[IntKind.wrap_i64];omega
        have hw2:(0:Int)<=(lo:Int)+1:=by omega
        have hw3:(lo:Int)+1<=(m:Int)+1:=by omega
        have hw4:(lo:Int)<=(m:Int)+1:=by omega
        have hw5:lo<=m+1:=by omega
        have hw6:¬c'=lo:=by omega
        have hw7:((lo:Int)+1).toNat=lo+1:=by omega
        have hinf:Hid ((Tryz.prog.info? 35).map (·.size)=some 1):=by show _=_;kernel_rfl
        have hn1:Hid (CS.length=Nat.min (m+1-lo) (m-lo)):=by show _=min _ _;omega
        have hfit:Hid (lo+1+CS.length<=CL.length):=by show _<=_;omega
        by_cases hc1:c'=lo+1
        · first
           | (exfalso;omega)
           | (obtain rfl:=hc1
              obtain rfl:m=lo:=by omega
              have hn2:Hid (CS.length=Nat.min 1 0):=by show _=min _ _;omega
              have hw8:(m:Int)<=(m:Int)+1:=by omega
              go_wp2_with fail
              go_region_law (refine step_copy_splice rfl (.tmp 56) (.tmp 59) 22 22 rfl 35 Tryz.underlying22 hinf.out (some ⟨g',0,none⟩) (some ⟨g',m,none⟩) 0 0 1 1 (by simp[Act.eval,Act.put]) (by simp[Act.eval,Act.put]) g' (m+1) CL 35 hg5.out CS hn2.out (fun hp0=>by exfalso;omega) hfit.out hone.out w.heap.size w hB5.drew hbg ?_;intro w6 hg6 hB6)
              have hspl:(splice CL (m+1) CS).length=(m+1):=by rw[length_splice _ _ _ hfit.out];exact hcl
              have own6:w6.ownsRow w.heap.size 35 1 (.slice (some ⟨g',0,none⟩) (m+1) (m+1)) (m+1) ((splice CL (m+1) CS).take (m+1)) :=
               ⟨by rw[List.length_take,hspl];omega,.inr ⟨g',(m+1),(splice CL (m+1) CS).toArray,rfl,hbg,hg6.out,hnc,hcm,by simp[hspl],by simp⟩⟩
              have own7:=(own6.stored m (.int .u64 x)).1;rw[←eCS'.out,lA hM.out.2.1 h2 htk.out]at own7;obtain⟨z,hz⟩:∃z,w6.cell? ⟨g',m,none⟩=some z:=by
               rw[own6.cellAt m (by omega),List.getElem?_eq_getElem (by rw[List.length_take,hspl];omega)];exact⟨_,rfl⟩
              have hfz:=own6.frozenAt m;have cx6:w6.cell? ⟨gl,k,none⟩=some (.int .u64 x):=aI hB6 hlk.out hgl;have hL':(L.take m++(x :: L.drop m)).length=m+1/\aq (L.take m++(x :: L.drop m))/\∀y,y∈L.take m++(x :: L.drop m)↔y∈X.take (k+1):=by
               refine⟨by simp[hM.out.2.1] <;>omega,hIN.out.1,fun y=>?_⟩;rw[hIN.out.2 y,hTK.out,List.mem_append,List.mem_singleton,hM.out.2.2.2 y]
              have hB7:=hB6.setCell (p:=⟨g',m,none⟩) (by simpa using hbg) (.int .u64 x);replace own7:=ab own7;replace hL':=ab hL';replace hB7:=ab hB7;clear own6 hspl hg6 hsrc hone htk eCS' hg5 cx5 hl hlk hfit hn1 hinf hcsl;go_wp2;go_roundw
              case rel=>exact⟨k+1,m+1,_,by omega,by go_num,ab ⟨by omega,hL'.out⟩,own7,hB7.out⟩
              case measure=>simp[intOf];omega)
        · go_wp2_with fail
          go_region_law (refine step_copy_splice rfl (.tmp 56) (.tmp 59) 22 22 rfl 35 Tryz.underlying22 hinf.out (some ⟨g',lo+1,none⟩) (some ⟨g',lo,none⟩) (m-lo) (c'-(lo+1)) (m+1-lo) (c'-lo) (by simp[Act.eval,Act.put]) (by simp[Act.eval,Act.put]) g' (lo+1) CL 35 hg5.out CS hn1.out (fun _=>⟨rfl,_,rfl,hsrc.out⟩) hfit.out hone.out w.heap.size w hB5.drew hbg ?_;intro w6 hg6 hB6)
          have hspl:(splice CL (lo+1) CS).length=c':=by rw[length_splice _ _ _ hfit.out];exact hcl
          have own6:w6.ownsRow w.heap.size 35 1 (.slice (some ⟨g',0,none⟩) (m+1) c') (m+1) ((splice CL (lo+1) CS).take (m+1)) :=
           ⟨by rw[List.length_take,hspl];omega,.inr ⟨g',c',(splice CL (lo+1) CS).toArray,rfl,hbg,hg6.out,hnc,hcm,by simp[hspl],by simp⟩⟩
          have own7:=(own6.stored lo (.int .u64 x)).1;rw[←eCS'.out,lA hM.out.2.1 h2 htk.out]at own7;obtain⟨z,hz⟩:∃z,w6.cell? ⟨g',lo,none⟩=some z:=by
           rw[own6.cellAt lo (by omega),List.getElem?_eq_getElem (by rw[List.length_take,hspl];omega)];exact⟨_,rfl⟩
          have hfz:=own6.frozenAt lo;have cx6:w6.cell? ⟨gl,k,none⟩=some (.int .u64 x):=aI hB6 hlk.out hgl;have hL':(L.take lo++(x :: L.drop lo)).length=m+1/\aq (L.take lo++(x :: L.drop lo))/\∀y,y∈L.take lo++(x :: L.drop lo)↔y∈X.take (k+1):=by
           refine⟨by simp[hM.out.2.1] <;>omega,hIN.out.1,fun y=>?_⟩;rw[hIN.out.2 y,hTK.out,List.mem_append,List.mem_singleton,hM.out.2.2.2 y]
          have hB7:=hB6.setCell (p:=⟨g',lo,none⟩) (by simpa using hbg) (.int .u64 x);replace own7:=ab own7;replace hL':=ab hL';replace hB7:=ab hB7;clear own6 hspl hg6 hsrc hone htk eCS' hg5 cx5 hl hlk hfit hn1 hinf hcsl;go_wp2;go_roundw
          case rel=>exact⟨k+1,m+1,_,by omega,by go_num,ab ⟨by omega,hL'.out⟩,own7,hB7.out⟩
          case measure=>simp[intOf];omega
  · obtain rfl:k=n:=by omega
    have hfin:Hid (aq L/\(∀y,y∈L↔y∈X)/\L.length<=k/\wO.ownsRow w.heap.size 35 1 (.slice p m c) L.length (aj L)):=by
     refine ab ⟨hM.out.2.2.1,fun y=>?_,by rw[hM.out.2.1];omega,by rw[hM.out.2.1];exact hO.out⟩;rw[hM.out.2.2.2 y,List.take_of_length_le (by rw[hX0.out];omega)]
    clear hl hM hO;go_wp2;go_ret;exact⟨⟨_,L,rfl,hfin.out⟩,hB⟩
theorem RowAt.form {C:Nat}{w:World}{s:Value}{L:List Int}(h:RowAt C w s L):∃p cap,s=.slice p L.length cap/\∀(j:Nat) (hj:j<L.length),∃g,p=some ⟨g,0,none⟩/\w.cell? ⟨g,j,none⟩=some (.int .u64 L[j]):=by
 rcases h with⟨rfl,rfl⟩ | ⟨g,cap,h1,h2,h3⟩
 · exact⟨none,0,rfl,fun j hj=>absurd hj (Nat.not_lt_zero _)⟩
 · exact⟨_,cap,h1,fun j hj=>⟨g,rfl,h3 j hj⟩⟩
theorem xJ (C D:Nat)(s t:Value)(L:List Int)(hn:L.length<=40000)(w:World)(h1:RowAt C w s L)(h2:RowAt D w t L) :
 Calls Tryz.prog 10 #[s,t] w fun e w'=>e=.returned (.bool true)/\Below w.heap.size w w':=by
 obtain⟨p,c,rfl,hp⟩:=h1.form;obtain⟨q,c2,rfl,hq⟩:=h2.form;obtain⟨n,en⟩:∃n,L.length=n:=⟨_,rfl⟩
 have HP:=ab hp;have HQ:=ab hq;have EN:=ab en;rw[en]at hn ⊢;clear hp hq h1 h2 en
 go_enter Tryz.func10,Tryz.ntmps10
 go_wp2_with fail;go_loopw [5] (fun v5 wr=>∃i:Nat,i<=n/\v5=.int .i64 (i:Int)/\Below w.heap.size w wr) (fun v5 _=>n-(intOf v5).toNat)
 case atStart=>exact⟨0,by omega,rfl,Below.refl _ _⟩
 case round =>
  obtain⟨i,hi,rfl,hB⟩:=hrel;by_cases hlt:i<n
  · obtain⟨g,rfl,x1⟩:=HP.out i (by rw[EN.out];exact hlt);obtain⟨g2,rfl,x2⟩:=HQ.out i (by rw[EN.out];exact hlt);replace x1:=aa hB x1;replace x2:=aa hB x2;generalize L[i]'_=x at *;clear HP HQ EN;go_wp2_with fail
    go_quiet (fail)
    go_wp2;go_roundw
    case rel=>exact⟨i+1,by omega,by go_num,aB hB _⟩
    case measure=>simp[intOf];omega
  · obtain rfl:i=n:=by omega
    go_wp2;go_ret;exact⟨rfl,hB⟩
theorem Io (C:Nat)(s:Value)(L:List Int)(x:Int)(hx:U64 x)(hR:aq L)(hU:∀y∈L,U64 y)(hn:L.length<=40000)(w:World)(h1:RowAt C w s L) :
 Calls Tryz.prog 13 #[s,.int .u64 x] w fun e w'=>e=.returned (.bool (decide (x∈L)))/\Below w.heap.size w w':=by
 obtain⟨p,c,rfl,hp⟩:=h1.form;obtain⟨n,en⟩:∃n,L.length=n:=⟨_,rfl⟩
 have HP:=ab hp;have EN:=ab en;have HR:=ab hR;have HU:=ab hU;obtain⟨x0,x1⟩:=hx;rw[en]at hn ⊢;clear hp h1 en hR hU
 go_enter Tryz.func13,Tryz.ntmps13
 go_wp2_with fail;go_loopw [5,6] (fun v5 v6 wr=>∃lo hi:Nat,lo<=hi/\hi<=n/\v5=.int .i64 (lo:Int)/\v6=.int .i64 (hi:Int)/\Hid (Seek L x lo hi)/\Below w.heap.size w wr) (fun v5 v6 _=>(intOf v6-intOf v5).toNat)
 case atStart=>exact⟨0,n,by omega,by omega,rfl,rfl,ab ⟨fun t ht hl=>by omega,fun t ht hl=>by have:=EN.out;omega⟩,Below.refl _ _⟩
 case round =>
  obtain⟨lo,hi,h1,h2,rfl,rfl,hS,hB⟩:=hrel;by_cases hlh:lo<hi
  · obtain⟨mid,hmid⟩:∃mid,(lo+hi) / 2=mid:=⟨_,rfl⟩
    have m1:lo<=mid:=by omega
    have m2:mid<hi:=by omega
    have m3:mid<n:=by omega
    have em:((lo:Int)+(hi:Int)).tdiv 2=(mid:Int):=by rw[Int.tdiv_eq_ediv_of_nonneg (by omega)];omega
    clear hmid;have hmL:mid<L.length:=by rw[EN.out];exact m3
    obtain⟨g,rfl,cy⟩:=HP.out mid hmL;replace cy:=aa hB cy;obtain⟨y0,y1⟩:=HU.out _ (List.getElem_mem hmL);have hUp:=ab (fun h=>hS.out.up HR.out hmL h);have hDn:=ab (fun h=>hS.out.down HR.out hmL h);generalize L[mid]=y at *;have hlh':(lo:Int)<(hi:Int):=by omega
    have hq:y<x∨decide (y<x)=false:=by simp only[decide_eq_false_iff_not];omega
    rcases hq with hq | hq
    · go_wp2_with fail;go_roundw
      case rel=>exact⟨mid+1,hi,by omega,by omega,by go_num,rfl,ab (hUp.out hq),hB⟩
      case measure=>simp[intOf];omega
    · go_wp2_with fail;go_roundw
      case rel=>exact⟨lo,mid,by omega,by omega,rfl,rfl,ab (hDn.out (by simpa using hq)),hB⟩
      case measure=>simp[intOf];omega
  · obtain rfl:lo=hi:=by omega
    have hlh':decide ((lo:Int)<(lo:Int))=false:=by simp
    by_cases hln:lo<n
    · have hmL:lo<L.length:=by rw[EN.out];exact hln
      obtain⟨g,rfl,cy⟩:=HP.out lo hmL;replace cy:=aa hB cy;have hD:Hid (decide (x∈L)=(L[lo] == x)):=by
       refine ab ?_;by_cases e:L[lo]=x
       · rw[decide_eq_true (e ▸ List.getElem_mem hmL)];simp[e]
       · rw[decide_eq_false]
         · simp[e]
         · intro hm;obtain⟨t,ht,et⟩:=List.mem_iff_getElem.1 hm;rcases Nat.lt_or_ge t lo with k | k
           · have:=hS.out.1 t ht k;omega
           · have h3:=hS.out.2 lo hmL (Nat.le_refl _);have h4:=ga HR.out hmL ht k;omega
      have hln':(lo:Int)<(n:Int):=by omega
      generalize L[lo]=y at *;clear hS HP HR HU EN;go_wp2_with fail;go_ret;exact⟨by rw[hD.out];rfl,hB⟩
    · have hD:Hid (decide (x∈L)=false):=by
       refine ab (decide_eq_false fun hm=>?_);obtain⟨t,ht,et⟩:=List.mem_iff_getElem.1 hm;have:=hS.out.1 t ht (by rw[EN.out]at ht;omega);omega
      have hln':decide ((lo:Int)<(n:Int))=false:=df (by omega);have hln2:decide (lo<n)=false:=df (by omega);clear hS HP HR HU EN;go_wp2_with fail;go_ret;exact⟨by rw[hD.out];rfl,hB⟩
theorem Ea:(Tryz.prog.info? 37).map (fun i=>(i.zero,i.size,i.bytes))=some (some (.agg #[.int .i64 0,.int .i64 0]),2,16):=by kernel_rfl
def dv (P:List (Int×Int)):List Value:=P.flatMap fun p=>[.int .i64 p.1,.int .i64 p.2]
theorem n9 (P:List (Int×Int))(p q:Int):dv (P++[(p,q)])=dv P++[.int .i64 p,.int .i64 q]:=by unfold dv;rw[List.flatMap_append];rfl
theorem mC:∀(P:List (Int×Int)) (j:Nat) (h:j<P.length),(dv P)[j*2]?=some (.int .i64 P[j].1)/\(dv P)[j*2+1]?=some (.int .i64 P[j].2)
 | p :: P,0,_=>⟨rfl,rfl⟩
 | p :: P,j+1,h=>by
  have:=mC P j (by simpa using h);have e:dv (p :: P)=.int .i64 p.1 :: .int .i64 p.2 :: dv P:=rfl;rw[e,show(j+1)*2=j*2+1+1 by omega,show j*2+1+1+1=(j*2+1)+1+1 by omega]
  simpa using this
theorem pM (w:World)(B:Nat)(h:w.heap.size=B)(x y:Value)(e:TypeId):∀j u,([x,y]:List Value)[j]?=some u->(w.alloc (.cells #[x,y] e)).cell? ((⟨B,0,none⟩:Addr).add j)=some u:=by
 subst h;intro j u hj
 match j,hj with
 | 0,hj=>simp at hj;subst hj;simp[Addr.add]
 | 1,hj=>simp at hj;subst hj;simp[Addr.add]
theorem rK (x y:Int):∀u∈([.int .i64 x,.int .i64 y]:List Value),u.oneCell'=true:=by
 intro u hu;simp at hu;rcases hu with rfl | rfl <;>rfl
theorem fh {w:World}{base:Nat}{v:Value}{L:List Int}(h:w.ownsRow base 35 1 v L.length (aj L)):RowAt base w v L:=by
 rcases h.2 with⟨hv,h0⟩ | ⟨g,cap,cur,hv,_⟩
 · exact Or.inl ⟨List.length_eq_zero_iff.1 h0,hv⟩
 · subst hv;have hc:=bn h;exact Or.inr ⟨g,cap,rfl,hc.2.2.1,hc.2.1⟩
def PRow (w:World)(v:Value)(P:List (Int×Int)):Prop:=∃p cap,v=.slice p P.length cap/\∀(j:Nat) (hj:j<P.length),∃g,p=some ⟨g,0,none⟩/\w.cell? ⟨g,j*2,none⟩=some (.int .i64 P[j].1)/\w.cell? ⟨g,j*2+1,none⟩=some (.int .i64 P[j].2)
theorem rF {w:World}{base:Nat}{v:Value}{P:List (Int×Int)}(h:w.ownsRow base 37 2 v P.length (dv P)):PRow w v P:=by
 rcases h.2 with⟨hv,h0⟩ | ⟨g,cap,cur,hv,_⟩
 · exact⟨none,0,by rw[h0];exact hv,fun j hj=>by omega⟩
 · subst hv;refine⟨_,cap,rfl,fun j hj=>⟨g,rfl,?_,?_⟩⟩
   · rw[h.cellAt (j*2) (by omega),(mC P j hj).1]
   · rw[h.cellAt (j*2+1) (by omega),(mC P j hj).2]
theorem PRow.keep {w w':World}{v:Value}{P:List (Int×Int)}(h:PRow w v P)(hb:Below w.heap.size w w'):PRow w' v P:=by
 obtain⟨p,cap,h1,h2⟩:=h;exact⟨p,cap,h1,fun j hj=>by obtain⟨g,e,x,y⟩:=h2 j hj;exact⟨g,e,aa hb x,aa hb y⟩⟩
theorem Dj (w:World):Calls Tryz.prog 12 #[.slice none 0 0] w fun e w'=>e=.returned (.slice none 0 0)/\Below w.heap.size w w':=by
 go_enter Tryz.func12,Tryz.ntmps12
 go_wp2_with fail;go_loopw [3,4] (fun v3 v4 wr=>v3=.slice none 0 0/\v4=.int .i64 0/\wr=w) (fun _ _ _=>0)
 case atStart=>exact⟨rfl,rfl,rfl⟩
 case round =>
  obtain⟨rfl,rfl,rfl⟩:=hrel;go_wp2;go_ret;exact⟨rfl,Below.refl _ _⟩
theorem sk (X:List Int)(hn:X.length<=40000)(hU:∀x∈X,U64 x)(base:Nat)(v:Value)(w:World)(h:w.ownsRow base 35 1 v X.length (aj X)) :
 Calls Tryz.prog 12 #[v] w fun e w'=>(∃(s:Value) (L:List Int),e=.returned s/\aq L/\(∀x,x∈L↔x∈X)/\L.length<=X.length/\w'.ownsRow w.heap.size 35 1 s L.length (aj L))/\Below w.heap.size w w':=by
 rcases h.2 with⟨hv,h0⟩ | ⟨g,cap,cur,hv,_⟩
 · have hX:X=[]:=List.length_eq_zero_iff.1 h0;subst hv hX;refine(Dj w).mono ?_;rintro e w' ⟨rfl,hb⟩;exact⟨⟨_,[],rfl,List.Pairwise.nil,fun x=>Iff.rfl,Nat.le_refl _,World.ownsRow_nil _ _ _ _⟩,hb⟩
 · subst hv;have hc:=bn h;exact Di X X.length rfl hn hU g cap w hc.2.1
theorem xL (r a b:Int)(h:¬Ok4 r a b)(w:World) :
 Calls Tryz.prog 73 #[.agg #[.int .i64 r,.int .i64 a,.int .i64 b]] w fun e w'=>e=.returned (.tuple #[.int .u64 0,.int .i64 2])/\Below w.heap.size w w':=by
 have OK:Hid (∀w,Calls Tryz.prog 118 #[.agg #[.int .i64 r,.int .i64 a,.int .i64 b]] w fun e w'=>e=.returned (.bool false)/\Below w.heap.size w w'):=fun w=>by rw[←dD h];exact g8 r a b w
 clear h
 go_enter Tryz.func73,Tryz.ntmps73
 go_wp2_with fail;refine(OK.out _).mono ?_;rintro e w1 ⟨rfl,d1⟩;have c1:Below w.heap.size w w1:=Below.trans (by go_grown) (d1.mono (by simp;try omega));have hB:=c1;clear c1 d1;go_wp2
 go_ret2
 exact⟨rfl,hB⟩
theorem rn {w0 a b:World}{p0 p1 p2 p3 p4:Addr}{v0 v1 v2 v3 v4:Value}(hb:Below a.heap.size a b)(h:a.cell? p0=some v0/\a.cell? p1=some v1/\a.cell? p2=some v2/\a.cell? p3=some v3/\a.cell? p4=some v4/\Below w0.heap.size w0 a) :
 b.cell? p0=some v0/\b.cell? p1=some v1/\b.cell? p2=some v2/\b.cell? p3=some v3/\b.cell? p4=some v4/\Below w0.heap.size w0 b :=
 ⟨aa hb h.1,aa hb h.2.1,aa hb h.2.2.1,aa hb h.2.2.2.1,aa hb h.2.2.2.2.1,ae h.2.2.2.2.2 hb⟩
theorem vn (r:Nat)(a b:Int)(ha: -500000000<=a/\a<=500000000)(hb: -500000000<=b/\b<=500000000)(P:List (Int×Int))(hP:P.length<=1000)(hPs:∀p∈P,stp p.1 p.2<=1000)(v:Value)(w:World)(h:PRow w v P) :
 Calls Tryz.prog 47 #[.agg #[.int .i64 r,.int .i64 a,.int .i64 b],v] w fun e w'=>(∃(s:Value) (L:List Int),e=.returned s/\aq L/\(∀x,x∈L↔x∈ar r a b P)/\L.length<=1000/\RowAt w.heap.size w' s L)/\Below w.heap.size w w':=by
 obtain⟨p,cap,rfl,hp⟩:=h;obtain⟨n,en⟩:∃n,P.length=n:=⟨_,rfl⟩
 have EN:=ab en;have HP:=ab hp;have HS:=ab hPs;rw[en]at hP ⊢;obtain⟨i0,hi,hz0,hz1,hz2⟩:=info_parts ca;have z0:(w.alloc (.cells #[.int .i64 r,.int .i64 a,.int .i64 b] 39)).cell? ⟨w.heap.size,0,none⟩=some (.int .i64 r):=by go_simp
 have z1:(w.alloc (.cells #[.int .i64 r,.int .i64 a,.int .i64 b] 39)).cell? ⟨w.heap.size,1,none⟩=some (.int .i64 a):=by go_simp
 have z2:(w.alloc (.cells #[.int .i64 r,.int .i64 a,.int .i64 b] 39)).cell? ⟨w.heap.size,2,none⟩=some (.int .i64 b):=by go_simp
 have hwb:Below w.heap.size w (w.alloc (.cells #[.int .i64 r,.int .i64 a,.int .i64 b] 39)):=ag _ _;have hWs:(w.alloc (.cells #[.int .i64 r,.int .i64 a,.int .i64 b] 39)).heap.size=w.heap.size+1:=by simp
 clear en hp hPs
 go_enter Tryz.func47,Tryz.ntmps47
 go_wp2_with fail;generalize (w.alloc (.cells #[.int .i64 r,.int .i64 a,.int .i64 b] 39))=W at z0 z1 z2 hwb hWs ⊢;go_loopw [5,6] (fun v5 v6 wr=>∃(k:Nat),k<=n/\v6=.int .i64 (k:Int)/\Hid (wr.ownsRow (w.heap.size+1) 35 1 v5 (ar r a b (P.take k)).length (aj (ar r a b (P.take k))))/\Below (w.heap.size+1) W wr) (fun _ v6 _=>n-(intOf v6).toNat)
 case atStart=>exact⟨0,by omega,rfl,ab uY,Below.refl _ _⟩
 case round =>
  obtain⟨k,hk,rfl,hO,hB⟩:=hrel;have y0:=aI hB z0 (Nat.lt_succ_self _);have y1:=aI hB z1 (Nat.lt_succ_self _);have y2:=aI hB z2 (Nat.lt_succ_self _);by_cases hlt:k<n
  · have hkP:k<P.length:=by rw[EN.out];exact hlt
    obtain⟨g,rfl,x1,x2⟩:=HP.out k hkP;replace x1:=aI hB (aa hwb x1) (by have:=World.block_lt_of_cell? _ _ x1;exact Nat.lt_succ_of_lt this);replace x2:=aI hB (aa hwb x2) (by have:=World.block_lt_of_cell? _ _ x2;exact Nat.lt_succ_of_lt this);have hst:=HS.out _ (List.getElem_mem hkP);have hTK:Hid (ar r a b (P.take (k+1))=ar r a b (P.take k)++cZ r (a+P[k].1) (b+P[k].2)):=ab (by rw[List.take_succ_eq_append_getElem hkP,ge,i9]);generalize P[k].1=X at *;generalize P[k].2=Y at *;have hge:=dF X Y;have hXY:(-1000<=X/\X<=1000)/\(-1000<=Y/\Y<=1000):=by omega
    clear hst hge;have hwl:(ar r a b (P.take k)).length<=1000:=by have h1:=dm r a b (P.take k);rw[List.length_take]at h1;omega
    have hWB:w.heap.size+1<=wr.heap.size:=by have:=hB.size;omega
    by_cases hok:Ok4 (r:Int) (a+X) (b+Y)
    · have RW:=ab (iE r (a+X) (b+Y) hok);rw[jW hok]at hTK;have hvl:Hid (aj (ar r a b (P.take (k+1)))=aj (ar r a b (P.take k))++[.int .u64 (av r (a+X) (b+Y))]/\(ar r a b (P.take (k+1))).length=(ar r a b (P.take k)).length+1):=ab (by rw[hTK.out];exact⟨by simp[aj],by simp⟩);generalize av r (a+X) (b+Y)=z at *;have RX:=RW;rw[←show IntKind.i64.wrap (a+X)=a+X by rw[IntKind.wrap_i64];omega,←show IntKind.i64.wrap (b+Y)=b+Y by rw[IntKind.wrap_i64];omega]at RX;generalize hLL:ar r a b (P.take k)=LL at *;clear hok hLL hTK;go_wp2_with fail;have hS0:wr.drew.cell? ⟨w.heap.size,0,none⟩=some (.int .i64 r)/\wr.drew.cell? ⟨w.heap.size,1,none⟩=some (.int .i64 a)/\wr.drew.cell? ⟨w.heap.size,2,none⟩=some (.int .i64 b)/\wr.drew.cell? ⟨g,k*2,none⟩=some (.int .i64 X)/\wr.drew.cell? ⟨g,k*2+1,none⟩=some (.int .i64 Y)/\Below wr.heap.size wr wr.drew:=⟨y0,y1,y2,x1,x2,(Below.refl _ _).drew⟩
      go_region_held3 (fun w'=>w'.cell? ⟨w.heap.size,0,none⟩=some (.int .i64 r)/\w'.cell? ⟨w.heap.size,1,none⟩=some (.int .i64 a)/\w'.cell? ⟨w.heap.size,2,none⟩=some (.int .i64 b)/\w'.cell? ⟨g,k*2,none⟩=some (.int .i64 X)/\w'.cell? ⟨g,k*2+1,none⟩=some (.int .i64 Y)/\Below wr.heap.size wr w') (first | exact hS0 | exact rn hb (by assumption)) (first | (go_at_call 73;with_reducible refine(RX.out _).mono ?_;rintro e w' ⟨rfl,hb⟩) | (go_at_call 73;with_reducible refine(RW.out _).mono ?_;rintro e w' ⟨rfl,hb⟩))
      all_goals
       rename_i hS;have hW:=hS.2.2.2.2.2;have hO1:=ab (ai hW hO.out);have hBw:Below (w.heap.size+1) W w':=hB.trans (hW.mono (by omega));have hws:w.heap.size+1<=w'.heap.size:=by have:=hW.size;omega
       clear hS hS0 hO hB y0 y1 y2 x1 x2 hb RW RX hW;go_wp2_with (at_builtin;refine wpList_append_own _ rfl (.tmp 43) (.tmp 45) 22 rfl (w.heap.size+1) 35 i0 (.int .u64 0) 1 8 Tryz.underlying22 hi hz0 hz1 hz2 rfl (by decide) _ _ _ rfl (ai (ag _ _) hO1.out) ⟨w'.heap.size,0,none⟩ 1 1 [.int .u64 z] rfl rfl (bf _ _ rfl _ _) (bK _ _) (by unfold maxLen;omega) (by omega) (by simp;omega) ?_)
       intro v' w5 hown hgrow _;have hB5:=(hBw.alloc hws (.cells #[.int .u64 z] 35)).grown hgrow (by simp;omega) (aM hO1.out);have hO5:Hid (w5.ownsRow (w.heap.size+1) 35 1 v' (ar r a b (P.take (k+1))).length (aj (ar r a b (P.take (k+1))))):=ab (by rw[hvl.out.1,hvl.out.2];exact hown);clear hown hgrow hO1 hBw hws hvl;go_wp2;go_roundw
       case rel=>exact⟨k+1,by omega,by go_num,hO5,hB5⟩
       case measure=>simp[intOf];omega
    · have RW:=ab (xL (r:Int) (a+X) (b+Y) hok);rw[kS hok,List.append_nil]at hTK;rw[←hTK.out]at hO;have RX:=RW;rw[←show IntKind.i64.wrap (a+X)=a+X by rw[IntKind.wrap_i64];omega,←show IntKind.i64.wrap (b+Y)=b+Y by rw[IntKind.wrap_i64];omega]at RX;clear hTK hok;go_wp2_with fail;have hS0:wr.drew.cell? ⟨w.heap.size,0,none⟩=some (.int .i64 r)/\wr.drew.cell? ⟨w.heap.size,1,none⟩=some (.int .i64 a)/\wr.drew.cell? ⟨w.heap.size,2,none⟩=some (.int .i64 b)/\wr.drew.cell? ⟨g,k*2,none⟩=some (.int .i64 X)/\wr.drew.cell? ⟨g,k*2+1,none⟩=some (.int .i64 Y)/\Below wr.heap.size wr wr.drew:=⟨y0,y1,y2,x1,x2,(Below.refl _ _).drew⟩
      go_region_held3 (fun w'=>w'.cell? ⟨w.heap.size,0,none⟩=some (.int .i64 r)/\w'.cell? ⟨w.heap.size,1,none⟩=some (.int .i64 a)/\w'.cell? ⟨w.heap.size,2,none⟩=some (.int .i64 b)/\w'.cell? ⟨g,k*2,none⟩=some (.int .i64 X)/\w'.cell? ⟨g,k*2+1,none⟩=some (.int .i64 Y)/\Below wr.heap.size wr w') (first | exact hS0 | exact rn hb (by assumption)) (first | (go_at_call 73;with_reducible refine(RX.out _).mono ?_;rintro e w' ⟨rfl,hb⟩) | (go_at_call 73;with_reducible refine(RW.out _).mono ?_;rintro e w' ⟨rfl,hb⟩))
      all_goals
       rename_i hS;have hW:=hS.2.2.2.2.2;have hO1:=ab (ai hW hO.out);have hBw:Below (w.heap.size+1) W w':=hB.trans (hW.mono (by omega));clear hS hS0 hO hB y0 y1 y2 x1 x2 hb RW RX hW;go_wp2;go_roundw
       case rel=>exact⟨k+1,by omega,by go_num,hO1,hBw⟩
       case measure=>simp[intOf];omega
  · obtain rfl:k=n:=by omega
    have eP:P.take k=P:=List.take_of_length_le (by rw[EN.out];omega);rw[eP]at hO;have hwl:=dm r a b P;rw[EN.out]at hwl;have hU:∀x∈ar r a b P,U64 x:=fun x hx=>by
     obtain⟨p',q',-,hO',rfl⟩:=iP.1 hx;have:=(a8 hO').2.2.2.2.2;exact⟨this.1,by omega⟩
    have hlen:Hid ((ar r a b P).length<=k):=ab hwl;have SE:=ab (sk (ar r a b P) (by omega) hU (w.heap.size+1) u5 wr hO.out);have hBw:Below w.heap.size w wr:=hwb.trans (hB.mono (by omega));clear hO HP HS EN eP hwl hU y0 y1 y2 z0 z1 z2;go_wp2_with fail;refine SE.out.mono ?_;rintro e w1 ⟨⟨s,L,rfl,hR,hM,hLn,hOw⟩,hb1⟩;have HR:=ab (And.intro hR (And.intro hM (And.intro (show L.length<=1000 by have:=hlen.out;omega) (RowAt.mono (fh hOw) hBw.size))));have hB1:=ae hBw hb1;clear hR hM hLn hOw SE;go_wp2;go_ret;exact⟨⟨s,L,rfl,HR.out⟩,hB1⟩
def ye (v:Int)(Q:Int×Int->Prop)(e:Ending)(w:World):Prop:=∃(s:Value) (L:List Int),e=.returned (.tuple #[s,.int .i64 0])/\RowAt 0 w s L/\aq L/\(∀x,x∈L↔∃p q,Q (p,q)/\Ok4 (wR v) (an v+p) (ao v+q)/\x=av (wR v).toNat (an v+p) (ao v+q))/\L.length<=1000
theorem kU {r:Nat}{a b:Int}{P:List (Int×Int)}{Q:Int×Int->Prop}(h:∀x,x∈P↔Q x)(x:Int):x∈ar r a b P↔∃p q,Q (p,q)/\Ok4 (r:Int) (a+p) (b+q)/\x=av r (a+p) (b+q):=by
 rw[iP];constructor
 · rintro⟨p,q,h1,h2⟩;exact⟨p,q,(h _).1 h1,h2⟩
 · rintro⟨p,q,h1,h2⟩;exact⟨p,q,(h _).2 h1,h2⟩
theorem jT (x:Int×Int):x∈(List.range 6).map (fun i=>(uA i,uB i))↔stp x.1 x.2=1:=by
 rw[lG (by omega)];constructor
 · intro h;obtain⟨i,hi,rfl⟩:=List.mem_map.1 h;rcases bO (List.mem_range.1 hi)with rfl | rfl | rfl | rfl | rfl | rfl <;>decide
 · intro h;rw[List.mem_map];have:(x.1=1/\x.2=0)∨(x.1=0/\x.2=1)∨(x.1= -1/\x.2=1)∨(x.1= -1/\x.2=0)∨(x.1=0/\x.2= -1)∨(x.1=1/\x.2= -1):=by omega
   rcases this with h | h | h | h | h | h
   · exact⟨0,by decide,Prod.ext h.1.symm h.2.symm⟩
   · exact⟨1,by decide,Prod.ext h.1.symm h.2.symm⟩
   · exact⟨2,by decide,Prod.ext h.1.symm h.2.symm⟩
   · exact⟨3,by decide,Prod.ext h.1.symm h.2.symm⟩
   · exact⟨4,by decide,Prod.ext h.1.symm h.2.symm⟩
   · exact⟨5,by decide,Prod.ext h.1.symm h.2.symm⟩
theorem xH (v:Int)(hv:Whole v)(w:World) :
 Calls Tryz.prog 24 #[.int .u64 v] w fun e w'=>ye v (fun x=>stp x.1 x.2=1) e w'/\Below w.heap.size w w':=by
 have CE:=ab (cV v hv);have p1:=ce (cI hv);have hr:=aE v;obtain⟨r,er⟩:∃r:Nat,wR v=r:=⟨(wR v).toNat,by omega⟩
 have FIN:Hid (∀(s:Value) (L:List Int) (C:Nat) (w':World),(aq L/\(∀x,x∈L↔x∈ar r (an v) (ao v) ((List.range 6).map fun i=>(uA i,uB i)))/\L.length<=1000/\RowAt C w' s L)->ye v (fun x=>stp x.1 x.2=1) (.returned (.tuple #[s,.int .i64 0])) w'):=by
  refine ab fun s L C w' ⟨h1,h2,h3,h4⟩=>⟨s,L,rfl,h4.mono (Nat.zero_le _),h1,fun x=>?_,h3⟩
  rw[h2 x,er,show((r:Int)).toNat=r by omega];exact kU (Q:=fun x=>stp x.1 x.2=1) (fun x=>jT x) x
 rw[er]at CE;have BE:Hid (∀(v':Value) (w:World),PRow w v' ((List.range 6).map fun i=>(uA i,uB i))->_):=ab (fun v' w h=>vn r (an v) (ao v) (by omega) (by omega) ((List.range 6).map fun i=>(uA i,uB i)) (by simp) (fun x hx=>by have:=(jT x).1 hx;omega) v' w h);have UN:Hid (∀k:Nat,k<6->∀w,Calls Tryz.prog 36 #[.int .i64 (k:Int)] w fun e w'=>e=.returned (.agg #[.int .i64 (uA k),.int .i64 (uB k)])/\Below w.heap.size w w'):=by
  refine ab fun k hk w=>?_;have:=fu (k:Int) w;rw[show(k:Int)%6=k by omega]at this;have hu:cW (k:Int)=uA k/\cY (k:Int)=uB k:=by rcases bO hk with rfl | rfl | rfl | rfl | rfl | rfl <;>decide
  rwa [hu.1,hu.2]at this
 obtain⟨i0,hi',hz0,hz1,hz2⟩:=info_parts Ea;generalize an v=a at *;generalize ao v=b at *;clear hv p1 hr er
 go_enter Tryz.func24,Tryz.ntmps24
 go_wp2_with fail;refine(CE.out _).mono ?_;rintro e w1 ⟨rfl,d1⟩;have c1:Below w.heap.size w w1:=Below.trans (by go_grown) (d1.mono (by simp;try omega));have hB:=c1;clear c1 d1;have z0:(w1.alloc (.cells #[.int .i64 r,.int .i64 a,.int .i64 b] 39)).cell? ⟨w1.heap.size,0,none⟩=some (.int .i64 r):=by go_simp
 have z1:(w1.alloc (.cells #[.int .i64 r,.int .i64 a,.int .i64 b] 39)).cell? ⟨w1.heap.size,1,none⟩=some (.int .i64 a):=by go_simp
 have z2:(w1.alloc (.cells #[.int .i64 r,.int .i64 a,.int .i64 b] 39)).cell? ⟨w1.heap.size,2,none⟩=some (.int .i64 b):=by go_simp
 have hwb:=ae hB (ag w1 (.cells #[.int .i64 r,.int .i64 a,.int .i64 b] 39));have hWs:(w1.alloc (.cells #[.int .i64 r,.int .i64 a,.int .i64 b] 39)).heap.size=w1.heap.size+1:=by simp
 go_wp2_with fail;generalize (w1.alloc (.cells #[.int .i64 r,.int .i64 a,.int .i64 b] 39))=W at z0 z1 z2 hwb hWs ⊢;have hWl:w.heap.size<=w1.heap.size:=hB.size;generalize w1.heap.size=M at z0 z1 z2 hWs hWl ⊢;clear hB CE;go_loopw [6,7] (fun v6 v7 wr=>∃k:Nat,k<=6/\v7=.int .i64 (k:Int)/\Hid (wr.ownsRow (M+1) 37 2 v6 k (dv ((List.range k).map fun i=>(uA i,uB i))))/\Below (M+1) W wr) (fun _ v7 _=>6-(intOf v7).toNat)
 case atStart=>exact⟨0,by omega,rfl,World.ownsRow_nil _ _ _ _,Below.refl _ _⟩
 case round =>
  obtain⟨k,hk,rfl,hO,hB⟩:=hrel;have y0:=aI hB z0 (Nat.lt_succ_self _);have y1:=aI hB z1 (Nat.lt_succ_self _);have y2:=aI hB z2 (Nat.lt_succ_self _);by_cases hlt:k<6
  · have UK:=ab (UN.out k hlt);have hv:Hid (dv ((List.range (k+1)).map fun i=>(uA i,uB i))=dv ((List.range k).map fun i=>(uA i,uB i))++[.int .i64 (uA k),.int .i64 (uB k)]):=ab (by rw[List.range_succ,List.map_append];exact n9 _ _ _);generalize uA k=X at *;generalize uB k=Y at *;clear y0 y1 y2;go_wp2_with fail;refine(UK.out wr).mono ?_;rintro e w3 ⟨rfl,hb1⟩;have hO1:=ab (ai hb1 hO.out);have hB1:=hB.trans (hb1.mono (by have:=hB.size;omega));have hws:M+1<=w3.heap.size:=by have:=hB1.size;omega
    clear hO hB hb1 UK;go_wp2_with (at_builtin;refine wpList_append_own _ rfl (.tmp 20) (.tmp 23) 67 rfl (M+1) 37 i0 (.agg #[.int .i64 0,.int .i64 0]) 2 16 Tryz.underlying67 hi' hz0 hz1 hz2 rfl (by decide) _ _ _ rfl (ai (ag _ _) hO1.out) ⟨w3.heap.size,0,none⟩ 1 1 [.int .i64 X,.int .i64 Y] rfl rfl (pM _ _ rfl _ _ _) (rK _ _) (by unfold maxLen;omega) (by omega) (by simp;omega) ?_)
    intro v' w5 hown hgrow _;have hB5:=(hB1.alloc hws (.cells #[.int .i64 X,.int .i64 Y] 37)).grown hgrow (by simp;omega) (aM hO1.out);have hO5:Hid (w5.ownsRow (M+1) 37 2 v' (k+1) (dv ((List.range (k+1)).map fun i=>(uA i,uB i)))):=ab (by rw[hv.out];exact hown);clear hown hgrow hO1 hB1 hws hv;go_wp2;go_roundw
    case rel=>exact⟨k+1,by omega,by go_num,hO5,hB5⟩
    case measure=>simp[intOf];omega
  · obtain rfl:k=6:=by omega
    have PR:PRow wr u6 ((List.range 6).map fun i=>(uA i,uB i)):=rF (base:=M+1) (by rw[List.length_map,List.length_range];exact hO.out);have BK:=ab (BE.out u6 wr PR);have hBw:=hwb.trans (hB.mono (by omega));clear hO PR BE UN hB;go_wp2_with fail;refine BK.out.mono ?_;rintro e w3 ⟨⟨s,L,rfl,q⟩,hb3⟩;have HR:=ab (FIN.out s L _ w3 q);have hB3:=ae hBw hb3;clear q FIN BK;go_wp2
    go_ret2
    exact⟨HR.out,hB3⟩
def cD (x y:Int):Prop:=x < -2147483648∨2147483648<x∨y < -2147483648∨2147483648<y
theorem pW (x y:Int)(b:Bool)(h:(x < -2147483648/\b=true)∨(decide (x < -2147483648)=false/\2147483648<x/\b=true)∨(decide (x < -2147483648)=false/\decide (2147483648<x)=false/\y < -2147483648/\b=true)∨(decide (x < -2147483648)=false/\decide (2147483648<x)=false/\decide (y < -2147483648)=false/\2147483648<y/\b=true)∨(decide (x < -2147483648)=false/\decide (2147483648<x)=false/\decide (y < -2147483648)=false/\decide (2147483648<y)=false/\b=false))(w:World) :
 Calls Tryz.prog 120 #[.int .i64 x,.int .i64 y] w fun e w'=>e=.returned (.bool b)/\w'=w:=by
 rcases h with⟨h1,rfl⟩ | ⟨h1,h2,rfl⟩ | ⟨h1,h2,h3,rfl⟩ | ⟨h1,h2,h3,h4,rfl⟩ | ⟨h1,h2,h3,h4,rfl⟩
 all_goals
  go_enter Tryz.func120,Tryz.ntmps120
  go_wp2;go_ret;exact⟨rfl,rfl⟩
theorem eE {x y:Int}(h:cD x y)(w:World):Calls Tryz.prog 120 #[.int .i64 x,.int .i64 y] w fun e w'=>e=.returned (.bool true)/\w'=w:=by
 refine pW x y true ?_ w;unfold cD at h;simp only[decide_eq_false_iff_not,and_true,and_false,or_false,Bool.true_eq_false];omega
theorem cM {x y:Int}(h:¬cD x y)(w:World):Calls Tryz.prog 120 #[.int .i64 x,.int .i64 y] w fun e w'=>e=.returned (.bool false)/\w'=w:=by
 refine pW x y false ?_ w;unfold cD at h;simp only[decide_eq_false_iff_not,and_true,and_false,false_or,Bool.false_eq_true];omega
def sgT (n:Int):Int:=if n<0 then -1 else if 0<n then 1 else 0
theorem Ai {p q:Int×Int}{x y:Int}:sgT (crs p q x y)=if decide ((q.1-p.1)*(y-p.2)<(q.2-p.2)*(x-p.1))=true then -1 else if decide ((q.2-p.2)*(x-p.1)<(q.1-p.1)*(y-p.2))=true then 1 else 0:=by
 unfold sgT crs;simp only[decide_eq_true_eq];by_cases h1:(q.1-p.1)*(y-p.2)<(q.2-p.2)*(x-p.1)
 · rw[if_pos (by omega),if_pos h1]
 · rw[if_neg (by omega),if_neg h1];by_cases h2:(q.2-p.2)*(x-p.1)<(q.1-p.1)*(y-p.2)
   · rw[if_pos (by omega),if_pos h2]
   · rw[if_neg (by omega),if_neg h2]
theorem Gv {n:Int}(h:0<n):sgT n=1:=by unfold sgT;rw[if_neg (by omega),if_pos h]
theorem Dq (n:Int):(sgT n= -1/\n<0)∨(sgT n=0/\n=0)∨(sgT n=1/\0<n):=by
 unfold sgT;by_cases h1:n<0
 · rw[if_pos h1];omega
 · rw[if_neg h1];by_cases h2:0<n
   · rw[if_pos h2];omega
   · rw[if_neg h2];omega
def Row12 (g n:Nat)(G:Nat->Int)(w:World):Prop:=∀o<n,w.cell? ⟨g,o,none⟩=some (.int .i64 (G o))
theorem Row12.keep {g n:Nat}{G:Nat->Int}{w w':World}(h:Row12 g n G w)(hb:Below w.heap.size w w'):Row12 g n G w':=fun o ho=>aa hb (h o ho)
def ptG (G:Nat->Int)(j:Nat):Int×Int:=(G (j*2),G (j*2+1))
def fK (l1 l2 u1 u2:Int):Nat->Int
 | 0=>3*l1 | 1=>3*l2 | 2=>3*u1 | 3=>3*l2 | 4=>3*u1 | 5=>3*u2 | 6=>3*l1 | _=>3*u2
theorem AY {l1 l2 u1 u2 B:Int}(h1: -B<=3*l1/\3*l1<=B)(h2: -B<=3*l2/\3*l2<=B)(h3: -B<=3*u1/\3*u1<=B)(h4: -B<=3*u2/\3*u2<=B)(o:Nat): -B<=fK l1 l2 u1 u2 o/\fK l1 l2 u1 u2 o<=B:=by
 unfold fK
 split <;>assumption
theorem Dh (w:World)(e:TypeId)(l1 l2 u1 u2:Int):Row12 w.heap.size 8 (fK l1 l2 u1 u2) (w.alloc (.cells #[.int .i64 (3*l1),.int .i64 (3*l2),.int .i64 (3*u1),.int .i64 (3*l2),.int .i64 (3*u1),.int .i64 (3*u2),.int .i64 (3*l1),.int .i64 (3*u2)] e)):=fun o ho=>by
 obtain rfl | rfl | rfl | rfl | rfl | rfl | rfl | rfl:o=0∨o=1∨o=2∨o=3∨o=4∨o=5∨o=6∨o=7:=by omega
 all_goals
  unfold fK;go_simp
theorem pc {k j:Nat}(h:k<6)(c:Nat)(hj:(k+c)%6=j):j<6/\((k:Int)+c)%6=(j:Int)/\((k:Int)+c).tmod 6=(j:Int):=by
 have e:(((k+c)%6:Nat):Int)=((k:Int)+(c:Int))%6:=by push_cast;rfl
 refine⟨by omega,by rw[←e,hj],?_⟩;rw[Int.tmod_eq_emod_of_nonneg (by omega),←e,hj]
def TouS (n:Nat)(r a b:Int)(L U:Nat->Int)(w:World):Prop :=
 (w.cell? ⟨n,0,none⟩=some (.int .i64 r)/\w.cell? ⟨n,1,none⟩=some (.int .i64 a)/\w.cell? ⟨n,2,none⟩=some (.int .i64 b))/\Row12 (n+1) 2 L w/\Row12 (n+1+1) 2 U w
theorem TouS.keep {n:Nat}{r a b:Int}{L U:Nat->Int}{w w':World}(h:TouS n r a b L U w)(hb:Below w.heap.size w w'):TouS n r a b L U w' :=
 ⟨⟨aa hb h.1.1,aa hb h.1.2.1,aa hb h.1.2.2⟩,h.2.1.keep hb,h.2.2.keep hb⟩
def prT (x y:Int):Nat->Int
 | 0=>x
 | _=>y
theorem sE (w:World)(e1 e2 e3:TypeId)(r a b l1 l2 u1 u2:Int):TouS w.heap.size r a b (prT l1 l2) (prT u1 u2) (((w.alloc (.cells #[.int .i64 r,.int .i64 a,.int .i64 b] e1)).alloc (.cells #[.int .i64 l1,.int .i64 l2] e2)).alloc (.cells #[.int .i64 u1,.int .i64 u2] e3)):=by
 refine⟨⟨by go_simp,by go_simp,by go_simp⟩,fun o ho=>?_,fun o ho=>?_⟩
 · obtain rfl | rfl:o=0∨o=1:=by omega
   · unfold prT;go_simp
   · unfold prT;go_simp
 · obtain rfl | rfl:o=0∨o=1:=by omega
   · unfold prT;go_simp
   · unfold prT;go_simp
def AxT (G L U:Nat->Int)(a:Nat):Prop:=(∃i,i<6/\3*L a<=G (i*2+a))/\∃i,i<6/\G (i*2+a)<=3*U a
theorem tV {G:Nat->Int}{l1 l2 u1 u2:Int}:Unparted (ptG G) (3*l1) (3*l2) (3*u1) (3*u2)↔(∀a,a<2->AxT G (prT l1 l2) (prT u1 u2) a) /\
 ∀i,i<6->¬ ∀c,c<4->crs (ptG G i) (ptG G ((i+1)%6)) (fK l1 l2 u1 u2 (c*2)) (fK l1 l2 u1 u2 (c*2+1))<0:=by
 have hc:∀i,(0<=crs (ptG G i) (ptG G (nx i)) (3*l1) (3*l2)∨0<=crs (ptG G i) (ptG G (nx i)) (3*u1) (3*l2)∨0<=crs (ptG G i) (ptG G (nx i)) (3*u1) (3*u2)∨0<=crs (ptG G i) (ptG G (nx i)) (3*l1) (3*u2)) ↔
  ¬ ∀c,c<4->crs (ptG G i) (ptG G ((i+1)%6)) (fK l1 l2 u1 u2 (c*2)) (fK l1 l2 u1 u2 (c*2+1))<0:=fun i=>by
  constructor
  · intro h k;have k0:=k 0 (by omega);have k1:=k 1 (by omega);have k2:=k 2 (by omega);have k3:=k 3 (by omega);simp only[fK,nx]at *;omega
  · intro h;by_cases c:(0<=crs (ptG G i) (ptG G (nx i)) (3*l1) (3*l2)∨0<=crs (ptG G i) (ptG G (nx i)) (3*u1) (3*l2)∨0<=crs (ptG G i) (ptG G (nx i)) (3*u1) (3*u2)∨0<=crs (ptG G i) (ptG G (nx i)) (3*l1) (3*u2))
    · exact c
    · refine absurd (fun c hc=>?_) h;obtain rfl | rfl | rfl | rfl:c=0∨c=1∨c=2∨c=3:=by omega
      all_goals
       simp only[fK,nx]at *;omega
 constructor
 · rintro⟨⟨h1,h2⟩,⟨h3,h4⟩,h5⟩;refine⟨fun a ha=>?_,fun i hi=>(hc i).1 (h5 i hi)⟩;obtain rfl | rfl:a=0∨a=1:=by omega
   · exact⟨h1,h2⟩
   · exact⟨h3,h4⟩
 · rintro⟨h1,h2⟩;exact⟨h1 0 (by omega),h1 1 (by omega),fun i hi=>(hc i).2 (h2 i hi)⟩
theorem jz {w0 a b:World}{p0 p1 p2 p3 p4 p5:Addr}{v0 v1 v2 v3 v4 v5:Value}(hb:Below a.heap.size a b)(h:a.cell? p0=some v0/\a.cell? p1=some v1/\a.cell? p2=some v2/\a.cell? p3=some v3/\a.cell? p4=some v4/\a.cell? p5=some v5/\Below w0.heap.size w0 a) :
 b.cell? p0=some v0/\b.cell? p1=some v1/\b.cell? p2=some v2/\b.cell? p3=some v3/\b.cell? p4=some v4/\b.cell? p5=some v5/\Below w0.heap.size w0 b :=
 ⟨aa hb h.1,aa hb h.2.1,aa hb h.2.2.1,aa hb h.2.2.2.1,aa hb h.2.2.2.2.1,aa hb h.2.2.2.2.2.1,ae h.2.2.2.2.2.2 hb⟩
theorem tL (r a b l1 l2 u1 u2:Int)(G:Nat->Int)(t:Bool)(ht:t=true↔Unparted (ptG G) (3*l1) (3*l2) (3*u1) (3*u2))
 (hpos:∀i,i<6->0<crs (ptG G i) (ptG G ((i+1)%6)) (G ((i+3)%6*2)) (G ((i+3)%6*2+1))) (bG:∀o,o<12→-1152921504606846976<=G o/\G o<=1152921504606846976)
 (f1:¬cD l1 l2) (f2:¬cD u1 u2) (h1:l1<=u1) (h2:l2<=u2)
 (OKC:∀w,Calls Tryz.prog 118 #[.agg #[.int .i64 r,.int .i64 a,.int .i64 b]] w fun e w'=>e=.returned (.bool true)/\Below w.heap.size w w')
 (HX:∀w,Calls Tryz.prog 121 #[.agg #[.int .i64 a,.int .i64 b],.int .i64 r] w fun e w'=>(∃g cap,e=.returned (.slice (some ⟨g,0,none⟩) 6 cap)/\∀o<12,w'.cell? ⟨g,o,none⟩=some (.int .i64 (G o)))/\Below w.heap.size w w') (w:World) :
 Calls Tryz.prog 74 #[.agg #[.int .i64 r,.int .i64 a,.int .i64 b],.agg #[.int .i64 l1,.int .i64 l2],.agg #[.int .i64 u1,.int .i64 u2]] w fun e w'=>e=.returned (.bool t)/\Below w.heap.size w w':=by
 replace OKC:Hid _:=OKC;replace HX:Hid _:=HX;have HT:=ab (ht.trans tV);have HP:=ab hpos;have BG:=ab bG;have FA1:=ab fun w=>cM f1 w;have FA2:=ab fun w=>cM f2 w;have bb:(-2147483648<=l1/\l1<=2147483648)/\(-2147483648<=l2/\l2<=2147483648)/\(-2147483648<=u1/\u1<=2147483648)/\(-2147483648<=u2/\u2<=2147483648):=by unfold cD at f1 f2;omega
 obtain⟨⟨l11,l12⟩,⟨l21,l22⟩,⟨u11,u12⟩,⟨u21,u22⟩⟩:=bb;have k1:decide (u1<l1)=false:=by simp only[decide_eq_false_iff_not];omega
 have k2:decide (u2<l2)=false:=by simp only[decide_eq_false_iff_not];omega
 have S0:=ab (sE w 39 26 26 r a b l1 l2 u1 u2);have B0:=ab (ae (ae (ag w (.cells #[.int .i64 r,.int .i64 a,.int .i64 b] 39)) (ag _ (.cells #[.int .i64 l1,.int .i64 l2] 26))) (ag _ (.cells #[.int .i64 u1,.int .i64 u2] 26)));clear ht hpos bG f1 f2
 go_enter Tryz.func74,Tryz.ntmps74
 go_wp2_with fail;generalize ((w.alloc (.cells #[.int .i64 r,.int .i64 a,.int .i64 b] 39)).alloc (.cells #[.int .i64 l1,.int .i64 l2] 26)).alloc (.cells #[.int .i64 u1,.int .i64 u2] 26)=w0 at *;refine(OKC.out _).mono ?_;rintro e w1 ⟨rfl,b1⟩;have S1:=ab (S0.out.keep b1);have B1:=ab (ae B0.out b1);obtain⟨⟨x0,x1,x2⟩,hL,hU⟩:=S1.out;have y0:=hL 0 (by omega);have y1:=hL 1 (by omega);have z0:=hU 0 (by omega);have z1:=hU 1 (by omega);simp only[prT]at y0 y1 z0 z1;clear S0 B0 OKC b1 hL hU;go_wp2_with fail;refine(FA1.out _).mono ?_;rintro e w' ⟨rfl,rfl⟩;go_wp2_with fail;refine(FA2.out _).mono ?_;rintro e w'' ⟨rfl,rfl⟩;go_wp2_with fail;refine(HX.out _).mono ?_;rintro e w3 ⟨⟨g,cap,rfl,hG⟩,b3⟩;have S3:=ab (S1.out.keep b3);have B3:=ab (ae B1.out b3);have G3:Hid (Row12 g 12 G w3):=ab hG;replace y0:=aa b3 y0;replace y1:=aa b3 y1;replace z0:=aa b3 z0;replace z1:=aa b3 z1;clear S1 B1 HX FA1 FA2 x0 x1 x2 b3 hG k1 k2;go_wp2_with fail;have hal:=ag w3 (.cells #[.int .i64 (3*l1),.int .i64 (3*l2),.int .i64 (3*u1),.int .i64 (3*l2),.int .i64 (3*u1),.int .i64 (3*u2),.int .i64 (3*l1),.int .i64 (3*u2)] 171);have C4:=ab (Dh w3 171 l1 l2 u1 u2);have S4:=ab (S3.out.keep hal);have B4:=ab (ae B3.out hal);have G4:=ab (G3.out.keep hal);clear S3 B3 G3 hal y0 y1 z0 z1;generalize w3.alloc (.cells #[.int .i64 (3*l1),.int .i64 (3*l2),.int .i64 (3*u1),.int .i64 (3*l2),.int .i64 (3*u1),.int .i64 (3*u2),.int .i64 (3*l1),.int .i64 (3*u2)] 171)=w4 at *;obtain⟨L,eL⟩:∃L,prT l1 l2=L:=⟨_,rfl⟩
 obtain⟨U,eU⟩:∃U,prT u1 u2=U:=⟨_,rfl⟩
 have bL:Hid (∀o,o<2→-2147483648<=L o/\L o<=2147483648):=ab fun o ho=>by
  rw[←eL];obtain rfl | rfl:o=0∨o=1:=by omega
  · exact⟨l11,l12⟩
  · exact⟨l21,l22⟩
 have bU:Hid (∀o,o<2→-2147483648<=U o/\U o<=2147483648):=ab fun o ho=>by
  rw[←eU];obtain rfl | rfl:o=0∨o=1:=by omega
  · exact⟨u11,u12⟩
  · exact⟨u21,u22⟩
 have bC:Hid (∀o,-9000000000<=fK l1 l2 u1 u2 o/\fK l1 l2 u1 u2 o<=9000000000):=ab (AY (by omega) (by omega) (by omega) (by omega));rw[eL,eU]at HT S4;obtain⟨C,eC⟩:∃C,fK l1 l2 u1 u2=C:=⟨_,rfl⟩
 rw[eC]at HT C4 bC;clear eL eU eC;go_wp2_with fail;go_loopw [9] (fun v9 wr=>∃k:Nat,k<=2/\v9=.int .i64 (k:Int)/\Hid (∀a,a<k->AxT G L U a)/\Hid (Below w4.heap.size w4 wr)) (fun v9 _=>2-(intOf v9).toNat)
 case atStart=>exact⟨0,by omega,rfl,ab fun a ha=>absurd ha (Nat.not_lt_zero _),ab (Below.refl _ _)⟩
 case round =>
  obtain⟨k,hk,rfl,hA,hB⟩:=hrel;by_cases hk2:k<2
  · have hk2':(k:Int)<2:=by omega
    have q0:=aa hB.out (G4.out k (by omega));have G5:=ab (G4.out.keep hB.out);have S5:=ab (S4.out.keep hB.out);have hGk:=BG.out k (by omega);have E0:Hid (∃j,j<6/\G (j*2+k)=G k):=ab ⟨0,by omega,by rw[Nat.zero_mul,Nat.zero_add]⟩;generalize eG:G k=n0 at q0 hGk E0;clear eG;obtain⟨g1,g2⟩:=hGk;go_wp2_with fail
    go_quiet (fail)
    go_wp2_with fail;clear q0;go_loopw [10,11,12] (fun v10 v11 v12 wx=>∃(i:Nat) (le mo:Int),i<=6/\v12=.int .i64 (i:Int)/\v10=.int .i64 le/\v11=.int .i64 mo/\Hid (∀j,j<i->le<=G (j*2+k)/\G (j*2+k)<=mo)/\Hid ((∃j,j<6/\G (j*2+k)=le)/\∃j,j<6/\G (j*2+k)=mo)/\Hid (Below w4.heap.size w4 wx)) (fun _ _ v12 _=>6-(intOf v12).toNat)
    case atStart=>exact⟨0,n0,n0,by omega,rfl,rfl,rfl,ab fun j hj=>absurd hj (Nat.not_lt_zero _),ab ⟨E0.out,E0.out⟩,ab (aB hB.out _)⟩
    case round =>
     obtain⟨i,le,mo,hi,rfl,rfl,rfl,hI,hE,hX⟩:=hrel;by_cases hi6:i<6
     · have hi6':(i:Int)<6:=by omega
       have x0:=aa hX.out (G4.out (i*2+k) (by omega));have hI2:Hid (∀j,j<i+1->min le (G (i*2+k))<=G (j*2+k)/\G (j*2+k)<=max mo (G (i*2+k))):=ab fun j hj=>by
        by_cases c:j=i
        · rw[c];omega
        · have:=hI.out j (by omega);omega
       have hE2:Hid ((∃j,j<6/\G (j*2+k)=min le (G (i*2+k)))/\∃j,j<6/\G (j*2+k)=max mo (G (i*2+k))):=ab (by
        obtain⟨⟨j1,h1,e1⟩,j2,h2,e2⟩:=hE.out;constructor
        · by_cases c:le<=G (i*2+k)
          · exact⟨j1,h1,by omega⟩
          · exact⟨i,hi6,by omega⟩
        · by_cases c:G (i*2+k)<=mo
          · exact⟨j2,h2,by omega⟩
          · exact⟨i,hi6,by omega⟩)
       generalize G (i*2+k)=y at x0 hI2 hE2;clear hI hE;go_wp2_with fail
       go_quiet (fail)
       go_wp2_with fail;go_roundw
       case rel=>exact⟨i+1,_,_,by omega,by go_num,rfl,rfl,hI2,hE2,ab (aB hX.out _)⟩
       case measure=>simp[intOf];omega
     · obtain rfl:i=6:=by omega
       have h66:decide (((6:Nat):Int)<6)=false:=by decide
       have y0:=aa hX.out (S4.out.2.1 k hk2);have y1:=aa hX.out (S4.out.2.2 k hk2);have bl:=bL.out k hk2;have bu:=bU.out k hk2;have AX:Hid (AxT G L U k↔3*L k<=mo/\le<=3*U k):=ab (by
        obtain⟨⟨j1,h1,e1⟩,j2,h2,e2⟩:=hE.out;constructor
        · rintro⟨⟨i,hi,h3⟩,i',hi',h4⟩;have a1:=hI.out i hi;have a2:=hI.out i' hi';omega
        · rintro⟨h3,h4⟩;exact⟨⟨j2,h2,by omega⟩,j1,h1,by omega⟩)
       have NOT:Hid (¬AxT G L U k->t=false):=ab fun h=>by
        cases ee:t with
        | false=>rfl
        | true=>exact absurd ((HT.out.1 ee).1 k hk2) h
       have NXT:Hid (AxT G L U k->∀a,a<k+1->AxT G L U a):=ab fun h a ha=>by
        by_cases c:a=k
        · rw[c];exact h
        · exact hA.out a (by omega)
       clear hI hE hi6 hA;generalize L k=lk at y0 bl AX;generalize U k=uk at y1 bu AX;obtain⟨bl1,bl2⟩:=bl;obtain⟨bu1,bu2⟩:=bu;by_cases c1:mo<3*lk
       · have et:t=false:=NOT.out fun h=>by have:=AX.out.1 h;omega
         subst et;clear AX NOT NXT HT;go_wp2_with fail;go_ret;exact⟨rfl,ae B4.out hX.out⟩
       · have d1:decide (mo<3*lk)=false:=by simp only[decide_eq_false_iff_not];exact c1
         by_cases c2:3*uk<le
         · have et:t=false:=NOT.out fun h=>by have:=AX.out.1 h;omega
           subst et;clear AX NOT NXT HT c1;go_wp2_with fail;go_ret;exact⟨rfl,ae B4.out hX.out⟩
         · have d2:decide (3*uk<le)=false:=by simp only[decide_eq_false_iff_not];exact c2
           have hA2:=ab (NXT.out (AX.out.2 (by omega)));clear AX NOT NXT c1 c2;go_wp2_with fail;go_roundw
           case rel=>exact⟨k+1,by omega,by go_num,hA2,hX⟩
           case measure=>simp[intOf];omega
  · have h22:decide ((k:Int)<2)=false:=by simp only[decide_eq_false_iff_not];omega
    have HT2:Hid (t=true↔∀i,i<6->¬ ∀c,c<4->crs (ptG G i) (ptG G ((i+1)%6)) (C (c*2)) (C (c*2+1))<0):=ab (HT.out.trans ⟨fun h=>h.2,fun h=>⟨fun a ha=>hA.out a (by omega),h⟩⟩);clear HT hA S4 hk2;go_wp2_with fail;go_loopw [13] (fun v13 wx=>∃i:Nat,i<=6/\v13=.int .i64 (i:Int)/\Hid (∀e,e<i->¬ ∀c,c<4->crs (ptG G e) (ptG G ((e+1)%6)) (C (c*2)) (C (c*2+1))<0)/\Hid (Below w4.heap.size w4 wx)) (fun v13 _=>6-(intOf v13).toNat)
    case atStart=>exact⟨0,by omega,rfl,ab fun e he=>absurd he (Nat.not_lt_zero _),hB⟩
    case round =>
     clear hB;obtain⟨i,hi,rfl,hI,hB⟩:=hrel;by_cases hi6:i<6
     · have hi6':(i:Int)<6:=by omega
       obtain⟨j,ej⟩:∃j,(i+1)%6=j:=⟨_,rfl⟩
       obtain⟨m,em⟩:∃m,(i+3)%6=m:=⟨_,rfl⟩
       obtain⟨hj,ej1,ej2⟩:=pc hi6 1 ej;obtain⟨hm,em1,em2⟩:=pc hi6 3 em;replace ej1:((i:Int)+1)%6=(j:Int):=ej1;replace ej2:((i:Int)+1).tmod 6=(j:Int):=ej2;replace em1:((i:Int)+3)%6=(m:Int):=em1;replace em2:((i:Int)+3).tmod 6=(m:Int):=em2;have hj':(j:Int)<6:=by omega
       have hm':(m:Int)<6:=by omega
       have x0:=aa hB.out (G4.out (i*2) (by omega));have x1:=aa hB.out (G4.out (i*2+1) (by omega));have y0:=aa hB.out (G4.out (j*2) (by omega));have y1:=aa hB.out (G4.out (j*2+1) (by omega));have z0:=aa hB.out (G4.out (m*2) (by omega));have z1:=aa hB.out (G4.out (m*2+1) (by omega));have C5:=ab (C4.out.keep hB.out);have hg:=World.block_lt_of_cell? _ _ x0;have pos:=HP.out i hi6;rw[ej,em]at pos;have gb:=fun o ho=>BG.out o ho;have CR1:=ab fun w=>kc (G (i*2)) (G (i*2+1)) (G (j*2)) (G (j*2+1)) (G (m*2)) (G (m*2+1)) 1 ((Gv pos).symm.trans Ai) (gb _ (by omega)).1 (gb _ (by omega)).2 (gb _ (by omega)).1 (gb _ (by omega)).2 (gb _ (by omega)).1 (gb _ (by omega)).2 (gb _ (by omega)).1 (gb _ (by omega)).2 (gb _ (by omega)).1 (gb _ (by omega)).2 (gb _ (by omega)).1 (gb _ (by omega)).2 w;have CR2:=ab fun c w=>kc (G (i*2)) (G (i*2+1)) (G (j*2)) (G (j*2+1)) (C (c*2)) (C (c*2+1)) _ (Ai (p:=(G (i*2),G (i*2+1))) (q:=(G (j*2),G (j*2+1)))) (gb _ (by omega)).1 (gb _ (by omega)).2 (gb _ (by omega)).1 (gb _ (by omega)).2 (gb _ (by omega)).1 (gb _ (by omega)).2 (gb _ (by omega)).1 (gb _ (by omega)).2 (by have:=bC.out (c*2);omega) (by have:=bC.out (c*2);omega) (by have:=bC.out (c*2+1);omega) (by have:=bC.out (c*2+1);omega) w;have YES:Hid ((∀c,c<4->crs (G (i*2),G (i*2+1)) (G (j*2),G (j*2+1)) (C (c*2)) (C (c*2+1))<0)->t=false):=ab fun h=>by
        cases ee:t with
        | false=>rfl
        | true=>exact absurd (by rw[ej];exact h) (HT2.out.1 ee i hi6)
       have NO:Hid ((¬ ∀c,c<4->crs (G (i*2),G (i*2+1)) (G (j*2),G (j*2+1)) (C (c*2)) (C (c*2+1))<0)->∀e,e<i+1->¬ ∀c,c<4->crs (ptG G e) (ptG G ((e+1)%6)) (C (c*2)) (C (c*2+1))<0):=ab fun h e he=>by
        by_cases c:e=i
        · rw[c,ej];exact h
        · exact hI.out e (by omega)
       clear pos gb hI ej em;generalize G (i*2)=p0 at *;generalize G (i*2+1)=p1 at *;generalize G (j*2)=q0 at *;generalize G (j*2+1)=q1 at *;generalize G (m*2)=r0 at *;generalize G (m*2+1)=r1 at *;go_wp2_with fail
       go_cut [14,15]from 133 to 189 (fun v14 v15 wx=>∃P Q:Nat,v14=.pointer (some ⟨P,0,none⟩)/\v15=.pointer (some ⟨Q,0,none⟩)/\wx.cell? ⟨P,0,none⟩=some (.int .i64 p0)/\wx.cell? ⟨P,1,none⟩=some (.int .i64 p1)/\wx.cell? ⟨Q,0,none⟩=some (.int .i64 q0)/\wx.cell? ⟨Q,1,none⟩=some (.int .i64 q1)/\Below wr.heap.size wr wx)
       case first =>
        go_big_region
        all_goals
         go_wp2;go_meet
         first
          | exact⟨wr.heap.size,wr.heap.size+1,rfl,rfl,by go_simp,by go_simp,by go_simp,by go_simp,by go_grown⟩
          | exact⟨wr.heap.size+1,wr.heap.size,rfl,rfl,by go_simp,by go_simp,by go_simp,by go_simp,by go_grown⟩
       case rest =>
        clear x0 x1 y0 y1 hg;obtain⟨P,Q,rfl,rfl,m0,m1,n0,n1,hX⟩:=hcut;replace z0:=aa hX z0;replace z1:=aa hX z1;have hS0:wc.drew.cell? ⟨P,0,none⟩=some (.int .i64 p0)/\wc.drew.cell? ⟨P,1,none⟩=some (.int .i64 p1)/\wc.drew.cell? ⟨Q,0,none⟩=some (.int .i64 q0)/\wc.drew.cell? ⟨Q,1,none⟩=some (.int .i64 q1)/\wc.drew.cell? ⟨g,m*2,none⟩=some (.int .i64 r0)/\wc.drew.cell? ⟨g,m*2+1,none⟩=some (.int .i64 r1)/\Below wr.heap.size wr wc.drew:=⟨m0,m1,n0,n1,z0,z1,hX.drew⟩
        have hw3:IntKind.i64.wrap ((i:Int)+3)=(i:Int)+3:=by
         rw[IntKind.wrap_i64];omega
        have hm0:(0:Int)<=(m:Int):=by omega
        go_wp2_with fail
        go_region_held3 (fun w'=>w'.cell? ⟨P,0,none⟩=some (.int .i64 p0)/\w'.cell? ⟨P,1,none⟩=some (.int .i64 p1)/\w'.cell? ⟨Q,0,none⟩=some (.int .i64 q0)/\w'.cell? ⟨Q,1,none⟩=some (.int .i64 q1)/\w'.cell? ⟨g,m*2,none⟩=some (.int .i64 r0)/\w'.cell? ⟨g,m*2+1,none⟩=some (.int .i64 r1)/\Below wr.heap.size wr w') (first | exact hS0 | exact jz hb (by assumption)) (first | (go_at_call 122;refine(CR1.out _).mono ?_;rintro e w' ⟨rfl,hb⟩))
        all_goals
         rename_i hS;obtain⟨m0',m1',n0',n1',-,-,hX2⟩:=hS;have C6:=ab (C5.out.keep hX2);have HB2:=ab (ae hB.out hX2);clear m0 m1 n0 n1 hS0 CR1 z0 z1 hX hX2 hb hw3 em1 em2 ej1 ej2 C5;obtain⟨wd,ewd⟩:∃z,z=w':=⟨_,rfl⟩
         rw[←ewd]at m0' m1' n0' n1' C6 HB2 ⊢;clear ewd;go_wp2_with fail;go_loopw [17,18] (fun v17 v18 wx=>∃(c:Nat) (ap:Bool),c<=4/\v18=.int .i64 (c:Int)/\v17=.bool ap/\Hid (ap=true↔∀d,d<c->crs (p0,p1) (q0,q1) (C (d*2)) (C (d*2+1))<0)/\Hid (Below wd.heap.size wd wx)) (fun _ v18 _=>4-(intOf v18).toNat)
         case atStart=>exact⟨0,true,by omega,rfl,rfl,ab ⟨fun _ d hd=>absurd hd (Nat.not_lt_zero _),fun _=>rfl⟩,ab (Below.refl _ _)⟩
         case round =>
          obtain⟨c,ap,hc,rfl,rfl,hAP,hY⟩:=hrel;by_cases hc4:c<4
          · have hc4':(c:Int)<4:=by omega
            have hc0:(0:Int)<=(c:Int):=by omega
            have c0:=aa hY.out (C6.out (c*2) (by omega));have c1:=aa hY.out (C6.out (c*2+1) (by omega));replace m0':=aa hY.out m0';replace m1':=aa hY.out m1';replace n0':=aa hY.out n0';replace n1':=aa hY.out n1';have CRc:=ab (CR2.out c);have NXA:Hid (∀v:Bool,(v=true↔ap=true/\crs (p0,p1) (q0,q1) (C (c*2)) (C (c*2+1))<0)->(v=true↔∀d,d<c+1->crs (p0,p1) (q0,q1) (C (d*2)) (C (d*2+1))<0)):=ab fun v hv=>hv.trans ⟨fun h d hd=>by
             by_cases e:d=c
             · rw[e];exact h.2
             · exact hAP.out.1 h.1 d (by omega),fun h=>⟨hAP.out.2 fun d hd=>h d (by omega),h c (by omega)⟩⟩
            have hw:=Dq (crs (p0,p1) (q0,q1) (C (c*2)) (C (c*2+1)));generalize C (c*2)=e0 at *;generalize C (c*2+1)=e1 at *;generalize crs (p0,p1) (q0,q1) e0 e1=z at *;generalize sgT z=s at *;have hS0:wr.drew.cell? ⟨P,0,none⟩=some (.int .i64 p0)/\wr.drew.cell? ⟨P,1,none⟩=some (.int .i64 p1)/\wr.drew.cell? ⟨Q,0,none⟩=some (.int .i64 q0)/\wr.drew.cell? ⟨Q,1,none⟩=some (.int .i64 q1)/\wr.drew.cell? ⟨w3.heap.size,c*2,none⟩=some (.int .i64 e0)/\wr.drew.cell? ⟨w3.heap.size,c*2+1,none⟩=some (.int .i64 e1)/\Below wd.heap.size wd wr.drew:=⟨m0',m1',n0',n1',c0,c1,hY.out.drew⟩
            clear hAP m0' m1' n0' n1' c0 c1 YES NO;rcases hw with⟨rfl,hz⟩ | ⟨rfl,hz⟩ | ⟨rfl,hz⟩
            · have hN1:=ab (NXA.out ap (by simp[hz]));clear NXA;cases ap
              all_goals
               go_wp2_with fail
               go_region_held3 (fun w'=>w'.cell? ⟨P,0,none⟩=some (.int .i64 p0)/\w'.cell? ⟨P,1,none⟩=some (.int .i64 p1)/\w'.cell? ⟨Q,0,none⟩=some (.int .i64 q0)/\w'.cell? ⟨Q,1,none⟩=some (.int .i64 q1)/\w'.cell? ⟨w3.heap.size,c*2,none⟩=some (.int .i64 e0)/\w'.cell? ⟨w3.heap.size,c*2+1,none⟩=some (.int .i64 e1)/\Below wd.heap.size wd w') (first | exact hS0 | exact jz hb (by assumption)) (first | (go_at_call 122;refine(CRc.out _).mono ?_;rintro e w' ⟨rfl,hb⟩))
               all_goals
                rename_i hS2;have hY2:=ab hS2.2.2.2.2.2.2;clear hS2 hS0 hb CRc;go_wp2_with fail;go_roundw
                case rel =>
                 first
                  | exact⟨c+1,_,by omega,by go_num,rfl,hN1,hY2⟩
                  | exact⟨c+1,_,by omega,by go_num,rfl,ab ⟨fun _=>hN1.out.1 trivial,fun _=>rfl⟩,hY2⟩
                case measure=>simp[intOf];omega
            · have hN1:=ab (NXA.out false (by simp;omega));clear NXA;cases ap
              all_goals
               go_wp2_with fail
               go_region_held3 (fun w'=>w'.cell? ⟨P,0,none⟩=some (.int .i64 p0)/\w'.cell? ⟨P,1,none⟩=some (.int .i64 p1)/\w'.cell? ⟨Q,0,none⟩=some (.int .i64 q0)/\w'.cell? ⟨Q,1,none⟩=some (.int .i64 q1)/\w'.cell? ⟨w3.heap.size,c*2,none⟩=some (.int .i64 e0)/\w'.cell? ⟨w3.heap.size,c*2+1,none⟩=some (.int .i64 e1)/\Below wd.heap.size wd w') (first | exact hS0 | exact jz hb (by assumption)) (first | (go_at_call 122;refine(CRc.out _).mono ?_;rintro e w' ⟨rfl,hb⟩))
               all_goals
                rename_i hS2;have hY2:=ab hS2.2.2.2.2.2.2;clear hS2 hS0 hb CRc;go_wp2_with fail;go_roundw
                case rel =>
                 first
                  | exact⟨c+1,_,by omega,by go_num,rfl,hN1,hY2⟩
                  | exact⟨c+1,_,by omega,by go_num,rfl,ab ⟨fun _=>hN1.out.1 trivial,fun _=>rfl⟩,hY2⟩
                case measure=>simp[intOf];omega
            · have hN1:=ab (NXA.out false (by simp;omega));clear NXA;cases ap
              all_goals
               go_wp2_with fail
               go_region_held3 (fun w'=>w'.cell? ⟨P,0,none⟩=some (.int .i64 p0)/\w'.cell? ⟨P,1,none⟩=some (.int .i64 p1)/\w'.cell? ⟨Q,0,none⟩=some (.int .i64 q0)/\w'.cell? ⟨Q,1,none⟩=some (.int .i64 q1)/\w'.cell? ⟨w3.heap.size,c*2,none⟩=some (.int .i64 e0)/\w'.cell? ⟨w3.heap.size,c*2+1,none⟩=some (.int .i64 e1)/\Below wd.heap.size wd w') (first | exact hS0 | exact jz hb (by assumption)) (first | (go_at_call 122;refine(CRc.out _).mono ?_;rintro e w' ⟨rfl,hb⟩))
               all_goals
                rename_i hS2;have hY2:=ab hS2.2.2.2.2.2.2;clear hS2 hS0 hb CRc;go_wp2_with fail;go_roundw
                case rel =>
                 first
                  | exact⟨c+1,_,by omega,by go_num,rfl,hN1,hY2⟩
                  | exact⟨c+1,_,by omega,by go_num,rfl,ab ⟨fun _=>hN1.out.1 trivial,fun _=>rfl⟩,hY2⟩
                case measure=>simp[intOf];omega
          · obtain rfl:c=4:=by omega
            have h44:decide (((4:Nat):Int)<4)=false:=by decide
            have HB3:=ab (ae HB2.out hY.out);cases ap with
            | true =>
             have et:t=false:=YES.out (hAP.out.1 rfl);subst et;clear YES NO hAP hc4;go_wp2_with fail;go_ret;exact⟨rfl,ae B4.out HB3.out⟩
            | false =>
             have hI2:=ab (NO.out fun h=>by have:=hAP.out.2 h;cases this);clear YES NO hAP hc4;go_wp2_with fail;go_roundw
             case rel=>exact⟨i+1,by omega,by go_num,hI2,HB3⟩
             case measure=>simp[intOf];omega
     · obtain rfl:i=6:=by omega
       have h66:decide (((6:Nat):Int)<6)=false:=by decide
       have et:t=true:=HT2.out.2 hI.out;subst et;clear HT2 hI hi6;go_wp2_with fail;go_ret;exact⟨rfl,ae B4.out hB.out⟩
theorem Hy {K:Nat}(hK:K<=12)(a b:Int):∀i,i<6->0<crs (hv K a b i) (hv K a b ((i+1)%6)) (hv K a b ((i+3)%6)).1 (hv K a b ((i+3)%6)).2:=fun i hi=>by
 have hd:=(bX hK).1;rw[←ld];have h:=fun p q=>kF K a b p q;have f:=fun p q=>ik K a b (coX K a b p q) (coY K a b p q) 1;obtain rfl | rfl | rfl | rfl | rfl | rfl:i=0∨i=1∨i=2∨i=3∨i=4∨i=5:=by omega
 · have k:=(f (-1) (-1)).1;rw[(h (-1) (-1)).1,(h (-1) (-1)).2]at k;show 0<lin (hv K a b 0) (hv K a b 1) _ _ 1
   exact k.symm ▸ (by omega)
 · have k:=(f 1 (-2)).2.1;rw[(h 1 (-2)).1,(h 1 (-2)).2]at k;show 0<lin (hv K a b 1) (hv K a b 2) _ _ 1
   exact k.symm ▸ (by omega)
 · have k:=(f 2 (-1)).2.2.1;rw[(h 2 (-1)).1,(h 2 (-1)).2]at k;show 0<lin (hv K a b 2) (hv K a b 3) _ _ 1
   exact k.symm ▸ (by omega)
 · have k:=(f 1 1).2.2.2.1;rw[(h 1 1).1,(h 1 1).2]at k;show 0<lin (hv K a b 3) (hv K a b 4) _ _ 1
   exact k.symm ▸ (by omega)
 · have k:=(f (-1) 2).2.2.2.2.1;rw[(h (-1) 2).1,(h (-1) 2).2]at k;show 0<lin (hv K a b 4) (hv K a b 5) _ _ 1
   exact k.symm ▸ (by omega)
 · have k:=(f (-2) 1).2.2.2.2.2;rw[(h (-2) 1).1,(h (-2) 1).2]at k;show 0<lin (hv K a b 5) (hv K a b 0) _ _ 1
   exact k.symm ▸ (by omega)
theorem uK (K:Nat)(a b:Int):ptG (dY K a b)=hv K a b:=by
 funext j;unfold ptG hv;rw[show j*2=2*j by omega,iy,jy]
theorem BT {K:Nat}{a b:Int}(hK:K<=12)(ha: -400000000<=a/\a<=400000000)(hb: -400000000<=b/\b<=400000000)(o:Nat)(ho:o<12): -1152921504606846976<=dY K a b o/\dY K a b o<=1152921504606846976:=by
 have hw:=jn (o / 2) (by omega);have hc:=ic (a:=3*a+bR (o / 2)) (b:=3*b+bS (o / 2)) hK (by omega) (by omega);unfold dY
 split
 · unfold coX poX;omega
 · unfold coY poY;omega
theorem cw (r a b l1 l2 u1 u2:Int)(ok fa fb:Bool)(h:ok=false∨(ok=true/\fa=true)∨(ok=true/\fa=false/\fb=true)∨(ok=true/\fa=false/\fb=false/\u1<l1)∨(ok=true/\fa=false/\fb=false/\decide (u1<l1)=false/\u2<l2))
 (OKC:∀w,Calls Tryz.prog 118 #[.agg #[.int .i64 r,.int .i64 a,.int .i64 b]] w fun e w'=>e=.returned (.bool ok)/\Below w.heap.size w w')
 (FA:∀w,Calls Tryz.prog 120 #[.int .i64 l1,.int .i64 l2] w fun e w'=>e=.returned (.bool fa)/\w'=w)
 (FB:∀w,Calls Tryz.prog 120 #[.int .i64 u1,.int .i64 u2] w fun e w'=>e=.returned (.bool fb)/\w'=w) (w:World) :
 Calls Tryz.prog 74 #[.agg #[.int .i64 r,.int .i64 a,.int .i64 b],.agg #[.int .i64 l1,.int .i64 l2],.agg #[.int .i64 u1,.int .i64 u2]] w fun e w'=>e=.returned (.bool false)/\Below w.heap.size w w':=by
 replace OKC:Hid _:=OKC;replace FA:Hid _:=FA;replace FB:Hid _:=FB;have S0:=ab (sE w 39 26 26 r a b l1 l2 u1 u2);have B0:=ab (ae (ae (ag w (.cells #[.int .i64 r,.int .i64 a,.int .i64 b] 39)) (ag _ (.cells #[.int .i64 l1,.int .i64 l2] 26))) (ag _ (.cells #[.int .i64 u1,.int .i64 u2] 26)))
 go_enter Tryz.func74,Tryz.ntmps74
 go_wp2_with fail;generalize ((w.alloc (.cells #[.int .i64 r,.int .i64 a,.int .i64 b] 39)).alloc (.cells #[.int .i64 l1,.int .i64 l2] 26)).alloc (.cells #[.int .i64 u1,.int .i64 u2] 26)=w0 at *;refine(OKC.out _).mono ?_;rintro e w1 ⟨rfl,b1⟩;have B1:=ab (ae B0.out b1);obtain⟨-,hL,hU⟩:=S0.out.keep b1;have y0:=hL 0 (by omega);have y1:=hL 1 (by omega);have z0:=hU 0 (by omega);have z1:=hU 1 (by omega);simp only[prT]at y0 y1 z0 z1;clear S0 B0 OKC b1 hL hU;rcases h with rfl | ⟨rfl,rfl⟩ | ⟨rfl,rfl,rfl⟩ | ⟨rfl,rfl,rfl,h4⟩ | ⟨rfl,rfl,rfl,h4,h5⟩
 · go_wp2_with fail;go_ret;exact⟨rfl,B1.out⟩
 · go_wp2_with fail;refine(FA.out _).mono ?_;rintro e w' ⟨rfl,rfl⟩;go_wp2_with fail;go_ret;exact⟨rfl,B1.out⟩
 all_goals
  go_wp2_with fail;refine(FA.out _).mono ?_;rintro e w' ⟨rfl,rfl⟩;go_wp2_with fail;refine(FB.out _).mono ?_;rintro e w'' ⟨rfl,rfl⟩;go_wp2_with fail;go_ret;exact⟨rfl,B1.out⟩
def qA (r a b l1 l2 u1 u2:Int):Prop:=Ok4 r a b/\(¬cD l1 l2)/\(¬cD u1 u2)/\(l1<=u1/\l2<=u2)/\Tou (12-r).toNat l1 l2 u1 u2 a b
theorem Gf (r a b l1 l2 u1 u2:Int)(t:Bool)(ht:t=true↔qA r a b l1 l2 u1 u2)(w:World) :
 Calls Tryz.prog 74 #[.agg #[.int .i64 r,.int .i64 a,.int .i64 b],.agg #[.int .i64 l1,.int .i64 l2],.agg #[.int .i64 u1,.int .i64 u2]] w fun e w'=>e=.returned (.bool t)/\Below w.heap.size w w':=by
 have no:¬qA r a b l1 l2 u1 u2->t=false:=fun h=>by
  cases ee:t with
  | false=>rfl
  | true=>exact absurd (ht.1 ee) h
 by_cases hok:Ok4 r a b
 · have OKC:=fun w=>g8 r a b w;rw[jh hok]at OKC;by_cases f1:cD l1 l2
   · rw[no fun h=>h.2.1 f1];by_cases f2:cD u1 u2
     · exact cw r a b l1 l2 u1 u2 true true true (.inr (.inl ⟨rfl,rfl⟩)) OKC (fun w=>eE f1 w) (fun w=>eE f2 w) w
     · exact cw r a b l1 l2 u1 u2 true true false (.inr (.inl ⟨rfl,rfl⟩)) OKC (fun w=>eE f1 w) (fun w=>cM f2 w) w
   · by_cases f2:cD u1 u2
     · rw[no fun h=>h.2.2.1 f2];exact cw r a b l1 l2 u1 u2 true false true (.inr (.inr (.inl ⟨rfl,rfl,rfl⟩))) OKC (fun w=>cM f1 w) (fun w=>eE f2 w) w
     · by_cases h1:l1<=u1
       · by_cases h2:l2<=u2
         · have hK:(12-r).toNat<=12:=by have:=hok.1;omega
           have hr:12-r=((12-r).toNat:Int):=by have:=hok.2.1;omega
           have hp:=ce hok;refine tL r a b l1 l2 u1 u2 (dY (12-r).toNat a b) t ?_ ?_ (fun o ho=>BT hK hp.1 hp.2 o ho) f1 f2 h1 h2 OKC (fun w=>Dc a b r _ hK hr ⟨by omega,by omega⟩ ⟨by omega,by omega⟩ w) w
           · rw[uK];refine ht.trans ⟨fun h=>?_,fun h=>⟨hok,f1,f2,⟨h1,h2⟩,rz (k9 hK a b) (by omega) (by omega) h⟩⟩;exact l9 (k9 hK a b) h.2.2.2.2
           · intro i hi;have:=Hy hK a b i hi;rw[←uK]at this;exact this
         · rw[no fun h=>h2 h.2.2.2.1.2];exact cw r a b l1 l2 u1 u2 true false false (.inr (.inr (.inr (.inr ⟨rfl,rfl,rfl,by simp only[decide_eq_false_iff_not];omega,by omega⟩)))) OKC (fun w=>cM f1 w) (fun w=>cM f2 w) w
       · rw[no fun h=>h1 h.2.2.2.1.1];exact cw r a b l1 l2 u1 u2 true false false (.inr (.inr (.inr (.inl ⟨rfl,rfl,rfl,by omega⟩)))) OKC (fun w=>cM f1 w) (fun w=>cM f2 w) w
 · have OKC:=fun w=>g8 r a b w;rw[dD hok]at OKC;rw[no fun h=>hok h.1];by_cases f1:cD l1 l2
   · by_cases f2:cD u1 u2
     · exact cw r a b l1 l2 u1 u2 false true true (.inl rfl) OKC (fun w=>eE f1 w) (fun w=>eE f2 w) w
     · exact cw r a b l1 l2 u1 u2 false true false (.inl rfl) OKC (fun w=>eE f1 w) (fun w=>cM f2 w) w
   · by_cases f2:cD u1 u2
     · exact cw r a b l1 l2 u1 u2 false false true (.inl rfl) OKC (fun w=>cM f1 w) (fun w=>eE f2 w) w
     · exact cw r a b l1 l2 u1 u2 false false false (.inl rfl) OKC (fun w=>cM f1 w) (fun w=>cM f2 w) w
def j7 (l1 l2 u1 u2 r t:Int):Prop :=
 ((r<0∨12<r)/\t=1)∨((0<=r/\r<=12)/\¬(InW l1 l2/\InW u1 u2)/\t=4)∨((0<=r/\r<=12)/\(InW l1 l2/\InW u1 u2)/\(u1<l1∨u2<l2)/\t=1)∨((0<=r/\r<=12)/\(InW l1 l2/\InW u1 u2)/\(l1<=u1/\l2<=u2)/\t=0)
theorem z8 (l1 l2 u1 u2 r t:Int)(p q:Bool)
 (h:(r<0/\t=1)∨(decide (r<0)=false/\12<r/\t=1)∨(decide (r<0)=false/\decide (12<r)=false/\((p=false/\t=4)∨(p=true/\q=false/\t=4)∨(p=true/\q=true/\u1<l1/\t=1)∨(p=true/\q=true/\decide (u1<l1)=false/\u2<l2/\t=1)∨(p=true/\q=true/\decide (u1<l1)=false/\decide (u2<l2)=false/\t=0))))
 (W1:∀w,Calls Tryz.prog 40 #[.int .i64 l1,.int .i64 l2] w fun e w'=>e=.returned (.bool p)/\w'=w)
 (W2:∀w,Calls Tryz.prog 40 #[.int .i64 u1,.int .i64 u2] w fun e w'=>e=.returned (.bool q)/\w'=w) (w:World) :
 Calls Tryz.prog 19 #[.agg #[.int .i64 l1,.int .i64 l2],.agg #[.int .i64 u1,.int .i64 u2],.int .i64 r] w fun e w'=>e=.returned (.int .i64 t)/\Below w.heap.size w w':=by
 replace W1:Hid _:=W1;replace W2:Hid _:=W2;rcases h with⟨h1,rfl⟩ | ⟨h1,h2,rfl⟩ | ⟨h1,h2,(⟨rfl,rfl⟩ | ⟨rfl,rfl,rfl⟩ | ⟨rfl,rfl,h3,rfl⟩ | ⟨rfl,rfl,h3,h4,rfl⟩ | ⟨rfl,rfl,h3,h4,rfl⟩)⟩
 · go_enter Tryz.func19,Tryz.ntmps19
   go_wp2_with fail;go_ret;exact⟨rfl,by go_grown⟩
 · go_enter Tryz.func19,Tryz.ntmps19
   go_wp2_with fail;go_ret;exact⟨rfl,by go_grown⟩
 · go_enter Tryz.func19,Tryz.ntmps19
   go_wp2_with fail;refine(W1.out _).mono ?_;rintro e w' ⟨rfl,rfl⟩;go_wp2_with fail;go_ret;exact⟨rfl,by go_grown⟩
 all_goals
  go_enter Tryz.func19,Tryz.ntmps19
  go_wp2_with fail;refine(W1.out _).mono ?_;rintro e w' ⟨rfl,rfl⟩;go_wp2_with fail;refine(W2.out _).mono ?_;rintro e w'' ⟨rfl,rfl⟩;go_wp2_with fail;go_ret;exact⟨rfl,by go_grown⟩
theorem Jz (l1 l2 u1 u2 r t:Int)(h:j7 l1 l2 u1 u2 r t)(w:World) :
 Calls Tryz.prog 19 #[.agg #[.int .i64 l1,.int .i64 l2],.agg #[.int .i64 u1,.int .i64 u2],.int .i64 r] w fun e w'=>e=.returned (.int .i64 t)/\Below w.heap.size w w':=by
 refine z8 l1 l2 u1 u2 r t (dA l1 l2) (dA u1 u2) ?_ (fun w=>jM l1 l2 w) (fun w=>jM u1 u2 w) w;unfold j7 at h;have e1:dA l1 l2=true↔InW l1 l2:=⟨ij,g7⟩
 have e2:dA u1 u2=true↔InW u1 u2:=⟨ij,g7⟩
 cases p:dA l1 l2 <;>cases q:dA u1 u2 <;>rw[p]at e1 <;>rw[q]at e2 <;>simp only[Bool.false_eq_true,false_iff,true_iff]at e1 e2
 all_goals
  simp only[decide_eq_false_iff_not,true_and,false_and,or_false,false_or,Bool.false_eq_true,Bool.true_eq_false];simp only[e1,e2,and_self,and_true,true_and,and_false,false_and,not_false_eq_true,not_true_eq_false,or_false,false_or]at h;omega
def bZ (K:Nat)(l1 l2 u1 u2 x:Int):Bool:=decide (l1<=poX K (an x) (ao x)/\poX K (an x) (ao x)<=u1/\l2<=poY K (an x) (ao x)/\poY K (an x) (ao x)<=u2)
theorem ze (X Y l1 l2 u1 u2:Int):(decide (l1<=X)=false/\¬(l1<=X/\X<=u1/\l2<=Y/\Y<=u2))∨(l1<=X/\decide (X<=u1)=false/\¬(l1<=X/\X<=u1/\l2<=Y/\Y<=u2))∨(l1<=X/\X<=u1/\decide (l2<=Y)=false/\¬(l1<=X/\X<=u1/\l2<=Y/\Y<=u2))∨(l1<=X/\X<=u1/\l2<=Y/\decide (Y<=u2)=false/\¬(l1<=X/\X<=u1/\l2<=Y/\Y<=u2))∨(l1<=X/\X<=u1/\l2<=Y/\Y<=u2):=by
 simp only[decide_eq_false_iff_not];omega
theorem zN (s:Value)(L:List Int)(r K:Nat)(hK:K<=12)(hr:12-(r:Int)=(K:Int))(hL:∀x∈L,Whole x/\wR x=(r:Int))(hn:L.length<=40000)(l1 l2 u1 u2:Int)(w:World)(h:RowAt 0 w s L) :
 Calls Tryz.prog 46 #[s,.agg #[.int .i64 l1,.int .i64 l2],.agg #[.int .i64 u1,.int .i64 u2]] w fun e w'=>(∃v,e=.returned v/\w'.ownsRow w.heap.size 35 1 v (L.filter (bZ K l1 l2 u1 u2)).length (aj (L.filter (bZ K l1 l2 u1 u2))))/\Below w.heap.size w w':=by
 obtain⟨p,cap,rfl,hp⟩:=h.form;obtain⟨n,en⟩:∃n,L.length=n:=⟨_,rfl⟩
 have EN:=ab en;have HP:=ab hp;have HL:=ab hL;obtain⟨i0,hi,hz0,hz1,hz2⟩:=info_parts ca;have S0:Hid (Row12 w.heap.size 2 (prT l1 l2) ((w.alloc (.cells #[.int .i64 l1,.int .i64 l2] 26)).alloc (.cells #[.int .i64 u1,.int .i64 u2] 26))/\Row12 (w.heap.size+1) 2 (prT u1 u2) ((w.alloc (.cells #[.int .i64 l1,.int .i64 l2] 26)).alloc (.cells #[.int .i64 u1,.int .i64 u2] 26))):=ab ⟨fun o ho=>by
  obtain rfl | rfl:o=0∨o=1:=by omega
  · unfold prT;go_simp
  · unfold prT;go_simp,fun o ho=>by
  obtain rfl | rfl:o=0∨o=1:=by omega
  · unfold prT;go_simp
  · unfold prT;go_simp⟩
 have B0:=ab (ae (ag w (.cells #[.int .i64 l1,.int .i64 l2] 26)) (ag _ (.cells #[.int .i64 u1,.int .i64 u2] 26)));have H0:w.heap.size+2<=((w.alloc (.cells #[.int .i64 l1,.int .i64 l2] 26)).alloc (.cells #[.int .i64 u1,.int .i64 u2] 26)).heap.size:=by simp
 rw[en]at hn ⊢;clear hp hL h en
 go_enter Tryz.func46,Tryz.ntmps46
 go_wp2_with fail;generalize (w.alloc (.cells #[.int .i64 l1,.int .i64 l2] 26)).alloc (.cells #[.int .i64 u1,.int .i64 u2] 26)=w0 at *;go_loopw [7,8] (fun v7 v8 wr=>∃(i:Nat) (M:List Int),i<=n/\v8=.int .i64 (i:Int)/\Hid (M=(L.take i).filter (bZ K l1 l2 u1 u2))/\M.length<=i/\Hid (wr.ownsRow w0.heap.size 35 1 v7 M.length (aj M))/\Hid (Below w0.heap.size w0 wr)) (fun _ v8 _=>n-(intOf v8).toNat)
 case atStart=>exact⟨0,[],by omega,rfl,ab rfl,by simp,ab (World.ownsRow_nil _ _ _ _),ab (Below.refl _ _)⟩
 case round =>
  obtain⟨i,M,hin,rfl,hM,hMl,hO,hB⟩:=hrel;obtain⟨p7,c7,rfl,-⟩:=aA hO.out;by_cases hlt:i<n
  · have hlt':(i:Int)<(n:Int):=by omega
    obtain⟨g,rfl,x1⟩:=HP.out i (by rw[EN.out];exact hlt);have hiL:i<L.length:=by rw[EN.out];exact hlt
    replace x1:=aa (ae B0.out hB.out) x1;obtain⟨hwx,hRx⟩:=HL.out _ (List.getElem_mem hiL);have CE:=ab fun w=>cV L[i] hwx w;have ok:=cI hwx;have pt4:=ce ok;have PO:=ab fun w=>iT (an L[i]) (ao L[i]) (wR L[i]) K hK (by rw[hRx];exact hr) ⟨by omega,by omega⟩ ⟨by omega,by omega⟩ w;have SN:Hid ((L.take (i+1)).filter (bZ K l1 l2 u1 u2)=M++(if bZ K l1 l2 u1 u2 L[i]then [L[i]]else [])):=ab (by
     rw[List.take_succ_eq_append_getElem hiL,List.filter_append,←hM.out];congr 1;rw[List.filter_cons]
     split <;>simp)
    have hc:Hid (bZ K l1 l2 u1 u2 L[i]=decide (l1<=poX K (an L[i]) (ao L[i])/\poX K (an L[i]) (ao L[i])<=u1/\l2<=poY K (an L[i]) (ao L[i])/\poY K (an L[i]) (ao L[i])<=u2)):=ab rfl;generalize poX K (an L[i]) (ao L[i])=X at *;generalize poY K (an L[i]) (ao L[i])=Y at *;have hw:=ze X Y l1 l2 u1 u2;clear hwx hRx ok pt4 hM;generalize an L[i]=a at *;generalize ao L[i]=b at *;generalize wR L[i]=rr at *;generalize bZ K l1 l2 u1 u2 L[i]=cb at *;generalize L[i]=x at *;go_wp2_with fail;refine(CE.out _).mono ?_;rintro e w1 ⟨rfl,b1⟩;have O1:=ab (ai b1 hO.out);have B1:=ab (hB.out.trans (b1.mono hB.out.size));replace x1:=aa b1 x1;have hal:=ag w1 (.cells #[.int .i64 rr,.int .i64 a,.int .i64 b] 39);have O2:=ab (ai hal O1.out);have B2:=ab (B1.out.trans (hal.mono B1.out.size));replace x1:=aa hal x1;clear CE b1 O1 B1 hO hB hal;go_wp2_with fail;generalize w1.alloc (.cells #[.int .i64 rr,.int .i64 a,.int .i64 b] 39)=w2 at *;refine(PO.out _).mono ?_;rintro e w3 ⟨rfl,b3⟩;have O3:=ab (ai b3 O2.out);have B3:=ab (B2.out.trans (b3.mono B2.out.size));replace x1:=aa b3 x1;obtain⟨hL3,hU3⟩:=S0.out;have y0:=aa B3.out (hL3 0 (by omega));have y1:=aa B3.out (hL3 1 (by omega));have z0:=aa B3.out (hU3 0 (by omega));have z1:=aa B3.out (hU3 1 (by omega));simp only[prT]at y0 y1 z0 z1;clear PO b3 O2 B2 hL3 hU3;rcases hw with⟨h1,hno⟩ | ⟨h1,h2,hno⟩ | ⟨h1,h2,h3,hno⟩ | ⟨h1,h2,h3,h4,hno⟩ | ⟨h1,h2,h3,h4⟩
    rotate_left 4
    · have hcT:cb=true:=by rw[hc.out];exact decide_eq_true ⟨h1,h2,h3,h4⟩
      have SN2:Hid (M++[x]=(L.take (i+1)).filter (bZ K l1 l2 u1 u2)):=ab (by rw[SN.out,hcT];rfl);have hs3:=B3.out.size;clear hc SN hcT;go_wp2_with (at_builtin;refine wpList_append_own _ rfl (.tmp 59) (.tmp 64) 22 rfl w0.heap.size 35 i0 (.int .u64 0) 1 8 Tryz.underlying22 hi hz0 hz1 hz2 rfl (by decide) _ _ _ rfl (ai (ag _ _) O3.out) ⟨w3.heap.size,0,none⟩ 1 1 [.int .u64 x] rfl rfl (bf _ _ rfl _ _) (bK _ _) (by unfold maxLen;omega) (by omega) (by simp;omega) ?_)
      intro v' w5 hown hgrow _;have O5:Hid (w5.ownsRow w0.heap.size 35 1 v' (M++[x]).length (aj (M++[x]))):=ab (by
       have e1:(M++[x]).length=M.length+1:=by simp
       have e2:aj (M++[x])=aj M++[.int .u64 x]:=by simp[aj]
       rw[e1,e2];exact hown)
      have B5:=ab ((B3.out.trans ((ag w3 (.cells #[.int .u64 x] 35)).mono hs3)).grown hgrow (by simp;omega) (fun k hk=>aM O3.out k hk));clear hown hgrow;go_wp2;go_roundw
      case rel=>exact⟨i+1,M++[x],by omega,by go_num,SN2,by simp;omega,O5,B5⟩
      case measure=>simp[intOf];omega
    all_goals
     have hcF:cb=false:=by rw[hc.out];exact decide_eq_false hno
     have SN2:Hid (M=(L.take (i+1)).filter (bZ K l1 l2 u1 u2)):=ab (by rw[SN.out,hcF];simp);clear hc SN hcF hno;go_wp2_with fail;go_roundw
     case rel=>exact⟨i+1,M,by omega,by go_num,SN2,by omega,O3,B3⟩
     case measure=>simp[intOf];omega
  · obtain rfl:i=n:=by omega
    have hlt':decide ((i:Int)<(i:Int))=false:=by simp
    have e:M=L.filter (bZ K l1 l2 u1 u2):=by rw[hM.out,List.take_of_length_le (by rw[EN.out];omega)]
    subst e;have hO2:=ab (bo hO.out (show w.heap.size<=w0.heap.size by omega));clear hM hlt;go_wp2_with fail;go_ret;exact⟨⟨_,rfl,hO2.out⟩,B0.out.trans (hB.out.mono (by omega))⟩
def tZ (C:Nat)(v:Int)(Q:Int×Int->Prop)(e:Ending)(w:World):Prop:=∃(s:Value) (L:List Int),e=.returned (.tuple #[s,.int .i64 0])/\RowAt C w s L/\aq L/\(∀x,x∈L↔∃p q,Q (p,q)/\Ok4 (wR v) (an v+p) (ao v+q)/\x=av (wR v).toNat (an v+p) (ao v+q))/\L.length<=1000
theorem xG (v:Int)(hv:Whole v)(w:World) :
 Calls Tryz.prog 24 #[.int .u64 v] w fun e w'=>tZ w.heap.size v (fun x=>stp x.1 x.2=1) e w'/\Below w.heap.size w w':=by
 have CE:=ab (cV v hv);have p1:=ce (cI hv);have hr:=aE v;obtain⟨r,er⟩:∃r:Nat,wR v=r:=⟨(wR v).toNat,by omega⟩
 have FIN:Hid (∀(s:Value) (L:List Int) (C:Nat) (w':World),w.heap.size<=C->(aq L/\(∀x,x∈L↔x∈ar r (an v) (ao v) ((List.range 6).map fun i=>(uA i,uB i)))/\L.length<=1000/\RowAt C w' s L)->tZ w.heap.size v (fun x=>stp x.1 x.2=1) (.returned (.tuple #[s,.int .i64 0])) w'):=by
  refine ab fun s L C w' hC ⟨h1,h2,h3,h4⟩=>⟨s,L,rfl,h4.mono hC,h1,fun x=>?_,h3⟩
  rw[h2 x,er,show((r:Int)).toNat=r by omega];exact kU (Q:=fun x=>stp x.1 x.2=1) (fun x=>jT x) x
 rw[er]at CE;have BE:Hid (∀(v':Value) (w:World),PRow w v' ((List.range 6).map fun i=>(uA i,uB i))->_):=ab (fun v' w h=>vn r (an v) (ao v) (by omega) (by omega) ((List.range 6).map fun i=>(uA i,uB i)) (by simp) (fun x hx=>by have:=(jT x).1 hx;omega) v' w h);have UN:Hid (∀k:Nat,k<6->∀w,Calls Tryz.prog 36 #[.int .i64 (k:Int)] w fun e w'=>e=.returned (.agg #[.int .i64 (uA k),.int .i64 (uB k)])/\Below w.heap.size w w'):=by
  refine ab fun k hk w=>?_;have:=fu (k:Int) w;rw[show(k:Int)%6=k by omega]at this;have hu:cW (k:Int)=uA k/\cY (k:Int)=uB k:=by rcases bO hk with rfl | rfl | rfl | rfl | rfl | rfl <;>decide
  rwa [hu.1,hu.2]at this
 obtain⟨i0,hi',hz0,hz1,hz2⟩:=info_parts Ea;generalize an v=a at *;generalize ao v=b at *;clear hv p1 hr er
 go_enter Tryz.func24,Tryz.ntmps24
 go_wp2_with fail;refine(CE.out _).mono ?_;rintro e w1 ⟨rfl,d1⟩;have c1:Below w.heap.size w w1:=Below.trans (by go_grown) (d1.mono (by simp;try omega));have hB:=c1;clear c1 d1;have z0:(w1.alloc (.cells #[.int .i64 r,.int .i64 a,.int .i64 b] 39)).cell? ⟨w1.heap.size,0,none⟩=some (.int .i64 r):=by go_simp
 have z1:(w1.alloc (.cells #[.int .i64 r,.int .i64 a,.int .i64 b] 39)).cell? ⟨w1.heap.size,1,none⟩=some (.int .i64 a):=by go_simp
 have z2:(w1.alloc (.cells #[.int .i64 r,.int .i64 a,.int .i64 b] 39)).cell? ⟨w1.heap.size,2,none⟩=some (.int .i64 b):=by go_simp
 have hwb:=ae hB (ag w1 (.cells #[.int .i64 r,.int .i64 a,.int .i64 b] 39));have hWs:(w1.alloc (.cells #[.int .i64 r,.int .i64 a,.int .i64 b] 39)).heap.size=w1.heap.size+1:=by simp
 go_wp2_with fail;generalize (w1.alloc (.cells #[.int .i64 r,.int .i64 a,.int .i64 b] 39))=W at z0 z1 z2 hwb hWs ⊢;have hWl:w.heap.size<=w1.heap.size:=hB.size;generalize w1.heap.size=M at z0 z1 z2 hWs hWl ⊢;clear hB CE;go_loopw [6,7] (fun v6 v7 wr=>∃k:Nat,k<=6/\v7=.int .i64 (k:Int)/\Hid (wr.ownsRow (M+1) 37 2 v6 k (dv ((List.range k).map fun i=>(uA i,uB i))))/\Below (M+1) W wr) (fun _ v7 _=>6-(intOf v7).toNat)
 case atStart=>exact⟨0,by omega,rfl,World.ownsRow_nil _ _ _ _,Below.refl _ _⟩
 case round =>
  obtain⟨k,hk,rfl,hO,hB⟩:=hrel;have y0:=aI hB z0 (Nat.lt_succ_self _);have y1:=aI hB z1 (Nat.lt_succ_self _);have y2:=aI hB z2 (Nat.lt_succ_self _);by_cases hlt:k<6
  · have UK:=ab (UN.out k hlt);have hv:Hid (dv ((List.range (k+1)).map fun i=>(uA i,uB i))=dv ((List.range k).map fun i=>(uA i,uB i))++[.int .i64 (uA k),.int .i64 (uB k)]):=ab (by rw[List.range_succ,List.map_append];exact n9 _ _ _);generalize uA k=X at *;generalize uB k=Y at *;clear y0 y1 y2;go_wp2_with fail;refine(UK.out wr).mono ?_;rintro e w3 ⟨rfl,hb1⟩;have hO1:=ab (ai hb1 hO.out);have hB1:=hB.trans (hb1.mono (by have:=hB.size;omega));have hws:M+1<=w3.heap.size:=by have:=hB1.size;omega
    clear hO hB hb1 UK;go_wp2_with (at_builtin;refine wpList_append_own _ rfl (.tmp 20) (.tmp 23) 67 rfl (M+1) 37 i0 (.agg #[.int .i64 0,.int .i64 0]) 2 16 Tryz.underlying67 hi' hz0 hz1 hz2 rfl (by decide) _ _ _ rfl (ai (ag _ _) hO1.out) ⟨w3.heap.size,0,none⟩ 1 1 [.int .i64 X,.int .i64 Y] rfl rfl (pM _ _ rfl _ _ _) (rK _ _) (by unfold maxLen;omega) (by omega) (by simp;omega) ?_)
    intro v' w5 hown hgrow _;have hB5:=(hB1.alloc hws (.cells #[.int .i64 X,.int .i64 Y] 37)).grown hgrow (by simp;omega) (aM hO1.out);have hO5:Hid (w5.ownsRow (M+1) 37 2 v' (k+1) (dv ((List.range (k+1)).map fun i=>(uA i,uB i)))):=ab (by rw[hv.out];exact hown);clear hown hgrow hO1 hB1 hws hv;go_wp2;go_roundw
    case rel=>exact⟨k+1,by omega,by go_num,hO5,hB5⟩
    case measure=>simp[intOf];omega
  · obtain rfl:k=6:=by omega
    have PR:PRow wr u6 ((List.range 6).map fun i=>(uA i,uB i)):=rF (base:=M+1) (by rw[List.length_map,List.length_range];exact hO.out);have BK:=ab (BE.out u6 wr PR);have hBw:=hwb.trans (hB.mono (by omega));clear hO PR BE UN hB;go_wp2_with fail;refine BK.out.mono ?_;rintro e w3 ⟨⟨s,L,rfl,q⟩,hb3⟩;have HR:=ab (FIN.out s L _ w3 hBw.size q);have hB3:=ae hBw hb3;clear q FIN BK;go_wp2
    go_ret2
    exact⟨HR.out,hB3⟩
def QAt (B g:Nat)(w:World)(v:Value)(Q:List Int):Prop :=
 ∃o cap,v=.slice (some ⟨g,o,none⟩) Q.length cap/\Q.length<=cap/\B<=g/\g<w.heap.size/\(∀(j:Nat) (hj:j<Q.length),w.cell? ⟨g,o+j,none⟩=some (.int .u64 Q[j]))/\∀j,j<cap->(∃u,w.cell? ⟨g,o+j,none⟩=some u)/\w.frozen? ⟨g,o+j,none⟩=false
theorem QAt.keep {B g:Nat}{w w':World}{v:Value}{Q:List Int}(h:QAt B g w v Q)(hb:Below w.heap.size w w'):QAt B g w' v Q:=by
 obtain⟨o,cap,e,h1,h2,h3,h4,h5⟩:=h;exact⟨o,cap,e,h1,h2,Nat.lt_of_lt_of_le h3 hb.size,fun j hj=>aa hb (h4 j hj),fun j hj=>by
  obtain⟨⟨u,hu⟩,hf⟩:=h5 j hj;exact⟨⟨u,aa hb hu⟩,ac hb hu hf⟩⟩
def FAt (g:Nat)(w:World)(v:Value)(F:List Int):Prop :=
 ∃cap,v=.slice (some ⟨g,0,none⟩) F.length cap/\g<w.heap.size/\∀(j:Nat) (hj:j<F.length),w.cell? ⟨g,j,none⟩=some (.int .u64 F[j])
theorem FAt.keep {g:Nat}{w w':World}{v:Value}{F:List Int}(h:FAt g w v F)(hb:Below w.heap.size w w'):FAt g w' v F:=by
 obtain⟨cap,e,h1,h2⟩:=h;exact⟨cap,e,Nat.lt_of_lt_of_le h1 hb.size,fun j hj=>aa hb (h2 j hj)⟩
theorem FAt.row {g:Nat}{w:World}{v:Value}{F:List Int}(h:FAt g w v F):RowAt 0 w v F:=by
 obtain⟨cap,e,h1,h2⟩:=h;exact .inr ⟨g,cap,e,Nat.zero_le _,h2⟩
theorem FAt.put {g b o:Nat}{w:World}{v u:Value}{F:List Int}(h:FAt g w v F)(hne:g≠b):FAt g (w.setCell ⟨b,o,none⟩ u) v F:=by
 obtain⟨cap,e,h1,h2⟩:=h;exact⟨cap,e,by simpa using h1,fun j hj=>(World.cell?_setCell_other _ _ _ _ (by intro e;injection e;omega)).trans (h2 j hj)⟩
theorem Bv {w:World}{base:Nat}{v:Value}{F:List Int}(h:w.ownsRow base 35 1 v F.length (aj F))(hF:0<F.length):∃g,base<=g/\FAt g w v F:=by
 obtain⟨g,cap,rfl⟩:=cA h hF;have hc:=bn h;exact⟨g,hc.2.2.1,cap,rfl,hc.2.2.2,hc.2.1⟩
theorem C9 {w:World}{base:Nat}{v:Value}{Q:List Int}(h:w.ownsRow base 35 1 v Q.length (aj Q))(hQ:0<Q.length):∃g,base<=g/\QAt base g w v Q:=by
 have hh:=h;rcases hh.2 with⟨-,h0⟩ | ⟨g,cap,cur,rfl,hb,hg,hn,hm,hs,-⟩
 · omega
 · have hc:=bn h;refine⟨g,hb,0,cap,rfl,hn,hb,hc.2.2.2,fun j hj=>by rw[Nat.zero_add];exact hc.2.1 j hj,fun j hj=>?_⟩;rw[Nat.zero_add];refine⟨?_,h.frozenAt j⟩;have hlt:j<cur.size:=by omega
   exact⟨cur[j],by unfold World.cell?;rw[hg];simp[hlt]⟩
theorem uZ (w:World)(x:Int):(w.alloc (.cells #[.int .u64 x] 35)).ownsRow w.heap.size 35 1 (.slice (some ⟨w.heap.size,0,none⟩) 1 1) [x].length (aj [x]) :=
 ⟨rfl,.inr ⟨w.heap.size,1,#[.int .u64 x],rfl,Nat.le_refl _,by show(w.heap.push _)[w.heap.size]?=_;simp,Nat.le_refl _,by unfold maxLen;omega,rfl,rfl⟩⟩
theorem QAt.pop {B g o cap n:Nat}{w:World}{x:Int}{Q:List Int}(h:QAt B g w (.slice (some ⟨g,o,none⟩) n cap) (x :: Q)):n=Q.length+1/\1<=cap/\w.cell? ⟨g,o,none⟩=some (.int .u64 x)/\QAt B g w (.slice (some (if cap=1 then ⟨g,o,none⟩else ⟨g,o+1,none⟩)) Q.length (cap-1)) Q:=by
 obtain⟨o',cap',e,h1,h2,h3,h4,h5⟩:=h;simp only[Value.slice.injEq,Option.some.injEq,Addr.mk.injEq,and_true,true_and,List.length_cons]at e;obtain⟨rfl,rfl,rfl⟩:=e;rw[List.length_cons]at h1;refine⟨rfl,by omega,by have:=h4 0 (by simp);rwa [Nat.add_zero]at this,?_⟩;by_cases c:cap=1
 · rw[if_pos c];exact⟨o,cap-1,rfl,by omega,h2,h3,fun j hj=>by omega,fun j hj=>by omega⟩
 · rw[if_neg c];refine⟨o+1,cap-1,rfl,by omega,h2,h3,fun j hj=>?_,fun j hj=>?_⟩
   · have:=h4 (j+1) (by simp;omega);rw[List.getElem_cons_succ]at this;rw[show o+1+j=o+(j+1)by omega];exact this
   · have:=h5 (j+1) (by omega);rw[show o+1+j=o+(j+1)by omega];exact this
theorem QAt.put {B g o cap n:Nat}{w:World}{x:Int}{Q:List Int}(h:QAt B g w (.slice (some ⟨g,o,none⟩) n cap) Q)(hn:n+1<=cap):QAt B g (w.setCell ⟨g,o+n,none⟩ (.int .u64 x)) (.slice (some ⟨g,o,none⟩) (n+1) cap) (Q++[x]):=by
 obtain⟨o',cap',e,h1,h2,h3,h4,h5⟩:=h;simp only[Value.slice.injEq,Option.some.injEq,Addr.mk.injEq,and_true,true_and]at e;obtain⟨rfl,rfl,rfl⟩:=e;refine⟨o,cap,by rw[List.length_append];rfl,by rw[List.length_append];exact hn,h2,by simpa using h3,fun j hj=>?_,fun j hj=>?_⟩
 · by_cases c:j=Q.length
   · subst c;obtain⟨u,hu⟩:=(h5 Q.length (by omega)).1;rw[ay hu];simp
   · have hj':j<Q.length:=by simp at hj;omega
     rw[ah (h4 j hj') (by intro e;injection e;omega),List.getElem_append_left hj']
 · refine⟨?_,by rw[World.frozen?_setCell];exact(h5 j hj).2⟩;obtain⟨u,hu⟩:=(h5 j hj).1;by_cases c:j=Q.length
   · subst c;exact⟨_,ay hu⟩
   · exact⟨u,ah hu (by intro e;injection e;omega)⟩
def LAt (p:Option Addr)(gq:Nat)(w:World)(L:List Int):Prop:=∀(j:Nat) (hj:j<L.length),∃g,p=some ⟨g,0,none⟩/\g≠gq/\g<w.heap.size/\w.cell? ⟨g,j,none⟩=some (.int .u64 L[j])
theorem LAt.keep {p:Option Addr}{gq:Nat}{w w':World}{L:List Int}(h:LAt p gq w L)(hb:Below w.heap.size w w'):LAt p gq w' L:=fun j hj=>by
 obtain⟨g,h1,h2,h3,h4⟩:=h j hj;exact⟨g,h1,h2,Nat.lt_of_lt_of_le h3 hb.size,aa hb h4⟩
theorem LAt.put {p:Option Addr}{gq o:Nat}{w:World}{L:List Int}{u:Value}(h:LAt p gq w L):LAt p gq (w.setCell ⟨gq,o,none⟩ u) L:=fun j hj=>by
 obtain⟨g,h1,h2,h3,h4⟩:=h j hj;exact⟨g,h1,h2,by simpa using h3,ah h4 (by intro e;injection e;omega)⟩
theorem LAt.new {p:Option Addr}{gq g':Nat}{w w':World}{L:List Int}(h:LAt p gq w L)(hb:Below w.heap.size w w')(hg:w.heap.size<=g'):LAt p g' w' L:=fun j hj=>by
 obtain⟨g,h1,h2,h3,h4⟩:=h j hj;exact⟨g,h1,by omega,Nat.lt_of_lt_of_le h3 hb.size,aa hb h4⟩
theorem FAt.lies {g n cap:Nat}{w:World}{F:List Int}(h:FAt g w (.slice (some ⟨g,0,none⟩) n cap) F):∀j u,(aj F)[j]?=some u->w.cell? ((⟨g,0,none⟩:Addr).add j)=some u:=by
 obtain⟨cap',-,-,hc⟩:=h;intro j u hj;have hl:j<F.length:=by rw[List.getElem?_eq_some_iff]at hj;have:=hj.1;rwa [aD]at this
 rw[dG F j hl]at hj
 injection hj with hj
 subst hj;rw[Addr.add_lit,Nat.zero_add];exact hc j hl
theorem QAt.lies {B g o n cap:Nat}{w:World}{Q:List Int}(h:QAt B g w (.slice (some ⟨g,o,none⟩) n cap) Q):(∀j u,(aj Q)[j]?=some u->w.cell? ⟨g,o+j,none⟩=some u)/\∀j,j<cap->(w.cell? ⟨g,o+j,none⟩).isSome=true/\w.frozen? ⟨g,o+j,none⟩=false:=by
 obtain⟨o',cap',e,h1,h2,h3,h4,h5⟩:=h;simp only[Value.slice.injEq,Option.some.injEq,Addr.mk.injEq,and_true,true_and]at e;obtain⟨rfl,rfl,rfl⟩:=e;refine⟨fun j u hj=>?_,fun j hj=>?_⟩
 · have hl:j<Q.length:=by rw[List.getElem?_eq_some_iff]at hj;have:=hj.1;rwa [aD]at this
   rw[dG Q j hl]at hj
   injection hj with hj
   subst hj;exact h4 j hl
 · obtain⟨⟨u,hu⟩,hf⟩:=h5 j hj;exact⟨by rw[hu];rfl,hf⟩
theorem QAt.base {B B' g:Nat}{w:World}{v:Value}{Q:List Int}(h:QAt B g w v Q)(hb:B'<=B):QAt B' g w v Q:=by
 obtain⟨o,cap,e,h1,h2,h3⟩:=h;exact⟨o,cap,e,h1,Nat.le_trans hb h2,h3⟩
def NB (x y:Int):Prop:=∃p q,stp p q=1/\Ok4 (wR x) (an x+p) (ao x+q)/\y=av (wR x).toNat (an x+p) (ao x+q)
def InvB (T:Int->Prop)(s0:Int)(F Q:List Int):Prop:=(aq F/\(∀x∈F,T x)/\s0∈F)/\(∀x∈Q,x∈F)/\∀x∈F,x∈Q∨∀y,NB x y->T y->y∈F
def InvX (T:Int->Prop)(s0 x:Int)(N F Q:List Int):Prop:=(aq F/\(∀z∈F,T z)/\s0∈F)/\(∀z∈Q,z∈F)/\(∀z∈F,z=x∨z∈Q∨∀y,NB z y->T y->y∈F)/\∀y∈N,T y->y∈F
theorem InvB.look {T:Int->Prop}{s0 x:Int}{F Q:List Int}(h:InvB T s0 F (x :: Q)):InvX T s0 x [] F Q :=
 ⟨h.1,fun z hz=>h.2.1 z (List.mem_cons_of_mem _ hz),fun z hz=>by
   rcases h.2.2 z hz with k | k
   · rcases List.mem_cons.1 k with k | k
     · exact .inl k
     · exact .inr (.inl k)
   · exact .inr (.inr k),fun y hy=>by cases hy⟩
theorem InvX.done {T:Int->Prop}{s0 x:Int}{N F Q:List Int}(h:InvX T s0 x N F Q)(hN:∀y,NB x y->y∈N):InvB T s0 F Q :=
 ⟨h.1,h.2.1,fun z hz=>by
   rcases h.2.2.1 z hz with k | k | k
   · subst k;exact .inr fun y hy ht=>h.2.2.2 y (hN y hy) ht
   · exact .inl k
   · exact .inr k⟩
theorem InvX.pass {T:Int->Prop}{s0 x y:Int}{N F Q:List Int}(h:InvX T s0 x N F Q)(hy:T y->y∈F):InvX T s0 x (N++[y]) F Q :=
 ⟨h.1,h.2.1,h.2.2.1,fun z hz ht=>by
   rcases List.mem_append.1 hz with k | k
   · exact h.2.2.2 z k ht
   · rw[List.mem_singleton.1 k]at ht ⊢;exact hy ht⟩
theorem InvX.more {T:Int->Prop}{s0 x y:Int}{N F F' Q:List Int}(h:InvX T s0 x N F Q)(ht:T y)(hR:aq F')(hF:∀z,z∈F'↔z∈y :: F):InvX T s0 x (N++[y]) F' (Q++[y]):=by
 have up:∀z,z∈F->z∈F':=fun z hz=>(hF z).2 (List.mem_cons_of_mem _ hz);refine⟨⟨hR,fun z hz=>?_,up _ h.1.2.2⟩,fun z hz=>?_,fun z hz=>?_,fun z hz hT=>?_⟩
 · rcases List.mem_cons.1 ((hF z).1 hz)with k | k
   · rw[k];exact ht
   · exact h.1.2.1 z k
 · rcases List.mem_append.1 hz with k | k
   · exact up z (h.2.1 z k)
   · rw[List.mem_singleton.1 k];exact(hF y).2 (List.mem_cons_self ..)
 · rcases List.mem_cons.1 ((hF z).1 hz)with k | k
   · exact .inr (.inl (List.mem_append.2 (.inr (List.mem_singleton.2 k))))
   · rcases h.2.2.1 z k with k | k | k
     · exact .inl k
     · exact .inr (.inl (List.mem_append.2 (.inl k)))
     · exact .inr (.inr fun y hy hT=>up y (k y hy hT))
 · rcases List.mem_append.1 hz with k | k
   · exact up z (h.2.2.2 z k hT)
   · rw[List.mem_singleton.1 k];exact(hF y).2 (List.mem_cons_self ..)
theorem Cs {F F':List Int}{y:Int}(hF:aq F)(hF':aq F')(hy:y ∉ F)(h:∀z,z∈F'↔z∈y :: F):F'.length=F.length+1:=by
 have n1:=dE hF';have n2:(y :: F).Nodup:=List.nodup_cons.2 ⟨hy,dE hF⟩;have a1:=dJ n1 fun z hz=>(h z).1 hz;have a2:=dJ n2 fun z hz=>(h z).2 hz;rw[List.length_cons]at a1 a2;omega
def Hz:Value->Nat
 | .slice _ n _=>n
 | _=>0
def AN (K r m:Nat)(l1 l2 u1 u2:Int)(e:Ending)(w':World):Prop :=
 (∃s L,e=.returned (.tuple #[s,.bool true])/\RowAt 0 w' s L/\aq L/\(∀x,x∈L↔TW K l1 l2 u1 u2 x r)/\L.length<=m) ∨
 (e=.returned (.tuple #[.slice none 0 0,.bool false])/\∃L,aq L/\(∀x∈L,TW K l1 l2 u1 u2 x r)/\m<L.length)
theorem Jy (l1 l2 u1 u2:Int)(r K m:Nat)(hK:K<=12)(hr:12-(r:Int)=(K:Int))(h1:0<=l1)(h2:0<=l2)(h3:u1<1073741824)(h4:u2<1073741824)(h5:l1<=u1)(h6:l2<=u2)(hm:m<=19000)(hm0:1<=m)(w:World) :
 Calls Tryz.prog 44 #[.agg #[.int .i64 l1,.int .i64 l2],.agg #[.int .i64 u1,.int .i64 u2],.int .i64 (r:Int),.int .i64 (m:Int)] w fun e w'=>AN K r m l1 l2 u1 u2 e w'/\Below w.heap.size w w':=by
 have hw:InW l1 l2:=⟨h1,by omega,h2,by omega⟩
 obtain⟨sa,sb,hN⟩:=eh (d:=dvK K) (bX hK).1 (nuA K l1 l2) (nuB K l1 l2);have hO:=Fp hK hr hw hN;have NE:=ab fun w=>De l1 l2 (r:Int) K hK hr hw sa sb hN w;have WE:=ab fun w=>iE r sa sb hO w;obtain⟨T,eT⟩:∃T:Int->Prop,(fun x=>TW K l1 l2 u1 u2 x r)=T:=⟨_,rfl⟩
 have TT:Hid (∀x,T x↔TW K l1 l2 u1 u2 x r):=ab fun x=>by rw[←eT]
 have I0:Hid (InvB T (av r sa sb) [av r sa sb] [av r sa sb]):=ab ⟨⟨List.pairwise_singleton _ _,fun x hx=>by rw[List.mem_singleton.1 hx];exact(TT.out _).2 (qu hO (sD ⟨Int.le_refl _,h5⟩ ⟨Int.le_refl _,h6⟩ hN.1)),List.mem_singleton.2 rfl⟩,fun x hx=>hx,fun x hx=>.inl hx⟩;have ALL:Hid (∀F,InvB T (av r sa sb) F []->∀x,x∈F↔TW K l1 l2 u1 u2 x r):=ab fun F h=>Ew hK hr h1 h2 h3 h4 h5 h6 hN.1 (fun x hx=>(TT.out x).1 (h.1.2.1 x hx)) h.1.2.2 fun x hx p q hpq hok ht=>by
  have hx':=(TT.out x).1 (h.1.2.1 x hx);rcases h.2.2 x hx with k | k
  · cases k
  · exact k _ ⟨p,q,hpq,by rw[hx'.2.1];exact hok,by rw[hx'.2.1,Int.toNat_natCast]⟩ ((TT.out _).2 (qu hok ht))
 have TC:Hid (∀y,Whole y->wR y=(r:Int)->∀t:Bool,(t=true↔T y)->∀w,Calls Tryz.prog 74 #[.agg #[.int .i64 (wR y),.int .i64 (an y),.int .i64 (ao y)],.agg #[.int .i64 l1,.int .i64 l2],.agg #[.int .i64 u1,.int .i64 u2]] w fun e w'=>e=.returned (.bool t)/\Below w.heap.size w w'):=ab fun y hy hR t ht w=>Gf _ _ _ _ _ _ _ t (ht.trans ((TT.out y).trans ⟨fun h=>⟨cI hy,by unfold cD;omega,by unfold cD;omega,⟨h5,h6⟩,by rw[hR,hr,Int.toNat_natCast];exact h.2.2⟩,fun h=>⟨hy,hR,by have:=h.2.2.2.2;rwa [hR,hr,Int.toNat_natCast]at this⟩⟩)) w;have S0:Hid (Row12 w.heap.size 2 (prT l1 l2) ((w.alloc (.cells #[.int .i64 l1,.int .i64 l2] 26)).alloc (.cells #[.int .i64 u1,.int .i64 u2] 26))/\Row12 (w.heap.size+1) 2 (prT u1 u2) ((w.alloc (.cells #[.int .i64 l1,.int .i64 l2] 26)).alloc (.cells #[.int .i64 u1,.int .i64 u2] 26))):=ab ⟨fun o ho=>by
  obtain rfl | rfl:o=0∨o=1:=by omega
  · unfold prT;go_simp
  · unfold prT;go_simp,fun o ho=>by
  obtain rfl | rfl:o=0∨o=1:=by omega
  · unfold prT;go_simp
  · unfold prT;go_simp⟩
 have B0:=ab (ae (ag w (.cells #[.int .i64 l1,.int .i64 l2] 26)) (ag _ (.cells #[.int .i64 u1,.int .i64 u2] 26)));have H0:w.heap.size+2<=((w.alloc (.cells #[.int .i64 l1,.int .i64 l2] 26)).alloc (.cells #[.int .i64 u1,.int .i64 u2] 26)).heap.size:=by simp
 have WB:=aC (a8 hO).1;obtain⟨s0,es0⟩:∃s0,av r sa sb=s0:=⟨_,rfl⟩
 rw[es0]at WE I0 ALL WB;obtain⟨i0,hi,hz0,hz1,hz2⟩:=info_parts ca;clear hN hO hw es0 h1 h2 h3 h4 h5 h6 eT
 go_enter Tryz.func44,Tryz.ntmps44
 go_wp2_with fail;generalize (w.alloc (.cells #[.int .i64 l1,.int .i64 l2] 26)).alloc (.cells #[.int .i64 u1,.int .i64 u2] 26)=w0 at *;refine(NE.out _).mono ?_;rintro e w1 ⟨rfl,b1⟩;have Ba:=ab (ae b1 (ag w1 (.cells #[.int .i64 sa,.int .i64 sb] 37)));clear NE b1;go_wp2_with fail;generalize w1.alloc (.cells #[.int .i64 sa,.int .i64 sb] 37)=w2 at *;refine(WE.out _).mono ?_;rintro e w3 ⟨rfl,b3⟩;have B3:=ab (ae Ba.out b3);clear WE b3 Ba;go_wp2_with fail;have hal:=ag w3 (.cells #[.int .u64 s0] 35);have hal2:=ag (w3.alloc (.cells #[.int .u64 s0] 35)) (.cells #[.int .u64 s0] 35);have hs3:=B3.out.size;have FF:Hid (FAt w3.heap.size ((w3.alloc (.cells #[.int .u64 s0] 35)).alloc (.cells #[.int .u64 s0] 35)) (.slice (some ⟨w3.heap.size,0,none⟩) 1 1) [s0]):=ab (FAt.keep ⟨1,rfl,by simp,fun j hj=>by
  obtain rfl:j=0:=by simp at hj;omega
  go_simp⟩ hal2)
 have QQ:Hid (QAt w0.heap.size (w3.heap.size+1) ((w3.alloc (.cells #[.int .u64 s0] 35)).alloc (.cells #[.int .u64 s0] 35)) (.slice (some ⟨w3.heap.size+1,0,none⟩) 1 1) [s0]):=ab ⟨0,1,rfl,Nat.le_refl _,by omega,by simp,fun j hj=>by
  obtain rfl:j=0:=by simp at hj;omega
  go_simp,fun j hj=>by
  obtain rfl:j=0:=by omega
  exact⟨⟨.int .u64 s0,by go_simp⟩,by go_simp⟩⟩
 have B4:=ab (ae (ae B3.out hal) hal2);clear hal hal2 B3;generalize (w3.alloc (.cells #[.int .u64 s0] 35)).alloc (.cells #[.int .u64 s0] 35)=w4 at *;have hm1:(1:Int)<=(m:Int):=by omega
 go_loopw [14,15] (fun v14 v15 wr=>∃(F Q:List Int) (gf gq:Nat),Hid (FAt gf wr v14 F)/\Hid (QAt w0.heap.size gq wr v15 Q)/\gf≠gq/\Hid (InvB T s0 F Q)/\F.length<=m/\Q.length<=F.length/\Hid (Below w0.heap.size w0 wr)) (fun v14 v15 _=>2*(m-Hz v14)+Hz v15)
 case atStart=>exact⟨[s0],[s0],_,_,FF,QQ,by omega,I0,by simp;omega,by simp,B4⟩
 case round =>
  clear FF QQ I0 B4;obtain⟨F,Q,gf,gq,hF,hQ,hne,hI,hFl,hQl,hB⟩:=hrel;obtain⟨nf,enf⟩:∃nf,F.length=nf:=⟨_,rfl⟩
  have ENF:=ab enf;obtain⟨cF,eF,-,-⟩:=hF.out;rw[enf]at eF hFl hQl;subst eF;clear enf;cases Q with
  | nil =>
   obtain⟨o,cap,e,-⟩:=hQ.out;rw[List.length_nil]at e;subst e;have HR:=ab hF.out.row;have HM:=ab (ALL.out F hI.out);have HRi:=ab hI.out.1.1;clear hF hQ hI ALL TC TT;go_wp2_with fail
   go_ret2
   exact⟨.inl ⟨_,F,rfl,HR.out,HRi.out,HM.out,by rw[ENF.out];exact hFl⟩,B0.out.trans (hB.out.mono (by omega))⟩
  | cons x Q =>
   have hTx:=(TT.out x).1 (hI.out.1.2.1 x (hI.out.2.1 x (List.mem_cons_self ..)));have NC:=ab fun w=>xG x hTx.1 w;have HxR:=ab hTx.2.1;have IX:=ab hI.out.look;obtain⟨k,ek⟩:∃k,Q.length=k:=⟨_,rfl⟩
   have EK:=ab ek;obtain⟨o,cap,e,hcap,-⟩:=hQ.out;rw[List.length_cons,ek]at e hcap hQl;subst e;have hp:=QAt.pop hQ.out;obtain⟨-,hc1,x0,hQ2⟩:=hp;rw[ek]at hQ2;have hgq:gq<wr.heap.size:=World.block_lt_of_cell? _ _ x0;have HQ2:=ab hQ2;clear hTx hI hQ hQ2 ek;go_wp2_with fail;refine(NC.out _).mono ?_;rintro e w5 ⟨⟨s,L,rfl,hL1,hL2,hL3,hL4⟩,b5⟩;have hF5:=ab (hF.out.keep b5);have HQ5:=ab (HQ2.out.keep b5);have B5:=ab (hB.out.trans (b5.mono hB.out.size));obtain⟨nl,enl⟩:∃nl,L.length=nl:=⟨_,rfl⟩
   have ENL:=ab enl;have LL:∃pL cL,s=.slice pL nl cL/\Hid (LAt pL gq w5 L):=by
    rcases hL1 with⟨rfl,rfl⟩ | ⟨g,cL,rfl,hC,hc⟩
    · rw[List.length_nil]at enl;subst enl;exact⟨none,0,rfl,ab fun j hj=>absurd hj (Nat.not_lt_zero _)⟩
    · exact⟨_,cL,by rw[enl],ab fun j hj=>⟨g,rfl,by omega,World.block_lt_of_cell? _ _ (hc j hj),hc j hj⟩⟩
   obtain⟨pL,cL,rfl,LW⟩:=LL;rw[enl]at hL4;have LM:=ab hL3;clear x0 hL1 hL2 hL3 b5 NC hF hB HQ2 enl;rcases(show(k=0/\cap=1)∨cap≠1 by omega)with⟨rfl,rfl⟩ | hc
   all_goals
    first | rw[if_pos rfl]at HQ5 | rw[if_neg hc]at HQ5
    go_wp2_with fail;go_loopw [14,15,18] (fun v14 v15 v18 wi=>∃(i:Nat) (F2 Q2:List Int) (gf2 gq2:Nat),i<=nl/\v18=.int .i64 (i:Int)/\Hid (FAt gf2 wi v14 F2)/\Hid (QAt w0.heap.size gq2 wi v15 Q2)/\gf2≠gq2/\Hid (LAt pL gq2 wi L)/\Hid (InvX T s0 x (L.take i) F2 Q2)/\F2.length<=m/\Q2.length<=F2.length/\2*(m-F2.length)+Q2.length<=2*(m-nf)+Q.length/\Hid (Below w0.heap.size w0 wi)) (fun _ _ v18 _=>nl-(intOf v18).toNat)
    case atStart=>exact⟨0,F,Q,gf,gq,Nat.zero_le _,rfl,hF5,HQ5,hne,LW,IX,by rw[ENF.out];exact hFl,by rw[ENF.out,EK.out];omega,by rw[ENF.out];omega,B5⟩
    case round =>
     clear HQ5 hF5 IX LW B5;obtain⟨i,F2,Q2,gf2,gq2,hi1,e18,hF,hQ,hne2,LW,IX,hF2,hQ2,hM2,hB⟩:=hrel;subst e18;rcases Nat.lt_or_ge i nl with hlt | hge
     · have hiL:i<L.length:=by rw[ENL.out];exact hlt
       obtain⟨y,hy⟩:∃y,L[i]=y:=⟨_,rfl⟩
       have hmem:y∈L:=by rw[←hy];exact List.getElem_mem hiL
       obtain⟨p0,q0,hst,hok,hyw⟩:=(LM.out y).1 hmem;rw[HxR.out]at hok hyw;rw[Int.toNat_natCast]at hyw;have WY:Whole y:=by rw[hyw];exact(a8 hok).1
       have hyR:wR y=(r:Int):=by rw[hyw];exact(a8 hok).2.1
       have WYB:=aC WY;have WC:=ab fun w=>cV y WY w;have HS:=ab fun(w:World) v (h:FAt gf2 w v F2)=>Io 0 v F2 y ⟨by omega,by omega⟩ IX.out.1.1 (fun z hz=>by have:=aC ((TT.out z).1 (IX.out.1.2.1 z hz)).1;exact⟨by omega,by omega⟩) (by omega) w h.row;have TK:L.take (i+1)=L.take i++[y]:=by rw[List.take_succ_eq_append_getElem hiL,hy]
       have IN:=ab fun F3 Q3 (h:InvX T s0 x (L.take i++[y]) F3 Q3)=>(by rw[TK];exact h:InvX T s0 x (L.take (i+1)) F3 Q3)
       have HTY:Hid (∀t:Bool,(t=true↔T y)->∀w,Calls Tryz.prog 74 #[.agg #[.int .i64 (wR y),.int .i64 (an y),.int .i64 (ao y)],.agg #[.int .i64 l1,.int .i64 l2],.agg #[.int .i64 u1,.int .i64 u2]] w fun e w'=>e=.returned (.bool t)/\Below w.heap.size w w'):=ab (TC.out y WY hyR);have UY:U64 y:=⟨by omega,by omega⟩
       have UF:Hid (∀z∈y :: F2,U64 z):=ab fun z hz=>by
        rcases List.mem_cons.1 hz with k | k
        · rw[k];exact UY
        · have:=aC ((TT.out z).1 (IX.out.1.2.1 z k)).1;exact⟨by omega,by omega⟩
       obtain⟨gl,epL,hgl,hgl2,c0⟩:=LW.out i hiL;rw[hy]at c0;subst epL;obtain⟨cF2,eF2,hgF,-⟩:=hF.out;obtain⟨oQ2,cQ2,eQ2,hcQ,hgB,hgQ,-⟩:=hQ.out;subst eF2 eQ2;have hwB:=hB.out.size;clear hmem hst hok hyw hy TK LM WY hyR ALL;go_wp2_with fail;refine(WC.out _).mono ?_;rintro e w6 ⟨rfl,b6⟩;have Ba:=ab (ae b6 (ag w6 (.cells #[.int .i64 (wR y),.int .i64 (an y),.int .i64 (ao y)] 39)));have C19:(w6.alloc (.cells #[.int .i64 (wR y),.int .i64 (an y),.int .i64 (ao y)] 39)).cell? ⟨w6.heap.size,0,none⟩=some (.int .i64 (wR y))/\(w6.alloc (.cells #[.int .i64 (wR y),.int .i64 (an y),.int .i64 (ao y)] 39)).cell? ⟨w6.heap.size,1,none⟩=some (.int .i64 (an y))/\(w6.alloc (.cells #[.int .i64 (wR y),.int .i64 (an y),.int .i64 (ao y)] 39)).cell? ⟨w6.heap.size,2,none⟩=some (.int .i64 (ao y)):=⟨by go_simp,by go_simp,by go_simp⟩
       obtain⟨r0,r1,r2⟩:=C19;have c7:=aa Ba.out c0;have hF7:=ab (hF.out.keep Ba.out);have hQ7:=ab (hQ.out.keep Ba.out);have LW7:=ab (LW.out.keep Ba.out);have B7:=ab (hB.out.trans (Ba.out.mono hwB));have hg7:=Nat.lt_of_lt_of_le hgQ Ba.out.size;have hg7F:=Nat.lt_of_lt_of_le hgF Ba.out.size;clear WC b6 hF hQ LW hB hgQ hgF c0 Ba;go_wp2_with fail;generalize w6.alloc (.cells #[.int .i64 (wR y),.int .i64 (an y),.int .i64 (ao y)] 39)=w7 at *;refine(HS.out _ _ hF7.out).mono ?_;rintro e w8 ⟨rfl,b8⟩;have c8:=aa b8 c7;replace r0:=aa b8 r0;replace r1:=aa b8 r1;replace r2:=aa b8 r2;have hF8:=ab (hF7.out.keep b8);have hQ8:=ab (hQ7.out.keep b8);have LW8:=ab (LW7.out.keep b8);have B8:=ab (B7.out.trans (b8.mono B7.out.size));have hg8:=Nat.lt_of_lt_of_le hg7 b8.size;have hg8F:=Nat.lt_of_lt_of_le hg7F b8.size;clear b8 hF7 hQ7 LW7 B7 hg7 hg7F c7 HS;by_cases hin:y∈F2
       · have hd:decide (y∈F2)=true:=decide_eq_true hin;have IX2:=ab (IN.out _ _ (IX.out.pass fun _=>hin));clear hin IX IN HTY UF;rw[hd];go_wp2_with fail;go_roundw
         case rel=>exact⟨i+1,F2,Q2,gf2,gq2,by omega,by go_num,hF8,hQ8,hne2,LW8,IX2,hF2,hQ2,hM2,B8⟩
         case measure=>simp[intOf];omega
       · have hd:decide (y∈F2)=false:=decide_eq_false hin;rw[hd];have b0:w8.cell? ⟨w.heap.size,0,none⟩=some (.int .i64 l1):=aa B8.out (S0.out.1 0 (by omega));have b1:w8.cell? ⟨w.heap.size,1,none⟩=some (.int .i64 l2):=aa B8.out (S0.out.1 1 (by omega));have b2:w8.cell? ⟨w.heap.size+1,0,none⟩=some (.int .i64 u1):=aa B8.out (S0.out.2 0 (by omega));have b3:w8.cell? ⟨w.heap.size+1,1,none⟩=some (.int .i64 u2):=aa B8.out (S0.out.2 1 (by omega));by_cases hT:T y
         · have TY:=ab (HTY.out true ⟨fun _=>hT,fun _=>rfl⟩);have IX2:=ab fun(F3:List Int) (hR:aq F3) (hz:∀z,z∈F3↔z∈y :: F2)=>IN.out F3 (Q2++[y]) (IX.out.more hT hR hz);have HL3:=ab fun(F3:List Int) (hR:aq F3) (hz:∀z,z∈F3↔z∈y :: F2)=>Cs IX.out.1.1 hR hin hz;have HT3:=ab fun(F3:List Int) (hz:∀z,z∈F3↔z∈y :: F2)=>(fun z hz'=>by
            rcases List.mem_cons.1 ((hz z).1 hz')with k | k
            · rw[k];exact(TT.out y).1 hT
            · exact(TT.out z).1 (IX.out.1.2.1 z k):∀z∈F3,TW K l1 l2 u1 u2 z r)
           clear hin hT IX IN HTY;go_wp2_with fail;refine(TY.out _).mono ?_;rintro e w9 ⟨rfl,b9⟩;have c9:=aa b9 c8;have hF9:=ab (hF8.out.keep b9);have hQ9:=ab (hQ8.out.keep b9);have LW9:=ab (LW8.out.keep b9);have B9:=ab (B8.out.trans (b9.mono B8.out.size));have hg9:=Nat.lt_of_lt_of_le hg8 b9.size;have hg9F:=Nat.lt_of_lt_of_le hg8F b9.size;clear b9 hF8 hQ8 LW8 B8 hg8 hg8F c8 TY b0 b1 b2 b3 r0 r1 r2;have al9:=ag w9 (.cells #[.int .u64 y] 35);have LF:=ab (hF9.out.keep al9).lies;go_wp2_with (at_builtin;refine wpList_append_own _ rfl (.tmp 84) (.tmp 85) 22 rfl w9.heap.size 35 i0 (.int .u64 0) 1 8 Tryz.underlying22 hi hz0 hz1 hz2 rfl (by decide) _ _ _ rfl (uZ w9 y) ⟨gf2,0,none⟩ F2.length cF2 (aj F2) rfl (by rw[aD];omega) LF.out (jU F2) (by unfold maxLen;show 1+_<=_;omega) (by show(1+_)*8<=_;omega) (by simp) ?_)
           intro v' w10 hown hgrow _;have b10:=ab (al9.grown hgrow (by simp) (aM (uZ w9 y)));have hO10:=ab (show w10.ownsRow w9.heap.size 35 1 v' (y :: F2).length (aj (y :: F2))by rw[List.length_cons,Nat.add_comm];exact hown);have RS:=ab (sk (y :: F2) (by rw[List.length_cons];omega) UF.out _ v' w10 hO10.out);have c10:=aa b10.out c9;have hQ10:=ab (hQ9.out.keep b10.out);have LW10:=ab (LW9.out.keep b10.out);have B10:=ab (B9.out.trans (b10.out.mono B9.out.size));have hg10:=Nat.lt_of_lt_of_le hg9 b10.out.size;have hs10:=b10.out.size;clear hown hgrow al9 LF hO10 b10 hF9 hQ9 LW9 B9 c9;go_wp2_with fail;refine RS.out.mono ?_;rintro e w11 ⟨⟨s3,F3,rfl,hR3,hM3,-,hO3⟩,b11⟩;have hL3:=HL3.out F3 hR3 hM3;have IX3:=ab (IX2.out F3 hR3 hM3);have HT4:=ab (HT3.out F3 hM3);have HR3:=ab hR3;obtain⟨g3,hg3,hF3⟩:=Bv hO3 (by omega);have HF3:=ab hF3;obtain⟨c3,eF3,hg3s,-⟩:=hF3;obtain⟨n3,en3⟩:∃n3,F3.length=n3:=⟨_,rfl⟩
           rw[en3]at eF3 hL3;have EN3:=ab en3;have HN3:=ab hL3;have hn3:n3<=19001:=by omega
           subst eF3;have c11:=aa b11 c10;have hQ11:=ab (hQ10.out.keep b11);have LW11:=ab (LW10.out.keep b11);have B11:=ab (B10.out.trans (b11.mono B10.out.size));have hg11:=Nat.lt_of_lt_of_le hg10 b11.size;have hs11:=b11.size;have hs0:=B11.out.size;clear RS hR3 hM3 hO3 en3 hL3 b11 c10 hQ10 LW10 B10 HL3 IX2 HT3 UF;have al11:=ag w11 (.cells #[.int .u64 y] 35);have QA:=ab (hQ11.out.keep al11);have FA:=ab (HF3.out.keep al11);have LA:=ab (LW11.out.keep al11);have BA:=ab (B11.out.trans (al11.mono hs0));have QL:=ab QA.out.lies;have one11:=ab (bf w11 w11.heap.size rfl (.int .u64 y) 35);have hsa:=al11.size;clear hQ11 HF3 LW11 B11;go_wp2_with (at_builtin;refine wpList_append_arg _ rfl (.tmp 88) (.tmp 93) 22 rfl 35 i0 (.int .u64 0) 1 8 Tryz.underlying22 hi hz0 hz1 hz2 rfl (by decide) gq2 oQ2 Q2.length cQ2 (aj Q2) rfl (by rw[aD];omega) QL.out.1 ⟨w11.heap.size,0,none⟩ 1 1 [.int .u64 y] rfl rfl one11.out (bK _ _) (fun h j hj=>by have h1:j<1:=hj;have hj0:j=0:=Nat.lt_one_iff.1 h1;have h2:=QL.out.2 Q2.length (by omega);rw[hj0,Nat.mul_one,Nat.add_zero];exact h2) (by unfold maxLen;omega) (by omega) ?_ ?_)
           · intro hroom;have FR:=ab (FA.out.put (b:=gq2) (o:=oQ2+Q2.length) (u:=.int .u64 y) (by omega));have QR:=ab (QA.out.put (x:=y) (by omega));have LR:=ab (LA.out.put (o:=oQ2+Q2.length) (u:=.int .u64 y));have BR:=ab (BA.out.setCell (p:=⟨gq2,oQ2+Q2.length,none⟩) hgB (.int .u64 y));have hne3:g3≠gq2:=by omega
             rw[show((w11.alloc (.cells #[.int .u64 y] 35)).setCells gq2 (oQ2+Q2.length) [.int .u64 y])=(w11.alloc (.cells #[.int .u64 y] 35)).setCell ⟨gq2,oQ2+Q2.length,none⟩ (.int .u64 y)from rfl];generalize (w11.alloc (.cells #[.int .u64 y] 35)).setCell ⟨gq2,oQ2+Q2.length,none⟩ (.int .u64 y)=w12 at *;clear FA QA LA BA QL one11 al11;rcases Nat.lt_or_ge m n3 with hgt | hle
             · have hgtI:(m:Int)<(n3:Int):=by omega
               go_wp2_with fail
               go_ret2
               exact⟨.inr ⟨rfl,F3,HR3.out,HT4.out,by rw[EN3.out];exact hgt⟩,B0.out.trans (BR.out.mono (by omega))⟩
             · have hleI:¬(m:Int)<(n3:Int):=by omega
               go_wp2_with fail;go_roundw
               case rel=>exact⟨i+1,F3,Q2++[y],g3,gq2,by omega,by go_num,FR,QR,hne3,LR,IX3,by rw[EN3.out];exact hle,by rw[EN3.out,List.length_append];have:=HN3.out;show Q2.length+1<=n3;omega,by rw[EN3.out,List.length_append];have:=HN3.out;show 2*(m-n3)+(Q2.length+1)<=_;omega,BR⟩
               case measure=>simp[intOf];omega
           · intro hfull v' w12 hown hgrow;obtain⟨gn,hgn,hQn⟩:=C9 (Q:=Q2++[y]) (by rw[List.length_append];show w12.ownsRow _ _ _ _ (Q2.length+1) _;rw[aj,List.map_append];exact hown) (by rw[List.length_append];show 0<Q2.length+1;omega);have b12:=ab ((Below.refl _ _).grown hgrow (Nat.le_refl _) (fun k hk=>by cases hk));have FR:=ab (FA.out.keep b12.out);have QR:=ab (hQn.base (by omega:w0.heap.size<=_));have LR:=ab (LA.out.new b12.out (by simpa using hgn));have BR:=ab (BA.out.trans (b12.out.mono (by omega)));have hne3:g3≠gn:=by omega
             obtain⟨on,cn,eqn,-⟩:=QR.out;rw[List.length_append]at eqn;subst eqn;clear FA QA LA BA QL one11 al11 hown hgrow b12 hQn;rcases Nat.lt_or_ge m n3 with hgt | hle
             · have hgtI:(m:Int)<(n3:Int):=by omega
               go_wp2_with fail
               go_ret2
               exact⟨.inr ⟨rfl,F3,HR3.out,HT4.out,by rw[EN3.out];exact hgt⟩,B0.out.trans (BR.out.mono (by omega))⟩
             · have hleI:¬(m:Int)<(n3:Int):=by omega
               go_wp2_with fail;go_roundw
               case rel=>exact⟨i+1,F3,Q2++[y],g3,gn,by omega,by go_num,FR,QR,hne3,LR,IX3,by rw[EN3.out];exact hle,by rw[EN3.out,List.length_append];have:=HN3.out;show Q2.length+1<=n3;omega,by rw[EN3.out,List.length_append];have:=HN3.out;show 2*(m-n3)+(Q2.length+1)<=_;omega,BR⟩
               case measure=>simp[intOf];omega
         · have TY:=ab (HTY.out false ⟨fun h=>(by cases h),fun h=>absurd h hT⟩);have IX2:=ab (IN.out _ _ (IX.out.pass fun h=>absurd h hT));clear hin hT IX IN HTY UF;go_wp2_with fail;refine(TY.out _).mono ?_;rintro e w9 ⟨rfl,b9⟩;have hF9:=ab (hF8.out.keep b9);have hQ9:=ab (hQ8.out.keep b9);have LW9:=ab (LW8.out.keep b9);have B9:=ab (B8.out.trans (b9.mono B8.out.size));clear b9 hF8 hQ8 LW8 B8 hg8 hg8F c8 TY b0 b1 b2 b3 r0 r1 r2;go_wp2_with fail;go_roundw
           case rel=>exact⟨i+1,F2,Q2,gf2,gq2,by omega,by go_num,hF9,hQ9,hne2,LW9,IX2,hF2,hQ2,hM2,B9⟩
           case measure=>simp[intOf];omega
     · obtain rfl:i=nl:=by omega
       have IB:Hid (InvB T s0 F2 Q2):=ab (by
        have h:=IX.out;rw[←ENL.out,List.take_length]at h;exact h.done fun y hy=>(LM.out y).2 hy)
       clear IX LW TC TT ALL;obtain⟨cF2,eF2,hgF,-⟩:=hF.out;obtain⟨oQ2,cQ2,eQ2,-⟩:=hQ.out;subst eF2 eQ2;go_wp2_with fail;exact⟨⟨F2,Q2,gf2,gq2,hF,hQ,hne2,IB,hF2,hQ2,hB⟩,by show 2*(m-F2.length)+Q2.length<2*(m-nf)+(_+1);rw[EK.out]at hM2;omega⟩
end Go.Proofs.YtbnlhdnnenahfaaGreatDoor
