/-
  What the texts OpenG, OpenS say, so far as this seat's proofs need it.
-/
import Derived.Test.YtbnlhdnnenahfaaGreatDoorPO1Y
namespace Go.Proofs.YtbnlhdnnenahfaaGreatDoor
open Go.ChangeShapes Go.WideShapes Go.RowKit
theorem lf {α:Type}{Q:Nat->α->Prop}:∀ {n:Nat},(∀i,i<n->∃p,Q i p)->∃L:List α,L.length=n/\∀i (hi:i<L.length),Q i L[i]
 | 0,_=>⟨[],rfl,fun i hi=>absurd hi (Nat.not_lt_zero _)⟩
 | n+1,h=>by
  obtain⟨L,hl,hL⟩:=lf (n:=n) fun i hi=>h i (by omega);obtain⟨p,hp⟩:=h n (by omega);refine⟨L++[p],by simp[hl],fun i hi=>?_⟩;by_cases c:i<L.length
  · rw[List.getElem_append_left c];exact hL i c
  · have e:i=n:=by simp at hi;omega
    subst e;have e2:(L++[p])[i]=p:=by rw[List.getElem_append_right (by omega)];simp
    rw[e2];exact hp
section
variable {P:Program} {H:Type} {enc:TypeId×Value->H} {w:World} {base:Nat} {sp:Nat->Bool} {held:Bool} {fuel:Nat}
theorem pI {t e:TypeId}{cs:List Value}{x:DataW H×List MemPlace}(ht:P.underlying t=some (.array 2 e))(he:P.underlying e=some (.int .i64))(hc:P.cellsOf e=1)(hct:P.cellsOf t=2)
 (h:DataW.trod enc P w base sp held fuel t cs=some x):∃p:Int×Int,cs=[.int .i64 p.1,.int .i64 p.2]/\(Lit.int .i64 p.1).wf=true/\(Lit.int .i64 p.2).wf=true:=by
 obtain⟨xs,m,rfl,rfl,hl,hn,hi⟩:=DataW.trod_array ht h;rw[hct]at hl;rw[hc]at hi;have h0:=hi 0 (by omega);have h1:=hi 1 (by omega);rw[List.getElem?_eq_getElem (by omega)]at h0 h1;obtain⟨a,ea,-,wa⟩:=DataW.trod_int he h0;obtain⟨b,eb,-,wb⟩:=DataW.trod_int he h1
 match cs,hl with
 | [u,v],_ =>
  simp only[Nat.mul_one,List.drop_zero,List.drop_succ_cons,List.take_succ_cons,List.take_zero,List.cons.injEq,and_true]at ea eb;exact⟨(a,b),by rw[ea,eb],wa,wb⟩
theorem pJ {r t e:TypeId}{v:Value}{x:DataW H×List MemPlace}(hr:P.underlying r=some (.slice t))(ht:P.underlying t=some (.array 2 e))(he:P.underlying e=some (.int .i64))(hc:P.cellsOf e=1)(hct:P.cellsOf t=2)
 (h:DataW.trod enc P w base sp held fuel r [v]=some x):∃L,RingL w v L:=by
 rcases DataW.trod_slice hr h with⟨hcs,-⟩ | ⟨a,len,cap,elems,rest,n,-,hcs,-,hb,hle,hm,hlen,hel,-,-⟩
 · simp only[List.cons.injEq,and_true]at hcs;exact⟨[],none,0,hcs,Nat.le_refl _,fun j hj=>absurd hj (Nat.not_lt_zero _)⟩
 · simp only[List.cons.injEq,and_true]at hcs;have hq:∀i,i<len->∃p:Int×Int,w.cell? (a.add (i*2))=some (.int .i64 p.1)/\w.cell? ((a.add (i*2)).add 1)=some (.int .i64 p.2):=fun i hi=>by
    have h1:=hel i hi;rw[hct,List.getElem?_eq_getElem (by omega),Option.bind_eq_some_iff]at h1;obtain⟨cs',h2,h3⟩:=h1;obtain⟨p,rfl,-,-⟩:=pI ht he hc hct h3;have h4:=(World.cells?_some h2).2.2;have h5:=h4 0 (by omega);have h6:=h4 1 (by omega);refine⟨p,?_,h6⟩;have e:(a.add (i*2)).add 0=a.add (i*2):=by cases a;unfold Addr.add;split <;>simp_all
    rw[e]at h5;exact h5
   obtain⟨L,hL,hLq⟩:=lf hq;refine⟨L,some a,cap,by rw[hL];exact hcs,by omega,fun j hj=>?_⟩;obtain⟨h5,h6⟩:=hLq j hj;obtain⟨b,off,bm⟩:=a;have hspot:bm=none:=by
    have:=World.cell?_spot (hLq 0 (by omega)).1
    simpa[Addr.add]using this
   subst hspot;simp only[add_plain]at h5 h6;exact⟨b,off,rfl,h5,h6⟩
theorem Jr {s r t e:TypeId}{v:Value}{d:DataW H}{ps:List MemPlace}(hs:P.underlying s=some (.slice r))(hsc:P.cellsOf r=1)(hr:P.underlying r=some (.slice t))(ht:P.underlying t=some (.array 2 e))(he:P.underlying e=some (.int .i64))(hc:P.cellsOf e=1)(hct:P.cellsOf t=2)
 {r0:Reach} {b0:Nat} (hval:Value.okWide P w r0 b0 s v) (h:DataW.Trod enc P w base sp held s v d ps):∃G,RingsL w v G:=by
 obtain⟨a0,l0,c0,rfl⟩:=okWide_slice hs hval;obtain⟨fuel,hf⟩:=h;rcases DataW.trod_slice hs hf with⟨hcs,-⟩ | ⟨a,len,cap,elems,rest,n,-,hcs,-,hb,hle,hm,hlen,hel,-,-⟩
 · simp[Value.cells]at hcs;obtain⟨rfl,rfl,rfl⟩:=hcs;exact⟨[],none,0,rfl,Nat.le_refl _,fun j hj=>absurd hj (Nat.not_lt_zero _)⟩
 · simp[Value.cells]at hcs;obtain⟨rfl,rfl,rfl⟩:=hcs;have hq:∀i,i<l0->∃q:Value×List (Int×Int),w.cell? (a.add i)=some q.1/\RingL w q.1 q.2:=fun i hi=>by
    have h1:=hel i hi;rw[hsc,List.getElem?_eq_getElem (by omega),Option.bind_eq_some_iff,Nat.mul_one]at h1;obtain⟨cs',h2,h3⟩:=h1;have h4:=World.cells?_some h2
    match cs',h4.2.1 with
    | [u],_ =>
     have h5:=h4.2.2 0 (by omega);have e:(a.add i).add 0=a.add i:=by cases a;unfold Addr.add;split <;>simp_all
     rw[e]at h5;obtain⟨L,hL⟩:=pJ hr ht he hc hct h3;exact⟨(u,L),h5,hL⟩
   obtain⟨Q,hQ,hq⟩:=lf hq;refine⟨Q.map (·.2),some a,c0,by rw[List.length_map,hQ],by rw[List.length_map];omega,fun j hj=>?_⟩;rw[List.length_map]at hj;obtain⟨h5,h6⟩:=hq j hj;obtain⟨b,off,bm⟩:=a;have hspot:bm=none:=by
    have:=World.cell?_spot (hq 0 (by omega)).1
    simpa[Addr.add]using this
   subst hspot;rw[add_plain]at h5;exact⟨b,off,Q[j].1,rfl,h5,by rw[List.getElem_map];exact h6⟩
theorem Jb {t e:TypeId}{v:Value}{d:DataW H}{ps:List MemPlace}(ht:P.underlying t=some (.array 2 e))(he:P.underlying e=some (.int .i64))(hc:P.cellsOf e=1)(hct:P.cellsOf t=2)
 {r0:Reach} {b0:Nat} (_:Value.okWide P w r0 b0 t v) (h:DataW.Trod enc P w base sp held t v d ps):∃x y:Int,v=.agg #[.int .i64 x,.int .i64 y]/\(Lit.int .i64 x).wf=true/\(Lit.int .i64 y).wf=true:=by
 obtain⟨fuel,hf⟩:=h;obtain⟨p,hcs,h1,h2⟩:=pI ht he hc hct hf;refine⟨p.1,p.2,?_,h1,h2⟩;cases v with
 | agg cs =>
  have e:cs=#[.int .i64 p.1,.int .i64 p.2]:=by
   have:cs.toList=[.int .i64 p.1,.int .i64 p.2]:=by simpa[Value.cells]using hcs
   exact Array.toList_inj.1 this
  rw[e]
 | _=>simp[Value.cells]at hcs
end
section
variable {P:Program} {H:Type} {enc:TypeId×Value->H} {w:World} {base:Nat} {sp:Nat->Bool} {held:Bool} {fuel:Nat}
theorem iG {e:TypeId}:∀ {l:List (DataW H)} {d:DataW H},d∈l->∀n∈d.weights P e,n∈DataW.weightsAll P e l
 | d0 :: l,d,hd,n,hn=>by
  simp only[DataW.weightsAll,List.mem_append];rcases List.mem_cons.1 hd with rfl | hd
  · exact .inl hn
  · exact .inr (iG hd n hn)
theorem xg {r t e:TypeId}{v:Value}{x:DataW H×List MemPlace}(hr:P.underlying r=some (.slice t))(ht:P.underlying t=some (.array 2 e))(he:P.underlying e=some (.int .i64))(hc:P.cellsOf e=1)(hct:P.cellsOf t=2)(hb:1<=P.bytesOf t)
 (h:DataW.trod enc P w base sp held fuel r [v]=some x) (hsz:∀n∈x.1.weights P r,n<=reachBytes):∃L,RingL w v L/\L.length<=140737488355328:=by
 obtain⟨L,hL⟩:=pJ hr ht he hc hct h;refine⟨L,hL,?_⟩;obtain⟨p,cap,rfl,-,-⟩:=hL;rcases DataW.trod_slice hr h with⟨hcs,-⟩ | ⟨a,len,cap',elems,rest,n,-,hcs,hx,hb',hle,hm,hlen,hel,-,-⟩
 · simp only[List.cons.injEq,and_true,Value.slice.injEq]at hcs;omega
 · simp only[List.cons.injEq,and_true,Value.slice.injEq]at hcs;have k:=hsz ((elems.length+rest.length)*P.bytesOf t) (by rw[hx];simp[DataW.weights,hr]);have k2:(elems.length+rest.length)*1<=(elems.length+rest.length)*P.bytesOf t:=Nat.mul_le_mul_left _ hb;have k3:=reachBytes_lt;have e1:L.length=len:=hcs.2.1;omega
theorem open_ringsS {s r t e:TypeId}{v:Value}{d:DataW H}{ps:List MemPlace}(hs:P.underlying s=some (.slice r))(hsc:P.cellsOf r=1)(hr:P.underlying r=some (.slice t))(ht:P.underlying t=some (.array 2 e))(he:P.underlying e=some (.int .i64))(hc:P.cellsOf e=1)(hct:P.cellsOf t=2)(hbt:1<=P.bytesOf t)
 {r0:Reach} {b0:Nat} (hval:Value.okWide P w r0 b0 s v) (h:DataW.Trod enc P w base sp held s v d ps) (hsz:∀n∈d.weights P s,n<=reachBytes):∃G,RingsL w v G/\∀L∈G,L.length<=140737488355328:=by
 obtain⟨a0,l0,c0,rfl⟩:=okWide_slice hs hval;obtain⟨fuel,hf⟩:=h;rcases DataW.trod_slice hs hf with⟨hcs,-⟩ | ⟨a,len,cap,elems,rest,n,-,hcs,hx,hb,hle,hm,hlen,hel,-,-⟩
 · simp[Value.cells]at hcs;obtain⟨rfl,rfl,rfl⟩:=hcs;exact⟨[],⟨none,0,rfl,Nat.le_refl _,fun j hj=>absurd hj (Nat.not_lt_zero _)⟩,fun L hL=>by simp at hL⟩
 · simp[Value.cells]at hcs;obtain⟨rfl,rfl,rfl⟩:=hcs;have hd:d=.slice (elems.map (·.1)) (rest.map (·.1)):=congrArg Prod.fst hx;have hq:∀i,i<l0->∃q:Value×List (Int×Int),w.cell? (a.add i)=some q.1/\RingL w q.1 q.2/\q.2.length<=140737488355328:=fun i hi=>by
    have h1:=hel i hi;rw[hsc,List.getElem?_eq_getElem (by omega),Option.bind_eq_some_iff,Nat.mul_one]at h1;obtain⟨cs',h2,h3⟩:=h1;have h4:=World.cells?_some h2
    match cs',h4.2.1 with
    | [u],_ =>
     have h5:=h4.2.2 0 (by omega);have e:(a.add i).add 0=a.add i:=by cases a;unfold Addr.add;split <;>simp_all
     rw[e]at h5;obtain⟨L,hL,hn⟩:=xg hr ht he hc hct hbt h3 fun n hn=>hsz n (by
      rw[hd];simp only[DataW.weights,hs,List.mem_cons,List.mem_append];exact .inr (.inl (iG (List.mem_map.2 ⟨_,List.getElem_mem (by omega),rfl⟩) n hn)))
     exact⟨(u,L),h5,hL,hn⟩
   obtain⟨Q,hQ,hq⟩:=lf hq;refine⟨Q.map (·.2),⟨some a,c0,by rw[List.length_map,hQ],by rw[List.length_map];omega,fun j hj=>?_⟩,fun L hL=>?_⟩
   · rw[List.length_map]at hj;obtain⟨h5,h6,-⟩:=hq j hj;obtain⟨b,off,bm⟩:=a;have hspot:bm=none:=by
      have:=World.cell?_spot (hq 0 (by omega)).1
      simpa[Addr.add]using this
     subst hspot;rw[add_plain]at h5;exact⟨b,off,Q[j].1,rfl,h5,by rw[List.getElem_map];exact h6⟩
   · obtain⟨q,hq',rfl⟩:=List.mem_map.1 hL;obtain⟨j,hj,rfl⟩:=List.mem_iff_getElem.1 hq';exact(hq j hj).2.2
end
end Go.Proofs.YtbnlhdnnenahfaaGreatDoor
