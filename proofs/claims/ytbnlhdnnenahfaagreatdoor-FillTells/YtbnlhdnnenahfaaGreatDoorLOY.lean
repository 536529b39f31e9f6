/-
  What the texts OpenL, OpenA say, so far as this seat's proofs need it.
-/
import Derived.Test.YtbnlhdnnenahfaaGreatDoorI1Y
import Derived.Test.YtbnlhdnnenahfaaGreatDoorRows
set_option maxHeartbeats 1000000
namespace Go.Proofs.YtbnlhdnnenahfaaGreatDoor
open Go.ChangeShapes Go.WideShapes Go.RowKit
def LstK (k:IntKind)(w:World)(s:Value)(L:List Int):Prop :=
 ∃p cap,s=.slice p L.length cap/\L.length<=cap/\∀(j:Nat) (hj:j<L.length),∃g o,p=some ⟨g,o,none⟩/\w.cell? ⟨g,o+j,none⟩=some (.int k L[j])
theorem LstK.u64 {w:World}{s:Value}{L:List Int}(h:LstK .u64 w s L):Lst w s L:=h
theorem LstK.keep {k:IntKind}{w w':World}{s:Value}{L:List Int}(h:LstK k w s L)(hb:Below w.heap.size w w'):LstK k w' s L:=by
 obtain⟨p,cap,h1,h2,h3⟩:=h;refine⟨p,cap,h1,h2,fun j hj=>?_⟩;obtain⟨g,o,e,hc⟩:=h3 j hj;exact⟨g,o,e,aa hb hc⟩
theorem u64_wf {x:Int}(h:(Lit.int .u64 x).wf=true):U64 x:=by
 have e1:IntKind.u64.min=0:=rfl;have e2:IntKind.u64.max=18446744073709551615:=rfl;simp[Lit.wf,e1,e2]at h;unfold U64;omega
theorem i64_wf {x:Int}(h:(Lit.int .i64 x).wf=true): -9223372036854775808<=x/\x<=9223372036854775807:=by
 have e1:IntKind.i64.min= -9223372036854775808:=rfl;have e2:IntKind.i64.max=9223372036854775807:=rfl;simp[Lit.wf,e1,e2]at h;omega
theorem open_list {P:Program}{b0:Nat}{H:Type}{enc:TypeId×Value->H}{W:World}{t e:TypeId}{k:IntKind}{v:Value}{d:DataW H}{p:List MemPlace}(ht:P.underlying t=some (.slice e))(he:P.underlying e=some (.int k))(hc:P.cellsOf e=1)
 (hval:Value.okWide P W .any b0 t v) (h:DataW.Trod enc P W 0 (fun _=>true) true t v d p) :
 ∃L:List Int,(LstK k W v L/\(v=.slice none 0 0∨∃a m c,v=.slice (some a) m c))/\(∀x∈L,(Lit.int k x).wf=true)/\∀W',Below W.heap.size W W'->∃p',DataW.Trod enc P W' 0 (fun b=>decide (b<W.heap.size)) true t v d p':=by
 obtain⟨a0,len,cap,rfl⟩:=okWide_slice ht hval;obtain⟨fuel,hf⟩:=h;rcases open_ints ht he hc hf with⟨hcs,hx⟩ | ⟨a,len',cap',zs,hcs,hb,hl,hm,hz,hx,hcell,hwz⟩
 · simp[Value.cells]at hcs;obtain⟨rfl,rfl,rfl⟩:=hcs;simp only[Prod.mk.injEq]at hx;obtain⟨rfl,rfl⟩:=hx;refine⟨[],⟨⟨none,0,rfl,Nat.le_refl _,fun j hj=>absurd hj (Nat.not_lt_zero _)⟩,.inl rfl⟩,fun x hx=>by simp at hx,fun W' _=>⟨[],1,?_⟩⟩;rw[DataW.trod_step];unfold DataW.trodStep;simp[Value.cells,ht]
 · simp[Value.cells]at hcs;obtain⟨rfl,rfl,rfl⟩:=hcs;simp only[Prod.mk.injEq]at hx;obtain⟨rfl,rfl⟩:=hx;simp only[if_true]at hz;have hlt:(zs.take len).length=len:=by simp;omega
   refine⟨zs.take len,⟨?_,.inr ⟨a,len,cap,rfl⟩⟩,fun x hx=>hwz x (List.mem_of_mem_take hx),fun W' hB=>⟨MemPlace.row a zs.length,2,?_⟩⟩
   · by_cases hl0:len=0
     · refine⟨some a,cap,by rw[hlt],by omega,fun j hj=>by omega⟩
     · obtain⟨b,off,bm⟩:=a;have hspot:bm=none:=by simpa[Addr.add]using World.cell?_spot (hcell 0 (by omega))
       subst hspot;refine⟨_,cap,by rw[hlt],by omega,fun j hj=>⟨b,off,rfl,?_⟩⟩;rw[←add_plain,hcell j (by omega)];have hj2:j<zs.length:=by omega
       simp[List.getD,hj2]
   · have hz2:zs.length=(if decide (a.block<W.heap.size)then cap else len):=by
      by_cases h0:cap=0
      · have:len=0:=by omega
        rw[hz,h0,this];simp
      · have hlt2:=World.block_lt_of_cell? _ _ (hcell 0 (by omega));rw[block_add]at hlt2;rw[decide_eq_true hlt2,hz];simp
     exact shut_ints 0 ht he hc (Nat.zero_le _) hl hm hz2 (fun i hi=>aa hB (hcell i hi)) hwz
section
variable {P:Program} {H:Type} {enc:TypeId×Value->H} {w:World} {base:Nat} {sp:Nat->Bool} {held:Bool} {fuel:Nat}
theorem xf {n:Nat}{t e:TypeId}{cs:List Value}{x:DataW H×List MemPlace}(ht:P.underlying t=some (.array n e))(he:P.underlying e=some (.int .i64))(hc:P.cellsOf e=1)(hct:P.cellsOf t=n)
 (h:DataW.trod enc P w base sp held fuel t cs=some x):cs.length=n/\∀i,i<n->∃z:Int,cs[i]?=some (.int .i64 z)/\(Lit.int .i64 z).wf=true:=by
 obtain⟨xs,m,rfl,rfl,hl,hn,hi⟩:=DataW.trod_array ht h;rw[hct]at hl;refine⟨hl,fun i hin=>?_⟩;have h0:=hi i hin;rw[hc,Nat.mul_one,List.getElem?_eq_getElem (by omega)]at h0;obtain⟨a,ea,-,wa⟩:=DataW.trod_int he h0;refine⟨a,?_,wa⟩;have e2:=congrArg (fun l=>l[0]?) ea
 simpa[List.getElem?_take,List.getElem?_drop]using e2
theorem rE {n:Nat}{t e:TypeId}{v:Value}{d:DataW H}{ps:List MemPlace}(h2:2<=n)(ht:P.underlying t=some (.array n e))(he:P.underlying e=some (.int .i64))(hc:P.cellsOf e=1)(hct:P.cellsOf t=n)
 (h:DataW.Trod enc P w base sp held t v d ps):∃cs:List Value,v=.agg cs.toArray/\cs.length=n/\∀i,i<n->∃z:Int,cs[i]?=some (.int .i64 z)/\(Lit.int .i64 z).wf=true:=by
 obtain⟨fuel,hf⟩:=h;obtain⟨hl,hi⟩:=xf ht he hc hct hf;cases v with
 | agg cs=>exact⟨cs.toList,by simp,by simpa[Value.cells]using hl,fun i hin=>by simpa[Value.cells]using hi i hin⟩
 | _=>simp[Value.cells]at hl;omega
theorem open_two {t e:TypeId}{v:Value}{d:DataW H}{ps:List MemPlace}(ht:P.underlying t=some (.array 2 e))(he:P.underlying e=some (.int .i64))(hc:P.cellsOf e=1)(hct:P.cellsOf t=2)
 (h:DataW.Trod enc P w base sp held t v d ps):∃x y:Int,v=.agg #[.int .i64 x,.int .i64 y]/\(Lit.int .i64 x).wf=true/\(Lit.int .i64 y).wf=true:=by
 obtain⟨cs,rfl,hl,hi⟩:=rE (by omega) ht he hc hct h;obtain⟨x,ex,wx⟩:=hi 0 (by omega);obtain⟨y,ey,wy⟩:=hi 1 (by omega)
 match cs,hl with
 | [c0,c1],_ =>
  simp only[List.getElem?_cons_zero,List.getElem?_cons_succ,Option.some.injEq]at ex ey;exact⟨x,y,by rw[ex,ey],wx,wy⟩
theorem open_four {t e:TypeId}{v:Value}{d:DataW H}{ps:List MemPlace}(ht:P.underlying t=some (.array 4 e))(he:P.underlying e=some (.int .i64))(hc:P.cellsOf e=1)(hct:P.cellsOf t=4)
 (h:DataW.Trod enc P w base sp held t v d ps):∃x y z u:Int,v=.agg #[.int .i64 x,.int .i64 y,.int .i64 z,.int .i64 u]/\((Lit.int .i64 x).wf=true/\(Lit.int .i64 y).wf=true)/\(Lit.int .i64 z).wf=true/\(Lit.int .i64 u).wf=true:=by
 obtain⟨cs,rfl,hl,hi⟩:=rE (by omega) ht he hc hct h;obtain⟨x,ex,wx⟩:=hi 0 (by omega);obtain⟨y,ey,wy⟩:=hi 1 (by omega);obtain⟨z,ez,wz⟩:=hi 2 (by omega);obtain⟨u,eu,wu⟩:=hi 3 (by omega)
 match cs,hl with
 | [c0,c1,c2,c3],_ =>
  simp only[List.getElem?_cons_zero,List.getElem?_cons_succ,Option.some.injEq]at ex ey ez eu;exact⟨x,y,z,u,by rw[ex,ey,ez,eu],⟨wx,wy⟩,wz,wu⟩
end
end Go.Proofs.YtbnlhdnnenahfaaGreatDoor
