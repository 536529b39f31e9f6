/-
  The rings that the laws of package fill make of numbers: they may be, their box is of some cells; what Fill, Border and Packed tell of them, and the document's Neighbours and Spread. In whatever memory where the three tables hold what their texts lay.
-/
import Derived.Test.YtbnlhdnnenahfaaGreatDoorFXY
namespace Go.Proofs.YtbnlhdnnenahfaaGreatDoor
open Go.RowKit
theorem Im (x:Int)(hx:Whole x)(w:World) :
 Calls Tryz.prog 24 #[.int .u64 x] w fun e w'=>(∃s N,e=.returned (.tuple #[s,.int .i64 0])/\RowAt 0 w' s N/\NbS x N/\N.length<=6/\∀y∈N,U64 y)/\Below w.heap.size w w' :=
 (xH x hx w).mono fun e w' ⟨⟨s,N,he,h1,h2,h3,_⟩,hb⟩=>⟨by
   have hr:=aE x;have er:((wR x).toNat:Int)=wR x:=by omega
   have hN:NbS x N:=⟨dE h2,fun y=>by
    rw[h3 y];unfold nbL;rw[kU (Q:=fun p=>stp p.1 p.2=1) (fun p=>mv),er]⟩
   refine⟨s,N,he,h1,hN,rB hN,fun y hy=>?_⟩;obtain⟨p,q,_,ho,rfl⟩:=(h3 y).1 hy;rw[←er]at ho;have:=a8 ho;have hb:=aC this.1;exact⟨by omega,by omega⟩,hb⟩
theorem qf {x:Int}(h:Whole x):U64 x:=by have:=aC h;exact⟨by omega,by omega⟩
end Go.Proofs.YtbnlhdnnenahfaaGreatDoor
