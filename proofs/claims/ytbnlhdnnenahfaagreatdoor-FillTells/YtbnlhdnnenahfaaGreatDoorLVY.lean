/-
  What the texts LaidE, LaidC, LaidV say, so far as this seat's proofs need it.
-/
import Derived.Test.YtbnlhdnnenahfaaGreatDoorC1Y
import Derived.Test.YtbnlhdnnenahfaaGreatDoorHXY
import Derived.Test.YtbnlhdnnenahfaaGreatDoorRows
import Derived.LaidMore
import Derived.Stop.LaidErr
set_option maxRecDepth 20000
namespace Go.Proofs.YtbnlhdnnenahfaaGreatDoor
open Go.RowKit
theorem BP:(Tryz.prog.globals[0]?).map (·.type)=some 108:=by kernel_rfl
theorem A5:Tryz.prog.cellsOf 108=12:=by kernel_rfl
theorem aY:Tryz.prog.cellsOf 37=2:=by kernel_rfl
theorem yC:Tryz.prog.cellsOf 2=1:=by kernel_rfl
theorem cJ {fs:Array Field}(hfs:Tryz.prog.underlying 37=some (.struct fs)):(∀(i:Nat) (f:Field),fs[i]?=some f->Tryz.prog.underlying f.type=some (.int .i64)/\f.offset=i/\Tryz.prog.cellsOf f.type=1)/\fs.size=2:=by
 have h:=Tryz.underlying37;rw[hfs]at h;obtain rfl:=TypeDesc.struct.inj (Option.some.inj h);refine⟨fun i f h=>?_,rfl⟩
 match i with
 | 0=>cases h;exact⟨Tryz.underlying2,rfl,yC⟩
 | 1=>cases h;exact⟨Tryz.underlying2,rfl,yC⟩
 | i+2=>simp at h
theorem tU {H:Type}{enc:TypeId×Value->H}{w:World}{base:Nat}{sp:Nat->Bool}{held:Bool}{fuel:Nat}{cs:List Value}{p:List MemPlace}
 (h:DataW.trod enc Tryz.prog w base sp held fuel 108 cs=some (Rows.laid_apiary_eisen_units,p)):cs.toArray=kO:=by
 have hl:cs.length=12:=by
  cases fuel with
  | zero=>simp[DataW.trod]at h
  | succ fuel =>
   simp only[DataW.trod,Tryz.underlying108,A5,aY]at h
   split at h
   · rename_i hl;exact hl
   · cases h
 match cs,hl with
 | [c0,c1,c2,c3,c4,c5,c6,c7,c8,c9,c10,c11],_ =>
 obtain⟨f0,d0,q0,h0,t0⟩:=Lib.array_elem Tryz.underlying108 h 0 (by omega);rw[aY]at t0;obtain rfl:(.agg ([(1:Int),0].map fun z=>.lit (.int .i64 z)))=d0:=Option.some.inj h0;have e0:=Lib.ints_of_struct Tryz.underlying37 (cJ Tryz.underlying37).1 (by rw[aY];rfl) t0;simp at e0;obtain⟨f1,d1,q1,h1,t1⟩:=Lib.array_elem Tryz.underlying108 h 1 (by omega);rw[aY]at t1;obtain rfl:(.agg ([(0:Int),1].map fun z=>.lit (.int .i64 z)))=d1:=Option.some.inj h1;have e1:=Lib.ints_of_struct Tryz.underlying37 (cJ Tryz.underlying37).1 (by rw[aY];rfl) t1;simp at e1;obtain⟨f2,d2,q2,h2,t2⟩:=Lib.array_elem Tryz.underlying108 h 2 (by omega);rw[aY]at t2;obtain rfl:(.agg ([((-1):Int),1].map fun z=>.lit (.int .i64 z)))=d2:=Option.some.inj h2;have e2:=Lib.ints_of_struct Tryz.underlying37 (cJ Tryz.underlying37).1 (by rw[aY];rfl) t2;simp at e2;obtain⟨f3,d3,q3,h3,t3⟩:=Lib.array_elem Tryz.underlying108 h 3 (by omega);rw[aY]at t3;obtain rfl:(.agg ([((-1):Int),0].map fun z=>.lit (.int .i64 z)))=d3:=Option.some.inj h3;have e3:=Lib.ints_of_struct Tryz.underlying37 (cJ Tryz.underlying37).1 (by rw[aY];rfl) t3;simp at e3;obtain⟨f4,d4,q4,h4,t4⟩:=Lib.array_elem Tryz.underlying108 h 4 (by omega);rw[aY]at t4;obtain rfl:(.agg ([(0:Int),(-1)].map fun z=>.lit (.int .i64 z)))=d4:=Option.some.inj h4;have e4:=Lib.ints_of_struct Tryz.underlying37 (cJ Tryz.underlying37).1 (by rw[aY];rfl) t4;simp at e4;obtain⟨f5,d5,q5,h5,t5⟩:=Lib.array_elem Tryz.underlying108 h 5 (by omega);rw[aY]at t5;obtain rfl:(.agg ([(1:Int),(-1)].map fun z=>.lit (.int .i64 z)))=d5:=Option.some.inj h5;have e5:=Lib.ints_of_struct Tryz.underlying37 (cJ Tryz.underlying37).1 (by rw[aY];rfl) t5;simp at e5;obtain⟨rfl,rfl⟩:=e0;obtain⟨rfl,rfl⟩:=e1;obtain⟨rfl,rfl⟩:=e2;obtain⟨rfl,rfl⟩:=e3;obtain⟨rfl,rfl⟩:=e4;obtain⟨rfl,rfl⟩:=e5;rfl
theorem y5:(Tryz.prog.globals[1]?).map (·.type)=some 261:=by kernel_rfl
theorem yB:Tryz.prog.cellsOf 261=7:=by kernel_rfl
theorem A4:Tryz.prog.cellsOf 3=1:=by kernel_rfl
theorem qU {H:Type}{enc:TypeId×Value->H}{w:World}{base:Nat}{sp:Nat->Bool}{held:Bool}{fuel:Nat}{cs:List Value}{p:List MemPlace}
 (h:DataW.trod enc Tryz.prog w base sp held fuel 261 cs=some (Rows.laid_apiary_cell_digits,p)):cs.toArray=ie:=by
 have:=Lib.cells_of_tab (zs:=[0,1,5,6,3,2,4]) Tryz.underlying261 Tryz.underlying3 A4 yB h;rw[this];rfl
def Cov3 (w:World):Prop:=Tabs w/\Ways w
theorem Cov3.below {w w':World}(h:Cov3 w)(hb:Below w.heap.size w w'):Cov3 w':=⟨h.1.below hb,h.2.below hb⟩
theorem y6:(Tryz.prog.globals[2]?).map (·.type)=some 108:=by kernel_rfl
theorem yD:Tryz.prog.cellsOf 108=12:=by kernel_rfl
theorem sK {H:Type}{enc:TypeId×Value->H}{w:World}{base:Nat}{sp:Nat->Bool}{held:Bool}{fuel:Nat}{cs:List Value}{p:List MemPlace}
 (h:DataW.trod enc Tryz.prog w base sp held fuel 108 cs=some (Rows.laid_apiary_plane_ways,p)):cs.toArray=mM:=by
 have hl:cs.length=12:=by
  cases fuel with
  | zero=>simp[DataW.trod]at h
  | succ fuel =>
   simp only[DataW.trod,Tryz.underlying108,yD,aY]at h
   split at h
   · rename_i hl;exact hl
   · cases h
 match cs,hl with
 | [c0,c1,c2,c3,c4,c5,c6,c7,c8,c9,c10,c11],_ =>
 obtain⟨f0,d0,q0,h0,t0⟩:=Lib.array_elem Tryz.underlying108 h 0 (by omega);rw[aY]at t0;obtain rfl:(.agg ([(1:Int),1].map fun z=>.lit (.int .i64 z)))=d0:=Option.some.inj h0;have e0:=Lib.ints_of_struct Tryz.underlying37 (cJ Tryz.underlying37).1 (by rw[aY];rfl) t0;simp at e0;obtain⟨f1,d1,q1,h1,t1⟩:=Lib.array_elem Tryz.underlying108 h 1 (by omega);rw[aY]at t1;obtain rfl:(.agg ([((-1):Int),2].map fun z=>.lit (.int .i64 z)))=d1:=Option.some.inj h1;have e1:=Lib.ints_of_struct Tryz.underlying37 (cJ Tryz.underlying37).1 (by rw[aY];rfl) t1;simp at e1;obtain⟨f2,d2,q2,h2,t2⟩:=Lib.array_elem Tryz.underlying108 h 2 (by omega);rw[aY]at t2;obtain rfl:(.agg ([((-2):Int),1].map fun z=>.lit (.int .i64 z)))=d2:=Option.some.inj h2;have e2:=Lib.ints_of_struct Tryz.underlying37 (cJ Tryz.underlying37).1 (by rw[aY];rfl) t2;simp at e2;obtain⟨f3,d3,q3,h3,t3⟩:=Lib.array_elem Tryz.underlying108 h 3 (by omega);rw[aY]at t3;obtain rfl:(.agg ([((-1):Int),(-1)].map fun z=>.lit (.int .i64 z)))=d3:=Option.some.inj h3;have e3:=Lib.ints_of_struct Tryz.underlying37 (cJ Tryz.underlying37).1 (by rw[aY];rfl) t3;simp at e3;obtain⟨f4,d4,q4,h4,t4⟩:=Lib.array_elem Tryz.underlying108 h 4 (by omega);rw[aY]at t4;obtain rfl:(.agg ([(1:Int),(-2)].map fun z=>.lit (.int .i64 z)))=d4:=Option.some.inj h4;have e4:=Lib.ints_of_struct Tryz.underlying37 (cJ Tryz.underlying37).1 (by rw[aY];rfl) t4;simp at e4;obtain⟨f5,d5,q5,h5,t5⟩:=Lib.array_elem Tryz.underlying108 h 5 (by omega);rw[aY]at t5;obtain rfl:(.agg ([(2:Int),(-1)].map fun z=>.lit (.int .i64 z)))=d5:=Option.some.inj h5;have e5:=Lib.ints_of_struct Tryz.underlying37 (cJ Tryz.underlying37).1 (by rw[aY];rfl) t5;simp at e5;obtain⟨rfl,rfl⟩:=e0;obtain⟨rfl,rfl⟩:=e1;obtain⟨rfl,rfl⟩:=e2;obtain⟨rfl,rfl⟩:=e3;obtain⟨rfl,rfl⟩:=e4;obtain⟨rfl,rfl⟩:=e5;rfl
theorem cov_of_row {W:World}{l:List (String×DataW Unit)}(h:laidMet Tryz.prog l W)(h1:("apiary/eisen.units",Rows.laid_apiary_eisen_units)∈l) (h2:("apiary/cell.digits",Rows.laid_apiary_cell_digits)∈l) (h3:("apiary/plane.ways",Rows.laid_apiary_plane_ways)∈l):Cov3 W:=by
 refine⟨⟨?_,?_⟩,?_⟩
 · obtain⟨g',t',cs,fuel,p,hg',ht',hvar,hd⟩:=Lib.laidMet.reads h h2;obtain rfl:=Option.some.inj (qs.symm.trans hg');obtain rfl:=Option.some.inj (y5.symm.trans ht');unfold Digs;rw[hvar,←qU hd]
 · obtain⟨g',t',cs,fuel,p,hg',ht',hvar,hd⟩:=Lib.laidMet.reads h h1;obtain rfl:=Option.some.inj (wL.symm.trans hg');obtain rfl:=Option.some.inj (BP.symm.trans ht');unfold Uni;rw[hvar,←tU hd]
 · obtain⟨g',t',cs,fuel,p,hg',ht',hvar,hd⟩:=Lib.laidMet.reads h h3;obtain rfl:=Option.some.inj (qt.symm.trans hg');obtain rfl:=Option.some.inj (y6.symm.trans ht');unfold Ways;rw[hvar,←sK hd]
end Go.Proofs.YtbnlhdnnenahfaaGreatDoor
