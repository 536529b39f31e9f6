/-
  From the row's condition to the walks' fact: where the package's table of Units reads as its text lays it, its cells hold just that.
-/
import Derived.Test.YtdklpgphmoaniabGreatDoorRows
import Derived.LaidMore
import Derived.Stop.LaidErr
import Derived.Test.YtdklpgphmoaniabGreatDoorPHexX
namespace Go.Proofs.YtdklpgphmoaniabGreatDoor
open Go.RowKit
theorem gUniType:(Tryz.prog.globals[0]?).map (·.type)=some 116:=by kernel_rfl
theorem cellsUni:Tryz.prog.cellsOf 116=12:=by kernel_rfl
theorem cellsE:Tryz.prog.cellsOf 40=2:=by kernel_rfl
theorem cellsI:Tryz.prog.cellsOf 2=1:=by kernel_rfl
theorem fieldsE {fs:Array Field} (hfs:Tryz.prog.underlying 40=some (.struct fs)):(∀ (i:Nat) (f:Field),fs[i]?=some f→Tryz.prog.underlying f.type=some (.int .i64)∧f.offset=i∧Tryz.prog.cellsOf f.type=1)∧fs.size=2:=by
 have h:=Tryz.underlying40
 rw [hfs] at h
 obtain rfl:=TypeDesc.struct.inj (Option.some.inj h)
 refine ⟨fun i f h=>?_,rfl⟩
 match i with
 | 0=>cases h;exact ⟨Tryz.underlying2,rfl,cellsI⟩
 | 1=>cases h;exact ⟨Tryz.underlying2,rfl,cellsI⟩
 | i+2=>simp at h
set_option maxRecDepth 20000 in
theorem uni_of_laid {H:Type} {enc:TypeId × Value→H} {w:World} {base:Nat} {sp:Nat→Bool} {held:Bool} {fuel:Nat} {cs:List Value} {p:List MemPlace}
 (h:DataW.trod enc Tryz.prog w base sp held fuel 116 cs=some (Rows.laid_apiary_eisen_units,p)):cs.toArray=unitCells:=by
 have hl:cs.length=12:=by
  cases fuel with
  | zero=>simp [DataW.trod] at h
  | succ fuel =>
   simp only [DataW.trod,Tryz.underlying116,cellsUni,cellsE] at h
   split at h
   · rename_i hl;exact hl
   · cases h
 match cs,hl with
 | [c0,c1,c2,c3,c4,c5,c6,c7,c8,c9,c10,c11],_ =>
 obtain ⟨f0,d0,q0,h0,t0⟩:=Lib.array_elem Tryz.underlying116 h 0 (by omega)
 rw [cellsE] at t0
 obtain rfl:(.agg ([(1:Int),0].map fun z=>.lit (.int .i64 z)))=d0:=Option.some.inj h0
 have e0:=Lib.ints_of_struct Tryz.underlying40 (fieldsE Tryz.underlying40).1 (by rw [cellsE];rfl) t0
 simp at e0
 obtain ⟨f1,d1,q1,h1,t1⟩:=Lib.array_elem Tryz.underlying116 h 1 (by omega)
 rw [cellsE] at t1
 obtain rfl:(.agg ([(0:Int),1].map fun z=>.lit (.int .i64 z)))=d1:=Option.some.inj h1
 have e1:=Lib.ints_of_struct Tryz.underlying40 (fieldsE Tryz.underlying40).1 (by rw [cellsE];rfl) t1
 simp at e1
 obtain ⟨f2,d2,q2,h2,t2⟩:=Lib.array_elem Tryz.underlying116 h 2 (by omega)
 rw [cellsE] at t2
 obtain rfl:(.agg ([((-1):Int),1].map fun z=>.lit (.int .i64 z)))=d2:=Option.some.inj h2
 have e2:=Lib.ints_of_struct Tryz.underlying40 (fieldsE Tryz.underlying40).1 (by rw [cellsE];rfl) t2
 simp at e2
 obtain ⟨f3,d3,q3,h3,t3⟩:=Lib.array_elem Tryz.underlying116 h 3 (by omega)
 rw [cellsE] at t3
 obtain rfl:(.agg ([((-1):Int),0].map fun z=>.lit (.int .i64 z)))=d3:=Option.some.inj h3
 have e3:=Lib.ints_of_struct Tryz.underlying40 (fieldsE Tryz.underlying40).1 (by rw [cellsE];rfl) t3
 simp at e3
 obtain ⟨f4,d4,q4,h4,t4⟩:=Lib.array_elem Tryz.underlying116 h 4 (by omega)
 rw [cellsE] at t4
 obtain rfl:(.agg ([(0:Int),(-1)].map fun z=>.lit (.int .i64 z)))=d4:=Option.some.inj h4
 have e4:=Lib.ints_of_struct Tryz.underlying40 (fieldsE Tryz.underlying40).1 (by rw [cellsE];rfl) t4
 simp at e4
 obtain ⟨f5,d5,q5,h5,t5⟩:=Lib.array_elem Tryz.underlying116 h 5 (by omega)
 rw [cellsE] at t5
 obtain rfl:(.agg ([(1:Int),(-1)].map fun z=>.lit (.int .i64 z)))=d5:=Option.some.inj h5
 have e5:=Lib.ints_of_struct Tryz.underlying40 (fieldsE Tryz.underlying40).1 (by rw [cellsE];rfl) t5
 simp at e5
 obtain ⟨rfl,rfl⟩:=e0
 obtain ⟨rfl,rfl⟩:=e1
 obtain ⟨rfl,rfl⟩:=e2
 obtain ⟨rfl,rfl⟩:=e3
 obtain ⟨rfl,rfl⟩:=e4
 obtain ⟨rfl,rfl⟩:=e5
 rfl
theorem uni_of_row {W:World} {rest:List (String × DataW Unit)} (h:laidMet Tryz.prog (("apiary/eisen.units",Rows.laid_apiary_eisen_units) :: rest) W):Uni W:=by
 obtain ⟨ps,⟨g',t',cs,fuel,p,q,hg',ht',hvar,hd,_,_⟩,_⟩:=h
 obtain rfl:=Option.some.inj (gUni.symm.trans hg')
 obtain rfl:=Option.some.inj (gUniType.symm.trans ht')
 unfold Uni
 rw [hvar,← uni_of_laid hd]
section
variable {H:Type} {enc:TypeId × Value→H} {w:World} {base:Nat} {sp:Nat→Bool} {held:Bool}
set_option maxRecDepth 20000 in
theorem open_E {r:Reach} {b0:Nat} {v:Value} {d:DataW H} {ps:List MemPlace} (hval:Value.okWide Tryz.prog w r b0 40 v) (hd:DataW.Trod enc Tryz.prog w base sp held 40 v d ps) :
 ∃ x y,v=.agg #[.int .i64 x,.int .i64 y]∧d=.agg [.lit (.int .i64 x),.lit (.int .i64 y)]∧ps=[]∧(Lit.int .i64 x).wf=true∧(Lit.int .i64 y).wf=true:=by
 obtain ⟨cs,rfl,hsz⟩:=Go.WideShapes.okWide_struct Tryz.underlying40 hval
 rw [cellsE] at hsz
 obtain ⟨l⟩:=cs
 match l,hsz with
 | [c0,c1],_ =>
 obtain ⟨fuel,hf⟩:=hd
 obtain ⟨y0,y1,m,hx,_,hy0,hy1⟩:=Go.ChangeShapes.trod_struct2 Tryz.underlying40 hf
 obtain ⟨a,e0,rfl,wa⟩:=DataW.trod_int Tryz.underlying2 hy0
 obtain ⟨b,e1,rfl,wb⟩:=DataW.trod_int Tryz.underlying2 hy1
 simp [Value.cells,cellsI] at e0 e1
 subst e0 e1
 simp only [Prod.mk.injEq] at hx
 exact ⟨a,b,rfl,hx.1,by simpa using hx.2,wa,wb⟩
set_option maxRecDepth 20000 in
theorem shut_E {x y:Int} (wa:(Lit.int .i64 x).wf=true) (wb:(Lit.int .i64 y).wf=true):DataW.Trod enc Tryz.prog w base sp held 40 (.agg #[.int .i64 x,.int .i64 y]) (.agg [.lit (.int .i64 x),.lit (.int .i64 y)]) []:=⟨2,by
 have f0:DataW.trod enc Tryz.prog w base sp held 1 2 [.int .i64 x]=some (.lit (.int .i64 x),[]):=by simp [DataW.trod,Tryz.underlying2,wa]
 have f1:DataW.trod enc Tryz.prog w base sp held 1 2 [.int .i64 y]=some (.lit (.int .i64 y),[]):=by simp [DataW.trod,Tryz.underlying2,wb]
 have:=Go.ChangeShapes.trod_struct2_mk (enc:=enc) (w:=w) (base:=base) (spare:=sp) (held:=held) (n:=1) (cs:=[.int .i64 x,.int .i64 y]) Tryz.underlying40 (by simp [cellsE]) (by simpa [cellsI] using f0) (by simpa [cellsI] using f1)
 simpa [Value.cells] using this⟩
end
theorem gDigsType:(Tryz.prog.globals[2]?).map (·.type)=some 175:=by kernel_rfl
theorem cellsDigs:Tryz.prog.cellsOf 175=7:=by kernel_rfl
theorem cellsInt:Tryz.prog.cellsOf 3=1:=by kernel_rfl
theorem cellsCell:Tryz.prog.cellsOf 42=3:=by kernel_rfl
theorem digs_of_laid {H:Type} {enc:TypeId × Value→H} {w:World} {base:Nat} {sp:Nat→Bool} {held:Bool} {fuel:Nat} {cs:List Value} {p:List MemPlace}
 (h:DataW.trod enc Tryz.prog w base sp held fuel 175 cs=some (Rows.laid_apiary_cell_digits,p)):cs.toArray=digCells:=by
 have:=Lib.cells_of_tab (zs:=[0,1,5,6,3,2,4]) Tryz.underlying175 Tryz.underlying3 cellsInt cellsDigs h
 rw [this];rfl
theorem tabs_of_row {W:World} (h:laidMet Tryz.prog [("apiary/eisen.units",Rows.laid_apiary_eisen_units),("apiary/cell.digits",Rows.laid_apiary_cell_digits)] W):Tabs W:=by
 refine ⟨?_,uni_of_row h⟩
 obtain ⟨ps,⟨-,-,-,-,-,q,-,-,-,-,hr,-⟩,-⟩:=h
 obtain ⟨g',t',cs,fuel,p,q',hg',ht',hvar,hd,_,_⟩:=hr
 obtain rfl:=Option.some.inj (gDigs.symm.trans hg')
 obtain rfl:=Option.some.inj (gDigsType.symm.trans ht')
 unfold Digs
 rw [hvar,← digs_of_laid hd]
section
variable {H:Type} {enc:TypeId × Value→H} {w:World} {base:Nat} {sp:Nat→Bool} {held:Bool}
set_option maxRecDepth 20000 in
theorem open_Cell {r:Reach} {b0:Nat} {v:Value} {d:DataW H} {ps:List MemPlace} (hval:Value.okWide Tryz.prog w r b0 42 v) (hd:DataW.Trod enc Tryz.prog w base sp held 42 v d ps) :
 ∃ x y z,v=.agg #[.int .i64 x,.int .i64 y,.int .i64 z]∧d=.agg [.lit (.int .i64 x),.agg [.lit (.int .i64 y),.lit (.int .i64 z)]]∧ps=[]∧(Lit.int .i64 x).wf=true∧(Lit.int .i64 y).wf=true∧(Lit.int .i64 z).wf=true:=by
 obtain ⟨cs,rfl,hsz⟩:=Go.WideShapes.okWide_struct Tryz.underlying42 hval
 rw [cellsCell] at hsz
 obtain ⟨l⟩:=cs
 match l,hsz with
 | [c0,c1,c2],_ =>
 obtain ⟨fuel,hf⟩:=hd
 obtain ⟨y0,y1,m,hx,_,hy0,hy1⟩:=Go.ChangeShapes.trod_struct2 Tryz.underlying42 hf
 obtain ⟨a,e0,rfl,wa⟩:=DataW.trod_int Tryz.underlying3 hy0
 obtain ⟨z0,z1,m',hx',_,hz0,hz1⟩:=Go.ChangeShapes.trod_struct2 Tryz.underlying40 hy1
 obtain ⟨b,e1,rfl,wb⟩:=DataW.trod_int Tryz.underlying2 hz0
 obtain ⟨c,e2,rfl,wc⟩:=DataW.trod_int Tryz.underlying2 hz1
 simp [Value.cells,cellsI,cellsInt,cellsE] at e0 e1 e2
 subst e0 e1 e2
 subst hx'
 simp only [Prod.mk.injEq] at hx
 exact ⟨a,b,c,rfl,hx.1,by simpa using hx.2,wa,wb,wc⟩
set_option maxRecDepth 20000 in
theorem shut_Cell {x y z:Int} (wa:(Lit.int .i64 x).wf=true) (wb:(Lit.int .i64 y).wf=true) (wc:(Lit.int .i64 z).wf=true):DataW.Trod enc Tryz.prog w base sp held 42 (.agg #[.int .i64 x,.int .i64 y,.int .i64 z]) (.agg [.lit (.int .i64 x),.agg [.lit (.int .i64 y),.lit (.int .i64 z)]]) []:=⟨3,by
 have f0:DataW.trod enc Tryz.prog w base sp held 2 3 [.int .i64 x]=some (.lit (.int .i64 x),[]):=by simp [DataW.trod,Tryz.underlying3,wa]
 have f1:DataW.trod enc Tryz.prog w base sp held 1 2 [.int .i64 y]=some (.lit (.int .i64 y),[]):=by simp [DataW.trod,Tryz.underlying2,wb]
 have f2:DataW.trod enc Tryz.prog w base sp held 1 2 [.int .i64 z]=some (.lit (.int .i64 z),[]):=by simp [DataW.trod,Tryz.underlying2,wc]
 have hE:=Go.ChangeShapes.trod_struct2_mk (enc:=enc) (w:=w) (base:=base) (spare:=sp) (held:=held) (n:=1) (cs:=[.int .i64 y,.int .i64 z]) Tryz.underlying40 (by simp [cellsE]) (by simpa [cellsI] using f1) (by simpa [cellsI] using f2)
 have:=Go.ChangeShapes.trod_struct2_mk (enc:=enc) (w:=w) (base:=base) (spare:=sp) (held:=held) (n:=2) (cs:=[.int .i64 x,.int .i64 y,.int .i64 z]) Tryz.underlying42 (by simp [cellsCell]) (by simpa [cellsInt] using f0) (by simpa [cellsE] using hE)
 simpa [Value.cells] using this⟩
end
def Cov3 (w:World):Prop:=Tabs w∧Ways w
theorem Cov3.below {w w':World} (h:Cov3 w) (hb:Below w.heap.size w w'):Cov3 w':=⟨h.1.below hb,h.2.below hb⟩
theorem gWaysType:(Tryz.prog.globals[1]?).map (·.type)=some 116:=by kernel_rfl
theorem cellsWays:Tryz.prog.cellsOf 116=12:=by kernel_rfl
set_option maxRecDepth 20000 in
theorem ways_of_laid {H:Type} {enc:TypeId × Value→H} {w:World} {base:Nat} {sp:Nat→Bool} {held:Bool} {fuel:Nat} {cs:List Value} {p:List MemPlace}
 (h:DataW.trod enc Tryz.prog w base sp held fuel 116 cs=some (Rows.laid_apiary_plane_ways,p)):cs.toArray=wayCells:=by
 have hl:cs.length=12:=by
  cases fuel with
  | zero=>simp [DataW.trod] at h
  | succ fuel =>
   simp only [DataW.trod,Tryz.underlying116,cellsWays,cellsE] at h
   split at h
   · rename_i hl;exact hl
   · cases h
 match cs,hl with
 | [c0,c1,c2,c3,c4,c5,c6,c7,c8,c9,c10,c11],_ =>
 obtain ⟨f0,d0,q0,h0,t0⟩:=Lib.array_elem Tryz.underlying116 h 0 (by omega)
 rw [cellsE] at t0
 obtain rfl:(.agg ([(1:Int),1].map fun z=>.lit (.int .i64 z)))=d0:=Option.some.inj h0
 have e0:=Lib.ints_of_struct Tryz.underlying40 (fieldsE Tryz.underlying40).1 (by rw [cellsE];rfl) t0
 simp at e0
 obtain ⟨f1,d1,q1,h1,t1⟩:=Lib.array_elem Tryz.underlying116 h 1 (by omega)
 rw [cellsE] at t1
 obtain rfl:(.agg ([((-1):Int),2].map fun z=>.lit (.int .i64 z)))=d1:=Option.some.inj h1
 have e1:=Lib.ints_of_struct Tryz.underlying40 (fieldsE Tryz.underlying40).1 (by rw [cellsE];rfl) t1
 simp at e1
 obtain ⟨f2,d2,q2,h2,t2⟩:=Lib.array_elem Tryz.underlying116 h 2 (by omega)
 rw [cellsE] at t2
 obtain rfl:(.agg ([((-2):Int),1].map fun z=>.lit (.int .i64 z)))=d2:=Option.some.inj h2
 have e2:=Lib.ints_of_struct Tryz.underlying40 (fieldsE Tryz.underlying40).1 (by rw [cellsE];rfl) t2
 simp at e2
 obtain ⟨f3,d3,q3,h3,t3⟩:=Lib.array_elem Tryz.underlying116 h 3 (by omega)
 rw [cellsE] at t3
 obtain rfl:(.agg ([((-1):Int),(-1)].map fun z=>.lit (.int .i64 z)))=d3:=Option.some.inj h3
 have e3:=Lib.ints_of_struct Tryz.underlying40 (fieldsE Tryz.underlying40).1 (by rw [cellsE];rfl) t3
 simp at e3
 obtain ⟨f4,d4,q4,h4,t4⟩:=Lib.array_elem Tryz.underlying116 h 4 (by omega)
 rw [cellsE] at t4
 obtain rfl:(.agg ([(1:Int),(-2)].map fun z=>.lit (.int .i64 z)))=d4:=Option.some.inj h4
 have e4:=Lib.ints_of_struct Tryz.underlying40 (fieldsE Tryz.underlying40).1 (by rw [cellsE];rfl) t4
 simp at e4
 obtain ⟨f5,d5,q5,h5,t5⟩:=Lib.array_elem Tryz.underlying116 h 5 (by omega)
 rw [cellsE] at t5
 obtain rfl:(.agg ([(2:Int),(-1)].map fun z=>.lit (.int .i64 z)))=d5:=Option.some.inj h5
 have e5:=Lib.ints_of_struct Tryz.underlying40 (fieldsE Tryz.underlying40).1 (by rw [cellsE];rfl) t5
 simp at e5
 obtain ⟨rfl,rfl⟩:=e0
 obtain ⟨rfl,rfl⟩:=e1
 obtain ⟨rfl,rfl⟩:=e2
 obtain ⟨rfl,rfl⟩:=e3
 obtain ⟨rfl,rfl⟩:=e4
 obtain ⟨rfl,rfl⟩:=e5
 rfl
theorem cov_of_row {W:World} {l:List (String × DataW Unit)} (h:laidMet Tryz.prog l W) (h1:("apiary/eisen.units",Rows.laid_apiary_eisen_units)∈l) (h2:("apiary/cell.digits",Rows.laid_apiary_cell_digits)∈l) (h3:("apiary/plane.ways",Rows.laid_apiary_plane_ways)∈l):Cov3 W:=by
 refine ⟨⟨?_,?_⟩,?_⟩
 · obtain ⟨g',t',cs,fuel,p,hg',ht',hvar,hd⟩:=Lib.laidMet.reads h h2
   obtain rfl:=Option.some.inj (gDigs.symm.trans hg')
   obtain rfl:=Option.some.inj (gDigsType.symm.trans ht')
   unfold Digs
   rw [hvar,← digs_of_laid hd]
 · obtain ⟨g',t',cs,fuel,p,hg',ht',hvar,hd⟩:=Lib.laidMet.reads h h1
   obtain rfl:=Option.some.inj (gUni.symm.trans hg')
   obtain rfl:=Option.some.inj (gUniType.symm.trans ht')
   unfold Uni
   rw [hvar,← uni_of_laid hd]
 · obtain ⟨g',t',cs,fuel,p,hg',ht',hvar,hd⟩:=Lib.laidMet.reads h h3
   obtain rfl:=Option.some.inj (gWays.symm.trans hg')
   obtain rfl:=Option.some.inj (gWaysType.symm.trans ht')
   unfold Ways
   rw [hvar,← ways_of_laid hd]
end Go.Proofs.YtdklpgphmoaniabGreatDoor
