/-
  What the texts LaidE, LaidC, LaidV say, so far as this seat's proofs need it.
-/
import Derived.Test.YtbnlhdnnenahfaaGreatDoorC1M
import Derived.Test.YtbnlhdnnenahfaaGreatDoorHXM
import Derived.Test.YtbnlhdnnenahfaaGreatDoorRows
import Derived.LaidMore
import Derived.Stop.LaidErr
namespace Go.Proofs.YtbnlhdnnenahfaaGreatDoor
open Go.RowKit
theorem gUniType:(Tryz.prog.globals[0]?).map (·.type)=some 108:=by kernel_rfl
theorem cellsUni:Tryz.prog.cellsOf 108=12:=by kernel_rfl
theorem cellsE:Tryz.prog.cellsOf 37=2:=by kernel_rfl
theorem cellsI:Tryz.prog.cellsOf 2=1:=by kernel_rfl
theorem fieldsE {fs:Array Field} (hfs:Tryz.prog.underlying 37=some (.struct fs)):(∀ (i:Nat) (f:Field),fs[i]?=some f→Tryz.prog.underlying f.type=some (.int .i64)∧f.offset=i∧Tryz.prog.cellsOf f.type=1)∧fs.size=2:=by
 have h:=Tryz.underlying37
 rw [hfs] at h
 obtain rfl:=TypeDesc.struct.inj (Option.some.inj h)
 refine ⟨fun i f h=>?_,rfl⟩
 match i with
 | 0=>cases h;exact ⟨Tryz.underlying2,rfl,cellsI⟩
 | 1=>cases h;exact ⟨Tryz.underlying2,rfl,cellsI⟩
 | i+2=>simp at h
set_option maxRecDepth 20000 in
theorem uni_of_laid {H:Type} {enc:TypeId × Value→H} {w:World} {base:Nat} {sp:Nat→Bool} {held:Bool} {fuel:Nat} {cs:List Value} {p:List MemPlace}
 (h:DataW.trod enc Tryz.prog w base sp held fuel 108 cs=some (Rows.laid_apiary_eisen_units,p)):cs.toArray=unitCells:=by
 have hl:cs.length=12:=by
  cases fuel with
  | zero=>simp [DataW.trod] at h
  | succ fuel =>
   simp only [DataW.trod,Tryz.underlying108,cellsUni,cellsE] at h
   split at h
   · rename_i hl;exact hl
   · cases h
 match cs,hl with
 | [c0,c1,c2,c3,c4,c5,c6,c7,c8,c9,c10,c11],_ =>
 obtain ⟨f0,d0,q0,h0,t0⟩:=Lib.array_elem Tryz.underlying108 h 0 (by omega)
 rw [cellsE] at t0
 obtain rfl:(.agg ([(1:Int),0].map fun z=>.lit (.int .i64 z)))=d0:=Option.some.inj h0
 have e0:=Lib.ints_of_struct Tryz.underlying37 (fieldsE Tryz.underlying37).1 (by rw [cellsE];rfl) t0
 simp at e0
 obtain ⟨f1,d1,q1,h1,t1⟩:=Lib.array_elem Tryz.underlying108 h 1 (by omega)
 rw [cellsE] at t1
 obtain rfl:(.agg ([(0:Int),1].map fun z=>.lit (.int .i64 z)))=d1:=Option.some.inj h1
 have e1:=Lib.ints_of_struct Tryz.underlying37 (fieldsE Tryz.underlying37).1 (by rw [cellsE];rfl) t1
 simp at e1
 obtain ⟨f2,d2,q2,h2,t2⟩:=Lib.array_elem Tryz.underlying108 h 2 (by omega)
 rw [cellsE] at t2
 obtain rfl:(.agg ([((-1):Int),1].map fun z=>.lit (.int .i64 z)))=d2:=Option.some.inj h2
 have e2:=Lib.ints_of_struct Tryz.underlying37 (fieldsE Tryz.underlying37).1 (by rw [cellsE];rfl) t2
 simp at e2
 obtain ⟨f3,d3,q3,h3,t3⟩:=Lib.array_elem Tryz.underlying108 h 3 (by omega)
 rw [cellsE] at t3
 obtain rfl:(.agg ([((-1):Int),0].map fun z=>.lit (.int .i64 z)))=d3:=Option.some.inj h3
 have e3:=Lib.ints_of_struct Tryz.underlying37 (fieldsE Tryz.underlying37).1 (by rw [cellsE];rfl) t3
 simp at e3
 obtain ⟨f4,d4,q4,h4,t4⟩:=Lib.array_elem Tryz.underlying108 h 4 (by omega)
 rw [cellsE] at t4
 obtain rfl:(.agg ([(0:Int),(-1)].map fun z=>.lit (.int .i64 z)))=d4:=Option.some.inj h4
 have e4:=Lib.ints_of_struct Tryz.underlying37 (fieldsE Tryz.underlying37).1 (by rw [cellsE];rfl) t4
 simp at e4
 obtain ⟨f5,d5,q5,h5,t5⟩:=Lib.array_elem Tryz.underlying108 h 5 (by omega)
 rw [cellsE] at t5
 obtain rfl:(.agg ([(1:Int),(-1)].map fun z=>.lit (.int .i64 z)))=d5:=Option.some.inj h5
 have e5:=Lib.ints_of_struct Tryz.underlying37 (fieldsE Tryz.underlying37).1 (by rw [cellsE];rfl) t5
 simp at e5
 obtain ⟨rfl,rfl⟩:=e0
 obtain ⟨rfl,rfl⟩:=e1
 obtain ⟨rfl,rfl⟩:=e2
 obtain ⟨rfl,rfl⟩:=e3
 obtain ⟨rfl,rfl⟩:=e4
 obtain ⟨rfl,rfl⟩:=e5
 rfl
theorem gDigsType:(Tryz.prog.globals[1]?).map (·.type)=some 261:=by kernel_rfl
theorem cellsDigs:Tryz.prog.cellsOf 261=7:=by kernel_rfl
theorem cellsInt:Tryz.prog.cellsOf 3=1:=by kernel_rfl
theorem digs_of_laid {H:Type} {enc:TypeId × Value→H} {w:World} {base:Nat} {sp:Nat→Bool} {held:Bool} {fuel:Nat} {cs:List Value} {p:List MemPlace}
 (h:DataW.trod enc Tryz.prog w base sp held fuel 261 cs=some (Rows.laid_apiary_cell_digits,p)):cs.toArray=digCells:=by
 have:=Lib.cells_of_tab (zs:=[0,1,5,6,3,2,4]) Tryz.underlying261 Tryz.underlying3 cellsInt cellsDigs h
 rw [this];rfl
def Cov3 (w:World):Prop:=Tabs w∧Ways w
theorem Cov3.below {w w':World} (h:Cov3 w) (hb:Below w.heap.size w w'):Cov3 w':=⟨h.1.below hb,h.2.below hb⟩
theorem gWaysType:(Tryz.prog.globals[2]?).map (·.type)=some 108:=by kernel_rfl
theorem cellsWays:Tryz.prog.cellsOf 108=12:=by kernel_rfl
set_option maxRecDepth 20000 in
theorem ways_of_laid {H:Type} {enc:TypeId × Value→H} {w:World} {base:Nat} {sp:Nat→Bool} {held:Bool} {fuel:Nat} {cs:List Value} {p:List MemPlace}
 (h:DataW.trod enc Tryz.prog w base sp held fuel 108 cs=some (Rows.laid_apiary_plane_ways,p)):cs.toArray=wayCells:=by
 have hl:cs.length=12:=by
  cases fuel with
  | zero=>simp [DataW.trod] at h
  | succ fuel =>
   simp only [DataW.trod,Tryz.underlying108,cellsWays,cellsE] at h
   split at h
   · rename_i hl;exact hl
   · cases h
 match cs,hl with
 | [c0,c1,c2,c3,c4,c5,c6,c7,c8,c9,c10,c11],_ =>
 obtain ⟨f0,d0,q0,h0,t0⟩:=Lib.array_elem Tryz.underlying108 h 0 (by omega)
 rw [cellsE] at t0
 obtain rfl:(.agg ([(1:Int),1].map fun z=>.lit (.int .i64 z)))=d0:=Option.some.inj h0
 have e0:=Lib.ints_of_struct Tryz.underlying37 (fieldsE Tryz.underlying37).1 (by rw [cellsE];rfl) t0
 simp at e0
 obtain ⟨f1,d1,q1,h1,t1⟩:=Lib.array_elem Tryz.underlying108 h 1 (by omega)
 rw [cellsE] at t1
 obtain rfl:(.agg ([((-1):Int),2].map fun z=>.lit (.int .i64 z)))=d1:=Option.some.inj h1
 have e1:=Lib.ints_of_struct Tryz.underlying37 (fieldsE Tryz.underlying37).1 (by rw [cellsE];rfl) t1
 simp at e1
 obtain ⟨f2,d2,q2,h2,t2⟩:=Lib.array_elem Tryz.underlying108 h 2 (by omega)
 rw [cellsE] at t2
 obtain rfl:(.agg ([((-2):Int),1].map fun z=>.lit (.int .i64 z)))=d2:=Option.some.inj h2
 have e2:=Lib.ints_of_struct Tryz.underlying37 (fieldsE Tryz.underlying37).1 (by rw [cellsE];rfl) t2
 simp at e2
 obtain ⟨f3,d3,q3,h3,t3⟩:=Lib.array_elem Tryz.underlying108 h 3 (by omega)
 rw [cellsE] at t3
 obtain rfl:(.agg ([((-1):Int),(-1)].map fun z=>.lit (.int .i64 z)))=d3:=Option.some.inj h3
 have e3:=Lib.ints_of_struct Tryz.underlying37 (fieldsE Tryz.underlying37).1 (by rw [cellsE];rfl) t3
 simp at e3
 obtain ⟨f4,d4,q4,h4,t4⟩:=Lib.array_elem Tryz.underlying108 h 4 (by omega)
 rw [cellsE] at t4
 obtain rfl:(.agg ([(1:Int),(-2)].map fun z=>.lit (.int .i64 z)))=d4:=Option.some.inj h4
 have e4:=Lib.ints_of_struct Tryz.underlying37 (fieldsE Tryz.underlying37).1 (by rw [cellsE];rfl) t4
 simp at e4
 obtain ⟨f5,d5,q5,h5,t5⟩:=Lib.array_elem Tryz.underlying108 h 5 (by omega)
 rw [cellsE] at t5
 obtain rfl:(.agg ([(2:Int),(-1)].map fun z=>.lit (.int .i64 z)))=d5:=Option.some.inj h5
 have e5:=Lib.ints_of_struct Tryz.underlying37 (fieldsE Tryz.underlying37).1 (by rw [cellsE];rfl) t5
 simp at e5
 obtain ⟨rfl,rfl⟩:=e0
 obtain ⟨rfl,rfl⟩:=e1
 obtain ⟨rfl,rfl⟩:=e2
 obtain ⟨rfl,rfl⟩:=e3
 obtain ⟨rfl,rfl⟩:=e4
 obtain ⟨rfl,rfl⟩:=e5
 rfl
theorem cov_of_row {W:World} {l:List (String × DataW Unit)} (h:laidMet Tryz.prog l W) (h1:("apiary/eisen.units",Rows.laid_apiary_eisen_units)∈l) (h2:("apiary/cell.digits",Rows.laid_apiary_cell_digits)∈l) (h3:("apiary/plane.ways",Rows.laid_apiary_plane_ways)∈l):Cov3 W:=by
 refine ⟨⟨?_,?_⟩,?_⟩
 · obtain ⟨g',t',cs,fuel,p,hg',ht',hvar,hd⟩:=Lib.laidMet.reads h h2
   obtain rfl:=Option.some.inj (gDigs.symm.trans hg')
   obtain rfl:=Option.some.inj (gDigsType.symm.trans ht')
   unfold Digs
   rw [hvar,← digs_of_laid hd]
 · obtain ⟨g',t',cs,fuel,p,hg',ht',hvar,hd⟩:=Lib.laidMet.reads h h1
   obtain rfl:=Option.some.inj (gUni.symm.trans hg')
   obtain rfl:=Option.some.inj (gUniType.symm.trans ht')
   unfold Uni
   rw [hvar,← uni_of_laid hd]
 · obtain ⟨g',t',cs,fuel,p,hg',ht',hvar,hd⟩:=Lib.laidMet.reads h h3
   obtain rfl:=Option.some.inj (gWays.symm.trans hg')
   obtain rfl:=Option.some.inj (gWaysType.symm.trans ht')
   unfold Ways
   rw [hvar,← ways_of_laid hd]
end Go.Proofs.YtbnlhdnnenahfaaGreatDoor
