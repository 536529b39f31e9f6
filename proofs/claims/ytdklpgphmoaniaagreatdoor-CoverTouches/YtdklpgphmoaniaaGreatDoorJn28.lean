/-
  How package cover's frontier is gone through, with what is put in meanwhile; in whatever memory.
-/
import Derived.Test.YtdklpgphmoaniaaGreatDoorJn27
import Derived.Test.YtdklpgphmoaniaaGreatDoorRows
import Derived.LaidMore
import Derived.Stop.LaidErr
namespace Go.Proofs.YtdklpgphmoaniaaGreatDoor
open Go.RowKit Go
attribute [local go_sem] Oper.semAt_some
abbrev encQ (x:Int):Array Value:=#[.agg #[.int .i64 (sp1 x),.int .i64 (sp2 x)]]
def QHeap (base S:Nat) (v:Value) (H:List Int) (W:World):Prop:=HatQ W base S 7 v H∧Hp H.length H.toArray∧H.length≤400000
def QNext (base S:Nat) (v:Value) (H:List Int) (x:Int) (A C:World):Prop :=
 x∈H∧∃ (L':List Int) (v':Value),(∀ y∈L',y∈H∧y < x)∧(∀ y∈H,y=x∨y∈L')∧L'.length+1≤H.length∧Hp L'.length L'.toArray∧HatQ C base S 7 v' L'∧v'.ownBlock=v.ownBlock∧ButQ S 7 v.ownBlock A C
theorem least_mu {σ:Type} (J:σ→World→Prop) (μ:σ→Nat):∃ m:World→Nat,∀ W s,J s W→m W≤μ s∧∃ s',J s' W∧μ s'=m W:=by
 have key:∀ W,∃ k,∀ s,J s W→k≤μ s∧∃ s',J s' W∧μ s'=k:=fun W=>by
  by_cases h:∃ s,J s W
  · have low:∀ n,(∃ s,J s W∧μ s≤n)→∃ k,(∀ s,J s W→k≤μ s)∧∃ s',J s' W∧μ s'=k:=by
     intro n
     induction n with
     | zero =>
      rintro ⟨s,hs,h0⟩
      exact ⟨0,fun _ _=>Nat.zero_le _,s,hs,by omega⟩
     | succ n ih =>
      rintro ⟨s,hs,h0⟩
      by_cases c:∃ s,J s W∧μ s≤n
      · exact ih c
      · refine ⟨n+1,fun t ht=>?_,s,hs,?_⟩
        · by_cases k:μ t≤n
          · exact absurd ⟨t,ht,k⟩ c
          · omega
        · by_cases k:μ s≤n
          · exact absurd ⟨s,hs,k⟩ c
          · omega
    obtain ⟨s,hs⟩:=h
    obtain ⟨k,h1,h2⟩:=low (μ s) ⟨s,hs,Nat.le_refl _⟩
    exact ⟨k,fun t ht=>⟨h1 t ht,h2⟩⟩
  · exact ⟨0,fun s hs=>absurd ⟨s,hs⟩ h⟩
 exact Classical.axiomOfChoice key
theorem spot_z (a b c:Int) (w:World):(Instr.field 188 (.agg #[.int .i64 a,.int .i64 b,.int .i64 c]) 1).run Tryz.prog w=.ok (.agg #[.int .i64 b,.int .i64 c]) w:=by kernel_rfl
set_option maxRecDepth 100000 in
set_option maxHeartbeats 8000000 in
theorem numbers_seq {σ:Type} (base S:Nat) (hd:σ→List Int) (val:σ→Value) (μ:σ→Nat) :
 SeqS Fence.wide 2 Tryz.prog 105 #[.pointer (some ⟨S,7,none⟩)] #[] encQ (fun s W=>QHeap base S (val s) (hd s) W) (fun s x A C=>QNext base S (val s) (hd s) x A C) (fun s=>hd s=[]) μ:=by
 intro l J Jx hQ hY s0 W hJ
 obtain ⟨m,hm⟩:=least_mu J μ
 have HM:=hidd hm
 have HQ:=hidd hQ
 have HY:=hidd hY
 clear hm hQ hY
 refine callsIn_of_wp Tryz.func105 rfl trivial ?_ rfl
 simp only [Tryz.ntmps105,List.size_toArray,List.length_cons,List.length_nil,Nat.reduceAdd,Nat.reduceSub,Array.replicate_succ,Array.replicate_zero,List.push_toArray,List.append_toArray,List.nil_append,List.cons_append]
 gi_wp2
 gi_loopw [] (fun wr=>∃ s,Hid (J s wr)) (fun wr=>m wr)
 case atStart=>exact ⟨s0,hidd hJ⟩
 case round =>
  obtain ⟨s1,hs1⟩:=hrel
  obtain ⟨s,hJs,hμ⟩:=(HM.out _ _ hs1.out).2
  have hq:=HQ.out _ _ hJs
  obtain ⟨hH,hp,hlen⟩:=hq
  obtain ⟨p,c,ev⟩:=hH.any
  have hc:=hH.cell
  rw [ev] at hc
  have MU:=hidd hμ
  have HJ:=hidd hJs
  clear hs1 hJs hμ
  by_cases h0:(hd s).length=0
  · have hd0:hd s=[]:=List.length_eq_zero_iff.1 h0
    have HD:=hidd hd0
    rw [h0] at hc
    clear hH hp hlen ev h0 hd0
    gi_wp2
    go_end0
    exact ⟨⟨_,rfl⟩,.inl ⟨s,HD.out,HJ.out⟩⟩
  · obtain ⟨k,hk⟩:∃ k,(hd s).length=k+1:=⟨(hd s).length - 1,by omega⟩
    have hk':(0:Int) < ((k+1:Nat):Int):=by omega
    have hpk:Hp (k+1) (hd s).toArray:=by rw [← hk];exact hp
    have NX:=hidd (q_next base S 7 k (val s) (hd s) hk _ hH hpk (by omega))
    have HK:=hidd hk
    rw [hk] at hc
    clear hH hp hlen ev h0 hk hpk
    gi_wp2_with (first
     | (refine ⟨trivial,?_⟩
        gi_at_call 137
        refine (callsIn_wide.2 NX.out).mono ?_
        rintro e w2 ⟨x,L',v',rfl,hx,h1,h2,h3,h4,h5,h6,h7⟩
        have NN:=hidd (show QNext base S (val s) (hd s) x _ w2 from ⟨hx,L',v',h1,h2,(by have:=HK.out;omega),h4,h5,h6,h7⟩)
        clear hx h1 h2 h3 h4 h5 h6 h7 NX
        have FZ:=spot_z (sp0 x) (sp1 x) (sp2 x) w2
        obtain ⟨fn,tmps,assign,body,hy,hRR⟩:=HY.out s x _ w2 HJ.out NN.out)
     | fail)
    refine hRR.mono ?_
    rintro e W' (⟨rfl,s',hlt,hJ'⟩ | ⟨rfl,hX⟩)
    · have M1:=(HM.out W' s' hJ').1
      have M2:Hid (m W' < m wr):=hidd (by have:=MU.out;omega)
      have HJ2:=hidd hJ'
      clear hJ' hlt MU NN hRR hy M1
      gi_wp2
      go_roundw
      case rel=>exact ⟨s',HJ2⟩
      case measure=>exact M2.out
    · have HX:=hidd hX
      clear hX NN hRR hy
      gi_wp2
      refine bodyPost_ret (results_none rfl _ _ _) rfl ?_
      exact ⟨⟨_,rfl⟩,.inr HX.out⟩
end Go.Proofs.YtdklpgphmoaniaaGreatDoor
namespace Go.Proofs.YtdklpgphmoaniaaGreatDoor
open Go.RowKit
theorem gUniType:(Tryz.prog.globals[0]?).map (·.type)=some 123:=by kernel_rfl
theorem cellsUni:Tryz.prog.cellsOf 123=12:=by kernel_rfl
theorem cellsE:Tryz.prog.cellsOf 23=2:=by kernel_rfl
theorem cellsI:Tryz.prog.cellsOf 2=1:=by kernel_rfl
theorem fieldsE {fs:Array Field} (hfs:Tryz.prog.underlying 23=some (.struct fs)):(∀ (i:Nat) (f:Field),fs[i]?=some f→Tryz.prog.underlying f.type=some (.int .i64)∧f.offset=i∧Tryz.prog.cellsOf f.type=1)∧fs.size=2:=by
 have h:=Tryz.underlying23
 rw [hfs] at h
 obtain rfl:=TypeDesc.struct.inj (Option.some.inj h)
 refine ⟨fun i f h=>?_,rfl⟩
 match i with
 | 0=>cases h;exact ⟨Tryz.underlying2,rfl,cellsI⟩
 | 1=>cases h;exact ⟨Tryz.underlying2,rfl,cellsI⟩
 | i+2=>simp at h
set_option maxRecDepth 20000 in
theorem uni_of_laid {H:Type} {enc:TypeId × Value→H} {w:World} {base:Nat} {sp:Nat→Bool} {held:Bool} {fuel:Nat} {cs:List Value} {p:List MemPlace}
 (h:DataW.trod enc Tryz.prog w base sp held fuel 123 cs=some (Rows.laid_apiary_eisen_units,p)):cs.toArray=unitCells:=by
 have hl:cs.length=12:=by
  cases fuel with
  | zero=>simp [DataW.trod] at h
  | succ fuel =>
   simp only [DataW.trod,Tryz.underlying123,cellsUni,cellsE] at h
   split at h
   · rename_i hl;exact hl
   · cases h
 match cs,hl with
 | [c0,c1,c2,c3,c4,c5,c6,c7,c8,c9,c10,c11],_ =>
 obtain ⟨f0,d0,q0,h0,t0⟩:=Lib.array_elem Tryz.underlying123 h 0 (by omega)
 rw [cellsE] at t0
 obtain rfl:(.agg ([(1:Int),0].map fun z=>.lit (.int .i64 z)))=d0:=Option.some.inj h0
 have e0:=Lib.ints_of_struct Tryz.underlying23 (fieldsE Tryz.underlying23).1 (by rw [cellsE];rfl) t0
 simp at e0
 obtain ⟨f1,d1,q1,h1,t1⟩:=Lib.array_elem Tryz.underlying123 h 1 (by omega)
 rw [cellsE] at t1
 obtain rfl:(.agg ([(0:Int),1].map fun z=>.lit (.int .i64 z)))=d1:=Option.some.inj h1
 have e1:=Lib.ints_of_struct Tryz.underlying23 (fieldsE Tryz.underlying23).1 (by rw [cellsE];rfl) t1
 simp at e1
 obtain ⟨f2,d2,q2,h2,t2⟩:=Lib.array_elem Tryz.underlying123 h 2 (by omega)
 rw [cellsE] at t2
 obtain rfl:(.agg ([((-1):Int),1].map fun z=>.lit (.int .i64 z)))=d2:=Option.some.inj h2
 have e2:=Lib.ints_of_struct Tryz.underlying23 (fieldsE Tryz.underlying23).1 (by rw [cellsE];rfl) t2
 simp at e2
 obtain ⟨f3,d3,q3,h3,t3⟩:=Lib.array_elem Tryz.underlying123 h 3 (by omega)
 rw [cellsE] at t3
 obtain rfl:(.agg ([((-1):Int),0].map fun z=>.lit (.int .i64 z)))=d3:=Option.some.inj h3
 have e3:=Lib.ints_of_struct Tryz.underlying23 (fieldsE Tryz.underlying23).1 (by rw [cellsE];rfl) t3
 simp at e3
 obtain ⟨f4,d4,q4,h4,t4⟩:=Lib.array_elem Tryz.underlying123 h 4 (by omega)
 rw [cellsE] at t4
 obtain rfl:(.agg ([(0:Int),(-1)].map fun z=>.lit (.int .i64 z)))=d4:=Option.some.inj h4
 have e4:=Lib.ints_of_struct Tryz.underlying23 (fieldsE Tryz.underlying23).1 (by rw [cellsE];rfl) t4
 simp at e4
 obtain ⟨f5,d5,q5,h5,t5⟩:=Lib.array_elem Tryz.underlying123 h 5 (by omega)
 rw [cellsE] at t5
 obtain rfl:(.agg ([(1:Int),(-1)].map fun z=>.lit (.int .i64 z)))=d5:=Option.some.inj h5
 have e5:=Lib.ints_of_struct Tryz.underlying23 (fieldsE Tryz.underlying23).1 (by rw [cellsE];rfl) t5
 simp at e5
 obtain ⟨rfl,rfl⟩:=e0
 obtain ⟨rfl,rfl⟩:=e1
 obtain ⟨rfl,rfl⟩:=e2
 obtain ⟨rfl,rfl⟩:=e3
 obtain ⟨rfl,rfl⟩:=e4
 obtain ⟨rfl,rfl⟩:=e5
 rfl
theorem uni_of_row {W:World} {rest:List (String × DataW Unit)} (h:laidMet Tryz.prog (("apiary/eisen.units",Rows.laid_apiary_eisen_units) :: rest) W):Uni W:=by
 obtain ⟨ps,⟨g',t',cs,fuel,p,q,hg',ht',hvar,hd,_,_⟩,_⟩:=h
 obtain rfl:=Option.some.inj (gUni.symm.trans hg')
 obtain rfl:=Option.some.inj (gUniType.symm.trans ht')
 unfold Uni
 rw [hvar,← uni_of_laid hd]
section
variable {H:Type} {enc:TypeId × Value→H} {w:World} {base:Nat} {sp:Nat→Bool} {held:Bool}
set_option maxRecDepth 20000 in
theorem open_E {r:Reach} {b0:Nat} {v:Value} {d:DataW H} {ps:List MemPlace} (hval:Value.okWide Tryz.prog w r b0 23 v) (hd:DataW.Trod enc Tryz.prog w base sp held 23 v d ps) :
 ∃ x y,v=.agg #[.int .i64 x,.int .i64 y]∧d=.agg [.lit (.int .i64 x),.lit (.int .i64 y)]∧ps=[]∧(Lit.int .i64 x).wf=true∧(Lit.int .i64 y).wf=true:=by
 obtain ⟨cs,rfl,hsz⟩:=Go.WideShapes.okWide_struct Tryz.underlying23 hval
 rw [cellsE] at hsz
 obtain ⟨l⟩:=cs
 match l,hsz with
 | [c0,c1],_ =>
 obtain ⟨fuel,hf⟩:=hd
 obtain ⟨y0,y1,m,hx,_,hy0,hy1⟩:=Go.ChangeShapes.trod_struct2 Tryz.underlying23 hf
 obtain ⟨a,e0,rfl,wa⟩:=DataW.trod_int Tryz.underlying2 hy0
 obtain ⟨b,e1,rfl,wb⟩:=DataW.trod_int Tryz.underlying2 hy1
 simp [Value.cells,cellsI] at e0 e1
 subst e0 e1
 simp only [Prod.mk.injEq] at hx
 exact ⟨a,b,rfl,hx.1,by simpa using hx.2,wa,wb⟩
set_option maxRecDepth 20000 in
theorem shut_E {x y:Int} (wa:(Lit.int .i64 x).wf=true) (wb:(Lit.int .i64 y).wf=true):DataW.Trod enc Tryz.prog w base sp held 23 (.agg #[.int .i64 x,.int .i64 y]) (.agg [.lit (.int .i64 x),.lit (.int .i64 y)]) []:=⟨2,by
 have f0:DataW.trod enc Tryz.prog w base sp held 1 2 [.int .i64 x]=some (.lit (.int .i64 x),[]):=by simp [DataW.trod,Tryz.underlying2,wa]
 have f1:DataW.trod enc Tryz.prog w base sp held 1 2 [.int .i64 y]=some (.lit (.int .i64 y),[]):=by simp [DataW.trod,Tryz.underlying2,wb]
 have:=Go.ChangeShapes.trod_struct2_mk (enc:=enc) (w:=w) (base:=base) (spare:=sp) (held:=held) (n:=1) (cs:=[.int .i64 x,.int .i64 y]) Tryz.underlying23 (by simp [cellsE]) (by simpa [cellsI] using f0) (by simpa [cellsI] using f1)
 simpa [Value.cells] using this⟩
end
theorem gDigsType:(Tryz.prog.globals[2]?).map (·.type)=some 215:=by kernel_rfl
theorem cellsDigs:Tryz.prog.cellsOf 215=7:=by kernel_rfl
theorem cellsInt:Tryz.prog.cellsOf 3=1:=by kernel_rfl
theorem cellsCell:Tryz.prog.cellsOf 25=3:=by kernel_rfl
theorem digs_of_laid {H:Type} {enc:TypeId × Value→H} {w:World} {base:Nat} {sp:Nat→Bool} {held:Bool} {fuel:Nat} {cs:List Value} {p:List MemPlace}
 (h:DataW.trod enc Tryz.prog w base sp held fuel 215 cs=some (Rows.laid_apiary_cell_digits,p)):cs.toArray=digCells:=by
 have:=Lib.cells_of_tab (zs:=[0,1,5,6,3,2,4]) Tryz.underlying215 Tryz.underlying3 cellsInt cellsDigs h
 rw [this];rfl
theorem tabs_of_row {W:World} (h:laidMet Tryz.prog [("apiary/eisen.units",Rows.laid_apiary_eisen_units),("apiary/cell.digits",Rows.laid_apiary_cell_digits)] W):Tabs W:=by
 refine ⟨?_,uni_of_row h⟩
 obtain ⟨ps,⟨-,-,-,-,-,q,-,-,-,-,hr,-⟩,-⟩:=h
 obtain ⟨g',t',cs,fuel,p,q',hg',ht',hvar,hd,_,_⟩:=hr
 obtain rfl:=Option.some.inj (gDigs.symm.trans hg')
 obtain rfl:=Option.some.inj (gDigsType.symm.trans ht')
 unfold Digs
 rw [hvar,← digs_of_laid hd]
section
variable {H:Type} {enc:TypeId × Value→H} {w:World} {base:Nat} {sp:Nat→Bool} {held:Bool}
set_option maxRecDepth 20000 in
theorem open_Cell {r:Reach} {b0:Nat} {v:Value} {d:DataW H} {ps:List MemPlace} (hval:Value.okWide Tryz.prog w r b0 25 v) (hd:DataW.Trod enc Tryz.prog w base sp held 25 v d ps) :
 ∃ x y z,v=.agg #[.int .i64 x,.int .i64 y,.int .i64 z]∧d=.agg [.lit (.int .i64 x),.agg [.lit (.int .i64 y),.lit (.int .i64 z)]]∧ps=[]∧(Lit.int .i64 x).wf=true∧(Lit.int .i64 y).wf=true∧(Lit.int .i64 z).wf=true:=by
 obtain ⟨cs,rfl,hsz⟩:=Go.WideShapes.okWide_struct Tryz.underlying25 hval
 rw [cellsCell] at hsz
 obtain ⟨l⟩:=cs
 match l,hsz with
 | [c0,c1,c2],_ =>
 obtain ⟨fuel,hf⟩:=hd
 obtain ⟨y0,y1,m,hx,_,hy0,hy1⟩:=Go.ChangeShapes.trod_struct2 Tryz.underlying25 hf
 obtain ⟨a,e0,rfl,wa⟩:=DataW.trod_int Tryz.underlying3 hy0
 obtain ⟨z0,z1,m',hx',_,hz0,hz1⟩:=Go.ChangeShapes.trod_struct2 Tryz.underlying23 hy1
 obtain ⟨b,e1,rfl,wb⟩:=DataW.trod_int Tryz.underlying2 hz0
 obtain ⟨c,e2,rfl,wc⟩:=DataW.trod_int Tryz.underlying2 hz1
 simp [Value.cells,cellsI,cellsInt,cellsE] at e0 e1 e2
 subst e0 e1 e2
 subst hx'
 simp only [Prod.mk.injEq] at hx
 exact ⟨a,b,c,rfl,hx.1,by simpa using hx.2,wa,wb,wc⟩
set_option maxRecDepth 20000 in
theorem shut_Cell {x y z:Int} (wa:(Lit.int .i64 x).wf=true) (wb:(Lit.int .i64 y).wf=true) (wc:(Lit.int .i64 z).wf=true):DataW.Trod enc Tryz.prog w base sp held 25 (.agg #[.int .i64 x,.int .i64 y,.int .i64 z]) (.agg [.lit (.int .i64 x),.agg [.lit (.int .i64 y),.lit (.int .i64 z)]]) []:=⟨3,by
 have f0:DataW.trod enc Tryz.prog w base sp held 2 3 [.int .i64 x]=some (.lit (.int .i64 x),[]):=by simp [DataW.trod,Tryz.underlying3,wa]
 have f1:DataW.trod enc Tryz.prog w base sp held 1 2 [.int .i64 y]=some (.lit (.int .i64 y),[]):=by simp [DataW.trod,Tryz.underlying2,wb]
 have f2:DataW.trod enc Tryz.prog w base sp held 1 2 [.int .i64 z]=some (.lit (.int .i64 z),[]):=by simp [DataW.trod,Tryz.underlying2,wc]
 have hE:=Go.ChangeShapes.trod_struct2_mk (enc:=enc) (w:=w) (base:=base) (spare:=sp) (held:=held) (n:=1) (cs:=[.int .i64 y,.int .i64 z]) Tryz.underlying23 (by simp [cellsE]) (by simpa [cellsI] using f1) (by simpa [cellsI] using f2)
 have:=Go.ChangeShapes.trod_struct2_mk (enc:=enc) (w:=w) (base:=base) (spare:=sp) (held:=held) (n:=2) (cs:=[.int .i64 x,.int .i64 y,.int .i64 z]) Tryz.underlying25 (by simp [cellsCell]) (by simpa [cellsInt] using f0) (by simpa [cellsE] using hE)
 simpa [Value.cells] using this⟩
end
def Cov3 (w:World):Prop:=Tabs w∧Ways w
theorem Cov3.below {w w':World} (h:Cov3 w) (hb:Below w.heap.size w w'):Cov3 w':=⟨h.1.below hb,h.2.below hb⟩
theorem gWaysType:(Tryz.prog.globals[1]?).map (·.type)=some 123:=by kernel_rfl
theorem cellsWays:Tryz.prog.cellsOf 123=12:=by kernel_rfl
set_option maxRecDepth 20000 in
theorem ways_of_laid {H:Type} {enc:TypeId × Value→H} {w:World} {base:Nat} {sp:Nat→Bool} {held:Bool} {fuel:Nat} {cs:List Value} {p:List MemPlace}
 (h:DataW.trod enc Tryz.prog w base sp held fuel 123 cs=some (Rows.laid_apiary_plane_ways,p)):cs.toArray=wayCells:=by
 have hl:cs.length=12:=by
  cases fuel with
  | zero=>simp [DataW.trod] at h
  | succ fuel =>
   simp only [DataW.trod,Tryz.underlying123,cellsWays,cellsE] at h
   split at h
   · rename_i hl;exact hl
   · cases h
 match cs,hl with
 | [c0,c1,c2,c3,c4,c5,c6,c7,c8,c9,c10,c11],_ =>
 obtain ⟨f0,d0,q0,h0,t0⟩:=Lib.array_elem Tryz.underlying123 h 0 (by omega)
 rw [cellsE] at t0
 obtain rfl:(.agg ([(1:Int),1].map fun z=>.lit (.int .i64 z)))=d0:=Option.some.inj h0
 have e0:=Lib.ints_of_struct Tryz.underlying23 (fieldsE Tryz.underlying23).1 (by rw [cellsE];rfl) t0
 simp at e0
 obtain ⟨f1,d1,q1,h1,t1⟩:=Lib.array_elem Tryz.underlying123 h 1 (by omega)
 rw [cellsE] at t1
 obtain rfl:(.agg ([((-1):Int),2].map fun z=>.lit (.int .i64 z)))=d1:=Option.some.inj h1
 have e1:=Lib.ints_of_struct Tryz.underlying23 (fieldsE Tryz.underlying23).1 (by rw [cellsE];rfl) t1
 simp at e1
 obtain ⟨f2,d2,q2,h2,t2⟩:=Lib.array_elem Tryz.underlying123 h 2 (by omega)
 rw [cellsE] at t2
 obtain rfl:(.agg ([((-2):Int),1].map fun z=>.lit (.int .i64 z)))=d2:=Option.some.inj h2
 have e2:=Lib.ints_of_struct Tryz.underlying23 (fieldsE Tryz.underlying23).1 (by rw [cellsE];rfl) t2
 simp at e2
 obtain ⟨f3,d3,q3,h3,t3⟩:=Lib.array_elem Tryz.underlying123 h 3 (by omega)
 rw [cellsE] at t3
 obtain rfl:(.agg ([((-1):Int),(-1)].map fun z=>.lit (.int .i64 z)))=d3:=Option.some.inj h3
 have e3:=Lib.ints_of_struct Tryz.underlying23 (fieldsE Tryz.underlying23).1 (by rw [cellsE];rfl) t3
 simp at e3
 obtain ⟨f4,d4,q4,h4,t4⟩:=Lib.array_elem Tryz.underlying123 h 4 (by omega)
 rw [cellsE] at t4
 obtain rfl:(.agg ([(1:Int),(-2)].map fun z=>.lit (.int .i64 z)))=d4:=Option.some.inj h4
 have e4:=Lib.ints_of_struct Tryz.underlying23 (fieldsE Tryz.underlying23).1 (by rw [cellsE];rfl) t4
 simp at e4
 obtain ⟨f5,d5,q5,h5,t5⟩:=Lib.array_elem Tryz.underlying123 h 5 (by omega)
 rw [cellsE] at t5
 obtain rfl:(.agg ([(2:Int),(-1)].map fun z=>.lit (.int .i64 z)))=d5:=Option.some.inj h5
 have e5:=Lib.ints_of_struct Tryz.underlying23 (fieldsE Tryz.underlying23).1 (by rw [cellsE];rfl) t5
 simp at e5
 obtain ⟨rfl,rfl⟩:=e0
 obtain ⟨rfl,rfl⟩:=e1
 obtain ⟨rfl,rfl⟩:=e2
 obtain ⟨rfl,rfl⟩:=e3
 obtain ⟨rfl,rfl⟩:=e4
 obtain ⟨rfl,rfl⟩:=e5
 rfl
theorem cov_of_row {W:World} {l:List (String × DataW Unit)} (h:laidMet Tryz.prog l W) (h1:("apiary/eisen.units",Rows.laid_apiary_eisen_units)∈l) (h2:("apiary/cell.digits",Rows.laid_apiary_cell_digits)∈l) (h3:("apiary/plane.ways",Rows.laid_apiary_plane_ways)∈l):Cov3 W:=by
 refine ⟨⟨?_,?_⟩,?_⟩
 · obtain ⟨g',t',cs,fuel,p,hg',ht',hvar,hd⟩:=Lib.laidMet.reads h h2
   obtain rfl:=Option.some.inj (gDigs.symm.trans hg')
   obtain rfl:=Option.some.inj (gDigsType.symm.trans ht')
   unfold Digs
   rw [hvar,← digs_of_laid hd]
 · obtain ⟨g',t',cs,fuel,p,hg',ht',hvar,hd⟩:=Lib.laidMet.reads h h1
   obtain rfl:=Option.some.inj (gUni.symm.trans hg')
   obtain rfl:=Option.some.inj (gUniType.symm.trans ht')
   unfold Uni
   rw [hvar,← uni_of_laid hd]
 · obtain ⟨g',t',cs,fuel,p,hg',ht',hvar,hd⟩:=Lib.laidMet.reads h h3
   obtain rfl:=Option.some.inj (gWays.symm.trans hg')
   obtain rfl:=Option.some.inj (gWaysType.symm.trans ht')
   unfold Ways
   rw [hvar,← ways_of_laid hd]
set_option maxHeartbeats 8000000 in
set_option maxRecDepth 20000 in
theorem rset_all (X:List Int) (n:Nat) (hX:X.length=n) (hn:n≤20000) (hDX:∀ x∈X,U64 x) (gl cap:Nat) (w:World)
 (hl:∀ (j:Nat) (hj:j < X.length),w.cell? ⟨gl,j,none⟩=some (.int .u64 X[j])) :
 Calls Tryz.prog 55 #[.slice (some ⟨gl,0,none⟩) n cap] w fun e w'=>(∃ (v:Value) (L:List Int),e=.returned v∧Rising L∧(∀ x,x∈L↔x∈X)∧L.length≤n∧w'.ownsRow w.heap.size 31 1 v L.length (vals L))∧Below w.heap.size w w':=by
 replace hl:Hid _:=hl
 replace hDX:Hid _:=hDX
 have hX0:Hid _:=hX
 clear hX
 obtain ⟨i0,hi,hz0,hz1,hz2⟩:=info_parts infoU64
 go_enter Tryz.func55,Tryz.ntmps55
 go_wp2_with fail
 go_loopw [3,4] (fun v3 v4 wr=>∃ (k m:Nat) (L:List Int),k≤n∧v4=.int .i64 (k:Int)∧Hid (m≤k∧L.length=m∧Rising L∧∀ x,x∈L↔x∈X.take k)∧Hid (wr.ownsRow w.heap.size 31 1 v3 m (vals L))∧Below w.heap.size w wr) (fun _ v4 _=>n - (intOf v4).toNat)
 case atStart=>exact ⟨0,0,[],by omega,rfl,hidd ⟨by omega,rfl,List.Pairwise.nil,fun x=>by simp⟩,World.ownsRow_nil _ _ _ _,by go_grown⟩
 case round =>
  obtain ⟨k,m,L,hk,rfl,hM,hO,hB⟩:=hrel
  obtain ⟨wO,rfl⟩:∃ z,z=wr:=⟨_,rfl⟩
  obtain ⟨p,c,rfl,hp⟩:=own_slice hO.out
  replace hp:Hid _:=hp
  have hmk:=hM.out.1
  have hm2:m≤20000:=by omega
  by_cases hlt:k < n
  · have hxk:k < X.length:=by rw [hX0.out];exact hlt
    have hDx:Hid (U64 X[k]):=hDX.out _ (List.getElem_mem hxk)
    have hTK:Hid (X.take (k+1)=X.take k++[X[k]]):=hidd (take_next hxk)
    have hgl:gl < w.heap.size:=World.block_lt_of_cell? _ _ (hl.out k hxk)
    have c0:=keepLow hB (hl.out k hxk) hgl
    have hlk:Hid (w.cell? ⟨gl,k,none⟩=some (.int .u64 X[k])):=hl.out k hxk
    have hxu:=hDx.out
    generalize X[k]=x at *
    obtain ⟨x0,x1⟩:=hxu
    have hO2:=hO
    have hB2:=hB
    go_wp2_with fail
    go_loopw [5,6] (fun v5 v6 w2=>∃ lo hi:Nat,lo≤hi∧hi≤m∧v5=.int .i64 (lo:Int)∧v6=.int .i64 (hi:Int)∧Below wO.heap.size wO w2∧Hid (Seek L x lo hi)) (fun v5 v6 _=>(intOf v6 - intOf v5).toNat)
    case atStart=>exact ⟨0,m,by omega,by omega,rfl,rfl,Below.refl _ _,hidd ⟨fun t ht hl=>by omega,fun t ht hl=>by have:=hM.out.2.1;omega⟩⟩
    case round =>
     obtain ⟨lo,hi',h1,h2,rfl,rfl,hb2,hSK⟩:=hrel
     by_cases hlh:lo < hi'
     · obtain ⟨mid,hmid⟩:∃ mid,(lo+hi') / 2=mid:=⟨_,rfl⟩
       have m1:lo≤mid:=by omega
       have m2:mid < hi':=by omega
       have m3:mid < m:=by omega
       have em:((lo:Int)+(hi':Int)).tdiv 2=(mid:Int):=by rw [Int.tdiv_eq_ediv_of_nonneg (by omega)];omega
       clear hmid
       obtain ⟨g,rfl⟩:=own_some hp.out (by omega)
       have hmL:mid < L.length:=by rw [hM.out.2.1];exact m3
       have cy:=(own_keep hb2 hO.out).cellAt mid (by omega)
       rw [vals_at L mid hmL] at cy
       have cx:=keepCell hb2 c0
       have hyu:=hDX.out _ (List.mem_of_mem_take ((hM.out.2.2.2 _).1 (List.getElem_mem hmL)))
       have hUp:=hidd (fun h=>hSK.out.up hM.out.2.2.1 hmL h)
       have hDn:=hidd (fun h=>hSK.out.down hM.out.2.2.1 hmL h)
       generalize L[mid]=y at *
       obtain ⟨y0,y1⟩:=hyu
       have hlh':(lo:Int) < (hi':Int):=by omega
       clear hxk hmL
       have hq:y < x∨decide (y < x)=false:=by simp only [decide_eq_false_iff_not];omega
       rcases hq with hq | hq
       · go_wp2_with fail
         go_quiet (fail)
         go_wp2
         go_roundw
         case rel=>exact ⟨mid+1,hi',by omega,by omega,by go_num,rfl,hb2.trans ⟨rfl,rfl,rfl,Nat.le_refl _,fun _ _=>rfl⟩,hidd (hUp.out hq)⟩
         case measure=>simp [intOf];omega
       · go_wp2_with fail
         go_quiet (fail)
         go_wp2
         go_roundw
         case rel=>exact ⟨lo,mid,by omega,by omega,rfl,rfl,hb2.trans ⟨rfl,rfl,rfl,Nat.le_refl _,fun _ _=>rfl⟩,hidd (hDn.out (by simpa using hq))⟩
         case measure=>simp [intOf];omega
     · obtain rfl:lo=hi':=by omega
       have hlh':decide ((lo:Int) < (lo:Int))=false:=by simp
       have cx:=keepCell hb2 c0
       have hOc:Hid (wr.ownsRow w.heap.size 31 1 (.slice p m c) m (vals L)):=own_keep hb2 hO.out
       have hBc:=hB.trans (hb2.mono hB.size)
       have hcase:((lo:Int) < (m:Int)∧Hid (x∈L)∧∃ g,p=some ⟨g,0,none⟩∧wr.cell? ⟨g,lo,none⟩=some (.int .u64 x))∨((lo:Int) < (m:Int)∧Hid (∀ (t:Nat) (ht:t < L.length),lo≤t→x < L[t])∧∃ g,p=some ⟨g,0,none⟩∧∃ y,wr.cell? ⟨g,lo,none⟩=some (.int .u64 y)∧(y == x)=false)∨(Hid (∀ (t:Nat) (ht:t < L.length),lo≤t→x < L[t])∧decide (lo < m)=false):=by
        by_cases h:lo < m
        · obtain ⟨g,rfl⟩:=own_some hp.out (by omega)
          have hmL:lo < L.length:=by rw [hM.out.2.1];exact h
          have cy:=hOc.out.cellAt lo (by omega)
          rw [vals_at L lo hmL] at cy
          by_cases hxy:L[lo]=x
          · exact .inl ⟨by omega,hidd (hxy ▸ List.getElem_mem hmL),g,rfl,by rw [cy,hxy]⟩
          · refine .inr (.inl ⟨by omega,hidd fun t ht hl=>?_,g,rfl,_,cy,by simpa using hxy⟩)
            have h3:=hSK.out.2 lo hmL (Nat.le_refl _)
            have h4:=rise_le hM.out.2.2.1 hmL ht hl
            omega
        · exact .inr (.inr ⟨hidd fun t ht hl=>by have:=hM.out.2.1;omega,decide_eq_false h⟩)
       clear hO2 hB2 hxk
       have hLow:=hidd hSK.out.1
       clear hSK
       rcases hcase with ⟨hlm,hxL,g,rfl,cy⟩ | ⟨hlm,hHi,g,rfl,y,cy,hxy⟩ | ⟨hHi,hlm⟩
       · have hm0:0 < m:=by omega
         go_wp2_with fail
         go_quiet (fail)
         have dq:Below wr.heap.size wr (wr.drewN nq):=⟨rfl,rfl,rfl,Nat.le_refl _,fun _ _=>rfl⟩
         generalize wr.drewN nq=wq at *
         have hOq:Hid (wq.ownsRow w.heap.size 31 1 (.slice (some ⟨g,0,none⟩) m c) m (vals L)):=own_keep dq hOc.out
         have hBq:=hBc.trans (dq.mono hBc.size)
         go_wp2
         go_roundw
         case rel =>
          refine ⟨k+1,m,L,by omega,by go_num,hidd ⟨by omega,hM.out.2.1,hM.out.2.2.1,fun y=>?_⟩,hOq,hBq⟩
          rw [hTK.out,List.mem_append,List.mem_singleton,← hM.out.2.2.2 y]
          constructor
          · exact fun h=>.inl h
          · rintro (h | rfl)
            · exact h
            · exact hxL.out
         case measure=>simp [intOf];omega
       all_goals
        go_wp2_with fail
        go_quiet (fail)
        have dq:Below wr.heap.size wr (wr.drewN nq):=⟨rfl,rfl,rfl,Nat.le_refl _,fun _ _=>rfl⟩
        generalize wr.drewN nq=wq at *
        have hOq:=hidd (own_keep dq hOc.out)
        have hBq:=hBc.trans (dq.mono hBc.size)
        have cxq:=keepCell dq cx
        have hBqs:=hBq.size
        have hqs:=dq.size
        have hBcs:=hBc.size
        go_wp2_with (at_builtin;refine wpList_append_own _ rfl (.tmp 50) (.tmp 51) 34 rfl w.heap.size 31 i0 (.int .u64 0) 1 8 Tryz.underlying34 hi hz0 hz1 hz2 rfl (by decide) _ _ _ rfl (own_keep (allocB _ _) hOq.out) ⟨wq.heap.size,0,none⟩ 1 1 [.int .u64 0] rfl rfl (one_lies _ _ rfl _ _) (one_int _ _) (by unfold maxLen;omega) (by omega) (by simp;omega) ?_)
        intro v' w5 hown hgrow _
        have hB5:=(hBq.alloc hBqs (.cells #[.int .u64 0] 31)).grown hgrow (by simp;omega) (own_block hOq.out)
        have cx5:=hidd (keepLow hB5 hlk.out hgl)
        clear hOq hBq cxq dq hgrow cx hOc hBc hb2 c0 hB hO hp hBqs hqs hBcs
        obtain ⟨g',c',rfl⟩:=own_shape hown (by omega)
        obtain ⟨hlen,hown2⟩:=hown
        rcases hown2 with ⟨h,_⟩ | ⟨g2,c2,cur,h,hbg,hg2,hnc,hcm,hcs,htake⟩
        · cases h
        simp only [Value.slice.injEq,Option.some.injEq,Addr.mk.injEq,and_true,true_and] at h
        obtain ⟨rfl,rfl⟩:=h
        have hloL:lo≤L.length:=by rw [hM.out.2.1];exact h2
        have hIN:=hidd (ins_facts hM.out.2.2.1 hloL hLow.out hHi.out)
        have hcl:cur.toList.length=c':=by simpa using hcs
        have htk:cur.toList.take (m+1)=vals L++[.int .u64 0]:=by simpa using htake
        have hcsl:((vals L).drop lo).length=m - lo:=by rw [List.length_drop,vals_len,hM.out.2.1]
        replace hM:Hid _:=hM
        obtain ⟨CS,eCS⟩:∃ CS,(vals L).drop lo=CS:=⟨_,rfl⟩
        have hsrc:∀ j v,CS[j]?=some v→w5.cell? ((⟨g',lo,none⟩:Addr).add j)=some v:=by
         intro j v hj
         have hjl:j < CS.length:=by rw [List.getElem?_eq_some_iff] at hj;exact hj.1
         rw [← eCS,hcsl] at hjl
         rw [show (⟨g',lo,none⟩:Addr).add j=⟨g',lo+j,none⟩ by simp [Addr.add],cell_of_row w5 g' (lo+j) cur 31 (0,0) hg2,← Array.getElem?_toList]
         have e1:(cur.toList.take (m+1))[lo+j]?=cur.toList[lo+j]?:=by rw [List.getElem?_take,if_pos (by omega)]
         rw [← e1,htk,List.getElem?_append_left (by rw [vals_len,hM.out.2.1];omega),← hj,← eCS,List.getElem?_drop]
        rw [eCS] at hcsl
        have hone:∀ v∈CS,v.oneCell'=true:=by
         intro v hv
         rw [← eCS] at hv
         have:=List.mem_of_mem_drop hv
         unfold vals at this
         obtain ⟨y,_,rfl⟩:=List.mem_map.1 this
         rfl
        replace hsrc:Hid _:=hsrc
        replace hone:Hid _:=hone
        replace htk:Hid _:=htk
        have eCS':Hid _:=eCS
        have hg5:w5.heap[g']?=some (.cells cur.toList.toArray 31 (0,0)):=by simpa using hg2
        replace hg5:Hid _:=hg5
        generalize cur.toList=CL at *
        have hmc:m+1≤c':=hnc
        clear htake hg2 eCS hlen hcs
        have hw1:IntKind.i64.wrap ((lo:Int)+1)=(lo:Int)+1:=by rw [IntKind.wrap_i64];omega
        have hw2:(0:Int)≤(lo:Int)+1:=by omega
        have hw3:(lo:Int)+1≤(m:Int)+1:=by omega
        have hw4:(lo:Int)≤(m:Int)+1:=by omega
        have hw5:lo≤m+1:=by omega
        have hw6:¬ c'=lo:=by omega
        have hw7:((lo:Int)+1).toNat=lo+1:=by omega
        have hinf:Hid ((Tryz.prog.info? 31).map (·.size)=some 1):=by show _=_;kernel_rfl
        have hn1:Hid (CS.length=Nat.min (m+1 - lo) (m - lo)):=by show _=min _ _;omega
        have hfit:Hid (lo+1+CS.length≤CL.length):=by show _≤_;omega
        by_cases hc1:c'=lo+1
        · first
           | (exfalso;omega)
           | (obtain rfl:=hc1
              obtain rfl:m=lo:=by omega
              have hn2:Hid (CS.length=Nat.min 1 0):=by show _=min _ _;omega
              have hw8:(m:Int)≤(m:Int)+1:=by omega
              go_wp2_with fail
              go_region_law (refine step_copy_splice rfl (.tmp 56) (.tmp 59) 34 34 rfl 31 Tryz.underlying34 hinf.out (some ⟨g',0,none⟩) (some ⟨g',m,none⟩) 0 0 1 1 (by simp [Act.eval,Act.put]) (by simp [Act.eval,Act.put]) g' (m+1) CL 31 hg5.out CS hn2.out (fun hp0=>by exfalso;omega) hfit.out hone.out w.heap.size w hB5.drew hbg ?_;intro w6 hg6 hB6)
              have hspl:(splice CL (m+1) CS).length=(m+1):=by rw [length_splice _ _ _ hfit.out];exact hcl
              have own6:w6.ownsRow w.heap.size 31 1 (.slice (some ⟨g',0,none⟩) (m+1) (m+1)) (m+1) ((splice CL (m+1) CS).take (m+1)) :=
               ⟨by rw [List.length_take,hspl];omega,.inr ⟨g',(m+1),(splice CL (m+1) CS).toArray,rfl,hbg,hg6.out,hnc,hcm,by simp [hspl],by simp⟩⟩
              have own7:=(own6.stored m (.int .u64 x)).1
              rw [← eCS'.out,set_row hM.out.2.1 h2 htk.out] at own7
              obtain ⟨z,hz⟩:∃ z,w6.cell? ⟨g',m,none⟩=some z:=by
               rw [own6.cellAt m (by omega),List.getElem?_eq_getElem (by rw [List.length_take,hspl];omega)]
               exact ⟨_,rfl⟩
              have hfz:=own6.frozenAt m
              have cx6:w6.cell? ⟨gl,k,none⟩=some (.int .u64 x):=keepLow hB6 hlk.out hgl
              have hL':(L.take m++(x :: L.drop m)).length=m+1∧Rising (L.take m++(x :: L.drop m))∧∀ y,y∈L.take m++(x :: L.drop m)↔y∈X.take (k+1):=by
               refine ⟨by simp [hM.out.2.1] <;>omega,hIN.out.1,fun y=>?_⟩
               rw [hIN.out.2 y,hTK.out,List.mem_append,List.mem_singleton,hM.out.2.2.2 y]
              have hB7:=hB6.setCell (p:=⟨g',m,none⟩) (by simpa using hbg) (.int .u64 x)
              replace own7:=hidd own7
              replace hL':=hidd hL'
              replace hB7:=hidd hB7
              clear own6 hspl hg6 hsrc hone htk eCS' hg5 cx5 hl hlk hfit hn1 hinf hcsl
              go_wp2
              go_roundw
              case rel=>exact ⟨k+1,m+1,_,by omega,by go_num,hidd ⟨by omega,hL'.out⟩,own7,hB7.out⟩
              case measure=>simp [intOf];omega)
        · go_wp2_with fail
          go_region_law (refine step_copy_splice rfl (.tmp 56) (.tmp 59) 34 34 rfl 31 Tryz.underlying34 hinf.out (some ⟨g',lo+1,none⟩) (some ⟨g',lo,none⟩) (m - lo) (c' - (lo+1)) (m+1 - lo) (c' - lo) (by simp [Act.eval,Act.put]) (by simp [Act.eval,Act.put]) g' (lo+1) CL 31 hg5.out CS hn1.out (fun _=>⟨rfl,_,rfl,hsrc.out⟩) hfit.out hone.out w.heap.size w hB5.drew hbg ?_;intro w6 hg6 hB6)
          have hspl:(splice CL (lo+1) CS).length=c':=by rw [length_splice _ _ _ hfit.out];exact hcl
          have own6:w6.ownsRow w.heap.size 31 1 (.slice (some ⟨g',0,none⟩) (m+1) c') (m+1) ((splice CL (lo+1) CS).take (m+1)) :=
           ⟨by rw [List.length_take,hspl];omega,.inr ⟨g',c',(splice CL (lo+1) CS).toArray,rfl,hbg,hg6.out,hnc,hcm,by simp [hspl],by simp⟩⟩
          have own7:=(own6.stored lo (.int .u64 x)).1
          rw [← eCS'.out,set_row hM.out.2.1 h2 htk.out] at own7
          obtain ⟨z,hz⟩:∃ z,w6.cell? ⟨g',lo,none⟩=some z:=by
           rw [own6.cellAt lo (by omega),List.getElem?_eq_getElem (by rw [List.length_take,hspl];omega)]
           exact ⟨_,rfl⟩
          have hfz:=own6.frozenAt lo
          have cx6:w6.cell? ⟨gl,k,none⟩=some (.int .u64 x):=keepLow hB6 hlk.out hgl
          have hL':(L.take lo++(x :: L.drop lo)).length=m+1∧Rising (L.take lo++(x :: L.drop lo))∧∀ y,y∈L.take lo++(x :: L.drop lo)↔y∈X.take (k+1):=by
           refine ⟨by simp [hM.out.2.1] <;>omega,hIN.out.1,fun y=>?_⟩
           rw [hIN.out.2 y,hTK.out,List.mem_append,List.mem_singleton,hM.out.2.2.2 y]
          have hB7:=hB6.setCell (p:=⟨g',lo,none⟩) (by simpa using hbg) (.int .u64 x)
          replace own7:=hidd own7
          replace hL':=hidd hL'
          replace hB7:=hidd hB7
          clear own6 hspl hg6 hsrc hone htk eCS' hg5 cx5 hl hlk hfit hn1 hinf hcsl
          go_wp2
          go_roundw
          case rel=>exact ⟨k+1,m+1,_,by omega,by go_num,hidd ⟨by omega,hL'.out⟩,own7,hB7.out⟩
          case measure=>simp [intOf];omega
  · obtain rfl:k=n:=by omega
    have hfin:Hid (Rising L∧(∀ y,y∈L↔y∈X)∧L.length≤k∧wO.ownsRow w.heap.size 31 1 (.slice p m c) L.length (vals L)):=by
     refine hidd ⟨hM.out.2.2.1,fun y=>?_,by rw [hM.out.2.1];omega,by rw [hM.out.2.1];exact hO.out⟩
     rw [hM.out.2.2.2 y,List.take_of_length_le (by rw [hX0.out];omega)]
    clear hl hM hO
    go_wp2
    go_ret
    exact ⟨⟨_,L,rfl,hfin.out⟩,hB⟩
end Go.Proofs.YtdklpgphmoaniaaGreatDoor
