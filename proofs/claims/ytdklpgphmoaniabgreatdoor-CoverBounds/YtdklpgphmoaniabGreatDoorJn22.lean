/-
  A range over a function that goes through states which the round's body changes, too (a heap that is put into while it is gone through).
-/
import Derived.Shelf.RegionOpen
import Derived.Test.YtdklpgphmoaniabGreatDoorJn21
namespace Go.Proofs.YtdklpgphmoaniabGreatDoor
section
open Go.RowKit Go
def Two2 (k:Nat) (W W':World):Prop:=∀ i,i=k∨i=k+1→W'.heap[i]?=W.heap[i]?
theorem Two2.trans {k:Nat} {X Y Z:World} (h:Two2 k X Y) (h':Two2 k Y Z):Two2 k X Z:=fun i hi=>(h' i hi).trans (h i hi)
def rsPost {σ:Type} (k:Nat) (I:σ→World→Prop) (lt:σ→Prop) (Ix:Code→World→Prop) (W:World):Exit→Act→World→Prop
 | .normal,_,W'=>Two2 k W W'∧∃ s',lt s'∧I s' W'
 | .ret,_,W'=>Two2 k W W'∧Ix .ret W'
 | .exit id,_,W'=>Two2 k W W'∧Ix (.exit id) W'
 | .goto t,_,W'=>Two2 k W W'∧Ix (.goto t) W'
 | .panic _,_,_=>False
 | .outgrown,_,_=>False
def SeqS {α σ:Type} (F:Fence) (n:Nat) (P:Program) (g:Nat) (pb lb:Array Value) (encs:α→Array Value) (Q:σ→World→Prop) (N:σ→α→World→World→Prop) (E:σ→Prop) (μ:σ→Nat):Prop :=
 ∀ (l:Nat) (J:σ→World→Prop) (Jx:World→Prop),(∀ s W,J s W→Q s W) →
  (∀ s x W W1,J s W→N s x W W1→YieldAt F (n - 1) P l (encs x) W1 fun e W'=>(e=.returned (.bool true)∧∃ s',μ s' < μ s∧J s' W')∨(e=.returned (.bool false)∧Jx W')) →
  ∀ s W,J s W→CallsIn F n P g (pb++#[.func (.yield l) #[] #[]]++lb) W fun e W'=>(∃ v,e=.returned v)∧((∃ s,E s∧J s W')∨Jx W')
theorem put_grown (W:World) (l:Nat) (o:Obj):W.grownBy (W.putObj l o) (some l):=grownBy_putObj' W l o
variable {F:Fence} {n:Nat} {P:Program}
theorem rf_state {α σ:Type} {g:Operand} {ps:Array Tmp} {assign body:Code} {Q:Exit→Act→World→Prop} {a:Act} {w:World}
 (hro:F.round=none) (h1:1≤n) {gf:Nat} {pb lb:Array Value} (hg:a.eval g=.func (.func gf) pb lb) (hFg:F.fn gf) (eg:∀ args w,(callFunc gf args).run P w=.ok (.enter gf args) w)
 {encs:α→Array Value} {R:σ→World→Prop} {N:σ→α→World→World→Prop} {E:σ→Prop} {μ:σ→Nat} (hseq:SeqS F (n - 1) P gf pb lb encs R N E μ) (hps:∀ x,(encs x).size=ps.size)
 (I:σ→World→Prop) (Ix:Code→World→Prop) (hIR:∀ s W,I s W→R s W) (hI:∀ s A C,I s A→A.grownBy C (some (w.heap.size+1))→w.heap.size+2≤A.heap.size→I s C) (hIx:∀ c A C,Ix c A→A.grownBy C (some (w.heap.size+1))→w.heap.size+2≤A.heap.size→Ix c C)
 (s0:σ) (h0:∀ W,Below w.heap.size w W→w.heap.size+2≤W.heap.size→I s0 W) (hN:∀ s x A C,I s A→N s x A C→w.heap.size+2≤A.heap.size→Two2 w.heap.size A C∧A.heap.size≤C.heap.size)
 (Ax:Nat→α→Act→World→Prop) (hAx:∀ m x a' A B,w.heap.size+2≤m→Ax m x a' A→A.grownBy B (some (w.heap.size+1))→Ax m x a' B)
 (hassign:∀ (l:Nat) (x:α) (W:World) (K:Act→World→Prop),w.heap.size+2≤W.heap.size→(∀ a' W',Ax W.heap.size x a' W'→Below W.heap.size W W'→K a' W') →
   assign.wpIn (F.inRound l) (n - 1 - 1) P (Exit.then K (fun _ _ _=>False)) { tmps:=(ps.zip (encs x)).foldl (fun t (p,v)=>t.setIfInBounds p v) a.tmps,defers:=[] } W)
 (hbody:∀ (l:Nat) (s:σ) (x:α) (a':Act) (A C X:World),I s A→w.heap.size+2≤A.heap.size→N s x A C→C.grownBy X (some (w.heap.size+1))→Ax C.heap.size x a' X→body.wpIn (F.inRound l) (n - 1 - 1) P (rsPost w.heap.size I (fun s'=>μ s' < μ s) Ix X) a' X)
 (hdone:∀ (s:σ) (W:World),E s→I s W→w.heap.size+2≤W.heap.size→W.heap[w.heap.size]?=some (.deferred (some []))→Q .normal { a with defers:={ target:=.collected w.heap.size,args:=#[] } :: a.defers } W)
 (hstop:∀ (c:Code) (W:World),Ix c W→w.heap.size+2≤W.heap.size→W.heap[w.heap.size]?=some (.deferred (some []))→c.wpIn F n P Q { a with defers:={ target:=.collected w.heap.size,args:=#[] } :: a.defers } W) :
 (Code.rangeFunc g ps assign body).wpIn F n P Q a w:=by
 apply wpIn_rangeFunc
 intro fn hfn
 rw [hro]
 obtain ⟨R',hR⟩:∃ R':LoopState→Option Code→Loop,R'=fun st pe=>{ state:=st,pending:=pe,fn,tmps:=a.tmps,params:=ps,assign,body,defers:=w.heap.size }:=⟨_,rfl⟩
 have hen:=run_enterLoop_outer (P:=P) (w:=w) fn a.tmps ps assign body
 rw [show ({ state:=.ready,pending:=none,fn,tmps:=a.tmps,params:=ps,assign,body,defers:=w.heap.size }:Loop)=R' .ready none by rw [hR]] at hen
 have hsz:((w.alloc (.deferred (some []))).alloc (.loop (R' .ready none))).heap.size=w.heap.size+2:=by simp
 have hl0:((w.alloc (.deferred (some []))).alloc (.loop (R' .ready none))).heap[w.heap.size+1]?=some (.loop (R' .ready none)):=by
  have:=World.alloc_heap_new (w.alloc (.deferred (some []))) (.loop (R' .ready none));rwa [World.size_alloc] at this
 have hk0:((w.alloc (.deferred (some []))).alloc (.loop (R' .ready none))).heap[w.heap.size]?=some (.deferred (some [])) :=
  (Below.heap_alloc _ _ _ (by simp)).trans (World.alloc_heap_new w _)
 have hB0:Below w.heap.size w ((w.alloc (.deferred (some []))).alloc (.loop (R' .ready none))):=((Below.refl _ w).alloc (Nat.le_refl _) _).alloc (by simp) _
 generalize (w.alloc (.deferred (some []))).alloc (.loop (R' .ready none))=W1 at hen hsz hl0 hk0 hB0
 have hI0:I s0 W1:=h0 _ hB0 (by omega)
 refine ⟨w.heap.size+1,_,W1,{ target:=.fn (.func gf) lb,args:=pb++#[.func (.yield (w.heap.size+1)) #[] #[]] },W1,gf,pb++#[.func (.yield (w.heap.size+1)) #[] #[]]++lb,W1,hen,?_,?_,?_,fun _=>h1,?_⟩
 · simp only [resolve,hg]
   simp [go_sem]
 · intro f' hf';simp [Target.leads] at hf';subst hf';exact hFg
 · simp [invoke,go_sem,eg]
 refine (hseq (w.heap.size+1)
  (fun s W=>I s W∧W.heap[w.heap.size+1]?=some (.loop (R' .ready none))∧W.heap[w.heap.size]?=some (.deferred (some [])))
  (fun W=>∃ c,Ix c W∧W.heap[w.heap.size+1]?=some (.loop (R' .done (some c)))∧W.heap[w.heap.size]?=some (.deferred (some [])))
  (fun s W h=>hIR s W h.1) ?round s0 W1 ⟨hI0,hl0,hk0⟩).mono ?behind
 case round =>
  rintro s x A C ⟨hi,hlA,hkA⟩ hNx
  have hsA:w.heap.size+2≤A.heap.size:=by have:=(Array.getElem?_eq_some_iff.1 hlA).1;omega
  have hT:=hN s x A C hi hNx hsA
  have hl:=(hT.1 (w.heap.size+1) (.inr rfl)).trans hlA
  have hk:=(hT.1 w.heap.size (.inl rfl)).trans hkA
  have hsC:w.heap.size+2≤C.heap.size:=by have:=hT.2;omega
  have hy:=run_yield (P:=P) (args:=encs x) hl (by rw [hR];exact hps x)
  rw [hR] at hy
  refine ⟨fn,_,assign,body,hy,roundIn_of_wpIn hfn (hassign _ x C _ hsC fun a' W hax hba=>?_)⟩
  replace hl:=(hba.block _ (by omega)).trans hl
  replace hk:=(hba.block _ (by omega)).trans hk
  refine ⟨_,run_beginRound hl (by rw [hR]),?_⟩
  have hg1:=put_grown W (w.heap.size+1) (.loop { R' .ready none with state:=.busy })
  have hsW:w.heap.size+2≤W.heap.size:=Nat.le_trans hsC hba.size
  have hl1:(W.putObj (w.heap.size+1) (.loop { R' .ready none with state:=.busy })).heap[w.heap.size+1]?=some (.loop { R' .ready none with state:=.busy }):=World.putObj_heap_same (by omega)
  have hk1:(W.putObj (w.heap.size+1) (.loop { R' .ready none with state:=.busy })).heap[w.heap.size]?=some (.deferred (some [])):=(World.putObj_heap_other (by omega)).trans hk
  have hsX:w.heap.size+2≤(W.putObj (w.heap.size+1) (.loop { R' .ready none with state:=.busy })).heap.size:=by simp;omega
  generalize W.putObj (w.heap.size+1) (.loop { R' .ready none with state:=.busy })=X at hg1 hl1 hk1 hsX ⊢
  have hcx:C.grownBy X (some (w.heap.size+1)):=⟨hg1.os.trans hba.os,hg1.tape.trans hba.tape,hg1.output.trans hba.output,Nat.le_trans hba.size hg1.size,fun i hi hne=>(hg1.block i (Nat.lt_of_lt_of_le hi hba.size) hne).trans (hba.block i hi)⟩
  refine wpIn_mono (hbody _ s x a' A C X hi hsA hNx hcx (hAx _ _ _ _ _ hsC hax hg1)) ?_
  have fin:∀ (j:Option Code) (Y:World),Two2 w.heap.size X Y →
   (Instr.endRound (w.heap.size+1) j).run P Y=.ok (.bool j.isNone) (Y.putObj (w.heap.size+1) (.loop (R' (if j.isNone then .ready else .done) j))) ∧
   Y.grownBy (Y.putObj (w.heap.size+1) (.loop (R' (if j.isNone then .ready else .done) j))) (some (w.heap.size+1))∧w.heap.size+2≤Y.heap.size ∧
   (Y.putObj (w.heap.size+1) (.loop (R' (if j.isNone then .ready else .done) j))).heap[w.heap.size+1]?=some (.loop (R' (if j.isNone then .ready else .done) j)) ∧
   (Y.putObj (w.heap.size+1) (.loop (R' (if j.isNone then .ready else .done) j))).heap[w.heap.size]?=some (.deferred (some [])):=by
   intro j Y hY
   have hlY:=(hY (w.heap.size+1) (.inr rfl)).trans hl1
   have hlt:w.heap.size+1 < Y.heap.size:=(Array.getElem?_eq_some_iff.1 hlY).1
   have hr:=run_endRound (P:=P) j hlY
   rw [hR] at hr ⊢
   exact ⟨hr,put_grown Y _ _,by omega,World.putObj_heap_same hlt,(World.putObj_heap_other (by omega)).trans ((hY w.heap.size (.inl rfl)).trans hk1)⟩
  rintro e a3 Y hp
  cases e with
  | normal =>
   obtain ⟨hTY,s',hlt,hiY⟩:=hp
   obtain ⟨hr,hb2,hs2,hl2,hk2⟩:=fin none Y hTY
   exact ⟨_,_,hr,.inl ⟨rfl,s',hlt,hI _ _ _ hiY hb2 hs2,hl2,hk2⟩⟩
  | ret =>
   obtain ⟨hTY,hiY⟩:=hp
   obtain ⟨hr,hb2,hs2,hl2,hk2⟩:=fin (some .ret) Y hTY
   exact ⟨_,_,hr,.inr ⟨rfl,.ret,hIx _ _ _ hiY hb2 hs2,hl2,hk2⟩⟩
  | exit id =>
   obtain ⟨hTY,hiY⟩:=hp
   obtain ⟨hr,hb2,hs2,hl2,hk2⟩:=fin (some (.exit id)) Y hTY
   exact ⟨_,_,hr,.inr ⟨rfl,.exit id,hIx _ _ _ hiY hb2 hs2,hl2,hk2⟩⟩
  | goto t =>
   obtain ⟨hTY,hiY⟩:=hp
   obtain ⟨hr,hb2,hs2,hl2,hk2⟩:=fin (some (.goto t)) Y hTY
   exact ⟨_,_,hr,.inr ⟨rfl,.goto t,hIx _ _ _ hiY hb2 hs2,hl2,hk2⟩⟩
  | panic ch=>exact hp.elim
  | outgrown=>exact hp.elim
 case behind =>
  rintro e Y ⟨⟨v,rfl⟩,(⟨s,hE,hi,hl,hk⟩ | ⟨c,hi,hl,hk⟩)⟩
  · have hlt:w.heap.size+1 < Y.heap.size:=(Array.getElem?_eq_some_iff.1 hl).1
    refine ⟨none,_,by have:=run_endLoop (P:=P) hl (by rw [hR];simp);rw [hR] at this;exact this,?_⟩
    exact hdone s _ hE (hI _ _ _ hi (put_grown Y _ _) (by omega)) (by simp;omega) ((World.putObj_heap_other (by omega)).trans hk)
  · have hlt:w.heap.size+1 < Y.heap.size:=(Array.getElem?_eq_some_iff.1 hl).1
    refine ⟨some c,_,by have:=run_endLoop (P:=P) hl (by rw [hR];simp);rw [hR] at this;exact this,?_⟩
    exact hstop c _ (hIx c _ _ hi (put_grown Y _ _) (by omega)) (by simp;omega) ((World.putObj_heap_other (by omega)).trans hk)
theorem mark_leaves {fn:Func} {tmps:Array Value} {S:Ending→World→Prop} {D:Nat} {W:World} (hd:W.heap[D]?=some (.deferred (some [])))
 (h0:LeavesInM F n P fn tmps S [] .returning (W.putObj D (.deferred none))):LeavesInM F n P fn tmps S [{ target:=.collected D,args:=#[] }] .returning W :=
 ⟨by simp,.inl ⟨D,_,rfl,run_takeDeferred hd,h0⟩⟩
end
end Go.Proofs.YtdklpgphmoaniabGreatDoor
namespace Go.Proofs.YtdklpgphmoaniabGreatDoor
open Go.RowKit Go
attribute [local go_sem] Oper.semAt_some
abbrev encQ (x:Int):Array Value:=#[.agg #[.int .i64 (sp1 x),.int .i64 (sp2 x)]]
def QHeap (base S:Nat) (v:Value) (H:List Int) (W:World):Prop:=HatQ W base S 7 v H∧Hp H.length H.toArray∧H.length≤400000
def QNext (base S:Nat) (v:Value) (H:List Int) (x:Int) (A C:World):Prop :=
 x∈H∧∃ (L':List Int) (v':Value),(∀ y∈L',y∈H∧y < x)∧(∀ y∈H,y=x∨y∈L')∧L'.length+1≤H.length∧Hp L'.length L'.toArray∧HatQ C base S 7 v' L'∧v'.ownBlock=v.ownBlock∧ButQ S 7 v.ownBlock A C
theorem least_mu {σ:Type} (J:σ→World→Prop) (μ:σ→Nat):∃ m:World→Nat,∀ W s,J s W→m W≤μ s∧∃ s',J s' W∧μ s'=m W:=by
 have key:∀ W,∃ k,∀ s,J s W→k≤μ s∧∃ s',J s' W∧μ s'=k:=fun W=>by
  by_cases h:∃ s,J s W
  · have low:∀ n,(∃ s,J s W∧μ s≤n)→∃ k,(∀ s,J s W→k≤μ s)∧∃ s',J s' W∧μ s'=k:=by
     intro n
     induction n with
     | zero =>
      rintro ⟨s,hs,h0⟩
      exact ⟨0,fun _ _=>Nat.zero_le _,s,hs,by omega⟩
     | succ n ih =>
      rintro ⟨s,hs,h0⟩
      by_cases c:∃ s,J s W∧μ s≤n
      · exact ih c
      · refine ⟨n+1,fun t ht=>?_,s,hs,?_⟩
        · by_cases k:μ t≤n
          · exact absurd ⟨t,ht,k⟩ c
          · omega
        · by_cases k:μ s≤n
          · exact absurd ⟨s,hs,k⟩ c
          · omega
    obtain ⟨s,hs⟩:=h
    obtain ⟨k,h1,h2⟩:=low (μ s) ⟨s,hs,Nat.le_refl _⟩
    exact ⟨k,fun t ht=>⟨h1 t ht,h2⟩⟩
  · exact ⟨0,fun s hs=>absurd ⟨s,hs⟩ h⟩
 exact Classical.axiomOfChoice key
theorem spot_z (a b c:Int) (w:World):(Instr.field 126 (.agg #[.int .i64 a,.int .i64 b,.int .i64 c]) 1).run Tryz.prog w=.ok (.agg #[.int .i64 b,.int .i64 c]) w:=by kernel_rfl
set_option maxRecDepth 100000 in
set_option maxHeartbeats 8000000 in
theorem numbers_seq {σ:Type} (base S:Nat) (hd:σ→List Int) (val:σ→Value) (μ:σ→Nat) :
 SeqS Fence.wide 2 Tryz.prog 47 #[.pointer (some ⟨S,7,none⟩)] #[] encQ (fun s W=>QHeap base S (val s) (hd s) W) (fun s x A C=>QNext base S (val s) (hd s) x A C) (fun s=>hd s=[]) μ:=by
 intro l J Jx hQ hY s0 W hJ
 obtain ⟨m,hm⟩:=least_mu J μ
 have HM:=hidd hm
 have HQ:=hidd hQ
 have HY:=hidd hY
 clear hm hQ hY
 refine callsIn_of_wp Tryz.func47 rfl trivial ?_ rfl
 simp only [Tryz.ntmps47,List.size_toArray,List.length_cons,List.length_nil,Nat.reduceAdd,Nat.reduceSub,Array.replicate_succ,Array.replicate_zero,List.push_toArray,List.append_toArray,List.nil_append,List.cons_append]
 gi_wp2
 gi_loopw [] (fun wr=>∃ s,Hid (J s wr)) (fun wr=>m wr)
 case atStart=>exact ⟨s0,hidd hJ⟩
 case round =>
  obtain ⟨s1,hs1⟩:=hrel
  obtain ⟨s,hJs,hμ⟩:=(HM.out _ _ hs1.out).2
  have hq:=HQ.out _ _ hJs
  obtain ⟨hH,hp,hlen⟩:=hq
  obtain ⟨p,c,ev⟩:=hH.any
  have hc:=hH.cell
  rw [ev] at hc
  have MU:=hidd hμ
  have HJ:=hidd hJs
  clear hs1 hJs hμ
  by_cases h0:(hd s).length=0
  · have hd0:hd s=[]:=List.length_eq_zero_iff.1 h0
    have HD:=hidd hd0
    rw [h0] at hc
    clear hH hp hlen ev h0 hd0
    gi_wp2
    go_end0
    exact ⟨⟨_,rfl⟩,.inl ⟨s,HD.out,HJ.out⟩⟩
  · obtain ⟨k,hk⟩:∃ k,(hd s).length=k+1:=⟨(hd s).length - 1,by omega⟩
    have hk':(0:Int) < ((k+1:Nat):Int):=by omega
    have hpk:Hp (k+1) (hd s).toArray:=by rw [← hk];exact hp
    have NX:=hidd (q_next base S 7 k (val s) (hd s) hk _ hH hpk (by omega))
    have HK:=hidd hk
    rw [hk] at hc
    clear hH hp hlen ev h0 hk hpk
    gi_wp2_with (first
     | (refine ⟨trivial,?_⟩
        gi_at_call 71
        refine (callsIn_wide.2 NX.out).mono ?_
        rintro e w2 ⟨x,L',v',rfl,hx,h1,h2,h3,h4,h5,h6,h7⟩
        have NN:=hidd (show QNext base S (val s) (hd s) x _ w2 from ⟨hx,L',v',h1,h2,(by have:=HK.out;omega),h4,h5,h6,h7⟩)
        clear hx h1 h2 h3 h4 h5 h6 h7 NX
        have FZ:=spot_z (sp0 x) (sp1 x) (sp2 x) w2
        obtain ⟨fn,tmps,assign,body,hy,hRR⟩:=HY.out s x _ w2 HJ.out NN.out)
     | fail)
    refine hRR.mono ?_
    rintro e W' (⟨rfl,s',hlt,hJ'⟩ | ⟨rfl,hX⟩)
    · have M1:=(HM.out W' s' hJ').1
      have M2:Hid (m W' < m wr):=hidd (by have:=MU.out;omega)
      have HJ2:=hidd hJ'
      clear hJ' hlt MU NN hRR hy M1
      gi_wp2
      go_roundw
      case rel=>exact ⟨s',HJ2⟩
      case measure=>exact M2.out
    · have HX:=hidd hX
      clear hX NN hRR hy
      gi_wp2
      refine bodyPost_ret (results_none rfl _ _ _) rfl ?_
      exact ⟨⟨_,rfl⟩,.inr HX.out⟩
end Go.Proofs.YtdklpgphmoaniabGreatDoor
namespace Go.Proofs.YtdklpgphmoaniabGreatDoor
open Go.RowKit
set_option maxHeartbeats 400000 in
theorem pplace_any (a b:Int) (a1: -9007199254740992≤a) (a2:a≤9007199254740992) (b1: -9007199254740992≤b) (b2:b≤9007199254740992) (w:World) :
 Calls Tryz.prog 80 #[.agg #[.int .i64 a,.int .i64 b]] w fun e w'=>e=.returned (.tuple #[.int .i64 (52*a+26*b),.int .i64 (45*b)])∧Below w.heap.size w w':=by
 go_enter Tryz.func80,Tryz.ntmps80
 go_wp2
 go_quiet (fail)
 go_wp2
 go_ret2
 exact ⟨rfl,belowN (by go_grown) _⟩
set_option maxHeartbeats 400000 in
theorem pwithin_yes (n:Int) (h1: -1073741824≤n) (h2:n≤1073741824) (w:World) :
 Calls Tryz.prog 79 #[.int .i64 n] w fun e w'=>e=.returned (.bool true)∧w'=w:=by
 go_enter Tryz.func79,Tryz.ntmps79
 go_wp2
 go_ret
 exact ⟨rfl,rfl⟩
def In30 (n:Int):Prop:= -1073741824≤n∧n≤1073741824
theorem four_stores {w:World} {b:Nat} {x0 x1 x2 x3 u0 u1 u2 u3:Value} (h0:w.cell? ⟨b,0,none⟩=some x0) (h1:w.cell? ⟨b,1,none⟩=some x1) (h2:w.cell? ⟨b,2,none⟩=some x2) (h3:w.cell? ⟨b,3,none⟩=some x3) :
 ((((w.setCell ⟨b,0,none⟩ u0).setCell ⟨b,1,none⟩ u1).setCell ⟨b,2,none⟩ u2).setCell ⟨b,3,none⟩ u3).cell? ⟨b,0,none⟩=some u0 ∧
 ((((w.setCell ⟨b,0,none⟩ u0).setCell ⟨b,1,none⟩ u1).setCell ⟨b,2,none⟩ u2).setCell ⟨b,3,none⟩ u3).cell? ⟨b,1,none⟩=some u1 ∧
 ((((w.setCell ⟨b,0,none⟩ u0).setCell ⟨b,1,none⟩ u1).setCell ⟨b,2,none⟩ u2).setCell ⟨b,3,none⟩ u3).cell? ⟨b,2,none⟩=some u2 ∧
 ((((w.setCell ⟨b,0,none⟩ u0).setCell ⟨b,1,none⟩ u1).setCell ⟨b,2,none⟩ u2).setCell ⟨b,3,none⟩ u3).cell? ⟨b,3,none⟩=some u3 :=
 ⟨store_keep (store_keep (store_keep (store_new h0) (by simp)) (by simp)) (by simp),store_keep (store_keep (store_new (store_keep h1 (by simp))) (by simp)) (by simp),store_keep (store_new (store_keep (store_keep h2 (by simp)) (by simp))) (by simp),store_new (store_keep (store_keep (store_keep h3 (by simp)) (by simp)) (by simp))⟩
set_option maxHeartbeats 1000000 in
theorem pcentreOf_core (a b r X Y:Int) (a1: -1073741824≤a) (a2:a≤1073741824) (b1: -1073741824≤b) (b2:b≤1073741824)
 (ST:∀ w,Calls Tryz.prog 74 #[.int .i64 r] w fun e w'=>e=.returned (.tuple #[.agg #[.int .i64 X,.int .i64 Y],.bool true])∧Below w.heap.size w w') (w:World) :
 Calls Tryz.prog 50 #[.agg #[.int .i64 a,.int .i64 b],.int .i64 r] w fun e w'=>e=.returned (.tuple #[.agg #[.int .i64 a,.int .i64 b,.int .i64 X,.int .i64 Y],.bool true])∧Below w.heap.size w w':=by
 have WA:Hid (∀ w,Calls Tryz.prog 79 #[.int .i64 a] w fun e w'=>e=.returned (.bool true)∧w'=w):=pwithin_yes a a1 a2
 have WB:Hid (∀ w,Calls Tryz.prog 79 #[.int .i64 b] w fun e w'=>e=.returned (.bool true)∧w'=w):=pwithin_yes b b1 b2
 replace ST:Hid _:=ST
 go_enter Tryz.func50,Tryz.ntmps50
 go_wp2_with fail
 refine (ST.out _).mono ?_
 rintro e w1 ⟨rfl,d1⟩
 have c1:Below w.heap.size w w1:=Below.trans (by go_grown) (d1.mono (by simp;try omega))
 have p0:w1.cell? ⟨w.heap.size,0,none⟩=some (.int .i64 a):=keepCell d1 (by go_simp)
 have qp0:=World.block_lt_of_cell? _ _ p0
 have p1:w1.cell? ⟨w.heap.size,1,none⟩=some (.int .i64 b):=keepCell d1 (by go_simp)
 have r0:w1.cell? ⟨w.heap.size+1,0,none⟩=some (.int .i64 0):=keepCell d1 (by go_simp)
 have fr0:w1.frozen? ⟨w.heap.size+1,0,none⟩=false:=keepFrozen (v:=.int .i64 0) d1 (by go_simp) (by go_simp)
 have qr0:=World.block_lt_of_cell? _ _ r0
 have r1:w1.cell? ⟨w.heap.size+1,1,none⟩=some (.int .i64 0):=keepCell d1 (by go_simp)
 have fr1:w1.frozen? ⟨w.heap.size+1,1,none⟩=false:=keepFrozen (v:=.int .i64 0) d1 (by go_simp) (by go_simp)
 have r2:w1.cell? ⟨w.heap.size+1,2,none⟩=some (.int .i64 0):=keepCell d1 (by go_simp)
 have fr2:w1.frozen? ⟨w.heap.size+1,2,none⟩=false:=keepFrozen (v:=.int .i64 0) d1 (by go_simp) (by go_simp)
 have r3:w1.cell? ⟨w.heap.size+1,3,none⟩=some (.int .i64 0):=keepCell d1 (by go_simp)
 have fr3:w1.frozen? ⟨w.heap.size+1,3,none⟩=false:=keepFrozen (v:=.int .i64 0) d1 (by go_simp) (by go_simp)
 have hB:=c1
 clear c1 d1
 go_wp2_with fail
 refine (WA.out _).mono ?_
 rintro e w2 ⟨rfl,rfl⟩
 go_wp2_with fail
 refine (WB.out _).mono ?_
 rintro e w2 ⟨rfl,rfl⟩
 obtain ⟨g0,g1,g2,g3⟩:=four_stores (u0:=.int .i64 a) (u1:=.int .i64 b) (u2:=.int .i64 X) (u3:=.int .i64 Y) r0 r1 r2 r3
 have e0:=keepCell (allocB _ (.cells #[.int .i64 X,.int .i64 Y] 40)) g0
 have e1:=keepCell (allocB _ (.cells #[.int .i64 X,.int .i64 Y] 40)) g1
 have e2:=keepCell (allocB _ (.cells #[.int .i64 X,.int .i64 Y] 40)) g2
 have e3:=keepCell (allocB _ (.cells #[.int .i64 X,.int .i64 Y] 40)) g3
 go_wp2
 exact bodyPost_ret (v:=.tuple #[.agg #[.int .i64 a,.int .i64 b,.int .i64 X,.int .i64 Y],.bool true]) (by simp [results,Tryz.results50,go_sem,e0,e1,e2,e3]) rfl ⟨rfl,((((hB.setCell (by simp) _).setCell (by simp) _).setCell (by simp) _).setCell (by simp) _).alloc (by simp;omega) _⟩
theorem pcentreOf_yes (a b r:Int) (K:Nat) (hK:K≤12) (hr:12 - r=(K:Int)) (ha:In30 a) (hb:In30 b) (w:World) :
 Calls Tryz.prog 50 #[.agg #[.int .i64 a,.int .i64 b],.int .i64 r] w fun e w'=>e=.returned (.tuple #[.agg #[.int .i64 a,.int .i64 b,.int .i64 (bet K).1,.int .i64 (bet K).2],.bool true])∧Below w.heap.size w w' :=
 pcentreOf_core a b r _ _ ha.1 ha.2 hb.1 hb.2 (pstep_yes r K hK hr) w
set_option maxHeartbeats 1000000 in
theorem pmiddle_core (a b X Y A B p q:Int) (hp:52*A+26*B=p) (hq:45*B=q) (A1: -9007199254740992≤A) (A2:A≤9007199254740992) (B1: -9007199254740992≤B) (B2:B≤9007199254740992)
 (MU:∀ w,Calls Tryz.prog 76 #[.agg #[.int .i64 X,.int .i64 Y],.agg #[.int .i64 a,.int .i64 b]] w fun e w'=>e=.returned (.tuple #[.agg #[.int .i64 A,.int .i64 B],.bool true])∧Below w.heap.size w w') (w:World) :
 Calls Tryz.prog 51 #[.agg #[.int .i64 a,.int .i64 b,.int .i64 X,.int .i64 Y]] w fun e w'=>e=.returned (.tuple #[.int .i64 p,.int .i64 q])∧Below w.heap.size w w':=by
 have PL:Hid (∀ w,Calls Tryz.prog 80 #[.agg #[.int .i64 A,.int .i64 B]] w fun e w'=>e=.returned (.tuple #[.int .i64 p,.int .i64 q])∧Below w.heap.size w w'):=by rw [← hp,← hq];exact pplace_any A B A1 A2 B1 B2
 clear hp hq
 replace MU:Hid _:=MU
 go_enter Tryz.func51,Tryz.ntmps51
 go_wp2_with fail
 refine (MU.out _).mono ?_
 rintro e w1 ⟨rfl,d1⟩
 have c1:Below w.heap.size w w1:=Below.trans (by go_grown) (d1.mono (by simp;try omega))
 have hB:=c1
 clear c1 d1
 go_wp2_with fail
 refine (PL.out _).mono ?_
 rintro e w2 ⟨rfl,d2⟩
 have c2:Below w1.heap.size w1 w2:=Below.trans (by go_grown) (d2.mono (by simp;try omega))
 replace hB:=belowT hB c2
 clear c2 d2
 go_wp2
 go_ret2
 exact ⟨rfl,hB⟩
theorem pmiddle_any (a b:Int) (K:Nat) (hK:K≤12) (ha:In30 a) (hb:In30 b) (w:World) :
 Calls Tryz.prog 51 #[.agg #[.int .i64 a,.int .i64 b,.int .i64 (bet K).1,.int .i64 (bet K).2]] w fun e w'=>e=.returned (.tuple #[.int .i64 (poX K a b),.int .i64 (poY K a b)])∧Below w.heap.size w w':=by
 have hs:=bet_small hK
 obtain ⟨a1,a2⟩:=ha
 obtain ⟨b1,b2⟩:=hb
 have hc:=ct_box (a:=a) (b:=b) hK (by omega) (by omega)
 exact pmiddle_core a b _ _ (ctA K a b) (ctB K a b) _ _ rfl rfl (by omega) (by omega) (by omega) (by omega)
  (emul_small _ _ _ _ _ _ rfl rfl (by omega) (by omega) (by omega) (by omega) (by omega) (by omega) (by omega) (by omega) (by omega) (by omega) (by omega) (by omega)) w
set_option maxHeartbeats 1000000 in
theorem pcentre_core (a b r X Y p q:Int)
 (CO:∀ w,Calls Tryz.prog 50 #[.agg #[.int .i64 a,.int .i64 b],.int .i64 r] w fun e w'=>e=.returned (.tuple #[.agg #[.int .i64 a,.int .i64 b,.int .i64 X,.int .i64 Y],.bool true])∧Below w.heap.size w w')
 (MI:∀ w,Calls Tryz.prog 51 #[.agg #[.int .i64 a,.int .i64 b,.int .i64 X,.int .i64 Y]] w fun e w'=>e=.returned (.tuple #[.int .i64 p,.int .i64 q])∧Below w.heap.size w w') (w:World) :
 Calls Tryz.prog 30 #[.agg #[.int .i64 a,.int .i64 b],.int .i64 r] w fun e w'=>e=.returned (.tuple #[.int .i64 p,.int .i64 q,.bool true])∧Below w.heap.size w w':=by
 replace CO:Hid _:=CO
 replace MI:Hid _:=MI
 go_enter Tryz.func30,Tryz.ntmps30
 go_wp2_with fail
 refine (CO.out _).mono ?_
 rintro e w1 ⟨rfl,d1⟩
 have c1:Below w.heap.size w w1:=Below.trans (by go_grown) (d1.mono (by simp;try omega))
 have hB:=c1
 clear c1 d1
 go_wp2_with fail
 refine (MI.out _).mono ?_
 rintro e w2 ⟨rfl,d2⟩
 have c2:Below w1.heap.size w1 w2:=Below.trans (by go_grown) (d2.mono (by simp;try omega))
 replace hB:=belowT hB c2
 clear c2 d2
 go_wp2
 go_ret3
 exact ⟨rfl,hB⟩
theorem pcentre_yes (a b r:Int) (K:Nat) (hK:K≤12) (hr:12 - r=(K:Int)) (ha:In30 a) (hb:In30 b) (w:World) :
 Calls Tryz.prog 30 #[.agg #[.int .i64 a,.int .i64 b],.int .i64 r] w fun e w'=>e=.returned (.tuple #[.int .i64 (poX K a b),.int .i64 (poY K a b),.bool true])∧Below w.heap.size w w' :=
 pcentre_core a b r _ _ _ _ (pcentreOf_yes a b r K hK hr ha hb) (pmiddle_any a b K hK ha hb) w
end Go.Proofs.YtdklpgphmoaniabGreatDoor
