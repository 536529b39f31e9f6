/-
  What the texts PSeq, PEdges, POn say, so far as this seat's proofs need it.
-/
import Derived.Test.YtbnlhdnnenahfaaGreatDoorPO1Y
set_option maxHeartbeats 8000000
set_option maxRecDepth 100000
namespace Go.Proofs.YtbnlhdnnenahfaaGreatDoor
section
open Go.RowKit Go
def FirmP {β:Type}(B:Nat)(J:β->World->Prop):Prop:=∀s A C,J s A->Below B A C->J s C
structure HighP (B:Nat) (W W':World):Prop where
 size:W.heap.size<=W'.heap.size
 same:∀k o,B<=k->W.heap[k]?=some o->W'.heap[k]?=some o
theorem HighP.refl (B:Nat)(W:World):HighP B W W:=⟨Nat.le_refl _,fun _ _ _ h=>h⟩
theorem HighP.trans {B:Nat}{X Y Z:World}(h:HighP B X Y)(k:HighP B Y Z):HighP B X Z:=⟨Nat.le_trans h.size k.size,fun i o hi ho=>k.same i o hi (h.same i o hi ho)⟩
theorem HighP.mono {B C:Nat}{X Y:World}(h:HighP B X Y)(hc:B<=C):HighP C X Y:=⟨h.size,fun k o hk=>h.same k o (Nat.le_trans hc hk)⟩
theorem HighP.of_below {B:Nat}{W W':World}(h:Below W.heap.size W W'):HighP B W W' :=
 ⟨h.size,fun k o _ hk=>by rw[h.block k (Array.getElem?_eq_some_iff.1 hk).1];exact hk⟩
theorem HighP.setCell {B:Nat}{X W:World}(h:HighP B X W){p:Addr}(hp:p.block<B)(v:Value):HighP B X (W.setCell p v) :=
 h.trans ⟨by simp,fun k o hk ho=>by rw[heap_setCell_other _ _ _ _ (by omega)];exact ho⟩
theorem HighP.cell {B:Nat}{W W':World}(h:HighP B W W'){p:Addr}{v:Value}(hp:B<=p.block)(hc:W.cell? p=some v):W'.cell? p=some v:=by
 have hlt:=World.block_lt_of_cell? _ _ hc;have hb:W'.heap[p.block]?=W.heap[p.block]?:=by
  rw[Array.getElem?_eq_getElem hlt];exact h.same p.block _ hp (Array.getElem?_eq_getElem hlt)
 rw[World.cell?_of_block hb];exact hc
theorem HighP.frozen {B:Nat}{W W':World}(h:HighP B W W'){p:Addr}(hp:B<=p.block)(hlt:p.block<W.heap.size):W'.frozen? p=W.frozen? p:=by
 have hb:W'.heap[p.block]?=W.heap[p.block]?:=by
  rw[Array.getElem?_eq_getElem hlt];exact h.same p.block _ hp (Array.getElem?_eq_getElem hlt)
 exact World.frozen?_of_block hb
theorem mU {B:Nat}(W:World)(l:Nat)(o:Obj)(hB:B<=W.heap.size)(hl:B<=l):Below B W (W.putObj l o) :=
 (Below.refl B W).grown (grownBy_putObj' W l o) hB (fun k e=>by cases e;exact hl)
def AM {α:Type}(F:Fence)(n:Nat)(P:Program)(g:Nat)(pb lb:Array Value)(encs:α->Array Value)(n₀:Nat)(S Sp:List α->Prop)(w:World):Prop :=
 ∀(l:Nat) (J Jx:List α->World->Prop) (W:World),Below w.heap.size w W->FirmP W.heap.size J->FirmP W.heap.size Jx ->
  (∀ pre x W1,J pre W1->W.heap.size<=W1.heap.size->YieldAt F (n - 1) P l (encs x) W1 fun e W' =>
    (e=.returned (.bool true)/\J (pre++[x]) W'/\Below n₀ W1 W'/\HighP W.heap.size W1 W')∨(e=.returned (.bool false)/\Jx (pre++[x]) W'/\HighP W.heap.size W1 W')) ->
  J [] W ->
  CallsIn F n P g (pb++#[.func (.yield l) #[] #[]]++lb) W fun e W'=>(∃v,e=.returned v)/\((∃xs,S xs/\J xs W')∨(∃pre,Sp pre/\Jx pre W'))
theorem FirmP.mono {β:Type}{B C:Nat}{J:β->World->Prop}(h:FirmP B J)(hc:B<=C):FirmP C J:=fun s X Y hs hb=>h s X Y hs (hb.mono hc)
theorem AJ {m:Nat}(m':Nat)(l₂:Nat){P:Program}{l:Nat}{args:Array Value}{W:World}{R:Ending->World->Prop}(h:YieldAt Fence.wide m P l args W R):YieldAt (Fence.wide.inRound l₂) m' P l args W R:=by
 obtain⟨fn,tmps,assign,body,hy,hR⟩:=h;exact⟨fn,tmps,assign,body,hy,hR.1,fun c cs _=>hR.2 c cs (room_wide _)⟩
def Gg {α:Type}(n₀ B:Nat)(I:List α->World->Prop)(Ix:Code->List α->World->Prop)(xs:List α)(W:World):Exit->Act->World->Prop
 | .normal,_,W'=>Below n₀ W W'/\HighP B W W'/\I xs W'
 | .ret,_,W'=>HighP B W W'/\Ix .ret xs W'
 | .exit id,_,W'=>HighP B W W'/\Ix (.exit id) xs W'
 | .goto t,_,W'=>HighP B W W'/\Ix (.goto t) xs W'
 | .panic _,_,_=>False
 | .outgrown,_,_=>False
variable {F:Fence} {n:Nat} {P:Program}
def CellsOn (A B:World):Prop:=∀p v,A.cell? p=some v->B.cell? p=some v
theorem CellsOn.refl (A:World):CellsOn A A:=fun _ _ h=>h
theorem yE {W:World}{l:Nat}{r:Loop}(h:W.heap[l]?=some (.loop r))(o:Obj):CellsOn W (W.putObj l o):=fun p v hc=>by
 have hne:p.block≠l:=by
  intro e;unfold World.cell? at hc;rw[e,h]at hc;simp at hc
 rw[World.cell?_of_block (World.putObj_heap_other (by omega))];exact hc
theorem vq {α:Type}{g:Operand}{ps:Array Tmp}{assign body:Code}{Q:Exit->Act->World->Prop}{a:Act}{w:World}
 (hro:F.round=none) (h1:1<=n) {gf:Nat} {pb lb:Array Value} (hg:a.eval g=.func (.func gf) pb lb) (hFg:F.fn gf) (eg:∀args w,(callFunc gf args).run P w=.ok (.enter gf args) w)
 {encs:α->Array Value} {n₀:Nat} {S Sp:List α->Prop} (hseq:AM F (n-1) P gf pb lb encs n₀ S Sp w) (hn:n₀<=w.heap.size) (hps:∀x,(encs x).size=ps.size)
 (I:List α->World->Prop) (Ix:Code->List α->World->Prop) (hI:FirmP w.heap.size I) (hIx:∀c,FirmP w.heap.size (Ix c)) (h0:I [] w) (Ax:α->Act->World->Prop) (hAx:∀x a' A B,Ax x a' A->CellsOn A B->Ax x a' B)
 (hassign:∀ (l:Nat) (x:α) (W:World) (K:Act->World->Prop),w.heap.size<=W.heap.size->(∀ a' W',Ax x a' W'->Below W.heap.size W W'->K a' W') ->
   assign.wpIn (F.inRound l) (n-1-1) P (Exit.then K (fun _ _ _=>False)) { tmps:=(ps.zip (encs x)).foldl (fun t (p,v)=>t.setIfInBounds p v) a.tmps,defers:=[] } W)
 (hbody:∀(l:Nat) (pre:List α) (x:α) (a':Act) (W:World),I pre W->Ax x a' W->w.heap.size<=W.heap.size->body.wpIn (F.inRound l) (n-1-1) P (Gg n₀ w.heap.size I Ix (pre++[x]) W) a' W)
 (hdone:∀(D:Nat) (xs:List α) (W:World),w.heap.size<=D->S xs->I xs W->W.heap[D]?=some (.deferred (some []))->Q .normal { a with defers:={ target:=.collected D,args:=#[] } :: a.defers } W)
 (hstop:∀(D:Nat) (c:Code) (pre:List α) (W:World),w.heap.size<=D->Sp pre->Ix c pre W->W.heap[D]?=some (.deferred (some []))->c.wpIn F n P Q { a with defers:={ target:=.collected D,args:=#[] } :: a.defers } W) :
 (Code.rangeFunc g ps assign body).wpIn F n P Q a w:=by
 apply wpIn_rangeFunc;intro fn hfn;rw[hro];obtain⟨R,hR⟩:∃R:LoopState->Option Code->Loop,R=fun st pe=>{ state:=st,pending:=pe,fn,tmps:=a.tmps,params:=ps,assign,body,defers:=w.heap.size }:=⟨_,rfl⟩
 have hen:=run_enterLoop_outer (P:=P) (w:=w) fn a.tmps ps assign body;rw[show({ state:=.ready,pending:=none,fn,tmps:=a.tmps,params:=ps,assign,body,defers:=w.heap.size }:Loop)=R .ready none by rw[hR]]at hen;have hsz:((w.alloc (.deferred (some []))).alloc (.loop (R .ready none))).heap.size=w.heap.size+2:=by simp
 have hl0:((w.alloc (.deferred (some []))).alloc (.loop (R .ready none))).heap[w.heap.size+1]?=some (.loop (R .ready none)):=by
  have:=World.alloc_heap_new (w.alloc (.deferred (some []))) (.loop (R .ready none));rwa [World.size_alloc]at this
 have hk0:((w.alloc (.deferred (some []))).alloc (.loop (R .ready none))).heap[w.heap.size]?=some (.deferred (some [])) :=
  (Below.heap_alloc _ _ _ (by simp)).trans (World.alloc_heap_new w _)
 have hB0:Below w.heap.size w ((w.alloc (.deferred (some []))).alloc (.loop (R .ready none))):=((Below.refl _ w).alloc (Nat.le_refl _) _).alloc (by simp) _;generalize (w.alloc (.deferred (some []))).alloc (.loop (R .ready none))=W1 at hen hsz hl0 hk0 hB0;have hI0:I [] W1:=hI _ _ _ h0 hB0;have hturn:∀(W:World) (o:Obj),w.heap.size+1<W.heap.size->Below w.heap.size W (W.putObj (w.heap.size+1) o):=fun W o hW=>mU W _ o (by omega) (by omega);refine⟨w.heap.size+1,_,W1,{ target:=.fn (.func gf) lb,args:=pb++#[.func (.yield (w.heap.size+1)) #[] #[]] },W1,gf,pb++#[.func (.yield (w.heap.size+1)) #[] #[]]++lb,W1,hen,?_,?_,?_,fun _=>h1,?_⟩
 · simp only[resolve,hg];simp[go_sem]
 · intro f' hf';simp[Target.leads]at hf';subst hf';exact hFg
 · simp[invoke,go_sem,eg]
 refine(hseq (w.heap.size+1)
  (fun pre W=>I pre W/\W.heap[w.heap.size+1]?=some (.loop (R .ready none))/\W.heap[w.heap.size]?=some (.deferred (some [])))
  (fun pre W=>∃c,Ix c pre W/\W.heap[w.heap.size+1]?=some (.loop (R .done (some c)))/\W.heap[w.heap.size]?=some (.deferred (some [])))
  W1 hB0
  (fun s A C h hb=>⟨hI s A C h.1 (hb.mono (by omega)),(hb.block _ (by omega)).trans h.2.1,(hb.block _ (by omega)).trans h.2.2⟩)
  (fun s A C h hb=>by
    obtain⟨c,hc,hl,hk⟩:=h;exact⟨c,hIx c s A C hc (hb.mono (by omega)),(hb.block _ (by omega)).trans hl,(hb.block _ (by omega)).trans hk⟩)
  ?round ⟨hI0,hl0,hk0⟩).mono ?behind
 case round =>
  rintro pre x V ⟨hi,hl,hk⟩ hsV;have hy:=run_yield (P:=P) (args:=encs x) hl (by rw[hR];exact hps x);rw[hR]at hy;refine⟨fn,_,assign,body,hy,roundIn_of_wpIn hfn (hassign _ x V _ (by omega) fun a' W hax hba=>?_)⟩;have hsW:W1.heap.size<=W.heap.size:=Nat.le_trans hsV hba.size;replace hi:I pre W:=hI _ _ _ hi (hba.mono (by omega));replace hl:=(hba.block _ (by omega)).trans hl;replace hk:=(hba.block _ (by omega)).trans hk;refine⟨_,run_beginRound hl (by rw[hR]),?_⟩;have hax2:=hAx _ _ _ _ hax (yE hl (.loop { R .ready none with state:=.busy }));have hb1:=hturn W (.loop { R .ready none with state:=.busy }) (by omega);have hl1:(W.putObj (w.heap.size+1) (.loop { R .ready none with state:=.busy })).heap[w.heap.size+1]?=some (.loop { R .ready none with state:=.busy }):=World.putObj_heap_same (by omega);have hk1:(W.putObj (w.heap.size+1) (.loop { R .ready none with state:=.busy })).heap[w.heap.size]?=some (.deferred (some [])):=(World.putObj_heap_other (by omega)).trans hk;have hh1:HighP W1.heap.size W (W.putObj (w.heap.size+1) (.loop { R .ready none with state:=.busy })):=⟨by simp,fun k o hk' ho=>(World.putObj_heap_other (by omega)).trans ho⟩
  have hs1:w.heap.size<=(W.putObj (w.heap.size+1) (.loop { R .ready none with state:=.busy })).heap.size:=by simp;omega
  generalize W.putObj (w.heap.size+1) (.loop { R .ready none with state:=.busy })=X at hb1 hl1 hk1 hh1 hs1 hax2 ⊢;refine wpIn_mono (hbody _ pre x a' X (hI _ _ _ hi hb1) hax2 hs1) ?_;have fin:∀(j:Option Code) (Y:World),HighP w.heap.size X Y ->
   (Instr.endRound (w.heap.size+1) j).run P Y=.ok (.bool j.isNone) (Y.putObj (w.heap.size+1) (.loop (R (if j.isNone then .ready else .done) j))) /\
   Below w.heap.size Y (Y.putObj (w.heap.size+1) (.loop (R (if j.isNone then .ready else .done) j))) /\
   HighP W1.heap.size Y (Y.putObj (w.heap.size+1) (.loop (R (if j.isNone then .ready else .done) j))) /\
   (Y.putObj (w.heap.size+1) (.loop (R (if j.isNone then .ready else .done) j))).heap[w.heap.size+1]?=some (.loop (R (if j.isNone then .ready else .done) j)) /\
   (Y.putObj (w.heap.size+1) (.loop (R (if j.isNone then .ready else .done) j))).heap[w.heap.size]?=some (.deferred (some [])):=by
   intro j Y hY;have hlY:=hY.same _ _ (by omega) hl1;have hlt:w.heap.size+1<Y.heap.size:=(Array.getElem?_eq_some_iff.1 hlY).1;have hr:=run_endRound (P:=P) j hlY;rw[hR]at hr ⊢;exact⟨hr,hturn Y _ hlt,⟨by simp,fun k o hk' ho=>(World.putObj_heap_other (by omega)).trans ho⟩,World.putObj_heap_same hlt,(World.putObj_heap_other (by omega)).trans (hY.same _ _ (Nat.le_refl _) hk1)⟩
  rintro e a3 Y hp;cases e with
  | normal =>
   obtain⟨hBY,hHY,hiY⟩:=hp;obtain⟨hr,hb2,hh2,hl2,hk2⟩:=fin none Y hHY;exact⟨_,_,hr,.inl ⟨rfl,⟨hI _ _ _ hiY hb2,hl2,hk2⟩,(hba.mono (by omega)).trans (((hb1.mono hn).trans hBY).trans (hb2.mono hn)),(HighP.of_below hba).trans ((hh1.trans (hHY.mono (by omega))).trans hh2)⟩⟩
  | ret =>
   obtain⟨hHY,hiY⟩:=hp;obtain⟨hr,hb2,hh2,hl2,hk2⟩:=fin (some .ret) Y hHY;exact⟨_,_,hr,.inr ⟨rfl,⟨.ret,hIx _ _ _ _ hiY hb2,hl2,hk2⟩,(HighP.of_below hba).trans ((hh1.trans (hHY.mono (by omega))).trans hh2)⟩⟩
  | exit id =>
   obtain⟨hHY,hiY⟩:=hp;obtain⟨hr,hb2,hh2,hl2,hk2⟩:=fin (some (.exit id)) Y hHY;exact⟨_,_,hr,.inr ⟨rfl,⟨.exit id,hIx _ _ _ _ hiY hb2,hl2,hk2⟩,(HighP.of_below hba).trans ((hh1.trans (hHY.mono (by omega))).trans hh2)⟩⟩
  | goto t =>
   obtain⟨hHY,hiY⟩:=hp;obtain⟨hr,hb2,hh2,hl2,hk2⟩:=fin (some (.goto t)) Y hHY;exact⟨_,_,hr,.inr ⟨rfl,⟨.goto t,hIx _ _ _ _ hiY hb2,hl2,hk2⟩,(HighP.of_below hba).trans ((hh1.trans (hHY.mono (by omega))).trans hh2)⟩⟩
  | panic ch=>exact hp.elim
  | outgrown=>exact hp.elim
 case behind =>
  rintro e Y ⟨⟨v,rfl⟩,(⟨xs,hS,hi,hl,hk⟩ | ⟨pre,hSp,c,hi,hl,hk⟩)⟩
  · have hlt:w.heap.size+1<Y.heap.size:=(Array.getElem?_eq_some_iff.1 hl).1;refine⟨none,_,by have:=run_endLoop (P:=P) hl (by rw[hR];simp);rw[hR]at this;exact this,?_⟩;exact hdone _ xs _ (Nat.le_refl _) hS (hI _ _ _ hi (hturn Y _ hlt)) ((World.putObj_heap_other (by omega)).trans hk)
  · have hlt:w.heap.size+1<Y.heap.size:=(Array.getElem?_eq_some_iff.1 hl).1;refine⟨some c,_,by have:=run_endLoop (P:=P) hl (by rw[hR];simp);rw[hR]at this;exact this,?_⟩;exact hstop _ c pre _ (Nat.le_refl _) hSp (hIx c _ _ _ hi (hturn Y _ hlt)) ((World.putObj_heap_other (by omega)).trans hk)
end
section
open Go.RowKit Go
def MarksP (B T:Nat)(ds:List Deferred)(W:World):Prop :=
 ∃Ds:List Nat,ds=Ds.map (fun D=>{ target:=.collected D,args:=#[] })/\Ds.Nodup/\∀D∈Ds,B<=D/\D<T/\W.heap[D]?=some (.deferred (some []))
theorem MarksP.nil (B T:Nat)(W:World):MarksP B T [] W:=⟨[],rfl,List.nodup_nil,fun _ h=>by cases h⟩
theorem MarksP.keep {B T U:Nat}{ds:List Deferred}{W W':World}(h:MarksP B T ds W)(hb:Below U W W')(hT:T<=U):MarksP B T ds W':=by
 obtain⟨Ds,e,hn,hD⟩:=h;exact⟨Ds,e,hn,fun D hm=>⟨(hD D hm).1,(hD D hm).2.1,(hb.block _ (by have:=(hD D hm).2.1;omega)).trans (hD D hm).2.2⟩⟩
theorem MarksP.wide {B T U:Nat}{ds:List Deferred}{W:World}(h:MarksP B T ds W)(hT:T<=U):MarksP B U ds W:=by
 obtain⟨Ds,e,hn,hD⟩:=h;exact⟨Ds,e,hn,fun D hm=>⟨(hD D hm).1,by have:=(hD D hm).2.1;omega,(hD D hm).2.2⟩⟩
theorem MarksP.cell {B T:Nat}{ds:List Deferred}{W:World}(h:MarksP B T ds W){p:Addr}(hp:p.block<B)(v:Value):MarksP B T ds (W.setCell p v):=by
 obtain⟨Ds,e,hn,hD⟩:=h;exact⟨Ds,e,hn,fun D hm=>⟨(hD D hm).1,(hD D hm).2.1,by rw[heap_setCell_other _ _ _ _ (by have:=(hD D hm).1;omega)];exact(hD D hm).2.2⟩⟩
theorem MarksP.more {B T:Nat}{ds:List Deferred}{W:World}(h:MarksP B T ds W){D:Nat}(hB:B<=D)(hT:T<=D)(hd:W.heap[D]?=some (.deferred (some []))) :
 MarksP B W.heap.size ({ target:=.collected D,args:=#[] } :: ds) W:=by
 obtain⟨Ds,rfl,hn,hD⟩:=h;have hlt:D<W.heap.size:=(Array.getElem?_eq_some_iff.1 hd).1;refine⟨D :: Ds,rfl,List.nodup_cons.2 ⟨fun hm=>by have:=(hD D hm).2.1;omega,hn⟩,fun E hE=>?_⟩;rcases List.mem_cons.1 hE with rfl | hE
 · exact⟨hB,hlt,hd⟩
 · exact⟨(hD E hE).1,by have:=(hD E hE).2.1;omega,(hD E hE).2.2⟩
theorem MarksP.leaves {F:Fence}{n:Nat}{P:Program}{fn:Func}{tmps:Array Value}{R:Ending->World->Prop}{B T:Nat}{ds:List Deferred}{W:World}(h:MarksP B T ds W)(hB:B<=W.heap.size)
 (h0:∀W',Below B W W'->LeavesInM F n P fn tmps R [] .returning W'):LeavesInM F n P fn tmps R ds .returning W:=by
 obtain⟨Ds,rfl,hn,hD⟩:=h;induction Ds generalizing W with
 | nil=>exact h0 W (Below.refl _ _)
 | cons D Ds ih =>
  have hn':=List.nodup_cons.1 hn;have hd:=hD D (List.mem_cons_self ..);have hb:=mU W D (.deferred none) hB hd.1;refine⟨by simp,.inl ⟨D,_,rfl,run_takeDeferred hd.2.2,ih (by simpa using hB) (fun W' h=>h0 W' (hb.trans h)) hn'.2 fun E hE=>?_⟩⟩;have he:=hD E (List.mem_cons_of_mem _ hE);exact⟨he.1,he.2.1,(World.putObj_heap_other (fun e=>hn'.1 (by rw[←e];exact hE))).trans he.2.2⟩
theorem MarksP.high {B T:Nat}{ds:List Deferred}{W W':World}(h:MarksP B T ds W)(hh:HighP B W W'):MarksP B T ds W':=by
 obtain⟨Ds,e,hn,hD⟩:=h;exact⟨Ds,e,hn,fun D hm=>⟨(hD D hm).1,(hD D hm).2.1,hh.same _ _ (hD D hm).1 (hD D hm).2.2⟩⟩
end
end Go.Proofs.YtbnlhdnnenahfaaGreatDoor
namespace Go.Proofs.YtbnlhdnnenahfaaGreatDoor
open Go.RowKit Go
attribute [local go_sem] Oper.semAt_some
abbrev j5:={ e:(Int×Int)×(Int×Int) // aW e.1/\aW e.2 }
abbrev Hg (x:j5):Array Value:=#[.agg #[.int .i64 x.1.1.1,.int .i64 x.1.1.2,.int .i64 x.1.2.1,.int .i64 x.1.2.2]]
def aO (xs:List j5):List ((Int×Int)×(Int×Int)):=xs.map (·.1)
theorem jt (xs:List j5)(x:j5):aO (xs++[x])=aO xs++[x.1]:=by unfold aO;simp
theorem pn (xs ys:List j5):aO (xs++ys)=aO xs++aO ys:=by unfold aO;simp
def bz (R:List (Int×Int))(k:Nat):List ((Int×Int)×(Int×Int)):=(List.range k).map fun k=>(pt R k,pt R ((k+1)%R.length))
theorem iM (R:List (Int×Int))(k:Nat):bz R (k+1)=bz R k++[(pt R k,pt R ((k+1)%R.length))]:=by unfold bz;rw[List.range_succ,List.map_append];rfl
theorem yS (R:List (Int×Int)){k n:Nat}(h:k<=n):∃d,bz R n=bz R k++d:=by
 induction n with
 | zero=>exact⟨[],by rw[show k=0 by omega];rfl⟩
 | succ n ih =>
  by_cases c:k=n+1
  · exact⟨[],by rw[c,List.append_nil]⟩
  · obtain⟨d,hd⟩:=ih (by omega);exact⟨d++[(pt R n,pt R ((n+1)%R.length))],by rw[iM,hd,List.append_assoc]⟩
def bg (f:Int×Int->Int×Int->Int):List ((Int×Int)×(Int×Int))->Int
 | []=>0
 | e :: l=>f e.1 e.2+bg f l
theorem ir (f:Int×Int->Int×Int->Int)(m:List ((Int×Int)×(Int×Int))):∀l,bg f (l++m)=bg f l+bg f m
 | []=>by show bg f m=0+bg f m;omega
 | e :: l=>by show f e.1 e.2+bg f (l++m)=f e.1 e.2+bg f l+bg f m;rw[ir f m l];omega
theorem kM (f:Int×Int->Int×Int->Int)(l:List ((Int×Int)×(Int×Int)))(e:(Int×Int)×(Int×Int)):bg f (l++[e])=bg f l+f e.1 e.2:=by
 rw[ir];show _+(f e.1 e.2+0)=_;omega
theorem l7 {f:Int×Int->Int×Int->Int}(h:∀p q,0<=f p q):∀l,0<=bg f l
 | []=>Int.le_refl 0
 | e :: l=>by
  have h1:=h e.1 e.2;have h2:=l7 h l;show 0<=f e.1 e.2+bg f l
  omega
theorem kL (f:Int×Int->Int×Int->Int)(R:List (Int×Int)):∀k,bg f (bz R k)=fD f R k
 | 0=>rfl
 | k+1=>by rw[iM,kM,kL f R k,kB]
def aZ:List (List (Int×Int))->List ((Int×Int)×(Int×Int))
 | []=>[]
 | R :: G=>bz R R.length++aZ G
theorem js (H:List (List (Int×Int))):∀G,aZ (G++H)=aZ G++aZ H
 | []=>rfl
 | R :: G=>by show bz R R.length++aZ (G++H)=bz R R.length++aZ G++aZ H;rw[js H G,List.append_assoc]
theorem tl {G:List (List (Int×Int))}{i:Nat}(h:i<G.length):aZ (G.take (i+1))=aZ (G.take i)++bz G[i] G[i].length:=by
 rw[List.take_succ_eq_append_getElem h,js];show _++(bz _ _++[])=_
 rw[List.append_nil]
theorem qW (G:List (List (Int×Int)))(i:Nat):aZ G=aZ (G.take i)++aZ (G.drop i):=by rw[←js,List.take_append_drop]
theorem oV (x y:Int):∀G,bg (fun p q=>bi (onB p q x y)) (aZ G)=onG G x y
 | []=>rfl
 | R :: G=>by
  show bg _ (bz R R.length++aZ G)=onN R x y+onG G x y
  rw[ir,oV x y G,kL];rfl
theorem vx (x y:Int):∀G,bg (fun p q=>bi (crB p q x y)) (aZ G)=crG G x y
 | []=>rfl
 | R :: G=>by
  show bg _ (bz R R.length++aZ G)=crN R x y+crG G x y
  rw[ir,vx x y G,kL];rfl
theorem yT (s:Value)(R:List (Int×Int))(hl:R.length<=1000000)(hR:∀p∈R,aW p)(w0 w:World)(h:RingL w0 s R)(hw:Below w0.heap.size w0 w) :
 AM Fence.wide 2 Tryz.prog 135 #[s] #[] Hg w0.heap.size (fun xs=>aO xs=bz R R.length) (fun pre=>∃k,k<=R.length/\aO pre=bz R k) w:=by
 intro l J Jx W hW hJ hJx hY h0;obtain⟨p,cap,hs,-,hc⟩:=h;obtain⟨m,em⟩:∃m,R.length=m:=⟨_,rfl⟩
 have EM:=ab em;rw[em]at hs hl;subst hs;have HC:=ab hc;have HR:=ab hR;have HY:=ab hY;have HJ:=ab hJ;have h0W:Below w0.heap.size w0 W:=hw.trans (hW.mono hw.size);clear em hc hR hY hJ hw hW;refine callsIn_of_wp Tryz.func135 rfl trivial ?_ rfl;simp only[Tryz.ntmps135,List.size_toArray,List.length_cons,List.length_nil,Nat.reduceAdd,Nat.reduceSub,Array.replicate_succ,Array.replicate_zero,List.push_toArray,List.append_toArray,List.nil_append,List.cons_append]
 gi_wp2
 gi_loopw [8] (fun v8 wr=>∃(k:Nat) (pre:List j5),k<=m/\v8=.int .i64 (k:Int)/\Hid (aO pre=bz R k)/\Below w0.heap.size w0 wr/\W.heap.size<=wr.heap.size/\Hid (J pre wr)) (fun v8 _=>m-(intOf v8).toNat)
 case atStart=>exact⟨0,[],by omega,rfl,ab rfl,h0W,Nat.le_refl _,ab h0⟩
 case round =>
  obtain⟨k,pre,hk,rfl,hE,hB,hsz,hJr⟩:=hrel;by_cases hkl:k<m
  · have hkl':(k:Int)<(m:Int):=by omega
    have hl0:¬((m:Int)=0):=by omega
    have hl00:((m:Int) == 0)=false:=by simp;omega
    have hkR:k<R.length:=by rw[EM.out];exact hkl
    obtain⟨j,ej,hj,ej1,ej2⟩:=oH hkl;have hjR:j<R.length:=by rw[EM.out];exact hj
    have hj':(j:Int)<(m:Int):=by omega
    obtain⟨g,o,rfl,x0,x1⟩:=HC.out k hkR;obtain⟨g',o',e',y0,y1⟩:=HC.out j hjR;simp only[Option.some.injEq,Addr.mk.injEq,and_true]at e';obtain⟨rfl,rfl⟩:=e';replace x0:=aa hB x0;replace x1:=aa hB x1;replace y0:=aa hB y0;replace y1:=aa hB y1;have ip:=HR.out _ (List.getElem_mem hkR);have iq:=HR.out _ (List.getElem_mem hjR);have hal:=ag wr (.cells #[.int .i64 R[k].1,.int .i64 R[k].2] 26);have e0:(wr.alloc (.cells #[.int .i64 R[k].1,.int .i64 R[k].2] 26)).cell? ⟨wr.heap.size,0,none⟩=some (.int .i64 R[k].1):=by go_simp
    have e1:(wr.alloc (.cells #[.int .i64 R[k].1,.int .i64 R[k].2] 26)).cell? ⟨wr.heap.size,1,none⟩=some (.int .i64 R[k].2):=by go_simp
    have hY1:Hid (YieldAt Fence.wide 1 Tryz.prog l #[.agg #[.int .i64 R[k].1,.int .i64 R[k].2,.int .i64 R[j].1,.int .i64 R[j].2]] (wr.alloc (.cells #[.int .i64 R[k].1,.int .i64 R[k].2] 26)).drew fun e W'=>∃v:Bool,e=.returned (.bool v)/\((v=true/\(∃pre2,aO pre2=bz R (k+1)/\J pre2 W')/\Below w0.heap.size w0 W'/\W.heap.size<=W'.heap.size)∨(v=false/\∃pre2,(∃k,k<=R.length/\aO pre2=bz R k)/\Jx pre2 W'))):=ab (by
     have hbd:Below wr.heap.size wr (wr.alloc (.cells #[.int .i64 R[k].1,.int .i64 R[k].2] 26)).drew:=ae hal (aK _);have hE2:aO (pre++[(⟨(R[k],R[j]),ip,iq⟩:j5)])=bz R (k+1):=by rw[jt,hE.out,iM,gh hkR,EM.out,ej,gh hjR]
     obtain⟨fn,tmps,assign,body,hy,hRR⟩:=HY.out pre ⟨(R[k],R[j]),ip,iq⟩ _ (HJ.out _ _ _ hJr.out (hbd.mono hsz)) (Nat.le_trans hsz hbd.size);refine⟨fn,tmps,assign,body,hy,hRR.mono ?_⟩;rintro e W' (⟨rfl,h1,h2,h3⟩ | ⟨rfl,h1,-⟩)
     · exact⟨true,rfl,.inl ⟨rfl,⟨_,hE2,h1⟩,hB.trans ((hbd.mono hB.size).trans h2),Nat.le_trans (Nat.le_trans hsz hbd.size) h3.size⟩⟩
     · exact⟨false,rfl,.inr ⟨rfl,_,⟨k+1,by omega,hE2⟩,h1⟩⟩)
    have hm:=aa hal x0;have hm1:=aa hal x1;have hm2:=aa hal y0;have hm3:=aa hal y1;clear ip iq ej hE hJr;generalize R[k].1=a at *;generalize R[k].2=b at *;generalize R[j].1=c at *;generalize R[j].2=d at *
    gi_wp2
    obtain⟨fn,tmps,assign,body,hy,hRR⟩:=hY1.out;clear hY1;generalize wr.alloc (.cells #[.int .i64 a,.int .i64 b] 26)=wa at *;have d0:wa.drew.cell? ⟨wr.heap.size,0,none⟩=some (.int .i64 a):=e0;have d1:wa.drew.cell? ⟨wr.heap.size,1,none⟩=some (.int .i64 b):=e1;have d2:wa.drew.cell? ⟨g,o+j*2,none⟩=some (.int .i64 c):=hm2;have d3:wa.drew.cell? ⟨g,o+j*2+1,none⟩=some (.int .i64 d):=hm3
    gi_region_with (first | (refine hRR.mono ?_;rintro e W3 ⟨v,rfl,hv⟩))
    all_goals
     rcases hv with⟨rfl,⟨pre2,hE3,h1⟩,h2,h3⟩ | ⟨rfl,pre2,hE3,h1⟩
     · have hE4:=ab hE3;have h1':=ab h1;clear h1 hE3 hRR hy
       gi_wp2
       go_roundw
       case rel=>exact⟨k+1,pre2,by omega,by go_num,hE4,h2,h3,h1'⟩
       case measure=>simp[intOf];omega
     · gi_wp2
       refine bodyPost_ret (results_none rfl _ _ _) rfl ?_;exact⟨⟨_,rfl⟩,.inr ⟨pre2,hE3,h1⟩⟩
  · obtain rfl:k=m:=by omega
    have hkl':decide ((k:Int)<(k:Int))=false:=by simp
    have hE2:aO pre=bz R R.length:=by rw[EM.out];exact hE.out
    have HJr:=hJr.out;clear hE hkl
    gi_wp2
    go_end0
    exact⟨⟨_,rfl⟩,.inl ⟨_,hE2,HJr⟩⟩
def FrE (s2 s6 s7 s8:Value)(ds:List Deferred)(a:Act):Prop :=
 ∃u0 u1 u3 u4 u5 u9 u10 u11 u12 u13 u14 u15 u16 u17 u18 u19:Value,a={ tmps:=#[u0,u1,s2,u3,u4,u5,s6,s7,s8,u9,u10,u11,u12,u13,u14,u15,u16,u17,u18,u19],defers:=ds }
theorem tm (s:Value)(G:List (List (Int×Int)))(hn:G.length<=1000000)(hl:∀L∈G,L.length<=1000000)(hG:∀L∈G,∀p∈L,aW p)(w0 w:World)(h:RingsL w0 s G)(hw:Below w0.heap.size w0 w)(b:Nat)(hb:w.cell? ⟨b,0,none⟩=some s) :
 AM Fence.wide 3 Tryz.prog 134 #[] #[.pointer (some ⟨b,0,none⟩)] Hg w0.heap.size (fun xs=>aO xs=aZ G) (fun pre=>∃suf,aZ G=aO pre++suf) w:=by
 intro l J Jx W hW hJ hJx hY h0;obtain⟨p,cap,hs,-,hc⟩:=h;obtain⟨m,em⟩:∃m,G.length=m:=⟨_,rfl⟩
 have EM:=ab em;rw[em]at hs hn;subst hs;have HC:=ab hc;have HR:=ab hG;have HL:=ab hl;have HY:=ab hY;have HJ:=ab hJ;have HJx:=ab hJx;have h0W:Below w0.heap.size w0 W:=hw.trans (hW.mono hw.size);have hbW:=aa hW hb;clear em hc hG hY hJ hJx hw hW hl hb;refine callsIn_of_wp_marks Tryz.func134 rfl trivial ?_ rfl;simp only[Tryz.ntmps134,List.size_toArray,List.length_cons,List.length_nil,Nat.reduceAdd,Nat.reduceSub,Array.replicate_succ,Array.replicate_zero,List.push_toArray,List.append_toArray,List.nil_append,List.cons_append];have hal:=ag W (.cells #[.func (.yield l) #[] #[]] 179);have vW:(W.alloc (.cells #[.func (.yield l) #[] #[]] 179)).cell? ⟨W.heap.size,0,none⟩=some (.func (.yield l) #[] #[]):=by go_simp
 have hbV:=aa hal hbW;have h0V:=ab (h0W.trans (hal.mono h0W.size));have hJ0:=ab (HJ.out _ _ _ h0 hal);have hsV:W.heap.size+1<=(W.alloc (.cells #[.func (.yield l) #[] #[]] 179)).heap.size:=by simp
 clear h0 hbW hal
 gi_wp2
 generalize W.alloc (.cells #[.func (.yield l) #[] #[]] 179)=V at *;refine wpIn_loop (fun a X=>∃(i:Nat) (ds:List Deferred) (pre:List j5),i<=m/\FrE (.pointer (some ⟨W.heap.size,0,none⟩)) (.slice p m cap) (.int .i64 (m:Int)) (.int .i64 (i:Int)) ds a/\Below w0.heap.size w0 X/\W.heap.size+1<=X.heap.size/\X.cell? ⟨W.heap.size,0,none⟩=some (.func (.yield l) #[] #[])/\MarksP W.heap.size X.heap.size ds X/\Hid (aO pre=aZ (G.take i))/\Hid (J pre X))
  (fun a _=>m-(intOf (a.tmps.getD 8 undef)).toNat) ?start ?round
 case start=>exact⟨0,[],[],by omega,⟨_,_,_,_,_,_,_,_,_,_,_,_,_,_,_,_,rfl⟩,h0V.out,hsV,vW,MarksP.nil _ _ _,ab rfl,hJ0⟩
 case round =>
  rintro a X ⟨i,ds,pre,hi,⟨u0,u1,u3,u4,u5,u9,u10,u11,u12,u13,u14,u15,u16,u17,u18,u19,rfl⟩,hB,hsX,vX,hM,hE,hJr⟩;by_cases him:i<m
  · have him':(i:Int)<(m:Int):=by omega
    have hiG:i<G.length:=by rw[EM.out];exact him
    obtain⟨g,o,sR,rfl,x0,hR⟩:=HC.out i hiG;replace x0:=aa hB x0;have hmem:=List.getElem_mem hiG;have ES:=ab (yT sR G[i] (HL.out _ hmem) (HR.out _ hmem) w0 X hR hB);have NX:=ab (tl hiG);obtain⟨pR,cR,rfl,-,-⟩:=hR;obtain⟨R,eR⟩:∃R,G[i]=R:=⟨_,rfl⟩
    rw[eR]at x0 ES NX;have SPL:Hid (aZ G=aZ (G.take i)++(bz R R.length++aZ (G.drop (i+1)))):=ab (by rw[←List.append_assoc,←NX.out];exact qW G (i+1));clear hmem eR
    gi_wp2
    have hsW:=hB.size;refine vq rfl (by omega) (gf:=135) (pb:=#[.slice pR R.length cR]) (lb:=#[]) rfl trivial (enters_of Tryz.func135 (by kernel_rfl) rfl)
     ES.out hsW (fun _=>rfl)
     (fun xs Y=>(J (pre++xs) Y/\Y.cell? ⟨W.heap.size,0,none⟩=some (.func (.yield l) #[] #[])/\MarksP W.heap.size X.heap.size ds Y)/\Below w0.heap.size w0 Y)
     (fun c xs Y=>c=.ret/\Jx (pre++xs) Y/\MarksP W.heap.size X.heap.size ds Y) ?hI ?hIx ⟨⟨by rw[List.append_nil];exact hJr.out,vX,hM⟩,hB⟩
     (fun x a' Y=>∃ e:Nat,(Y.cell? ⟨e,0,none⟩=some (.int .i64 x.1.1.1)/\Y.cell? ⟨e,1,none⟩=some (.int .i64 x.1.1.2)/\Y.cell? ⟨e,2,none⟩=some (.int .i64 x.1.2.1)/\Y.cell? ⟨e,3,none⟩=some (.int .i64 x.1.2.2)) /\
       a'={ tmps:=#[u0,u1,.pointer (some ⟨W.heap.size,0,none⟩),u3,.slice pR R.length cR,.pointer (some ⟨e,0,none⟩),.slice (some ⟨g,o,none⟩) m cap,.int .i64 (m:Int),.int .i64 (i:Int),.bool true,.pointer (some ⟨g,o+i,none⟩),.slice pR R.length cR,.slice pR R.length cR,.func (.func 135) #[.slice pR R.length cR] #[],.agg #[.int .i64 x.1.1.1,.int .i64 x.1.1.2,.int .i64 x.1.2.1,.int .i64 x.1.2.2],u15,u16,u17,u18,u19],defers:=[] })
     ?hAx ?assign ?body ?done ?stop
    case hI =>
     intro xs Y Z hs hb';exact⟨⟨HJ.out.mono (by omega) _ _ _ hs.1.1 hb',(hb'.cell (p:=⟨W.heap.size,0,none⟩) (by simp;omega)).trans hs.1.2.1,hs.1.2.2.keep hb' (Nat.le_refl _)⟩,hs.2.trans (hb'.mono hsW)⟩
    case hIx =>
     intro c xs Y Z hs hb';exact⟨hs.1,HJx.out.mono (by omega) _ _ _ hs.2.1 hb',hs.2.2.keep hb' (Nat.le_refl _)⟩
    case hAx =>
     rintro x a' Y Z ⟨e,⟨k0,k1,k2,k3⟩,ha⟩ hc;exact⟨e,⟨hc _ _ k0,hc _ _ k1,hc _ _ k2,hc _ _ k3⟩,ha⟩
    case assign =>
     intro l2 x Y K hs hK
     gi_wp2
     exact hK _ _ ⟨Y.heap.size,⟨by go_simp,by go_simp,by go_simp,by go_simp⟩,rfl⟩ (ag _ _)
    case body =>
     rintro l2 xs x a' Y ⟨⟨hj,hv,hm⟩,hbY⟩ ⟨e,⟨k0,k1,k2,k3⟩,rfl⟩ hs;obtain⟨fn,tmps,assign,body,hy,hRR⟩:=AJ 0 l2 (HY.out (pre++xs) x Y hj (by omega));have hv2:=hv;clear HY HC HR HL
     gi_wp2
     refine hRR.mono ?_;rintro e3 Z (⟨rfl,h1,h2,h3⟩ | ⟨rfl,h1,h3⟩)
     · gi_wp2
       exact⟨h2,h3.mono (by omega),⟨by rw[←List.append_assoc];exact h1,h3.cell (p:=⟨W.heap.size,0,none⟩) (Nat.le_refl _) hv2,hm.high h3⟩,hbY.trans h2⟩
     · gi_wp2
       exact⟨h3.mono (by omega),rfl,by rw[←List.append_assoc];exact h1,hm.high h3⟩
    case done =>
     rintro D xs Y hD hxs ⟨⟨hj,hv,hm⟩,hbY⟩ hK;have HM2:=ab (hm.more (D:=D) (by omega) (by omega) hK);have hE2:Hid (aO (pre++xs)=aZ (G.take (i+1))):=ab (by rw[pn,hE.out,hxs,NX.out]);have hj2:=ab hj;have hsY:W.heap.size+1<=Y.heap.size:=by
      have:=(Array.getElem?_eq_some_iff.1 hK).1;omega
     clear hm hxs hK hE ES HY HC HR HL hj
     gi_wp2
     refine⟨⟨i+1,_,pre++xs,by omega,?fr,hbY,hsY,hv,HM2.out,hE2,hj2⟩,?ms⟩
     case fr =>
      have e25:(.int .i64 (((i+1:Nat):Int)):Value)=.int .i64 ((i:Int)+1):=by go_num
      rw[e25];exact⟨_,_,_,_,_,_,_,_,_,_,_,_,_,_,_,_,rfl⟩
     case ms=>simp[intOf];omega
    case stop =>
     rintro D c' xs Y hD hpre ⟨rfl,hj,hm⟩ hK;have HM2:=ab (hm.more (D:=D) (by omega) (by omega) hK);have hXs:=(Array.getElem?_eq_some_iff.1 hK).1;obtain⟨k,hk,ek⟩:=hpre;have hsuf:Hid (∃suf,aZ G=aO (pre++xs)++suf):=ab (by
      obtain⟨d,hd⟩:=yS R hk;exact⟨d++aZ (G.drop (i+1)),by rw[pn,hE.out,ek,SPL.out,hd,List.append_assoc,List.append_assoc]⟩)
     have hj2:=ab hj;clear hm hK hE ES HY HC HR HL hj ek
     gi_wp2
     refine HM2.out.leaves (by omega) fun W' hW'=>?_;exact⟨_,results_none rfl _ _ _,⟨_,rfl⟩,.inr ⟨_,hsuf.out,HJx.out _ _ _ hj2.out hW'⟩⟩
  · obtain rfl:i=m:=by omega
    have him':decide ((i:Int)<(i:Int))=false:=by simp
    have hE2:Hid (aO pre=aZ G):=ab (by have:=hE.out;rwa [List.take_of_length_le (by rw[EM.out];omega)]at this);clear hE him HY HC HR HL
    gi_wp2
    refine hM.leaves (by omega) fun W' hW'=>?_;exact⟨_,results_none rfl _ _ _,⟨_,rfl⟩,.inl ⟨_,hE2.out,HJ.out _ _ _ hJr.out hW'⟩⟩
end Go.Proofs.YtbnlhdnnenahfaaGreatDoor
namespace Go.Proofs.YtbnlhdnnenahfaaGreatDoor
open Go.RowKit Go
attribute [local go_sem] Oper.semAt_some
theorem zC (p:Option Addr)(m cap:Nat)(w:World) :
 Calls Tryz.prog 87 #[.slice p m cap] w fun e w'=>e=.returned (.func (.func 134) #[] #[.pointer (some ⟨w.heap.size,0,none⟩)])/\w'=w.alloc (.cells #[.slice p m cap] 28):=by
 go_enter Tryz.func87,Tryz.ntmps87
 go_wp2;go_ret;exact⟨rfl,rfl⟩
theorem DE {f:Int×Int->Int×Int->Int}(h:∀p q,0<=f p q){l a b:List ((Int×Int)×(Int×Int))}(e:l=a++b):bg f a<=bg f l:=by
 rw[e,ir];have:=l7 h b;omega
end Go.Proofs.YtbnlhdnnenahfaaGreatDoor
