/-
  What the texts LDig, IOf, RWord, RWCell, WDig, ICell say, so far as this seat's proofs need it.
-/
import Derived.Test.YtbnlhdnnenahfaaGreatDoorI1Y
import Derived.Test.YtbnlhdnnenahfaaGreatDoorR2Y
import Derived.RangeFuncFrom
import Derived.RangeFuncCalls
import Derived.Shelf.RegionOpen
import Derived.OwnWalkIn
import Derived.LoopNIn
import Derived.LoopIn
set_option maxHeartbeats 16000000
set_option maxRecDepth 100000
namespace Go.Proofs.YtbnlhdnnenahfaaGreatDoor
section
open Go.RowKit Go
def vJ {β:Type}(B:Nat)(J:β->World->Prop):Prop:=∀s A C,J s A->Below B A C->J s C
structure High (B:Nat) (W W':World):Prop where
 size:W.heap.size<=W'.heap.size
 same:∀k o,B<=k->W.heap[k]?=some o->W'.heap[k]?=some o
theorem High.refl (B:Nat)(W:World):High B W W:=⟨Nat.le_refl _,fun _ _ _ h=>h⟩
theorem High.trans {B:Nat}{X Y Z:World}(h:High B X Y)(k:High B Y Z):High B X Z:=⟨Nat.le_trans h.size k.size,fun i o hi ho=>k.same i o hi (h.same i o hi ho)⟩
theorem High.mono {B C:Nat}{X Y:World}(h:High B X Y)(hc:B<=C):High C X Y:=⟨h.size,fun k o hk=>h.same k o (Nat.le_trans hc hk)⟩
theorem High.of_below {B:Nat}{W W':World}(h:Below W.heap.size W W'):High B W W' :=
 ⟨h.size,fun k o _ hk=>by rw[h.block k (Array.getElem?_eq_some_iff.1 hk).1];exact hk⟩
theorem High.setCell {B:Nat}{X W:World}(h:High B X W){p:Addr}(hp:p.block<B)(v:Value):High B X (W.setCell p v) :=
 h.trans ⟨by simp,fun k o hk ho=>by rw[heap_setCell_other _ _ _ _ (by omega)];exact ho⟩
theorem High.cell {B:Nat}{W W':World}(h:High B W W'){p:Addr}{v:Value}(hp:B<=p.block)(hc:W.cell? p=some v):W'.cell? p=some v:=by
 have hlt:=World.block_lt_of_cell? _ _ hc;have hb:W'.heap[p.block]?=W.heap[p.block]?:=by
  rw[Array.getElem?_eq_getElem hlt];exact h.same p.block _ hp (Array.getElem?_eq_getElem hlt)
 rw[World.cell?_of_block hb];exact hc
theorem High.frozen {B:Nat}{W W':World}(h:High B W W'){p:Addr}(hp:B<=p.block)(hlt:p.block<W.heap.size):W'.frozen? p=W.frozen? p:=by
 have hb:W'.heap[p.block]?=W.heap[p.block]?:=by
  rw[Array.getElem?_eq_getElem hlt];exact h.same p.block _ hp (Array.getElem?_eq_getElem hlt)
 exact World.frozen?_of_block hb
theorem fF {B:Nat}(W:World)(l:Nat)(o:Obj)(hB:B<=W.heap.size)(hl:B<=l):Below B W (W.putObj l o) :=
 (Below.refl B W).grown (grownBy_putObj' W l o) hB (fun k e=>by cases e;exact hl)
def AK {α:Type}(F:Fence)(n:Nat)(P:Program)(g:Nat)(pb lb:Array Value)(encs:α->Array Value)(n₀:Nat)(S Sp:List α->Prop)(N:Nat)(w:World):Prop :=
 ∀(l:Nat) (J Jx:List α->World->Prop) (W:World),Below w.heap.size w W->vJ W.heap.size J->vJ W.heap.size Jx ->
  (∀ pre x W1,J pre W1->pre.length < N->W.heap.size<=W1.heap.size->YieldAt F (n - 1) P l (encs x) W1 fun e W' =>
    (e=.returned (.bool true)/\J (pre++[x]) W'/\Below n₀ W1 W'/\High W.heap.size W1 W')∨(e=.returned (.bool false)/\Jx (pre++[x]) W')) ->
  J [] W ->
  CallsIn F n P g (pb++#[.func (.yield l) #[] #[]]++lb) W fun e W'=>(∃v,e=.returned v)/\((∃xs,S xs/\J xs W')∨(∃pre,Sp pre/\Jx pre W'))
def In {α:Type}(n₀ B:Nat)(I:List α->World->Prop)(Ix:Code->List α->World->Prop)(xs:List α)(W:World):Exit->Act->World->Prop
 | .normal,_,W'=>Below n₀ W W'/\High B W W'/\I xs W'
 | .ret,_,W'=>High B W W'/\Ix .ret xs W'
 | .exit id,_,W'=>High B W W'/\Ix (.exit id) xs W'
 | .goto t,_,W'=>High B W W'/\Ix (.goto t) xs W'
 | .panic _,_,_=>False
 | .outgrown,_,_=>False
variable {F:Fence} {n:Nat} {P:Program}
theorem se {α:Type}{g:Operand}{ps:Array Tmp}{assign body:Code}{Q:Exit->Act->World->Prop}{a:Act}{w:World}
 (hro:F.round=none) (h1:1<=n) {gf:Nat} {pb lb:Array Value} (hg:a.eval g=.func (.func gf) pb lb) (hFg:F.fn gf) (eg:∀args w,(callFunc gf args).run P w=.ok (.enter gf args) w)
 {encs:α->Array Value} {n₀:Nat} {S Sp:List α->Prop} {N:Nat} (hseq:AK F (n-1) P gf pb lb encs n₀ S Sp N w) (hn:n₀<=w.heap.size) (hps:∀x,(encs x).size=ps.size)
 (I:List α->World->Prop) (Ix:Code->List α->World->Prop) (hI:vJ w.heap.size I) (hIx:∀c,vJ w.heap.size (Ix c)) (h0:I [] w) (a₁:α->Act)
 (hassign:∀ (l:Nat) (x:α) (W:World) (K:Act->World->Prop),K (a₁ x) W ->
   assign.wpIn (F.inRound l) (n-1-1) P (Exit.then K (fun _ _ _=>False)) { tmps:=(ps.zip (encs x)).foldl (fun t (p,v)=>t.setIfInBounds p v) a.tmps,defers:=[] } W)
 (hbody:∀(l:Nat) (pre:List α) (x:α) (W:World),I pre W->w.heap.size<=W.heap.size->pre.length<N->body.wpIn (F.inRound l) (n-1-1) P (In n₀ w.heap.size I Ix (pre++[x]) W) (a₁ x) W)
 (hdone:∀(D:Nat) (xs:List α) (W:World),w.heap.size<=D->S xs->I xs W->W.heap[D]?=some (.deferred (some []))->Q .normal { a with defers:={ target:=.collected D,args:=#[] } :: a.defers } W)
 (hstop:∀(D:Nat) (c:Code) (pre:List α) (W:World),w.heap.size<=D->Sp pre->Ix c pre W->W.heap[D]?=some (.deferred (some []))->c.wpIn F n P Q { a with defers:={ target:=.collected D,args:=#[] } :: a.defers } W) :
 (Code.rangeFunc g ps assign body).wpIn F n P Q a w:=by
 apply wpIn_rangeFunc;intro fn hfn;rw[hro];obtain⟨R,hR⟩:∃R:LoopState->Option Code->Loop,R=fun st pe=>{ state:=st,pending:=pe,fn,tmps:=a.tmps,params:=ps,assign,body,defers:=w.heap.size }:=⟨_,rfl⟩
 have hen:=run_enterLoop_outer (P:=P) (w:=w) fn a.tmps ps assign body;rw[show({ state:=.ready,pending:=none,fn,tmps:=a.tmps,params:=ps,assign,body,defers:=w.heap.size }:Loop)=R .ready none by rw[hR]]at hen;have hsz:((w.alloc (.deferred (some []))).alloc (.loop (R .ready none))).heap.size=w.heap.size+2:=by simp
 have hl0:((w.alloc (.deferred (some []))).alloc (.loop (R .ready none))).heap[w.heap.size+1]?=some (.loop (R .ready none)):=by
  have:=World.alloc_heap_new (w.alloc (.deferred (some []))) (.loop (R .ready none));rwa [World.size_alloc]at this
 have hk0:((w.alloc (.deferred (some []))).alloc (.loop (R .ready none))).heap[w.heap.size]?=some (.deferred (some [])) :=
  (Below.heap_alloc _ _ _ (by simp)).trans (World.alloc_heap_new w _)
 have hB0:Below w.heap.size w ((w.alloc (.deferred (some []))).alloc (.loop (R .ready none))):=((Below.refl _ w).alloc (Nat.le_refl _) _).alloc (by simp) _;generalize (w.alloc (.deferred (some []))).alloc (.loop (R .ready none))=W1 at hen hsz hl0 hk0 hB0;have hI0:I [] W1:=hI _ _ _ h0 hB0;have hturn:∀(W:World) (o:Obj),w.heap.size+1<W.heap.size->Below w.heap.size W (W.putObj (w.heap.size+1) o):=fun W o hW=>fF W _ o (by omega) (by omega);refine⟨w.heap.size+1,_,W1,{ target:=.fn (.func gf) lb,args:=pb++#[.func (.yield (w.heap.size+1)) #[] #[]] },W1,gf,pb++#[.func (.yield (w.heap.size+1)) #[] #[]]++lb,W1,hen,?_,?_,?_,fun _=>h1,?_⟩
 · simp only[resolve,hg];simp[go_sem]
 · intro f' hf';simp[Target.leads]at hf';subst hf';exact hFg
 · simp[invoke,go_sem,eg]
 refine(hseq (w.heap.size+1)
  (fun pre W=>I pre W/\W.heap[w.heap.size+1]?=some (.loop (R .ready none))/\W.heap[w.heap.size]?=some (.deferred (some [])))
  (fun pre W=>∃c,Ix c pre W/\W.heap[w.heap.size+1]?=some (.loop (R .done (some c)))/\W.heap[w.heap.size]?=some (.deferred (some [])))
  W1 hB0
  (fun s A C h hb=>⟨hI s A C h.1 (hb.mono (by omega)),(hb.block _ (by omega)).trans h.2.1,(hb.block _ (by omega)).trans h.2.2⟩)
  (fun s A C h hb=>by
    obtain⟨c,hc,hl,hk⟩:=h;exact⟨c,hIx c s A C hc (hb.mono (by omega)),(hb.block _ (by omega)).trans hl,(hb.block _ (by omega)).trans hk⟩)
  ?round ⟨hI0,hl0,hk0⟩).mono ?behind
 case round =>
  rintro pre x W ⟨hi,hl,hk⟩ hlen hsW;have hy:=run_yield (P:=P) (args:=encs x) hl (by rw[hR];exact hps x);rw[hR]at hy;refine⟨fn,_,assign,body,hy,roundIn_of_wpIn hfn (hassign _ x W _ ⟨_,run_beginRound hl (by rw[hR]),?_⟩)⟩;have hb1:=hturn W (.loop { R .ready none with state:=.busy }) (by omega);have hl1:(W.putObj (w.heap.size+1) (.loop { R .ready none with state:=.busy })).heap[w.heap.size+1]?=some (.loop { R .ready none with state:=.busy }):=World.putObj_heap_same (by omega);have hk1:(W.putObj (w.heap.size+1) (.loop { R .ready none with state:=.busy })).heap[w.heap.size]?=some (.deferred (some [])):=(World.putObj_heap_other (by omega)).trans hk;have hh1:High W1.heap.size W (W.putObj (w.heap.size+1) (.loop { R .ready none with state:=.busy })):=⟨by simp,fun k o hk' ho=>(World.putObj_heap_other (by omega)).trans ho⟩
  have hs1:w.heap.size<=(W.putObj (w.heap.size+1) (.loop { R .ready none with state:=.busy })).heap.size:=by simp;omega
  generalize W.putObj (w.heap.size+1) (.loop { R .ready none with state:=.busy })=X at hb1 hl1 hk1 hh1 hs1 ⊢;refine wpIn_mono (hbody _ pre x X (hI _ _ _ hi hb1) hs1 hlen) ?_;have fin:∀(j:Option Code) (Y:World),High w.heap.size X Y ->
   (Instr.endRound (w.heap.size+1) j).run P Y=.ok (.bool j.isNone) (Y.putObj (w.heap.size+1) (.loop (R (if j.isNone then .ready else .done) j))) /\
   Below w.heap.size Y (Y.putObj (w.heap.size+1) (.loop (R (if j.isNone then .ready else .done) j))) /\
   High W1.heap.size Y (Y.putObj (w.heap.size+1) (.loop (R (if j.isNone then .ready else .done) j))) /\
   (Y.putObj (w.heap.size+1) (.loop (R (if j.isNone then .ready else .done) j))).heap[w.heap.size+1]?=some (.loop (R (if j.isNone then .ready else .done) j)) /\
   (Y.putObj (w.heap.size+1) (.loop (R (if j.isNone then .ready else .done) j))).heap[w.heap.size]?=some (.deferred (some [])):=by
   intro j Y hY;have hlY:=hY.same _ _ (by omega) hl1;have hlt:w.heap.size+1<Y.heap.size:=(Array.getElem?_eq_some_iff.1 hlY).1;have hr:=run_endRound (P:=P) j hlY;rw[hR]at hr ⊢;exact⟨hr,hturn Y _ hlt,⟨by simp,fun k o hk' ho=>(World.putObj_heap_other (by omega)).trans ho⟩,World.putObj_heap_same hlt,(World.putObj_heap_other (by omega)).trans (hY.same _ _ (Nat.le_refl _) hk1)⟩
  rintro e a3 Y hp;cases e with
  | normal =>
   obtain⟨hBY,hHY,hiY⟩:=hp;obtain⟨hr,hb2,hh2,hl2,hk2⟩:=fin none Y hHY;exact⟨_,_,hr,.inl ⟨rfl,⟨hI _ _ _ hiY hb2,hl2,hk2⟩,((hb1.mono hn).trans hBY).trans (hb2.mono hn),(hh1.trans (hHY.mono (by omega))).trans hh2⟩⟩
  | ret =>
   obtain⟨hHY,hiY⟩:=hp;obtain⟨hr,hb2,hh2,hl2,hk2⟩:=fin (some .ret) Y hHY;exact⟨_,_,hr,.inr ⟨rfl,.ret,hIx _ _ _ _ hiY hb2,hl2,hk2⟩⟩
  | exit id =>
   obtain⟨hHY,hiY⟩:=hp;obtain⟨hr,hb2,hh2,hl2,hk2⟩:=fin (some (.exit id)) Y hHY;exact⟨_,_,hr,.inr ⟨rfl,.exit id,hIx _ _ _ _ hiY hb2,hl2,hk2⟩⟩
  | goto t =>
   obtain⟨hHY,hiY⟩:=hp;obtain⟨hr,hb2,hh2,hl2,hk2⟩:=fin (some (.goto t)) Y hHY;exact⟨_,_,hr,.inr ⟨rfl,.goto t,hIx _ _ _ _ hiY hb2,hl2,hk2⟩⟩
  | panic ch=>exact hp.elim
  | outgrown=>exact hp.elim
 case behind =>
  rintro e Y ⟨⟨v,rfl⟩,(⟨xs,hS,hi,hl,hk⟩ | ⟨pre,hSp,c,hi,hl,hk⟩)⟩
  · have hlt:w.heap.size+1<Y.heap.size:=(Array.getElem?_eq_some_iff.1 hl).1;refine⟨none,_,by have:=run_endLoop (P:=P) hl (by rw[hR];simp);rw[hR]at this;exact this,?_⟩;exact hdone _ xs _ (Nat.le_refl _) hS (hI _ _ _ hi (hturn Y _ hlt)) ((World.putObj_heap_other (by omega)).trans hk)
  · have hlt:w.heap.size+1<Y.heap.size:=(Array.getElem?_eq_some_iff.1 hl).1;refine⟨some c,_,by have:=run_endLoop (P:=P) hl (by rw[hR];simp);rw[hR]at this;exact this,?_⟩;exact hstop _ c pre _ (Nat.le_refl _) hSp (hIx c _ _ _ hi (hturn Y _ hlt)) ((World.putObj_heap_other (by omega)).trans hk)
end
section
open Go.RowKit Go
attribute [local go_sem] Oper.semAt_some
abbrev Dig:=Fin 12×Fin 8
def szD (x:Dig):Int:=((x.1.val+1:Nat):Int)
def dgD (x:Dig):Int:=((x.2.val:Nat):Int)
abbrev wo (x:Dig):Array Value:=#[.int .i64 (szD x),.int .i64 (dgD x)]
theorem vy (x:Dig):1<=szD x/\szD x<=12/\(szD x).toNat=x.1.val+1:=by unfold szD;have:=x.1.isLt;omega
theorem je (x:Dig):0<=dgD x/\dgD x<=7:=by unfold dgD;have:=x.2.isLt;omega
def mkD (j:Nat)(d:Int):Dig:=(⟨(j-1)%12,by omega⟩,⟨d.toNat%8,by omega⟩)
theorem ur {j:Nat}{d:Int}(j1:1<=j)(j2:j<=12)(d0:0<=d)(d7:d<=7):wo (mkD j d)=#[.int .i64 (j:Int),.int .i64 d]:=by
 unfold wo szD dgD mkD;simp only;rw[show(((j-1)%12+1:Nat):Int)=(j:Int)by omega,show((d.toNat%8:Nat):Int)=d by omega]
def gE (r:Nat)(a b:Int)(k:Nat):List Dig:=(List.range k).map fun(i:Nat)=>mkD (r-i) (dig (ups i a b).1 (ups i a b).2)
theorem pg (r:Nat)(a b:Int)(k:Nat):gE r a b (k+1)=gE r a b k++[mkD (r-k) (dig (ups k a b).1 (ups k a b).2)]:=by unfold gE;rw[List.range_succ,List.map_append];rfl
theorem Bj (r:Nat)(a b:Int)(k:Nat):(gE r a b k).length=k:=by unfold gE;simp
theorem sq {w:World}{p:Addr}{n:Int}(h:w.cell? p=some (.int .i64 n)):be w p=n:=by unfold be;rw[h]
theorem Cj (r:Nat)(a b:Int)(h:Ok4 (r:Int) a b)(n₀:Nat)(w:World)(hn:n₀<=w.heap.size)(g0:1<n₀)(g1:0<n₀)(hT:Tabs w) :
 AK Fence.wide 2 Tryz.prog 101 #[.agg #[.int .i64 (r:Int),.int .i64 a,.int .i64 b]] #[] wo n₀ (fun xs=>xs=gE r a b r) (fun _=>True) r w:=by
 intro l J Jx W hW hJ hJx hY h0;have hT0:Hid (Tabs W):=hT.below hW;have hW0:n₀<=W.heap.size:=Nat.le_trans hn hW.size;clear hT;refine callsIn_of_wp Tryz.func101 rfl trivial ?_ rfl;simp only[Tryz.ntmps101,List.size_toArray,List.length_cons,List.length_nil,Nat.reduceAdd,Nat.reduceSub,Array.replicate_succ,Array.replicate_zero,List.push_toArray,List.append_toArray,List.nil_append,List.cons_append]
 gi_wp2
 have hz0:(((W.alloc (.cells #[.int .i64 (r:Int),.int .i64 a,.int .i64 b] 148)).alloc (.cells #[.int .i64 (r:Int),.int .i64 a,.int .i64 b] 39))).heap.size=W.heap.size+2:=by simp
 gi_loopw [4] (fun v4 wr=>∃k B:Nat,k<=r/\v4=.pointer (some ⟨B,0,none⟩)/\W.heap.size<=B/\wr.cell? ⟨B,0,none⟩=some (.int .i64 ((r:Int)-(k:Int)))/\wr.cell? ⟨B,1,none⟩=some (.int .i64 (ups k a b).1)/\wr.cell? ⟨B,2,none⟩=some (.int .i64 (ups k a b).2)/\wr.frozen? ⟨B,0,none⟩=false/\wr.frozen? ⟨B,1,none⟩=false/\wr.frozen? ⟨B,2,none⟩=false/\Below n₀ W wr/\W.heap.size<=wr.heap.size/\J (gE r a b k) wr) (fun v4 wr=>match v4 with | .pointer (some p)=>(be wr p).toNat | _=>0)
 case atStart =>
  exact⟨0,W.heap.size+1,by omega,rfl,by omega,by go_simp,by go_simp;rfl,by go_simp;rfl,by go_simp,by go_simp,by go_simp,by go_grown,by simp;omega,hJ _ _ _ h0 (by go_grown)⟩
 case round =>
  obtain⟨k,B,hk,rfl,hB,z0,z1,z2,fz0,fz1,fz2,hb,hsz,hJr⟩:=hrel;by_cases hlt:k<r
  · have hO:=uU h k (by omega);have hdr:Below wr.heap.size wr wr.drew:=(Below.refl _ _).drew;have hT1:Tabs wr.drew:=(hT0.out.low (B:=n₀) g0 g1 hb).below hdr;have hDG:Calls Tryz.prog 150 #[.agg #[.int .i64 ((r:Int)-(k:Int)),.int .i64 (ups k a b).1,.int .i64 (ups k a b).2]] wr.drew fun e w'=>e=.returned (.int .i64 (dig (ups k a b).1 (ups k a b).2))/\Below wr.drew.heap.size wr.drew w':=vQ _ _ _ hO (by omega) _ hT1;have hYY:∀w1,Below wr.drew.heap.size wr.drew w1->YieldAt Fence.wide 1 Tryz.prog l #[.int .i64 ((r:Int)-(k:Int)),.int .i64 (dig (ups k a b).1 (ups k a b).2)] w1 fun e W'=>∃v:Bool,e=.returned (.bool v)/\((v=true/\J (gE r a b (k+1)) W'/\Below n₀ w1 W'/\High W.heap.size w1 W')∨(v=false/\∃pre,Jx pre W')):=by
     intro w1 hb1;have hJ1:J (gE r a b k) w1:=hJ _ _ _ hJr ((hdr.trans hb1).mono hsz);have hd:=fS (ups k a b).1 (ups k a b).2;have h12:=h.2.1;obtain⟨fn,tmps,assign,body,hy,hR⟩:=hY _ (mkD (r-k) (dig (ups k a b).1 (ups k a b).2)) w1 hJ1 (by rw[Bj];exact hlt) (by have:=hb1.size;have:=hdr.size;omega);rw[ur (by omega) (by omega) hd.1 (by omega),show((r-k:Nat):Int)=(r:Int)-(k:Int)by omega]at hy;refine⟨fn,tmps,assign,body,hy,hR.mono ?_⟩;rintro e W' (⟨rfl,h1,h2,h3⟩ | ⟨rfl,h1⟩)
     · exact⟨true,rfl,.inl ⟨rfl,by rw[pg];exact h1,h2,h3⟩⟩
     · exact⟨false,rfl,.inr ⟨rfl,_,h1⟩⟩
    generalize dig (ups k a b).1 (ups k a b).2=D at *;have d0:wr.drew.cell? ⟨B,0,none⟩=some (.int .i64 ((r:Int)-(k:Int))):=z0
    gi_wp2
    gi_region_with (first | (refine⟨trivial,?_⟩;gi_at_call 150;refine(callsIn_wide.2 hDG).mono ?_;rintro e w1 ⟨rfl,hb1⟩;have y0:=aa hb1 d0;obtain⟨fn,tmps,assign,body,hy,hR⟩:=hYY w1 hb1) | (refine hR.mono ?_;rintro e W3 ⟨v,rfl,hv⟩))
    all_goals
     rcases hv with⟨rfl,h1,h2,h3⟩ | ⟨rfl,pre,h1⟩
     · have c0:=h3.cell (p:=⟨B,0,none⟩) hB y0;have c1:=h3.cell (p:=⟨B,1,none⟩) hB (aa hb1 (show wr.drew.cell? ⟨B,1,none⟩=_ from z1));have c2:=h3.cell (p:=⟨B,2,none⟩) hB (aa hb1 (show wr.drew.cell? ⟨B,2,none⟩=_ from z2));have hb3:Below n₀ W W3:=((hb.trans (hdr.mono (by omega))).trans (hb1.mono (by have:=hdr.size;omega))).trans h2;have hs3:W.heap.size<=W3.heap.size:=by have:=h3.size;have:=hb1.size;have:=hdr.size;omega
       have hT3:Tabs W3:=hT0.out.low (B:=n₀) g0 g1 hb3;have PA:Hid (∀w,Tabs w->Calls Tryz.prog 149 #[.agg #[.int .i64 ((r:Int)-(k:Int)),.int .i64 (ups k a b).1,.int .i64 (ups k a b).2]] w fun e w'=>e=.returned (.tuple #[.agg #[.int .i64 ((r:Int)-(k:Int)-1),.int .i64 (ups (k+1) a b).1,.int .i64 (ups (k+1) a b).2],.int .i64 0])/\Below w.heap.size w w'):=by
        intro w hT;rw[it];exact ti _ _ _ hO (by omega) w hT
       generalize (ups k a b).1=P at *;generalize (ups k a b).2=Q at *;clear hDG hYY hy hR;have a0:(W3.alloc (.cells #[.int .i64 ((r:Int)-(k:Int)),.int .i64 P,.int .i64 Q] 39)).cell? ⟨W3.heap.size,0,none⟩=some (.int .i64 ((r:Int)-(k:Int))):=by go_simp
       have a1:(W3.alloc (.cells #[.int .i64 ((r:Int)-(k:Int)),.int .i64 P,.int .i64 Q] 39)).cell? ⟨W3.heap.size,1,none⟩=some (.int .i64 P):=by go_simp
       have a2:(W3.alloc (.cells #[.int .i64 ((r:Int)-(k:Int)),.int .i64 P,.int .i64 Q] 39)).cell? ⟨W3.heap.size,2,none⟩=some (.int .i64 Q):=by go_simp
       have f0:(W3.alloc (.cells #[.int .i64 ((r:Int)-(k:Int)),.int .i64 P,.int .i64 Q] 39)).frozen? ⟨W3.heap.size,0,none⟩=false:=by go_simp
       have f1:(W3.alloc (.cells #[.int .i64 ((r:Int)-(k:Int)),.int .i64 P,.int .i64 Q] 39)).frozen? ⟨W3.heap.size,1,none⟩=false:=by go_simp
       have f2:(W3.alloc (.cells #[.int .i64 ((r:Int)-(k:Int)),.int .i64 P,.int .i64 Q] 39)).frozen? ⟨W3.heap.size,2,none⟩=false:=by go_simp
       have hal:=ag W3 (.cells #[.int .i64 ((r:Int)-(k:Int)),.int .i64 P,.int .i64 Q] 39);have hT4:=hT3.below hal
       gi_wp2_with (refine⟨trivial,?_⟩;gi_at_call 149;refine(callsIn_wide.2 (PA.out _ hT4)).mono ?_;rintro e w4 ⟨rfl,hb4⟩;have q0:=aa hb4 a0;have q1:=aa hb4 a1;have q2:=aa hb4 a2;have fq0:=ac hb4 a0 f0;have fq1:=ac hb4 a1 f1;have fq2:=ac hb4 a2 f2)
       obtain⟨e0,e1,e2⟩:=aJ (u0:=.int .i64 ((r:Int)-(k:Int)-1)) (u1:=.int .i64 (ups (k+1) a b).1) (u2:=.int .i64 (ups (k+1) a b).2) q0 q1 q2;have hb5:=ae hal hb4;have hb6:=(((hb5.mono (show W.heap.size<=W3.heap.size by omega)).setCell (p:=⟨W3.heap.size,0,none⟩) hs3 (.int .i64 ((r:Int)-(k:Int)-1))).setCell (p:=⟨W3.heap.size,1,none⟩) hs3 (.int .i64 (ups (k+1) a b).1)).setCell (p:=⟨W3.heap.size,2,none⟩) hs3 (.int .i64 (ups (k+1) a b).2);go_roundw
       case rel=>exact⟨k+1,W3.heap.size,by omega,rfl,hs3,by rw[e0,show((r:Int)-((k+1:Nat):Int))=(r:Int)-(k:Int)-1 by omega],e1,e2,by simp[fq0],by simp[fq1],by simp[fq2],hb3.trans (hb6.mono (by omega)),by have:=hb6.size;omega,hJ _ _ _ h1 hb6⟩
       case measure =>
        show(be _ _).toNat<(be _ _).toNat
        rw[sq e0,sq z0];omega
     · gi_wp2
       refine bodyPost_ret (results_none rfl _ _ _) rfl ?_;exact⟨⟨_,rfl⟩,.inr ⟨pre,trivial,h1⟩⟩
  · obtain rfl:k=r:=by omega
    gi_wp2
    go_end0
    exact⟨⟨_,rfl⟩,.inl ⟨_,rfl,hJr⟩⟩
end
end Go.Proofs.YtbnlhdnnenahfaaGreatDoor
namespace Go.Proofs.YtbnlhdnnenahfaaGreatDoor
open Go.RowKit Go
attribute [local go_sem] Oper.semAt_some
def fR (v:Int)(xs:List Dig):Int:=xs.foldl (fun v x=>fo v (x.1.val+1) (dgD x)) v
theorem oZ (v:Int)(xs:List Dig)(x:Dig):fR v (xs++[x])=fo (fR v xs) (x.1.val+1) (dgD x):=by unfold fR;rw[List.foldl_append];rfl
theorem qB {v:Int}(hv:U64 v):∀xs:List Dig,U64 (fR v xs)
 | []=>hv
 | x :: xs=>qB (v:=fo v (x.1.val+1) (dgD x)) (sn hv (je x).1 (je x).2 (by omega) (by have:=x.1.isLt;omega)) xs
def dp (r:Nat)(a b:Int)(k:Nat)(j:Nat):Int:=if r<j+k then dgs r a b j else 7
theorem ki (r:Nat)(a b:Int)(k j:Nat):0<=dp r a b k j/\dp r a b k j<=7:=by
 unfold dp
 split
 · exact kX r a b j
 · omega
theorem oY (r:Nat)(a b R A B:Int)(hr:r<=12):∀k,k<=r->fR (wd R A B fun _=>7) (gE r a b k)=wd R A B (dp r a b k)
 | 0,_=>by
  show wd R A B _=_
  apply fe;intro j j1 j2;unfold dp
  split
  · exact((gs r a b j).2 (by omega)).symm
  · rfl
 | k+1,hk=>by
  have hd:=fS (ups k a b).1 (ups k a b).2;rw[pg,oZ,oY r a b R A B hr k (by omega)];rw[show(mkD (r-k) (dig (ups k a b).1 (ups k a b).2)).1.val+1=r-k by show(r-k-1)%12+1=r-k;omega];rw[show dgD (mkD (r-k) (dig (ups k a b).1 (ups k a b).2))=dig (ups k a b).1 (ups k a b).2 by show((((dig (ups k a b).1 (ups k a b).2).toNat%8:Nat)):Int)=_;omega];rw[oS (fun j _ _=>ki r a b k j) _ (by omega) (by omega)];apply fe;intro j j1 j2;by_cases hj:j=r-k
  · subst hj;rw[oO];unfold dp dgs;rw[if_pos (by omega),if_pos (by omega),show r-(r-k)=k by omega]
  · rw[jK _ _ hj];unfold dp;by_cases h1:r<j+k
    · rw[if_pos h1,if_pos (by omega)]
    · rw[if_neg h1,if_neg (by omega)]
theorem AO (r:Nat)(a b:Int)(hr:r<=12):fR (wd r (ups r a b).1 (ups r a b).2 fun _=>7) (gE r a b r)=av r a b:=by
 rw[oY r a b _ _ _ hr r (by omega)];unfold av;apply fe;intro j j1 j2;unfold dp;rw[if_pos (by omega)]
theorem vN {R A B:Int}(hR:0<=R/\R<=12)(hA:aG A)(hB:aG B) :
 bits .or .u64 (bits .or .u64 (bits .or .u64 (bits .or .u64 1152921504606846976 (IntKind.u64.wrap (R*72057594037927936))) (IntKind.u64.wrap ((A+512)*70368744177664))) (IntKind.u64.wrap ((B+512)*68719476736))) 68719476735=wd R A B fun _=>7:=by
 unfold aG at hA hB;obtain⟨r0,r1⟩:=hR;obtain⟨a0,a1⟩:=hA;obtain⟨b0,b1⟩:=hB;rw[di (n:=R*72057594037927936) ⟨by omega,by omega⟩,di (n:=(A+512)*70368744177664) ⟨by omega,by omega⟩,di (n:=(B+512)*68719476736) ⟨by omega,by omega⟩];have e1:bits .or .u64 1152921504606846976 (R*72057594037927936)=1152921504606846976+R*72057594037927936:=fd (i:=60) (p:=1152921504606846976) ⟨by omega,by omega⟩ rfl (by omega) (by omega) (by omega) (by omega);have e2:bits .or .u64 (1152921504606846976+R*72057594037927936) ((A+512)*70368744177664)=1152921504606846976+R*72057594037927936+(A+512)*70368744177664:=fd (i:=56) (p:=72057594037927936) ⟨by omega,by omega⟩ rfl (by omega) (by omega) (by omega) (by omega);have e3:bits .or .u64 (1152921504606846976+R*72057594037927936+(A+512)*70368744177664) ((B+512)*68719476736)=1152921504606846976+R*72057594037927936+(A+512)*70368744177664+(B+512)*68719476736:=fd (i:=46) (p:=70368744177664) ⟨by omega,by omega⟩ rfl (by omega) (by omega) (by omega) (by omega);have e4:bits .or .u64 (1152921504606846976+R*72057594037927936+(A+512)*70368744177664+(B+512)*68719476736) 68719476735=1152921504606846976+R*72057594037927936+(A+512)*70368744177664+(B+512)*68719476736+68719476735:=fd (i:=36) (p:=68719476736) ⟨by omega,by omega⟩ rfl (by omega) (by omega) (by omega) (by omega);rw[e1,e2,e3,e4];simp only[wd,dK,gF];omega
theorem I8 (R A B:Int)(hR:0<=R/\R<=12)(hA:aG A)(hB:aG B)(w:World) :
 Calls Tryz.prog 100 #[.int .i64 R,.agg #[.int .i64 A,.int .i64 B]] w fun e w'=>e=.returned (.int .u64 (wd R A B fun _=>7))/\Below w.heap.size w w' :=
 tX R A B _ _ _ _ _ _ _ hR.1 hR.2 hA.1 hA.2 hB.1 hB.2 rfl rfl rfl rfl rfl rfl (vN hR hA hB) w
theorem yt {R A B:Int}(hR:0<=R/\R<=12)(hA:aG A)(hB:aG B):U64 (wd R A B fun _=>7):=by
 have h:=(uJ (d:=fun _=>7) (R:=R) (by omega) hA hB (fun _ _ _=>⟨by omega,by omega⟩)).2.2.2.2;exact⟨h.1,by omega⟩
theorem Cd (r:Nat)(a b A B v0 V:Int)(h:Ok4 (r:Int) a b)(hv:U64 v0)(hV:fR v0 (gE r a b r)=V)
 (BA:∀w,Tabs w->Calls Tryz.prog 99 #[.agg #[.int .i64 (r:Int),.int .i64 a,.int .i64 b]] w fun e w'=>e=.returned (.tuple #[.agg #[.int .i64 0,.int .i64 A,.int .i64 B],.int .i64 0])/\Below w.heap.size w w')
 (BL:∀w,Calls Tryz.prog 100 #[.int .i64 (r:Int),.agg #[.int .i64 A,.int .i64 B]] w fun e w'=>e=.returned (.int .u64 v0)/\Below w.heap.size w w') (w:World) (hT:Tabs w) :
 Calls Tryz.prog 62 #[.agg #[.int .i64 (r:Int),.int .i64 a,.int .i64 b]] w fun e w'=>e=.returned (.tuple #[.int .u64 V,.int .i64 0])/\Below w.heap.size w w':=by
 replace BA:Hid _:=BA;replace BL:Hid _:=BL;have hT0:Hid (Tabs w):=hT;have hlt:=hT.lt;clear hT;refine(callsIn_wide (n:=3)).1 ?_;refine callsIn_of_wp_marks Tryz.func62 rfl trivial ?_ rfl;simp only[Tryz.ntmps62,List.size_toArray,List.length_cons,List.length_nil,Nat.reduceAdd,Nat.reduceSub,Array.replicate_succ,Array.replicate_zero,List.push_toArray,List.append_toArray,List.nil_append,List.cons_append];have hal:=ag w (.cells #[.int .i64 (r:Int),.int .i64 a,.int .i64 b] 39);have z0:(w.alloc (.cells #[.int .i64 (r:Int),.int .i64 a,.int .i64 b] 39)).cell? ⟨w.heap.size,0,none⟩=some (.int .i64 (r:Int)):=by go_simp
 have z1:(w.alloc (.cells #[.int .i64 (r:Int),.int .i64 a,.int .i64 b] 39)).cell? ⟨w.heap.size,1,none⟩=some (.int .i64 a):=by go_simp
 have z2:(w.alloc (.cells #[.int .i64 (r:Int),.int .i64 a,.int .i64 b] 39)).cell? ⟨w.heap.size,2,none⟩=some (.int .i64 b):=by go_simp
 gi_wp2_with (first
  | (refine⟨trivial,?_⟩;gi_at_call 99;refine(callsIn_wide.2 (BA.out _ (hT0.out.below hal))).mono ?_;rintro e w1 ⟨rfl,hb1⟩;have y0:=aa hb1 z0;have y1:=aa hb1 z1;have y2:=aa hb1 z2;have l1:w.heap.size<w1.heap.size:=(by have:=hb1.size;simp at this;omega);have n1:=Nat.ne_of_lt l1;have m1:=Nat.ne_of_gt l1)
  | (refine⟨trivial,?_⟩;gi_at_call 100;refine(callsIn_wide.2 (BL.out _)).mono ?_;rintro e w2 ⟨rfl,hb2⟩;have hb12:=ae (ag w1 (.cells #[.int .i64 0,.int .i64 A,.int .i64 B] 39)) hb2;have x0:=aa hb12 y0;have x1:=aa hb12 y1;have x2:=aa hb12 y2;have l2:w.heap.size<w2.heap.size:=(by have:=hb12.size;omega);have n2:=Nat.ne_of_lt l2;have m2:=Nat.ne_of_gt l2))
 all_goals
  have hlt2:=hlt;have hb02:=ae hal (ae hb1 hb12);have hal2:=ag w2 (.cells #[.int .u64 v0] 121);have hbs:Below w.heap.size w (w2.alloc (.cells #[.int .u64 v0] 121)):=ae hb02 hal2;have hTs:=hT0.out.below hbs;have s0:(w2.alloc (.cells #[.int .u64 v0] 121)).cell? ⟨w2.heap.size,0,none⟩=some (.int .u64 v0):=by go_simp
  have s1:(w2.alloc (.cells #[.int .u64 v0] 121)).frozen? ⟨w2.heap.size,0,none⟩=false:=by go_simp
  have hz:(w2.alloc (.cells #[.int .u64 v0] 121)).heap.size=w2.heap.size+1:=by simp
  generalize w2.alloc (.cells #[.int .u64 v0] 121)=ws at *;refine se rfl (by omega) (gf:=101) (pb:=#[.agg #[.int .i64 (r:Int),.int .i64 a,.int .i64 b]]) (lb:=#[]) rfl trivial (enters_of Tryz.func101 (by kernel_rfl) rfl)
   (Cj r a b h w.heap.size ws (by omega) hlt2.1 hlt2.2 hTs) (by omega) (fun _=>rfl)
   (fun pre W=>(W.cell? ⟨w2.heap.size,0,none⟩=some (.int .u64 (fR v0 pre))/\W.frozen? ⟨w2.heap.size,0,none⟩=false)/\Below w.heap.size w W)
   (fun _ _ _=>False) ?hI (fun _ _ _ _ h _=>h) ⟨⟨s0,s1⟩,hbs⟩
   (fun x=>{ tmps:=#[.agg #[.int .i64 (r:Int),.int .i64 a,.int .i64 b],.pointer (some ⟨w.heap.size,0,none⟩),.int .u64 0,.int .i64 0,.pointer (some ⟨w1.heap.size,0,none⟩),.int .i64 0,.pointer (some ⟨w2.heap.size,0,none⟩),.int .i64 (szD x),.int .i64 (dgD x),.tuple #[.agg #[.int .i64 0,.int .i64 A,.int .i64 B],.int .i64 0],.agg #[.int .i64 (r:Int),.int .i64 a,.int .i64 b],.tuple #[.agg #[.int .i64 0,.int .i64 A,.int .i64 B],.int .i64 0],.agg #[.int .i64 0,.int .i64 A,.int .i64 B],.int .i64 0,.int .i64 0,.bool false,undef,.pointer (some ⟨w.heap.size,0,none⟩),.int .i64 (r:Int),.pointer (some ⟨w1.heap.size,1,none⟩),.agg #[.int .i64 A,.int .i64 B],.int .u64 v0,.agg #[.int .i64 (r:Int),.int .i64 a,.int .i64 b],.func (.func 101) #[.agg #[.int .i64 (r:Int),.int .i64 a,.int .i64 b]] #[],.int .i64 (szD x),.int .i64 (dgD x),undef,undef,undef,undef,undef],defers:=[] }) ?assign ?body ?done ?stop
  case hI =>
   intro s X Y hs hb;exact⟨⟨(hb.cell (p:=⟨w2.heap.size,0,none⟩) (by simp;omega)).trans hs.1.1,(hb.frozen (p:=⟨w2.heap.size,0,none⟩) (by simp;omega)).trans hs.1.2⟩,hs.2.trans (hb.mono (by omega))⟩
  case assign =>
   intro l x W K hK
   gi_wp2
   exact hK
  case body =>
   rintro l pre x W ⟨⟨hc,hf⟩,hb⟩ hs _;have hv':=qB hv pre;have hx:=vy x;have hd:=je x;have WI:Hid (∀W,Calls Tryz.prog 102 #[.int .u64 (fR v0 pre),.int .i64 (szD x),.int .i64 (dgD x)] W fun e w'=>e=.returned (.int .u64 (fR v0 (pre++[x])))/\Below W.heap.size W w'):=by
    intro W;rw[oZ];exact En (fR v0 pre) (dgD x) hv' hd.1 hd.2 (x.1.val+1) (by omega) (by omega) W
   obtain⟨v',e'⟩:∃v',fR v0 (pre++[x])=v':=⟨_,rfl⟩
   rw[e']at WI;replace e':Hid _:=e';generalize fR v0 pre=v at *
   gi_wp2_with (refine⟨trivial,?_⟩;gi_at_call 102;refine(CallsIn.inRound l (callsIn_wide.2 (WI.out _))).mono ?_;rintro e w3 ⟨rfl,hb3⟩;have hc3:=aa hb3 hc;have hf3:=ac hb3 hc hf)
   have hlw:w2.heap.size<W.heap.size:=World.block_lt_of_cell? _ _ hc;exact⟨(hb3.mono (by omega)).setCell (p:=⟨w2.heap.size,0,none⟩) (by simp;omega) _,(High.of_below hb3).setCell (p:=⟨w2.heap.size,0,none⟩) (by simp;omega) _,⟨by rw[e'.out];exact ay hc3,by simp[hf3]⟩,(hb.trans (hb3.mono (by omega))).setCell (p:=⟨w2.heap.size,0,none⟩) (by simp;omega) _⟩
  case done =>
   rintro D xs W hD rfl ⟨⟨hc,hf⟩,hb⟩ hK;rw[hV]at hc
   gi_wp2
   refine⟨by simp,.inl ⟨_,_,rfl,run_takeDeferred hK,?_⟩⟩;exact⟨_,results_tmp2 rfl _ _ _,rfl,hb.trans (fF W D _ (by have:=hb.size;omega) (by omega))⟩
  case stop =>
   rintro D c pre W _ _ h _;exact h.elim
theorem uO (r:Nat)(a b:Int)(h:Ok4 (r:Int) a b)(w:World)(hT:Tabs w) :
 Calls Tryz.prog 62 #[.agg #[.int .i64 (r:Int),.int .i64 a,.int .i64 b]] w fun e w'=>e=.returned (.tuple #[.int .u64 (av r a b),.int .i64 0])/\Below w.heap.size w w':=by
 have hA:=h.2.2.2.2.1;have hB:=h.2.2.2.2.2;have hr:(0:Int)<=(r:Int)/\(r:Int)<=12:=⟨h.1,h.2.1⟩
 rw[show((r:Int)).toNat=r by omega]at hA hB;have BA:=yA (r:Int) a b h;rw[show((r:Int)).toNat=r by omega]at BA;exact Cd r a b _ _ _ _ h (yt hr hA hB) (AO r a b (by omega)) BA (I8 r _ _ hr hA hB) w hT
end Go.Proofs.YtbnlhdnnenahfaaGreatDoor
namespace Go.Proofs.YtbnlhdnnenahfaaGreatDoor
open Go.RowKit
def fl (n:Nat)(a b:Int)(j:Nat):Int:=wd (-16) (-512) (-512) (dp n a b (n-j))
theorem rx (n:Nat)(a b:Int)(j:Nat):0<=fl n a b j/\fl n a b j<68719476736:=by
 have h:=rv (d:=dp n a b (n-j)) (fun i _ _=>ki n a b (n-j) i);unfold fl wd dK;omega
theorem wV (n:Nat)(a b:Int):fl n a b n=68719476735:=by
 have e:∀j,1<=j->j<=12->dp n a b (n-n) j=(fun _=>(7:Int)) j:=by
  intro j _ _;unfold dp
  split
  · exact(gs n a b j).2 (by omega)
  · rfl
 unfold fl;rw[fe e];decide
theorem zj {n:Nat}{a b:Int}(hn:n<=12){j:Nat}(j1:1<=j)(j2:j<=n):fo (fl n a b j) j (dig (ups (n-j) a b).1 (ups (n-j) a b).2)=fl n a b (j-1):=by
 unfold fl;rw[oS (fun i _ _=>ki n a b (n-j) i) _ j1 (by omega)];apply fe;intro i i1 i2;by_cases hi:i=j
 · subst hi;rw[oO];unfold dp dgs;rw[if_pos (by omega),if_pos (by omega)]
 · rw[jK _ _ hi];unfold dp;by_cases h1:n<i+(n-j)
   · rw[if_pos h1,if_pos (by omega)]
   · rw[if_neg h1,if_neg (by omega)]
theorem Co (n:Nat)(a b:Int):dK n (ups n a b).1 (ups n a b).2+fl n a b 0=av n a b:=by
 have e:∀j,1<=j->j<=12->dp n a b (n-0) j=dgs n a b j:=by
  intro j _ _;unfold dp;rw[if_pos (by omega)]
 unfold fl av;rw[fe e];unfold wd;have:dK (-16) (-512) (-512)=0:=by decide
 omega
theorem za {L R A B:Int}(hL:0<=L/\L<68719476736)(hR:0<=R/\R<=12)(hA:aG A)(hB:aG B) :
 bits .or .u64 (bits .or .u64 (bits .or .u64 (bits .or .u64 L 1152921504606846976) (IntKind.u64.wrap (R*72057594037927936))) (IntKind.u64.wrap ((A+512)*70368744177664))) (IntKind.u64.wrap ((B+512)*68719476736))=dK R A B+L:=by
 unfold aG at hA hB;obtain⟨r0,r1⟩:=hR;obtain⟨a0,a1⟩:=hA;obtain⟨b0,b1⟩:=hB;obtain⟨l0,l1⟩:=hL;rw[di (n:=R*72057594037927936) ⟨by omega,by omega⟩,di (n:=(A+512)*70368744177664) ⟨by omega,by omega⟩,di (n:=(B+512)*68719476736) ⟨by omega,by omega⟩];have uL:U64 L:=⟨by omega,by omega⟩
 have uM:U64 1152921504606846976:=⟨by omega,by omega⟩
 have uR:U64 (R*72057594037927936):=⟨by omega,by omega⟩
 have uA:U64 ((A+512)*70368744177664):=⟨by omega,by omega⟩
 have uB:U64 ((B+512)*68719476736):=⟨by omega,by omega⟩
 rw[oW uL uM uR];have e1:bits .or .u64 1152921504606846976 (R*72057594037927936)=1152921504606846976+R*72057594037927936:=fd (i:=60) (p:=1152921504606846976) uM rfl (by omega) (by omega) (by omega) (by omega);have u1:U64 (1152921504606846976+R*72057594037927936):=⟨by omega,by omega⟩
 rw[e1,oW uL u1 uA];have e2:bits .or .u64 (1152921504606846976+R*72057594037927936) ((A+512)*70368744177664)=1152921504606846976+R*72057594037927936+(A+512)*70368744177664:=fd (i:=56) (p:=72057594037927936) u1 rfl (by omega) (by omega) (by omega) (by omega);have u2:U64 (1152921504606846976+R*72057594037927936+(A+512)*70368744177664):=⟨by omega,by omega⟩
 rw[e2,oW uL u2 uB];have e3:bits .or .u64 (1152921504606846976+R*72057594037927936+(A+512)*70368744177664) ((B+512)*68719476736)=dK R A B:=by
  unfold dK;exact fd (i:=46) (p:=70368744177664) u2 rfl (by omega) (by omega) (by omega) (by omega)
 have u3:U64 (dK R A B):=by unfold dK;exact⟨by omega,by omega⟩
 rw[e3,GN uL u3];exact fd (i:=36) (p:=68719476736) u3 rfl (by unfold dK;omega) (by omega) (by omega) (by omega)
theorem iE (n:Nat)(a b:Int)(h:Ok4 (n:Int) a b)(w:World) :
 Calls Tryz.prog 73 #[.agg #[.int .i64 (n:Int),.int .i64 a,.int .i64 b]] w fun e w'=>e=.returned (.tuple #[.int .u64 (av n a b),.int .i64 0])/\Below w.heap.size w w':=by
 have hn:n<=12:=by have:=h.2.1;omega
 have OK:Hid (∀w,Calls Tryz.prog 118 #[.agg #[.int .i64 (n:Int),.int .i64 a,.int .i64 b]] w fun e w'=>e=.returned (.bool true)/\Below w.heap.size w w'):=fun w=>by rw[←jh h];exact g8 (n:Int) a b w
 have PA:Hid (∀k:Nat,k<=n->∀w,Calls Tryz.prog 119 #[.agg #[.int .i64 (ups k a b).1,.int .i64 (ups k a b).2]] w fun e w'=>e=.returned (.tuple #[.agg #[.int .i64 (ups (k+1) a b).1,.int .i64 (ups (k+1) a b).2],.int .i64 (dig (ups k a b).1 (ups k a b).2)])/\Below w.heap.size w w'):=by
  intro k hk w;have hx:=lI (B:=1073741824) (by omega) k (a:=a) (b:=b) h.2.2.1 h.2.2.2.1;rw[it];exact iV _ _ hx.1 hx.2 w
 have hst:=wV n a b;have hen:Hid (bits .or .u64 (bits .or .u64 (bits .or .u64 (bits .or .u64 (fl n a b 0) 1152921504606846976) (IntKind.u64.wrap ((n:Int)*72057594037927936))) (IntKind.u64.wrap (((ups n a b).1+512)*70368744177664))) (IntKind.u64.wrap (((ups n a b).2+512)*68719476736))=av n a b):=by
  have hA:=h.2.2.2.2.1;have hB:=h.2.2.2.2.2;rw[show((n:Int)).toNat=n by omega]at hA hB;show _=_
  rw[za (rx n a b 0) (by omega) hA hB,Co]
 have hbb:Hid (aG (ups n a b).1/\aG (ups n a b).2):=by
  have hA:=h.2.2.2.2.1;have hB:=h.2.2.2.2.2;rw[show((n:Int)).toNat=n by omega]at hA hB;exact⟨hA,hB⟩
 generalize hW:av n a b=WW at *;clear hW h
 go_enter Tryz.func73,Tryz.ntmps73
 go_wp2_with fail;refine(OK.out _).mono ?_;rintro e w1 ⟨rfl,d1⟩;have c1:Below w.heap.size w w1:=Below.trans (by go_grown) (d1.mono (by simp;try omega));have z0:w1.cell? ⟨w.heap.size,0,none⟩=some (.int .i64 (n:Int)):=aa d1 (by go_simp);have qz0:=World.block_lt_of_cell? _ _ z0;have z1:w1.cell? ⟨w.heap.size,1,none⟩=some (.int .i64 a):=aa d1 (by go_simp);have z2:w1.cell? ⟨w.heap.size,2,none⟩=some (.int .i64 b):=aa d1 (by go_simp);have hB:=c1;clear c1 d1;go_wp2_with fail;have hal:=ag w1 (.cells #[.int .i64 a,.int .i64 b] 37);have y0:(w1.alloc (.cells #[.int .i64 a,.int .i64 b] 37)).cell? ⟨w1.heap.size,0,none⟩=some (.int .i64 a):=by go_simp
 have y1:(w1.alloc (.cells #[.int .i64 a,.int .i64 b] 37)).cell? ⟨w1.heap.size,1,none⟩=some (.int .i64 b):=by go_simp
 have fy0:(w1.alloc (.cells #[.int .i64 a,.int .i64 b] 37)).frozen? ⟨w1.heap.size,0,none⟩=false:=by go_simp
 have fy1:(w1.alloc (.cells #[.int .i64 a,.int .i64 b] 37)).frozen? ⟨w1.heap.size,1,none⟩=false:=by go_simp
 have x0:=aa hal z0;have hB0:=ae hB hal;generalize w1.alloc (.cells #[.int .i64 a,.int .i64 b] 37)=wl at *;go_loopw [5,6] (fun v5 v6 wr=>∃j:Nat,j<=n/\v5=.int .u64 (fl n a b j)/\v6=.int .i64 (j:Int)/\wr.cell? ⟨w1.heap.size,0,none⟩=some (.int .i64 (ups (n-j) a b).1)/\wr.cell? ⟨w1.heap.size,1,none⟩=some (.int .i64 (ups (n-j) a b).2)/\wr.frozen? ⟨w1.heap.size,0,none⟩=false/\wr.frozen? ⟨w1.heap.size,1,none⟩=false/\wr.cell? ⟨w.heap.size,0,none⟩=some (.int .i64 (n:Int))/\Below w.heap.size w wr) (fun _ v6 _=>(intOf v6).toNat)
 case atStart=>exact⟨n,by omega,by rw[hst],rfl,by rw[Nat.sub_self];exact y0,by rw[Nat.sub_self];exact y1,fy0,fy1,x0,hB0⟩
 case round =>
  clear hal y0 y1 fy0 fy1 x0 hB0 hB z0 z1 z2;obtain⟨j,hj,rfl,rfl,y0,y1,fy0,fy1,x0,hB⟩:=hrel;by_cases hlt:0<j
  · have hbx:=rx n a b j;have hdd:=fS (ups (n-j) a b).1 (ups (n-j) a b).2;have hstep:=zj (a:=a) (b:=b) hn hlt hj;have hmath:=qh (v:=fl n a b j) (r:=j) ⟨by omega,by omega⟩ hdd.1 (by omega) hlt (by omega);rw[hstep]at hmath;have PJ:=PA.out (n-j) (by omega);rw[show n-j+1=n-(j-1)by omega]at PJ;replace PJ:Hid _:=PJ;obtain⟨U,hU⟩:∃U,(ups (n-(j-1)) a b).1=U:=⟨_,rfl⟩
    obtain⟨V,hV⟩:∃V,(ups (n-(j-1)) a b).2=V:=⟨_,rfl⟩
    rw[hU,hV]at PJ;generalize dig (ups (n-j) a b).1 (ups (n-j) a b).2=d at *;generalize (ups (n-j) a b).1=X at *;generalize (ups (n-j) a b).2=Y at *;obtain⟨D,eD⟩:∃D,36-3*(j:Int)=D:=⟨_,rfl⟩
    have D0:¬D<0:=by omega
    have eDn:D.toNat=3*(12-j):=by omega
    obtain⟨p,hp⟩:∃p:Int,8^(12-j)=p:=⟨_,rfl⟩
    have ep:(2:Int)^D.toNat=p:=by rw[eDn,Int.pow_mul];exact hp
    have ep':(2:Int)^min D.toNat 64=p:=by rw[show min D.toNat 64=D.toNat by omega];exact ep
    rw[hp]at hmath;obtain⟨s,hs⟩:∃s,IntKind.u64.wrap (7*p)=s:=⟨_,rfl⟩
    obtain⟨t,ht⟩:∃t,IntKind.u64.wrap (d*p)=t:=⟨_,rfl⟩
    rw[hs,ht]at hmath;obtain⟨q,hq⟩:∃q,bits .andNot .u64 (fl n a b j) s=q:=⟨_,rfl⟩
    rw[hq]at hmath;obtain⟨d0,d6⟩:=hdd;have jb:(1:Int)<=(j:Int)/\(j:Int)<=12:=by omega
    replace hU:Hid _:=hU;replace hV:Hid _:=hV;clear hstep PA hst hen hbb eDn hp;obtain⟨L',eL⟩:∃L',fl n a b (j-1)=L':=⟨_,rfl⟩
    rw[eL]at hmath;replace eL:Hid _:=eL;generalize hLj:fl n a b j=Lj at *;clear hLj;have qy0:=World.block_lt_of_cell? _ _ y0;have qx0:=World.block_lt_of_cell? _ _ x0;go_wp2_with fail;refine(PJ.out _).mono ?_;rintro e v1 ⟨rfl,d1⟩;have c1:Below wr.heap.size wr v1:=Below.trans (by go_grown) (d1.mono (by simp;try omega));replace fy0:=ac c1 y0 fy0;replace y0:=aa c1 y0;replace qy0:=World.block_lt_of_cell? _ _ y0;replace fy1:=ac c1 y1 fy1;replace y1:=aa c1 y1;replace x0:=aa c1 x0;replace qx0:=World.block_lt_of_cell? _ _ x0;replace hB:=ae hB c1;clear c1 d1;go_wp2_with fail
    go_quiet (fail)
    have hdw:Below v1.heap.size v1 ((v1.alloc (.cells #[.int .i64 U,.int .i64 V] 37)).drewN nq):=aB (ag _ _) _;have g0:((v1.alloc (.cells #[.int .i64 U,.int .i64 V] 37)).drewN nq).cell? ⟨v1.heap.size,0,none⟩=some (.int .i64 U):=by go_simp
    have g1:((v1.alloc (.cells #[.int .i64 U,.int .i64 V] 37)).drewN nq).cell? ⟨v1.heap.size,1,none⟩=some (.int .i64 V):=by go_simp
    replace fy0:=ac hdw y0 fy0;replace fy1:=ac hdw y1 fy1;replace y0:=aa hdw y0;replace y1:=aa hdw y1;replace x0:=aa hdw x0;replace hB:=ae hB hdw;clear hdw;generalize (v1.alloc (.cells #[.int .i64 U,.int .i64 V] 37)).drewN nq=wq at *;obtain⟨h0,h1⟩:=au (u:=.int .i64 U) (v:=.int .i64 V) y0 y1;go_wp2;go_roundw
    case rel=>exact⟨j-1,by omega,by rw[eL.out],by go_num,by rw[hU.out];exact h0,by rw[hV.out];exact h1,by simp[fy0],by simp[fy1],ah (ah x0 (by first | (simp;done) | (simp;omega))) (by first | (simp;done) | (simp;omega)),(hB.setCell (by simp;omega) _).setCell (by simp;omega) _⟩
    case measure=>simp[intOf];omega
  · obtain rfl:j=0:=by omega
    rw[Nat.sub_zero]at y0 y1;have hh:=hen.out;obtain⟨⟨a1,a2⟩,b1,b2⟩:=hbb.out;clear PA hst hen hbb;generalize (ups n a b).1=A at *;generalize (ups n a b).2=B at *;obtain⟨t1,e1⟩:∃t1,IntKind.u64.wrap ((n:Int)*72057594037927936)=t1:=⟨_,rfl⟩
    obtain⟨t2,e2⟩:∃t2,IntKind.u64.wrap ((A+512)*70368744177664)=t2:=⟨_,rfl⟩
    obtain⟨t3,e3⟩:∃t3,IntKind.u64.wrap ((B+512)*68719476736)=t3:=⟨_,rfl⟩
    rw[e1,e2,e3]at hh;have nb:(n:Int)<=12:=by omega
    go_wp2
    go_ret2
    exact⟨rfl,hB⟩
theorem pO {d:Int}(h0:0<d)(h6:d<=6):cW (d-1)=ptA d/\cY (d-1)=ptB d:=by
 rcases(show d=1∨d=2∨d=3∨d=4∨d=5∨d=6 by omega)with rfl | rfl | rfl | rfl | rfl | rfl <;>decide
def fE (v:Int)(e:Ending):Prop :=
 (Whole v/\e=.returned (.tuple #[.agg #[.int .i64 (wR v),.int .i64 (an v),.int .i64 (ao v)],.int .i64 0]))∨(¬Whole v/\e=.returned (.tuple #[.agg #[.int .i64 0,.int .i64 0,.int .i64 0],.int .i64 5]))
theorem tM (v:Int)(hv:U64 v)(h:¬v / 1152921504606846976=1)(w:World) :
 Calls Tryz.prog 14 #[.int .u64 v] w fun e w'=>fE v e/\Below w.heap.size w w':=by
 have hn:¬Whole v:=fun hw=>h hw.1;have hm:((v / 1152921504606846976) != 1)=true:=by simpa using h
 have e15:bits .and .u64 (v / 72057594037927936) 15=wR v:=jm _ (cO hv (by omega));have hb:=aE v;have T:Hid (∀e,e=.returned (.tuple #[.agg #[.int .i64 0,.int .i64 0,.int .i64 0],.int .i64 5])->fE v e):=fun e he=>.inr ⟨hn,he⟩;generalize wR v=R at *;clear hn h
 go_enter Tryz.func14,Tryz.ntmps14
 go_wp2;exact bodyPost_ret (v:=.tuple #[.agg #[.int .i64 0,.int .i64 0,.int .i64 0],.int .i64 5]) (by simp[results,Tryz.results14,go_sem]) rfl ⟨T.out _ rfl,by go_grown⟩
theorem tN (v:Int)(hv:U64 v)(h:v / 1152921504606846976=1)(h2:12<wR v)(w:World) :
 Calls Tryz.prog 14 #[.int .u64 v] w fun e w'=>fE v e/\Below w.heap.size w w':=by
 have hn:¬Whole v:=fun hw=>by have:=hw.2.1;omega
 have e15:bits .and .u64 (v / 72057594037927936) 15=wR v:=jm _ (cO hv (by omega));have hb:=aE v;have T:Hid (∀e,e=.returned (.tuple #[.agg #[.int .i64 0,.int .i64 0,.int .i64 0],.int .i64 5])->fE v e):=fun e he=>.inr ⟨hn,he⟩;generalize wR v=R at *;clear hn
 go_enter Tryz.func14,Tryz.ntmps14
 go_wp2;exact bodyPost_ret (v:=.tuple #[.agg #[.int .i64 0,.int .i64 0,.int .i64 0],.int .i64 5]) (by simp[results,Tryz.results14,go_sem]) rfl ⟨T.out _ rfl,by go_grown⟩
theorem tO (v:Int)(hv:U64 v)(h:v / 1152921504606846976=1)(n:Nat)(hn:wR v=(n:Int))(h12:n<=12)(w:World) :
 Calls Tryz.prog 14 #[.int .u64 v] w fun e w'=>fE v e/\Below w.heap.size w w':=by
 have e15:bits .and .u64 (v / 72057594037927936) 15=(n:Int):=by rw[jm _ (cO hv (by omega))];exact hn
 have hAB:=lJ v;have e46:bits .and .u64 (v / 70368744177664) 1023=wA v+512:=by rw[lH _ (cO hv (by omega))];unfold wA;omega
 have e36:bits .and .u64 (v / 68719476736) 1023=wB v+512:=by rw[lH _ (cO hv (by omega))];unfold wB;omega
 have DG:Hid (∀k:Nat,1<=k->k<=12->∃D p x:Int,36-3*(k:Int)=D/\0<=D/\D<=36/\(2:Int)^D.toNat=p/\v / p=x/\bits .and .u64 x 7=dg v k):=by
  intro k k1 k2;have hpp:=jJ k1 k2;refine⟨36-3*(k:Int),8^(12-k),_,rfl,by omega,by omega,?_,rfl,?_⟩
  · rw[show(36-3*(k:Int)).toNat=3*(12-k)by omega,Int.pow_mul];rfl
  · rw[AC _ (cO hv (by omega))];rfl
 have hdb:Hid (∀k,0<=dg v k/\dg v k<=7):=dV v;have hYes:Hid ((∀j:Nat,1<=j->j<=12->(dg v j=7↔(n:Int)<(j:Int)))->∀e,e=.returned (.tuple #[.agg #[.int .i64 (n:Int),.int .i64 (bW (dg v) n (wA v) (wB v)).1,.int .i64 (bW (dg v) n (wA v) (wB v)).2],.int .i64 0])->fE v e):=by
  intro hf e he;refine .inl ⟨⟨h,by omega,fun j j1 j2=>by rw[hn];exact hf j j1 j2⟩,?_⟩;rw[he,hn];unfold an ao;rw[hn];rfl
 have hNo:Hid (∀j:Nat,1<=j->j<=12->¬(dg v j=7↔(n:Int)<(j:Int))->∀e,e=.returned (.tuple #[.agg #[.int .i64 0,.int .i64 0,.int .i64 0],.int .i64 5])->fE v e) :=
  fun j j1 j2 hf e he=>.inr ⟨fun hw=>hf (by have:=hw.2.2 j j1 j2;rwa [hn]at this),he⟩
 have MU:Hid (∀P Q:Int,(-400000000<=P/\P<=400000000)->(-400000000<=Q/\Q<=400000000)->∀w,Calls Tryz.prog 35 #[.agg #[.int .i64 P,.int .i64 Q],.agg #[.int .i64 2,.int .i64 1]] w fun e w'=>e=.returned (.tuple #[.agg #[.int .i64 (2*P-Q),.int .i64 (P+3*Q)],.bool true])/\Below w.heap.size w w'):=by
  intro P Q hP hQ w;have e1:dL P Q 2 1=2*P-Q:=by unfold dL;omega
  have e2:d9 P Q 2 1=P+3*Q:=by unfold d9;omega
  have:=dM P Q 2 1 (by omega) (by omega) (by omega) (by omega) (by omega) (by omega) (by omega) (by omega) (by rw[e1];exact ax (by omega)) (by rw[e2];exact ax (by omega)) w
  rwa [e1,e2]at this
 have UN:Hid (∀d:Int,0<d->d<=6->∀w,Calls Tryz.prog 36 #[.int .i64 (d-1)] w fun e w'=>e=.returned (.agg #[.int .i64 (ptA d),.int .i64 (ptB d)])/\Below w.heap.size w w'):=by
  intro d d0 d6 w;have:=fu (d-1) w;rw[show(d-1)%6=d-1 by omega]at this
  rwa [(pO d0 d6).1,(pO d0 d6).2]at this
 have hO0:Hid (Ok4 ((0:Nat):Int) (wA v) (wB v)):=dh (r:=0) (by omega) hAB.1 hAB.2;obtain⟨⟨a1,a2⟩,b1,b2⟩:=hAB;generalize wA v=A at *;generalize wB v=B at *;generalize dg v=d at *;have eA:A+512-512=A:=by omega
 have eB:B+512-512=B:=by omega
 have hnb:(n:Int)<=12:=by omega
 have hm:v / 1152921504606846976=1:=h;clear hn h hv
 go_enter Tryz.func14,Tryz.ntmps14
 go_wp2_with fail;go_loopw [6] (fun v6 wr=>∃(j:Nat) (P Q:Int),1<=j/\j<=13/\v6=.int .i64 (j:Int)/\Hid (∀i:Nat,1<=i->i<j->(d i=7↔(n:Int)<(i:Int)))/\Hid (Ok4 ((min (j-1) n:Nat):Int) P Q)/\Hid ((P,Q)=bW d (min (j-1) n) A B)
  /\wr.cell? ⟨w.heap.size+1,0,none⟩=some (.int .i64 P)/\wr.cell? ⟨w.heap.size+1,1,none⟩=some (.int .i64 Q)/\wr.frozen? ⟨w.heap.size+1,0,none⟩=false/\wr.frozen? ⟨w.heap.size+1,1,none⟩=false
  /\wr.cell? ⟨w.heap.size,0,none⟩=some (.int .i64 0)/\wr.cell? ⟨w.heap.size,1,none⟩=some (.int .i64 0)/\wr.cell? ⟨w.heap.size,2,none⟩=some (.int .i64 0)/\wr.frozen? ⟨w.heap.size,0,none⟩=false/\wr.frozen? ⟨w.heap.size,1,none⟩=false/\wr.frozen? ⟨w.heap.size,2,none⟩=false/\Below w.heap.size w wr) (fun v6 _=>13-(intOf v6).toNat)
 case atStart=>exact⟨1,A,B,by omega,by omega,rfl,fun i i1 i2=>by omega,by rw[show min (1-1) n=0 by omega];exact hO0,by show _=_;rw[show min (1-1) n=0 by omega];rfl,by go_simp,by go_simp,by go_simp,by go_simp,by go_simp,by go_simp,by go_simp,by go_simp,by go_simp,by go_simp,by go_grown⟩
 case round =>
  clear hO0;obtain⟨j,P,Q,j1,j13,rfl,hf,hO,hPQ,z0,z1,fz0,fz1,r0,r1,r2,fr0,fr1,fr2,hB⟩:=hrel;have lz:w.heap.size+1<wr.heap.size:=World.block_lt_of_cell? _ _ z0;have lz0:w.heap.size<wr.heap.size:=by omega
  by_cases hlt:j<=12
  · obtain⟨D,p,X,eD,D0,D36,ep,ex,ed⟩:=DG.out j j1 hlt;have hdj:=hdb.out j;have D0':¬D<0:=by omega
    have ep':(2:Int)^min D.toNat 64=p:=by rw[show min D.toNat 64=D.toNat by omega];exact ep
    have jb:(j:Int)<=12:=by omega
    have hNj:=hNo.out j j1 hlt;by_cases hjn:n<j
    · have hj1:(n:Int)<(j:Int):=by omega
      by_cases h7:d j=7
      · have hfn:Hid (∀i:Nat,1<=i->i<j+1->(d i=7↔(n:Int)<(i:Int))):=by
         intro i i1 i2;by_cases hij:i=j
         · subst hij;exact⟨fun _=>hj1,fun _=>h7⟩
         · exact hf.out i i1 (by omega)
        rw[h7]at ed hdj;clear DG hdb hYes hNo hNj hf MU UN h7;go_wp2;go_roundw
        case rel=>exact⟨j+1,P,Q,by omega,by omega,by go_num,hfn,by rw[show min (j+1-1) n=min (j-1) n by omega];exact hO,by rw[show min (j+1-1) n=min (j-1) n by omega];exact hPQ,z0,z1,fz0,fz1,r0,r1,r2,fr0,fr1,fr2,hB⟩
        case measure=>simp[intOf];omega
      · have hT:=hNj (fun hh=>h7 (hh.2 hj1));have h7':(d j != 7)=true:=by simpa using h7
        replace hT:Hid _:=hT;generalize d j=dj at *;clear DG hdb hYes hNo hNj hf MU UN h7 hPQ hO;obtain⟨g0,g1,g2⟩:=aJ (u0:=.int .i64 0) (u1:=.int .i64 0) (u2:=.int .i64 0) r0 r1 r2;go_wp2;exact bodyPost_ret (v:=.tuple #[.agg #[.int .i64 0,.int .i64 0,.int .i64 0],.int .i64 5]) (by simp[results,Tryz.results14,go_sem,g0,g1,g2]) rfl ⟨hT.out _ rfl,((hB.setCell (by simp) _).setCell (by simp) _).setCell (by simp) _⟩
    · have hj1:decide ((n:Int)<(j:Int))=false:=df (by omega);have hj2:(j:Int)<=(n:Int):=by omega
      by_cases h7:d j=7
      · have hT:=hNj (fun hh=>by have:=hh.1 h7;omega);replace hT:Hid _:=hT;rw[h7]at ed hdj;clear DG hdb hYes hNo hNj hf MU UN h7 hPQ hO;obtain⟨g0,g1,g2⟩:=aJ (u0:=.int .i64 0) (u1:=.int .i64 0) (u2:=.int .i64 0) r0 r1 r2;go_wp2;exact bodyPost_ret (v:=.tuple #[.agg #[.int .i64 0,.int .i64 0,.int .i64 0],.int .i64 5]) (by simp[results,Tryz.results14,go_sem,g0,g1,g2]) rfl ⟨hT.out _ rfl,((hB.setCell (by simp) _).setCell (by simp) _).setCell (by simp) _⟩
      · have hdc:0<=d j/\d j<=6:=by omega
        have hfn:Hid (∀i:Nat,1<=i->i<j+1->(d i=7↔(n:Int)<(i:Int))):=by
         intro i i1 i2;by_cases hij:i=j
         · subst hij;exact⟨fun hh=>absurd hh h7,fun hh=>by omega⟩
         · exact hf.out i i1 (by omega)
        have emin:min (j+1-1) n=min (j-1) n+1:=by omega
        have emin2:min (j-1) n+1=j:=by omega
        have hOk:=hO.out;have hp:=ce hOk;have hOn:Hid (Ok4 ((min (j+1-1) n:Nat):Int) (chA (d j) P Q) (chB (d j) P Q)):=by
         have:=ku hOk (by omega) hdc.1 hdc.2
         rwa [show((min (j-1) n:Nat):Int)+1=((min (j+1-1) n:Nat):Int)by omega]at this
        have hPn:Hid ((chA (d j) P Q,chB (d j) P Q)=bW d (min (j+1-1) n) A B):=by
         show _=_
         rw[emin,dW,emin2,←hPQ.out]
        have M1:Hid _:=MU.out P Q hp.1 hp.2;have h7':(d j == 7)=false:=by simpa using h7
        obtain⟨p1,p2⟩:=hp;clear DG hdb hYes hNo hNj hf MU hPQ hO hOk emin emin2;by_cases hz:d j=0
        · have hzA:chA (d j) P Q=2*P-Q:=by rw[hz];show 2*P-Q+0=_;omega
          have hzB:chB (d j) P Q=P+3*Q:=by rw[hz];show P+3*Q+0=_;omega
          rw[hzA,hzB]at hOn hPn;have hz':decide (0<d j)=false:=df (by omega);clear hz hzA hzB UN h7;generalize d j=dj at *;have qz0:=World.block_lt_of_cell? _ _ z0;have qr0:=World.block_lt_of_cell? _ _ r0;go_wp2_with fail;refine(M1.out _).mono ?_;rintro e v1 ⟨rfl,d1⟩;have c1:Below wr.heap.size wr v1:=Below.trans (by go_grown) (d1.mono (by simp;try omega));replace fz0:=ac c1 z0 fz0;replace z0:=aa c1 z0;replace qz0:=World.block_lt_of_cell? _ _ z0;replace fz1:=ac c1 z1 fz1;replace z1:=aa c1 z1;replace fr0:=ac c1 r0 fr0;replace r0:=aa c1 r0;replace qr0:=World.block_lt_of_cell? _ _ r0;replace fr1:=ac c1 r1 fr1;replace r1:=aa c1 r1;replace fr2:=ac c1 r2 fr2;replace r2:=aa c1 r2;replace hB:=ae hB c1;clear c1 d1;obtain⟨g0,g1⟩:=au (u:=.int .i64 (2*P-Q)) (v:=.int .i64 (P+3*Q)) z0 z1;go_wp2;go_roundw
          case rel=>exact⟨j+1,_,_,by omega,by omega,by go_num,hfn,hOn,hPn,g0,g1,by simp[fz0],by simp[fz1],ah (ah r0 (by simp)) (by simp),ah (ah r1 (by simp)) (by simp),ah (ah r2 (by simp)) (by simp),by simp[fr0],by simp[fr1],by simp[fr2],(hB.setCell (by simp) _).setCell (by simp) _⟩
          case measure=>simp[intOf];omega
        · have hz':decide (0<d j)=true:=decide_eq_true (by omega);have U1:Hid _:=UN.out (d j) (by omega) hdc.2;have hcA:2*P-Q+ptA (d j)=chA (d j) P Q:=rfl;have hcB:P+3*Q+ptB (d j)=chB (d j) P Q:=rfl;have hpt:=kD (d j);generalize chA (d j) P Q=CA at *;generalize chB (d j) P Q=CB at *;generalize ptA (d j)=xA at *;generalize ptB (d j)=xB at *;generalize d j=dj at *;clear UN hz h7;have qz0:=World.block_lt_of_cell? _ _ z0;have qr0:=World.block_lt_of_cell? _ _ r0;go_wp2_with fail;refine(M1.out _).mono ?_;rintro e v1 ⟨rfl,d1⟩;have c1:Below wr.heap.size wr v1:=Below.trans (by go_grown) (d1.mono (by simp;try omega));replace fz0:=ac c1 z0 fz0;replace z0:=aa c1 z0;replace qz0:=World.block_lt_of_cell? _ _ z0;replace fz1:=ac c1 z1 fz1;replace z1:=aa c1 z1;replace fr0:=ac c1 r0 fr0;replace r0:=aa c1 r0;replace qr0:=World.block_lt_of_cell? _ _ r0;replace fr1:=ac c1 r1 fr1;replace r1:=aa c1 r1;replace fr2:=ac c1 r2 fr2;replace r2:=aa c1 r2;replace hB:=ae hB c1;clear c1 d1;obtain⟨g0,g1⟩:=au (u:=.int .i64 (2*P-Q)) (v:=.int .i64 (P+3*Q)) z0 z1;have hbw:Below w.heap.size w ((v1.setCell ⟨w.heap.size+1,0,none⟩ (.int .i64 (2*P-Q))).setCell ⟨w.heap.size+1,1,none⟩ (.int .i64 (P+3*Q))):=(hB.setCell (by simp) _).setCell (by simp) _;have x0:((v1.setCell ⟨w.heap.size+1,0,none⟩ (.int .i64 (2*P-Q))).setCell ⟨w.heap.size+1,1,none⟩ (.int .i64 (P+3*Q))).cell? ⟨w.heap.size,0,none⟩=some (.int .i64 0):=ah (ah r0 (by simp)) (by simp);have x1:((v1.setCell ⟨w.heap.size+1,0,none⟩ (.int .i64 (2*P-Q))).setCell ⟨w.heap.size+1,1,none⟩ (.int .i64 (P+3*Q))).cell? ⟨w.heap.size,1,none⟩=some (.int .i64 0):=ah (ah r1 (by simp)) (by simp);have x2:((v1.setCell ⟨w.heap.size+1,0,none⟩ (.int .i64 (2*P-Q))).setCell ⟨w.heap.size+1,1,none⟩ (.int .i64 (P+3*Q))).cell? ⟨w.heap.size,2,none⟩=some (.int .i64 0):=ah (ah r2 (by simp)) (by simp);have y0:((v1.setCell ⟨w.heap.size+1,0,none⟩ (.int .i64 (2*P-Q))).setCell ⟨w.heap.size+1,1,none⟩ (.int .i64 (P+3*Q))).frozen? ⟨w.heap.size+1,0,none⟩=false:=by simp[fz0]
          have y1:((v1.setCell ⟨w.heap.size+1,0,none⟩ (.int .i64 (2*P-Q))).setCell ⟨w.heap.size+1,1,none⟩ (.int .i64 (P+3*Q))).frozen? ⟨w.heap.size+1,1,none⟩=false:=by simp[fz1]
          have s0:((v1.setCell ⟨w.heap.size+1,0,none⟩ (.int .i64 (2*P-Q))).setCell ⟨w.heap.size+1,1,none⟩ (.int .i64 (P+3*Q))).frozen? ⟨w.heap.size,0,none⟩=false:=by simp[fr0]
          have s1:((v1.setCell ⟨w.heap.size+1,0,none⟩ (.int .i64 (2*P-Q))).setCell ⟨w.heap.size+1,1,none⟩ (.int .i64 (P+3*Q))).frozen? ⟨w.heap.size,1,none⟩=false:=by simp[fr1]
          have s2:((v1.setCell ⟨w.heap.size+1,0,none⟩ (.int .i64 (2*P-Q))).setCell ⟨w.heap.size+1,1,none⟩ (.int .i64 (P+3*Q))).frozen? ⟨w.heap.size,2,none⟩=false:=by simp[fr2]
          go_wp2_with fail;refine(U1.out _).mono ?_;rintro e v2 ⟨rfl,hb2⟩;replace y0:=ac hb2 g0 y0;replace y1:=ac hb2 g1 y1;replace s0:=ac hb2 x0 s0;replace s1:=ac hb2 x1 s1;replace s2:=ac hb2 x2 s2;replace g0:=aa hb2 g0;replace g1:=aa hb2 g1;replace x0:=aa hb2 x0;replace x1:=aa hb2 x1;replace x2:=aa hb2 x2;replace hbw:=ae hbw hb2;clear r0 r1 r2 fr0 fr1 fr2 z0 z1 fz0 fz1 hB hb2 qz0 qr0 lz lz0;have lz:=World.block_lt_of_cell? _ _ g0;have n1:=Nat.ne_of_lt lz;have n2:=Nat.ne_of_gt lz;obtain⟨k0,k1⟩:=au (u:=.int .i64 CA) (v:=.int .i64 CB) g0 g1;have hal:=ag ((v2.setCell ⟨w.heap.size+1,0,none⟩ (.int .i64 CA)).setCell ⟨w.heap.size+1,1,none⟩ (.int .i64 CB)) (.cells #[.int .i64 xA,.int .i64 xB] 37);have m0:((v2.setCell ⟨w.heap.size+1,0,none⟩ (.int .i64 CA)).setCell ⟨w.heap.size+1,1,none⟩ (.int .i64 CB)).frozen? ⟨w.heap.size+1,0,none⟩=false:=by simp[y0]
          have m1:((v2.setCell ⟨w.heap.size+1,0,none⟩ (.int .i64 CA)).setCell ⟨w.heap.size+1,1,none⟩ (.int .i64 CB)).frozen? ⟨w.heap.size+1,1,none⟩=false:=by simp[y1]
          have o0:((v2.setCell ⟨w.heap.size+1,0,none⟩ (.int .i64 CA)).setCell ⟨w.heap.size+1,1,none⟩ (.int .i64 CB)).cell? ⟨w.heap.size,0,none⟩=some (.int .i64 0):=ah (ah x0 (by simp)) (by simp);have o1:((v2.setCell ⟨w.heap.size+1,0,none⟩ (.int .i64 CA)).setCell ⟨w.heap.size+1,1,none⟩ (.int .i64 CB)).cell? ⟨w.heap.size,1,none⟩=some (.int .i64 0):=ah (ah x1 (by simp)) (by simp);have o2:((v2.setCell ⟨w.heap.size+1,0,none⟩ (.int .i64 CA)).setCell ⟨w.heap.size+1,1,none⟩ (.int .i64 CB)).cell? ⟨w.heap.size,2,none⟩=some (.int .i64 0):=ah (ah x2 (by simp)) (by simp);have q0:((v2.setCell ⟨w.heap.size+1,0,none⟩ (.int .i64 CA)).setCell ⟨w.heap.size+1,1,none⟩ (.int .i64 CB)).frozen? ⟨w.heap.size,0,none⟩=false:=by simp[s0]
          have q1:((v2.setCell ⟨w.heap.size+1,0,none⟩ (.int .i64 CA)).setCell ⟨w.heap.size+1,1,none⟩ (.int .i64 CB)).frozen? ⟨w.heap.size,1,none⟩=false:=by simp[s1]
          have q2:((v2.setCell ⟨w.heap.size+1,0,none⟩ (.int .i64 CA)).setCell ⟨w.heap.size+1,1,none⟩ (.int .i64 CB)).frozen? ⟨w.heap.size,2,none⟩=false:=by simp[s2]
          have hbe:Below w.heap.size w ((v2.setCell ⟨w.heap.size+1,0,none⟩ (.int .i64 CA)).setCell ⟨w.heap.size+1,1,none⟩ (.int .i64 CB)):=(hbw.setCell (by simp) _).setCell (by simp) _;go_wp2;go_roundw
          case rel=>exact⟨j+1,CA,CB,by omega,by omega,by go_num,hfn,hOn,hPn,aa hal k0,aa hal k1,ac hal k0 m0,ac hal k1 m1,aa hal o0,aa hal o1,aa hal o2,ac hal o0 q0,ac hal o1 q1,ac hal o2 q2,ae hbe hal⟩
          case measure=>simp[intOf];omega
  · obtain rfl:j=13:=by omega
    have hmin:min (13-1) n=n:=by omega
    have hT:=hYes.out (fun i i1 i2=>hf.out i i1 (by omega));have hPQ':=hPQ.out;rw[hmin]at hPQ';rw[←hPQ']at hT;replace hT:Hid _:=hT;clear DG hdb hYes hNo hf MU UN hPQ hPQ' hO hmin;obtain⟨g0,g1,g2⟩:=aJ (u0:=.int .i64 (n:Int)) (u1:=.int .i64 P) (u2:=.int .i64 Q) r0 r1 r2;go_wp2;exact bodyPost_ret (v:=.tuple #[.agg #[.int .i64 (n:Int),.int .i64 P,.int .i64 Q],.int .i64 0]) (by simp[results,Tryz.results14,go_sem,g0,g1,g2]) rfl ⟨hT.out _ rfl,((hB.setCell (by simp) _).setCell (by simp) _).setCell (by simp) _⟩
theorem od (v:Int)(hv:U64 v)(w:World) :
 Calls Tryz.prog 14 #[.int .u64 v] w fun e w'=>fE v e/\Below w.heap.size w w':=by
 by_cases h:v / 1152921504606846976=1
 · obtain⟨n,hn⟩:=Int.eq_ofNat_of_zero_le (aE v).1;by_cases h2:n<=12
   · exact tO v hv h n hn h2 w
   · exact tN v hv h (by omega) w
 · exact tM v hv h w
theorem cV (v:Int)(h:Whole v)(w:World) :
 Calls Tryz.prog 14 #[.int .u64 v] w fun e w'=>e=.returned (.tuple #[.agg #[.int .i64 (wR v),.int .i64 (an v),.int .i64 (ao v)],.int .i64 0])/\Below w.heap.size w w':=by
 have hb:=aC h;exact(od v ⟨by omega,by omega⟩ w).mono fun _ _ ⟨he,hb⟩=>⟨he.elim (fun x=>x.2) (fun x=>absurd h x.1),hb⟩
theorem Ac (v:Int)(hv:U64 v)(h:¬Whole v)(w:World) :
 Calls Tryz.prog 14 #[.int .u64 v] w fun e w'=>e=.returned (.tuple #[.agg #[.int .i64 0,.int .i64 0,.int .i64 0],.int .i64 5])/\Below w.heap.size w w' :=
 (od v hv w).mono fun _ _ ⟨he,hb⟩=>⟨he.elim (fun x=>absurd x.1 h) (fun x=>x.2),hb⟩
theorem tK (v:Int)(h:Whole v)(w:World) :
 Calls Tryz.prog 48 #[.int .u64 v] w fun e w'=>e=.returned (.bool true)/\Below w.heap.size w w':=by
 have CE:Hid _:=cV v h;clear h
 go_enter Tryz.func48,Tryz.ntmps48
 go_wp2_with fail;refine(CE.out _).mono ?_;rintro e w1 ⟨rfl,d1⟩;have c1:Below w.heap.size w w1:=Below.trans (by go_grown) (d1.mono (by simp;try omega));have hB:=c1;clear c1 d1;go_wp2;go_ret;exact⟨rfl,ae hB (ag _ _)⟩
theorem xD (v:Int)(hv:U64 v)(h:¬Whole v)(w:World) :
 Calls Tryz.prog 48 #[.int .u64 v] w fun e w'=>e=.returned (.bool false)/\Below w.heap.size w w':=by
 have CE:Hid _:=Ac v hv h;clear h hv
 go_enter Tryz.func48,Tryz.ntmps48
 go_wp2_with fail;refine(CE.out _).mono ?_;rintro e w1 ⟨rfl,d1⟩;have c1:Below w.heap.size w w1:=Below.trans (by go_grown) (d1.mono (by simp;try omega));have hB:=c1;clear c1 d1;go_wp2;go_ret;exact⟨rfl,ae hB (ag _ _)⟩
theorem Dk (v:Int)(h:Whole v)(h0:0<wR v)(w:World) :
 Calls Tryz.prog 49 #[.int .u64 v] w fun e w'=>e=.returned (.tuple #[.int .u64 (upW v),.int .i64 0])/\Below w.heap.size w w':=by
 have ho:=cI h;obtain⟨n,hn⟩:=Int.eq_ofNat_of_zero_le (aE v).1;have CE:Hid (∀w,Calls Tryz.prog 14 #[.int .u64 v] w fun e w'=>e=.returned (.tuple #[.agg #[.int .i64 (n:Int),.int .i64 (an v),.int .i64 (ao v)],.int .i64 0])/\Below w.heap.size w w'):=fun w=>by
  have:=cV v h w
  rwa [hn]at this
 rw[hn]at ho h0;have hp:=nO ho h0;have PE:Hid (∀w,Calls Tryz.prog 76 #[.agg #[.int .i64 (n:Int),.int .i64 (an v),.int .i64 (ao v)]] w fun e w'=>e=.returned (.tuple #[.agg #[.int .i64 ((n-1:Nat):Int),.int .i64 (aQ (an v) (ao v)),.int .i64 (aR (an v) (ao v))],.int .i64 0])/\Below w.heap.size w w'):=fun w=>by
  have:=si (n:Int) (an v) (ao v) ho h0 w
  rwa [show(n:Int)-1=((n-1:Nat):Int)by omega]at this
 rw[show(n:Int)-1=((n-1:Nat):Int)by omega]at hp;have WE:Hid (∀w,Calls Tryz.prog 73 #[.agg #[.int .i64 ((n-1:Nat):Int),.int .i64 (aQ (an v) (ao v)),.int .i64 (aR (an v) (ao v))]] w fun e w'=>e=.returned (.tuple #[.int .u64 (upW v),.int .i64 0])/\Below w.heap.size w w'):=fun w=>by
  have:=iE (n-1) _ _ hp w;rw[←gm ho (by omega)]at this;have hwc:=da h;rw[hn,Int.toNat_natCast]at hwc
  rwa [hwc]at this
 clear hp ho;generalize an v=A at *;generalize ao v=B at *;generalize aQ A B=C at *;generalize aR A B=D at *;generalize upW v=U at *;generalize ((n-1:Nat):Int)=m at *;clear h h0 hn
 go_enter Tryz.func49,Tryz.ntmps49
 go_wp2_with fail;refine(CE.out _).mono ?_;rintro e w1 ⟨rfl,d1⟩;have c1:Below w.heap.size w w1:=Below.trans (by go_grown) (d1.mono (by simp;try omega));have hB:=c1;clear c1 d1;go_wp2_with fail;refine(PE.out _).mono ?_;rintro e w2 ⟨rfl,d2⟩;have c2:Below w1.heap.size w1 w2:=Below.trans (by go_grown) (d2.mono (by simp;try omega));replace hB:=ae hB c2;clear c2 d2;go_wp2_with fail;refine(WE.out _).mono ?_;rintro e w3 ⟨rfl,d3⟩;have c3:Below w2.heap.size w2 w3:=Below.trans (by go_grown) (d3.mono (by simp;try omega));replace hB:=ae hB c3;clear c3 d3;go_wp2
 go_ret2
 exact⟨rfl,by first | exact hB | exact ae hB (ag _ _) | exact ae hB (by go_grown)⟩
end Go.Proofs.YtbnlhdnnenahfaaGreatDoor
namespace Go.Proofs.YtbnlhdnnenahfaaGreatDoor
open Go.RowKit Go
attribute [local go_sem] Oper.semAt_some
def wl (v:Int)(k:Nat):List Dig:=(List.range k).map fun(i:Nat)=>mkD (i+1) (dg v (i+1))
theorem lL (v:Int)(k:Nat):wl v (k+1)=wl v k++[mkD (k+1) (dg v (k+1))]:=by unfold wl;rw[List.range_succ,List.map_append];rfl
theorem iu (v:Int)(k:Nat):(wl v k).length=k:=by unfold wl;simp
theorem zn {j:Nat}{d:Int}(j1:1<=j)(j2:j<=12):szD (mkD j d)=j:=by unfold szD mkD;simp only;omega
theorem jg {j:Nat}{d:Int}(d0:0<=d)(d7:d<=7):dgD (mkD j d)=d:=by unfold dgD mkD;simp only;omega
theorem sM (v:Int)(hv:U64 v)(n₀:Nat)(w:World)(hn:n₀<=w.heap.size) :
 AK Fence.wide 2 Tryz.prog 82 #[.int .u64 v] #[] wo n₀ (fun xs=>xs=wl v 12) (fun pre=>∃k,k<=12/\pre=wl v k) 12 w:=by
 intro l J Jx W hW hJ hJx hY h0;have hW0:n₀<=W.heap.size:=Nat.le_trans hn hW.size;have DA:Hid (∀k:Nat,k<12->∀w,Calls Tryz.prog 127 #[.int .i64 ((k:Int)+1)] w fun e w'=>e=.returned (.int .i64 (33-3*(k:Int)))/\w'=w):=fun k hk w=>sO _ _ (by omega) (by omega) (by omega) w;have PA:Hid (∀k:Nat,k<12->∀w,Calls Tryz.prog 126 #[.int .u64 v,.int .i64 (33-3*(k:Int)),.int .i64 3] w fun e w'=>e=.returned (.int .i64 (dg v (k+1)))/\Below w.heap.size w w'):=by
  intro k hk w;have h:=D6 v hv (k+1) (by omega) (by omega) w
  rwa [show(3*(12-((k+1:Nat):Int)))=33-3*(k:Int)by omega]at h
 refine callsIn_of_wp Tryz.func82 rfl trivial ?_ rfl;simp only[Tryz.ntmps82,List.size_toArray,List.length_cons,List.length_nil,Nat.reduceAdd,Nat.reduceSub,Array.replicate_succ,Array.replicate_zero,List.push_toArray,List.append_toArray,List.nil_append,List.cons_append]
 gi_wp2
 gi_loopw [4] (fun v4 wr=>∃k:Nat,k<=12/\v4=.int .i64 ((k:Int)+1)/\Below n₀ W wr/\W.heap.size<=wr.heap.size/\J (wl v k) wr) (fun v4 _=>13-(intOf v4).toNat)
 case atStart=>exact⟨0,by omega,rfl,Below.refl _ _,by omega,h0⟩
 case round =>
  obtain⟨k,hk,rfl,hb,hsz,hJr⟩:=hrel;by_cases hlt:k<12
  · have hd:=dV v (k+1);have D1:=DA.out k hlt;have P1:=PA.out k hlt;have hYY:∀w1,Below wr.heap.size wr w1->YieldAt Fence.wide 1 Tryz.prog l #[.int .i64 ((k:Int)+1),.int .i64 (dg v (k+1))] w1 fun e W'=>∃b:Bool,e=.returned (.bool b)/\((b=true/\J (wl v (k+1)) W'/\Below n₀ w1 W'/\High W.heap.size w1 W')∨(b=false/\Jx (wl v (k+1)) W')):=by
     intro w1 hb1;have hJ1:J (wl v k) w1:=hJ _ _ _ hJr (hb1.mono hsz);obtain⟨fn,tmps,assign,body,hy,hR⟩:=hY _ (mkD (k+1) (dg v (k+1))) w1 hJ1 (by rw[iu];exact hlt) (by have:=hb1.size;omega);rw[ur (by omega) (by omega) hd.1 hd.2,show((k+1:Nat):Int)=(k:Int)+1 by omega]at hy;refine⟨fn,tmps,assign,body,hy,hR.mono ?_⟩;rintro e W' (⟨rfl,h1,h2,h3⟩ | ⟨rfl,h1⟩)
     · exact⟨true,rfl,.inl ⟨rfl,by rw[lL];exact h1,h2,h3⟩⟩
     · exact⟨false,rfl,.inr ⟨rfl,by rw[lL];exact h1⟩⟩
    generalize dg v (k+1)=D at *;have hk1:(k:Int)+1<=12:=by omega
    clear DA PA hY;replace D1:Hid _:=D1;replace P1:Hid _:=P1;replace hYY:Hid _:=hYY
    gi_wp2_with (first
     | (refine⟨trivial,?_⟩;gi_at_call 127;refine(callsIn_wide.2 (D1.out _)).mono ?_;rintro e w' ⟨rfl,rfl⟩)
     | (refine⟨trivial,?_⟩;gi_at_call 126;refine(callsIn_wide.2 (P1.out _)).mono ?_;rintro e w1 ⟨rfl,hb1⟩;obtain⟨fn,tmps,assign,body,hy,hR⟩:=hYY.out w1 hb1)
     | fail)
    all_goals
     refine hR.mono ?_;rintro e W3 ⟨b,rfl,(⟨rfl,h1,h2,h3⟩ | ⟨rfl,h1⟩)⟩
     · gi_wp2
       go_roundw
       case rel=>exact⟨k+1,by omega,by go_num,(hb.trans (hb1.mono (by omega))).trans h2,by have:=h3.size;have:=hb1.size;omega,h1⟩
       case measure=>simp[intOf];omega
     · gi_wp2
       refine bodyPost_ret (results_none rfl _ _ _) rfl ?_;exact⟨⟨_,rfl⟩,.inr ⟨_,⟨k+1,by omega,rfl⟩,h1⟩⟩
  · obtain rfl:k=12:=by omega
    clear DA PA
    gi_wp2
    go_end0
    exact⟨⟨_,rfl⟩,.inl ⟨_,rfl,hJr⟩⟩
def iO (R:Int)(x:Dig):Prop:=dgD x=7↔R<szD x
theorem Fd {v:Int}(h1:v / 1152921504606846976=1)(h2:wR v<=12)(h:∀x∈wl v 12,iO (wR v) x):Whole v:=by
 refine⟨h1,h2,fun j j1 j2=>?_⟩;have hd:=dV v j;have:=h (mkD j (dg v j)) (by unfold wl;exact List.mem_map.2 ⟨j-1,List.mem_range.2 (by omega),by rw[show j-1+1=j by omega]⟩);unfold iO at this
 rwa [zn j1 j2,jg hd.1 hd.2]at this
theorem Ht {v:Int}{k:Nat}(hk:k<=12){x:Dig}(hx:x∈wl v k)(h:¬iO (wR v) x):¬Whole v:=by
 intro hw;unfold wl at hx;obtain⟨i,hi,rfl⟩:=List.mem_map.1 hx;have hi:=List.mem_range.1 hi;have hd:=dV v (i+1);apply h;unfold iO;rw[zn (by omega) (by omega),jg hd.1 hd.2];exact hw.2.2 (i+1) (by omega) (by omega)
theorem xW (v:Int)(hv:U64 v)(h:¬v / 1152921504606846976=1)(w:World) :
 Calls Tryz.prog 125 #[.int .u64 v] w fun e w'=>e=.returned (.bool false)/\Below w.heap.size w w':=by
 have PM:Hid (∀w,Calls Tryz.prog 126 #[.int .u64 v,.int .i64 60,.int .i64 4] w fun e w'=>e=.returned (.int .i64 (v / 1152921504606846976))/\Below w.heap.size w w'):=jX v hv;have hm:((v / 1152921504606846976) != 1)=true:=by simpa using h
 generalize v / 1152921504606846976=m at *;clear hv
 go_enter Tryz.func125,Tryz.ntmps125
 go_wp2_with fail;refine(PM.out _).mono ?_;rintro e w1 ⟨rfl,d1⟩;have c1:Below w.heap.size w w1:=Below.trans (by go_grown) (d1.mono (by simp;try omega));have z0:w1.cell? ⟨w.heap.size,0,none⟩=some (.int .u64 v):=aa d1 (by go_simp);have qz0:=World.block_lt_of_cell? _ _ z0;have r0:w1.cell? ⟨w.heap.size+1,0,none⟩=some (.bool false):=aa d1 (by go_simp);have fr0:w1.frozen? ⟨w.heap.size+1,0,none⟩=false:=ac (v:=.bool false) d1 (by go_simp) (by go_simp);have qr0:=World.block_lt_of_cell? _ _ r0;have hB:=c1;clear c1 d1;go_wp2;exact bodyPost_ret (v:=.bool false) (by simp[results,Tryz.results125,go_sem,ay r0]) rfl ⟨rfl,hB.setCell (by simp) _⟩
theorem xX (v:Int)(hv:U64 v)(h:v / 1152921504606846976=1)(h2:12<wR v)(w:World) :
 Calls Tryz.prog 125 #[.int .u64 v] w fun e w'=>e=.returned (.bool false)/\Below w.heap.size w w':=by
 have PM:Hid (∀w,Calls Tryz.prog 126 #[.int .u64 v,.int .i64 60,.int .i64 4] w fun e w'=>e=.returned (.int .i64 1)/\Below w.heap.size w w'):=fun w=>by rw[←h];exact jX v hv w
 have SZ:Hid (∀w,Calls Tryz.prog 160 #[.int .u64 v] w fun e w'=>e=.returned (.int .i64 (wR v))/\Below w.heap.size w w'):=lM v hv;generalize wR v=R at *;clear hv h
 go_enter Tryz.func125,Tryz.ntmps125
 go_wp2_with fail;refine(PM.out _).mono ?_;rintro e w1 ⟨rfl,d1⟩;have c1:Below w.heap.size w w1:=Below.trans (by go_grown) (d1.mono (by simp;try omega));have z0:w1.cell? ⟨w.heap.size,0,none⟩=some (.int .u64 v):=aa d1 (by go_simp);have qz0:=World.block_lt_of_cell? _ _ z0;have r0:w1.cell? ⟨w.heap.size+1,0,none⟩=some (.bool false):=aa d1 (by go_simp);have fr0:w1.frozen? ⟨w.heap.size+1,0,none⟩=false:=ac (v:=.bool false) d1 (by go_simp) (by go_simp);have qr0:=World.block_lt_of_cell? _ _ r0;have hB:=c1;clear c1 d1;go_wp2_with fail;refine(SZ.out _).mono ?_;rintro e w2 ⟨rfl,d2⟩;have c2:Below w1.heap.size w1 w2:=Below.trans (by go_grown) (d2.mono (by simp;try omega));replace z0:=aa c2 z0;replace qz0:=World.block_lt_of_cell? _ _ z0;replace fr0:=ac c2 r0 fr0;replace r0:=aa c2 r0;replace qr0:=World.block_lt_of_cell? _ _ r0;replace hB:=ae hB c2;clear c2 d2;go_wp2;exact bodyPost_ret (v:=.bool false) (by simp[results,Tryz.results125,go_sem,ay r0]) rfl ⟨rfl,hB.setCell (by simp) _⟩
theorem xY (v:Int)(hv:U64 v)(hm:v / 1152921504606846976=1)(h2:wR v<=12)(w:World) :
 Calls Tryz.prog 125 #[.int .u64 v] w fun e w'=>(∃b:Bool,e=.returned (.bool b)/\(b=true↔Whole v))/\Below w.heap.size w w':=by
 have PM:Hid (∀w,Calls Tryz.prog 126 #[.int .u64 v,.int .i64 60,.int .i64 4] w fun e w'=>e=.returned (.int .i64 1)/\Below w.heap.size w w'):=fun w=>by rw[←hm];exact jX v hv w
 have SZ:Hid (∀w,Calls Tryz.prog 160 #[.int .u64 v] w fun e w'=>e=.returned (.int .i64 (wR v))/\Below w.heap.size w w'):=lM v hv;have hYes:Hid ((∀x∈wl v 12,iO (wR v) x)->Whole v):=Fd hm h2;have hNo:Hid (∀(k:Nat) (x:Dig),k<=12->x∈wl v k->¬iO (wR v) x->¬Whole v):=fun k x hk hx h=>Ht hk hx h;have h0:=(aE v).1;generalize wR v=R at *;have hq:decide (12<R)=false:=df (by omega);refine(callsIn_wide (n:=3)).1 ?_;refine callsIn_of_wp_marks Tryz.func125 rfl trivial ?_ rfl;simp only[Tryz.ntmps125,List.size_toArray,List.length_cons,List.length_nil,Nat.reduceAdd,Nat.reduceSub,Array.replicate_succ,Array.replicate_zero,List.push_toArray,List.append_toArray,List.nil_append,List.cons_append];have hal:=ag w (.cells #[.int .u64 v] 121);have hal2:=ae hal (ag (w.alloc (.cells #[.int .u64 v] 121)) (.cells #[.bool false] 4));have z0:((w.alloc (.cells #[.int .u64 v] 121)).alloc (.cells #[.bool false] 4)).cell? ⟨w.heap.size,0,none⟩=some (.int .u64 v):=by go_simp
 have r0:((w.alloc (.cells #[.int .u64 v] 121)).alloc (.cells #[.bool false] 4)).cell? ⟨w.heap.size+1,0,none⟩=some (.bool false):=by go_simp
 have q0:((w.alloc (.cells #[.int .u64 v] 121)).alloc (.cells #[.bool false] 4)).frozen? ⟨w.heap.size+1,0,none⟩=false:=by go_simp
 gi_wp2_with (first
  | (refine⟨trivial,?_⟩;gi_at_call 126;refine(callsIn_wide.2 (PM.out _)).mono ?_;rintro e w1 ⟨rfl,hb1⟩;have z1:=aa hb1 z0;have r1:=aa hb1 r0;have q1:=ac hb1 r0 q0)
  | (refine⟨trivial,?_⟩;gi_at_call 160;refine(callsIn_wide.2 (SZ.out _)).mono ?_;rintro e w2 ⟨rfl,hb2⟩;have z2:=aa hb2 z1;have r2:=aa hb2 r1;have q2:=ac hb2 r1 q1)
  | fail)
 have hbw:Below w.heap.size w w2:=ae (ae hal2 hb1) hb2;have hz:w.heap.size+1<w2.heap.size:=World.block_lt_of_cell? _ _ r2;refine se rfl (by omega) (gf:=82) (pb:=#[.int .u64 v]) (lb:=#[]) rfl trivial (enters_of Tryz.func82 (by kernel_rfl) rfl)
  (sM v hv w.heap.size w2 (by omega)) (by omega) (fun _=>rfl)
  (fun pre W=>((∀x∈pre,iO R x)/\W.cell? ⟨w.heap.size,0,none⟩=some (.int .u64 v)/\W.cell? ⟨w.heap.size+1,0,none⟩=some (.bool false)/\W.frozen? ⟨w.heap.size+1,0,none⟩=false)/\Below w.heap.size w W)
  (fun c pre W=>(c=.ret/\(∃x∈pre,¬iO R x)/\W.cell? ⟨w.heap.size+1,0,none⟩=some (.bool false))/\Below w.heap.size w W) ?hI ?hIx ⟨⟨(by intro x hx;cases hx),z2,r2,q2⟩,hbw⟩
  (fun x=>{ tmps:=#[.int .u64 v,.pointer (some ⟨w.heap.size,0,none⟩),.pointer (some ⟨w.heap.size+1,0,none⟩),.int .i64 (szD x),.int .i64 (dgD x),.int .u64 v,.int .i64 1,.bool false,.bool false,.int .u64 v,.int .i64 R,.bool false,.bool false,.int .u64 v,.func (.func 82) #[.int .u64 v] #[],.int .i64 (szD x),.int .i64 (dgD x),undef,undef,undef,undef,undef,undef,undef],defers:=[] }) ?assign ?body ?done ?stop
 case hI =>
  intro s X Y hs hb;exact⟨⟨hs.1.1,(hb.cell (p:=⟨w.heap.size,0,none⟩) (by simp;omega)).trans hs.1.2.1,(hb.cell (p:=⟨w.heap.size+1,0,none⟩) (by simp;omega)).trans hs.1.2.2.1,(hb.frozen (p:=⟨w.heap.size+1,0,none⟩) (by simp;omega)).trans hs.1.2.2.2⟩,hs.2.trans (hb.mono (by omega))⟩
 case hIx =>
  intro c s X Y hs hb;exact⟨⟨hs.1.1,hs.1.2.1,(hb.cell (p:=⟨w.heap.size+1,0,none⟩) (by simp;omega)).trans hs.1.2.2⟩,hs.2.trans (hb.mono (by omega))⟩
 case assign =>
  intro l x W K hK
  gi_wp2
  exact hK
 case body =>
  rintro l pre x W ⟨⟨hp,hc,hr0,hf⟩,hb⟩ hs _;have hsx:=vy x;have hdx:=je x;have hx:iO R x↔((dgD x == 7)=decide (R<szD x)):=by
   unfold iO;by_cases h7:dgD x=7 <;>by_cases hR:R<szD x <;>simp[h7,hR]
  cases e7:(dgD x == 7) <;>cases eR:decide (R<szD x) <;>rw[e7,eR]at hx <;>simp only[reduceCtorEq,iff_true,iff_false]at hx
  · gi_wp2_with (refine⟨trivial,?_⟩;gi_at_call 160;refine(CallsIn.inRound l (callsIn_wide.2 (SZ.out _))).mono ?_;rintro e w3 ⟨rfl,hb3⟩;have c3:=aa hb3 hc;have s3:=aa hb3 hr0;have f3:=ac hb3 hr0 hf)
    exact⟨hb3.mono (by omega),High.of_below hb3,⟨fun y hy=>(List.mem_append.1 hy).elim (hp y) (fun h=>by rw[List.mem_singleton.1 h];exact hx),c3,s3,f3⟩,hb.trans (hb3.mono (by omega))⟩
  · gi_wp2_with (refine⟨trivial,?_⟩;gi_at_call 160;refine(CallsIn.inRound l (callsIn_wide.2 (SZ.out _))).mono ?_;rintro e w3 ⟨rfl,hb3⟩;have c3:=aa hb3 hc;have s3:=aa hb3 hr0;have f3:=ac hb3 hr0 hf)
    exact⟨(High.of_below hb3).setCell (p:=⟨w.heap.size+1,0,none⟩) (by simp;omega) _,⟨rfl,⟨x,List.mem_append.2 (.inr (List.mem_singleton.2 rfl)),hx⟩,ay s3⟩,(hb.trans (hb3.mono (by omega))).setCell (p:=⟨w.heap.size+1,0,none⟩) (by simp) _⟩
  · gi_wp2_with (refine⟨trivial,?_⟩;gi_at_call 160;refine(CallsIn.inRound l (callsIn_wide.2 (SZ.out _))).mono ?_;rintro e w3 ⟨rfl,hb3⟩;have c3:=aa hb3 hc;have s3:=aa hb3 hr0;have f3:=ac hb3 hr0 hf)
    exact⟨(High.of_below hb3).setCell (p:=⟨w.heap.size+1,0,none⟩) (by simp;omega) _,⟨rfl,⟨x,List.mem_append.2 (.inr (List.mem_singleton.2 rfl)),hx⟩,ay s3⟩,(hb.trans (hb3.mono (by omega))).setCell (p:=⟨w.heap.size+1,0,none⟩) (by simp) _⟩
  · gi_wp2_with (refine⟨trivial,?_⟩;gi_at_call 160;refine(CallsIn.inRound l (callsIn_wide.2 (SZ.out _))).mono ?_;rintro e w3 ⟨rfl,hb3⟩;have c3:=aa hb3 hc;have s3:=aa hb3 hr0;have f3:=ac hb3 hr0 hf)
    exact⟨hb3.mono (by omega),High.of_below hb3,⟨fun y hy=>(List.mem_append.1 hy).elim (hp y) (fun h=>by rw[List.mem_singleton.1 h];exact hx),c3,s3,f3⟩,hb.trans (hb3.mono (by omega))⟩
 case done =>
  rintro D xs W hD rfl ⟨⟨hp,hc,hr0,hf⟩,hb⟩ hK;have hW:=hYes.out hp;have hK':(W.setCell ⟨w.heap.size+1,0,none⟩ (.bool true)).heap[D]?=some (.deferred (some [])):=by rw[heap_setCell_other _ _ _ _ (by simp;omega)];exact hK
  have hbp:=fF (B:=w.heap.size+2) (W.setCell ⟨w.heap.size+1,0,none⟩ (.bool true)) D (.deferred none) (by simp;have:=(Array.getElem?_eq_some_iff.1 hK).1;omega) (by omega);have hcell:=(hbp.cell (p:=⟨w.heap.size+1,0,none⟩) (by simp)).trans (ay hr0)
  gi_wp2
  refine⟨by simp,.inl ⟨_,_,rfl,run_takeDeferred hK',?_⟩⟩;exact⟨.bool true,by simp[results,Tryz.results125,go_sem,hcell],⟨true,rfl,by simp[hW]⟩,(hb.setCell (p:=⟨w.heap.size+1,0,none⟩) (by simp) _).trans (hbp.mono (by omega))⟩
 case stop =>
  rintro D c pre W hD ⟨k,hk,rfl⟩ ⟨⟨rfl,⟨x,hx,hn⟩,hr0⟩,hb⟩ hK;have hW:=hNo.out k x hk hx hn;have hbp:=fF (B:=w.heap.size+2) W D (.deferred none) (by have:=(Array.getElem?_eq_some_iff.1 hK).1;omega) (by omega);have hcell:=(hbp.cell (p:=⟨w.heap.size+1,0,none⟩) (by simp)).trans hr0
  gi_wp2
  refine⟨by simp,.inl ⟨_,_,rfl,run_takeDeferred hK,?_⟩⟩;exact⟨.bool false,by simp[results,Tryz.results125,go_sem,hcell],⟨false,rfl,by simp[hW]⟩,hb.trans (hbp.mono (by omega))⟩
theorem Fj (v:Int)(hv:U64 v)(b:Bool)(hb:b=true↔Whole v)(w:World) :
 Calls Tryz.prog 125 #[.int .u64 v] w fun e w'=>e=.returned (.bool b)/\Below w.heap.size w w':=by
 by_cases h1:v / 1152921504606846976=1
 · by_cases h2:wR v<=12
   · refine(xY v hv h1 h2 w).mono ?_;rintro e w' ⟨⟨b',rfl,hb'⟩,h⟩;have:b'=b:=by
      cases b <;>cases b' <;>simp at hb hb' ⊢
      · exact absurd hb' hb
      · exact absurd hb hb'
     exact⟨by rw[this],h⟩
   · obtain rfl:b=false:=by
      cases b
      · rfl
      · exact absurd (hb.1 rfl).2.1 h2
     exact xX v hv h1 (by omega) w
 · obtain rfl:b=false:=by
    cases b
    · rfl
    · exact absurd (hb.1 rfl).1 h1
   exact xW v hv h1 w
theorem iok (v:Int)(hv:U64 v)(b:Bool)(hb:b=true↔Whole v)(w:World) :
 Calls Tryz.prog 80 #[.int .u64 v] w fun e w'=>e=.returned (.bool b)/\Below w.heap.size w w':=by
 have IW:Hid (∀w,Calls Tryz.prog 125 #[.int .u64 v] w fun e w'=>e=.returned (.bool b)/\Below w.heap.size w w'):=Fj v hv b hb;clear hb hv
 go_enter Tryz.func80,Tryz.ntmps80
 go_wp2_with fail;refine(IW.out _).mono ?_;rintro e w1 ⟨rfl,d1⟩;have c1:Below w.heap.size w w1:=Below.trans (by go_grown) (d1.mono (by simp;try omega));have hB:=c1;clear c1 d1;go_wp2;go_ret;exact⟨rfl,hB⟩
theorem rk (v:Int)(h:Whole v)(w:World) :
 Calls Tryz.prog 111 #[.int .u64 v] w fun e w'=>e=.returned (.int .i64 (wR v))/\Below w.heap.size w w':=by
 have hx:=aC h;have hv:U64 v:=⟨by omega,by omega⟩
 have IK:Hid (∀w,Calls Tryz.prog 80 #[.int .u64 v] w fun e w'=>e=.returned (.bool true)/\Below w.heap.size w w'):=iok v hv true (by simp[h]);have SZ:Hid (∀w,Calls Tryz.prog 160 #[.int .u64 v] w fun e w'=>e=.returned (.int .i64 (wR v))/\Below w.heap.size w w'):=lM v hv;generalize wR v=R at *;clear h hv hx
 go_enter Tryz.func111,Tryz.ntmps111
 go_wp2_with fail;refine(IK.out _).mono ?_;rintro e w1 ⟨rfl,d1⟩;have c1:Below w.heap.size w w1:=Below.trans (by go_grown) (d1.mono (by simp;try omega));have hB:=c1;clear c1 d1;go_wp2_with fail;refine(SZ.out _).mono ?_;rintro e w2 ⟨rfl,d2⟩;have c2:Below w1.heap.size w1 w2:=Below.trans (by go_grown) (d2.mono (by simp;try omega));replace hB:=ae hB c2;clear c2 d2;go_wp2;go_ret;exact⟨rfl,hB⟩
theorem lT (v:Int)(h:Whole v)(hr:0<wR v)(w:World) :
 Calls Tryz.prog 163 #[.int .u64 v] w fun e w'=>e=.returned (.tuple #[.int .u64 (upW v),.int .i64 0])/\Below w.heap.size w w':=by
 have hx:=aC h;have hv:U64 v:=⟨by omega,by omega⟩
 have IK:Hid (∀w,Calls Tryz.prog 80 #[.int .u64 v] w fun e w'=>e=.returned (.bool true)/\Below w.heap.size w w'):=iok v hv true (by simp[h]);have SZ:Hid (∀w,Calls Tryz.prog 160 #[.int .u64 v] w fun e w'=>e=.returned (.int .i64 (wR v))/\Below w.heap.size w w'):=lM v hv;have RA:Hid (∀w,Calls Tryz.prog 201 #[.int .u64 v] w fun e w'=>e=.returned (.int .u64 (upW v))/\Below w.heap.size w w'):=GX v h hr;have q:(wR v == 0)=false:=by simp;omega
 generalize wR v=R at *;generalize upW v=U at *;clear h hv hx
 go_enter Tryz.func163,Tryz.ntmps163
 go_wp2_with fail;refine(IK.out _).mono ?_;rintro e w1 ⟨rfl,d1⟩;have c1:Below w.heap.size w w1:=Below.trans (by go_grown) (d1.mono (by simp;try omega));have hB:=c1;clear c1 d1;go_wp2_with fail;refine(SZ.out _).mono ?_;rintro e w2 ⟨rfl,d2⟩;have c2:Below w1.heap.size w1 w2:=Below.trans (by go_grown) (d2.mono (by simp;try omega));replace hB:=ae hB c2;clear c2 d2;go_wp2_with fail;refine(RA.out _).mono ?_;rintro e w3 ⟨rfl,d3⟩;have c3:Below w2.heap.size w2 w3:=Below.trans (by go_grown) (d3.mono (by simp;try omega));replace hB:=ae hB c3;clear c3 d3;go_wp2
 go_ret2
 exact⟨rfl,hB⟩
theorem lQ (v:Int)(h:Whole v)(hr:wR v=0)(w:World) :
 Calls Tryz.prog 163 #[.int .u64 v] w fun e w'=>e=.returned (.tuple #[.int .u64 0,.int .i64 3])/\Below w.heap.size w w':=by
 have hx:=aC h;have hv:U64 v:=⟨by omega,by omega⟩
 have IK:Hid (∀w,Calls Tryz.prog 80 #[.int .u64 v] w fun e w'=>e=.returned (.bool true)/\Below w.heap.size w w'):=iok v hv true (by simp[h]);have SZ:Hid (∀w,Calls Tryz.prog 160 #[.int .u64 v] w fun e w'=>e=.returned (.int .i64 0)/\Below w.heap.size w w'):=fun w=>by rw[←hr];exact lM v hv w
 clear h hv hx hr
 go_enter Tryz.func163,Tryz.ntmps163
 go_wp2_with fail;refine(IK.out _).mono ?_;rintro e w1 ⟨rfl,d1⟩;have c1:Below w.heap.size w w1:=Below.trans (by go_grown) (d1.mono (by simp;try omega));have hB:=c1;clear c1 d1;go_wp2_with fail;refine(SZ.out _).mono ?_;rintro e w2 ⟨rfl,d2⟩;have c2:Below w1.heap.size w1 w2:=Below.trans (by go_grown) (d2.mono (by simp;try omega));replace hB:=ae hB c2;clear c2 d2;go_wp2
 go_ret2
 exact⟨rfl,hB⟩
end Go.Proofs.YtbnlhdnnenahfaaGreatDoor
namespace Go.Proofs.YtbnlhdnnenahfaaGreatDoor
open Go.RowKit Go
attribute [local go_sem] Oper.semAt_some
def aT (A B:Int)(xs:List Dig):Int×Int:=xs.foldl (fun p x=>(chA (dgD x) p.1 p.2,chB (dgD x) p.1 p.2)) (A,B)
theorem nm (A B:Int)(xs:List Dig)(x:Dig):aT A B (xs++[x])=(chA (dgD x) (aT A B xs).1 (aT A B xs).2,chB (dgD x) (aT A B xs).1 (aT A B xs).2):=by unfold aT;rw[List.foldl_append];rfl
theorem re (v A B:Int):∀k,k<=12->aT A B (wl v k)=bW (dg v) k A B
 | 0,_=>rfl
 | k+1,hk=>by
  have hd:=dV v (k+1);rw[lL,nm,re v A B k (by omega),jg hd.1 hd.2,dW]
theorem Dp {v:Int}(h:Whole v){k:Nat}(hk:k<=12){q:List Dig}{x:Dig}(e:wl v k=q++[x])(hx:dgD x=7)(hq:∀y∈q,dgD y≠7):wR v=(q.length:Int)/\q=wl v q.length:=by
 obtain⟨j,rfl⟩:∃j,k=j+1:=by
  cases k with
  | zero=>have:=congrArg List.length e;simp[wl]at this
  | succ j=>exact⟨j,rfl⟩
 rw[lL]at e;have hl:=congrArg List.length e;simp only[List.length_append,iu,List.length_cons,List.length_nil]at hl;have hlen:(wl v j).length=q.length:=by rw[iu];omega
 obtain⟨e1,e2⟩:=List.append_inj e hlen;have e3:mkD (j+1) (dg v (j+1))=x:=by simpa using e2
 have hdj:=dV v (j+1);have h7:dg v (j+1)=7:=by rw[←jg (j:=j+1) hdj.1 hdj.2,e3];exact hx
 have h1:=(h.2.2 (j+1) (by omega) (by omega)).1 h7;have hqj:q.length=j:=by omega
 refine⟨?_,by rw[hqj];exact e1.symm⟩;have hr:=aE v;by_cases h0:j=0
 · omega
 · have hj:=dV v j;have:¬dg v j=7:=by
    intro h7';apply hq (mkD j (dg v j))
    · rw[←e1];unfold wl;exact List.mem_map.2 ⟨j-1,List.mem_range.2 (by omega),by rw[show j-1+1=j by omega]⟩
    · rw[jg hj.1 hj.2];exact h7'
   have h2:¬wR v<(j:Int):=fun hl=>this ((h.2.2 j (by omega) (by omega)).2 hl);omega
theorem xQ {v:Int}(h:Whole v)(hq:∀y∈wl v 12,dgD y≠7):wR v=12:=by
 have hr:=aE v;have h12:=h.2.1;have hd:=dV v 12;have:¬dg v 12=7:=by
  intro h7;apply hq (mkD 12 (dg v 12))
  · unfold wl;exact List.mem_map.2 ⟨11,List.mem_range.2 (by omega),rfl⟩
  · rw[jg hd.1 hd.2];exact h7
 have h2:¬wR v<((12:Nat):Int):=fun hl=>this ((h.2.2 12 (by omega) (by omega)).2 hl);omega
theorem px (v:Int)(h:Whole v)(w:World)(hT:Tabs w) :
 Calls Tryz.prog 55 #[.int .u64 v] w fun e w'=>e=.returned (.tuple #[.agg #[.int .i64 (wR v),.int .i64 (an v),.int .i64 (ao v)],.int .i64 0])/\Below w.heap.size w w':=by
 have hx:=aC h;have hv:U64 v:=⟨by omega,by omega⟩
 have IK:Hid (∀w,Calls Tryz.prog 80 #[.int .u64 v] w fun e w'=>e=.returned (.bool true)/\Below w.heap.size w w'):=iok v hv true (by simp[h]);have BA:Hid (∀w,Calls Tryz.prog 81 #[.int .u64 v] w fun e w'=>e=.returned (.agg #[.int .i64 0,.int .i64 (wA v),.int .i64 (wB v)])/\Below w.heap.size w w'):=JM v hv;have hAB:=lJ v;have hEnd:Hid (∀pre:List Dig,(∃k,k<=12/\wl v k=pre)->(∀y∈pre,dgD y≠7)->(pre.length:Int)=wR v->aT (wA v) (wB v) pre=(an v,ao v)):=by
  rintro pre ⟨k,hk,rfl⟩ _ hl;rw[iu]at hl;rw[re v _ _ k hk];unfold an ao;rw[show(wR v).toNat=k by omega]
 have hS:Hid (∀k q x,k<=12->wl v k=q++[x]->dgD x=7->(∀y∈q,dgD y≠7)->wR v=(q.length:Int)/\q=wl v q.length):=fun k q x hk e hx hq=>Dp h hk e hx hq;have hN:Hid ((∀y∈wl v 12,dgD y≠7)->wR v=12):=fun hq=>xQ h hq;have hT0:Hid (Tabs w):=hT;have hlt:=hT.lt;clear hT h hx;generalize an v=CA at *;generalize ao v=CB at *;generalize wA v=A at *;generalize wB v=B at *;generalize wR v=R at *;refine(callsIn_wide (n:=3)).1 ?_;refine callsIn_of_wp_marks Tryz.func55 rfl trivial ?_ rfl;simp only[Tryz.ntmps55,List.size_toArray,List.length_cons,List.length_nil,Nat.reduceAdd,Nat.reduceSub,Array.replicate_succ,Array.replicate_zero,List.push_toArray,List.append_toArray,List.nil_append,List.cons_append];have hal:=ag w (.cells #[.int .i64 0,.int .i64 0,.int .i64 0] 39);have r0:(w.alloc (.cells #[.int .i64 0,.int .i64 0,.int .i64 0] 39)).cell? ⟨w.heap.size,0,none⟩=some (.int .i64 0):=by go_simp
 have r1:(w.alloc (.cells #[.int .i64 0,.int .i64 0,.int .i64 0] 39)).cell? ⟨w.heap.size,1,none⟩=some (.int .i64 0):=by go_simp
 have r2:(w.alloc (.cells #[.int .i64 0,.int .i64 0,.int .i64 0] 39)).cell? ⟨w.heap.size,2,none⟩=some (.int .i64 0):=by go_simp
 have q0:(w.alloc (.cells #[.int .i64 0,.int .i64 0,.int .i64 0] 39)).frozen? ⟨w.heap.size,0,none⟩=false:=by go_simp
 have q1:(w.alloc (.cells #[.int .i64 0,.int .i64 0,.int .i64 0] 39)).frozen? ⟨w.heap.size,1,none⟩=false:=by go_simp
 have q2:(w.alloc (.cells #[.int .i64 0,.int .i64 0,.int .i64 0] 39)).frozen? ⟨w.heap.size,2,none⟩=false:=by go_simp
 gi_wp2_with (first
  | (refine⟨trivial,?_⟩;gi_at_call 80;refine(callsIn_wide.2 (IK.out _)).mono ?_;rintro e w1 ⟨rfl,hb1⟩)
  | (refine⟨trivial,?_⟩;gi_at_call 81;refine(callsIn_wide.2 (BA.out _)).mono ?_;rintro e w2 ⟨rfl,hb2⟩)
  | fail)
 have hb02:Below w.heap.size w w2:=ae (ae hal hb1) hb2;have hb12:=ae hb1 hb2;replace q0:=ac hb12 r0 q0;replace q1:=ac hb12 r1 q1;replace q2:=ac hb12 r2 q2;replace r0:=aa hb12 r0;replace r1:=aa hb12 r1;replace r2:=aa hb12 r2;have hz0:w.heap.size<w2.heap.size:=World.block_lt_of_cell? _ _ r0;have hal2:=ag w2 (.cells #[.int .i64 0,.int .i64 A,.int .i64 B] 39);have a0:(w2.alloc (.cells #[.int .i64 0,.int .i64 A,.int .i64 B] 39)).cell? ⟨w2.heap.size,0,none⟩=some (.int .i64 0):=by go_simp
 have a1:(w2.alloc (.cells #[.int .i64 0,.int .i64 A,.int .i64 B] 39)).cell? ⟨w2.heap.size,1,none⟩=some (.int .i64 A):=by go_simp
 have a2:(w2.alloc (.cells #[.int .i64 0,.int .i64 A,.int .i64 B] 39)).cell? ⟨w2.heap.size,2,none⟩=some (.int .i64 B):=by go_simp
 have f0:(w2.alloc (.cells #[.int .i64 0,.int .i64 A,.int .i64 B] 39)).frozen? ⟨w2.heap.size,0,none⟩=false:=by go_simp
 have f1:(w2.alloc (.cells #[.int .i64 0,.int .i64 A,.int .i64 B] 39)).frozen? ⟨w2.heap.size,1,none⟩=false:=by go_simp
 have f2:(w2.alloc (.cells #[.int .i64 0,.int .i64 A,.int .i64 B] 39)).frozen? ⟨w2.heap.size,2,none⟩=false:=by go_simp
 have hzs:(w2.alloc (.cells #[.int .i64 0,.int .i64 A,.int .i64 B] 39)).heap.size=w2.heap.size+1:=by simp
 replace q0:=ac hal2 r0 q0;replace q1:=ac hal2 r1 q1;replace q2:=ac hal2 r2 q2;replace r0:=aa hal2 r0;replace r1:=aa hal2 r1;replace r2:=aa hal2 r2;have hbs:=ae hb02 hal2;generalize w2.alloc (.cells #[.int .i64 0,.int .i64 A,.int .i64 B] 39)=ws at *;have hO0:Hid (Ok4 ((0:Nat):Int) A B):=dh (r:=0) (by omega) hAB.1 hAB.2;refine se rfl (by omega) (gf:=82) (pb:=#[.int .u64 v]) (lb:=#[]) rfl trivial (enters_of Tryz.func82 (by kernel_rfl) rfl)
  (sM v hv w.heap.size ws (by omega)) (by omega) (fun _=>rfl)
  (fun pre W=>(((∀ x∈pre,dgD x≠7)/\Hid (pre.length<=12->Ok4 (pre.length:Int) (aT A B pre).1 (aT A B pre).2))/\(W.cell? ⟨w2.heap.size,0,none⟩=some (.int .i64 (pre.length:Int))/\W.cell? ⟨w2.heap.size,1,none⟩=some (.int .i64 (aT A B pre).1)/\W.cell? ⟨w2.heap.size,2,none⟩=some (.int .i64 (aT A B pre).2))/\(W.frozen? ⟨w2.heap.size,0,none⟩=false/\W.frozen? ⟨w2.heap.size,1,none⟩=false/\W.frozen? ⟨w2.heap.size,2,none⟩=false)
    /\(W.cell? ⟨w.heap.size,0,none⟩=some (.int .i64 0)/\W.cell? ⟨w.heap.size,1,none⟩=some (.int .i64 0)/\W.cell? ⟨w.heap.size,2,none⟩=some (.int .i64 0))/\(W.frozen? ⟨w.heap.size,0,none⟩=false/\W.frozen? ⟨w.heap.size,1,none⟩=false/\W.frozen? ⟨w.heap.size,2,none⟩=false))/\Below w.heap.size w W)
  (fun c pre W=>(c=.exit 0/\∃ q x,pre=q++[x]/\dgD x=7/\(∀ y∈q,dgD y≠7)/\(W.cell? ⟨w2.heap.size,0,none⟩=some (.int .i64 (q.length:Int))/\W.cell? ⟨w2.heap.size,1,none⟩=some (.int .i64 (aT A B q).1)/\W.cell? ⟨w2.heap.size,2,none⟩=some (.int .i64 (aT A B q).2))
    /\(W.cell? ⟨w.heap.size,0,none⟩=some (.int .i64 0)/\W.cell? ⟨w.heap.size,1,none⟩=some (.int .i64 0)/\W.cell? ⟨w.heap.size,2,none⟩=some (.int .i64 0))/\(W.frozen? ⟨w.heap.size,0,none⟩=false/\W.frozen? ⟨w.heap.size,1,none⟩=false/\W.frozen? ⟨w.heap.size,2,none⟩=false))/\Below w.heap.size w W) ?hI ?hIx ⟨⟨⟨(by intro x hx;cases hx),fun _=>hO0⟩,⟨a0,a1,a2⟩,⟨f0,f1,f2⟩,⟨r0,r1,r2⟩,⟨q0,q1,q2⟩⟩,hbs⟩
  (fun x=>{ tmps:=#[.int .u64 v,undef,.pointer (some ⟨w.heap.size,0,none⟩),.int .i64 0,.pointer (some ⟨w2.heap.size,0,none⟩),undef,.int .i64 (dgD x),undef,undef,.int .u64 v,.bool true,.bool false,undef,.int .u64 v,.agg #[.int .i64 0,.int .i64 A,.int .i64 B],.int .u64 v,.func (.func 82) #[.int .u64 v] #[],.int .i64 (szD x),.int .i64 (dgD x),undef,undef,undef,undef,undef,undef,undef,undef,undef,undef,undef,undef],defers:=[] }) ?assign ?body ?done ?stop
 case hI =>
  intro s X Y hs hb;have k:∀(b o:Nat),b<ws.heap.size->Y.cell? ⟨b,o,none⟩=X.cell? ⟨b,o,none⟩:=fun b o hbl=>hb.cell (p:=⟨b,o,none⟩) hbl;have kf:∀(b o:Nat),b<ws.heap.size->Y.frozen? ⟨b,o,none⟩=X.frozen? ⟨b,o,none⟩:=fun b o hbl=>hb.frozen (p:=⟨b,o,none⟩) hbl;have l1:w2.heap.size<ws.heap.size:=by omega
  have l2:w.heap.size<ws.heap.size:=by omega
  simp only[k _ _ l1,k _ _ l2,kf _ _ l1,kf _ _ l2];exact⟨hs.1,hs.2.trans (hb.mono (by omega))⟩
 case hIx =>
  intro c s X Y hs hb;have k:∀(b o:Nat),b<ws.heap.size->Y.cell? ⟨b,o,none⟩=X.cell? ⟨b,o,none⟩:=fun b o hbl=>hb.cell (p:=⟨b,o,none⟩) hbl;have kf:∀(b o:Nat),b<ws.heap.size->Y.frozen? ⟨b,o,none⟩=X.frozen? ⟨b,o,none⟩:=fun b o hbl=>hb.frozen (p:=⟨b,o,none⟩) hbl;have l1:w2.heap.size<ws.heap.size:=by omega
  have l2:w.heap.size<ws.heap.size:=by omega
  simp only[k _ _ l1,k _ _ l2,kf _ _ l2];exact⟨hs.1,hs.2.trans (hb.mono (by omega))⟩
 case assign =>
  intro l x W K hK
  gi_wp2
  exact hK
 case body =>
  rintro l pre x W ⟨⟨⟨hp,hO⟩,⟨b0,b1,b2⟩,⟨g0,g1,g2⟩,hr,hq⟩,hb⟩ hs hlen;have hdx:=je x;have l1:w2.heap.size<ws.heap.size:=by omega
  by_cases h7:dgD x=7
  · have e7:(dgD x == 7)=true:=by simp[h7]
    gi_wp2
    exact⟨High.refl _ _,⟨rfl,pre,x,rfl,h7,hp,⟨b0,b1,b2⟩,hr,hq⟩,hb⟩
  · have e7:(dgD x == 7)=false:=by simp[h7]
    have hOp:=hO.out (by omega);have KI:Hid (∀w,Tabs w->Calls Tryz.prog 83 #[.agg #[.int .i64 (pre.length:Int),.int .i64 (aT A B pre).1,.int .i64 (aT A B pre).2]] w fun e w'=>qx w (fj (pre.length:Int) (aT A B pre).1 (aT A B pre).2) 0 e w'/\Below w.heap.size w w'):=yG _ _ _ hOp (by omega);have hst:=nm A B pre x;obtain⟨U,hU⟩:∃U,(aT A B (pre++[x])).1=U:=⟨_,rfl⟩
    obtain⟨V,hV⟩:∃V,(aT A B (pre++[x])).2=V:=⟨_,rfl⟩
    have eU:chA (dgD x) (aT A B pre).1 (aT A B pre).2=U:=by rw[←hU,hst]
    have eV:chB (dgD x) (aT A B pre).1 (aT A B pre).2=V:=by rw[←hV,hst]
    have hOn:Hid ((pre++[x]).length<=12->Ok4 ((pre++[x]).length:Int) (aT A B (pre++[x])).1 (aT A B (pre++[x])).2):=by
     intro _;rw[hU,hV,←eU,←eV,List.length_append];show Ok4 ((pre.length+1:Nat):Int) _ _
     rw[show((pre.length+1:Nat):Int)=(pre.length:Int)+1 by omega];exact ku hOp (by omega) hdx.1 (by omega)
    have hTW:Tabs W:=hT0.out.low (B:=w.heap.size) hlt.1 hlt.2 hb;obtain⟨m,hm⟩:∃m:Nat,dgD x=(m:Int):=Int.eq_ofNat_of_zero_le hdx.1;have hm6:m<=6:=by omega
    have hk0:=km (pre.length:Int) (aT A B pre).1 (aT A B pre).2 m;have hk1:=kn (pre.length:Int) (aT A B pre).1 (aT A B pre).2 m;have hk2:=ko (pre.length:Int) (aT A B pre).1 (aT A B pre).2 m;rw[←hm]at hk1 hk2;rw[eU]at hk1;rw[eV]at hk2;have hd0:0<=dgD x:=hdx.1;have hd6:dgD x<7:=by omega
    have hmt:(dgD x).toNat=m:=by omega
    replace hU:Hid _:=hU;replace hV:Hid _:=hV;replace hm:Hid _:=hm;clear hst hO hOp eU eV;generalize hgg:fj (pre.length:Int) (aT A B pre).1 (aT A B pre).2=G at *;clear hgg;generalize (aT A B pre).1=P at *;generalize (aT A B pre).2=Q at *
    gi_wp2_with (refine⟨trivial,?_⟩;gi_at_call 83;refine(CallsIn.inRound l (callsIn_wide.2 (KI.out _ hTW))).mono ?_;rintro e w3 ⟨⟨Bk,hBk,rfl,hKR⟩,hb3⟩;have c0:=aa hb3 b0;have c1:=aa hb3 b1;have c2:=aa hb3 b2;have h0:=ac hb3 b0 g0;have h1:=ac hb3 b1 g1;have h2:=ac hb3 b2 g2;have t0:w3.cell? ⟨Bk,m*3,none⟩=some (.int .i64 ((pre.length:Int)+1)):=(by rw[(hKR _ (by omega)).1,kl _ _ (by omega),hk0]);have t1:w3.cell? ⟨Bk,m*3+1,none⟩=some (.int .i64 U):=(by rw[(hKR _ (by omega)).1,kl _ _ (by omega),hk1]);have t2:w3.cell? ⟨Bk,m*3+2,none⟩=some (.int .i64 V):=(by rw[(hKR _ (by omega)).1,kl _ _ (by omega),hk2]))
    obtain⟨e0,e1,e2⟩:=aJ (u0:=.int .i64 ((pre.length:Int)+1)) (u1:=.int .i64 U) (u2:=.int .i64 V) c0 c1 c2;have kr:∀o,(w3.cell? ⟨w.heap.size,o,none⟩)=W.cell? ⟨w.heap.size,o,none⟩:=fun o=>hb3.cell (p:=⟨w.heap.size,o,none⟩) (by simp;omega);have kf:∀o,(w3.frozen? ⟨w.heap.size,o,none⟩)=W.frozen? ⟨w.heap.size,o,none⟩:=fun o=>hb3.frozen (p:=⟨w.heap.size,o,none⟩) (by simp;omega);have ne:∀o o',(⟨w2.heap.size,o,none⟩:Addr)≠⟨w.heap.size,o',none⟩:=fun o o' e=>by have:=congrArg Addr.block e;simp at this;omega
    have b2':w.heap.size<=w2.heap.size:=by omega
    refine⟨((((hb3.mono (by omega)).setCell (p:=⟨w2.heap.size,0,none⟩) b2' _).setCell (p:=⟨w2.heap.size,1,none⟩) b2' _).setCell (p:=⟨w2.heap.size,2,none⟩) b2' _),
     (((High.of_below hb3).setCell (p:=⟨w2.heap.size,0,none⟩) (by simp;omega) _).setCell (p:=⟨w2.heap.size,1,none⟩) (by simp;omega) _).setCell (p:=⟨w2.heap.size,2,none⟩) (by simp;omega) _,
     ⟨⟨fun y hy=>(List.mem_append.1 hy).elim (hp y) (fun h=>by rw[List.mem_singleton.1 h];exact h7),hOn⟩,⟨?_,?_,?_⟩,⟨?_,?_,?_⟩,⟨?_,?_,?_⟩,?_,?_,?_⟩,
     ((((hb.trans (hb3.mono (by omega))).setCell (p:=⟨w2.heap.size,0,none⟩) b2' _).setCell (p:=⟨w2.heap.size,1,none⟩) b2' _).setCell (p:=⟨w2.heap.size,2,none⟩) b2' _)⟩
    · rw[e0,List.length_append];congr 2
    · rw[hU.out];exact e1
    · rw[hV.out];exact e2
    · simp[h0]
    · simp[h1]
    · simp[h2]
    · exact ah (ah (ah ((kr 0).trans hr.1) (ne _ _)) (ne _ _)) (ne _ _)
    · exact ah (ah (ah ((kr 1).trans hr.2.1) (ne _ _)) (ne _ _)) (ne _ _)
    · exact ah (ah (ah ((kr 2).trans hr.2.2) (ne _ _)) (ne _ _)) (ne _ _)
    · simp[kf,hq.1]
    · simp[kf,hq.2.1]
    · simp[kf,hq.2.2]
 case done =>
  rintro D xs W hD rfl ⟨⟨⟨hp,-⟩,⟨b0,b1,b2⟩,-,hr,hq⟩,hb⟩ hK;have hR:=hN.out hp;have he:=hEnd.out (wl v 12) ⟨12,by omega,rfl⟩ hp (by rw[iu,hR];rfl);rw[he]at b1 b2;rw[iu,show((12:Nat):Int)=R by omega]at b0;obtain⟨e0,e1,e2⟩:=aJ (u0:=.int .i64 R) (u1:=.int .i64 CA) (u2:=.int .i64 CB) hr.1 hr.2.1 hr.2.2;have hK':(((W.setCell ⟨w.heap.size,0,none⟩ (.int .i64 R)).setCell ⟨w.heap.size,1,none⟩ (.int .i64 CA)).setCell ⟨w.heap.size,2,none⟩ (.int .i64 CB)).heap[D]?=some (.deferred (some [])):=by
   rw[heap_setCell_other _ _ _ _ (by simp;omega),heap_setCell_other _ _ _ _ (by simp;omega),heap_setCell_other _ _ _ _ (by simp;omega)];exact hK
  have hbp:=fF (B:=w.heap.size+1) (((W.setCell ⟨w.heap.size,0,none⟩ (.int .i64 R)).setCell ⟨w.heap.size,1,none⟩ (.int .i64 CA)).setCell ⟨w.heap.size,2,none⟩ (.int .i64 CB)) D (.deferred none) (by simp;have:=(Array.getElem?_eq_some_iff.1 hK).1;omega) (by omega);have x0:=(hbp.cell (p:=⟨w.heap.size,0,none⟩) (by simp)).trans e0;have x1:=(hbp.cell (p:=⟨w.heap.size,1,none⟩) (by simp)).trans e1;have x2:=(hbp.cell (p:=⟨w.heap.size,2,none⟩) (by simp)).trans e2;obtain⟨hr0,hr1,hr2⟩:=hr;obtain⟨hq0,hq1,hq2⟩:=hq;clear hR he
  gi_wp2
  refine⟨by simp,.inl ⟨_,_,rfl,run_takeDeferred hK',?_⟩⟩;exact⟨.tuple #[.agg #[.int .i64 R,.int .i64 CA,.int .i64 CB],.int .i64 0],by simp[results,Tryz.results55,go_sem,x0,x1,x2],rfl,(((hb.setCell (p:=⟨w.heap.size,0,none⟩) (by simp) _).setCell (p:=⟨w.heap.size,1,none⟩) (by simp) _).setCell (p:=⟨w.heap.size,2,none⟩) (by simp) _).trans (hbp.mono (by omega))⟩
 case stop =>
  rintro D c pre W hD ⟨k,hk,rfl⟩ ⟨⟨rfl,q,x,hqx,hx7,hq7,⟨b0,b1,b2⟩,hr,hq⟩,hb⟩ hK;obtain⟨hR,hqw⟩:=hS.out k q x hk hqx hx7 hq7;have hql:q.length<=12:=by
   have:=congrArg List.length hqx;simp only[List.length_append,iu,List.length_cons,List.length_nil]at this;omega
  have he:=hEnd.out q ⟨q.length,hql,hqw.symm⟩ hq7 hR.symm;rw[he]at b1 b2;rw[←hR]at b0;obtain⟨e0,e1,e2⟩:=aJ (u0:=.int .i64 R) (u1:=.int .i64 CA) (u2:=.int .i64 CB) hr.1 hr.2.1 hr.2.2;have hK':(((W.setCell ⟨w.heap.size,0,none⟩ (.int .i64 R)).setCell ⟨w.heap.size,1,none⟩ (.int .i64 CA)).setCell ⟨w.heap.size,2,none⟩ (.int .i64 CB)).heap[D]?=some (.deferred (some [])):=by
   rw[heap_setCell_other _ _ _ _ (by simp;omega),heap_setCell_other _ _ _ _ (by simp;omega),heap_setCell_other _ _ _ _ (by simp;omega)];exact hK
  have hbp:=fF (B:=w.heap.size+1) (((W.setCell ⟨w.heap.size,0,none⟩ (.int .i64 R)).setCell ⟨w.heap.size,1,none⟩ (.int .i64 CA)).setCell ⟨w.heap.size,2,none⟩ (.int .i64 CB)) D (.deferred none) (by simp;have:=(Array.getElem?_eq_some_iff.1 hK).1;omega) (by omega);have x0:=(hbp.cell (p:=⟨w.heap.size,0,none⟩) (by simp)).trans e0;have x1:=(hbp.cell (p:=⟨w.heap.size,1,none⟩) (by simp)).trans e1;have x2:=(hbp.cell (p:=⟨w.heap.size,2,none⟩) (by simp)).trans e2;obtain⟨hr0,hr1,hr2⟩:=hr;obtain⟨hq0,hq1,hq2⟩:=hq;clear hR
  gi_wp2
  refine⟨by simp,.inl ⟨_,_,rfl,run_takeDeferred hK',?_⟩⟩;exact⟨.tuple #[.agg #[.int .i64 R,.int .i64 CA,.int .i64 CB],.int .i64 0],by simp[results,Tryz.results55,go_sem,x0,x1,x2],rfl,(((hb.setCell (p:=⟨w.heap.size,0,none⟩) (by simp) _).setCell (p:=⟨w.heap.size,1,none⟩) (by simp) _).setCell (p:=⟨w.heap.size,2,none⟩) (by simp) _).trans (hbp.mono (by omega))⟩
end Go.Proofs.YtbnlhdnnenahfaaGreatDoor
