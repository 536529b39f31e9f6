/-
  What the texts QSweep, QAround, QRange, QNumb, QFromI, QHeld say, so far as this seat's proofs need it.
-/
import Derived.Test.YtbnlhdnnenahfaaGreatDoorLVY
import Derived.Test.YtbnlhdnnenahfaaGreatDoorQ3Y
set_option maxHeartbeats 8000000
set_option maxRecDepth 100000
namespace Go.Proofs.YtbnlhdnnenahfaaGreatDoor
open Go.RowKit
structure SweepM (S:Nat) (l1 l2 u1 u2 r d:Int) (vo:Value) (w:World):Prop where
 a0:w.cell? ⟨S,0,none⟩=some (.int .i64 l1)
 a1:w.cell? ⟨S,1,none⟩=some (.int .i64 l2)
 a2:w.cell? ⟨S,2,none⟩=some (.int .i64 u1)
 a3:w.cell? ⟨S,3,none⟩=some (.int .i64 u2)
 siz:SizA S r d w
 way:w.cell? ⟨S,6,none⟩=some vo
theorem SweepM.keep {S:Nat}{l1 l2 u1 u2 r d:Int}{vo:Value}{w w':World}(h:SweepM S l1 l2 u1 u2 r d vo w)(hb:Below w.heap.size w w'):SweepM S l1 l2 u1 u2 r d vo w' :=
 ⟨aa hb h.a0,aa hb h.a1,aa hb h.a2,aa hb h.a3,h.siz.keep hb,aa hb h.way⟩
theorem SweepM.but {S:Nat}{l1 l2 u1 u2 r d:Int}{vo:Value}{row:Option Nat}{w w':World}(h:SweepM S l1 l2 u1 u2 r d vo w)(hb:ButQ S 7 row w w'):SweepM S l1 l2 u1 u2 r d vo w' :=
 ⟨hb.cellB h.a0 (by omega),hb.cellB h.a1 (by omega),hb.cellB h.a2 (by omega),hb.cellB h.a3 (by omega),h.siz.but hb (by omega) (by omega),hb.cellB h.way (by omega)⟩
theorem SweepM.far {S:Nat}{l1 l2 u1 u2 r d:Int}{vo:Value}{row:Option Nat}{w w':World}(h:SweepM S l1 l2 u1 u2 r d vo w)(hg:w.grownBy w' row)(hr:some S≠row):SweepM S l1 l2 u1 u2 r d vo w' :=
 ⟨hg.cell h.a0 hr,hg.cell h.a1 hr,hg.cell h.a2 hr,hg.cell h.a3 hr,⟨hg.cell h.siz.1 hr,hg.cell h.siz.2 hr⟩,hg.cell h.way hr⟩
theorem SweepM.way_set {S:Nat}{l1 l2 u1 u2 r d:Int}{vo:Value}{w:World}(h:SweepM S l1 l2 u1 u2 r d vo w)(v:Value):SweepM S l1 l2 u1 u2 r d v (w.setCell ⟨S,6,none⟩ v) :=
 ⟨ah h.a0 (by simp),ah h.a1 (by simp),ah h.a2 (by simp),ah h.a3 (by simp),⟨ah h.siz.1 (by simp),ah h.siz.2 (by simp)⟩,ay h.way⟩
def fP (K d j:Nat):List Nat:=(List.range j).filter fun i=>decide (0<plc K d (uA i) (uB i))
def jB (L:List Nat):List Value:=L.map fun(i:Nat)=>Value.int .i64 (i:Int)
theorem CI {K d j:Nat}(h:0<plc K d (uA j) (uB j)):fP K d (j+1)=fP K d j++[j]:=by
 unfold fP;rw[List.range_succ,List.filter_append];simp[h]
theorem Fy {K d j:Nat}(h:¬0<plc K d (uA j) (uB j)):fP K d (j+1)=fP K d j:=by
 unfold fP;rw[List.range_succ,List.filter_append];simp[h]
theorem CG (K d j:Nat):(fP K d j).length<=j:=by
 unfold fP;exact Nat.le_trans (List.length_filter_le _ _) (by simp)
theorem jj {w:World}{base:Nat}{e:TypeId}{size n:Nat}{v:Value}{xs:List Value}(h:w.ownsRow base e size v n xs):∃p c,v=.slice p n c:=by
 rcases h.2 with⟨e,e0⟩ | ⟨g2,c2,cur,e,_⟩
 · exact⟨none,0,by rw[e,e0]⟩
 · exact⟨_,_,e⟩
theorem Fi:(Tryz.prog.info? 3).map (fun i=>(i.zero,i.size,i.bytes))=some (some (.int .i64 0),1,8):=by kernel_rfl
theorem oa (l1 l2 u1 u2 r:Int)(d:Nat)(hd:d<=1)(K:Nat)(hK:K<=12)(hr:12-r=(K:Int))(w:World)(hU:Uni w) :
 Calls Tryz.prog 59 #[.agg #[.int .i64 l1,.int .i64 l2,.int .i64 u1,.int .i64 u2],.int .i64 r,.int .i64 (d:Int)] w fun e w'=>∃(S:Nat) (vo:Value),e=.returned (.pointer (some ⟨S,0,none⟩))/\w.heap.size<=S/\SweepM S l1 l2 u1 u2 r d vo w'/\(w'.cell? ⟨S,7,none⟩=some (.slice none 0 0)/\w'.frozen? ⟨S,7,none⟩=false)/\w'.ownsRow (S+1) 3 1 vo (onw K d).length (jB (onw K d))/\Below w.heap.size w w':=by
 have UN:=ab fun(j:Nat) (hj:j<6) w hU=>(by have:=kh (j:Int) (by omega) (by omega) w hU;rwa [(oq hj).1,(oq hj).2]at this:Calls Tryz.prog 93 #[.int .i64 (j:Int)] w fun e w'=>e=.returned (.agg #[.int .i64 (uA j),.int .i64 (uB j)])/\Below w.heap.size w w')
 have PL:=ab fun(S j:Nat) (hj:j<6) w h=>vm S d hd (uA j) (uB j) r K hK hr (by have:=xU j;unfold bP;omega) w h;have HU:=ab hU;clear hU;obtain⟨i0,hi,hz0,hz1,hz2⟩:=de Fi
 go_enter Tryz.func59,Tryz.ntmps59
 go_wp2_with fail;have al:=ae (ag w (.cells #[.int .i64 l1,.int .i64 l2,.int .i64 u1,.int .i64 u2] 66)) (ag (w.alloc (.cells #[.int .i64 l1,.int .i64 l2,.int .i64 u1,.int .i64 u2] 66)) (.cells #[.int .i64 l1,.int .i64 l2,.int .i64 u1,.int .i64 u2,.int .i64 r,.int .i64 (d:Int),.slice none 0 0,.slice none 0 0] 141));have M0:SweepM (w.heap.size+1) l1 l2 u1 u2 r (d:Int) (.slice none 0 0) ((w.alloc (.cells #[.int .i64 l1,.int .i64 l2,.int .i64 u1,.int .i64 u2] 66)).alloc (.cells #[.int .i64 l1,.int .i64 l2,.int .i64 u1,.int .i64 u2,.int .i64 r,.int .i64 (d:Int),.slice none 0 0,.slice none 0 0] 141)):=⟨by go_simp,by go_simp,by go_simp,by go_simp,⟨by go_simp,by go_simp⟩,by go_simp⟩
 have c7:((w.alloc (.cells #[.int .i64 l1,.int .i64 l2,.int .i64 u1,.int .i64 u2] 66)).alloc (.cells #[.int .i64 l1,.int .i64 l2,.int .i64 u1,.int .i64 u2,.int .i64 r,.int .i64 (d:Int),.slice none 0 0,.slice none 0 0] 141)).cell? ⟨w.heap.size+1,7,none⟩=some (.slice none 0 0):=by go_simp
 have f6:((w.alloc (.cells #[.int .i64 l1,.int .i64 l2,.int .i64 u1,.int .i64 u2] 66)).alloc (.cells #[.int .i64 l1,.int .i64 l2,.int .i64 u1,.int .i64 u2,.int .i64 r,.int .i64 (d:Int),.slice none 0 0,.slice none 0 0] 141)).frozen? ⟨w.heap.size+1,6,none⟩=false:=by go_simp
 have f7:((w.alloc (.cells #[.int .i64 l1,.int .i64 l2,.int .i64 u1,.int .i64 u2] 66)).alloc (.cells #[.int .i64 l1,.int .i64 l2,.int .i64 u1,.int .i64 u2,.int .i64 r,.int .i64 (d:Int),.slice none 0 0,.slice none 0 0] 141)).frozen? ⟨w.heap.size+1,7,none⟩=false:=by go_simp
 generalize ((w.alloc (.cells #[.int .i64 l1,.int .i64 l2,.int .i64 u1,.int .i64 u2] 66)).alloc (.cells #[.int .i64 l1,.int .i64 l2,.int .i64 u1,.int .i64 u2,.int .i64 r,.int .i64 (d:Int),.slice none 0 0,.slice none 0 0] 141))=w1 at *;obtain⟨S,eS⟩:∃S,w.heap.size+1=S:=⟨_,rfl⟩
 rw[eS]at M0 c7 f6 f7 ⊢;have hS1:=World.block_lt_of_cell? _ _ c7;simp only at hS1;go_loopw [14] (fun v14 wr=>∃(j:Nat) (vo:Value),j<=6/\v14=.int .i64 (j:Int)/\Hid (SweepM S l1 l2 u1 u2 r (d:Int) vo wr)/\wr.cell? ⟨S,7,none⟩=some (.slice none 0 0)/\wr.frozen? ⟨S,7,none⟩=false/\wr.frozen? ⟨S,6,none⟩=false/\Hid (wr.ownsRow (S+1) 3 1 vo (fP K d j).length (jB (fP K d j)))/\Hid (Below w.heap.size w wr)) (fun v14 _=>6-(intOf v14).toNat)
 case atStart=>exact⟨0,_,by omega,rfl,ab M0,c7,f7,f6,ab (World.ownsRow_nil _ _ _ _),ab al⟩
 case round =>
  clear c7 f6 f7 M0 al;obtain⟨j,vo,hj,rfl,M,c7,f7,f6,OW,B⟩:=hrel;obtain⟨vp,vc,evo⟩:=jj OW.out;by_cases hj6:j<6
  · have hj6':(j:Int)<6:=by omega
    have U1:=ab (UN.out j hj6 wr (HU.out.below B.out));go_wp2_with fail;refine U1.out.mono ?_;rintro e w2 ⟨rfl,b2⟩;have hb2:=b2.size;replace f7:=ac b2 c7 f7;replace f6:=ac b2 M.out.way f6;replace c7:=aa b2 c7;replace M:=ab (M.out.keep b2);replace OW:=ab (ai b2 OW.out);replace B:=ab (ae B.out b2);have P1:=ab (PL.out S j hj6 w2 M.out.siz);clear U1 b2;have YES:=ab fun(h:0<plc K d (uA j) (uB j))=>CI h;have NO:=ab fun(h:¬0<plc K d (uA j) (uB j))=>Fy h;generalize uA j=pa at *;generalize uB j=pb at *;generalize plc K d pa pb=P at *;go_wp2_with fail;refine P1.out.mono ?_;rintro e w3 ⟨rfl,b3⟩;have hb3:=b3.size;replace f7:=ac b3 c7 f7;replace f6:=ac b3 M.out.way f6;replace c7:=aa b3 c7;replace M:=ab (M.out.keep b3);replace OW:=ab (ai b3 OW.out);replace B:=ab (ae B.out b3);clear P1 b3;by_cases hP:0<P
    · have c6:=M.out.way;rw[evo]at c6;have ol:=CG K d j;have lS:=World.block_lt_of_cell? _ _ c7;simp only at lS;have NX:=ab (YES.out hP);clear YES NO;have al:=ag w3 (.cells #[.int .i64 (j:Int)] 3);have nS:some S≠(Value.slice vp (fP K d j).length vc).ownBlock:=fun e=>by rw[←evo]at e;have:=(World.ownsRow.lt OW.out S e.symm).1;omega
      have CF:=ab (And.intro (And.intro (aa al c6) (ac al c6 f6)) (And.intro (aa al c7) (ac al c7 f7)));go_wp2_with (at_builtin;(refine wpList_append_lies _ rfl (.tmp 26) (.tmp 28) 137 rfl (S+1) 3 i0 (.int .i64 0) 1 8 Tryz.underlying137 hi hz0 hz1 hz2 rfl (by decide) (.slice vp (fP K d j).length vc) _ _ rfl (ai (ag _ _) (by rw[←evo];exact OW.out)) ⟨w3.heap.size,0,none⟩ 1 1 [.int .i64 (j:Int)] rfl rfl (bf _ _ rfl _ _) (bK _ _) (by decide) (by unfold maxLen;omega) (by omega) (by simp;omega) (w3.heap.size+1) (by simp) ?_;intro g6 q6 w6 hown hgrow hat hlt6;obtain⟨c6',f6'⟩:=ig hgrow nS CF.out.1))
      have gS:g6≠S:=by
       rcases hat with h | h
       · exact fun e=>nS (by rw[h,e])
       · omega
      have M6:=ab ((M.out.keep al).far hgrow nS);have f7':=ig (p:=⟨S,7,none⟩) hgrow nS CF.out.2;have B6:=ab ((ae B.out al).grown hgrow (by have:=B.out.size;simp;omega) (fun k e=>by rw[←evo]at e;have:=(World.ownsRow.lt OW.out k e).1;omega));have OW6:=ab hown;obtain⟨c7',f7''⟩:=f7';clear hown hgrow hat al M OW B c7 f7 f6 c6;go_roundw
      case rel =>
       refine⟨j+1,_,by omega,by go_num,ab (M6.out.way_set _),ah c7' (by simp),by rw[World.frozen?_setCell];exact f7'',by rw[World.frozen?_setCell];exact f6',ab ?_,ab (B6.out.setCell (by simp;omega) _)⟩;rw[NX.out,List.length_append];have hv:jB (fP K d j++[j])=jB (fP K d j)++[.int .i64 (j:Int)]:=by unfold jB;rw[List.map_append];rfl
       rw[hv];exact World.ownsRow.kept OW6.out (gu _ S 6 _) (.inr (by simpa[Value.ownBlock]using gS))
      case measure=>simp[intOf];omega
    · have hP0:decide (0<P)=false:=df (by omega);have NX:=ab (NO.out (by omega));clear YES NO hP;go_wp2_with fail;go_roundw
      case rel=>exact⟨j+1,vo,by omega,by go_num,M,c7,f7,f6,ab (by rw[NX.out];exact OW.out),B⟩
      case measure=>simp[intOf];omega
  · obtain rfl:j=6:=by omega
    have hj6':decide (((6:Nat):Int)<6)=false:=by decide
    go_wp2;go_ret;exact⟨S,vo,rfl,by omega,M.out,⟨c7,f7⟩,OW.out,B.out⟩
def cU (L:List (Int×Int)):List Value:=L.flatMap fun p=>[.int .i64 p.1,.int .i64 p.2]
theorem nY (p:Int×Int)(L:List (Int×Int)):cU (p :: L)=.int .i64 p.1 :: .int .i64 p.2 :: cU L:=rfl
theorem kw (L M:List (Int×Int)):cU (L++M)=cU L++cU M:=by unfold cU;rw[List.flatMap_append]
theorem kz (p:Int×Int):cU [p]=[.int .i64 p.1,.int .i64 p.2]:=by unfold cU;simp
theorem rJ:∀(L:List (Int×Int)) (i:Nat) (h:i<L.length),(cU L)[i*2]?=some (.int .i64 L[i].1)/\(cU L)[i*2+1]?=some (.int .i64 L[i].2)
 | p :: L,0,_=>by rw[nY];exact⟨rfl,rfl⟩
 | p :: L,i+1,h=>by
  rw[nY,show(i+1)*2=i*2+1+1 by omega];have:=rJ L i (by simpa using h);simp only[List.getElem?_cons_succ,List.getElem_cons_succ];exact this
def RowE (base:Nat)(v:Value)(L:List (Int×Int))(w:World):Prop:=w.ownsRow base 37 2 v L.length (cU L)
theorem RowE.keep {base:Nat}{v:Value}{L:List (Int×Int)}{w w':World}(h:RowE base v L w)(hb:Below w.heap.size w w'):RowE base v L w':=ai hb h
theorem RowE.any {base:Nat}{v:Value}{L:List (Int×Int)}{w:World}(h:RowE base v L w):∃p c,v=.slice p L.length c:=jj h
theorem RowE.at_ {base:Nat}{v:Value}{L:List (Int×Int)}{w:World}(h:RowE base v L w)(i:Nat)(hi:i<L.length) :
 ∃g c,v=.slice (some ⟨g,0,none⟩) L.length c/\base<=g/\w.cell? ⟨g,i*2,none⟩=some (.int .i64 L[i].1)/\w.cell? ⟨g,i*2+1,none⟩=some (.int .i64 L[i].2):=by
 obtain⟨g,c,e,hb,-⟩:=World.ownsRow.form h (by omega);have hO:w.ownsRow base 37 2 (.slice (some ⟨g,0,none⟩) L.length c) L.length (cU L):=by rw[←e];exact h
 have f:=rJ L i hi;exact⟨g,c,e,hb,(World.ownsRow.cellAt hO _ (by omega)).trans f.1,(World.ownsRow.cellAt hO _ (by omega)).trans f.2⟩
theorem RowE.grown {base:Nat}{v:Value}{L:List (Int×Int)}{w w':World}{r:Option Nat}(h:RowE base v L w)(hg:w.grownBy w' r)(hr:v.ownBlock≠r):RowE base v L w':=World.ownsRow.kept h hg (.inr hr)
theorem rj:(Tryz.prog.info? 37).map (fun i=>(i.zero,i.size,i.bytes))=some (some (.agg #[.int .i64 0,.int .i64 0]),2,16):=by kernel_rfl
theorem jG (w:World)(x y:Int)(e:TypeId):∀j u,([.int .i64 x,.int .i64 y]:List Value)[j]?=some u->(w.alloc (.cells #[.int .i64 x,.int .i64 y] e)).cell? ((⟨w.heap.size,0,none⟩:Addr).add j)=some u:=by
 intro j u hj
 match j,hj with
 | 0,hj=>simp at hj;subst hj;simp[Addr.add]
 | 1,hj=>simp at hj;subst hj;simp[Addr.add]
theorem jH (x y:Int):∀u∈([.int .i64 x,.int .i64 y]:List Value),u.oneCell'=true:=by
 intro u hu;simp at hu;rcases hu with rfl | rfl <;>rfl
def arL (p q:Int)(j:Nat):List (Int×Int):=(p,q) :: (List.range j).map fun i=>(p+uA i,q+uB i)
theorem ow (p q:Int)(j:Nat):(arL p q j).length=j+1:=by simp[arL]
theorem AV (p q:Int)(j:Nat):arL p q (j+1)=arL p q j++[(p+uA j,q+uB j)]:=by
 unfold arL;rw[List.range_succ,List.map_append];rfl
theorem vM {K:Nat}(hK:K<=12){x y p q a b:Int}(hn:aU (dvK K) (nuA K x y) (nuB K x y) p q)(h:Tou K x y x y a b):(a,b)∈arL p q 6:=by
 unfold arL;rcases rT hK hn h with⟨rfl,rfl⟩ | ⟨i,hi,rfl,rfl⟩
 · exact List.mem_cons_self ..
 · exact List.mem_cons_of_mem _ (List.mem_map.2 ⟨i,List.mem_range.2 hi,rfl⟩)
theorem C7 (x y r p q:Int)(K:Nat)(hK:K<=12)(hr:12-r=(K:Int))(hw:InW x y)(hn:aU (dvK K) (nuA K x y) (nuB K x y) p q)(w:World)(hU:Uni w) :
 Calls Tryz.prog 61 #[.agg #[.int .i64 x,.int .i64 y],.int .i64 r] w fun e w'=>(∃v,e=.returned v/\RowE w.heap.size v (arL p q 6) w')/\Below w.heap.size w w':=by
 have hp:=pC hK hw hn;have NE:=ab fun w=>CY x y r K hK hr hw p q hn w;have NB:=ab fun(j:Nat) (hj:j<6) w hU=>vh p q j hj (by omega) (by omega) w hU;have HU:=ab hU;clear hU hn hw hr;obtain⟨i0,hi,hz0,hz1,hz2⟩:=de rj
 go_enter Tryz.func61,Tryz.ntmps61
 go_wp2_with fail;refine(NE.out _).mono ?_;rintro e w1 ⟨rfl,b1⟩;have B1:=ab (ae (ag w (.cells #[.int .i64 x,.int .i64 y] 26)) b1);clear NE b1;go_wp2_with fail;have al1:=ag w1 (.cells #[.int .i64 p,.int .i64 q] 37);have al2:=ag (w1.alloc (.cells #[.int .i64 p,.int .i64 q] 37)) (.cells #[.int .i64 p,.int .i64 q] 37);have z0:((w1.alloc (.cells #[.int .i64 p,.int .i64 q] 37)).alloc (.cells #[.int .i64 p,.int .i64 q] 37)).cell? ⟨w1.heap.size,0,none⟩=some (.int .i64 p):=by go_simp
 have z1:((w1.alloc (.cells #[.int .i64 p,.int .i64 q] 37)).alloc (.cells #[.int .i64 p,.int .i64 q] 37)).cell? ⟨w1.heap.size,1,none⟩=some (.int .i64 q):=by go_simp
 have B2:=ab (ae (ae B1.out al1) al2);have hs1:=B1.out.size;have O2:RowE (w1.heap.size+1) (.slice (some ⟨w1.heap.size+1,0,none⟩) 1 1) (arL p q 0) ((w1.alloc (.cells #[.int .i64 p,.int .i64 q] 37)).alloc (.cells #[.int .i64 p,.int .i64 q] 37)):=by
  have:=World.ownsRow_lit (base:=w1.heap.size+1) (e:=37) (size:=2) (w1.alloc (.cells #[.int .i64 p,.int .i64 q] 37)) #[.int .i64 p,.int .i64 q] 1 (by simp) (by decide) rfl
  simpa[RowE,arL,cU]using this
 have O2:=ab O2;clear al1 al2 B1;generalize (w1.alloc (.cells #[.int .i64 p,.int .i64 q] 37)).alloc (.cells #[.int .i64 p,.int .i64 q] 37)=w2 at *;go_loopw [7,20] (fun v7 v20 wr=>∃j:Nat,j<=6/\v20=.int .i64 (j:Int)/\Hid (RowE (w1.heap.size+1) v7 (arL p q j) wr)/\(wr.cell? ⟨w1.heap.size,0,none⟩=some (.int .i64 p)/\wr.cell? ⟨w1.heap.size,1,none⟩=some (.int .i64 q))/\Hid (Below w.heap.size w wr)) (fun _ v20 _=>6-(intOf v20).toNat)
 case atStart=>exact⟨0,by omega,rfl,O2,⟨z0,z1⟩,B2⟩
 case round =>
  clear z0 z1 O2 B2;obtain⟨j,hj,rfl,OW,⟨z0,z1⟩,B⟩:=hrel;obtain⟨vp,vc,rfl⟩:=OW.out.any;have hl:=ow p q j;rw[hl];by_cases hj6:j<6
  · have hj6':(j:Int)<6:=by omega
    have N1:=ab (NB.out j hj6 wr (HU.out.below B.out));have ST:=ab (AV p q j);generalize p+uA j=a at *;generalize q+uB j=b at *;go_wp2_with fail;refine N1.out.mono ?_;rintro e w3 ⟨rfl,b3⟩;replace z0:=aa b3 z0;replace z1:=aa b3 z1;replace OW:=ab (OW.out.keep b3);replace B:=ab (ae B.out b3);have hs3:=B.out.size;have lz:=World.block_lt_of_cell? _ _ z0;simp only at lz;have al:=ag w3 (.cells #[.int .i64 a,.int .i64 b] 37);have O3:Hid (w3.ownsRow (w1.heap.size+1) 37 2 (.slice vp (j+1) vc) (j+1) (cU (arL p q j))):=ab (by have:=OW.out;unfold RowE at this;rw[hl]at this;exact this);clear N1 b3 OW;go_wp2_with (at_builtin;refine wpList_append_lies _ rfl (.tmp 23) (.tmp 27) 67 rfl (w1.heap.size+1) 37 i0 (.agg #[.int .i64 0,.int .i64 0]) 2 16 Tryz.underlying67 hi hz0 hz1 hz2 rfl (by decide) (.slice vp (j+1) vc) _ _ rfl (ai (ag _ _) O3.out) ⟨w3.heap.size,0,none⟩ 1 1 [.int .i64 a,.int .i64 b] rfl rfl (jG _ _ _ _) (jH _ _) (by decide) (by unfold maxLen;omega) (by omega) (by simp;omega) (w3.heap.size+1) (by simp) ?_;intro g6 q6 w6 hown hgrow hat hlt6)
    have R6:Hid (RowE (w1.heap.size+1) (.slice (some ⟨g6,0,none⟩) (j+1+1) q6) (arL p q (j+1)) w6):=ab (by
     unfold RowE;rw[ow,ST.out,kw,kz];exact hown)
    have hne:∀k,(Value.slice vp (j+1) vc).ownBlock=some k->w1.heap.size+1<=k:=fun k e=>(World.ownsRow.lt O3.out k e).1;have nz:some w1.heap.size≠(Value.slice vp (j+1) vc).ownBlock:=fun e=>by have:=hne _ e.symm;omega
    replace z0:=hgrow.cell (a:=⟨w1.heap.size,0,none⟩) (aa al z0) nz;replace z1:=hgrow.cell (a:=⟨w1.heap.size,1,none⟩) (aa al z1) nz;have B6:=ab ((ae B.out al).grown hgrow (by simp;omega) (fun k e=>by have:=hne k e;omega));clear hown hgrow hat al B O3 hne nz;go_roundw
    case rel=>exact⟨j+1,by omega,by go_num,R6,⟨z0,z1⟩,B6⟩
    case measure=>simp[intOf];omega
  · obtain rfl:j=6:=by omega
    have hj6':decide (((6:Nat):Int)<6)=false:=by decide
    go_wp2;go_ret;exact⟨⟨_,rfl,by have:=bo OW.out (show w.heap.size<=w1.heap.size+1 by omega);rw[hl]at this;exact this⟩,B.out⟩
end Go.Proofs.YtbnlhdnnenahfaaGreatDoor
namespace Go.Proofs.YtbnlhdnnenahfaaGreatDoor
section
open Go.RowKit Go
def Two2 (k:Nat)(W W':World):Prop:=∀i,i=k∨i=k+1->W'.heap[i]?=W.heap[i]?
theorem Two2.trans {k:Nat}{X Y Z:World}(h:Two2 k X Y)(h':Two2 k Y Z):Two2 k X Z:=fun i hi=>(h' i hi).trans (h i hi)
def Iq {σ:Type}(k:Nat)(I:σ->World->Prop)(lt:σ->Prop)(Ix:Code->World->Prop)(W:World):Exit->Act->World->Prop
 | .normal,_,W'=>Two2 k W W'/\∃s',lt s'/\I s' W'
 | .ret,_,W'=>Two2 k W W'/\Ix .ret W'
 | .exit id,_,W'=>Two2 k W W'/\Ix (.exit id) W'
 | .goto t,_,W'=>Two2 k W W'/\Ix (.goto t) W'
 | .panic _,_,_=>False
 | .outgrown,_,_=>False
def G8 {α σ:Type}(F:Fence)(n:Nat)(P:Program)(g:Nat)(pb lb:Array Value)(encs:α->Array Value)(Q:σ->World->Prop)(N:σ->α->World->World->Prop)(E:σ->Prop)(μ:σ->Nat):Prop :=
 ∀(l:Nat) (J:σ->World->Prop) (Jx:World->Prop),(∀s W,J s W->Q s W) ->
  (∀s x W W1,J s W->N s x W W1->YieldAt F (n-1) P l (encs x) W1 fun e W'=>(e=.returned (.bool true)/\∃s',μ s'<μ s/\J s' W')∨(e=.returned (.bool false)/\Jx W')) ->
  ∀s W,J s W->CallsIn F n P g (pb++#[.func (.yield l) #[] #[]]++lb) W fun e W'=>(∃v,e=.returned v)/\((∃s,E s/\J s W')∨Jx W')
theorem gz (W:World)(l:Nat)(o:Obj):W.grownBy (W.putObj l o) (some l):=grownBy_putObj' W l o
variable {F:Fence} {n:Nat} {P:Program}
theorem Db {α σ:Type}{g:Operand}{ps:Array Tmp}{assign body:Code}{Q:Exit->Act->World->Prop}{a:Act}{w:World}
 (hro:F.round=none) (h1:1<=n) {gf:Nat} {pb lb:Array Value} (hg:a.eval g=.func (.func gf) pb lb) (hFg:F.fn gf) (eg:∀args w,(callFunc gf args).run P w=.ok (.enter gf args) w)
 {encs:α->Array Value} {R:σ->World->Prop} {N:σ->α->World->World->Prop} {E:σ->Prop} {μ:σ->Nat} (hseq:G8 F (n-1) P gf pb lb encs R N E μ) (hps:∀x,(encs x).size=ps.size)
 (I:σ->World->Prop) (Ix:Code->World->Prop) (hIR:∀s W,I s W->R s W) (hI:∀s A C,I s A->A.grownBy C (some (w.heap.size+1))->w.heap.size+2<=A.heap.size->I s C) (hIx:∀c A C,Ix c A->A.grownBy C (some (w.heap.size+1))->w.heap.size+2<=A.heap.size->Ix c C)
 (s0:σ) (h0:∀W,Below w.heap.size w W->w.heap.size+2<=W.heap.size->I s0 W) (hN:∀s x A C,I s A->N s x A C->w.heap.size+2<=A.heap.size->Two2 w.heap.size A C/\A.heap.size<=C.heap.size)
 (Ax:Nat->α->Act->World->Prop) (hAx:∀m x a' A B,w.heap.size+2<=m->Ax m x a' A->A.grownBy B (some (w.heap.size+1))->Ax m x a' B)
 (hassign:∀ (l:Nat) (x:α) (W:World) (K:Act->World->Prop),w.heap.size+2<=W.heap.size->(∀ a' W',Ax W.heap.size x a' W'->Below W.heap.size W W'->K a' W') ->
   assign.wpIn (F.inRound l) (n-1-1) P (Exit.then K (fun _ _ _=>False)) { tmps:=(ps.zip (encs x)).foldl (fun t (p,v)=>t.setIfInBounds p v) a.tmps,defers:=[] } W)
 (hbody:∀(l:Nat) (s:σ) (x:α) (a':Act) (A C X:World),I s A->w.heap.size+2<=A.heap.size->N s x A C->C.grownBy X (some (w.heap.size+1))->Ax C.heap.size x a' X->body.wpIn (F.inRound l) (n-1-1) P (Iq w.heap.size I (fun s'=>μ s'<μ s) Ix X) a' X)
 (hdone:∀(s:σ) (W:World),E s->I s W->w.heap.size+2<=W.heap.size->W.heap[w.heap.size]?=some (.deferred (some []))->Q .normal { a with defers:={ target:=.collected w.heap.size,args:=#[] } :: a.defers } W)
 (hstop:∀(c:Code) (W:World),Ix c W->w.heap.size+2<=W.heap.size->W.heap[w.heap.size]?=some (.deferred (some []))->c.wpIn F n P Q { a with defers:={ target:=.collected w.heap.size,args:=#[] } :: a.defers } W) :
 (Code.rangeFunc g ps assign body).wpIn F n P Q a w:=by
 apply wpIn_rangeFunc;intro fn hfn;rw[hro];obtain⟨R',hR⟩:∃R':LoopState->Option Code->Loop,R'=fun st pe=>{ state:=st,pending:=pe,fn,tmps:=a.tmps,params:=ps,assign,body,defers:=w.heap.size }:=⟨_,rfl⟩
 have hen:=run_enterLoop_outer (P:=P) (w:=w) fn a.tmps ps assign body;rw[show({ state:=.ready,pending:=none,fn,tmps:=a.tmps,params:=ps,assign,body,defers:=w.heap.size }:Loop)=R' .ready none by rw[hR]]at hen;have hsz:((w.alloc (.deferred (some []))).alloc (.loop (R' .ready none))).heap.size=w.heap.size+2:=by simp
 have hl0:((w.alloc (.deferred (some []))).alloc (.loop (R' .ready none))).heap[w.heap.size+1]?=some (.loop (R' .ready none)):=by
  have:=World.alloc_heap_new (w.alloc (.deferred (some []))) (.loop (R' .ready none));rwa [World.size_alloc]at this
 have hk0:((w.alloc (.deferred (some []))).alloc (.loop (R' .ready none))).heap[w.heap.size]?=some (.deferred (some [])) :=
  (Below.heap_alloc _ _ _ (by simp)).trans (World.alloc_heap_new w _)
 have hB0:Below w.heap.size w ((w.alloc (.deferred (some []))).alloc (.loop (R' .ready none))):=((Below.refl _ w).alloc (Nat.le_refl _) _).alloc (by simp) _;generalize (w.alloc (.deferred (some []))).alloc (.loop (R' .ready none))=W1 at hen hsz hl0 hk0 hB0;have hI0:I s0 W1:=h0 _ hB0 (by omega);refine⟨w.heap.size+1,_,W1,{ target:=.fn (.func gf) lb,args:=pb++#[.func (.yield (w.heap.size+1)) #[] #[]] },W1,gf,pb++#[.func (.yield (w.heap.size+1)) #[] #[]]++lb,W1,hen,?_,?_,?_,fun _=>h1,?_⟩
 · simp only[resolve,hg];simp[go_sem]
 · intro f' hf';simp[Target.leads]at hf';subst hf';exact hFg
 · simp[invoke,go_sem,eg]
 refine(hseq (w.heap.size+1)
  (fun s W=>I s W/\W.heap[w.heap.size+1]?=some (.loop (R' .ready none))/\W.heap[w.heap.size]?=some (.deferred (some [])))
  (fun W=>∃c,Ix c W/\W.heap[w.heap.size+1]?=some (.loop (R' .done (some c)))/\W.heap[w.heap.size]?=some (.deferred (some [])))
  (fun s W h=>hIR s W h.1) ?round s0 W1 ⟨hI0,hl0,hk0⟩).mono ?behind
 case round =>
  rintro s x A C ⟨hi,hlA,hkA⟩ hNx;have hsA:w.heap.size+2<=A.heap.size:=by have:=(Array.getElem?_eq_some_iff.1 hlA).1;omega
  have hT:=hN s x A C hi hNx hsA;have hl:=(hT.1 (w.heap.size+1) (.inr rfl)).trans hlA;have hk:=(hT.1 w.heap.size (.inl rfl)).trans hkA;have hsC:w.heap.size+2<=C.heap.size:=by have:=hT.2;omega
  have hy:=run_yield (P:=P) (args:=encs x) hl (by rw[hR];exact hps x);rw[hR]at hy;refine⟨fn,_,assign,body,hy,roundIn_of_wpIn hfn (hassign _ x C _ hsC fun a' W hax hba=>?_)⟩;replace hl:=(hba.block _ (by omega)).trans hl;replace hk:=(hba.block _ (by omega)).trans hk;refine⟨_,run_beginRound hl (by rw[hR]),?_⟩;have hg1:=gz W (w.heap.size+1) (.loop { R' .ready none with state:=.busy });have hsW:w.heap.size+2<=W.heap.size:=Nat.le_trans hsC hba.size;have hl1:(W.putObj (w.heap.size+1) (.loop { R' .ready none with state:=.busy })).heap[w.heap.size+1]?=some (.loop { R' .ready none with state:=.busy }):=World.putObj_heap_same (by omega);have hk1:(W.putObj (w.heap.size+1) (.loop { R' .ready none with state:=.busy })).heap[w.heap.size]?=some (.deferred (some [])):=(World.putObj_heap_other (by omega)).trans hk;have hsX:w.heap.size+2<=(W.putObj (w.heap.size+1) (.loop { R' .ready none with state:=.busy })).heap.size:=by simp;omega
  generalize W.putObj (w.heap.size+1) (.loop { R' .ready none with state:=.busy })=X at hg1 hl1 hk1 hsX ⊢;have hcx:C.grownBy X (some (w.heap.size+1)):=⟨hg1.os.trans hba.os,hg1.tape.trans hba.tape,hg1.output.trans hba.output,Nat.le_trans hba.size hg1.size,fun i hi hne=>(hg1.block i (Nat.lt_of_lt_of_le hi hba.size) hne).trans (hba.block i hi)⟩
  refine wpIn_mono (hbody _ s x a' A C X hi hsA hNx hcx (hAx _ _ _ _ _ hsC hax hg1)) ?_;have fin:∀(j:Option Code) (Y:World),Two2 w.heap.size X Y ->
   (Instr.endRound (w.heap.size+1) j).run P Y=.ok (.bool j.isNone) (Y.putObj (w.heap.size+1) (.loop (R' (if j.isNone then .ready else .done) j))) /\
   Y.grownBy (Y.putObj (w.heap.size+1) (.loop (R' (if j.isNone then .ready else .done) j))) (some (w.heap.size+1))/\w.heap.size+2<=Y.heap.size /\
   (Y.putObj (w.heap.size+1) (.loop (R' (if j.isNone then .ready else .done) j))).heap[w.heap.size+1]?=some (.loop (R' (if j.isNone then .ready else .done) j)) /\
   (Y.putObj (w.heap.size+1) (.loop (R' (if j.isNone then .ready else .done) j))).heap[w.heap.size]?=some (.deferred (some [])):=by
   intro j Y hY;have hlY:=(hY (w.heap.size+1) (.inr rfl)).trans hl1;have hlt:w.heap.size+1<Y.heap.size:=(Array.getElem?_eq_some_iff.1 hlY).1;have hr:=run_endRound (P:=P) j hlY;rw[hR]at hr ⊢;exact⟨hr,gz Y _ _,by omega,World.putObj_heap_same hlt,(World.putObj_heap_other (by omega)).trans ((hY w.heap.size (.inl rfl)).trans hk1)⟩
  rintro e a3 Y hp;cases e with
  | normal =>
   obtain⟨hTY,s',hlt,hiY⟩:=hp;obtain⟨hr,hb2,hs2,hl2,hk2⟩:=fin none Y hTY;exact⟨_,_,hr,.inl ⟨rfl,s',hlt,hI _ _ _ hiY hb2 hs2,hl2,hk2⟩⟩
  | ret =>
   obtain⟨hTY,hiY⟩:=hp;obtain⟨hr,hb2,hs2,hl2,hk2⟩:=fin (some .ret) Y hTY;exact⟨_,_,hr,.inr ⟨rfl,.ret,hIx _ _ _ hiY hb2 hs2,hl2,hk2⟩⟩
  | exit id =>
   obtain⟨hTY,hiY⟩:=hp;obtain⟨hr,hb2,hs2,hl2,hk2⟩:=fin (some (.exit id)) Y hTY;exact⟨_,_,hr,.inr ⟨rfl,.exit id,hIx _ _ _ hiY hb2 hs2,hl2,hk2⟩⟩
  | goto t =>
   obtain⟨hTY,hiY⟩:=hp;obtain⟨hr,hb2,hs2,hl2,hk2⟩:=fin (some (.goto t)) Y hTY;exact⟨_,_,hr,.inr ⟨rfl,.goto t,hIx _ _ _ hiY hb2 hs2,hl2,hk2⟩⟩
  | panic ch=>exact hp.elim
  | outgrown=>exact hp.elim
 case behind =>
  rintro e Y ⟨⟨v,rfl⟩,(⟨s,hE,hi,hl,hk⟩ | ⟨c,hi,hl,hk⟩)⟩
  · have hlt:w.heap.size+1<Y.heap.size:=(Array.getElem?_eq_some_iff.1 hl).1;refine⟨none,_,by have:=run_endLoop (P:=P) hl (by rw[hR];simp);rw[hR]at this;exact this,?_⟩;exact hdone s _ hE (hI _ _ _ hi (gz Y _ _) (by omega)) (by simp;omega) ((World.putObj_heap_other (by omega)).trans hk)
  · have hlt:w.heap.size+1<Y.heap.size:=(Array.getElem?_eq_some_iff.1 hl).1;refine⟨some c,_,by have:=run_endLoop (P:=P) hl (by rw[hR];simp);rw[hR]at this;exact this,?_⟩;exact hstop c _ (hIx c _ _ hi (gz Y _ _) (by omega)) (by simp;omega) ((World.putObj_heap_other (by omega)).trans hk)
theorem lW {fn:Func}{tmps:Array Value}{S:Ending->World->Prop}{D:Nat}{W:World}(hd:W.heap[D]?=some (.deferred (some [])))
 (h0:LeavesInM F n P fn tmps S [] .returning (W.putObj D (.deferred none))):LeavesInM F n P fn tmps S [{ target:=.collected D,args:=#[] }] .returning W :=
 ⟨by simp,.inl ⟨D,_,rfl,run_takeDeferred hd,h0⟩⟩
end
end Go.Proofs.YtbnlhdnnenahfaaGreatDoor
namespace Go.Proofs.YtbnlhdnnenahfaaGreatDoor
open Go.RowKit Go
attribute [local go_sem] Oper.semAt_some
abbrev JP (x:Int):Array Value:=#[.agg #[.int .i64 (sp1 x),.int .i64 (sp2 x)]]
def Jc (base S:Nat)(v:Value)(H:List Int)(W:World):Prop:=HatQ W base S 7 v H/\Hp H.length H.toArray/\H.length<=400000
def D7 (base S:Nat)(v:Value)(H:List Int)(x:Int)(A C:World):Prop :=
 x∈H/\∃(L':List Int) (v':Value),(∀y∈L',y∈H/\y<x)/\(∀y∈H,y=x∨y∈L')/\L'.length+1<=H.length/\Hp L'.length L'.toArray/\HatQ C base S 7 v' L'/\v'.ownBlock=v.ownBlock/\ButQ S 7 v.ownBlock A C
theorem Ck {σ:Type}(J:σ->World->Prop)(μ:σ->Nat):∃m:World->Nat,∀W s,J s W->m W<=μ s/\∃s',J s' W/\μ s'=m W:=by
 have key:∀W,∃k,∀s,J s W->k<=μ s/\∃s',J s' W/\μ s'=k:=fun W=>by
  by_cases h:∃s,J s W
  · have low:∀n,(∃s,J s W/\μ s<=n)->∃k,(∀s,J s W->k<=μ s)/\∃s',J s' W/\μ s'=k:=by
     intro n;induction n with
     | zero =>
      rintro⟨s,hs,h0⟩;exact⟨0,fun _ _=>Nat.zero_le _,s,hs,by omega⟩
     | succ n ih =>
      rintro⟨s,hs,h0⟩;by_cases c:∃s,J s W/\μ s<=n
      · exact ih c
      · refine⟨n+1,fun t ht=>?_,s,hs,?_⟩
        · by_cases k:μ t<=n
          · exact absurd ⟨t,ht,k⟩ c
          · omega
        · by_cases k:μ s<=n
          · exact absurd ⟨s,hs,k⟩ c
          · omega
    obtain⟨s,hs⟩:=h;obtain⟨k,h1,h2⟩:=low (μ s) ⟨s,hs,Nat.le_refl _⟩;exact⟨k,fun t ht=>⟨h1 t ht,h2⟩⟩
  · exact⟨0,fun s hs=>absurd ⟨s,hs⟩ h⟩
 exact Classical.axiomOfChoice key
theorem IF (a b c:Int)(w:World):(Instr.field 185 (.agg #[.int .i64 a,.int .i64 b,.int .i64 c]) 1).run Tryz.prog w=.ok (.agg #[.int .i64 b,.int .i64 c]) w:=by kernel_rfl
theorem tx {σ:Type}(base S:Nat)(hd:σ->List Int)(val:σ->Value)(μ:σ->Nat) :
 G8 Fence.wide 2 Tryz.prog 95 #[.pointer (some ⟨S,7,none⟩)] #[] JP (fun s W=>Jc base S (val s) (hd s) W) (fun s x A C=>D7 base S (val s) (hd s) x A C) (fun s=>hd s=[]) μ:=by
 intro l J Jx hQ hY s0 W hJ;obtain⟨m,hm⟩:=Ck J μ;have HM:=ab hm;have HQ:=ab hQ;have HY:=ab hY;clear hm hQ hY;refine callsIn_of_wp Tryz.func95 rfl trivial ?_ rfl;simp only[Tryz.ntmps95,List.size_toArray,List.length_cons,List.length_nil,Nat.reduceAdd,Nat.reduceSub,Array.replicate_succ,Array.replicate_zero,List.push_toArray,List.append_toArray,List.nil_append,List.cons_append]
 gi_wp2
 gi_loopw [] (fun wr=>∃s,Hid (J s wr)) (fun wr=>m wr)
 case atStart=>exact⟨s0,ab hJ⟩
 case round =>
  obtain⟨s1,hs1⟩:=hrel;obtain⟨s,hJs,hμ⟩:=(HM.out _ _ hs1.out).2;have hq:=HQ.out _ _ hJs;obtain⟨hH,hp,hlen⟩:=hq;obtain⟨p,c,ev⟩:=hH.any;have hc:=hH.cell;rw[ev]at hc;have MU:=ab hμ;have HJ:=ab hJs;clear hs1 hJs hμ;by_cases h0:(hd s).length=0
  · have hd0:hd s=[]:=List.length_eq_zero_iff.1 h0;have HD:=ab hd0;rw[h0]at hc;clear hH hp hlen ev h0 hd0
    gi_wp2
    go_end0
    exact⟨⟨_,rfl⟩,.inl ⟨s,HD.out,HJ.out⟩⟩
  · obtain⟨k,hk⟩:∃k,(hd s).length=k+1:=⟨(hd s).length-1,by omega⟩
    have hk':(0:Int)<((k+1:Nat):Int):=by omega
    have hpk:Hp (k+1) (hd s).toArray:=by rw[←hk];exact hp
    have NX:=ab (Ik base S 7 k (val s) (hd s) hk _ hH hpk (by omega));have HK:=ab hk;rw[hk]at hc;clear hH hp hlen ev h0 hk hpk
    gi_wp2_with (first
     | (refine ⟨trivial,?_⟩
        gi_at_call 138
        refine(callsIn_wide.2 NX.out).mono ?_;rintro e w2 ⟨x,L',v',rfl,hx,h1,h2,h3,h4,h5,h6,h7⟩;have NN:=ab (show D7 base S (val s) (hd s) x _ w2 from⟨hx,L',v',h1,h2,(by have:=HK.out;omega),h4,h5,h6,h7⟩);clear hx h1 h2 h3 h4 h5 h6 h7 NX;have FZ:=IF (sp0 x) (sp1 x) (sp2 x) w2;obtain⟨fn,tmps,assign,body,hy,hRR⟩:=HY.out s x _ w2 HJ.out NN.out)
     | fail)
    refine hRR.mono ?_;rintro e W' (⟨rfl,s',hlt,hJ'⟩ | ⟨rfl,hX⟩)
    · have M1:=(HM.out W' s' hJ').1;have M2:Hid (m W'<m wr):=ab (by have:=MU.out;omega);have HJ2:=ab hJ';clear hJ' hlt MU NN hRR hy M1
      gi_wp2
      go_roundw
      case rel=>exact⟨s',HJ2⟩
      case measure=>exact M2.out
    · have HX:=ab hX;clear hX NN hRR hy
      gi_wp2
      refine bodyPost_ret (results_none rfl _ _ _) rfl ?_;exact⟨⟨_,rfl⟩,.inr HX.out⟩
end Go.Proofs.YtbnlhdnnenahfaaGreatDoor
namespace Go.Proofs.YtbnlhdnnenahfaaGreatDoor
open Go.RowKit Go
def LowT (B:Nat):Prop:=(1<B/\0<B)/\2<B
theorem Cov3.low {B:Nat}{w w':World}(h:Cov3 w)(hl:LowT B)(hb:Below B w w'):Cov3 w' :=
 ⟨Tabs.low h.1 hl.1.1 hl.1.2 hb,var?_below hb qt hl.2 h.2⟩
theorem Cov3.lt {w:World}(h:Cov3 w):LowT w.heap.size :=
 ⟨Tabs.lt h.1,World.block_lt_of_cell? _ _ (show w.cell? ⟨2,0,none⟩=some (.int .i64 1)from(h.2.cell 0).trans rfl)⟩
structure FromI (S X FB k:Nat) (l1 l2 u1 u2 r d:Int) (vo:Value) (O:List Nat) (w:World) (F:List (Int×Int)) (H:List Int) (v fv:Value) (W:World):Prop where
 hat:HatQ W (X+1) S 7 v H
 heap:Hp H.length H.toArray
 swm:SweepM S l1 l2 u1 u2 r d vo W
 onw:W.ownsRow (S+1) 3 1 vo O.length (jB O)
 ptr:W.cell? ⟨X,0,none⟩=some (.pointer (some ⟨S,0,none⟩))
 fnd:W.cell? ⟨FB,0,none⟩=some fv
 ffz:W.frozen? ⟨FB,0,none⟩=false
 row:RowE (k+2) fv F W
 cov:Cov3 W
 frm:ButQ S 7 none w W
 vsep:∀z,v.ownBlock=some z->z≠FB/\z≠k/\z≠k+1/\fv.ownBlock≠some z
structure FromO (S X FB k:Nat) (vo:Value) (w:World):Prop where
 s:S<X
 x:w.heap.size=X
 fb:X<FB
 k:FB<k
 low:LowT S
 vo:∀z,vo.ownBlock=some z->S<z/\z<X
theorem FromI.below {S X FB k:Nat}{l1 l2 u1 u2 r d:Int}{vo:Value}{O:List Nat}{w:World}{F:List (Int×Int)}{H:List Int}{v fv:Value}{W W':World}(h:FromI S X FB k l1 l2 u1 u2 r d vo O w F H v fv W)(hb:Below W.heap.size W W'):FromI S X FB k l1 l2 u1 u2 r d vo O w F H v fv W' :=
 ⟨h.hat.keep hb,h.heap,h.swm.keep hb,ai hb h.onw,aa hb h.ptr,aa hb h.fnd,ac hb h.fnd h.ffz,h.row.keep hb,h.cov.below hb,h.frm.trans (ButQ.of_below (r:=none) hb h.hat.lt) (.inl rfl),h.vsep⟩
theorem HatQ.grownR {w w':World}{base B o:Nat}{v:Value}{L:List Int}{r:Option Nat}(h:HatQ w base B o v L)(hg:w.grownBy w' r)(h1:some B≠r)(h2:v.ownBlock≠r):HatQ w' base B o v L :=
 ⟨hg.cell h.cell h1,by rw[World.frozen?_of_block (hg.block B h.lt h1)];exact h.frz,h.ne,World.ownsRow.kept h.own hg (.inr h2)⟩
theorem FromI.grown {S X FB k:Nat}{l1 l2 u1 u2 r d:Int}{vo:Value}{O:List Nat}{w:World}{F:List (Int×Int)}{H:List Int}{v fv:Value}{W W':World}(h:FromI S X FB k l1 l2 u1 u2 r d vo O w F H v fv W)(o:FromO S X FB k vo w)(hg:W.grownBy W' (some (k+1))):FromI S X FB k l1 l2 u1 u2 r d vo O w F H v fv W':=by
 obtain⟨o1,o2,o3,o4,o5,o6⟩:=o;have nv:v.ownBlock≠some (k+1):=fun e=>(h.vsep _ e).2.2.1 rfl;have nf:fv.ownBlock≠some (k+1):=fun e=>by have:=(World.ownsRow.lt h.row _ e).1;omega
 refine⟨h.hat.grownR hg (by simp;omega) nv,h.heap,h.swm.far hg (by simp;omega),World.ownsRow.kept h.onw hg (.inr fun e=>by have:=o6 _ e;omega),hg.cell h.ptr (by simp;omega),hg.cell h.fnd (by simp;omega),?_,h.row.grown hg nf,h.cov.low o5 ?_,h.frm.trans (ButQ.grown (r:=some (k+1)) hg h.hat.lt (by simp;omega)) (.inr fun z hz=>by have:=Option.some.inj hz;omega),h.vsep⟩
 · rw[World.frozen?_of_block (hg.block FB (World.block_lt_of_cell? _ _ h.fnd) (by simp;omega))];exact h.ffz
 · exact(Below.refl S W).grown hg (by have:=h.hat.lt;omega) (fun z hz=>by have:=Option.some.inj hz;omega)
theorem FromI.but {S X FB k:Nat}{l1 l2 u1 u2 r d:Int}{vo:Value}{O:List Nat}{w:World}{F:List (Int×Int)}{H H':List Int}{v v' fv:Value}{W W':World}(h:FromI S X FB k l1 l2 u1 u2 r d vo O w F H v fv W)(o:FromO S X FB k vo w)(hb:ButQ S 7 v.ownBlock W W')(hat':HatQ W' (X+1) S 7 v' H')(hp':Hp H'.length H'.toArray)(hv:∀z,v'.ownBlock=some z->v.ownBlock=some z∨W.heap.size<=z)(hk:k+2<=W.heap.size):FromI S X FB k l1 l2 u1 u2 r d vo O w F H' v' fv W':=by
 obtain⟨o1,o2,o3,o4,o5,o6⟩:=o;have hvX:∀z,v.ownBlock=some z->X+1<=z:=fun z e=>(World.ownsRow.lt h.hat.own z e).1;have nX:v.ownBlock≠some X:=fun e=>by have:=hvX _ e;omega
 have nF:v.ownBlock≠some FB:=fun e=>(h.vsep _ e).1 rfl;refine⟨hat',hp',h.swm.but hb,hb.own h.onw (fun e=>by have:=o6 _ e;omega) (fun z e e'=>by have:=o6 _ e';have:=hvX _ e;omega),hb.cellK h.ptr (by simp;omega) nX,hb.cellK h.fnd (by simp;omega) nF,?_,hb.own h.row (fun e=>by have:=(World.ownsRow.lt h.row _ e).1;omega) (fun z e e'=>(h.vsep _ e).2.2.2 e'),h.cov.low o5 (hb.below (Nat.le_refl _) (fun z e=>by have:=hvX _ e;omega) (by have:=h.hat.lt;omega)),h.frm.trans hb (.inr fun z e=>by have:=hvX _ e;omega),fun z e=>?_⟩
 · rw[hb.frozK (p:=⟨FB,0,none⟩) (World.block_lt_of_cell? _ _ h.fnd) (by simp;omega) nF];exact h.ffz
 · rcases hv z e with e1 | e1
   · exact h.vsep z e1
   · have lF:=World.block_lt_of_cell? _ _ h.fnd;simp only at lF;exact⟨by omega,by omega,by omega,fun e'=>by have:=(World.ownsRow.lt h.row _ e').2;omega⟩
theorem FromI.found {S X FB k:Nat}{l1 l2 u1 u2 r d:Int}{vo:Value}{O:List Nat}{w:World}{F F':List (Int×Int)}{H:List Int}{v fv fv':Value}{W W1:World}(h:FromI S X FB k l1 l2 u1 u2 r d vo O w F H v fv W)(o:FromO S X FB k vo w)(hg:W.grownBy W1 fv.ownBlock)(hr:RowE (k+2) fv' F' W1)(hv:∀z,fv'.ownBlock=some z->fv.ownBlock=some z∨W.heap.size<=z):FromI S X FB k l1 l2 u1 u2 r d vo O w F' H v fv' (W1.setCell ⟨FB,0,none⟩ fv'):=by
 obtain⟨o1,o2,o3,o4,o5,o6⟩:=o;have hfz:∀z,fv.ownBlock=some z->k+2<=z:=fun z e=>(World.ownsRow.lt h.row z e).1;have g2:=gu W1 FB 0 fv';have nS:some S≠fv.ownBlock:=fun e=>by have:=hfz _ e.symm;omega
 have nX:some X≠fv.ownBlock:=fun e=>by have:=hfz _ e.symm;omega
 have nF:some FB≠fv.ownBlock:=fun e=>by have:=hfz _ e.symm;omega
 have nv:v.ownBlock≠fv.ownBlock∨v.ownBlock=none:=by
  cases e:v.ownBlock with
  | none=>exact .inr rfl
  | some z=>exact .inl fun e'=>(h.vsep z e).2.2.2 e'.symm
 have nvF:v.ownBlock≠some FB:=fun e=>(h.vsep _ e).1 rfl;have hsz:=h.hat.lt;have HA:HatQ W1 (X+1) S 7 v H:=⟨hg.cell h.hat.cell nS,by rw[World.frozen?_of_block (hg.block S hsz nS)];exact h.hat.frz,h.hat.ne,World.ownsRow.kept h.hat.own hg (nv.elim .inr .inl)⟩
 have hBW:Below S W W1:=(Below.refl S W).grown hg (by omega) (fun z e=>by have:=hfz z e;omega);have hB2:Below S W1 (W1.setCell ⟨FB,0,none⟩ fv'):=(Below.refl S W1).setCell (by simp;omega) _;refine⟨HA.grownR g2 (by simp;omega) nvF,h.heap,(h.swm.far hg nS).far g2 (by simp;omega),World.ownsRow.kept (World.ownsRow.kept h.onw hg ?_) g2 (.inr fun e=>by have:=o6 _ e;omega),ah (hg.cell h.ptr nX) (by simp;try omega),ay (hg.cell h.fnd nF),?_,hr.grown g2 ?_,h.cov.low o5 (hBW.trans hB2),?_,fun z e=>⟨(h.vsep z e).1,(h.vsep z e).2.1,(h.vsep z e).2.2.1,fun e'=>?_⟩⟩
 · cases e:vo.ownBlock with
   | none=>exact .inl rfl
   | some z=>exact .inr fun e'=>by have:=o6 _ e;have:=hfz _ e'.symm;omega
 · rw[World.frozen?_setCell,World.frozen?_of_block (hg.block FB (World.block_lt_of_cell? _ _ h.fnd) nF)];exact h.ffz
 · intro e;have:=(World.ownsRow.lt hr _ e).1;omega
 · have hSW1:S<W1.heap.size:=Nat.lt_of_lt_of_le hsz hg.size;exact(h.frm.trans (ButQ.grown (r:=fv.ownBlock) hg hsz (fun e=>nS e.symm)) (.inr fun z e=>by have:=hfz z e;omega)).trans (ButQ.grown (r:=some FB) g2 hSW1 (by simp;omega)) (.inr fun z e=>by have:=Option.some.inj e;omega)
 · rcases hv z e' with e1 | e1
   · exact(h.vsep z e).2.2.2 e1
   · have:=(World.ownsRow.lt h.hat.own z e).2;omega
end Go.Proofs.YtbnlhdnnenahfaaGreatDoor
namespace Go.Proofs.YtbnlhdnnenahfaaGreatDoor
section
open Go.RowKit Go
variable {P:Program} {Q:Exit->Act->World->Prop} {md:Region.Mode} {S:World->Prop}
theorem az (i:Nat){l rest:List Oper}{oi:Oper}{v:Value}{fuel:Nat}{listed:Array Bool}{a:Act}{w:World}(hd:l.drop i=oi :: rest)
 (hs:Region.noSelect l.toArray=true) (hf:Region.free md l.toArray listed i=true) (hr:(Region.ready md l.toArray listed).contains i=true)
 (hQ:∀c a w,Q (.panic c) (a.put oi.dst v) w->Q (.panic c) a w) (hy:YieldsIf P l.toArray S oi v a) (hS:S w)
 (h:wpAnyH P md l.toArray Q S fuel (listed.setIfInBounds i true) (a.put oi.dst v) w):wpAnyH P md l.toArray Q S (fuel+1) listed a w:=by
 have e:l.toArray[i]?=some oi:=by
  rw[List.getElem?_toArray,←List.head?_drop,hd];rfl
 exact wpAnyH_take e hs hf hr hQ hy hS h
theorem iD {i:Nat}{l rest:List Oper}{o:Oper}{fuel:Nat}{listed:Array Bool}{a:Act}{w:World}(hd:l.drop i=o :: rest)
 (h:∀K':Act->World->Prop,Shut (∀a w,S w->(S w->wpAnyH P md l.toArray Q S fuel (listed.setIfInBounds i true) a w)->K' a w)->if Region.wanted o (yielded l.toArray a.tmps)=true then Oper.wp P o a w K' Q else K' (a.put o.dst undef) w) :
 AllReadyH P md l.toArray Q S fuel listed a w [i]:=by
 have e:l.toArray[i]?=some o:=by
  rw[List.getElem?_toArray,←List.head?_drop,hd];rfl
 exact AllReadyH.cons e h AllReadyH.nil
def lg (ops:Array Oper):Bool:=ops.toList.all fun o=>match o.op with
 | .defer _=>false
 | _=>true
theorem xc {ops:Array Oper}(h:lg ops=true){i:Nat}{o:Oper}(ho:ops[i]?=some o)(c:Call):o.op≠.defer c:=fun e=>by
 have hm:o∈ops.toList:=by
  rw[←Array.getElem?_toList]at ho;exact List.mem_of_getElem? ho
 have:=List.all_eq_true.1 h o hm;rw[e]at this;cases this
theorem zz {l n:Nat}{o:Oper}{a:Act}{w:World}{K:Act->World->Prop}(hd:∀c,o.op≠.defer c)(h:Oper.wp P o a w K Q):Oper.wpIn (Fence.wide.inRound l) n P o a w K Q:=by
 refine⟨fun _ _=>trivial,?_⟩;rw[Oper.semAt_eq _ _ _ hd];unfold Oper.wp at h;generalize (execOp a.eval o).run P w=r at *;cases r with
 | ok x w' =>
  cases x with
  | value v=>exact h
  | skip=>exact h
  | defer d=>exact h
  | enter f args=>exact⟨fun e=>by simp[Fence.wide,Fence.inRound]at e,CallsIn.inRound l (callsIn_wide.2 h)⟩
  | row row args =>
   refine⟨fun e=>by simp[Fence.wide,Fence.inRound]at e,fun c cs _=>?_⟩;obtain⟨v,w'',h1,h2⟩:=h c cs;exact⟨v,w'',h1,stepsIn_wide.2 h2⟩
  | _=>exact h.elim
 | halt x w'=>cases x <;>exact h
theorem AH {ops:Array Oper}{l n i:Nat}{a:Act}{w:World}{K:Act->World->Prop}(hd:lg ops=true)(hL:¬LetsOut Q)(h:wpOp P ops Q i K a w):wpOpIn (Fence.wide.inRound l) n P ops Q i K a w:=by
 unfold wpOp at h;unfold wpOpIn;cases ho:ops[i]? with
 | none=>rw[ho]at h;exact h
 | some o =>
  rw[ho]at h;dsimp only at h ⊢
  split
  · rename_i hw;rw[if_pos hw]at h;rcases h with h | h
    · exact zz (xc hd ho) h
    · exact absurd h.2 hL
  · rename_i hw;rw[if_neg hw]at h;exact⟨fun _ _=>trivial,h⟩
theorem iH {ops:Array Oper}{l n:Nat}(hd:lg ops=true)(hL:¬LetsOut Q):∀(fuel:Nat) (listed:Array Bool) (a:Act) (w:World),wpAnyH P md ops Q S fuel listed a w->wpAnyIn (Fence.wide.inRound l) n P md ops Q fuel listed a w
 | 0,_,_,_,h=>h
 | fuel+1,_,_,_,h=>⟨h.1,fun i hi=>AH hd hL (wpOp_mono (fun a' w' h'=>iH hd hL fuel _ a' w' h'.2) (h.2 i hi))⟩
theorem fm {id l n:Nat}{ops:Array Oper}{a:Act}{w:World}(hm:P.follows .mixedOrders=true)(hd:lg ops=true)(hL:¬LetsOut Q)(hS:S w.drew)
 (h:S w.drew->wpAnyH P .any ops Q S ops.size (Array.replicate ops.size false) a w.drew):(Code.region id ops true).wpIn (Fence.wide.inRound l) n P Q a w :=
 wpIn_region_any hm (iH hd hL _ _ _ _ (h hS))
theorem fI {F:Fence}{nF:Nat}(w:World){ops:Array Oper}{rest:List Oper}{o:Oper}{a:Act}(hgd:o.guard=none)(s x:Operand)(t:TypeId)
 (ho:o.op=.call { callee:=.builtin .append,args:=#[s,x],argTypes:=#[t,t] })
 (base:Nat) (e:TypeId) (i:TypeInfo) (z:Value) (size bytes:Nat) (ht:P.underlying t=some (.slice e)) (hi:P.info? e=some i) (hz:i.zero=some z)
 (hsize:i.size=size) (hby:i.bytes=bytes) (hzs:z.cells.size=size) (hsz:0<size)
 (v:Value) (n:Nat) (xs:List Value) (hs:a.eval s=v) (hown:w.ownsRow base e size v n xs)
 (ad:Addr) (m c:Nat) (news:List Value) (hx:a.eval x=.slice (some ad) m c) (hl:news.length=m*size) (hnews:∀j u,news[j]?=some u->w.cell? (ad.add j)=some u) (h1:∀u∈news,u.oneCell'=true)
 (hm:0<m) (h63:n+m<=maxLen) (hbytes:(n+m)*bytes<=140737488355328) (hbase:base<=w.heap.size) (H:Nat) (hH:w.heap.size=H)
 (h:∀g cap w',w'.ownsRow base e size (.slice (some ⟨g,0,none⟩) (n+m) cap) (n+m) (xs++news)->w.grownBy w' v.ownBlock->(v.ownBlock=some g∨g=H)->g<w'.heap.size->wpListIn F nF P ops Q rest (a.put o.dst (.slice (some ⟨g,0,none⟩) (n+m) cap)) w') :
 wpListIn F nF P ops Q (o :: rest) a w:=by
 refine wpListIn_plain hgd fun K hK=>?_;obtain⟨g,cap,w',hr,h2,h3,h4,h5⟩:=run_append_lies (P:=P) w t o.type base e i z size bytes ht hi hz hsize hby hzs hsz v n xs hown ad m c news hl hnews h1 hm h63 hbytes hbase H hH;unfold Oper.wpIn;refine⟨by simp[Oper.about,ho,resolve,Target.leads,Sem.run_pure],?_⟩;rw[Oper.semAt_plain F _ _ (by rw[ho];intro c hc';cases hc')];simp[execOp,ho,resolve,invoke,builtin,hs,hx,hr,Result.andThen];exact hK _ _ (h g cap w' h2 h3 h4 h5)
end
end Go.Proofs.YtbnlhdnnenahfaaGreatDoor
