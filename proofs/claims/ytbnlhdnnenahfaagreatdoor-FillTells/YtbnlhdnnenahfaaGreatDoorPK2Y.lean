/-
  What the texts UApart, JBro, JJoin, VCheck say, so far as this seat's proofs need it.
-/
import Derived.Test.YtbnlhdnnenahfaaGreatDoorI2Y
import Derived.Test.YtbnlhdnnenahfaaGreatDoorPK1Y
set_option maxHeartbeats 8000000
set_option maxRecDepth 100000
namespace Go.Proofs.YtbnlhdnnenahfaaGreatDoor
open Go.RowKit
theorem qE {P:Program}(w:World)(base:Nat)(t ty e:TypeId)(i:TypeInfo)(z:Value)(size bytes:Nat)(ht:P.underlying t=some (.slice e))(hi:P.info? e=some i)(hz:i.zero=some z)
 (hsize:i.size=size) (hby:i.bytes=bytes) (hzs:z.cells.size=size) (hsz:0<size) (v:Value) (n:Nat) (xs:List Value) (hown:w.ownsRow base e size v n xs)
 (a:Addr) (m c:Nat) (hm:0<m) (news:List Value) (hl:news.length=m*size) (hnews:∀j u,news[j]?=some u->w.cell? (a.add j)=some u) (h1:∀u∈news,u.oneCell'=true)
 (h63:n+m<=maxLen) (hbytes:(n+m)*bytes<=140737488355328) (hbase:base<=w.heap.size) :
 ∃v' w',(Builtin.append_ #[t,t] ty #[v,.slice (some a) m c]).run P w=.ok v' w'/\w'.ownsRow base e size v' (n+m) (xs++news)/\w.grownBy w' v.ownBlock/\(v'.ownBlock=v.ownBlock∨v'.ownBlock=some w.heap.size):=by
 obtain⟨v',w',hr,h2,h3,-⟩:=run_append_own (P:=P) w base t ty e i z size bytes ht hi hz hsize hby hzs hsz v n xs hown a m c news hl hnews h1 h63 hbytes hbase;refine⟨v',w',hr,h2,h3,?_⟩;have hk:n+m<=9223372036854775807:=by simp only[maxLen]at h63;omega
 subst hsize hby;have key:∀ {x:Value} {y:World},(Builtin.append_ #[t,t] ty #[v,.slice (some a) m c]).run P w=.ok x y->v'=x:=fun h=>by
  rw[hr]at h
  injection h
 rcases hown.2 with⟨rfl,rfl⟩ | ⟨g,cap,cur,rfl,hbg,hg,hnc,hcm,hcs,htake⟩
 · have hb:m*i.bytes<=281474976710656:=by have h:=hbytes;rw[Nat.zero_add]at h;omega
   rw[key (run_append_nil (P:=P) w t ty e i z ht hi hz a m c news hl hnews hm (by omega) hb)];exact .inr rfl
 · by_cases hroom:n+m<=cap
   · have hfit:n*i.size+news.length<=cur.size:=by rw[hl,hcs,←Nat.add_mul];exact Nat.mul_le_mul_right _ hroom
     rw[key (run_append_room (P:=P) w t ty e i ht hi g n cap cur hg a m c news hl hnews h1 hroom hfit)];exact .inl rfl
   · rw[key (run_append_grow (P:=P) w t ty e i z ht hi hz ⟨g,0,none⟩ n cap xs hown.1 (hown.cells (g:=g) rfl) a m c news hl hnews (by omega) (by omega) (growslice_fits (by omega) hbytes))];exact .inr rfl
theorem dQ {P:Program}{w:World}{ops:Array Oper}{rest:List Oper}{o:Oper}{a:Act}{Q:Exit->Act->World->Prop}(hgd:o.guard=none)(s x:Operand)(t:TypeId)
 (ho:o.op=.call { callee:=.builtin .append,args:=#[s,x],argTypes:=#[t,t] })
 (base:Nat) (e:TypeId) (i:TypeInfo) (z:Value) (size bytes:Nat) (ht:P.underlying t=some (.slice e)) (hi:P.info? e=some i) (hz:i.zero=some z)
 (hsize:i.size=size) (hby:i.bytes=bytes) (hzs:z.cells.size=size) (hsz:0<size)
 (v:Value) (n:Nat) (xs:List Value) (hs:a.eval s=v) (hown:w.ownsRow base e size v n xs)
 (ad:Addr) (m c:Nat) (hm:0<m) (news:List Value) (hx:a.eval x=.slice (some ad) m c) (hl:news.length=m*size) (hnews:∀j u,news[j]?=some u->w.cell? (ad.add j)=some u) (h1:∀u∈news,u.oneCell'=true)
 (h63:n+m<=maxLen) (hbytes:(n+m)*bytes<=140737488355328) (hbase:base<=w.heap.size)
 (h:∀v' w',w'.ownsRow base e size v' (n+m) (xs++news)->w.grownBy w' v.ownBlock->(v'.ownBlock=v.ownBlock∨v'.ownBlock=some w.heap.size)->wpList P ops Q rest (a.put o.dst v') w'):wpList P ops Q (o :: rest) a w:=by
 refine wpList_plain hgd fun K hK=>?_;obtain⟨v',w',hr,h2,h3,h4⟩:=qE (P:=P) w base t o.type e i z size bytes ht hi hz hsize hby hzs hsz v n xs hown ad m c hm news hl hnews h1 h63 hbytes hbase;unfold Oper.wp;simp[execOp,ho,resolve,invoke,builtin,hs,hx,hr,Result.andThen];exact hK _ _ (h v' w' h2 h3 h4)
def Addressed (s:Value):Prop:=s=.slice none 0 0∨∃a m c,s=.slice (some a) m c
theorem vL {w:World}(base:Nat)(ty:TypeId)(v:Value)(n:Nat)(xs:List Value)(hown:w.ownsRow base 35 1 v n xs)(sA:Value)(A:List Int)(hA:Lst w sA A)(hs0:Addressed sA)(h63:n+A.length<=1000000)(hbase:base<=w.heap.size) :
 ∃v' w',(Builtin.append_ #[22,22] ty #[v,sA]).run Tryz.prog w=.ok v' w'/\w'.ownsRow base 35 1 v' (n+A.length) (xs++aj A)/\w.grownBy w' v.ownBlock:=by
 obtain⟨i0,hi,hz0,hz1,hz2⟩:=info_parts ca;rcases hs0 with rfl | ⟨ad,m,c,rfl⟩
 · have h0:A=[]:=by
    obtain⟨p,cap,e,h1,-⟩:=hA;simp only[Value.slice.injEq]at e;exact List.length_eq_zero_iff.1 (by omega)
   subst h0;exact⟨v,w,run_append_owned_none (P:=Tryz.prog) w base 22 ty 35 i0 1 Tryz.underlying22 hi v n xs hown,by simpa[aj]using hown,⟨rfl,rfl,rfl,Nat.le_refl _,fun _ _ _=>rfl⟩⟩
 · obtain⟨p,cap,e,h1,hc⟩:=hA;simp only[Value.slice.injEq]at e;obtain⟨rfl,rfl,rfl⟩:=e;obtain⟨v',w',hr,h2,h3,-⟩:=run_append_own (P:=Tryz.prog) w base 22 ty 35 i0 (.int .u64 0) 1 8 Tryz.underlying22 hi hz0 hz1 hz2 rfl (by decide) v n xs hown ad A.length c (aj A) (by rw[aD];omega) (fun j u hj=>by
    have hj':j<A.length:=by rw[List.getElem?_eq_some_iff]at hj;rw[←aD];exact hj.1
    obtain⟨g,o',e,hcj⟩:=hc j hj';simp only[Option.some.injEq]at e;subst e;rw[dG A j hj']at hj;rw[Go.WideShapes.add_plain,hcj,hj]) (jU A) (by unfold maxLen;omega) (by omega) hbase
   exact⟨v',w',hr,h2,h3⟩
theorem gH {w:World}{ops:Array Oper}{rest:List Oper}{o:Oper}{a:Act}{Q:Exit->Act->World->Prop}(hw:Region.wanted o (yielded ops a.tmps)=true)(s x:Operand)
 (ho:o.op=.call { callee:=.builtin .append,args:=#[s,x],argTypes:=#[22,22] })
 (base:Nat) (v:Value) (n:Nat) (xs:List Value) (hs:a.eval s=v) (hown:w.ownsRow base 35 1 v n xs)
 (sA:Value) (A:List Int) (hx:a.eval x=sA) (hA:Lst w sA A) (hs0:Addressed sA) (h63:n+A.length<=1000000) (hbase:base<=w.heap.size)
 (h:∀v' w',w'.ownsRow base 35 1 v' (n+A.length) (xs++aj A)->w.grownBy w' v.ownBlock->wpList Tryz.prog ops Q rest (a.put o.dst v') w'):wpList Tryz.prog ops Q (o :: rest) a w:=by
 refine BigFrame.wpList_want hw fun K hK=>?_;obtain⟨v',w',hr,h2,h3⟩:=vL base o.type v n xs hown sA A hA hs0 h63 hbase;unfold Oper.wp;simp[execOp,ho,resolve,invoke,builtin,hs,hx,hr,Result.andThen];exact hK _ _ (h v' w' h2 h3)
theorem But.grown {a b:Nat}{u w w':World}{row:Option Nat}(h:But a b u w)(hg:w.grownBy w' row)(hr:∀k,row=some k->u.heap.size<=k):But a b u w' :=
 ⟨hg.os.trans h.os,hg.tape.trans h.tape,hg.output.trans h.output,Nat.le_trans h.size hg.size,fun k hk h1 h2=>by
   rw[hg.block k (Nat.lt_of_lt_of_le hk h.size) (fun e=>by have:=hr k e.symm;omega),h.block k hk h1 h2]⟩
theorem But.new {a b:Nat}{u w w':World}(h:But a b u w)(hb:Below w.heap.size w w'):But a b u w' :=
 ⟨hb.os.trans h.os,hb.tape.trans h.tape,hb.output.trans h.output,Nat.le_trans h.size hb.size,fun k hk h1 h2=>by
   rw[hb.block k (Nat.lt_of_lt_of_le hk h.size),h.block k hk h1 h2]⟩
theorem Hat.grown {w w':World}{base B g c C:Nat}{L:List Int}{row:Option Nat}(h:Hat w base B g c L)(hg:w.grownBy w' row)(hr:∀k,row=some k->C<=k)(hB:B<C)(hgC:g<C):Hat w' base B g c L:=by
 have hlt:=h.lt;have e1:w'.heap[B]?=w.heap[B]?:=hg.block B hlt.2.2 (fun e=>by have:=hr B e.symm;omega);refine⟨by rw[World.cell?_of_block (w:=w) e1];exact h.1,by rw[World.frozen?_of_block (w:=w) e1];exact h.2.1,h.2.2.1,h.2.2.2.kept hg (.inr fun e=>by have:=hr g (by rw[←e];rfl);omega)⟩
def wT (w:World)(B:Nat):Nat:=match w.cell? ⟨B,0,none⟩with
 | some (.slice _ n _)=>n
 | _=>0
theorem Hat.lenAt {w:World}{base B g c:Nat}{L:List Int}(h:Hat w base B g c L):wT w B=L.length:=by unfold Go.Proofs.YtbnlhdnnenahfaaGreatDoor.wT;rw[h.1]
theorem GG {L L':List Int}{x t:Int}(hp:L.Perm (x :: L'))(hm:∀y∈L',y<=x)(ht:t∈L)(htm:∀y∈L,y<=t):x=t:=by
 have h1:=htm x (hp.mem_iff.2 (List.mem_cons_self ..));rcases List.mem_cons.1 (hp.mem_iff.1 ht)with e | e
 · exact e.symm
 · have:=hm t e;omega
theorem wH (base B g c:Nat)(L:List Int)(hw:∀x∈L,Whole x)(hnd:L.Nodup)(w:World)(h:Hat w base B g c L)(hp:Hp L.length L.toArray)(h0:0<L.length)(hsz:L.length<=100000) :
 Calls Tryz.prog 113 #[.pointer (some ⟨B,0,none⟩)] w fun e w'=>∃(sl:Value) (u:Int) (l L':List Int),e=.returned (.tuple #[sl,.int .u64 u])/\Bro L l u L'/\Hat w' base B g c L'/\Hp L'.length L'.toArray/\w'.ownsRow w.heap.size 35 1 sl l.length (aj l)/\But B g w w':=by
 obtain⟨m,hm⟩:∃m,L.length=m+1:=⟨L.length-1,by omega⟩
 rw[hm]at hp hsz;have hl:=h.lt;have NX:=af (yW base B g c m L hm w h hp (by omega));have HW:=af hw;have HD:=af hnd;have HM:=af hm;obtain⟨i0,hi,hz0,hz1,hz2⟩:=info_parts oD;clear h hp hw hnd hm h0
 go_enter Tryz.func113,Tryz.ntmps113
 go_wp2_with fail;refine NX.out.mono ?_;rintro e w1 ⟨x,C1,rfl,p1,x1,n1,hp1,h1,b1⟩;have hx:Whole x:=HW.out x (p1.mem_iff.2 (List.mem_cons_self ..));have ux:=aC hx;have hbase:=h1.lt;have hs1:=b1.size;have hO1:(w1.alloc (.cells #[.int .u64 x] 35)).ownsRow w.heap.size 35 1 (.slice (some ⟨w1.heap.size,0,none⟩) 1 1) 1 (aj [x]):=World.ownsRow_lit _ #[.int .u64 x] 1 hs1 (by unfold maxLen;omega) rfl;have F1:=af (And.intro p1 (And.intro x1 (And.intro n1 hp1)));have H1:=af (And.intro (h1.keep (ag w1 (.cells #[.int .u64 x] 35))) (b1.new (ag w1 (.cells #[.int .u64 x] 35))));have O1:=af hO1;clear NX p1 x1 n1 hp1 h1 b1 hO1;by_cases hr:wR x=0
 · have PT:=af (lQ x hx hr);clear hx;go_wp2_with fail;refine(PT.out _).mono ?_;rintro e w2 ⟨rfl,d2⟩;have H2:=af (And.intro (H1.out.1.keep d2) (H1.out.2.new d2));have O2:=af (ai d2 O1.out);clear PT H1 O1 d2;go_wp2
   go_ret2
   refine⟨_,_,[x],C1,rfl,Ez HD.out F1.out.1 F1.out.2.1 hr,H2.out.1,by rw[F1.out.2.2.1];exact F1.out.2.2.2,O2.out,H2.out.2⟩
 · have hb:=aE x;have hr0:0<wR x:=by omega
   have PT:=af (lT x hx hr0);have TK:=af (Taking.start HW.out HD.out F1.out.1 F1.out.2.1 hr0);have hu:=bh hx hr0;have uu:=aC hu.1;have HU:=af hu.1;clear hx hu;obtain⟨u,eu⟩:∃u,upW x=u:=⟨_,rfl⟩
   rw[eu]at PT TK uu HU;clear eu hr hr0 hb;go_wp2_with fail;refine(PT.out _).mono ?_;rintro e w2 ⟨rfl,d2⟩;have H2:=af (And.intro (H1.out.1.keep d2) (H1.out.2.new d2));have O2:=af (ai d2 O1.out);clear PT H1 O1 d2;go_wp2_with fail;go_loopw [4] (fun v4 wr=>∃(l C:List Int),Hid (Taking L l u C/\Hp C.length C.toArray)/\Hid (Hat wr base B g c C/\But B g w wr)/\Hid (wr.ownsRow w.heap.size 35 1 v4 l.length (aj l))) (fun _ wr=>wT wr B)
   case atStart=>exact⟨[x],C1,⟨TK.out,by rw[F1.out.2.2.1];exact F1.out.2.2.2⟩,H2.out,O2.out⟩
   case round =>
    clear TK F1 H2 O2;obtain⟨l,C,hT,hH,hO⟩:=hrel;have cB:=hH.out.1.1;have hsr:=hH.out.2.size;have hlC:l.length+C.length=m+1:=by have:=hT.out.1.1.length_eq;rw[List.length_append,HM.out]at this;omega
    cases hC:C.length with
    | zero =>
     have hnil:C=[]:=List.length_eq_zero_iff.1 hC;have BR:=af (hT.out.1.done HU.out (.inl hnil));have HC:=af hT.out.2;rw[hC]at cB;clear hT hC hnil hlC;go_wp2
     go_ret2
     exact⟨_,_,l,C,rfl,BR.out,hH.out.1,HC.out,hO.out,hH.out.2⟩
    | succ k =>
     rw[hC]at cB;have hk1:k+1<=m+1:=by omega
     have ER:=af (hH.out.1.lenAt.trans hC);have h0C:0<C.length:=by omega
     obtain⟨t,ht⟩:∃t,C[0]'h0C=t:=⟨_,rfl⟩
     have cT:=(bn hH.out.1.2.2.2).2.1 0 h0C;rw[ht]at cT;have tC:t∈C:=by rw[←ht];exact List.getElem_mem h0C
     have tmax:∀y∈C,y<=t:=by
      have:=ns hT.out.2 (by simp);have e:C.toArray[0]! =t:=by rw[getElem!_pos _ 0 (by simpa using h0C)];simpa using ht
      rw[e]at this
      simpa using this
     have hW:=HW.out t (hT.out.1.1.mem_iff.2 (List.mem_append_right _ tC));have ut:=aC hW;have TM:=af (And.intro tC tmax);have HC:=af hC;clear tC tmax ht hC h0C;by_cases hr:wR t=0
     · have PT:=af (lQ t hW hr);have BR:=af (hT.out.1.done HU.out (.inr ⟨t,TM.out.1,TM.out.2,fun h=>by omega⟩));have HP:=af hT.out.2;have u0:((0:Int) == u)=false:=by have:=qg HU.out;simp;omega
       clear hW hT hr TM;go_wp2_with fail;refine(PT.out _).mono ?_;rintro e w3 ⟨rfl,d3⟩;have H3:=af (And.intro (hH.out.1.keep d3) (hH.out.2.new d3));have O3:=af (ai d3 hO.out);clear PT hH hO d3;go_wp2
       go_ret2
       exact⟨_,_,l,C,rfl,BR.out,H3.out.1,HP.out,O3.out,H3.out.2⟩
     · have hb:=aE t;have hr0:0<wR t:=by omega
       have PT:=af (lT t hW hr0);have u2:=aC (bh hW hr0).1;clear hW hr hb;obtain⟨q,eq⟩:∃q,upW t=q:=⟨_,rfl⟩
       have EQ:=af eq;rw[eq]at PT u2;clear eq;by_cases hqu:q=u
       · subst hqu;go_wp2_with fail;refine(PT.out _).mono ?_;rintro e w3 ⟨rfl,d3⟩;have H3:=af (And.intro (hH.out.1.keep d3) (hH.out.2.new d3));have O3:=af (ai d3 hO.out);have NX:=af (yW base B g c k C HC.out w3 H3.out.1 (by have:=hT.out.2;rwa [HC.out]at this) (by omega));clear PT hH hO d3 cB cT;obtain⟨p4,c4,rfl,-⟩:=aA O3.out;go_wp2_with fail;refine NX.out.mono ?_;rintro e w4 ⟨y,C4,rfl,p4',y4,n4,hp4,h4,b4⟩;have ey:=GG p4' y4 TM.out.1 TM.out.2;subst ey;have TN:=af (hT.out.1.next p4' y4 hr0 EQ.out);have hlO:=O3.out.lt;have O4:=af (b4.own O3.out (fun e=>by have:=(hlO _ e).1;omega) (fun e=>by have:=(hlO _ e).1;omega));have H4:=af (And.intro h4 (H3.out.2.trans b4 (.inl rfl)));have HP4:=af (show Hp C4.length C4.toArray by rw[n4];exact hp4);have hs4:=H4.out.2.size;have hl4:=af n4;clear NX p4' y4 n4 hp4 h4 b4 hT H3 O3 hlO TM;go_wp2_with (at_builtin;refine wpList_append_own _ rfl (.tmp 39) (.tmp 42) 22 rfl w.heap.size 35 i0 (.int .u64 0) 1 8 Tryz.underlying22 hi hz0 hz1 hz2 rfl (by decide) _ _ _ rfl (ai (ag _ _) O4.out) ⟨w4.heap.size,0,none⟩ 1 1 [.int .u64 y] rfl rfl (bf _ _ rfl _ _) (bK _ _) (by unfold maxLen;omega) (by omega) (by simp;omega) ?_)
         intro v' w5 hown hgrow _;have hlO:=O4.out.lt;have H5:=af (And.intro ((H4.out.1.keep (ag w4 (.cells #[.int .u64 y] 35))).grown hgrow (C:=w.heap.size) (fun k hk=>(hlO k hk).1) (by omega) (by omega)) ((H4.out.2.new (ag w4 (.cells #[.int .u64 y] 35))).grown hgrow (fun k hk=>(hlO k hk).1)));have O5:Hid (w5.ownsRow w.heap.size 35 1 v' (l++[y]).length (aj (l++[y]))):=af (by
          have e1:(l++[y]).length=l.length+1:=by simp
          have e2:aj (l++[y])=aj l++[.int .u64 y]:=by simp[aj]
          rw[e1,e2];exact hown)
         have e5:=H5.out.1.lenAt;clear hown hgrow H4 O4 hlO;go_wp2;go_roundw
         case rel=>exact⟨l++[y],C4,⟨TN.out,HP4.out⟩,H5.out,O5.out⟩
         case measure=>rw[e5,hl4.out,ER.out];omega
       · have BR:=af (hT.out.1.done HU.out (.inr ⟨t,TM.out.1,TM.out.2,fun h=>hqu (by rw[←EQ.out];exact h.2)⟩));have HP:=af hT.out.2;have u0:(q == u)=false:=by simp;exact hqu
         clear hT TM hqu EQ;go_wp2_with fail;refine(PT.out _).mono ?_;rintro e w3 ⟨rfl,d3⟩;have H3:=af (And.intro (hH.out.1.keep d3) (hH.out.2.new d3));have O3:=af (ai d3 hO.out);clear PT hH hO d3;go_wp2
         go_ret2
         exact⟨_,_,l,C,rfl,BR.out,H3.out.1,HP.out,O3.out,H3.out.2⟩
def mQ (d:Array Int)(n i:Nat)(dk:Array Int):Prop:=dk.size=n/\∀t,t<n->dk[t]! =if t<i∨n<t+1+i then d[n-1-t]! else d[t]!
theorem tR {d dk:Array Int}{n i:Nat}(h:mQ d n i dk)(hi:2*i+1<n):mQ d n (i+1) (Sort.swp dk i (n-1-i)):=by
 refine⟨by rw[Sort.size_swp];exact h.1,fun t ht=>?_⟩;have gi:=h.2 i (by omega);have gj:=h.2 (n-1-i) (by omega);rw[if_neg (by omega)]at gi;rw[if_neg (by omega)]at gj;by_cases e1:t=i
 · subst e1;rw[Sort.swp_left _ _ _ (by have:=h.1;omega) (by omega),if_pos (by omega),gj]
 · by_cases e2:t=n-1-i
   · subst e2;rw[Sort.swp_right _ _ _ (by have:=h.1;omega),if_pos (by omega),gi,show n-1-(n-1-i)=i by omega]
   · rw[Sort.swp_other _ _ _ _ e1 e2,h.2 t ht];by_cases c:t<i∨n<t+1+i
     · rw[if_pos c,if_pos (by omega)]
     · rw[if_neg c,if_neg (by omega)]
theorem tQ {d dk:Array Int}{n i:Nat}(hn:d.size=n)(h:mQ d n i dk)(hi:n<=2*i+1):dk.toList=d.toList.reverse:=by
 refine List.ext_getElem? fun t=>?_;by_cases ht:t<n
 · have e:=h.2 t ht;have e3:dk[t]! =d[n-1-t]! :=by
    by_cases c:t<i∨n<t+1+i
    · rw[e,if_pos c]
    · rw[e,if_neg c,show n-1-t=t by omega]
   rw[List.getElem?_reverse (by simpa[hn]using ht),Array.length_toList,hn,Array.getElem?_toList,Array.getElem?_toList];rw[getElem!_pos dk t (by have:=h.1;omega),getElem!_pos d (n-1-t) (by omega)]at e3;rw[Array.getElem?_eq_getElem (by have:=h.1;omega),Array.getElem?_eq_getElem (by omega),e3]
 · rw[List.getElem?_eq_none (by simp[h.1];omega),List.getElem?_eq_none (by simp[hn];omega)]
theorem AA (g c n:Nat)(d:Array Int)(hn:d.size=n)(w:World)(hH:Sort.Holds (Value.int .u64) w g 0 d)(hg:g<w.heap.size)(hsz:n<=1000000) :
 Calls Tryz.prog 115 #[.slice (some ⟨g,0,none⟩) n c] w fun e w'=>e=.returned (.tuple #[])/\∃d',St w g 0 d d' w'/\d'.toList=d.toList.reverse:=by
 have H0:Hid (Sort.Holds (Value.int .u64) w g 0 d):=hH;have HN:Hid (d.size=n):=hn;clear hH hn
 go_enter Tryz.func115,Tryz.ntmps115
 go_wp2_with fail;go_loopw [2,3] (fun v2 v3 wr=>∃(i:Nat) (j:Int) (dk:Array Int),v2=.int .i64 i/\v3=.int .i64 j/\j=(n:Int)-1-i/\i<=n/\Hid (St w g 0 d dk wr/\mQ d n i dk)) (fun v2 _ _=>n-(intOf v2).toNat)
 case atStart=>exact⟨0,(n:Int)-1,d,rfl,rfl,by omega,by omega,St.refl H0.out,HN.out,fun t ht=>by rw[if_neg (by omega)]⟩
 case round =>
  obtain⟨i,j,dk,rfl,rfl,hj,hi,hS⟩:=hrel;by_cases hlt:(i:Int)<j
  · obtain⟨m,hm⟩:∃m:Nat,j=(m:Int):=⟨j.toNat,by omega⟩
    have em:n-1-i=m:=by omega
    have ST:=af (tR hS.out.2 (by omega));rw[em]at ST;have hds:dk.size=n:=hS.out.2.1;obtain⟨G,hG,hc,hf⟩:=hS.out.1.fam H0.out hg;rw[HN.out]at hc hf;simp only[Nat.zero_add]at hc hf;have SW:=af (hS.out.1.swap H0.out hg hG (j:=i) (k:=m) (by rw[HN.out];omega) (by rw[HN.out];omega) 0);simp only[Nat.zero_add]at SW;obtain⟨y3,hy3⟩:=cell?_setCell_some (w:=wr) (p:=⟨g,i,none⟩) (x:=.int .u64 (G m)) (q:=⟨g,m,none⟩) (hc m (by omega));have i0:i<n:=by omega
    have m0:m<n:=by omega
    have i1:(i:Int)<(n:Int):=by omega
    have m1:(m:Int)<(n:Int):=by omega
    have hi2:=af hj;clear hS hG hj em;subst hm;go_wp2_with fail
    go_region
    all_goals go_wp2_with fail
    all_goals
     go_roundw
     case rel=>exact⟨i+1,(m:Int)-1,_,by go_num,rfl,by have:=hi2.out;omega,by omega,SW.out.drawn 1,ST.out⟩
     case measure=>simp[intOf];omega
  · have hlt':decide ((i:Int)<j)=false:=df hlt;have FN:=af (And.intro hS.out.1 (tQ HN.out hS.out.2 (by omega)));clear hS;go_wp2
    go_end0
    exact⟨rfl,dk,FN.out⟩
theorem qq (w:World):Calls Tryz.prog 115 #[.slice none 0 0] w fun e w'=>e=.returned (.tuple #[])/\w'=w:=by
 go_enter Tryz.func115,Tryz.ntmps115
 go_wp2_with fail;go_loopw [2,3] (fun v2 v3 wr=>v2=.int .i64 0/\v3=.int .i64 (-1)/\wr=w) (fun _ _ _=>0)
 case atStart=>exact⟨rfl,rfl,rfl⟩
 case round =>
  obtain⟨rfl,rfl,rfl⟩:=hrel;go_wp2
  go_end0
  exact⟨rfl,rfl⟩
theorem qr (base:Nat)(v:Value)(L:List Int)(w:World)(ho:w.ownsRow base 35 1 v L.length (aj L))(hsz:L.length<=1000000)(hbase:base<=w.heap.size) :
 Calls Tryz.prog 115 #[v] w fun e w'=>e=.returned (.tuple #[])/\w'.ownsRow base 35 1 v L.reverse.length (aj L.reverse)/\Below base w w':=by
 rcases ho.2 with⟨rfl,h0⟩ | ⟨g,cap,cur,rfl,hg,_⟩
 · have e:L=[]:=List.length_eq_zero_iff.1 h0;subst e;exact(qq w).mono fun e w' ⟨h1,h2⟩=>⟨h1,by rw[h2];exact ho,by rw[h2];exact Below.refl _ _⟩
 · refine(AA g cap L.length L.toArray (by simp) w (iB ho) (ho.lt g rfl).2 hsz).mono fun e w' ⟨h1,d',h2,h3⟩=>⟨h1,?_,(io (a:=g) h2).below hg hg hbase⟩
   have:=Am (n:=L.length) (d:=L.toArray) (by simp) (by simpa using ho) h2;rw[h3]at this
   simpa using this
def Off (v:Value)(B g:Nat):Prop:=v.ownBlock≠some B/\v.ownBlock≠some g
theorem Ii (base g c r:Nat)(S:List Int)(hR:aq S)(hS:∀x∈S,Whole x/\wR x=(r:Int))(hsz:S.length<=50000)(w:World)(ho:w.ownsRow base 35 1 (.slice (some ⟨g,0,none⟩) S.length c) S.length (aj S))(hbase:base<=w.heap.size) :
 Calls Tryz.prog 71 #[.slice (some ⟨g,0,none⟩) S.length c] w fun e w'=>∃(sl:Value) (P:List Int),e=.returned sl/\Packed r S P/\P.length<=S.length/\w'.ownsRow base 35 1 sl P.length (aj P)/\Below base w w':=by
 obtain⟨n,hn⟩:∃n,S.length=n:=⟨_,rfl⟩
 have HN:=af hn;have hg:=(ho.lt g rfl).2;have J0:=af (Joi.start (r:=r) hR (fun _=>Iff.rfl) hS (Nat.le_refl _));have HA:Hid (Hat (w.alloc (.cells #[.slice (some ⟨g,0,none⟩) n c] 160)) base w.heap.size g c S/\Below base w (w.alloc (.cells #[.slice (some ⟨g,0,none⟩) n c] 160))) :=
  af ⟨⟨by rw[hn];go_simp,by go_simp,by omega,ai (ag w _) ho⟩,(ag w _).mono hbase⟩
 rw[hn]at hsz ⊢;clear hR hS hn ho
 go_enter Tryz.func71,Tryz.ntmps71
 go_wp2_with fail;generalize w.alloc (.cells #[.slice (some ⟨g,0,none⟩) n c] 160)=W at *;generalize w.heap.size=B at *;have hl:=HA.out.1.lt;have hbW:base<=W.heap.size:=by omega
 have IN:=af (Hv B g c n S.toArray (by simp[HN.out]) W (by have:=HA.out.1.1;rwa [HN.out]at this) HA.out.1.2.2.1 HA.out.1.holds hl.1 (by omega));refine IN.out.mono ?_;rintro e w1 ⟨rfl,h1⟩;have PB:=BV S.toArray (n:=n) (k:=n / 2) (by simp[HN.out]) (by omega);have hH1:=HA.out.1.st HN.out h1;have PL:=kC (n:=n) (by simp[HN.out]) PB.2;obtain⟨H1,eH⟩:∃H,(Sort.heapBuild Sort.ltInt n 0 (n / 2) S.toArray).toList=H:=⟨_,rfl⟩
 have eA:(Sort.heapBuild Sort.ltInt n 0 (n / 2) S.toArray)=H1.toArray:=by rw[←eH]
 rw[eA]at PB;rw[eH]at hH1 PL;have START:=af (show Joi r S [] H1/\Hp H1.length H1.toArray from⟨J0.out.perm (by simpa using PL.symm),by rw[hH1.2];exact PB.1⟩);have HB1:=af (show Hat w1 base B g c H1/\Below base w w1 from⟨hH1.1,HA.out.2.trans ((io (a:=B) h1).below hbase hl.2.1 hbW)⟩);have hs1:=(io (a:=B) h1).size;clear IN h1 PB hH1 PL eH eA HA J0 hl;go_wp2_with fail;go_loopw [3] (fun v3 wr=>∃(J H:List Int) (g' c':Nat),Hid (Joi r S J H/\Hp H.length H.toArray)/\Hid (Hat wr base B g' c' H/\Below base w wr/\base<=wr.heap.size)/\Hid (wr.ownsRow base 35 1 v3 J.length (aj J)/\Off v3 B g')) (fun _ wr=>wT wr B)
 case atStart=>exact⟨[],H1,g,c,START.out,⟨HB1.out.1,HB1.out.2,by omega⟩,World.ownsRow_nil _ _ _ _,by simp[Value.ownBlock],by simp[Value.ownBlock]⟩
 case round =>
  clear START HB1 hs1 hbW;obtain⟨J,H,g1,c1,hJ,hH,hO⟩:=hrel;have cB:=hH.out.1.1;have hJH:J.length+H.length<=n:=by have:=hJ.out.1.2.2.2.2.2.2.2.2;rw[HN.out]at this;exact this
  have hbr:=hH.out.2.2;by_cases h0:H.length=0
  · have hnil:H=[]:=List.length_eq_zero_iff.1 h0;have DN:=af (show Packed r S J.reverse by have:=hJ.out.1;rw[hnil]at this;exact this.done);rw[h0]at cB;have RV:=af (qr base u3 J wr hO.out.1 (by omega) hbr);have HB:=af hH.out.2.1;clear hJ hnil h0 hO hH hbr;go_wp2_with fail;refine RV.out.mono ?_;rintro e w2 ⟨rfl,o2,b2⟩;have FN:=af (And.intro o2 (HB.out.trans b2));clear RV o2 b2 cB HB;go_wp2;go_ret;exact⟨_,J.reverse,rfl,DN.out,by rw[List.length_reverse];omega,FN.out.1,FN.out.2⟩
  · have hpos:(0:Int)<(H.length:Int):=by omega
    have hJo:=hJ.out.1;have BR:=af (wH base B g1 c1 H (fun x hx=>(hJo.2.2.1 x (List.mem_append_right _ hx)).1) hJo.2.1 wr hH.out.1 hJ.out.2 (by omega) (by omega));have ER:=af hH.out.1.lenAt;have hlr:=hH.out.1.lt;clear hJo;go_wp2_with fail;refine BR.out.mono ?_;rintro e w2 ⟨sl,u,l,H',rfl,bro,h2,p2,o2,b2⟩;have hlen:=bro.1.length_eq;rw[List.length_append]at hlen;have hs2:=b2.size;obtain⟨ps,cs,rfl,hps⟩:=aA o2;have hOl:=hO.out.1.lt;have O2:=af (show w2.ownsRow base 35 1 u3 J.length (aj J)from b2.own hO.out.1 hO.out.2.1 hO.out.2.2);have HB:=af (show Hat w2 base B g1 c1 H'/\Below base w w2 from⟨h2,hH.out.2.1.trans (b2.below (by omega) hlr.2.1 hbr)⟩);have OF:=af hO.out.2;have HP:=af p2;have BO:=af bro;have LL:=af (And.intro o2 hps);have JJ:=af hJ.out.1;have hlne:0<l.length:=by
     rcases bro.2.2.2 with⟨_,m,rfl,_⟩ | ⟨_,h,_⟩
     · simp
     · exact List.length_pos_iff.2 h
    clear BR bro h2 p2 o2 b2 hO hH hJ cB hps;by_cases h7:l.length=7
    · have e7:((l.length:Int) == 7)=true:=by simp;omega
      have LF:=af (JJ.out.lift BO.out h7);have PU:=af (Hw base B g1 c1 H'.length H' u rfl w2 HB.out.1 HP.out (by omega) (by omega));have uu:=aC LF.out.2;have H7:=af h7;clear JJ BO h7 LL;go_wp2_with fail;refine PU.out.mono ?_;rintro e w3 ⟨rfl,g3,c3,H3,h3,p3,hp3,n3,b3,hg3⟩;have HB3:=af (show Hat w3 base B g3 c3 H3/\Below base w w3/\base<=w3.heap.size from⟨h3,HB.out.2.trans (b3.below (by omega) hlr.2.1 (by omega)),by have:=b3.size;omega⟩);have hO2:=O2.out.lt;have O3:=af (show w3.ownsRow base 35 1 u3 J.length (aj J)/\Off u3 B g3 from⟨b3.own O2.out OF.out.1 OF.out.2,OF.out.1,fun e=>by
       rcases hg3 with rfl | hg3
       · exact OF.out.2 e
       · have:=(hO2 _ e).2;omega⟩)
      have J3:=af (show Joi r S J H3/\Hp H3.length H3.toArray from⟨LF.out.1.perm p3.symm,by rw[n3];exact hp3⟩);have E3:=af h3.lenAt;clear PU h3 p3 hp3 b3 hg3 HB O2 OF LF;go_wp2;go_roundw
      case rel=>exact⟨J,H3,g3,c3,J3.out,HB3.out,O3.out⟩
      case measure=>rw[E3.out,ER.out,n3];have:=H7.out;omega
    · have e7:((l.length:Int) == 7)=false:=by simp;omega
      have KP:=af (JJ.out.keep BO.out h7);obtain⟨q,rfl⟩:=il LL.out.2 hlne;have NW:=af (CT LL.out.1);have hlv:=af (aD l);have one:=af (jU l);clear JJ BO h7 LL;obtain⟨i0,hi,hz0,hz1,hz2⟩:=info_parts oD;go_wp2_with (at_builtin;refine dQ rfl (.tmp 24) (.tmp 25) 22 rfl base 35 i0 (.int .u64 0) 1 8 Tryz.underlying22 hi hz0 hz1 hz2 rfl (by decide) _ _ _ rfl O2.out ⟨q,0,none⟩ l.length cs hlne (aj l) rfl (by rw[hlv.out];omega) NW.out one.out (by unfold maxLen;omega) (by omega) (by omega) ?_)
      intro v' w3 hown hgrow hat;have hO2:=O2.out.lt;have hl2:=HB.out.1.lt;have H3:=af (show Hat w3 base B g1 c1 H'/\Below base w w3/\base<=w3.heap.size from⟨by
       have b3:∀k,k<w2.heap.size->u3.ownBlock≠some k->w3.heap[k]?=w2.heap[k]?:=fun k hk hne=>hgrow.block k hk (fun e=>hne e.symm);have hh:=HB.out.1;exact⟨by rw[World.cell?_of_block (w:=w2) (b3 B hl2.2.2 OF.out.1)];exact hh.1,by rw[World.frozen?_of_block (w:=w2) (b3 B hl2.2.2 OF.out.1)];exact hh.2.1,hh.2.2.1,hh.2.2.2.kept hgrow (.inr fun e=>OF.out.2 (by rw[←e];rfl))⟩,
       HB.out.2.grown hgrow (by omega) (fun k hk=>(hO2 k hk).1),by have:=hgrow.size;omega⟩)
      have O3:Hid (w3.ownsRow base 35 1 v' (J++l).length (aj (J++l))/\Off v' B g1):=af (by
       have e1:(J++l).length=J.length+l.length:=by simp
       have e2:aj (J++l)=aj J++aj l:=by simp[aj]
       rw[e1,e2];refine⟨hown,?_⟩;unfold Off;rcases hat with e | e
       · rw[e];exact OF.out
       · rw[e];exact⟨by simp;omega,by simp;omega⟩)
      have E3:=af H3.out.1.lenAt;clear hown hgrow hat HB O2 OF NW one hO2 hl2;go_wp2;go_roundw
      case rel=>exact⟨J++l,H',g1,c1,⟨KP.out,HP.out⟩,H3.out,O3.out⟩
      case measure=>rw[E3.out,ER.out];omega
def vI (L:List Int)(r t:Int):Prop :=
 (t=0/\∀(j:Nat) (hj:j<L.length),Whole L[j]/\wR L[j]=r) ∨
 ∃(i:Nat) (hi:i<L.length),(∀(j:Nat) (hj:j<L.length),j<i->Whole L[j]/\wR L[j]=r)/\((t=5/\¬Whole L[i])∨(t=8/\Whole L[i]/\wR L[i]≠r))
theorem Hd (s:Value)(L:List Int)(r:Int)(hn:L.length<=50000)(uL:∀x∈L,U64 x)(w:World)(hl:Lst w s L) :
 Calls Tryz.prog 110 #[s,.int .i64 r] w fun e w'=>(∃t,e=.returned (.int .i64 t)/\vI L r t)/\Below w.heap.size w w':=by
 obtain⟨p,cap,rfl,-,hc⟩:=hl;obtain⟨n,en⟩:∃n,L.length=n:=⟨_,rfl⟩
 have HC:=ab hc;have EN:=ab en;have UL:=ab uL;rw[en]at hn ⊢;clear hc en uL
 go_enter Tryz.func110,Tryz.ntmps110
 go_wp2_with fail;go_loopw [9] (fun v9 wr=>∃i:Nat,i<=n/\v9=.int .i64 (i:Int)/\Hid (∀(j:Nat) (hj:j<L.length),j<i->Whole L[j]/\wR L[j]=r)/\Below w.heap.size w wr) (fun v9 _=>n-(intOf v9).toNat)
 case atStart=>exact⟨0,by omega,rfl,ab fun j _ h=>absurd h (Nat.not_lt_zero _),Below.refl _ _⟩
 case round =>
  obtain⟨i,hi,rfl,hI,hB⟩:=hrel;by_cases hlt:i<n
  · have hiL:i<L.length:=by rw[EN.out];exact hlt
    obtain⟨g,o,rfl,x1⟩:=HC.out i hiL;replace x1:=aa hB x1;have hu:=UL.out _ (List.getElem_mem hiL);by_cases hW:Whole L[i]
    · have IK:=ab fun w=>iok L[i] hu true (by simp[hW]) w;have RS:=ab fun w=>rk L[i] hW w;by_cases hr:wR L[i]=r
      · have hI2:Hid (∀(j:Nat) (hj:j<L.length),j<i+1->Whole L[j]/\wR L[j]=r):=ab fun j hj h=>by
         rcases Nat.lt_or_ge j i with k | k
         · exact hI.out j hj k
         · obtain rfl:j=i:=by omega
           exact⟨hW,hr⟩
        have hb:(wR L[i] != r)=false:=by simp[hr]
        clear hW hr hI;generalize wR L[i]=z at *;generalize L[i]'_=x at *;go_wp2_with fail;refine(IK.out _).mono ?_;rintro e w1 ⟨rfl,b1⟩;have B1:=ae hB b1;go_wp2_with fail;refine(RS.out _).mono ?_;rintro e w2 ⟨rfl,b2⟩;have B2:=ae B1 b2;go_wp2_with fail;go_roundw
        case rel=>exact⟨i+1,by omega,by go_num,hI2,B2⟩
        case measure=>simp[intOf];omega
      · have hT:Hid (vI L r 8):=ab (.inr ⟨i,hiL,hI.out,.inr ⟨rfl,hW,hr⟩⟩);have hb:(wR L[i] != r)=true:=by simp[hr]
        clear hW hr hI;generalize wR L[i]=z at *;generalize L[i]'_=x at *;go_wp2_with fail;refine(IK.out _).mono ?_;rintro e w1 ⟨rfl,b1⟩;have B1:=ae hB b1;go_wp2_with fail;refine(RS.out _).mono ?_;rintro e w2 ⟨rfl,b2⟩;have B2:=ae B1 b2;go_wp2_with fail;go_ret;exact⟨⟨8,rfl,hT.out⟩,B2⟩
    · have IK:=ab fun w=>iok L[i] hu false (by simp[hW]) w;have hT:Hid (vI L r 5):=ab (.inr ⟨i,hiL,hI.out,.inl ⟨rfl,hW⟩⟩);clear hW hI;generalize L[i]'_=x at *;go_wp2_with fail;refine(IK.out _).mono ?_;rintro e w1 ⟨rfl,b1⟩;have B1:=ae hB b1;go_wp2_with fail;go_ret;exact⟨⟨5,rfl,hT.out⟩,B1⟩
  · obtain rfl:i=n:=by omega
    have hT:Hid (vI L r 0):=ab (.inl ⟨rfl,fun j hj=>hI.out j hj (by rw[←EN.out];exact hj)⟩);clear hI;go_wp2_with fail;go_ret;exact⟨⟨0,rfl,hT.out⟩,hB⟩
end Go.Proofs.YtbnlhdnnenahfaaGreatDoor
