/-
  What the texts SetMath, CovOk, CovWord, KidMath, PackMath, CovMany, CovSize, CovSweep, PackHeap, CovSpot, CovFlat, PackStep, VLawBox say, so far as this seat's proofs need it.
-/
import Derived.Test.YtbnlhdnnenahfaaGreatDoorCV1Y
import Derived.Sort.LotB
import Derived.RangeFuncFrom
import Derived.RangeFuncCalls
import Derived.OwnWalkIn
import Derived.TacticsInMore
import Derived.LoopNIn
import Derived.LoopIn
import Derived.Stop.RegionWithIn
import Derived.Sort.WalkA6
import Derived.Sort.Walk13a
import Derived.Sort.WalkB3
namespace Go.Proofs.YtbnlhdnnenahfaaGreatDoor
open Go.RowKit
theorem tJ {K:List Int}{w:Int}(h:aq K)(hw:∀x∈K,x<w):aq (K++[w]) :=
 List.pairwise_append.2 ⟨h,List.pairwise_singleton _ _,fun x hx y hy=>by rw[List.mem_singleton]at hy;subst hy;exact hw x hx⟩
end Go.Proofs.YtbnlhdnnenahfaaGreatDoor
namespace Go.Proofs.YtbnlhdnnenahfaaGreatDoor
theorem fQ {K:Nat}{r l1 l2 u1 u2 a b:Int}(hK:K<=12)(hr:12-r=(K:Int))(h1:0<=l1)(h2:0<=l2)(h3:u1<1073741824)(h4:u2<1073741824)(h:Tou K l1 l2 u1 u2 a b):Ok4 r a b:=by
 obtain⟨x,y,hx,hy,hn⟩:=sF hK h;obtain⟨p,q,hpq⟩:=eh (d:=dvK K) (bX hK).1 (nuA K x y) (nuB K x y);have hs:=hn p q hpq.1;have hM:Mid (12-K) p q:=⟨by omega,nJ hK ⟨by omega,by omega,by omega,by omega⟩ hpq⟩
 have:=hM.ok (p:=a-p) (q:=b-q) (by rw[jQ];omega);rw[show p+(a-p)=a by omega,show q+(b-q)=b by omega]at this
 rwa [show((12-K:Nat):Int)=r by omega]at this
def szK:Nat->Int
 | 0=>52
 | k+1=>szK k*8 / 3
def fXp (K:Nat):Int:=45*(2*cjA K+cjB K)
def fXq (K:Nat):Int:= -26*(2*cjA K+cjB K)+52*(cjA K-cjB K)
def fYp (K:Nat):Int:=45*(cjA K+2*cjB K)
def fYq (K:Nat):Int:= -26*(cjA K+2*cjB K)+52*(2*cjA K+cjB K)
def fZp (K:Nat):Int:=45*(cjA K-cjB K)
def fZq (K:Nat):Int:= -26*(cjA K-cjB K)-52*(cjA K+2*cjB K)
theorem Cw (K:Nat)(x y:Int):2*nuA K x y+nuB K x y=x*fXp K+y*fXq K/\nuA K x y+2*nuB K x y=x*fYp K+y*fYq K/\nuA K x y-nuB K x y=x*fZp K+y*fZq K:=by
 unfold nuA nuB fXp fXq fYp fYq fZp fZq;refine⟨?_,?_,?_⟩ <;>grind
theorem IH:∀i:Fin 13,(decide (8*szK i.val*(max (fXp i.val) (-fXp i.val)+max (fXq i.val) (-fXq i.val))<=84*dvK i.val) && decide (8*szK i.val*(max (fYp i.val) (-fYp i.val)+max (fYq i.val) (-fYq i.val))<=84*dvK i.val) && decide (8*szK i.val*(max (fZp i.val) (-fZp i.val)+max (fZq i.val) (-fZq i.val))<=84*dvK i.val) && decide (0<=szK i.val))=true:=by decide +kernel
theorem mn {p q u v W F:Int}(hu: -W<=u/\u<=W)(hv: -W<=v/\v<=W)(h:W*(max p (-p)+max q (-q))<=F): -F<=u*p+v*q/\u*p+v*q<=F:=by
 obtain⟨P,eP⟩:∃P,max p (-p)=P:=⟨_,rfl⟩
 obtain⟨Q,eQ⟩:∃Q,max q (-q)=Q:=⟨_,rfl⟩
 rw[eP,eQ]at h;have h1:=aV (a:=u) (b:=p) hu (show -P<=p/\p<=P by omega);have h2:=aV (a:=v) (b:=q) hv (show -Q<=q/\q<=Q by omega);have e:W*(P+Q)=W*P+W*Q:=by grind
 omega
theorem sV {K:Nat}(hK:K<=12){x y x' y' a b a' b' F W:Int}(h:a7 (dvK K) (nuA K x y) (nuB K x y) a b)(h':a7 (dvK K) (nuA K x' y') (nuB K x' y') a' b')(hx: -W<=x'-x/\x'-x<=W)(hy: -W<=y'-y/\y'-y<=W)
 (h0:W*(max (fXp K) (-fXp K)+max (fXq K) (-fXq K))<=F*dvK K) (h1:W*(max (fYp K) (-fYp K)+max (fYq K) (-fYq K))<=F*dvK K) (h2:W*(max (fZp K) (-fZp K)+max (fZq K) (-fZq K))<=F*dvK K) (hF:0<=F):3*stp (a'-a) (b'-b)<=2*F+4:=by
 have hd:=(bX hK).1;have k0:=mn hx hy h0;have k1:=mn hx hy h1;have k2:=mn hx hy h2;have e:=Cw K (x'-x) (y'-y);have eA:nuA K (x'-x) (y'-y)=nuA K x' y'-nuA K x y:=by unfold nuA;grind
 have eB:nuB K (x'-x) (y'-y)=nuB K x' y'-nuB K x y:=by unfold nuB;grind
 rw[eA,eB]at e;rw[←e.1]at k0;rw[←e.2.1]at k1;rw[←e.2.2]at k2;clear e eA eB h0 h1 h2;unfold a7 Hex at h h';obtain⟨p,ep⟩:∃p,a'-a=p:=⟨_,rfl⟩
 obtain⟨q,eq⟩:∃q,b'-b=q:=⟨_,rfl⟩
 rw[ep,eq];have e1:a'*dvK K=a*dvK K+p*dvK K:=by rw[←ep];grind
 have e2:b'*dvK K=b*dvK K+q*dvK K:=by rw[←eq];grind
 rw[e1,e2]at h';have key:∀m:Int,-(F*dvK K+2*dvK K)<=m*dvK K->m*dvK K<=F*dvK K+2*dvK K→-(F+2)<=m/\m<=F+2:=fun m h1 h2=>by
  have e3:(F+3)*dvK K=F*dvK K+3*dvK K:=by grind
  constructor
  · by_cases c: -(F+2)<=m
    · exact c
    · have:=Int.mul_le_mul_of_nonneg_right (show m≤-(F+3)by omega) (show 0<=dvK K by omega);rw[Int.neg_mul]at this;omega
  · by_cases c:m<=F+2
    · exact c
    · have:=Int.mul_le_mul_of_nonneg_right (show F+3<=m by omega) (show 0<=dvK K by omega);omega
 have f0:(2*p+q)*dvK K=2*(p*dvK K)+q*dvK K:=by grind
 have f1:(p+2*q)*dvK K=p*dvK K+2*(q*dvK K):=by grind
 have f2:(p-q)*dvK K=p*dvK K-q*dvK K:=by grind
 have g0:=key (2*p+q) (by omega) (by omega);have g1:=key (p+2*q) (by omega) (by omega);have g2:=key (p-q) (by omega) (by omega);have hs:=oj (a:=p) (b:=q) (n:=(2*F+4) / 3) (by omega) (by omega) (by omega) (by omega);omega
theorem yw {K:Nat}(hK:K<=12){l1 l2 u1 u2 a b sa sb:Int}(hx:u1-l1<=8*szK K)(hy:u2-l2<=8*szK K)(hs:a7 (dvK K) (nuA K l1 l2) (nuB K l1 l2) sa sb)(h:Tou K l1 l2 u1 u2 a b):stp (a-sa) (b-sb)<=58:=by
 obtain⟨x,y,hx',hy',hn⟩:=sF hK h;obtain⟨p,q,hpq⟩:=eh (d:=dvK K) (bX hK).1 (nuA K x y) (nuB K x y);have h1:=hn p q hpq.1;have hf:=IH ⟨K,by omega⟩;simp only[Bool.and_eq_true,decide_eq_true_eq]at hf;have h2:=sV hK hs hpq.1 (W:=8*szK K) (F:=84) (by omega) (by omega) hf.1.1.1 hf.1.1.2 hf.1.2 (by omega);have h3:=GF a b p q sa sb;rw[jQ a b p q]at h3;omega
theorem dJ {α:Type}[DecidableEq α]:∀ {K L:List α},K.Nodup->(∀x∈K,x∈L)->K.length<=L.length
 | [],_,_,_=>Nat.zero_le _
 | x :: K,L,hn,h=>by
  have hn':=List.nodup_cons.1 hn;have hx:=h x (List.mem_cons_self ..);have ih:=dJ (L:=L.erase x) hn'.2 fun y hy=>(List.mem_erase_of_ne (fun e=>hn'.1 (by rw[←e];exact hy))).2 (h y (List.mem_cons_of_mem _ hy));have hl:=List.length_erase_of_mem hx;have hp:=List.length_pos_of_mem hx;rw[List.length_cons];omega
theorem Bz {N:Nat}{sa sb:Int}{L:List (Int×Int)}(hn:L.Nodup)(h:∀p∈L,stp (p.1-sa) (p.2-sb)<=N):L.length<=3*N*(N+1)+1:=by
 have hnd:(L.map fun p=>(p.1-sa,p.2-sb)).Nodup:=by
  refine(List.pairwise_map).2 (hn.imp fun {a b} hne he=>hne ?_);have h1:=congrArg Prod.fst he;have h2:=congrArg Prod.snd he;dsimp only at h1 h2;exact Prod.ext (by omega) (by omega)
 have hs:∀x∈(L.map fun p=>(p.1-sa,p.2-sb)),x∈jr (N+1):=fun x hx=>by
  obtain⟨p,hp,rfl⟩:=List.mem_map.1 hx;have:=h p hp;exact zl.2 (by dsimp only;omega)
 have:=dJ hnd hs
 rwa [List.length_map,ph]at this
def TW (K:Nat)(l1 l2 u1 u2 x:Int)(r:Nat):Prop:=Whole x/\wR x=(r:Int)/\Tou K l1 l2 u1 u2 (an x) (ao x)
theorem qu {K:Nat}{l1 l2 u1 u2 a b:Int}{r:Nat}(h:Ok4 (r:Int) a b)(ht:Tou K l1 l2 u1 u2 a b):TW K l1 l2 u1 u2 (av r a b) r:=by
 have hp:=a8 h;have hc:=cg h;refine⟨hp.1,hp.2.1,?_⟩;rw[hc.1,hc.2];exact ht
theorem Ew {K r:Nat}(hK:K<=12)(hr:12-(r:Int)=(K:Int)){l1 l2 u1 u2 sa sb:Int}(h1:0<=l1)(h2:0<=l2)(h3:u1<1073741824)(h4:u2<1073741824)(h5:l1<=u1)(h6:l2<=u2)(hs:a7 (dvK K) (nuA K l1 l2) (nuB K l1 l2) sa sb){F:List Int}
 (hF:∀x∈F,TW K l1 l2 u1 u2 x r) (h0:av r sa sb∈F) (hcl:∀x∈F,∀p q,stp p q=1->Ok4 (r:Int) (an x+p) (ao x+q)->Tou K l1 l2 u1 u2 (an x+p) (ao x+q)->av r (an x+p) (ao x+q)∈F) (x:Int):x∈F↔TW K l1 l2 u1 u2 x r:=by
 refine⟨hF x,fun⟨hw,hR,ht⟩=>?_⟩;have key:=GH hK ⟨Int.le_refl l1,h5⟩ ⟨Int.le_refl l2,h6⟩ hs (fun a b=>av r a b∈F) h0 (fun a b a' b' hst ht' hp ht=>by
  have ho:=fQ hK hr h1 h2 h3 h4 ht;have ho':=fQ hK hr h1 h2 h3 h4 ht';have hc:=cg ho';have:=hcl _ hp (a-a') (b-b') hst (by rw[hc.1,hc.2,show a'+(a-a')=a by omega,show b'+(b-b')=b by omega];exact ho) (by rw[hc.1,hc.2,show a'+(a-a')=a by omega,show b'+(b-b')=b by omega];exact ht)
  rwa [hc.1,hc.2,show a'+(a-a')=a by omega,show b'+(b-b')=b by omega]at this) (an x) (ao x) ht
 have e:=da hw;rw[hR,Int.toNat_natCast]at e
 rwa [e]at key
end Go.Proofs.YtbnlhdnnenahfaaGreatDoor
namespace Go.Proofs.YtbnlhdnnenahfaaGreatDoor
open Go.RowKit
def chW (v:Int)(d:Nat):Int:=v+72057594037927936-(7-(d:Int))*8^(11-(wR v).toNat)
theorem jp {v:Int}(h:Whole v)(hr:wR v<12){d:Nat}(hd:d<=6) :
 Ok4 (((wR v).toNat+1:Nat):Int) (chA (d:Int) (an v) (ao v)) (chB (d:Int) (an v) (ao v))/\av ((wR v).toNat+1) (chA (d:Int) (an v) (ao v)) (chB (d:Int) (an v) (ao v))=chW v d:=by
 have hb:=aE v;have hc:=ku (cI h) hr (show 0<=(d:Int)by omega) (show(d:Int)<=6 by omega);rw[show wR v+1=(((wR v).toNat+1:Nat):Int)by omega]at hc;refine⟨hc,?_⟩;have hp:=lp (P:=an v) (Q:=ao v) (show 0<=(d:Int)by omega) (show(d:Int)<=6 by omega);have hu:=gm hc (by omega);rw[hp.2.1,hp.2.2,Nat.add_sub_cancel,da h]at hu;have hw:=a8 hc;have hdg:=hw.2.2.2.2.1 ((wR v).toNat+1) (by omega) (by omega);unfold dgs at hdg;rw[if_pos (Nat.le_refl _),Nat.sub_self]at hdg;unfold upW fo at hu;rw[hw.2.1]at hu;rw[show(((wR v).toNat+1:Nat):Int).toNat=(wR v).toNat+1 by omega,hdg]at hu;rw[show ups 0 (chA (d:Int) (an v) (ao v)) (chB (d:Int) (an v) (ao v))=(chA (d:Int) (an v) (ao v),chB (d:Int) (an v) (ao v))from rfl]at hu;simp only at hu;rw[hp.1,show 12-((wR v).toNat+1)=11-(wR v).toNat by omega]at hu;unfold chW;rw[Int.sub_mul];omega
theorem yF {v:Int}(h:Whole v)(hr:wR v<12){d:Nat}(hd:d<=6):Whole (chW v d)/\wR (chW v d)=wR v+1:=by
 have hb:=aE v;have hc:=jp h hr hd;have hp:=a8 hc.1;rw[hc.2]at hp;exact⟨hp.1,by rw[hp.2.1];omega⟩
theorem kT {a:Int}{n:Nat}(h:Whole a)(hn:wR a=(n:Int)):∀k,k<=12-n->a%8^k=8^k-1
 | 0,_=>by simp
 | k+1,hk=>by
  have ih:=kT h hn k (by omega);have hd:dg a (12-k)=7:=(h.2.2 (12-k) (by omega) (by omega)).2 (by rw[hn];omega);unfold dg at hd;rw[show 12-(12-k)=k by omega]at hd;have hp:(0:Int)<8^k:=Int.pow_pos (by omega);rw[Int.pow_succ];generalize (8:Int)^k=p at *;have e1:=Int.mul_ediv_add_emod a p;have e2:=Int.mul_ediv_add_emod (a / p) 8;rw[hd]at e2;rw[ih]at e1;generalize a / p=q at *;generalize q / 8=s at *;have e3:a=(p*8-1)+p*8*s:=by rw[←e1,←e2,Int.mul_add,Int.mul_assoc];omega
  rw[e3,Int.add_mul_emod_self_left];exact Int.emod_eq_of_lt (by omega) (by omega)
theorem ya {a b:Int}{n:Nat}(ha:Whole a)(hb:Whole b)(na:wR a=(n:Int))(nb:wR b=(n:Int))(hne:a≠b):a+8^(12-n)<=b∨b+8^(12-n)<=a:=by
 have e1:=kT ha na (12-n) (Nat.le_refl _);have e2:=kT hb nb (12-n) (Nat.le_refl _);have hp:(0:Int)<8^(12-n):=Int.pow_pos (by omega);generalize (8:Int)^(12-n)=p at *;have f1:=Int.mul_ediv_add_emod a p;have f2:=Int.mul_ediv_add_emod b p;rw[e1]at f1;rw[e2]at f2;generalize a / p=q at *;generalize b / p=s at *;rcases(show q=s∨q+1<=s∨s+1<=q by omega)with rfl | h | h
 · exact absurd (by omega) hne
 · have:=Int.mul_le_mul_of_nonneg_left h (show 0<=p by omega);rw[Int.mul_add]at this;omega
 · have:=Int.mul_le_mul_of_nonneg_left h (show 0<=p by omega);rw[Int.mul_add]at this;omega
theorem IV {v:Int}(h:Whole v)(hr:wR v<12){d:Nat}(hd:d<=6):upW (chW v d)=v:=by
 have hc:=jp h hr hd;have hp:=lp (P:=an v) (Q:=ao v) (show 0<=(d:Int)by omega) (show(d:Int)<=6 by omega);have hu:=gm hc.1 (by omega);rw[hp.2.1,hp.2.2,Nat.add_sub_cancel,da h,hc.2]at hu;exact hu
def fN (v:Int):List Int:=(List.range 7).map (chW v)
theorem nt (v:Int):(fN v).length=7:=by simp[fN]
theorem gM {v x:Int}:x∈fN v↔∃d:Nat,d<=6/\x=chW v d:=by
 unfold fN;rw[List.mem_map];constructor
 · rintro⟨d,hd,rfl⟩;exact⟨d,by have:=List.mem_range.1 hd;omega,rfl⟩
 · rintro⟨d,hd,rfl⟩;exact⟨d,List.mem_range.2 (by omega),rfl⟩
theorem zg {v:Int}{d e:Nat}(h:d<e)(_:e<=6):chW v d<chW v e:=by
 unfold chW;have hp:(0:Int)<8^(11-(wR v).toNat):=Int.pow_pos (by omega);generalize (8:Int)^(11-(wR v).toNat)=p at *;have:=Int.mul_lt_mul_of_pos_right (show(7-(e:Int))<7-(d:Int)by omega) hp;omega
theorem wS {u v:Int}{n d e:Nat}(hu:Whole u)(hv:Whole v)(nu:wR u=(n:Int))(nv:wR v=(n:Int))(hn:n<12)(h:u<v)(hd:d<=6)(_:e<=6):chW u d<chW v e:=by
 have ha:=ya hu hv nu nv (by omega);have e8:(8:Int)^(12-n)=8*8^(11-n):=by rw[show 12-n=11-n+1 by omega,Int.pow_succ,Int.mul_comm]
 rw[e8]at ha;unfold chW;rw[nu,nv,show((n:Int)).toNat=n by omega];have hp:(0:Int)<8^(11-n):=Int.pow_pos (by omega);generalize (8:Int)^(11-n)=p at *;have h1:=Int.mul_le_mul_of_nonneg_right (show(1:Int)<=7-(d:Int)by omega) (show 0<=p by omega);have h2:=Int.mul_le_mul_of_nonneg_right (show 7-(e:Int)<=7 by omega) (show 0<=p by omega);omega
theorem bh {w:Int}(h:Whole w)(hr:0<wR w):Whole (upW w)/\wR (upW w)=wR w-1:=by
 have hb:=aE w;have e:=da h;have hu:=gm (r:=(wR w).toNat) (a:=an w) (b:=ao w) (by rw[show(((wR w).toNat:Nat):Int)=wR w by omega];exact cI h) (by omega);rw[e]at hu;have hp:=nO (cI h) hr;rw[show wR w-1=(((wR w).toNat-1:Nat):Int)by omega]at hp ⊢;have hq:=a8 hp;rw[hu];exact⟨hq.1,hq.2.1⟩
theorem qg {w:Int}(h:Whole w):0<w:=by have:=h.1;omega
theorem gw {w:Int}(h:Whole w)(hr:0<wR w):∃d:Nat,d<=6/\w=chW (upW w) d:=by
 have hb:=aE w;have hu:=bh h hr;have hd:=jV h (j:=(wR w).toNat) (by omega) (by omega);refine⟨(dg w (wR w).toNat).toNat,by omega,?_⟩;have h12:=h.2.1;have e:11-(wR (upW w)).toNat=12-(wR w).toNat:=by rw[hu.2];omega
 unfold chW;rw[e,show(((dg w (wR w).toNat).toNat:Nat):Int)=dg w (wR w).toNat by omega];unfold upW fo;rw[Int.sub_mul];omega
theorem iF {a b:Int}(ha:Whole a)(hb:Whole b)(h:a<=b):wR a<=wR b:=by
 have h1:=ha.1;have h2:=hb.1;unfold wR;omega
theorem Em {w:Int}(h:Whole w)(hr:0<wR w):upW w<w:=by
 have hu:=bh h hr;by_cases hlt:upW w<w
 · exact hlt
 · have:=iF h hu.1 (by omega);omega
theorem vF {a b:Int}(ha:Whole a)(hb:Whole b)(hr:0<wR a)(hs:wR a=wR b)(h:a<=b):upW a<=upW b:=by
 have ua:=bh ha hr;have ub:=bh hb (by omega);by_cases hlt:upW b<upW a
 · obtain⟨d,hd,ea⟩:=gw ha hr;obtain⟨e,he,eb⟩:=gw hb (by omega);have hbx:=aE (upW a);have h12:=ha.2.1;have:=wS (n:=(wR (upW a)).toNat) ub.1 ua.1 (by omega) (by omega) (by omega) hlt he hd;rw[←ea,←eb]at this;omega
 · omega
def IT:Nat->Int->Int
 | 0,w=>w
 | k+1,w=>IT k (upW w)
def Above (p w:Int):Prop:=∃k:Nat,(k:Int)<=wR w/\IT k w=p
theorem cQ (w:Int):Above w w:=⟨0,(aE w).1,rfl⟩
theorem ib {p w:Int}(h:Whole w)(hr:0<wR w)(hp:Above p (upW w)):Above p w:=by
 obtain⟨k,h1,h2⟩:=hp;rw[(bh h hr).2]at h1;exact⟨k+1,by omega,h2⟩
theorem dN {p w:Int}(h:Whole w)(hp:Above p w):p=w∨(0<wR w/\Above p (upW w)):=by
 obtain⟨k,h1,h2⟩:=hp;cases k with
 | zero=>exact .inl h2.symm
 | succ k=>exact .inr ⟨by omega,k,by rw[(bh h (by omega)).2];omega,h2⟩
theorem iJ:∀(n:Nat) {p w:Int},(wR w).toNat=n->Whole w->Above p w->Whole p/\wR p<=wR w/\p<=w/\(wR p=wR w->p=w)
 | 0,p,w,hn,h,hp=>by
  have hb:=aE w;rcases dN h hp with rfl | ⟨hr,_⟩
  · exact⟨h,Int.le_refl _,Int.le_refl _,fun _=>rfl⟩
  · omega
 | n+1,p,w,hn,h,hp=>by
  rcases dN h hp with rfl | ⟨hr,ha⟩
  · exact⟨h,Int.le_refl _,Int.le_refl _,fun _=>rfl⟩
  · have hu:=bh h hr;have ih:=iJ n (by rw[hu.2];omega) hu.1 ha;have hl:=Em h hr;exact⟨ih.1,by omega,by omega,fun e=>by omega⟩
theorem Above.size {p w:Int}(hp:Above p w)(h:Whole w):wR p<=wR w:=(iJ _ rfl h hp).2.1
theorem Above.eq {p w:Int}(hp:Above p w)(h:Whole w)(e:wR p=wR w):p=w:=(iJ _ rfl h hp).2.2.2 e
theorem lN:∀(n:Nat) {p q w:Int},(wR w).toNat=n->Whole w->Above p q->Above q w->Above p w
 | 0,p,q,w,hn,h,hp,hq=>by
  have hb:=aE w;rcases dN h hq with rfl | ⟨hr,_⟩
  · exact hp
  · omega
 | n+1,p,q,w,hn,h,hp,hq=>by
  rcases dN h hq with rfl | ⟨hr,ha⟩
  · exact hp
  · have hu:=bh h hr;exact ib h hr (lN n (by rw[hu.2];omega) hu.1 hp ha)
theorem Above.trans {p q w:Int}(hp:Above p q)(hq:Above q w)(h:Whole w):Above p w:=lN _ rfl h hp hq
theorem bJ {v:Int}(h:Whole v)(hr:wR v<12){d:Nat}(hd:d<=6):Whole (chW v d)/\wR (chW v d)=wR v+1/\upW (chW v d)=v/\v<chW v d:=by
 have hc:=yF h hr hd;have hb:=aE v;have hu:=IV h hr hd;have hl:=Em hc.1 (by omega);exact⟨hc.1,hc.2,hu,by omega⟩
theorem j9 {v:Int}(h:Whole v)(hr:wR v<12){d:Nat}(hd:d<=6):Above v (chW v d):=by
 have hk:=bJ h hr hd;have hb:=aE v;exact ib hk.1 (by omega) (by rw[hk.2.2.1];exact cQ v)
theorem mT {p v:Int}(h:Whole v)(hr:wR v<12){d:Nat}(hd:d<=6)(hp:Above p (chW v d)):p=chW v d∨Above p v:=by
 have hk:=bJ h hr hd;rcases dN hk.1 hp with e | ⟨_,ha⟩
 · exact .inl e
 · rw[hk.2.2.1]at ha;exact .inr ha
theorem j8:∀(n:Nat) {v x:Int},(wR x).toNat=n->Whole x->Above v x->wR v<wR x->∃d:Nat,d<=6/\Above (chW v d) x
 | 0,v,x,hn,h,ha,hs=>by have hb:=aE v;omega
 | n+1,v,x,hn,h,ha,hs=>by
  rcases dN h ha with rfl | ⟨hr,hb⟩
  · omega
  · have hu:=bh h hr;by_cases he:wR v=wR (upW x)
    · have e:=hb.eq hu.1 he;subst e;obtain⟨d,hd,e⟩:=gw h hr;exact⟨d,hd,by rw[←e];exact cQ x⟩
    · have:=hb.size hu.1;obtain⟨d,hd,hk⟩:=j8 n (by rw[hu.2];omega) hu.1 hb (by omega);exact⟨d,hd,ib h hr hk⟩
theorem fx {v x:Int}(h:Whole x)(ha:Above v x)(hs:wR v<wR x):∃d:Nat,d<=6/\Above (chW v d) x:=j8 _ rfl h ha hs
theorem qH:∀(n:Nat) {v:Int}{r:Nat},Whole v->r<=12->(wR v).toNat+n=r->∃x,Whole x/\wR x=(r:Int)/\Above v x
 | 0,v,r,h,hr,hn=>⟨v,h,by have:=aE v;omega,cQ v⟩
 | n+1,v,r,h,hr,hn=>by
  have hb:=aE v;have hk:=bJ h (by omega) (d:=0) (by omega);obtain⟨x,h1,h2,h3⟩:=qH n (v:=chW v 0) hk.1 hr (by rw[hk.2.1];omega);exact⟨x,h1,h2,(j9 h (by omega) (by omega)).trans h3 h1⟩
def Cov (X:List Int)(x:Int):Prop:=∃p∈X,Above p x
def qw (X:List Int):Prop:=∀p∈X,∀q∈X,Above p q->p=q
def gX (X:List Int):Prop:=∀v,Whole v->wR v<12->¬ ∀d:Nat,d<=6->chW v d∈X
def jc (r:Nat)(X:List Int):Prop:=∀x∈X,Whole x/\wR x<=(r:Int)
theorem ml {r:Nat}(hr:r<=12){P:List Int}(hP:jc r P)(hn:gX P):∀(n:Nat) {v:Int},Whole v->(wR v).toNat+n=r->(∀x,Whole x->wR x=(r:Int)->Above v x->Cov P x)->Cov P v
 | 0,v,h,e,hc=>hc v h (by have:=aE v;omega) (cQ v)
 | n+1,v,h,e,hc=>by
  have hb:=aE v;have hv:wR v<12:=by omega
  have hk:∀d:Nat,d<=6->Cov P (chW v d):=fun d hd=>by
   have hw:=bJ h hv hd;exact ml hr hP hn n hw.1 (by rw[hw.2.1];omega) fun x hx hxr hax=>hc x hx hxr ((j9 h hv hd).trans hax hx)
  by_cases hcv:Cov P v
  · exact hcv
  · refine absurd (fun d hd=>?_) (hn v h hv);obtain⟨p,hp,ha⟩:=hk d hd;rcases mT h hv hd ha with rfl | ha
    · exact hp
    · exact absurd ⟨p,hp,ha⟩ hcv
theorem uj {r:Nat}(hr:r<=12){P Q:List Int}(hP:jc r P)(hQ:jc r Q)(aP:qw P)(nP:gX P)(nQ:gX Q)
 (h:∀x,Whole x->wR x=(r:Int)->(Cov P x↔Cov Q x)):∀x∈P,x∈Q:=fun w hw=>by
 have hW:=hP w hw;have hb:=aE w;have h1:Cov Q w:=ml hr hQ nQ (r-(wR w).toNat) hW.1 (by omega) fun x hx hxr ha=>(h x hx hxr).1 ⟨w,hw,ha⟩;obtain⟨q,hq,haq⟩:=h1;have hQw:=hQ q hq;have hbq:=aE q;obtain⟨p,hp,hap⟩:=ml hr hP nP (r-(wR q).toNat) hQw.1 (by omega) fun x hx hxr ha=>(h x hx hxr).2 ⟨q,hq,ha⟩;have e:=aP p hp w hw (hap.trans haq hW.1);subst e;have s1:=haq.size hW.1;have s2:=hap.size hQw.1;have:=haq.eq hW.1 (by omega);subst this;exact hq
def Packed (r:Nat)(S P:List Int):Prop:=aq P/\jc r P/\qw P/\gX P/\∀x,Whole x->wR x=(r:Int)->(Cov P x↔x∈S)
theorem Packed.one {r:Nat}(hr:r<=12){S T P Q:List Int}(hP:Packed r S P)(hQ:Packed r T Q)(h:∀x,x∈S↔x∈T):P=Q :=
 gU hP.1 hQ.1 fun x=>⟨uj hr hP.2.1 hQ.2.1 hP.2.2.1 hP.2.2.2.1 hQ.2.2.2.1 (fun y hy hs=>by rw[hP.2.2.2.2 y hy hs,hQ.2.2.2.2 y hy hs,h y]) x,
  uj hr hQ.2.1 hP.2.1 hQ.2.2.1 hQ.2.2.2.1 hP.2.2.2.1 (fun y hy hs=>by rw[hP.2.2.2.2 y hy hs,hQ.2.2.2.2 y hy hs,h y]) x⟩
theorem rt (v:Int):(fN v).Nodup:=by
 unfold fN;exact List.pairwise_map.2 ((List.pairwise_lt_range (n:=7)).imp_of_mem fun {a b} ha hb hab=>by
  have:=zg (v:=v) hab (by have:=List.mem_range.1 hb;omega);omega)
theorem ql {L M:List Int}(hL:L.Nodup)(hM:M.Nodup)(h:∀x,x∈L↔x∈M):L.length=M.length :=
 ((List.perm_ext_iff_of_nodup hL hM).2 h).length_eq
end Go.Proofs.YtbnlhdnnenahfaaGreatDoor
namespace Go.Proofs.YtbnlhdnnenahfaaGreatDoor
def Many (K:Nat)(l1 l2 u1 u2:Int)(r n:Nat):Prop:=∃L:List Int,L.Nodup/\(∀x∈L,TW K l1 l2 u1 u2 x r)/\n<L.length
theorem Many.all {K r n:Nat}{l1 l2 u1 u2:Int}(h:Many K l1 l2 u1 u2 r n){L:List Int}(hL:∀x,x∈L↔TW K l1 l2 u1 u2 x r):n<L.length:=by
 obtain⟨M,h1,h2,h3⟩:=h;exact Nat.lt_of_lt_of_le h3 (dJ h1 fun x hx=>(hL x).2 (h2 x hx))
theorem Ay {K:Nat}{x y a b:Int}(h:Tou K x y x y a b):a7 (dvK K) (nuA K x y) (nuB K x y) a b:=by
 obtain⟨X,Y,M,hM,hi,⟨h1,h2⟩,h3,h4⟩:=h;have hX:X=M*(3*x):=by omega
 have hY:Y=M*(3*y):=by omega
 subst hX hY;refine(me K a b x y).1 fun i hi6=>?_;have k:=hi i hi6;have e:lin (hv K a b i) (hv K a b (nx i)) (M*(3*x)) (M*(3*y)) M=M*lin (hv K a b i) (hv K a b (nx i)) (3*x) (3*y) 1:=by unfold lin;grind
 rw[e]at k;exact Int.le_of_mul_le_mul_left (by rw[Int.mul_zero];exact k) hM
theorem sY {K r:Nat}{l1 l2 u1 u2:Int}{L:List Int}(hn:L.Nodup)(h:∀x∈L,TW K l1 l2 u1 u2 x r):(L.map fun x=>(an x,ao x)).Nodup:=by
 refine(List.pairwise_map).2 (hn.imp_of_mem fun {x y} hx hy hne he=>hne ?_);have e1:=congrArg Prod.fst he;have e2:=congrArg Prod.snd he;dsimp only at e1 e2;have w1:=da (h x hx).1;have w2:=da (h y hy).1;rw[(h x hx).2.1,e1,e2]at w1;rw[(h y hy).2.1]at w2;exact w1.symm.trans w2
theorem Ey {K r:Nat}(hK:K<=12){l1 l2 u1 u2:Int}(hx:u1-l1<=8*szK K)(hy:u2-l2<=8*szK K){L:List Int}(hn:L.Nodup)(h:∀z∈L,TW K l1 l2 u1 u2 z r):L.length<=10267:=by
 obtain⟨sa,sb,hs⟩:=eh (d:=dvK K) (bX hK).1 (nuA K l1 l2) (nuB K l1 l2);have:=Bz (N:=58) (sa:=sa) (sb:=sb) (sY hn h) fun p hp=>by
  obtain⟨z,hz,rfl⟩:=List.mem_map.1 hp;exact yw hK hx hy hs.1 (h z hz).2.2
 rw[List.length_map]at this;omega
theorem DS {K:Nat}{l1 l2 u1 u2 l1' l2' u1' u2' a b:Int}(h:Tou K l1 l2 u1 u2 a b)(h1:l1'<=l1)(h2:l2'<=l2)(h3:u1<=u1')(h4:u2<=u2'):Tou K l1' l2' u1' u2' a b:=by
 obtain⟨X,Y,M,hM,hi,⟨k1,k2⟩,k3,k4⟩:=h;have f:∀p q:Int,p<=q->M*(3*p)<=M*(3*q):=fun p q hpq=>Int.mul_le_mul_of_nonneg_left (by omega) (by omega);exact⟨X,Y,M,hM,hi,⟨Int.le_trans (f _ _ h1) k1,Int.le_trans k2 (f _ _ h3)⟩,Int.le_trans (f _ _ h2) k3,Int.le_trans k4 (f _ _ h4)⟩
theorem mt (p q:Int×Int)(X Y M s t dx dy:Int):lin p q (s*X-t*dx) (s*Y-t*dy) (s*M)=s*lin p q X Y M-t*((q.1-p.1)*dy-(q.2-p.2)*dx):=by unfold lin;grind
def crD (h:Nat->Int×Int)(dx dy:Int)(i:Nat):Int:=((h (nx i)).1-(h i).1)*dy-((h (nx i)).2-(h i).2)*dx
theorem ny {h:Nat->Int×Int}{X Y M dx dy T:Int}(hp:InK h X Y M)(hT:0<=T) :
 InK h (X-T*dx) (Y-T*dy) M∨∃(e:Nat) (s t:Int),e<6/\0<s/\0<=t/\t<=T*s/\0<crD h dx dy e/\InK h (s*X-t*dx) (s*Y-t*dy) (s*M)/\lin (h e) (h (nx e)) (s*X-t*dx) (s*Y-t*dy) (s*M)=0:=by
 have e1:∀i,lin (h i) (h (nx i)) (X-T*dx) (Y-T*dy) M=lin (h i) (h (nx i)) X Y M-T*crD h dx dy i:=fun i=>by
  have:=mt (h i) (h (nx i)) X Y M 1 T dx dy;rw[Int.one_mul,Int.one_mul,Int.one_mul,Int.one_mul]at this;exact this
 by_cases hv:∃i,i<6/\lin (h i) (h (nx i)) X Y M<T*crD h dx dy i
 · refine .inr ?_;have pos:∀i,i<6->lin (h i) (h (nx i)) X Y M<T*crD h dx dy i->0<crD h dx dy i:=fun i hi k=>by
    by_cases c:0<crD h dx dy i
    · exact c
    · have:=hp i hi;have:=Int.mul_nonneg hT (show 0≤-crD h dx dy i by omega);rw[Int.mul_neg]at this;omega
   obtain⟨e,he,ve,hm⟩:=ju (u:=fun i=>if i<6 then lin (h i) (h (nx i)) X Y M else 0) (w:=fun i=>crD h dx dy i) (fun i=>i<6/\lin (h i) (h (nx i)) X Y M<T*crD h dx dy i)
    (fun i=>by
      split
      · exact hp i (by assumption)
      · exact Int.le_refl 0) (fun i hi=>pos i hi.1 hi.2) 6 (by obtain⟨i,hi,k⟩:=hv;exact⟨i,hi,hi,k⟩)
   have he0:=hp e he;have hs:=pos e he ve.2;have ht:lin (h e) (h (nx e)) X Y M<=T*crD h dx dy e:=Int.le_of_lt ve.2;refine⟨e,crD h dx dy e,lin (h e) (h (nx e)) X Y M,he,hs,he0,ht,hs,fun f hf=>?_,?_⟩
   · rw[mt];show 0<=crD h dx dy e*lin (h f) (h (nx f)) X Y M-lin (h e) (h (nx e)) X Y M*crD h dx dy f
     have hf0:=hp f hf;by_cases vf:lin (h f) (h (nx f)) X Y M<T*crD h dx dy f
     · have h1:=hm f hf ⟨hf,vf⟩;rw[if_pos he,if_pos hf]at h1;have e2:=Int.mul_comm (lin (h f) (h (nx f)) X Y M) (crD h dx dy e);omega
     · by_cases c:0<crD h dx dy f
       · have k1:=Int.mul_le_mul_of_nonneg_left (show T*crD h dx dy f<=lin (h f) (h (nx f)) X Y M by omega) (Int.le_of_lt hs);have k2:=Int.mul_le_mul_of_nonneg_right ht (Int.le_of_lt c);have e2:crD h dx dy e*(T*crD h dx dy f)=T*crD h dx dy e*crD h dx dy f:=by grind
         omega
       · have k1:=Int.mul_nonneg (Int.le_of_lt hs) hf0;have k2:=Int.mul_nonneg he0 (show 0≤-crD h dx dy f by omega);rw[Int.mul_neg]at k2;omega
   · rw[mt];show crD h dx dy e*lin (h e) (h (nx e)) X Y M-lin (h e) (h (nx e)) X Y M*crD h dx dy e=0
     rw[Int.mul_comm];omega
 · refine .inl fun i hi=>?_;rw[e1];by_cases c:lin (h i) (h (nx i)) X Y M<T*crD h dx dy i
   · exact absurd ⟨i,hi,c⟩ hv
   · omega
theorem mF (K:Nat)(a b:Int){e:Nat}(he:e<6) :
 26*((hv K a b (nx e)).2-(hv K a b e).2)=45*poX K (sA e) (sB e)/\45*((hv K a b (nx e)).1-(hv K a b e).1)= -(78*poY K (sA e) (sB e)):=by
 obtain rfl | rfl | rfl | rfl | rfl | rfl:e=0∨e=1∨e=2∨e=3∨e=4∨e=5:=by omega
 · rw[aS.1];unfold hv coX coY poX poY ctA ctB sA sB bR bS;constructor <;>grind
 · rw[aS.2.1];unfold hv coX coY poX poY ctA ctB sA sB bR bS;constructor <;>grind
 · rw[aS.2.2.1];unfold hv coX coY poX poY ctA ctB sA sB bR bS;constructor <;>grind
 · rw[aS.2.2.2.1];unfold hv coX coY poX poY ctA ctB sA sB bR bS;constructor <;>grind
 · rw[aS.2.2.2.2.1];unfold hv coX coY poX poY ctA ctB sA sB bR bS;constructor <;>grind
 · rw[aS.2.2.2.2.2];unfold hv coX coY poX poY ctA ctB sA sB bR bS;constructor <;>grind
def plc (K d:Nat)(a b:Int):Int:=if d=0 then poX K a b else poY K a b
theorem zG (K:Nat)(a b p q:Int):poX K (a+p) (b+q)=poX K a b+poX K p q/\poY K (a+p) (b+q)=poY K a b+poY K p q:=by
 unfold poX poY ctA ctB;constructor <;>grind
theorem oM (K d:Nat)(a b p q:Int):plc K d (a+p) (b+q)=plc K d a b+plc K d p q:=by
 unfold plc
 split
 · exact(zG K a b p q).1
 · exact(zG K a b p q).2
theorem DR {K:Nat}{l1 l2 u1 u2 a b:Int}(h:Tou K l1 l2 u1 u2 a b) :
 Tou K l1 l2 l1 u2 a b∨∃e,e<6/\poX K (sA e) (sB e)<0/\Tou K l1 l2 u1 u2 (a+sA e) (b+sB e):=by
 obtain⟨X,Y,M,hM,hp,hX,hY⟩:=h;rcases ny (dx:=1) (dy:=0) (T:=X-M*(3*l1)) hp (by omega)with k | ⟨e,s,t,he,hs,ht,htT,hc,hq,hz⟩
 · refine .inl ⟨_,_,M,hM,k,⟨by omega,by omega⟩,by omega,by omega⟩
 · refine .inr ⟨e,he,?_,?_⟩
   · have:=(mF K a b he).1;unfold crD at hc;omega
   · have hqa:=qC he hq hz;rw[Int.mul_one,Int.mul_zero,Int.sub_zero]at hqa;have k1:s*(M*(3*l1))=s*M*(3*l1):=(Int.mul_assoc ..).symm;have k2:=Int.mul_le_mul_of_nonneg_left hX.2 (Int.le_of_lt hs);have k3:=Int.mul_le_mul_of_nonneg_left hY.1 (Int.le_of_lt hs);have k4:=Int.mul_le_mul_of_nonneg_left hY.2 (Int.le_of_lt hs);rw[←Int.mul_assoc]at k2 k3 k4;have k5:(X-M*(3*l1))*s=s*X-s*M*(3*l1):=by grind
     exact⟨s*X-t,s*Y,s*M,Int.mul_pos hs hM,hqa,⟨by omega,by omega⟩,k3,k4⟩
theorem GI {K:Nat}{l1 l2 u1 u2 a b:Int}(h:Tou K l1 l2 u1 u2 a b) :
 Tou K l1 l2 u1 l2 a b∨∃e,e<6/\poY K (sA e) (sB e)<0/\Tou K l1 l2 u1 u2 (a+sA e) (b+sB e):=by
 obtain⟨X,Y,M,hM,hp,hX,hY⟩:=h;rcases ny (dx:=0) (dy:=1) (T:=Y-M*(3*l2)) hp (by omega)with k | ⟨e,s,t,he,hs,ht,htT,hc,hq,hz⟩
 · refine .inl ⟨_,_,M,hM,k,by omega,⟨by omega,by omega⟩⟩
 · refine .inr ⟨e,he,?_,?_⟩
   · have:=(mF K a b he).2;unfold crD at hc;omega
   · have hqa:=qC he hq hz;rw[Int.mul_one,Int.mul_zero,Int.sub_zero]at hqa;have k2:=Int.mul_le_mul_of_nonneg_left hY.2 (Int.le_of_lt hs);have k3:=Int.mul_le_mul_of_nonneg_left hX.1 (Int.le_of_lt hs);have k4:=Int.mul_le_mul_of_nonneg_left hX.2 (Int.le_of_lt hs);rw[←Int.mul_assoc]at k2 k3 k4;have k5:(Y-M*(3*l2))*s=s*Y-s*M*(3*l2):=by grind
     exact⟨s*X,s*Y-t,s*M,Int.mul_pos hs hM,hqa,⟨k3,k4⟩,by omega,by omega⟩
def sdX (d:Nat)(l u:Int):Int:=if d=0 then l else u
theorem DQ {K d:Nat}(hd:d<=1){l1 l2 u1 u2 a b:Int}(h:Tou K l1 l2 u1 u2 a b) :
 Tou K l1 l2 (sdX d l1 u1) (sdX (1-d) l2 u2) a b∨∃e,e<6/\plc K d (sA e) (sB e)<0/\Tou K l1 l2 u1 u2 (a+sA e) (b+sB e):=by
 obtain rfl | rfl:d=0∨d=1:=by omega
 · exact DR h
 · exact GI h
theorem FT {K d:Nat}(hK:K<=12){r a b:Int}(h:Ok4 r a b): -1000000000000000000<=plc K d a b/\plc K d a b<=1000000000000000000:=by
 have h1:=ce h;have h2:=ic hK (a:=a) (b:=b) (by omega) (by omega);unfold plc poX poY
 split <;>omega
theorem IL {e:Nat}(he:e<6):∃i,i<6/\uA i= -sA e/\uB i= -sB e:=by
 obtain rfl | rfl | rfl | rfl | rfl | rfl:e=0∨e=1∨e=2∨e=3∨e=4∨e=5:=by omega
 · exact⟨4,by omega,rfl,rfl⟩
 · exact⟨5,by omega,rfl,rfl⟩
 · exact⟨0,by omega,rfl,rfl⟩
 · exact⟨1,by omega,rfl,rfl⟩
 · exact⟨2,by omega,rfl,rfl⟩
 · exact⟨3,by omega,rfl,rfl⟩
theorem Ap {K d:Nat}(hK:K<=12)(hd:d<=1){r l1 l2 u1 u2:Int}(hr:12-r=(K:Int))(h1:0<=l1)(h2:0<=l2)(h3:u1<1073741824)(h4:u2<1073741824)(P:Int->Int->Prop)
 (h0:∀a b,Tou K l1 l2 (sdX d l1 u1) (sdX (1-d) l2 u2) a b->Tou K l1 l2 u1 u2 a b->P a b)
 (hstep:∀a b i,i<6->0<plc K d (uA i) (uB i)->Tou K l1 l2 u1 u2 a b->P a b->Tou K l1 l2 u1 u2 (a+uA i) (b+uB i)->P (a+uA i) (b+uB i)) :
 ∀a b,Tou K l1 l2 u1 u2 a b->P a b:=by
 have key:∀(n:Nat) a b,(plc K d a b+1000000000000000000).toNat<n->Tou K l1 l2 u1 u2 a b->P a b:=by
  intro n;induction n with
  | zero=>intro a b h;omega
  | succ n ih =>
   intro a b hn hT;rcases DQ hd hT with k | ⟨e,he,hc,hT2⟩
   · exact h0 a b k hT
   · have hb:=FT (d:=d) hK (fQ hK hr h1 h2 h3 h4 hT2);have ea:=oM K d a b (sA e) (sB e);have hp:=ih _ _ (by omega) hT2;obtain⟨i,hi,e1,e2⟩:=IL he;have e3:a+sA e+uA i=a:=by omega
     have e4:b+sB e+uB i=b:=by omega
     have e5:=oM K d (a+sA e) (b+sB e) (uA i) (uB i);rw[e3,e4]at e5;have:=hstep (a+sA e) (b+sB e) i hi (by omega) hT2 hp (by rw[e3,e4];exact hT)
     rwa [e3,e4]at this
 exact fun a b hT=>key _ a b (Nat.lt_succ_self _) hT
theorem rT {K:Nat}(hK:K<=12){x y p q a b:Int}(hn:aU (dvK K) (nuA K x y) (nuB K x y) p q)(h:Tou K x y x y a b):(a=p/\b=q)∨∃i,i<6/\a=p+uA i/\b=q+uB i:=by
 have hd:=(bX hK).1;have h1:=pu (by omega) hn.1 (Ay h);by_cases e:a-p=0/\b-q=0
 · exact .inl ⟨by omega,by omega⟩
 · have h2:=dF (a-p) (b-q);have h3:stp (a-p) (b-q)=1:=by omega
   refine .inr ?_;have h4:=sr (a-p) (b-q);rw[h3]at h2;obtain k | k | k | k | k | k:(a=p+1/\b=q)∨(a=p/\b=q+1)∨(a=p-1/\b=q+1)∨(a=p-1/\b=q)∨(a=p/\b=q-1)∨(a=p+1/\b=q-1):=by omega
   · exact⟨0,by omega,by rw[k.1];rfl,by rw[k.2];simp[uB]⟩
   · exact⟨1,by omega,by rw[k.1];simp[uA],by rw[k.2];rfl⟩
   · exact⟨2,by omega,by rw[k.1];rfl,by rw[k.2];rfl⟩
   · exact⟨3,by omega,by rw[k.1];rfl,by rw[k.2];simp[uB]⟩
   · exact⟨4,by omega,by rw[k.1];simp[uA],by rw[k.2];rfl⟩
   · exact⟨5,by omega,by rw[k.1];rfl,by rw[k.2];rfl⟩
end Go.Proofs.YtbnlhdnnenahfaaGreatDoor
namespace Go.Proofs.YtbnlhdnnenahfaaGreatDoor
open Go.RowKit
def Hp (n:Nat)(d:Array Int):Prop:=∀i,i<n->Sort.Ok Sort.ltInt 0 n d i
theorem BV (d:Array Int){n k:Nat}(hn:d.size=n)(hk:n<=2*k+1):Hp n (Sort.heapBuild Sort.ltInt n 0 k d)/\Sort.PermIn 0 n d (Sort.heapBuild Sort.ltInt n 0 k d):=by
 have h:=Sort.build Sort.swo_ltInt n 0 k d (by omega) (fun i h1 _ c hc hch=>by omega);rw[Nat.zero_add]at h;exact h
theorem zD {a b:Nat}{d d':Array Int}(h:Sort.PermIn a b d d'):d'.size=d.size:=h.1
theorem kC {n:Nat}{d d':Array Int}(hn:d.size=n)(h:Sort.PermIn 0 n d d'):d'.toList.Perm d.toList:=by
 have hp:=h.2.2;have hs:=h.1;have e1:(d'.extract 0 n).toList=d'.toList:=by simp[←hn,←hs]
 have e2:(d.extract 0 n).toList=d.toList:=by simp[←hn]
 rwa [e1,e2]at hp
theorem ns {n:Nat}{d:Array Int}(h:Hp n d)(hn:d.size=n):∀x∈d.toList,x<=d[0]! :=by
 intro x hx;obtain⟨i,hi,rfl⟩:=List.mem_iff_getElem.1 hx;have hi':i<n:=by rw[←hn];simpa using hi
 have:=Sort.root_max Sort.swo_ltInt h i i (Nat.le_refl _) hi';simp only[Nat.zero_add,Sort.ltInt,decide_eq_false_iff_not]at this;have e:d[i]! =d[i]'(by omega):=getElem!_pos d i (by omega);rw[e]at this
 simpa using this
def bT (n:Nat)(d:Array Int):Array Int:=Sort.siftDown Sort.ltInt n 0 0 (Sort.swp d 0 n)
theorem zc {n:Nat}{d:Array Int}(h:Hp (n+1) d)(hn:d.size=n+1) :
 (bT n d).size=n+1/\(bT n d)[n]! =d[0]!∧Hp n ((bT n d).toList.take n).toArray/\d.toList.Perm (d[0]! :: (bT n d).toList.take n)/\((bT n d).toList.take n).length=n:=by
 have hs:=Sort.swo_ltInt;have g1n:(Sort.swp d 0 n)[n]! =d[0]! :=Sort.swp_right d _ _ (by omega);have g1o:∀j,j≠0->j≠n->(Sort.swp d 0 n)[j]! =d[j]! :=fun j h1 h2=>Sort.swp_other d _ _ _ h1 h2;obtain⟨R1,R2⟩:=Sort.sift hs n 0 0 n 0 (Sort.swp d 0 n) (by omega) (by rw[Sort.size_swp];omega) (Nat.le_refl _)
  (fun i _ h2 h3 kk hkk hkkh=>by rw[Nat.zero_add,Nat.zero_add,g1o i h3 (by omega),g1o kk (by omega) (by omega)];have:=h i (by omega) kk hkk (by omega);simpa using this)
  (fun p _ hp=>by omega)
 rw[Nat.zero_add]at R2;have hsz:(bT n d).size=n+1:=by rw[show(bT n d).size=_ from R2.1,Sort.size_swp,hn]
 have hlast:(bT n d)[n]! =d[0]! :=by rw[show(bT n d)[n]! =(Sort.swp d 0 n)[n]! from R2.2.1 n (Or.inr (Nat.le_refl _)),g1n]
 have hlen:((bT n d).toList.take n).length=n:=by rw[List.length_take];simp[hsz]
 refine⟨hsz,hlast,fun i hi k hk hkn=>?_,?_,hlen⟩
 · have e:∀j,j<n->((bT n d).toList.take n).toArray[j]! =(bT n d)[j]! :=fun j hj=>by
    rw[getElem!_pos _ j (by simpa[hsz]using by omega),getElem!_pos (bT n d) j (by omega)];simp
   have:=R1 i (Nat.zero_le _) hi k hk hkn;rw[Nat.zero_add,Nat.zero_add]at this ⊢;rw[e i hi,e k hkn];exact this
 · have hp:(bT n d).toList.Perm d.toList:=by
    have p1:Sort.PermIn 0 (n+1) d (Sort.swp d 0 n):=Sort.swp_permIn d 0 (n+1) 0 n (Nat.le_refl _) (by omega) (by omega) (by omega) (by omega);have p2:Sort.PermIn 0 (n+1) (Sort.swp d 0 n) (bT n d):=Sort.permIn_mono _ _ 0 n 0 (n+1) (Nat.le_refl _) (by omega) (by rw[Sort.size_swp];omega) R2;exact kC hn (Sort.permIn_trans _ _ _ _ _ p1 p2)
   have e:(bT n d).toList=(bT n d).toList.take n++[d[0]!]:=by
    have h1:n<(bT n d).toList.length:=by simp[hsz]
    have h2:=List.take_append_drop n (bT n d).toList;rw[List.drop_eq_getElem_cons h1,List.drop_eq_nil_of_le (by simp[hsz])]at h2;rw[←hlast,getElem!_pos (bT n d) n (by omega)]
    simpa using h2.symm
   refine hp.symm.trans ?_;rw[e,List.take_left' (by simp[hsz])];exact List.perm_append_singleton _ _
def aN (j:Nat)(d:Array Int):Array Int :=
 if _h:j=0 then d else if Sort.ltInt d[(j-1) / 2]! d[j]! =true then aN ((j-1) / 2) (Sort.swp d ((j-1) / 2) j)else d
termination_by j
decreasing_by omega
theorem iY (d:Array Int):aN 0 d=d:=by rw[aN,dif_pos rfl]
theorem iX {j:Nat}{d:Array Int}(h:Sort.ltInt d[(j-1) / 2]! d[j]! =false):aN j d=d:=by
 rw[aN]
 split
 · rfl
 · rw[if_neg (by rw[h];exact Bool.false_ne_true)]
theorem kJ {j:Nat}{d:Array Int}(hj:0<j)(h:Sort.ltInt d[(j-1) / 2]! d[j]! =true):aN j d=aN ((j-1) / 2) (Sort.swp d ((j-1) / 2) j):=by
 rw[aN,dif_neg (by omega),if_pos h]
theorem Aj (n:Nat):∀(m j:Nat) (d:Array Int),j<=m->d.size=n->j<n->(∀p k,(k=2*p+1∨k=2*p+2)->k<n->k≠j->d[k]!≤d[p]!) ->
 (0<j->∀c,(c=2*j+1∨c=2*j+2)->c<n->d[c]!≤d[(j-1) / 2]!)->Hp n (aN j d)/\Sort.PermIn 0 n d (aN j d):=by
 intro m;induction m with
 | zero =>
  intro j d hj hn hjn h1 h2;obtain rfl:j=0:=by omega
  rw[iY];refine⟨fun i hi k hk hkn=>?_,Sort.permIn_refl d _ _⟩;have:=h1 i k hk hkn (by omega);rw[Nat.zero_add,Nat.zero_add];simp only[Sort.ltInt,decide_eq_false_iff_not];omega
 | succ m ih =>
  intro j d hj hn hjn h1 h2;by_cases h0:j=0
  · exact ih j d (by omega) hn hjn h1 h2
  · cases hlt:Sort.ltInt d[(j-1) / 2]! d[j]! with
    | false =>
     rw[iX hlt];refine⟨fun i hi k hk hkn=>?_,Sort.permIn_refl d _ _⟩;rw[Nat.zero_add,Nat.zero_add];by_cases hkj:k=j
     · subst hkj;rw[show i=(k-1) / 2 by omega];exact hlt
     · have:=h1 i k hk hkn hkj;simp only[Sort.ltInt,decide_eq_false_iff_not];omega
    | true =>
     rw[kJ (by omega) hlt];simp only[Sort.ltInt,decide_eq_true_eq]at hlt;obtain⟨i,hi⟩:∃i,(j-1) / 2=i:=⟨_,rfl⟩
     rw[hi]at hlt ⊢;have hij:i≠j:=by omega
     have gi:(Sort.swp d i j)[i]! =d[j]! :=Sort.swp_left d i j (by omega) hij;have gj:(Sort.swp d i j)[j]! =d[i]! :=Sort.swp_right d i j (by omega);have go:∀k,k≠i->k≠j->(Sort.swp d i j)[k]! =d[k]! :=fun k a b=>Sort.swp_other d i j k a b;have hpi:∀c,(c=2*i+1∨c=2*i+2)->c<n->c≠j->d[c]!≤d[i]! :=fun c hc hcn hcj=>h1 i c hc hcn hcj;have hgr:∀c,(c=2*j+1∨c=2*j+2)->c<n->d[c]!≤d[i]! :=fun c hc hcn=>by have:=h2 (by omega) c hc hcn;rwa [hi]at this
     have hres:=ih i (Sort.swp d i j) (by omega) (by rw[Sort.size_swp];exact hn) (by omega) (fun p k hk hkn hki=>?_) (fun h0i c hc hcn=>?_)
     · exact⟨hres.1,Sort.permIn_trans _ _ _ _ _ (Sort.swp_permIn d 0 n i j (Nat.zero_le _) (by omega) (Nat.zero_le _) hjn (by omega)) hres.2⟩
     · by_cases hkj:k=j
       · obtain rfl:p=i:=by omega
         rw[hkj,gj,gi];omega
       · rw[go k hki hkj];by_cases hpi2:p=i
         · rw[hpi2,gi];have:=hpi k (by rw[←hpi2];exact hk) hkn hkj;omega
         · by_cases hpj:p=j
           · rw[hpj,gj];exact hgr k (by rw[←hpj];exact hk) hkn
           · rw[go p hpi2 hpj];exact h1 p k hk hkn hkj
     · have hup:d[i]!≤d[(i-1) / 2]! :=h1 ((i-1) / 2) i (by omega) (by omega) hij;rw[go ((i-1) / 2) (by omega) (by omega)];by_cases hcj:c=j
       · rw[hcj,gj];exact hup
       · rw[go c (by omega) hcj];have:=hpi c hc hcn hcj;omega
theorem uN {n:Nat}{d:Array Int}(h:Hp n d)(hn:d.size=n)(x:Int):Hp (n+1) (aN n (d.push x))/\(aN n (d.push x)).toList.Perm (x :: d.toList)/\(aN n (d.push x)).size=n+1:=by
 have hs:(d.push x).size=n+1:=by simp[hn]
 have e:∀k,k<n->(d.push x)[k]! =d[k]! :=fun k hk=>by
  rw[getElem!_pos _ k (by omega),getElem!_pos d k (by omega),Array.getElem_push_lt]
 have hr:=Aj (n+1) n n (d.push x) (Nat.le_refl _) hs (by omega) (fun p k hk hkn hki=>by
  rw[e k (by omega),e p (by omega)];have:=h p (by omega) k hk (by omega);rw[Nat.zero_add,Nat.zero_add]at this;simp only[Sort.ltInt,decide_eq_false_iff_not]at this;omega) (fun _ c hc hcn=>by omega)
 refine⟨hr.1,?_,by rw[zD hr.2,hs]⟩;have:=kC hs hr.2;rw[Array.toList_push]at this;exact this.trans (List.perm_append_singleton _ _)
end Go.Proofs.YtbnlhdnnenahfaaGreatDoor
namespace Go.Proofs.YtbnlhdnnenahfaaGreatDoor
def spC (t a b:Int):Int:= -((t*1099511627776+(a+549755813888))*1099511627776+(b+549755813888))
def sp0 (x:Int):Int:=(-x) / 1099511627776 / 1099511627776
def sp1 (x:Int):Int:=(-x) / 1099511627776%1099511627776-549755813888
def sp2 (x:Int):Int:=(-x)%1099511627776-549755813888
theorem JD (t:Int){a b:Int}(ha: -549755813888<=a/\a<549755813888)(hb: -549755813888<=b/\b<549755813888):sp0 (spC t a b)=t/\sp1 (spC t a b)=a/\sp2 (spC t a b)=b:=by
 unfold sp0 sp1 sp2 spC;omega
theorem jl (x:Int):spC (sp0 x) (sp1 x) (sp2 x)=x:=by
 unfold sp0 sp1 sp2 spC;omega
theorem Al (x:Int):(-549755813888<=sp1 x/\sp1 x<549755813888)/\(-549755813888<=sp2 x/\sp2 x<549755813888):=by
 unfold sp1 sp2;omega
theorem ID {x y:Int}(h0:sp0 x=sp0 y)(h1:sp1 x=sp1 y)(h2:sp2 x=sp2 y):x=y:=by
 rw[←jl x,←jl y,h0,h1,h2]
def dd (a b:Int):Int:=if a<b then -1 else if b<a then 1 else 0
def vT (x y:Int):Int:=if dd (sp0 x) (sp0 y)≠0 then dd (sp0 x) (sp0 y)else if dd (sp1 x) (sp1 y)≠0 then dd (sp1 x) (sp1 y)else dd (sp2 x) (sp2 y)
theorem mi (a b:Int):dd a b<0↔a<b:=by unfold dd;split <;>(try split) <;>omega
theorem o9 (a b:Int):dd a b=0↔a=b:=by unfold dd;split <;>(try split) <;>omega
theorem EE (x y:Int):decide (vT x y<0)=Sort.ltInt y x:=by
 unfold Sort.ltInt;have bx:=Al x;have by':=Al y;have ex:=jl x;have ey:=jl y;unfold spC at ex ey;have k0:=mi (sp0 x) (sp0 y);have k1:=mi (sp1 x) (sp1 y);have k2:=mi (sp2 x) (sp2 y);have z0:=o9 (sp0 x) (sp0 y);have z1:=o9 (sp1 x) (sp1 y);unfold vT;rw[decide_eq_decide];by_cases h0:dd (sp0 x) (sp0 y)=0
 · rw[if_neg (by omega)];by_cases h1:dd (sp1 x) (sp1 y)=0
   · rw[if_neg (by omega)];omega
   · rw[if_pos h1];omega
 · rw[if_pos h0];omega
def bm (K d:Nat)(a b:Int):Int:=spC (plc K d a b) a b
def bP (a b:Int):Prop:=(-500000000<=a/\a<=500000000)/\(-500000000<=b/\b<=500000000)
theorem lC {K d:Nat}{a b:Int}(h:bP a b):sp0 (bm K d a b)=plc K d a b/\sp1 (bm K d a b)=a/\sp2 (bm K d a b)=b:=by
 unfold bP at h;exact JD _ (by omega) (by omega)
theorem GC {K d:Nat}{a b a' b':Int}(h:bP a b)(h':bP a' b')(hp:plc K d a b<plc K d a' b'):bm K d a' b'<bm K d a b:=by
 unfold bP at h h';unfold bm spC;omega
structure Swp (K d:Nat) (l1 l2 u1 u2:Int) (S F:List (Int×Int)) (H:List Int):Prop where
 near:∀x∈H,bP (sp1 x) (sp2 x)/\sp0 x=plc K d (sp1 x) (sp2 x)
 tou:∀p∈F,Tou K l1 l2 u1 u2 p.1 p.2
 one:F.Nodup
 past:∀p∈F,∀x∈H,x<bm K d p.1 p.2
 from_:∀p∈S,Tou K l1 l2 u1 u2 p.1 p.2->p∈F∨bm K d p.1 p.2∈H
 on:∀p∈F,∀i,i<6->0<plc K d (uA i) (uB i)->Tou K l1 l2 u1 u2 (p.1+uA i) (p.2+uB i)->(p.1+uA i,p.2+uB i)∈F∨bm K d (p.1+uA i) (p.2+uB i)∈H
def Tight (K:Nat)(l1 l2 u1 u2:Int):Prop:=∀a b,Tou K l1 l2 u1 u2 a b->(-400000000<=a/\a<=400000000)/\(-400000000<=b/\b<=400000000)
theorem Tight.near {K:Nat}{l1 l2 u1 u2 a b:Int}(h:Tight K l1 l2 u1 u2)(ht:Tou K l1 l2 u1 u2 a b):bP a b:=by
 have:=h a b ht;unfold bP;omega
theorem xU (i:Nat):(-1<=uA i/\uA i<=1)/\(-1<=uB i/\uB i<=1):=by
 unfold uA uB;constructor <;>(split <;>(try split) <;>(try split) <;>(try split) <;>(try split) <;>omega)
theorem Tight.beside {K:Nat}{l1 l2 u1 u2 a b:Int}(h:Tight K l1 l2 u1 u2)(ht:Tou K l1 l2 u1 u2 a b)(i:Nat):bP (a+uA i) (b+uB i):=by
 have:=h a b ht;have:=xU i;unfold bP;omega
theorem l8 {K:Nat}{r l1 l2 u1 u2:Int}(hK:K<=12)(hr:12-r=(K:Int))(h1:0<=l1)(h2:0<=l2)(h3:u1<1073741824)(h4:u2<1073741824):Tight K l1 l2 u1 u2:=fun _ _ h=>ce (fQ hK hr h1 h2 h3 h4 h)
theorem Swp.at_spot {K d:Nat}{l1 l2 u1 u2:Int}{S F:List (Int×Int)}{H:List Int}(h:Swp K d l1 l2 u1 u2 S F H){x:Int}(hx:x∈H):bm K d (sp1 x) (sp2 x)=x:=by
 have:=(h.near x hx).2;unfold bm;rw[←this];exact jl x
theorem qb {K d:Nat}{a b x:Int}(h:bP a b)(e:bm K d a b=x):sp1 x=a/\sp2 x=b:=by
 rw[←e];exact(lC h).2
theorem Aq {K d:Nat}{l1 l2 u1 u2:Int}{S:List (Int×Int)}{H:List Int}(hS:∀p∈S,bP p.1 p.2)(hH:H.Perm (S.map fun p=>bm K d p.1 p.2)):Swp K d l1 l2 u1 u2 S [] H:=by
 refine⟨fun x hx=>?_,fun p hp=>by simp at hp,List.nodup_nil,fun p hp=>by simp at hp,fun p hp _=>.inr ?_,fun p hp=>by simp at hp⟩
 · obtain⟨p,hp,rfl⟩:=List.mem_map.1 (hH.mem_iff.1 hx);have e:=lC (K:=K) (d:=d) (hS p hp);rw[e.1,e.2.1,e.2.2];exact⟨hS p hp,rfl⟩
 · exact hH.mem_iff.2 (List.mem_map.2 ⟨p,hp,rfl⟩)
theorem DI {K d:Nat}{l1 l2 u1 u2:Int}{S F:List (Int×Int)}{H H':List Int}{x:Int}(hT:Tight K l1 l2 u1 u2)(h:Swp K d l1 l2 u1 u2 S F H)(hH:∀y,y∈H'->y∈H)(hH2:∀y∈H,y=x∨y∈H')(hn:¬Tou K l1 l2 u1 u2 (sp1 x) (sp2 x)):Swp K d l1 l2 u1 u2 S F H':=by
 have key:∀a b,Tou K l1 l2 u1 u2 a b->bm K d a b∈H->bm K d a b∈H':=fun a b ht hm=>by
  rcases hH2 _ hm with e | e
  · have k:=qb (hT.near ht) e;rw[k.1,k.2]at hn;exact absurd ht hn
  · exact e
 exact⟨fun y hy=>h.near y (hH y hy),h.tou,h.one,fun p hp y hy=>h.past p hp y (hH y hy),fun p hp ht=>(h.from_ p hp ht).imp id (key _ _ ht),fun p hp i hi hc ht=>(h.on p hp i hi hc ht).imp id (key _ _ ht)⟩
def onw (K d:Nat):List Nat:=(List.range 6).filter fun i=>decide (0<plc K d (uA i) (uB i))
theorem oG {K d i:Nat}:i∈onw K d↔i<6/\0<plc K d (uA i) (uB i):=by
 unfold onw;rw[List.mem_filter,List.mem_range,decide_eq_true_eq]
theorem Fz (K d:Nat):(onw K d).length<=6:=by
 unfold onw;exact Nat.le_trans (List.length_filter_le _ _) (by simp)
theorem DJ {K d:Nat}{l1 l2 u1 u2:Int}{S F:List (Int×Int)}{H H' G:List Int}{x:Int}(hT:Tight K l1 l2 u1 u2)(h:Swp K d l1 l2 u1 u2 S F H)(hx:x∈H)(hH:∀y,y∈H'->y∈H/\y<x)(hH2:∀y∈H,y=x∨y∈H')(ht:Tou K l1 l2 u1 u2 (sp1 x) (sp2 x))
 (hG:G.Perm ((onw K d).map (fun i=>bm K d (sp1 x+uA i) (sp2 x+uB i))++H')):Swp K d l1 l2 u1 u2 S (F++[(sp1 x,sp2 x)]) G:=by
 have ex:=h.at_spot hx;have inG:∀y,y∈G↔(∃i,i<6/\0<plc K d (uA i) (uB i)/\y=bm K d (sp1 x+uA i) (sp2 x+uB i))∨y∈H':=fun y=>by
  rw[hG.mem_iff,List.mem_append,List.mem_map];constructor
  · rintro(⟨i,hi,rfl⟩ | k)
    · have:=oG.1 hi;exact .inl ⟨i,this.1,this.2,rfl⟩
    · exact .inr k
  · rintro(⟨i,hi,hc,rfl⟩ | k)
    · exact .inl ⟨i,oG.2 ⟨hi,hc⟩,rfl⟩
    · exact .inr k
 have less:∀y∈G,y<x:=fun y hy=>by
  rcases(inG y).1 hy with⟨i,hi,hc,rfl⟩ | k
  · have:=GC (K:=K) (d:=d) (hT.near ht) (hT.beside ht i) (by rw[oM];omega);omega
  · exact(hH y k).2
 have key:∀a b,Tou K l1 l2 u1 u2 a b->bm K d a b∈H->(a,b)∈F++[(sp1 x,sp2 x)]∨bm K d a b∈G:=fun a b htt hm=>by
  rcases hH2 _ hm with e | e
  · have k:=qb (hT.near htt) e;rw[←k.1,←k.2];exact .inl (by simp)
  · exact .inr ((inG _).2 (.inr e))
 refine⟨fun y hy=>?_,fun p hp=>?_,?_,fun p hp y hy=>?_,fun p hp htt=>?_,fun p hp i hi hc htt=>?_⟩
 · rcases(inG y).1 hy with⟨i,hi,hc,rfl⟩ | k
   · have e:=lC (K:=K) (d:=d) (hT.beside ht i);rw[e.1,e.2.1,e.2.2];exact⟨hT.beside ht i,rfl⟩
   · exact h.near y (hH y k).1
 · rcases List.mem_append.1 hp with k | k
   · exact h.tou p k
   · rw[List.mem_singleton.1 k];exact ht
 · refine List.nodup_append.2 ⟨h.one,by simp,fun p hp q hq=>?_⟩;rw[List.mem_singleton.1 hq];intro e;have:=h.past p hp x hx;rw[e]at this;rw[ex]at this;exact Int.lt_irrefl _ this
 · rcases List.mem_append.1 hp with k | k
   · exact Int.lt_trans (less y hy) (h.past p k x hx)
   · rw[List.mem_singleton.1 k,ex];exact less y hy
 · rcases h.from_ p hp htt with k | k
   · exact .inl (List.mem_append.2 (.inl k))
   · exact key _ _ htt k
 · rcases List.mem_append.1 hp with k | k
   · rcases h.on p k i hi hc htt with k | k
     · exact .inl (List.mem_append.2 (.inl k))
     · exact key _ _ htt k
   · rw[List.mem_singleton.1 k];exact .inr ((inG _).2 (.inl ⟨i,hi,hc,rfl⟩))
theorem sz {K d:Nat}(hK:K<=12)(hd:d<=1){r l1 l2 u1 u2:Int}(hr:12-r=(K:Int))(h1:0<=l1)(h2:0<=l2)(h3:u1<1073741824)(h4:u2<1073741824){S F:List (Int×Int)}(h:Swp K d l1 l2 u1 u2 S F [])
 (hS:∀a b,Tou K l1 l2 (sdX d l1 u1) (sdX (1-d) l2 u2) a b->Tou K l1 l2 u1 u2 a b->(a,b)∈S) (a b:Int):Tou K l1 l2 u1 u2 a b↔(a,b)∈F :=
 ⟨Ap hK hd hr h1 h2 h3 h4 (fun a b=>(a,b)∈F) (fun a b hs ht=>(h.from_ (a,b) (hS a b hs ht) ht).elim id fun k=>absurd k (by simp))
   (fun a b i hi hc _ hp ht'=>(h.on (a,b) hp i hi hc ht').elim id fun k=>absurd k (by simp)) a b,fun hp=>h.tou (a,b) hp⟩
end Go.Proofs.YtbnlhdnnenahfaaGreatDoor
namespace Go.Proofs.YtbnlhdnnenahfaaGreatDoor
open Go.RowKit
def IE (x:Int):List Value:=[.int .i64 (sp0 x),.int .i64 (sp1 x),.int .i64 (sp2 x)]
def bY (L:List Int):List Value:=L.flatMap IE
theorem dX (x:Int)(L:List Int):bY (x :: L)=.int .i64 (sp0 x) :: .int .i64 (sp1 x) :: .int .i64 (sp2 x) :: bY L:=rfl
theorem jw:bY []=[]:=rfl
theorem BC (L M:List Int):bY (L++M)=bY L++bY M:=by unfold bY;rw[List.flatMap_append]
theorem BH (x:Int):bY [x]=[.int .i64 (sp0 x),.int .i64 (sp1 x),.int .i64 (sp2 x)]:=by unfold bY;simp[IE]
theorem jv:∀L:List Int,(bY L).length=L.length*3
 | []=>rfl
 | x :: L=>by rw[dX];simp only[List.length_cons,jv L];omega
theorem uI:∀(L:List Int) (i:Nat) (h:i<L.length),(bY L)[i*3]?=some (.int .i64 (sp0 L[i]))/\(bY L)[i*3+1]?=some (.int .i64 (sp1 L[i]))/\(bY L)[i*3+2]?=some (.int .i64 (sp2 L[i]))
 | x :: L,0,_=>by rw[dX];exact⟨rfl,rfl,rfl⟩
 | x :: L,i+1,h=>by
  rw[dX,show(i+1)*3=i*3+1+1+1 by omega];have:=uI L i (by simpa using h);simp only[List.getElem?_cons_succ,List.getElem_cons_succ];exact this
theorem rd:∀(L:List Int) (i:Nat) (x:Int),(((bY L).set (i*3) (.int .i64 (sp0 x))).set (i*3+1) (.int .i64 (sp1 x))).set (i*3+2) (.int .i64 (sp2 x))=bY (L.set i x)
 | [],_,_=>by simp[jw]
 | y :: L,0,x=>rfl
 | y :: L,i+1,x=>by
  rw[dX,show(i+1)*3=i*3+1+1+1 by omega];simp only[List.set_cons_succ];rw[rd L i x,dX]
theorem yY (L:List Int)(m:Nat):(bY L).take (m*3)=bY (L.take m):=by
 induction L generalizing m with
 | nil=>simp[jw]
 | cons x L ih =>
  cases m with
  | zero=>simp[jw]
  | succ m =>
   rw[dX,show(m+1)*3=m*3+1+1+1 by omega];simp only[List.take_succ_cons];rw[ih m,dX]
theorem DH (d:Array Int)(i j:Nat):(Sort.swp d i j).toList=(d.toList.set i d[j]!).set j d[i]! :=by
 unfold Sort.swp;rw[Array.toList_setIfInBounds,Array.toList_setIfInBounds]
def gD (N:List Int)(p:Int):Prop:=∀d:Nat,d<=6->chW p d∈N
def Lev (r n:Nat)(S D N:List Int):Prop :=
 (∀x∈D,Whole x/\(n:Int)<wR x/\wR x<=(r:Int))/\aq N/\(∀x∈N,Whole x/\wR x=(n:Int))/\qw (D++N)/\gX D/\∀x,Whole x->wR x=(r:Int)->(Cov (D++N) x↔x∈S)
theorem qO {S:List Int}{r:Nat}(hS:∀x∈S,Whole x/\wR x=(r:Int)){x:Int}(hx:Whole x)(hr:wR x=(r:Int)):Cov S x↔x∈S:=by
 constructor
 · rintro⟨p,hp,ha⟩;have:=ha.eq hx (by rw[(hS p hp).2,hr]);subst this;exact hp
 · intro h;exact⟨x,h,cQ x⟩
theorem o7 {S:List Int}{r:Nat}(hS:∀x∈S,Whole x/\wR x=(r:Int)):qw S:=fun p hp q hq ha=>ha.eq (hS q hq).1 (by rw[(hS p hp).2,(hS q hq).2])
theorem Lev.start {r:Nat}{S N:List Int}(hR:aq N)(hm:∀x,x∈N↔x∈S)(hS:∀x∈S,Whole x/\wR x=(r:Int)):Lev r r S [] N:=by
 have hN:∀x∈N,Whole x/\wR x=(r:Int):=fun x hx=>hS x ((hm x).1 hx);refine⟨fun x hx=>by simp at hx,hR,hN,o7 hN,fun v hv hr h=>by have:=h 0 (by omega);simp at this,fun x hx hr=>?_⟩;rw[List.nil_append,qO hN hx hr,hm x]
theorem BN {N:List Int}{p x:Int}(hf:gD N p)(hx:Whole x)(ha:Above p x)(hs:wR p<wR x):Cov N x:=by
 obtain⟨d,hd,hk⟩:=fx hx ha hs;exact⟨chW p d,hf d hd,hk⟩
theorem Lev.step {r n:Nat}(hn:n+1<=r)(hr12:r<=12){S D N D' N':List Int}(h:Lev r (n+1) S D N)(hD':∀x,x∈D'↔x∈D∨(x∈N/\¬gD N (upW x)))(hR:aq N')(hN':∀p,p∈N'↔∃x∈N,gD N (upW x)/\p=upW x) :
 Lev r n S D' N':=by
 obtain⟨h1,h2,h3,h4,h5,h6⟩:=h;have kN':∀p∈N',Whole p/\wR p=(n:Int)/\gD N p:=fun p hp=>by
  obtain⟨x,hx,hf,rfl⟩:=(hN' p).1 hp;have hw:=h3 x hx;have hu:=bh hw.1 (by omega);exact⟨hu.1,by rw[hu.2,hw.2];omega,hf⟩
 have kD':∀x∈D',Whole x/\(n:Int)<wR x/\wR x<=(r:Int):=fun x hx=>by
  rcases(hD' x).1 hx with hx | ⟨hx,_⟩
  · have:=h1 x hx;exact⟨this.1,by omega,this.2.2⟩
  · have:=h3 x hx;exact⟨this.1,by omega,by omega⟩
 have sub:∀x∈D',x∈D++N:=fun x hx=>by
  rcases(hD' x).1 hx with hx | ⟨hx,_⟩
  · exact List.mem_append_left _ hx
  · exact List.mem_append_right _ hx
 have kid_in:∀p∈N',∀d:Nat,d<=6->chW p d∈D++N:=fun p hp d hd=>List.mem_append_right _ ((kN' p hp).2.2 d hd);have apart:∀p∈N',∀q∈D',¬Above p q:=fun p hp q hq ha=>by
  have hp':=kN' p hp;have hq':=kD' q hq;obtain⟨d,hd,hk⟩:=fx hq'.1 ha (by omega);have e:=h4 _ (kid_in p hp d hd) _ (sub q hq) hk;have hw:=bJ hp'.1 (by omega) hd;rcases(hD' q).1 hq with hq2 | ⟨hq2,hnf⟩
  · have:=h1 q hq2;rw[←e,hw.2.1]at this;omega
  · rw[←e,hw.2.2.1]at hnf;exact hnf hp'.2.2
 refine⟨kD',hR,fun p hp=>⟨(kN' p hp).1,(kN' p hp).2.1⟩,?_,?_,?_⟩
 · intro p hp q hq ha;rcases List.mem_append.1 hp with hp | hp <;>rcases List.mem_append.1 hq with hq | hq
   · exact h4 p (sub p hp) q (sub q hq) ha
   · have a:=kD' p hp;have b:=kN' q hq;have:=ha.size b.1;omega
   · exact absurd ha (apart p hp q hq)
   · exact ha.eq (kN' q hq).1 (by rw[(kN' p hp).2.1,(kN' q hq).2.1])
 · intro v hv hvr hall;have k0:=bJ hv hvr (d:=0) (by omega);by_cases hvn:wR v=(n:Int)
   · have hN:gD N v:=fun d hd=>by
      have kd:=bJ hv hvr hd;rcases(hD' _).1 (hall d hd)with hx | ⟨hx,_⟩
      · have:=h1 _ hx;rw[kd.2.1]at this;omega
      · exact hx
     rcases(hD' _).1 (hall 0 (by omega))with hx | ⟨hx,hnf⟩
     · have:=h1 _ hx;rw[k0.2.1]at this;omega
     · rw[k0.2.2.1]at hnf;exact hnf hN
   · refine h5 v hv hvr fun d hd=>?_;have kd:=bJ hv hvr hd;rcases(hD' _).1 (hall d hd)with hx | ⟨hx,_⟩
     · exact hx
     · have:=h3 _ hx;rw[kd.2.1]at this;omega
 · intro x hx hxr;rw[←h6 x hx hxr];constructor
   · rintro⟨p,hp,ha⟩;rcases List.mem_append.1 hp with hp | hp
     · exact⟨p,sub p hp,ha⟩
     · have hp':=kN' p hp;obtain⟨q,hq,hqa⟩:=BN hp'.2.2 hx ha (by omega);exact⟨q,List.mem_append_right _ hq,hqa⟩
   · rintro⟨p,hp,ha⟩;rcases List.mem_append.1 hp with hp | hp
     · exact⟨p,List.mem_append_left _ ((hD' p).2 (.inl hp)),ha⟩
     · by_cases hf:gD N (upW p)
       · have hw:=h3 p hp;have hu:=bh hw.1 (by omega);exact⟨upW p,List.mem_append_right _ ((hN' _).2 ⟨p,hp,hf,rfl⟩),(ib hw.1 (by omega) (cQ _)).trans ha hx⟩
       · exact⟨p,List.mem_append_left _ ((hD' p).2 (.inr ⟨hp,hf⟩)),ha⟩
theorem Lev.done {r n:Nat}{S D N P:List Int}(h:Lev r n S D N)(hn:n<=r)(he:n=0∨N=[])(hR:aq P)(hP:∀x,x∈P↔x∈D++N):Packed r S P:=by
 obtain⟨h1,h2,h3,h4,h5,h6⟩:=h;refine⟨hR,fun x hx=>?_,fun p hp q hq ha=>h4 p ((hP p).1 hp) q ((hP q).1 hq) ha,fun v hv hvr hall=>?_,fun x hx hxr=>?_⟩
 · rcases List.mem_append.1 ((hP x).1 hx)with hx | hx
   · exact⟨(h1 x hx).1,(h1 x hx).2.2⟩
   · exact⟨(h3 x hx).1,by rw[(h3 x hx).2];omega⟩
 · refine h5 v hv hvr fun d hd=>?_;have kd:=bJ hv hvr hd;have hb:=aE v;rcases List.mem_append.1 ((hP _).1 (hall d hd))with hx | hx
   · exact hx
   · rcases he with rfl | rfl
     · have:=(h3 _ hx).2;rw[kd.2.1]at this;omega
     · simp at hx
 · rw[←h6 x hx hxr];constructor
   · rintro⟨p,hp,ha⟩;exact⟨p,(hP p).1 hp,ha⟩
   · rintro⟨p,hp,ha⟩;exact⟨p,(hP p).2 hp,ha⟩
def ja (L:List Int):Prop:=L.Pairwise fun a b=>b<a
theorem tq {L:List Int}(h:ja L):aq L.reverse:=by
 unfold aq;rw[List.pairwise_reverse];exact h
theorem jY {L:List Int}(h:ja L):L.Nodup:=h.imp fun {a b} hab=>by omega
def Joi (r:Nat)(S J H:List Int):Prop :=
 ja J/\H.Nodup/\jc r (J++H)/\(∀h∈H,∀j∈J,h<j)/\qw (J++H)/\gX J/\(∀h∈H,∀j∈J,0<wR h->wR h=wR j->upW h≠upW j)/\(∀x,Whole x->wR x=(r:Int)->(Cov (J++H) x↔x∈S))/\J.length+H.length<=S.length
theorem Joi.start {r:Nat}{S H:List Int}(hR:aq H)(hm:∀x,x∈H↔x∈S)(hS:∀x∈S,Whole x/\wR x=(r:Int))(hl:H.length<=S.length):Joi r S [] H:=by
 have hH:∀x∈H,Whole x/\wR x=(r:Int):=fun x hx=>hS x ((hm x).1 hx);refine⟨List.Pairwise.nil,dE hR,fun x hx=>⟨(hH x hx).1,by rw[(hH x hx).2];exact Int.le_refl _⟩,fun h _ j hj=>by simp at hj,o7 hH,fun v hv hr h=>by have:=h 0 (by omega);simp at this,
  fun h _ j hj=>by simp at hj,fun x hx hr=>?_,by simpa using hl⟩
 rw[List.nil_append,qO hH hx hr,hm x]
theorem Joi.perm {r:Nat}{S J H K:List Int}(h:Joi r S J H)(p:H.Perm K):Joi r S J K:=by
 obtain⟨h1,h2,h3,h4,h5,h6,h7,h8,h9⟩:=h;have m:∀x,x∈J++K↔x∈J++H:=fun x=>by rw[List.mem_append,List.mem_append,p.mem_iff]
 refine⟨h1,p.nodup_iff.1 h2,fun x hx=>h3 x ((m x).1 hx),fun y hy j hj=>h4 y (p.mem_iff.2 hy) j hj,fun a ha b hb hab=>h5 a ((m a).1 ha) b ((m b).1 hb) hab,h6,fun y hy j hj=>h7 y (p.mem_iff.2 hy) j hj,fun x hx hr=>?_,by rw[←p.length_eq];exact h9⟩;rw[←h8 x hx hr];constructor
 · rintro⟨q,hq,ha⟩;exact⟨q,(m q).1 hq,ha⟩
 · rintro⟨q,hq,ha⟩;exact⟨q,(m q).2 hq,ha⟩
def Bro (H B:List Int)(u:Int)(H':List Int):Prop :=
 H.Perm (B++H')/\ja B/\(∀b∈B,∀h∈H',h<b)/\((u=0/\∃m,B=[m]/\wR m=0)∨(u≠0/\B≠[]/\(∀b∈B,0<wR b/\upW b=u)/\∀h∈H',¬(0<wR h/\upW h=u)))
theorem og {B:List Int}{u:Int}(hB:B.Nodup)(hk:∀b∈B,b∈fN u):B.length<=7/\(B.length=7↔∀d:Nat,d<=6->chW u d∈B):=by
 have e:B.length=((fN u).filter fun x=>decide (x∈B)).length:=ql hB ((rt u).filter _) fun x=>by
  rw[List.mem_filter,decide_eq_true_eq];exact⟨fun h=>⟨hk x h,h⟩,fun h=>h.2⟩
 have hl:=List.length_filter_le (fun x=>decide (x∈B)) (fN u);rw[nt]at hl;refine⟨by omega,?_⟩;rw[e,←nt u,List.length_filter_eq_length_iff];constructor
 · intro h d hd;exact of_decide_eq_true (h _ (gM.2 ⟨d,hd,rfl⟩))
 · intro h x hx;obtain⟨d,hd,rfl⟩:=gM.1 hx;exact decide_eq_true (h d hd)
theorem Joi.keep {r:Nat}{S J H B H':List Int}{u:Int}(h:Joi r S J H)(hb:Bro H B u H')(h7:B.length≠7):Joi r S (J++B) H':=by
 obtain⟨b1,b2,b3,b4⟩:=hb;obtain⟨h1,h2,h3,h4,h5,h6,h7',h8,h9⟩:=h.perm b1;have m:∀x,x∈J++B++H'↔x∈J++(B++H'):=fun x=>by simp only[List.mem_append];exact or_assoc
 have hBw:∀b∈B,Whole b/\wR b<=(r:Int):=fun b hb=>h3 b (by simp[hb]);have nd:=List.nodup_append.1 h2;refine⟨List.pairwise_append.2 ⟨h1,b2,fun j hj b hb=>h4 b (by simp[hb]) j hj⟩,nd.2.1,fun x hx=>h3 x ((m x).1 hx),fun y hy j hj=>?_,fun a ha b hb hab=>h5 a ((m a).1 ha) b ((m b).1 hb) hab,?_,fun y hy j hj hy0 hs=>?_,fun x hx hxr=>?_,?_⟩
 · rcases List.mem_append.1 hj with hj | hj
   · exact h4 y (by simp[hy]) j hj
   · exact b3 j hj y hy
 · intro v hv hvr hall;by_cases hB:∃d:Nat,d<=6/\chW v d∈B
   · obtain⟨d0,hd0,hB0⟩:=hB;have k0:=bJ hv hvr hd0;have hv0:=aE v;rcases b4 with⟨_,m0,rfl,hm0⟩ | ⟨hu,hne,hpar,hrest⟩
     · rw[List.mem_singleton]at hB0;rw[←hB0,k0.2.1]at hm0;omega
     · have hvu:v=u:=by rw[←k0.2.2.1];exact(hpar _ hB0).2
       subst hvu;refine h7 ((og (u:=v) (jY b2) fun b hb=>?_).2.2 fun d hd=>?_)
       · obtain⟨e,he,hbe⟩:=gw (hBw b hb).1 (hpar b hb).1;rw[(hpar b hb).2]at hbe;exact gM.2 ⟨e,he,hbe⟩
       · rcases List.mem_append.1 (hall d hd)with hx | hx
         · have kd:=bJ hv hvr hd;exact absurd (by rw[k0.2.2.1,kd.2.2.1]) (h7' _ (List.mem_append_left _ hB0) _ hx (hpar _ hB0).1 (by rw[k0.2.1,kd.2.1]))
         · exact hx
   · refine h6 v hv hvr fun d hd=>?_;rcases List.mem_append.1 (hall d hd)with hx | hx
     · exact hx
     · exact absurd ⟨d,hd,hx⟩ hB
 · rcases List.mem_append.1 hj with hj | hj
   · exact h7' y (by simp[hy]) j hj hy0 hs
   · rcases b4 with⟨_,m0,rfl,hm0⟩ | ⟨hu,hne,hpar,hrest⟩
     · rw[List.mem_singleton]at hj;subst hj;omega
     · intro e;exact hrest y hy ⟨hy0,by rw[e];exact(hpar j hj).2⟩
 · rw[←h8 x hx hxr];constructor
   · rintro⟨q,hq,ha⟩;exact⟨q,(m q).1 hq,ha⟩
   · rintro⟨q,hq,ha⟩;exact⟨q,(m q).2 hq,ha⟩
 · rw[List.length_append]at h9 ⊢;omega
theorem Joi.lift {r:Nat}{S J H B H':List Int}{u:Int}(h:Joi r S J H)(hb:Bro H B u H')(h7:B.length=7):Joi r S J (u :: H')/\Whole u:=by
 obtain⟨b1,b2,b3,b4⟩:=hb;obtain⟨h1,h2,h3,h4,h5,h6,h7',h8,h9⟩:=h.perm b1;have hBw:∀b∈B,Whole b/\wR b<=(r:Int):=fun b hb=>h3 b (by simp[hb]);have nd:=List.nodup_append.1 h2;rcases b4 with⟨_,m0,rfl,hm0⟩ | ⟨hu,hne,hpar,hrest⟩
 · simp at h7
 have hall:∀d:Nat,d<=6->chW u d∈B:=(og (u:=u) (jY b2) fun b hb=>by
  obtain⟨e,he,hbe⟩:=gw (hBw b hb).1 (hpar b hb).1;rw[(hpar b hb).2]at hbe;exact gM.2 ⟨e,he,hbe⟩).2.1 h7
 have k0:=hpar _ (hall 0 (by omega));have w0:=hBw _ (hall 0 (by omega));have hu0:=bh w0.1 k0.1;rw[k0.2]at hu0;have hWu:=hu0.1;have h12:=w0.1.2.1;have hur:wR u<12:=by omega
 have kid:∀d:Nat,d<=6->chW u d∈J++(B++H'):=fun d hd=>List.mem_append_right _ (List.mem_append_left _ (hall d hd));have hub:∀d:Nat,d<=6->Above u (chW u d):=fun d hd=>j9 hWu hur hd;have hult:u<chW u 0:=(bJ hWu hur (d:=0) (by omega)).2.2.2;have nk:∀x,x∈J∨x∈H'->∀d:Nat,d<=6->x≠chW u d:=fun x hx d hd e=>by
  subst e;rcases hx with hx | hx
  · have:=h4 _ (List.mem_append_left _ (hall d hd)) _ hx;omega
  · have:=b3 _ (hall d hd) _ hx;omega
 have mem_old:∀x,x∈J∨x∈H'->x∈J++(B++H'):=fun x hx=>by
  rcases hx with hx | hx
  · exact List.mem_append_left _ hx
  · simp[hx]
 have up_no:∀x,x∈J∨x∈H'->¬Above u x:=fun x hx ha=>by
  have hxw:=h3 x (mem_old x hx);by_cases he:wR u=wR x
  · have:=ha.eq hxw.1 he;subst this;have:=h5 _ (mem_old _ hx) _ (kid 0 (by omega)) (hub 0 (by omega));exact nk _ hx 0 (by omega) this
  · have:=ha.size hxw.1;obtain⟨d,hd,hk⟩:=fx hxw.1 ha (by omega);exact nk x hx d hd (h5 _ (kid d hd) _ (mem_old x hx) hk).symm
 have no_up:∀x,x∈J∨x∈H'->¬Above x u:=fun x hx ha=>nk x hx 0 (by omega) (h5 _ (mem_old x hx) _ (kid 0 (by omega)) (ha.trans (hub 0 (by omega)) w0.1));have cases':∀x,x∈J++u :: H'->x=u∨(x∈J∨x∈H'):=fun x hx=>by
  rcases List.mem_append.1 hx with hx | hx
  · exact .inr (.inl hx)
  · rcases List.mem_cons.1 hx with hx | hx
    · exact .inl hx
    · exact .inr (.inr hx)
 refine⟨⟨h1,List.nodup_cons.2 ⟨fun hm=>up_no u (.inr hm) (cQ u),nd.2.1⟩,fun x hx=>?_,fun y hy j hj=>?_,fun a ha b hb hab=>?_,h6,fun y hy j hj hy0 hs=>?_,fun x hx hxr=>?_,?_⟩,hWu⟩
 · rcases cases' x hx with rfl | hx
   · exact⟨hWu,by omega⟩
   · exact h3 x (mem_old x hx)
 · rcases List.mem_cons.1 hy with rfl | hy
   · have:=h4 _ (List.mem_append_left _ (hall 0 (by omega))) j hj;omega
   · exact h4 y (by simp[hy]) j hj
 · rcases cases' a ha with ea | ha2
   · rcases cases' b hb with eb | hb2
     · rw[ea,eb]
     · exact absurd (ea ▸ hab) (up_no b hb2)
   · rcases cases' b hb with eb | hb2
     · exact absurd (eb ▸ hab) (no_up a ha2)
     · exact h5 a (mem_old a ha2) b (mem_old b hb2) hab
 · rcases List.mem_cons.1 hy with rfl | hy
   · have hlt:=h4 _ (List.mem_append_left _ (hall 0 (by omega))) j hj;have hjw:=h3 j (List.mem_append_left _ hj);have:=iF w0.1 hjw.1 (by omega);omega
   · exact h7' y (by simp[hy]) j hj hy0 hs
 · rw[←h8 x hx hxr];constructor
   · rintro⟨q,hq,ha⟩;rcases cases' q hq with rfl | hq
     · by_cases he:wR q=wR x
       · have:=hBw _ (hall 0 (by omega));omega
       · have:=ha.size hx;obtain⟨d,hd,hk⟩:=fx hx ha (by omega);exact⟨_,kid d hd,hk⟩
     · exact⟨q,mem_old q hq,ha⟩
   · rintro⟨q,hq,ha⟩;rcases List.mem_append.1 hq with hq | hq
     · exact⟨q,List.mem_append_left _ hq,ha⟩
     · rcases List.mem_append.1 hq with hq | hq
       · have hk:=hpar q hq;have hu2:=ib (hBw q hq).1 hk.1 (cQ (upW q));rw[hk.2]at hu2;exact⟨u,List.mem_append_right _ (List.mem_cons_self ..),hu2.trans ha hx⟩
       · exact⟨q,List.mem_append_right _ (List.mem_cons_of_mem _ hq),ha⟩
 · rw[List.length_append]at h9;rw[List.length_cons];omega
theorem Joi.done {r:Nat}{S J:List Int}(h:Joi r S J []):Packed r S J.reverse:=by
 obtain⟨h1,h2,h3,h4,h5,h6,h7,h8,h9⟩:=h;rw[List.append_nil]at h3 h5 h8;refine⟨tq h1,fun x hx=>h3 x (List.mem_reverse.1 hx),fun p hp q hq ha=>h5 p (List.mem_reverse.1 hp) q (List.mem_reverse.1 hq) ha,fun v hv hvr hall=>h6 v hv hvr fun d hd=>List.mem_reverse.1 (hall d hd),fun x hx hxr=>?_⟩;rw[←h8 x hx hxr];constructor
 · rintro⟨p,hp,ha⟩;exact⟨p,List.mem_reverse.1 hp,ha⟩
 · rintro⟨p,hp,ha⟩;exact⟨p,List.mem_reverse.2 hp,ha⟩
def Taking (H l:List Int)(u:Int)(C:List Int):Prop:=H.Perm (l++C)/\ja l/\l≠[]/\(∀b∈l,∀h∈C,h<b)/\(∀b∈l,0<wR b/\upW b=u)/\(∀x∈H,Whole x)/\H.Nodup
theorem Taking.start {H C:List Int}{m:Int}(hw:∀x∈H,Whole x)(hn:H.Nodup)(hp:H.Perm (m :: C))(hmax:∀h∈C,h<=m)(hr:0<wR m):Taking H [m] (upW m) C:=by
 have nd:=List.nodup_cons.1 (hp.nodup_iff.1 hn);refine⟨hp,List.pairwise_singleton _ _,by simp,fun b hb h hh=>?_,fun b hb=>?_,hw,hn⟩
 · rw[List.mem_singleton]at hb;subst hb;have:=hmax h hh;have:h≠b:=fun e=>nd.1 (e ▸ hh);omega
 · rw[List.mem_singleton]at hb;subst hb;exact⟨hr,rfl⟩
theorem Taking.next {H l C C':List Int}{u m:Int}(h:Taking H l u C)(hp:C.Perm (m :: C'))(hmax:∀y∈C',y<=m)(hr:0<wR m)(hu:upW m=u):Taking H (l++[m]) u C':=by
 obtain⟨h1,h2,h3,h4,h5,h6,h7⟩:=h;have hC:∀y,y=m∨y∈C'->y∈C:=fun y hy=>hp.mem_iff.2 (by rcases hy with rfl | hy <;>simp[*]);have ndC:C.Nodup:=(List.nodup_append.1 (h1.nodup_iff.1 h7)).2.1;have nd:=List.nodup_cons.1 (hp.nodup_iff.1 ndC);refine⟨h1.trans ?_,List.pairwise_append.2 ⟨h2,List.pairwise_singleton _ _,fun a ha b hb=>?_⟩,by simp,fun b hb y hy=>?_,fun b hb=>?_,h6,h7⟩
 · rw[List.append_assoc];exact List.Perm.append_left _ hp
 · rw[List.mem_singleton]at hb;subst hb;exact h4 a ha b (hC b (.inl rfl))
 · rcases List.mem_append.1 hb with hb | hb
   · exact h4 b hb y (hC y (.inr hy))
   · rw[List.mem_singleton]at hb;subst hb;have:=hmax y hy;have:y≠b:=fun e=>nd.1 (e ▸ hy);omega
 · rcases List.mem_append.1 hb with hb | hb
   · exact h5 b hb
   · rw[List.mem_singleton]at hb;subst hb;exact⟨hr,hu⟩
theorem Taking.done {H l C:List Int}{u:Int}(h:Taking H l u C)(hu:Whole u)(he:C=[]∨∃t∈C,(∀y∈C,y<=t)/\¬(0<wR t/\upW t=u)):Bro H l u C:=by
 obtain⟨h1,h2,h3,h4,h5,h6,h7⟩:=h;refine⟨h1,h2,h4,.inr ⟨by have:=qg hu;omega,h3,h5,fun y hy ⟨y0,yu⟩=>?_⟩⟩;rcases he with rfl | ⟨t,ht,hmax,hno⟩
 · simp at hy
 · obtain⟨m,hm⟩:=List.exists_mem_of_ne_nil l h3;have wm:=h6 m (h1.mem_iff.2 (by simp[hm]));have wt:=h6 t (h1.mem_iff.2 (by simp[ht]));have wy:=h6 y (h1.mem_iff.2 (by simp[hy]));have m5:=h5 m hm;have um:=bh wm m5.1;have uy:=bh wy y0;rw[m5.2]at um;rw[yu]at uy;have h4':=h4 m hm t ht;have hyt:=hmax y hy;have s1:=iF wy wt hyt;have s2:=iF wt wm (by omega);have u1:=vF wy wt y0 (by omega) hyt;have u2:=vF wt wm (by omega) (by omega) (by omega);rw[yu]at u1;rw[m5.2]at u2;exact hno ⟨by omega,by omega⟩
theorem Ez {H C:List Int}{m:Int}(hn:H.Nodup)(hp:H.Perm (m :: C))(hmax:∀h∈C,h<=m)(hr:wR m=0):Bro H [m] 0 C:=by
 have nd:=List.nodup_cons.1 (hp.nodup_iff.1 hn);refine⟨hp,List.pairwise_singleton _ _,fun b hb h hh=>?_,.inl ⟨rfl,m,rfl,hr⟩⟩;rw[List.mem_singleton]at hb;subst hb;have:=hmax h hh;have:h≠b:=fun e=>nd.1 (e ▸ hh);omega
theorem IG:∀i:Fin 13,(decide (52<=szK i.val) && decide (szK i.val<=7000000))=true:=by decide
theorem El {K:Nat}(hK:K<=12):52<=szK K/\szK K<=7000000:=by
 have:=IG ⟨K,by omega⟩
 simpa[Bool.and_eq_true,decide_eq_true_eq]using this
end Go.Proofs.YtbnlhdnnenahfaaGreatDoor
