/-
  What package cover's sweep finds from those at the side where the box begins; in whatever memory where the three tables hold what their texts lay. Over a contract of Touches.
-/
import Derived.Test.YtbnlhdnnenahfaaGreatDoorQ4Y
set_option maxHeartbeats 16000000
set_option maxRecDepth 100000
namespace Go.Proofs.YtbnlhdnnenahfaaGreatDoor
open Go.RowKit Go
attribute [local go_sem] Oper.semAt_some
def gC (K d:Nat)(L:List (Int×Int))(i:Nat):List Int:=(L.take i).map fun p=>bm K d p.1 p.2
theorem tP {K d:Nat}{L:List (Int×Int)}{i:Nat}(h:i<L.length):gC K d L (i+1)=gC K d L i++[bm K d L[i].1 L[i].2]:=by
 unfold gC;rw[List.take_succ_eq_append_getElem h,List.map_append];rfl
theorem xR {K d:Nat}{L:List (Int×Int)}{i:Nat}(h:i<=L.length):(gC K d L i).length=i:=by
 unfold gC;simp;omega
theorem sh {b g q n:Nat}{F:List (Int×Int)}{x y:Int}{w:World}(hn:F.length=n)(h:w.ownsRow b 37 2 (.slice (some ⟨g,0,none⟩) (n+1) q) (n+1) (cU F++[.int .i64 x,.int .i64 y])):RowE b (.slice (some ⟨g,0,none⟩) (n+1) q) (F++[(x,y)]) w:=by
 unfold RowE;rw[List.length_append,hn,kw,kz];exact h
theorem pq {S X FB k:Nat}{vo fv v:Value}{w A B C:World}{n:Nat}{xs:List Value}{o:Obj}(f:FromO S X FB k vo w)(ho:(B.alloc o).ownsRow (k+2) 37 2 fv n xs)(h:Two2 k A B)(hg:(B.alloc o).grownBy C fv.ownBlock)(hA:k+2<=A.heap.size)(hs:A.heap.size<=B.heap.size):Two2 k A (C.setCell ⟨FB,0,none⟩ v):=fun j hj=>by
 have:=f.k;have:=f.fb;rw[heap_setCell_other _ _ _ _ (show j≠FB by omega),hg.block j (by simp;omega) (fun e=>by have:=(World.ownsRow.lt ho j e.symm).1;omega),Below.heap_alloc _ _ _ (by omega)];exact h j hj
theorem rb {S X FB k:Nat}{l1 l2 u1 u2 r d:Int}{vo:Value}{O:List Nat}{w:World}{F:List (Int×Int)}{H:List Int}{v fv:Value}{W:World}(o:FromO S X FB k vo w)(h:FromI S X FB k l1 l2 u1 u2 r d vo O w F H v fv W)(_:W.heap[k]?=some (.deferred (some []))):RowE w.heap.size fv F (W.putObj k (.deferred none))/\ButQ S 7 none w (W.putObj k (.deferred none)):=by
 obtain⟨o1,o2,o3,o4,o5,o6⟩:=o;have hg:=gz W k (.deferred none);exact⟨bo (h.row.grown hg fun e=>by have:=(World.ownsRow.lt h.row _ e).1;omega) (by omega),h.frm.trans (ButQ.grown (r:=some k) hg h.hat.lt (by simp;omega)) (.inr fun z e=>by have:=Option.some.inj e;omega)⟩
def mO (K d:Nat)(l1 l2 u1 u2:Int)(S0:List (Int×Int))(b:Nat)(e:Ending)(w':World):Prop :=
 ∃(v:Value) (F:List (Int×Int)),e=.returned v/\RowE b v F w'/\F.Nodup/\(∀p∈F,Tou K l1 l2 u1 u2 p.1 p.2)/\F.length<=20001/\(F.length<=20000->Swp K d l1 l2 u1 u2 S0 F [])
def StI (K d:Nat)(l1 l2 u1 u2 r:Int)(S X FB k:Nat)(vo:Value)(w:World)(S0:List (Int×Int))(n:Nat)(s:List (Int×Int)×List Int×Value×Value)(W:World):Prop :=
 FromI S X FB k l1 l2 u1 u2 r (d:Int) vo (onw K d) w s.1 s.2.1 s.2.2.1 s.2.2.2 W/\Swp K d l1 l2 u1 u2 S0 s.1 s.2.1/\s.2.1.length<=n+6*s.1.length/\s.1.length<=20000
def BrI (K d:Nat)(l1 l2 u1 u2 r:Int)(S X FB k:Nat)(vo:Value)(w:World)(c:Code)(W:World):Prop :=
 ∃(F:List (Int×Int)) (H:List Int) (v fv:Value),FromI S X FB k l1 l2 u1 u2 r (d:Int) vo (onw K d) w F H v fv W/\F.Nodup/\(∀p∈F,Tou K l1 l2 u1 u2 p.1 p.2)/\F.length=20001/\c=.exit 2
theorem zK (S d:Nat)(hd:d<=1)(r:Int)(K:Nat)(hK:K<=12)(hr:12-r=(K:Int))(l1 l2 u1 u2:Int)(hT:Tight K l1 l2 u1 u2)(vo sv:Value)(S0:List (Int×Int))(hn:S0.length<=20001)(hN:∀p∈S0,bP p.1 p.2)
 (TC:Hid (∀a b t,bP a b->(t=true↔Tou K l1 l2 u1 u2 a b)->∀w,Cov3 w->Calls Tryz.prog 96 #[.agg #[.int .i64 r,.int .i64 a,.int .i64 b],.agg #[.int .i64 l1,.int .i64 l2],.agg #[.int .i64 u1,.int .i64 u2]] w fun e w'=>e=.returned (.bool t)/\Below w.heap.size w w'))
 (w:World) (hM:SweepM S l1 l2 u1 u2 r (d:Int) vo w) (h7:w.cell? ⟨S,7,none⟩=some (.slice none 0 0)) (f7:w.frozen? ⟨S,7,none⟩=false) (hO:w.ownsRow (S+1) 3 1 vo (onw K d).length (jB (onw K d))) (b0:Nat) (hS0:RowE b0 sv S0 w) (hsv:sv.ownBlock≠some S) (hC:Cov3 w) (hL:LowT S) :
 Calls Tryz.prog 60 #[.pointer (some ⟨S,0,none⟩),sv] w fun e w'=>mO K d l1 l2 u1 u2 S0 w.heap.size e w'/\ButQ S 7 none w w':=by
 obtain⟨vp,vc,rfl⟩:=jj hO;have hlt:=World.block_lt_of_cell? _ _ h7;simp only at hlt;have NB:=ab fun(a b:Int) (i:Nat) (hi:i<6) ha hb w hU=>vh a b i hi ha hb w hU;have PU:=ab fun(base n c:Nat) (p:Option Addr) (H:List Int) (a b:Int) (hab:bP a b) (hn:H.length=n) hp hsz w h hH hb=>Jw base S n c d hd r K hK hr p H a b hab hn hp hsz w h hH hb;have al:=ag w (.cells #[.pointer (some ⟨S,0,none⟩)] 100);have x0:(w.alloc (.cells #[.pointer (some ⟨S,0,none⟩)] 100)).cell? ⟨w.heap.size,0,none⟩=some (.pointer (some ⟨S,0,none⟩)):=by go_simp
 have HA0:HatQ (w.alloc (.cells #[.pointer (some ⟨S,0,none⟩)] 100)) (w.heap.size+1) S 7 (.slice none 0 0) []:=⟨aa al h7,ac al h7 f7,by simp[Value.ownBlock],by rw[jw];exact World.ownsRow_nil _ _ _ _⟩
 have M0:=ab (hM.keep al);have BQ0:=ab (ButQ.of_below (o:=7) (r:=none) al hlt);have HS0:=ab hS0;have HSV:=ab hsv;have HO:=ab hO;have HC:=ab hC;have HM:=ab hM;have HNN:=ab hN;have HTT:=ab hT;obtain⟨sp,sc,rfl⟩:=hS0.any;have svz:∀z,(Value.slice sp S0.length sc).ownBlock=some z->z<w.heap.size:=fun z e=>(World.ownsRow.lt hS0 z e).2;have SVZ:=ab svz;obtain⟨n,en⟩:∃n,S0.length=n:=⟨_,rfl⟩
 have EN:=ab en;clear hM h7 f7 hO hS0 hC al hN hT svz hsv;rw[en]at hn SVZ ⊢;clear en;refine(callsIn_wide (n:=3)).1 ?_;refine callsIn_of_wp_marks Tryz.func60 rfl trivial ?_ rfl;simp only[Tryz.ntmps60,List.size_toArray,List.length_cons,List.length_nil,Nat.reduceAdd,Nat.reduceSub,Array.replicate_succ,Array.replicate_zero,List.push_toArray,List.append_toArray,List.nil_append,List.cons_append]
 gi_wp2
 generalize w.alloc (.cells #[.pointer (some ⟨S,0,none⟩)] 100)=w1 at *
 gi_loopw [13] (fun v13 wr=>∃(i:Nat) (H:List Int) (v:Value),i<=n/\v13=.int .i64 (i:Int)/\Hid (HatQ wr (w.heap.size+1) S 7 v H)/\Hid (Hp H.length H.toArray)/\Hid (H.Perm (gC K d S0 i))/\wr.cell? ⟨w.heap.size,0,none⟩=some (.pointer (some ⟨S,0,none⟩))/\Hid (ButQ S 7 none w wr)) (fun v13 _=>n-(intOf v13).toNat)
 case atStart=>exact⟨0,[],_,by omega,rfl,ab HA0,ab (fun i hi=>by simp at hi),ab (List.Perm.refl _),x0,BQ0⟩
 case round =>
  clear x0;obtain⟨i,H,v,hi,rfl,HA,HP,PE,x0,BQ⟩:=hrel;obtain⟨p,c,rfl⟩:=HA.out.any;obtain⟨m,em⟩:∃m,H.length=m:=⟨_,rfl⟩
  rw[em]at HA HP;have hmi:m=i:=by rw[←em,PE.out.length_eq,xR (by rw[EN.out];omega)]
  have EM:=ab em;by_cases him:i<n
  · have him':(i:Int)<(n:Int):=by omega
    have hiL:i<S0.length:=by rw[EN.out];exact him
    have hrow:RowE b0 (.slice sp n sc) S0 wr:=BQ.out.own (by have:=HS0.out;rwa [EN.out]at this) (by have:=HSV.out;rwa [EN.out]at this) (fun z e=>by cases e);obtain⟨g,c2,e,-,y0,y1⟩:=hrow.at_ i hiL;simp only[Value.slice.injEq]at e;obtain⟨rfl,-,rfl⟩:=e;have NXT:=ab (tP (K:=K) (d:=d) hiL);have near:=HNN.out _ (List.getElem_mem hiL);have al:=ag wr (.cells #[.int .i64 S0[i].1,.int .i64 S0[i].2] 37);have P1:=ab (PU.out (w.heap.size+1) m c p H S0[i].1 S0[i].2 near EM.out HP.out (by omega) _ ((HM.out.but BQ.out).siz.keep al) (HA.out.keep al) (by have:=BQ.out.size;simp;omega));have BA:=ab (BQ.out.trans (ButQ.of_below (o:=7) (r:=none) al HA.out.lt) (.inl rfl));have x1:=aa al x0;have z0:(wr.alloc (.cells #[.int .i64 S0[i].1,.int .i64 S0[i].2] 37)).cell? ⟨wr.heap.size,0,none⟩=some (.int .i64 S0[i].1):=by go_simp
    have z1:(wr.alloc (.cells #[.int .i64 S0[i].1,.int .i64 S0[i].2] 37)).cell? ⟨wr.heap.size,1,none⟩=some (.int .i64 S0[i].2):=by go_simp
    have OWN:=ab (fun z (e:(Value.slice p m c).ownBlock=some z)=>(World.ownsRow.lt HA.out.own z e).1);clear hrow near al HA HP BQ;generalize bm K d S0[i].1 S0[i].2=sx at *;generalize S0[i].1=a at *;generalize S0[i].2=b at *
    gi_wp2_with (first
     | (refine ⟨trivial,?_⟩
        gi_at_call 94
        refine(callsIn_wide.2 P1.out).mono ?_;rintro e w3 ⟨rfl,g',c',H',k1,k2,k3,k4,k5,k6⟩;have x3:=k5.cellK x1 (by simp;omega) (fun e=>by have:w.heap.size+1<=w.heap.size:=OWN.out _ e;omega);have BQ3:=ab (BA.out.trans k5 (.inr fun z e=>by have:=OWN.out _ e;omega));have HA3:=ab k1;have HP3:Hid (Hp H'.length H'.toArray):=ab (by rw[k4];exact k3);have PE3:Hid (H'.Perm (gC K d S0 (i+1))):=ab (by rw[NXT.out];exact(k2.trans (PE.out.cons _)).trans (List.perm_append_singleton _ _).symm);clear k1 k2 k3 k4 k5 k6 P1 BA PE NXT OWN x1 x0)
     | fail)
    go_roundw
    case rel=>exact⟨i+1,H',_,by omega,by go_num,HA3,HP3,PE3,x3,BQ3⟩
    case measure=>simp[intOf];omega
  · obtain rfl:i=n:=by omega
    have him':decide ((i:Int)<(i:Int))=false:=by simp
    have al:=ag wr (.cells #[.slice none 0 0] 67);have x1:=aa al x0;have lX:=World.block_lt_of_cell? _ _ x0;simp only at lX;have hk1:(wr.alloc (.cells #[.slice none 0 0] 67)).heap.size=wr.heap.size+1:=by simp
    have n0:(wr.alloc (.cells #[.slice none 0 0] 67)).cell? ⟨wr.heap.size,0,none⟩=some (.slice none 0 0):=by go_simp
    have q0:(wr.alloc (.cells #[.slice none 0 0] 67)).frozen? ⟨wr.heap.size,0,none⟩=false:=by go_simp
    have BA:=ab (BQ.out.trans (ButQ.of_below (o:=7) (r:=none) al HA.out.lt) (.inl rfl));have HA2:=ab (HA.out.keep al);have HV:Hid (∀z,(Value.slice p m c).ownBlock=some z->w.heap.size+1<=z/\z<wr.heap.size):=ab fun z e=>World.ownsRow.lt HA.out.own z e;clear al HA BQ x0
    gi_wp2
    generalize wr.alloc (.cells #[.slice none 0 0] 67)=w2 at *;obtain⟨FB,eF⟩:∃FB,wr.heap.size=FB:=⟨_,rfl⟩
    rw[eF]at n0 q0 hk1 HV lX ⊢;clear eF;have FO:FromO S w.heap.size FB w2.heap.size (.slice vp (onw K d).length vc) w:=⟨hlt,rfl,lX,by omega,hL,fun z e=>by have:=World.ownsRow.lt HO.out z e;omega⟩
    have FI0:∀W,Below w2.heap.size w2 W->FromI S w.heap.size FB w2.heap.size l1 l2 u1 u2 r (d:Int) (.slice vp (onw K d).length vc) (onw K d) w [] H (.slice p m c) (.slice none 0 0) W:=fun W hW=>by
     have hS2:S<w2.heap.size:=HA2.out.lt;have BW:=BA.out.trans (ButQ.of_below (o:=7) (r:=none) hW hS2) (.inl rfl);exact⟨HA2.out.keep hW,by rw[EM.out];exact HP.out,HM.out.but BW,BW.own HO.out (fun e=>by have:=(World.ownsRow.lt HO.out _ e).1;omega) (fun z e=>by cases e),aa hW x1,aa hW n0,ac hW n0 q0,World.ownsRow_nil _ _ _ _,HC.out.low hL (BW.below (Nat.le_refl _) (fun z e=>by cases e) (by omega)),BW,fun z e=>by have:=HV.out z e;exact⟨by omega,by omega,by omega,by simp[Value.ownBlock]⟩⟩
    have SW0:=ab (Aq (K:=K) (d:=d) (l1:=l1) (l2:=l2) (u1:=u1) (u2:=u2) (S:=S0) (H:=H) HNN.out (by have:=PE.out;unfold gC at this;rwa [←EN.out,List.take_length]at this));have FI0:=ab FI0;have HK1:=ab hk1;clear HA2 BA HP HV x1 n0 q0 PE hk1;refine Db (σ:=List (Int×Int)×List Int×Value×Value) rfl (by omega) (gf:=95) (pb:=#[.pointer (some ⟨S,7,none⟩)]) (lb:=#[]) rfl trivial (enters_of Tryz.func95 (by kernel_rfl) rfl)
     (tx (σ:=List (Int×Int)×List Int×Value×Value) (w.heap.size+1) S (fun s=>s.2.1) (fun s=>s.2.2.1) (fun s=>(20001-s.1.length)*7+s.2.1.length)) (fun _=>rfl)
     (StI K d l1 l2 u1 u2 r S w.heap.size FB w2.heap.size (.slice vp (onw K d).length vc) w S0 i) (BrI K d l1 l2 u1 u2 r S w.heap.size FB w2.heap.size (.slice vp (onw K d).length vc) w) ?hIR ?hI ?hIx ([],H,.slice p m c,.slice none 0 0) ?h0 ?hN
     (fun m x a' Y=>∃e:Nat,(m<=e/\Y.cell? ⟨e,0,none⟩=some (.int .i64 (sp1 x))/\Y.cell? ⟨e,1,none⟩=some (.int .i64 (sp2 x)))/\a'={ tmps:=#[.pointer (some ⟨S,0,none⟩),.slice sp i sc,.pointer (some ⟨w.heap.size,0,none⟩),undef,.slice none 0 0,undef,u6,.pointer (some ⟨FB,0,none⟩),.pointer (some ⟨e,0,none⟩),undef,undef,.slice sp i sc,.int .i64 (i:Int),.int .i64 (i:Int),.bool false,u15,u16,u17,u18,u19,u20,.pointer (some ⟨S,0,none⟩),.pointer (some ⟨S,0,none⟩),.pointer (some ⟨S,7,none⟩),.func (.func 95) #[.pointer (some ⟨S,7,none⟩)] #[],.agg #[.int .i64 (sp1 x),.int .i64 (sp2 x)],undef,undef,undef,undef,undef,undef,undef,undef,undef,undef,undef,undef,undef,undef,undef,undef,undef,undef,undef,undef,undef,undef,undef,undef,undef,undef,undef,undef,undef,undef,undef,undef,undef,undef,undef,undef,undef,undef,undef,undef,undef],defers:=[] }) ?hAx ?assign ?body ?done ?stop
    case hIR=>exact fun s W h=>⟨h.1.hat,h.1.heap,by have:=h.2.2.1;have:=h.2.2.2;omega⟩
    case hI=>exact fun s A C h hg _=>⟨h.1.grown FO hg,h.2⟩
    case hIx=>exact fun c A C ⟨F,H,v,fv,h1,h2⟩ hg _=>⟨F,H,v,fv,h1.grown FO hg,h2⟩
    case h0=>exact fun W hW _=>⟨FI0.out W hW,SW0.out,by have:=EM.out;simp;omega,by simp⟩
    case hN =>
     rintro s x A C hI ⟨hx,L',v',k1,k2,k3,k4,k5,k6,k7⟩ hA;have:=HK1.out;refine⟨fun j hj=>k7.block j (by omega) (by omega) (fun e=>?_),k7.size⟩;have:=hI.1.vsep j e;omega
    case hAx =>
     rintro m x a' A B hm ⟨e,⟨h1,h2,h3⟩,ha⟩ hg;have:=HK1.out;exact⟨e,⟨h1,hg.cell h2 (by simp;omega),hg.cell h3 (by simp;omega)⟩,ha⟩
    case assign =>
     intro l x Y K' hs hK
     gi_wp2
     exact hK _ _ ⟨Y.heap.size,⟨Nat.le_refl _,by go_simp,by go_simp⟩,rfl⟩ (ag _ _)
    case body =>
     rintro l ⟨F,Hq,v,fv⟩ x a' A C X ⟨hI,hSw,hHl,hFl⟩ hA ⟨hx,L',v',k1,k2,k3,k4,k5,k6,k7⟩ hg ⟨e,⟨he,z0,z1⟩,rfl⟩;simp only at hI hSw hHl hFl hx k1 k2 k3 k5 k6 k7;have FC:=hI.but FO k7 k5 k4 (fun z e=>.inl (by rw[←k6];exact e)) hA;have FX:=FC.grown FO hg;have nx:=(hSw.near x hx).1;have heX:C.heap.size<=X.heap.size:=hg.size;by_cases ht:Tou K l1 l2 u1 u2 (sp1 x) (sp2 x)
     · have TT:=ab (TC.out (sp1 x) (sp2 x) true nx ⟨fun _=>ht,fun _=>rfl⟩);have TK:=ab fun(G:List Int) (hG:G.Perm ((onw K d).map (fun i=>bm K d (sp1 x+uA i) (sp2 x+uB i))++L'))=>DJ HTT.out hSw hx k1 k2 ht hG;have NT:=ab (HTT.out _ _ ht);have BY:=ab (HTT.out.beside ht);have TOU:=ab ht;have SWF:=ab hSw;have LQ:Hid (L'.length+1<=Hq.length/\Hq.length<=i+6*F.length/\F.length<=20000):=ab ⟨by omega,by omega,hFl⟩;have FXD:=FX.below (aK X);have y0:=aa (aK X) z0;have y1:=aa (aK X) z1;have p0:=FXD.ptr;have a0:=FXD.swm.a0;have a1:=FXD.swm.a1;have a2:=FXD.swm.a2;have a3:=FXD.swm.a3;have a4:=FXD.swm.siz.1;have fC:Hid (∀z,fv.ownBlock=some z->z<C.heap.size):=ab fun z e=>Nat.lt_of_lt_of_le (World.ownsRow.lt hI.row z e).2 k7.size;have vC:Hid (∀z,v'.ownBlock=some z->z<C.heap.size):=ab fun z e=>(World.ownsRow.lt k5.own z e).2;have FXD:=ab FXD;have hkX:w2.heap.size+2<=X.heap.size:=by have:=k7.size;omega
       have k7':w2.heap.size+2<=C.heap.size:=by have:=k7.size;omega
       clear hI hSw hHl hFl hx k1 k2 k3 k4 k5 k6 k7 hg FC FX ht nx;generalize sp1 x=b1 at *;generalize sp2 x=b2 at *
       gi_wp2
       refine fm (S:=(fun w'=>w'.cell? ⟨w.heap.size,0,none⟩=some (.pointer (some ⟨S,0,none⟩))/\w'.cell? ⟨e,0,none⟩=some (.int .i64 b1)/\w'.cell? ⟨e,1,none⟩=some (.int .i64 b2)/\w'.cell? ⟨S,4,none⟩=some (.int .i64 r)/\w'.cell? ⟨S,0,none⟩=some (.int .i64 l1)/\w'.cell? ⟨S,1,none⟩=some (.int .i64 l2)/\w'.cell? ⟨S,2,none⟩=some (.int .i64 u1)/\w'.cell? ⟨S,3,none⟩=some (.int .i64 u2)/\Below X.drew.heap.size X.drew w')) (by kernel_rfl) (by kernel_rfl) (fun⟨_,_,h⟩=>h) ?thS0 (fun hHeld=>?_)
       case thS0=>(try dsimp only);exact⟨p0,y0,y1,a4,a0,a1,a2,a3,Below.refl _ _⟩
       refine az (v:=?tv0) 0 rfl (by kernel_rfl) (by kernel_rfl) (by kernel_rfl) (fun _ _ _ h=>h) (Or.inl ⟨by rfl,?thy0⟩) (by assumption) ?trest0
       case thy0=>(intro w' hSw;(try dsimp only at hSw);go_simp;try with_reducible rfl)
       (try simp only[Act.put,List.setIfInBounds_toArray,List.set_cons_zero,List.set_cons_succ])
       refine az (v:=?tv1) 1 rfl (by kernel_rfl) (by kernel_rfl) (by kernel_rfl) (fun _ _ _ h=>h) (Or.inl ⟨by rfl,?thy1⟩) (by assumption) ?trest1
       case thy1=>(intro w' hSw;(try dsimp only at hSw);go_simp;try with_reducible rfl)
       (try simp only[Act.put,List.setIfInBounds_toArray,List.set_cons_zero,List.set_cons_succ])
       refine az (v:=?tv2) 2 rfl (by kernel_rfl) (by kernel_rfl) (by kernel_rfl) (fun _ _ _ h=>h) (Or.inl ⟨by rfl,?thy2⟩) (by assumption) ?trest2
       case thy2=>(intro w' hSw;(try dsimp only at hSw);go_simp;try with_reducible rfl)
       (try simp only[Act.put,List.setIfInBounds_toArray,List.set_cons_zero,List.set_cons_succ])
       refine az (v:=?tv3) 3 rfl (by kernel_rfl) (by kernel_rfl) (by kernel_rfl) (fun _ _ _ h=>h) (Or.inl ⟨by rfl,?thy3⟩) (by assumption) ?trest3
       case thy3=>(intro w' hSw;(try dsimp only at hSw);go_simp;try with_reducible rfl)
       (try simp only[Act.put,List.setIfInBounds_toArray,List.set_cons_zero,List.set_cons_succ])
       refine az (v:=?tv4) 4 rfl (by kernel_rfl) (by kernel_rfl) (by kernel_rfl) (fun _ _ _ h=>h) (Or.inl ⟨by rfl,?thy4⟩) (by assumption) ?trest4
       case thy4=>(intro w' hSw;(try dsimp only at hSw);go_simp;try with_reducible rfl)
       (try simp only[Act.put,List.setIfInBounds_toArray,List.set_cons_zero,List.set_cons_succ])
       refine az (v:=?tv5) 5 rfl (by kernel_rfl) (by kernel_rfl) (by kernel_rfl) (fun _ _ _ h=>h) (Or.inl ⟨by rfl,?thy5⟩) (by assumption) ?trest5
       case thy5=>(intro w' hSw;(try dsimp only at hSw);go_simp;try with_reducible rfl)
       (try simp only[Act.put,List.setIfInBounds_toArray,List.set_cons_zero,List.set_cons_succ])
       refine az (v:=?tv6) 6 rfl (by kernel_rfl) (by kernel_rfl) (by kernel_rfl) (fun _ _ _ h=>h) (Or.inl ⟨by rfl,?thy6⟩) (by assumption) ?trest6
       case thy6=>(intro w' hSw;(try dsimp only at hSw);go_simp;try with_reducible rfl)
       (try simp only[Act.put,List.setIfInBounds_toArray,List.set_cons_zero,List.set_cons_succ])
       refine az (v:=?tv7) 7 rfl (by kernel_rfl) (by kernel_rfl) (by kernel_rfl) (fun _ _ _ h=>h) (Or.inl ⟨by rfl,?thy7⟩) (by assumption) ?trest7
       case thy7=>(intro w' hSw;(try dsimp only at hSw);go_simp;try with_reducible rfl)
       (try simp only[Act.put,List.setIfInBounds_toArray,List.set_cons_zero,List.set_cons_succ])
       refine az (v:=?tv8) 8 rfl (by kernel_rfl) (by kernel_rfl) (by kernel_rfl) (fun _ _ _ h=>h) (Or.inl ⟨by rfl,?thy8⟩) (by assumption) ?trest8
       case thy8=>(intro w' hSw;(try dsimp only at hSw);go_simp;try with_reducible rfl)
       (try simp only[Act.put,List.setIfInBounds_toArray,List.set_cons_zero,List.set_cons_succ])
       refine az (v:=?tv9) 9 rfl (by kernel_rfl) (by kernel_rfl) (by kernel_rfl) (fun _ _ _ h=>h) (Or.inl ⟨by rfl,?thy9⟩) (by assumption) ?trest9
       case thy9=>(intro w' hSw;(try dsimp only at hSw);go_simp;try with_reducible rfl)
       (try simp only[Act.put,List.setIfInBounds_toArray,List.set_cons_zero,List.set_cons_succ])
       refine az (v:=?tv10) 10 rfl (by kernel_rfl) (by kernel_rfl) (by kernel_rfl) (fun _ _ _ h=>h) (Or.inl ⟨by rfl,?thy10⟩) (by assumption) ?trest10
       case thy10=>(intro w' hSw;(try dsimp only at hSw);go_simp;try with_reducible rfl)
       (try simp only[Act.put,List.setIfInBounds_toArray,List.set_cons_zero,List.set_cons_succ])
       refine az (v:=?tv11) 11 rfl (by kernel_rfl) (by kernel_rfl) (by kernel_rfl) (fun _ _ _ h=>h) (Or.inl ⟨by rfl,?thy11⟩) (by assumption) ?trest11
       case thy11=>(intro w' hSw;(try dsimp only at hSw);go_simp;try with_reducible rfl)
       (try simp only[Act.put,List.setIfInBounds_toArray,List.set_cons_zero,List.set_cons_succ])
       refine az (v:=?tv12) 12 rfl (by kernel_rfl) (by kernel_rfl) (by kernel_rfl) (fun _ _ _ h=>h) (Or.inl ⟨by rfl,?thy12⟩) (by assumption) ?trest12
       case thy12=>(intro w' hSw;(try dsimp only at hSw);go_simp;try with_reducible rfl)
       (try simp only[Act.put,List.setIfInBounds_toArray,List.set_cons_zero,List.set_cons_succ])
       refine az (v:=?tv13) 13 rfl (by kernel_rfl) (by kernel_rfl) (by kernel_rfl) (fun _ _ _ h=>h) (Or.inl ⟨by rfl,?thy13⟩) (by assumption) ?trest13
       case thy13=>(intro w' hSw;(try dsimp only at hSw);go_simp;try with_reducible rfl)
       (try simp only[Act.put,List.setIfInBounds_toArray,List.set_cons_zero,List.set_cons_succ])
       refine az (v:=?tv14) 14 rfl (by kernel_rfl) (by kernel_rfl) (by kernel_rfl) (fun _ _ _ h=>h) (Or.inl ⟨by rfl,?thy14⟩) (by assumption) ?trest14
       case thy14=>(intro w' hSw;(try dsimp only at hSw);go_simp;try with_reducible rfl)
       (try simp only[Act.put,List.setIfInBounds_toArray,List.set_cons_zero,List.set_cons_succ])
       refine az (v:=?tv15) 15 rfl (by kernel_rfl) (by kernel_rfl) (by kernel_rfl) (fun _ _ _ h=>h) (Or.inl ⟨by rfl,?thy15⟩) (by assumption) ?trest15
       case thy15=>(intro w' hSw;(try dsimp only at hSw);go_simp;try with_reducible rfl)
       (try simp only[Act.put,List.setIfInBounds_toArray,List.set_cons_zero,List.set_cons_succ])
       refine wpAnyH_ready (rs:=[16]) (by kernel_rfl) (by simp) ?_;refine iD rfl (fun K hK=>?_);go_simp;go_at_call 96;refine(TT.out _ FXD.out.cov).mono ?_;rintro e5 w5 ⟨rfl,b5⟩;go_wp2_with fail;refine hK.out _ _ ?thS16 (fun hHeld=>?_)
       case thS16=>(try dsimp only);exact⟨aa b5 hHeld.1,aa b5 hHeld.2.1,aa b5 hHeld.2.2.1,aa b5 hHeld.2.2.2.1,aa b5 hHeld.2.2.2.2.1,aa b5 hHeld.2.2.2.2.2.1,aa b5 hHeld.2.2.2.2.2.2.1,aa b5 hHeld.2.2.2.2.2.2.2.1,b5⟩
       clear hK K
       (try simp only[Act.put,List.setIfInBounds_toArray,List.set_cons_zero,List.set_cons_succ])
       refine az (v:=?tv17) 17 rfl (by kernel_rfl) (by kernel_rfl) (by kernel_rfl) (fun _ _ _ h=>h) (Or.inl ⟨by rfl,?thy17⟩) (by assumption) ?trest17
       case thy17=>(intro w' hSw;(try dsimp only at hSw);go_simp;try with_reducible rfl)
       (try simp only[Act.put,List.setIfInBounds_toArray,List.set_cons_zero,List.set_cons_succ])
       refine wpAnyH_done (by kernel_rfl) ?_ _;have F5:=ab (FXD.out.below b5);have T5:Hid (Two2 w2.heap.size X w5):=ab fun j hj=>b5.block j (by simp;omega);have hs5:X.heap.size<=w5.heap.size:=by have:=b5.size;simpa using this
       replace y0:=aa b5 y0;replace y1:=aa b5 y1;clear FXD b5 TT p0 a0 a1 a2 a3 a4;obtain⟨fp,fc,rfl⟩:=F5.out.row.any;obtain⟨nf,enf⟩:∃nf,F.length=nf:=⟨_,rfl⟩
       have HF:Hid (FromI S w.heap.size FB w2.heap.size l1 l2 u1 u2 r (d:Int) (.slice vp (onw K d).length vc) (onw K d) w F L' v' (.slice fp nf fc) w5):=by rw[←enf];exact F5
       have OF:Hid (w5.ownsRow (w2.heap.size+2) 37 2 (.slice fp nf fc) nf (cU F)):=ab (by have:=HF.out.row;unfold RowE at this;rwa [enf]at this);have c0:=HF.out.fnd;have q0:=HF.out.ffz;have LQ2:=ab (by have:=LQ.out;rw[enf]at this;exact this);have ENF:=ab enf;clear F5 LQ;clear enf;have al:=ag w5 (.cells #[.int .i64 b1,.int .i64 b2] 37);have nF:some FB≠(Value.slice fp nf fc).ownBlock:=fun e=>by have:=(World.ownsRow.lt OF.out _ e.symm).1;have:=FO.k;omega
       have CF:=ab (And.intro (aa al c0) (ac al c0 q0));have hnf:nf<=20000:=by have:=LQ2.out;omega
       obtain⟨i0,hi0,hz0,hz1,hz2⟩:=de rj;have ALF:=ab (HF.out.below al);have OAL:=ab (ai al OF.out);have hk5:w2.heap.size+2<=(w5.alloc (.cells #[.int .i64 b1,.int .i64 b2] 37)).heap.size:=by simp;omega
       have AL5:=ab al;have hke:w2.heap.size+2<=e:=by have:=k7';omega
       have nE:some e≠(Value.slice fp nf fc).ownBlock:=fun h=>by have:=fC.out e (by rw[ENF.out];exact h.symm);omega
       clear al;by_cases h20:nf=20000
       · have hgt:(20000:Int)<(nf:Int)+1:=by omega
         have H20:=ab h20;clear h20
         gi_wp2_with (gi_at_builtin;go_loud (refine fI _ rfl (.tmp 44) (.tmp 46) 67 rfl (w2.heap.size+2) 37 i0 (.agg #[.int .i64 0,.int .i64 0]) 2 16 Tryz.underlying67 hi0 hz0 hz1 hz2 rfl (by decide) (.slice fp nf fc) _ _ rfl OAL.out ⟨w5.heap.size,0,none⟩ 1 1 [.int .i64 b1,.int .i64 b2] rfl rfl (jG _ _ _ _) (jH _ _) (by decide) (by unfold maxLen;omega) (by omega) hk5 (w5.heap.size+1) (by simp) ?_;intro g6 q6 w6 hown hgrow hat hlt6;obtain⟨c6,f6⟩:=ig hgrow nF CF.out;have FI7:=ab (ALF.out.found FO hgrow (sh ENF.out hown) (fun z e=>by simp only[Value.ownBlock,Option.some.injEq]at e;subst e;exact hat.imp id (fun h=>by simp;omega)));have p7:=FI7.out.ptr;have s6:=FI7.out.swm.way;have c7:=FI7.out.fnd;have T7:Hid (Two2 w2.heap.size X (w6.setCell ⟨FB,0,none⟩ (.slice (some ⟨g6,0,none⟩) (nf+1) q6))):=ab (pq FO OAL.out T5.out hgrow hkX hs5);have z7:=And.intro (ah (q:=⟨FB,0,none⟩) (u:=.slice (some ⟨g6,0,none⟩) (nf+1) q6) (hgrow.cell (a:=⟨e,0,none⟩) (aa AL5.out y0) nE) (by have:=FO.k;intro h;injection h with h1;omega)) (ah (q:=⟨FB,0,none⟩) (u:=.slice (some ⟨g6,0,none⟩) (nf+1) q6) (hgrow.cell (a:=⟨e,1,none⟩) (aa AL5.out y1) nE) (by have:=FO.k;intro h;injection h with h1;omega));clear hown hgrow hat))
         have SW:=TK.out _ (List.Perm.refl _);exact⟨T7.out,F++[(b1,b2)],L',v',_,FI7.out,SW.one,SW.tou,by rw[List.length_append,ENF.out,H20.out];rfl,rfl⟩
       · have hgt:decide ((20000:Int)<(nf:Int)+1)=false:=df (by omega);have H20:=ab h20;clear h20
         gi_wp2_with (gi_at_builtin;go_loud (refine fI _ rfl (.tmp 44) (.tmp 46) 67 rfl (w2.heap.size+2) 37 i0 (.agg #[.int .i64 0,.int .i64 0]) 2 16 Tryz.underlying67 hi0 hz0 hz1 hz2 rfl (by decide) (.slice fp nf fc) _ _ rfl OAL.out ⟨w5.heap.size,0,none⟩ 1 1 [.int .i64 b1,.int .i64 b2] rfl rfl (jG _ _ _ _) (jH _ _) (by decide) (by unfold maxLen;omega) (by omega) hk5 (w5.heap.size+1) (by simp) ?_;intro g6 q6 w6 hown hgrow hat hlt6;obtain⟨c6,f6⟩:=ig hgrow nF CF.out;have FI7:=ab (ALF.out.found FO hgrow (sh ENF.out hown) (fun z e=>by simp only[Value.ownBlock,Option.some.injEq]at e;subst e;exact hat.imp id (fun h=>by simp;omega)));have p7:=FI7.out.ptr;have s6:=FI7.out.swm.way;have c7:=FI7.out.fnd;have T7:Hid (Two2 w2.heap.size X (w6.setCell ⟨FB,0,none⟩ (.slice (some ⟨g6,0,none⟩) (nf+1) q6))):=ab (pq FO OAL.out T5.out hgrow hkX hs5);have z7:=And.intro (ah (q:=⟨FB,0,none⟩) (u:=.slice (some ⟨g6,0,none⟩) (nf+1) q6) (hgrow.cell (a:=⟨e,0,none⟩) (aa AL5.out y0) nE) (by have:=FO.k;intro h;injection h with h1;omega)) (ah (q:=⟨FB,0,none⟩) (u:=.slice (some ⟨g6,0,none⟩) (nf+1) q6) (hgrow.cell (a:=⟨e,1,none⟩) (aa AL5.out y1) nE) (by have:=FO.k;intro h;injection h with h1;omega));clear hown hgrow hat))
         have LNX:=ab (Fz K d);have HV7:Hid (∀z,v'.ownBlock=some z->z≠e):=ab fun z h=>by have:=vC.out z h;omega
         have HK7:w2.heap.size+2<=(w6.setCell ⟨FB,0,none⟩ (.slice (some ⟨g6,0,none⟩) (nf+1) q6)).heap.size:=by have:=(World.ownsRow.lt FI7.out.row g6 rfl);omega
         have heS:S<e:=by have:=FO.s;have:=FO.x;have:=FO.fb;have:=FO.k;omega
         obtain⟨fv7,e7⟩:∃fv7,Value.slice (some ⟨g6,0,none⟩) (nf+1) q6=fv7:=⟨_,rfl⟩
         rw[e7]at FI7 p7 s6 c7 T7 z7 HK7;rw[e7];clear e7 c6 f6 CF;generalize w6.setCell ⟨FB,0,none⟩ fv7=w7 at *
         gi_loopw [56] (fun v56 wr=>∃(j:Nat) (Hj:List Int) (vj:Value),j<=(onw K d).length/\v56=.int .i64 (j:Int)/\Hid (FromI S w.heap.size FB w2.heap.size l1 l2 u1 u2 r (d:Int) (.slice vp (onw K d).length vc) (onw K d) w (F++[(b1,b2)]) Hj vj fv7 wr)/\Hid (Hj.Perm (((onw K d).take j).map (fun i=>bm K d (b1+uA i) (b2+uB i))++L'))/\(wr.cell? ⟨e,0,none⟩=some (.int .i64 b1)/\wr.cell? ⟨e,1,none⟩=some (.int .i64 b2))/\Hid (∀z,vj.ownBlock=some z->z≠e)/\Hid (Two2 w2.heap.size X wr)/\w2.heap.size+2<=wr.heap.size) (fun v56 _=>(onw K d).length-(intOf v56).toNat)
         case atStart=>exact⟨0,L',v',by omega,rfl,FI7,ab (by simp),z7,HV7,T7,HK7⟩
         case round =>
          clear p7 s6 c7 z7 HK7 FI7 T7 HV7;obtain⟨j,Hj,vj,hj,rfl,FI,PEj,⟨z0,z1⟩,VZ,TW,hkw⟩:=hrel;by_cases hjn:j<(onw K d).length
          · have hjn':(j:Int)<((onw K d).length:Int):=by omega
            have hj6:j<6:=by have:=LNX.out;omega
            obtain⟨gv,cv,ev,-,-⟩:=World.ownsRow.form FI.out.onw (by omega);simp only[Value.slice.injEq]at ev;obtain⟨rfl,-,rfl⟩:=ev;obtain⟨t,et⟩:∃t,(onw K d)[j]?=some t:=⟨_,List.getElem?_eq_getElem hjn⟩
            have ht6:=(oG.1 (List.mem_of_getElem? et)).1;have o0:wr.cell? ⟨gv,j,none⟩=some (.int .i64 (t:Int)):=by
             rw[World.ownsRow.cellAt FI.out.onw j (by omega)];unfold jB;rw[List.getElem?_map,et];rfl
            have TKN:Hid ((onw K d).take (j+1)=(onw K d).take j++[t]):=ab (by rw[List.take_succ_eq_append_getElem hjn];rw[List.getElem?_eq_getElem hjn]at et;rw[Option.some.inj et]);have BYt:=ab (BY.out t);have p0:=FI.out.ptr;have s6:=FI.out.swm.way;obtain⟨pj,cj,evj⟩:=FI.out.hat.any;obtain⟨mj,emj⟩:∃mj,Hj.length=mj:=⟨_,rfl⟩
            have hmj:mj<=200000:=by
             have h1:=PEj.out.length_eq;rw[List.length_append,List.length_map,List.length_take,emj]at h1;have:=LNX.out;have:=LQ2.out;omega
            have EMJ:=ab emj;have FD:=ab (FI.out.below (aK wr));have hwD:w2.heap.size+2<=wr.drew.heap.size:=hkw;have heW:=World.block_lt_of_cell? _ _ z0;have nb1:=NT.out;clear FI et
            gi_wp2
            refine fm (S:=(fun w'=>w'.cell? ⟨w.heap.size,0,none⟩=some (.pointer (some ⟨S,0,none⟩))/\w'.cell? ⟨e,0,none⟩=some (.int .i64 b1)/\w'.cell? ⟨e,1,none⟩=some (.int .i64 b2))) (by kernel_rfl) (by kernel_rfl) (fun⟨_,_,h⟩=>h) ?qhS0 (fun hHeld=>?_)
            case qhS0=>(try dsimp only);exact⟨p0,z0,z1⟩
            refine az (v:=?qv0) 0 rfl (by kernel_rfl) (by kernel_rfl) (by kernel_rfl) (fun _ _ _ h=>h) (Or.inl ⟨by rfl,?qhy0⟩) (by assumption) ?qrest0
            case qhy0=>(intro w' hSw;(try dsimp only at hSw);go_simp;try with_reducible rfl)
            (try simp only[Act.put,List.setIfInBounds_toArray,List.set_cons_zero,List.set_cons_succ])
            refine az (v:=?qv1) 1 rfl (by kernel_rfl) (by kernel_rfl) (by kernel_rfl) (fun _ _ _ h=>h) (Or.inl ⟨by rfl,?qhy1⟩) (by assumption) ?qrest1
            case qhy1=>(intro w' hSw;(try dsimp only at hSw);go_simp;try with_reducible rfl)
            (try simp only[Act.put,List.setIfInBounds_toArray,List.set_cons_zero,List.set_cons_succ])
            refine az (v:=?qv2) 2 rfl (by kernel_rfl) (by kernel_rfl) (by kernel_rfl) (fun _ _ _ h=>h) (Or.inl ⟨by rfl,?qhy2⟩) (by assumption) ?qrest2
            case qhy2=>(intro w' hSw;(try dsimp only at hSw);go_simp;try with_reducible rfl)
            (try simp only[Act.put,List.setIfInBounds_toArray,List.set_cons_zero,List.set_cons_succ])
            refine wpAnyH_ready (rs:=[3]) (by kernel_rfl) (by simp) ?_;refine iD rfl (fun K hK=>?_);go_simp;go_at_call 97;refine(NB.out b1 b2 t ht6 (by omega) (by omega) _ FD.out.cov.1.2).mono ?_;rintro e3 w8 ⟨rfl,b8⟩;have F8:=ab (FD.out.below b8);have hw8:w2.heap.size+2<=w8.heap.size:=Nat.le_trans hwD b8.size;have TW8:Hid (Two2 w2.heap.size X w8):=ab fun q hq=>(b8.block q (by omega)).trans (TW.out q hq);go_wp2_with fail;refine hK.out _ _ ?qhS3 (fun hHeld=>?_)
            case qhS3=>(try dsimp only);exact⟨aa b8 hHeld.1,aa b8 hHeld.2.1,aa b8 hHeld.2.2⟩
            clear hK K
            (try simp only[Act.put,List.setIfInBounds_toArray,List.set_cons_zero,List.set_cons_succ])
            refine wpAnyH_ready (rs:=[4]) (by kernel_rfl) (by simp) ?_;refine iD rfl (fun K hK=>?_);go_simp;go_at_call 94;refine(PU.out (w.heap.size+1) mj cj pj Hj _ _ BYt.out EMJ.out (by rw[←EMJ.out];exact F8.out.heap) hmj _ F8.out.swm.siz (by rw[←EMJ.out,←evj];exact F8.out.hat) (by have:=FO.x;have:=FO.fb;have:=FO.k;omega)).mono ?_;rintro e4 w9 ⟨rfl,g',c',H',k1,k2,k3,k4,k5,k6⟩;rw[←EMJ.out,←evj]at k5 k6;go_wp2_with fail;refine hK.out _ _ ?qhS4 (fun hHeld=>?_)
            case qhS4=>(try dsimp only);exact⟨k5.cellK hHeld.1 (by have:=FO.s;have:=FO.x;simp;omega) (fun h=>by have:w.heap.size+1<=w.heap.size:=(World.ownsRow.lt F8.out.hat.own _ h).1;omega),k5.cellK hHeld.2.1 (by simp;omega) (fun h=>VZ.out _ h rfl),k5.cellK hHeld.2.2 (by simp;omega) (fun h=>VZ.out _ h rfl)⟩
            clear hK K
            (try simp only[Act.put,List.setIfInBounds_toArray,List.set_cons_zero,List.set_cons_succ])
            refine wpAnyH_done (by kernel_rfl) ?_ _;have FI9:=ab (F8.out.but FO k5 k1 (by rw[k4];exact k3) (fun z h=>by simp only[Value.ownBlock,Option.some.injEq]at h;subst h;exact k6) hw8);have PE9:Hid (H'.Perm (((onw K d).take (j+1)).map (fun i=>bm K d (b1+uA i) (b2+uB i))++L')):=ab (by
             rw[TKN.out,List.map_append,List.append_assoc];exact(k2.trans (PEj.out.cons _)).trans List.perm_middle.symm)
            have hs8:=F8.out.frm.size;have VZ9:Hid (∀z,(Value.slice (some ⟨g',0,none⟩) (mj+1) c').ownBlock=some z->z≠e):=ab fun z h=>by
             simp only[Value.ownBlock,Option.some.injEq]at h;subst h;rcases k6 with h | h
             · exact VZ.out _ h
             · have:=b8.size;simp only[World.drew]at this;have heW':e<wr.heap.size:=heW;omega
            have TW9:Hid (Two2 w2.heap.size X w9):=ab fun q hq=>(k5.block q (by omega) (by have:=FO.s;have:=FO.x;have:=FO.fb;have:=FO.k;omega) (fun h=>by have:=F8.out.vsep q h;omega)).trans (TW8.out q hq);have hk9:w2.heap.size+2<=w9.heap.size:=Nat.le_trans hw8 k5.size;have Z9:=And.intro hHeld.2.1 hHeld.2.2;clear k1 k2 k3 k4 k5 k6 F8 FD TW TW8 PEj VZ z0 z1 p0 s6 o0 BYt TKN
            gi_wp2
            go_roundw
            case rel=>exact⟨j+1,H',_,by omega,by go_num,FI9,PE9,Z9,VZ9,TW9,hk9⟩
            case measure=>simp[intOf];omega
          · have hjn':decide (j<(onw K d).length)=false:=df (by omega);have hje:j=(onw K d).length:=by omega
            have PE8:=PEj.out;rw[hje,List.take_length]at PE8;have SW:=ab (TK.out Hj PE8);have hl8:=PE8.length_eq;rw[List.length_append,List.length_map]at hl8;have LL:Hid (((20001-(F++[(b1,b2)]).length)*7+Hj.length<(20001-F.length)*7+Hq.length)/\Hj.length<=i+6*(F++[(b1,b2)]).length/\(F++[(b1,b2)]).length<=20000):=ab (by
             rw[List.length_append,ENF.out];have h1:=LNX.out;have h2:=LQ2.out;have h3:=H20.out;simp only[List.length_cons,List.length_nil];omega)
            clear hje PE8 hl8 hjn
            gi_wp2
            exact⟨TW.out,(F++[(b1,b2)],Hj,vj,fv7),LL.out.1,FI.out,SW.out,LL.out.2.1,LL.out.2.2⟩
     · have TT:=ab (TC.out (sp1 x) (sp2 x) false nx ⟨fun h=>(by cases h),fun h=>absurd h ht⟩);have SK:=ab (DI HTT.out hSw (fun y hy=>(k1 y hy).1) k2 ht);have LQ:Hid (L'.length<=i+6*F.length/\F.length<=20000/\(20001-F.length)*7+L'.length<(20001-F.length)*7+Hq.length):=ab ⟨by omega,hFl,by omega⟩;have FXD:=FX.below (aK X);have y0:=aa (aK X) z0;have y1:=aa (aK X) z1;have p0:=FXD.ptr;have a0:=FXD.swm.a0;have a1:=FXD.swm.a1;have a2:=FXD.swm.a2;have a3:=FXD.swm.a3;have a4:=FXD.swm.siz.1;have FXD:=ab FXD;have hkX:w2.heap.size+2<=X.heap.size:=by have:=k7.size;omega
       clear hI hSw hHl hFl hx k1 k2 k3 k4 k5 k6 k7 hg FC FX ht nx;generalize sp1 x=b1 at *;generalize sp2 x=b2 at *
       gi_wp2
       refine fm (S:=(fun w'=>w'.cell? ⟨w.heap.size,0,none⟩=some (.pointer (some ⟨S,0,none⟩))/\w'.cell? ⟨e,0,none⟩=some (.int .i64 b1)/\w'.cell? ⟨e,1,none⟩=some (.int .i64 b2)/\w'.cell? ⟨S,4,none⟩=some (.int .i64 r)/\w'.cell? ⟨S,0,none⟩=some (.int .i64 l1)/\w'.cell? ⟨S,1,none⟩=some (.int .i64 l2)/\w'.cell? ⟨S,2,none⟩=some (.int .i64 u1)/\w'.cell? ⟨S,3,none⟩=some (.int .i64 u2)/\Below X.drew.heap.size X.drew w')) (by kernel_rfl) (by kernel_rfl) (fun⟨_,_,h⟩=>h) ?hS0 (fun hHeld=>?_)
       case hS0=>(try dsimp only);exact⟨p0,y0,y1,a4,a0,a1,a2,a3,Below.refl _ _⟩
       refine az (v:=?v0) 0 rfl (by kernel_rfl) (by kernel_rfl) (by kernel_rfl) (fun _ _ _ h=>h) (Or.inl ⟨by rfl,?hy0⟩) (by assumption) ?rest0
       case hy0=>(intro w' hSw;(try dsimp only at hSw);go_simp;try with_reducible rfl)
       (try simp only[Act.put,List.setIfInBounds_toArray,List.set_cons_zero,List.set_cons_succ])
       refine az (v:=?v1) 1 rfl (by kernel_rfl) (by kernel_rfl) (by kernel_rfl) (fun _ _ _ h=>h) (Or.inl ⟨by rfl,?hy1⟩) (by assumption) ?rest1
       case hy1=>(intro w' hSw;(try dsimp only at hSw);go_simp;try with_reducible rfl)
       (try simp only[Act.put,List.setIfInBounds_toArray,List.set_cons_zero,List.set_cons_succ])
       refine az (v:=?v2) 2 rfl (by kernel_rfl) (by kernel_rfl) (by kernel_rfl) (fun _ _ _ h=>h) (Or.inl ⟨by rfl,?hy2⟩) (by assumption) ?rest2
       case hy2=>(intro w' hSw;(try dsimp only at hSw);go_simp;try with_reducible rfl)
       (try simp only[Act.put,List.setIfInBounds_toArray,List.set_cons_zero,List.set_cons_succ])
       refine az (v:=?v3) 3 rfl (by kernel_rfl) (by kernel_rfl) (by kernel_rfl) (fun _ _ _ h=>h) (Or.inl ⟨by rfl,?hy3⟩) (by assumption) ?rest3
       case hy3=>(intro w' hSw;(try dsimp only at hSw);go_simp;try with_reducible rfl)
       (try simp only[Act.put,List.setIfInBounds_toArray,List.set_cons_zero,List.set_cons_succ])
       refine az (v:=?v4) 4 rfl (by kernel_rfl) (by kernel_rfl) (by kernel_rfl) (fun _ _ _ h=>h) (Or.inl ⟨by rfl,?hy4⟩) (by assumption) ?rest4
       case hy4=>(intro w' hSw;(try dsimp only at hSw);go_simp;try with_reducible rfl)
       (try simp only[Act.put,List.setIfInBounds_toArray,List.set_cons_zero,List.set_cons_succ])
       refine az (v:=?v5) 5 rfl (by kernel_rfl) (by kernel_rfl) (by kernel_rfl) (fun _ _ _ h=>h) (Or.inl ⟨by rfl,?hy5⟩) (by assumption) ?rest5
       case hy5=>(intro w' hSw;(try dsimp only at hSw);go_simp;try with_reducible rfl)
       (try simp only[Act.put,List.setIfInBounds_toArray,List.set_cons_zero,List.set_cons_succ])
       refine az (v:=?v6) 6 rfl (by kernel_rfl) (by kernel_rfl) (by kernel_rfl) (fun _ _ _ h=>h) (Or.inl ⟨by rfl,?hy6⟩) (by assumption) ?rest6
       case hy6=>(intro w' hSw;(try dsimp only at hSw);go_simp;try with_reducible rfl)
       (try simp only[Act.put,List.setIfInBounds_toArray,List.set_cons_zero,List.set_cons_succ])
       refine az (v:=?v7) 7 rfl (by kernel_rfl) (by kernel_rfl) (by kernel_rfl) (fun _ _ _ h=>h) (Or.inl ⟨by rfl,?hy7⟩) (by assumption) ?rest7
       case hy7=>(intro w' hSw;(try dsimp only at hSw);go_simp;try with_reducible rfl)
       (try simp only[Act.put,List.setIfInBounds_toArray,List.set_cons_zero,List.set_cons_succ])
       refine az (v:=?v8) 8 rfl (by kernel_rfl) (by kernel_rfl) (by kernel_rfl) (fun _ _ _ h=>h) (Or.inl ⟨by rfl,?hy8⟩) (by assumption) ?rest8
       case hy8=>(intro w' hSw;(try dsimp only at hSw);go_simp;try with_reducible rfl)
       (try simp only[Act.put,List.setIfInBounds_toArray,List.set_cons_zero,List.set_cons_succ])
       refine az (v:=?v9) 9 rfl (by kernel_rfl) (by kernel_rfl) (by kernel_rfl) (fun _ _ _ h=>h) (Or.inl ⟨by rfl,?hy9⟩) (by assumption) ?rest9
       case hy9=>(intro w' hSw;(try dsimp only at hSw);go_simp;try with_reducible rfl)
       (try simp only[Act.put,List.setIfInBounds_toArray,List.set_cons_zero,List.set_cons_succ])
       refine az (v:=?v10) 10 rfl (by kernel_rfl) (by kernel_rfl) (by kernel_rfl) (fun _ _ _ h=>h) (Or.inl ⟨by rfl,?hy10⟩) (by assumption) ?rest10
       case hy10=>(intro w' hSw;(try dsimp only at hSw);go_simp;try with_reducible rfl)
       (try simp only[Act.put,List.setIfInBounds_toArray,List.set_cons_zero,List.set_cons_succ])
       refine az (v:=?v11) 11 rfl (by kernel_rfl) (by kernel_rfl) (by kernel_rfl) (fun _ _ _ h=>h) (Or.inl ⟨by rfl,?hy11⟩) (by assumption) ?rest11
       case hy11=>(intro w' hSw;(try dsimp only at hSw);go_simp;try with_reducible rfl)
       (try simp only[Act.put,List.setIfInBounds_toArray,List.set_cons_zero,List.set_cons_succ])
       refine az (v:=?v12) 12 rfl (by kernel_rfl) (by kernel_rfl) (by kernel_rfl) (fun _ _ _ h=>h) (Or.inl ⟨by rfl,?hy12⟩) (by assumption) ?rest12
       case hy12=>(intro w' hSw;(try dsimp only at hSw);go_simp;try with_reducible rfl)
       (try simp only[Act.put,List.setIfInBounds_toArray,List.set_cons_zero,List.set_cons_succ])
       refine az (v:=?v13) 13 rfl (by kernel_rfl) (by kernel_rfl) (by kernel_rfl) (fun _ _ _ h=>h) (Or.inl ⟨by rfl,?hy13⟩) (by assumption) ?rest13
       case hy13=>(intro w' hSw;(try dsimp only at hSw);go_simp;try with_reducible rfl)
       (try simp only[Act.put,List.setIfInBounds_toArray,List.set_cons_zero,List.set_cons_succ])
       refine az (v:=?v14) 14 rfl (by kernel_rfl) (by kernel_rfl) (by kernel_rfl) (fun _ _ _ h=>h) (Or.inl ⟨by rfl,?hy14⟩) (by assumption) ?rest14
       case hy14=>(intro w' hSw;(try dsimp only at hSw);go_simp;try with_reducible rfl)
       (try simp only[Act.put,List.setIfInBounds_toArray,List.set_cons_zero,List.set_cons_succ])
       refine az (v:=?v15) 15 rfl (by kernel_rfl) (by kernel_rfl) (by kernel_rfl) (fun _ _ _ h=>h) (Or.inl ⟨by rfl,?hy15⟩) (by assumption) ?rest15
       case hy15=>(intro w' hSw;(try dsimp only at hSw);go_simp;try with_reducible rfl)
       (try simp only[Act.put,List.setIfInBounds_toArray,List.set_cons_zero,List.set_cons_succ])
       refine wpAnyH_ready (rs:=[16]) (by kernel_rfl) (by simp) ?_;refine iD rfl (fun K hK=>?_);go_simp;go_at_call 96;refine(TT.out _ FXD.out.cov).mono ?_;rintro e5 w5 ⟨rfl,b5⟩;go_wp2_with fail;refine hK.out _ _ ?hS16 (fun hHeld=>?_)
       case hS16=>(try dsimp only);exact⟨aa b5 hHeld.1,aa b5 hHeld.2.1,aa b5 hHeld.2.2.1,aa b5 hHeld.2.2.2.1,aa b5 hHeld.2.2.2.2.1,aa b5 hHeld.2.2.2.2.2.1,aa b5 hHeld.2.2.2.2.2.2.1,aa b5 hHeld.2.2.2.2.2.2.2.1,b5⟩
       clear hK K
       (try simp only[Act.put,List.setIfInBounds_toArray,List.set_cons_zero,List.set_cons_succ])
       refine az (v:=?v17) 17 rfl (by kernel_rfl) (by kernel_rfl) (by kernel_rfl) (fun _ _ _ h=>h) (Or.inl ⟨by rfl,?hy17⟩) (by assumption) ?rest17
       case hy17=>(intro w' hSw;(try dsimp only at hSw);go_simp;try with_reducible rfl)
       (try simp only[Act.put,List.setIfInBounds_toArray,List.set_cons_zero,List.set_cons_succ])
       refine wpAnyH_done (by kernel_rfl) ?_ _;have F5:=ab (FXD.out.below b5);have T5:Hid (Two2 w2.heap.size X w5):=ab fun j hj=>b5.block j (by simp;omega);clear FXD b5 TT
       gi_wp2
       exact⟨T5.out,(F,L',v',fv),LQ.out.2.2,F5.out,SK.out,LQ.out.1,LQ.out.2.1⟩
    case done =>
     rintro⟨F,H',v,fv⟩ W hE ⟨FI,SW,-,hl⟩ hs hK;simp only at hE FI SW hl;subst hE;have c7:=FI.fnd;have FIN:=ab (rb FO FI hK);have SWH:=ab SW;clear FI SW
     gi_wp2
     refine lW hK ?_;exact⟨fv,by simp[results,Tryz.results60,go_sem],⟨fv,F,rfl,FIN.out.1,SWH.out.one,SWH.out.tou,by omega,fun _=>SWH.out⟩,FIN.out.2⟩
    case stop =>
     rintro c W ⟨F,H',v,fv,FI,h1,h2,h3,rfl⟩ hs hK;have c7:=FI.fnd;have FIN:=ab (rb FO FI hK);have H12:=ab (And.intro h1 h2);have H3:=ab h3;clear FI h1 h2 h3
     gi_wp2
     refine lW hK ?_;exact⟨fv,by simp[results,Tryz.results60,go_sem],⟨fv,F,rfl,FIN.out.1,H12.out.1,H12.out.2,by have:=H3.out;omega,fun h=>by have:=H3.out;omega⟩,FIN.out.2⟩
end Go.Proofs.YtbnlhdnnenahfaaGreatDoor
