/-
  What the texts FSet, FCode, FBox say, so far as this seat's proofs need it.
-/
import Derived.Test.YtbnlhdnnenahfaaGreatDoorQ7Y
import Derived.Test.YtbnlhdnnenahfaaGreatDoorPIY
import Derived.Test.YtbnlhdnnenahfaaGreatDoorKBsAY
import Derived.Test.YtbnlhdnnenahfaaGreatDoorNNY
set_option maxHeartbeats 8000000
set_option maxRecDepth 20000
namespace Go.Proofs.YtbnlhdnnenahfaaGreatDoor
open Go.RowKit
def inQ (G:List (List (Int×Int)))(x y:Int):Bool:=decide (-2147483648<=x/\x<=2147483648∧-2147483648<=y/\y<=2147483648) && (decide (0<onG G x y) || decide (crG G x y%2=1))
theorem lc {G:List (List (Int×Int))}(hok:bv G){x y:Int}:inQ G x y=true↔InT G x y:=by
 unfold inQ InT ct;simp only[Bool.and_eq_true,Bool.or_eq_true,decide_eq_true_eq];constructor
 · rintro⟨h1,h2⟩;exact⟨hok,by omega,h2⟩
 · rintro⟨_,h1,h2⟩;exact⟨by omega,h2⟩
def inF (G:List (List (Int×Int)))(K:Nat)(x:Int):Bool:=inQ G (poX K (an x) (ao x)) (poY K (an x) (ao x))
def iI (G:List (List (Int×Int)))(K r:Nat)(x:Int):Prop:=(Whole x/\wR x=(r:Int))/\InT G (poX K (an x) (ao x)) (poY K (an x) (ao x))
theorem oI {G:List (List (Int×Int))}(hok:bv G):∃p,p∈G.flatten:=by
 obtain⟨_,_,h0,h3,_⟩:=bI.1 hok;cases G with
 | nil=>exact absurd rfl h0
 | cons L G =>
  have:=h3 L (List.mem_cons_self ..);exact⟨L[0]'(by omega),List.mem_flatten.2 ⟨L,List.mem_cons_self ..,List.getElem_mem _⟩⟩
theorem qM {G:List (List (Int×Int))}(hok:bv G){lo hi:Int×Int}(h:Bx G.flatten lo hi):(0<=lo.1/\0<=lo.2/\hi.1<1073741824/\hi.2<1073741824)/\lo.1<=hi.1/\lo.2<=hi.2:=by
 obtain⟨_,_,_,_,hw⟩:=bI.1 hok;obtain⟨p,hp⟩:=oI hok;obtain⟨h0,⟨p1,m1,e1⟩,⟨p2,m2,e2⟩,⟨p3,m3,e3⟩,⟨p4,m4,e4⟩⟩:=h;have f:∀q∈G.flatten,aW q:=fun q hq=>by
  obtain⟨L,hL,hq⟩:=List.mem_flatten.1 hq;exact hw L hL q hq
 have k:=h0 p hp;have f1:=f p1 m1;have f2:=f p2 m2;have f3:=f p3 m3;have f4:=f p4 m4;unfold aW at f1 f2 f3 f4;omega
theorem Jj {G:List (List (Int×Int))}{lo hi:Int×Int}(h:Bx G.flatten lo hi){x y:Int}(hi':InT G x y):lo.1<=x/\x<=hi.1/\lo.2<=y/\y<=hi.2:=by
 have hm:∀L∈G,∀p∈L,p∈G.flatten:=fun L hL p hp=>List.mem_flatten.2 ⟨L,hL,hp⟩;by_cases c:lo.1<=x/\x<=hi.1/\lo.2<=y/\y<=hi.2
 · exact c
 · exfalso
   have k:=py (G:=G) (x:=x) (y:=y) (by
    by_cases c1:x<lo.1
    · exact .inl fun L hL p hp=>by have:=h.1 p (hm L hL p hp);omega
    · by_cases c2:hi.1<x
      · exact .inr (.inl fun L hL p hp=>by have:=h.1 p (hm L hL p hp);omega)
      · by_cases c3:y<lo.2
        · exact .inr (.inr (.inr fun L hL p hp=>by have:=h.1 p (hm L hL p hp);omega))
        · exact .inr (.inr (.inl fun L hL p hp=>by have:=h.1 p (hm L hL p hp);omega)))
   have:=hi'.2.2;omega
theorem uG {G:List (List (Int×Int))}{lo hi:Int×Int}(h:Bx G.flatten lo hi){K r:Nat}(hK:K<=12){x:Int}:iI G K r x↔(TW K lo.1 lo.2 hi.1 hi.2 x r/\bZ K lo.1 lo.2 hi.1 hi.2 x=true)/\InT G (poX K (an x) (ao x)) (poY K (an x) (ao x)):=by
 constructor
 · rintro⟨⟨h1,h2⟩,h3⟩;have k:=Jj h h3;refine⟨⟨⟨h1,h2,sD ⟨k.1,k.2.1⟩ k.2.2 (zt hK _ _).1⟩,?_⟩,h3⟩;unfold bZ;exact decide_eq_true k
 · rintro⟨⟨⟨h1,h2,_⟩,_⟩,h3⟩;exact⟨⟨h1,h2⟩,h3⟩
def nbL (x:Int):List Int:=ar (wR x).toNat (an x) (ao x) (cH 1)
def opB (L:List Int)(x:Int):Bool:=decide ((nbL x).length<6) || (nbL x).any fun y=> !decide (y∈L)
theorem nK {A B:List Int}(hA:A.Nodup)(hB:B.Nodup)(h:∀x,x∈A↔x∈B):A.length=B.length :=
 Nat.le_antisymm (dJ hA fun x hx=>(h x).1 hx) (dJ hB fun x hx=>(h x).2 hx)
def NbS (x:Int)(N:List Int):Prop:=N.Nodup/\∀y,y∈N↔y∈nbL x
theorem uS {x:Int}{N:List Int}(hN:Rows (wR x).toNat (an x) (ao x) (cH 1) N):NbS x N:=⟨dE hN.2,fun _=>hN.1.mem_iff⟩
theorem zp (x:Int):(nbL x).Nodup:=j0 _ _ (by decide)
theorem uT {x:Int}{N:List Int}(hN:NbS x N):N.length=(nbL x).length:=nK hN.1 (zp x) hN.2
theorem zy {L N:List Int}{x:Int}(hN:NbS x N):opB L x=(decide (N.length<6) || N.any fun y=> !decide (y∈L)):=by
 unfold opB;rw[uT hN];congr 1;refine Bool.eq_iff_iff.2 ?_;rw[List.any_eq_true,List.any_eq_true];exact⟨fun⟨y,h1,h2⟩=>⟨y,(hN.2 y).2 h1,h2⟩,fun⟨y,h1,h2⟩=>⟨y,(hN.2 y).1 h1,h2⟩⟩
theorem rB {x:Int}{N:List Int}(hN:NbS x N):N.length<=6:=by
 rw[uT hN];exact dm _ _ _ _
theorem fO {G:List (List (Int×Int))}(hok:bv G):G.length<=1000000/\∀M∈G,M.length<=1000000 :=
 ⟨by have:=(bI.1 hok).1;omega,fun M hM=>by have:=dO hM;have:=(bI.1 hok).2.1;omega⟩
theorem E4 (sG:Value)(G:List (List (Int×Int)))(hok:bv G)(x:Int)(hx:Whole x)(K:Nat)(hK:K<=12)(hr:12-wR x=(K:Int))(w:World)(hG:RingsL w sG G)(hT:Tabs w) :
 Calls Tryz.prog 30 #[sG,.int .u64 x] w fun e w'=>e=.returned (.bool (inF G K x))/\Below w.heap.size w w':=by
 have CE:=ab (px x hx w hT);have pt4:=ce (cI hx);have PO:=ab fun w=>lY (an x) (ao x) (wR x) K hK hr ⟨by omega,by omega⟩ ⟨by omega,by omega⟩ w;have IN:=ab fun w h=>CU sG G (poX K (an x) (ao x)) (poY K (an x) (ao x)) (inQ G _ _) (lc hok) (fO hok).1 (fO hok).2 w h;have hc:Hid (inQ G (poX K (an x) (ao x)) (poY K (an x) (ao x))=inF G K x):=ab rfl;rw[hc.out]at IN;have HG:=ab hG;clear hc pt4 hr hK hx hT hok hG;generalize poX K (an x) (ao x)=X at *;generalize poY K (an x) (ao x)=Y at *;generalize an x=a at *;generalize ao x=b at *;generalize wR x=rr at *;generalize inF G K x=cb at *
 go_enter Tryz.func30,Tryz.ntmps30
 go_wp2_with fail;refine CE.out.mono ?_;rintro e w1 ⟨rfl,b1⟩;have B1:=ab (ae b1 (ag w1 (.cells #[.int .i64 rr,.int .i64 a,.int .i64 b] 39)));clear CE b1;go_wp2_with fail;generalize w1.alloc (.cells #[.int .i64 rr,.int .i64 a,.int .i64 b] 39)=w2 at *;refine(PO.out _).mono ?_;rintro e w3 ⟨rfl,b3⟩;have B3:=ab (ae B1.out b3);clear PO b3 B1;go_wp2_with fail;refine(IN.out _ (HG.out.keep B3.out)).mono ?_;rintro e w4 ⟨rfl,b4⟩;have B4:=ab (ae B3.out b4);clear IN b4 B3 HG;go_wp2_with fail;go_ret;exact⟨rfl,B4.out⟩
def GZ (v:Value)(f:Int->Bool)(L:List Int)(W:World):Prop:=∀x∈L,∀w,Below W.heap.size W w->Calls Tryz.prog 30 #[v,.int .u64 x] w fun e w'=>e=.returned (.bool (f x))/\Below w.heap.size w w'
theorem E7 (v:Value)(f:Int->Bool)(s:Value)(L:List Int)(hn:L.length<=40000)(w:World)(hv:GZ v f L w)(h:RowAt 0 w s L) :
 Calls Tryz.prog 29 #[s,.func (.func 30) #[v] #[]] w fun e w'=>(∃v,e=.returned v/\w'.ownsRow w.heap.size 35 1 v (L.filter f).length (aj (L.filter f)))/\Below w.heap.size w w':=by
 obtain⟨p,cap,rfl,hp⟩:=h.form;obtain⟨n,en⟩:∃n,L.length=n:=⟨_,rfl⟩
 have EN:=ab en;have HP:=ab hp;have HV:=ab hv;obtain⟨i0,hi,hz0,hz1,hz2⟩:=info_parts ca;rw[en]at hn ⊢;clear hp h en hv
 go_enter Tryz.func29,Tryz.ntmps29
 go_wp2_with fail;go_loopw [5,10] (fun v5 v10 wr=>∃(i:Nat) (M:List Int),i<=n/\v10=.int .i64 (i:Int)/\Hid (M=(L.take i).filter f)/\M.length<=i/\Hid (wr.ownsRow w.heap.size 35 1 v5 M.length (aj M))/\Hid (Below w.heap.size w wr)) (fun _ v10 _=>n-(intOf v10).toNat)
 case atStart=>exact⟨0,[],by omega,rfl,ab rfl,by simp,ab (World.ownsRow_nil _ _ _ _),ab (Below.refl _ _)⟩
 case round =>
  obtain⟨i,M,hin,rfl,hM,hMl,hO,hB⟩:=hrel;obtain⟨p7,c7,rfl,-⟩:=aA hO.out;by_cases hlt:i<n
  · have hlt':(i:Int)<(n:Int):=by omega
    obtain⟨g,rfl,x1⟩:=HP.out i (by rw[EN.out];exact hlt);have hiL:i<L.length:=by rw[EN.out];exact hlt
    replace x1:=aa hB.out x1;have SN:Hid ((L.take (i+1)).filter f=M++(if f L[i]then [L[i]]else [])):=ab (by
     rw[List.take_succ_eq_append_getElem hiL,List.filter_append,←hM.out];congr 1;rw[List.filter_cons]
     split <;>simp)
    have AS:=ab (HV.out _ (List.getElem_mem hiL) wr hB.out);clear hM HV;generalize L[i]=x at *;generalize f x=cb at *;cases cb
    · have SN2:Hid (M=(L.take (i+1)).filter f):=ab (by rw[SN.out];simp);clear SN;go_wp2_with fail;refine AS.out.mono ?_;rintro e w4 ⟨rfl,b4⟩;have O4:=ab (ai b4 hO.out);have B4:=ab (hB.out.trans (b4.mono hB.out.size));clear AS b4 hO hB x1;go_wp2_with fail;go_roundw
      case rel=>exact⟨i+1,M,by omega,by go_num,SN2,by omega,O4,B4⟩
      case measure=>simp[intOf];omega
    · have SN2:Hid (M++[x]=(L.take (i+1)).filter f):=ab (by rw[SN.out];rfl);clear SN;go_wp2_with fail;refine AS.out.mono ?_;rintro e w4 ⟨rfl,b4⟩;have O4:=ab (ai b4 hO.out);have B4:=ab (hB.out.trans (b4.mono hB.out.size));have hs4:=B4.out.size;clear AS b4 hO hB x1;go_wp2_with (at_builtin;refine wpList_append_own _ rfl (.tmp 17) (.tmp 19) 22 rfl w.heap.size 35 i0 (.int .u64 0) 1 8 Tryz.underlying22 hi hz0 hz1 hz2 rfl (by decide) _ _ _ rfl (ai (ag _ _) O4.out) ⟨w4.heap.size,0,none⟩ 1 1 [.int .u64 x] rfl rfl (bf _ _ rfl _ _) (bK _ _) (by unfold maxLen;omega) (by omega) (by simp;omega) ?_)
      intro v' w5 hown hgrow _;have O5:Hid (w5.ownsRow w.heap.size 35 1 v' (M++[x]).length (aj (M++[x]))):=ab (by
       have e1:(M++[x]).length=M.length+1:=by simp
       have e2:aj (M++[x])=aj M++[.int .u64 x]:=by simp[aj]
       rw[e1,e2];exact hown)
      have B5:=ab ((B4.out.trans ((ag w4 (.cells #[.int .u64 x] 35)).mono hs4)).grown hgrow (by simp;omega) (fun k hk=>aM O4.out k hk));clear hown hgrow;go_wp2;go_roundw
      case rel=>exact⟨i+1,M++[x],by omega,by go_num,SN2,by simp;omega,O5,B5⟩
      case measure=>simp[intOf];omega
  · obtain rfl:i=n:=by omega
    have hlt':decide ((i:Int)<(i:Int))=false:=by simp
    have e:M=L.filter f:=by rw[hM.out,List.take_of_length_le (by rw[EN.out];omega)]
    subst e;clear hM hlt;go_wp2_with fail;go_ret;exact⟨⟨_,rfl,hO.out⟩,hB.out⟩
def Ep (C:Nat)(G:List (List (Int×Int)))(K r:Nat)(e:Ending)(w':World):Prop :=
 ∃(v:Value) (L:List Int),e=.returned (.tuple #[v,.int .i64 0])/\L.length<=20000/\aq L/\(∀x,x∈L↔iI G K r x)/\w'.ownsRow C 35 1 v L.length (aj L)
theorem nc (sG:Value)(G:List (List (Int×Int)))(hok:bv G)(lo hi:Int×Int)(hbx:Bx G.flatten lo hi)(r K:Nat)(hK:K<=12)(hr:12-(r:Int)=(K:Int))(hfew:¬Many K lo.1 lo.2 hi.1 hi.2 r 20000)(w:World)(hG:RingsL w sG G)(hT:Cov3 w) :
 Calls Tryz.prog 8 #[sG,.int .i64 (r:Int)] w fun e w'=>Ep w.heap.size G K r e w'/\Below w.heap.size w w':=by
 have hsz:=fO hok;have CK:Hid (∀w,RingsL w sG G->Calls Tryz.prog 27 #[sG] w fun e w'=>e=.returned (.int .i64 0)/\Below w.heap.size w w'):=ab fun w h =>
  (lj sG G hsz.1 hsz.2 w h).mono fun e w' ⟨⟨t,he,ht⟩,hb⟩=>⟨by rw[he,(bV ht).2 hok],hb⟩
 have BX:Hid (∀w,RingsL w sG G->Calls Tryz.prog 28 #[sG] w fun e w'=>e=.returned (.tuple #[.agg #[.int .i64 lo.1,.int .i64 lo.2],.agg #[.int .i64 hi.1,.int .i64 hi.2]])/\Below w.heap.size w w'):=ab fun w h =>
  (zI sG G hsz.1 hsz.2 w h).mono fun e w' ⟨⟨lo',hi',he,ht⟩,hb⟩=>⟨by
    obtain⟨e1,e2⟩:=BoxT.one ht (.inl ⟨hok,hbx⟩);rw[he,e1,e2],hb⟩
 have hwo:=qM hok hbx;have CC:Hid (∀w,Cov3 w->Calls Tryz.prog 9 #[.agg #[.int .i64 lo.1,.int .i64 lo.2],.agg #[.int .i64 hi.1,.int .i64 hi.2],.int .i64 (r:Int)] w fun e w'=>(∃s L,e=.returned (.tuple #[s,.int .i64 0])/\RowAt 0 w' s L/\aq L/\(∀x,x∈L↔TW K lo.1 lo.2 hi.1 hi.2 x r/\bZ K lo.1 lo.2 hi.1 hi.2 x=true)/\L.length<=20000)/\Below w.heap.size w w'):=ab fun w h =>
  (qn lo.1 lo.2 hi.1 hi.2 r K hK hr hwo.1.1 hwo.1.2.1 hwo.1.2.2.1 hwo.1.2.2.2 hwo.2.1 hwo.2.2 w h).mono fun e w' ⟨⟨h1,_⟩,hb⟩=>⟨h1.row hfew,hb⟩
 have KP:Hid (∀(s:Value) (L:List Int),L.length<=20000->(∀x∈L,Whole x/\wR x=(r:Int))->∀w,RingsL w sG G->Cov3 w->RowAt 0 w s L->Calls Tryz.prog 29 #[s,.func (.func 30) #[sG] #[]] w fun e w'=>(∃v,e=.returned v/\w'.ownsRow w.heap.size 35 1 v (L.filter (inF G K)).length (aj (L.filter (inF G K))))/\Below w.heap.size w w'):=ab fun s L hL hW w hG hT h =>
  E7 sG (inF G K) s L (by omega) w (fun x hx w' hb=>E4 sG G hok x (hW x hx).1 K hK (by rw[(hW x hx).2];exact hr) w' (hG.keep hb) (hT.1.below hb)) h
 have FN:Hid (∀L:List Int,aq L->(∀x,x∈L↔TW K lo.1 lo.2 hi.1 hi.2 x r/\bZ K lo.1 lo.2 hi.1 hi.2 x=true)->L.length<=20000->(∀x∈L,Whole x/\wR x=(r:Int))/\(L.filter (inF G K)).length<=20000/\aq (L.filter (inF G K))/\∀x,x∈L.filter (inF G K)↔iI G K r x):=ab fun L h1 h2 h3 =>
  ⟨fun x hx=>⟨((h2 x).1 hx).1.1,((h2 x).1 hx).1.2.1⟩,Nat.le_trans (List.length_filter_le _ _) h3,h1.filter _,fun x=>by
    rw[List.mem_filter,h2 x,uG hbx hK];unfold inF;rw[lc hok]⟩
 have HG:=ab hG;have HT:=ab hT;obtain⟨pG,cG,rfl,-,-⟩:=hG;obtain⟨nG,enG⟩:∃nG,G.length=nG:=⟨_,rfl⟩
 rw[enG]at HG CK BX KP ⊢;clear hsz hwo hok hbx hK hr hfew hT enG;obtain⟨l1,l2⟩:=lo;obtain⟨u1,u2⟩:=hi;dsimp only at BX CC FN
 go_enter Tryz.func8,Tryz.ntmps8
 go_wp2_with fail;refine(CK.out _ HG.out).mono ?_;rintro e w1 ⟨rfl,b1⟩;have B1:=ab b1;clear CK b1;go_wp2_with fail;refine(BX.out _ (HG.out.keep B1.out)).mono ?_;rintro e w2 ⟨rfl,b2⟩;have B2:=ab (ae (ae (ae B1.out b2) (ag w2 (.cells #[.int .i64 l1,.int .i64 l2] 26))) (ag _ (.cells #[.int .i64 u1,.int .i64 u2] 26)));clear BX b2 B1;go_wp2_with fail;generalize (w2.alloc (.cells #[.int .i64 l1,.int .i64 l2] 26)).alloc (.cells #[.int .i64 u1,.int .i64 u2] 26)=w3 at *;refine(CC.out _ (HT.out.below B2.out)).mono ?_;rintro e w4 ⟨⟨s,L,rfl,h1,h2,h3,h4⟩,b4⟩;have B4:=ab (ae B2.out b4);have FL:=ab (FN.out L h2 h3 h4);have KK:=ab (KP.out s L h4 FL.out.1 _ (HG.out.keep B4.out) (HT.out.below B4.out) h1);clear CC b4 B2 FN KP h1 h2 h3 h4;generalize L.filter (inF G K)=M at *;go_wp2_with fail;refine KK.out.mono ?_;rintro e w5 ⟨⟨v,rfl,ho⟩,b5⟩;have B5:=ab (ae B4.out b5);have O5:=ab (bo ho B4.out.size);clear KK b5 B4 ho;go_wp2_with fail
 go_ret2
 exact⟨⟨_,M,rfl,FL.out.2.1,FL.out.2.2.1,FL.out.2.2.2,O5.out⟩,B5.out⟩
theorem ng (sG:Value)(G:List (List (Int×Int)))(r t:Int)(ht:ChkG G t)(h0:t≠0)(hn:G.length<=1000000)(hl:∀L∈G,L.length<=140737488355328)(w:World)(hG:RingsL w sG G) :
 Calls Tryz.prog 8 #[sG,.int .i64 r] w fun e w'=>e=.returned (.tuple #[.slice none 0 0,.int .i64 t])/\Below w.heap.size w w':=by
 have CK:Hid (∀w,RingsL w sG G->Calls Tryz.prog 27 #[sG] w fun e w'=>e=.returned (.int .i64 t)/\Below w.heap.size w w'):=ab fun w h =>
  (rH sG G hn hl w h).mono fun e w' ⟨⟨t',he,ht'⟩,hb⟩=>⟨by rw[he,ht'.one ht],hb⟩
 have h0':(t == 0)=false:=by simpa using h0
 have h02:decide (t=0)=false:=by simpa using h0
 have HG:=ab hG;obtain⟨pG,cG,rfl,-,-⟩:=hG;clear ht hn hl;generalize G.length=nG at *
 go_enter Tryz.func8,Tryz.ntmps8
 go_wp2_with fail;refine(CK.out _ HG.out).mono ?_;rintro e w1 ⟨rfl,b1⟩;clear CK;go_wp2_with fail
 go_ret2
 exact⟨rfl,b1⟩
theorem wI (sG:Value)(G:List (List (Int×Int)))(hok:bv G)(lo hi:Int×Int)(hbx:Bx G.flatten lo hi)(r t:Int)(ht:j7 lo.1 lo.2 hi.1 hi.2 r t)(h0:t≠0)(w:World)(hG:RingsL w sG G) :
 Calls Tryz.prog 8 #[sG,.int .i64 r] w fun e w'=>e=.returned (.tuple #[.slice none 0 0,.int .i64 t])/\Below w.heap.size w w':=by
 have hsz:=fO hok;have CK:Hid (∀w,RingsL w sG G->Calls Tryz.prog 27 #[sG] w fun e w'=>e=.returned (.int .i64 0)/\Below w.heap.size w w'):=ab fun w h =>
  (lj sG G hsz.1 hsz.2 w h).mono fun e w' ⟨⟨t,he,ht⟩,hb⟩=>⟨by rw[he,(bV ht).2 hok],hb⟩
 have BX:Hid (∀w,RingsL w sG G->Calls Tryz.prog 28 #[sG] w fun e w'=>e=.returned (.tuple #[.agg #[.int .i64 lo.1,.int .i64 lo.2],.agg #[.int .i64 hi.1,.int .i64 hi.2]])/\Below w.heap.size w w'):=ab fun w h =>
  (zI sG G hsz.1 hsz.2 w h).mono fun e w' ⟨⟨lo',hi',he,ht⟩,hb⟩=>⟨by
    obtain⟨e1,e2⟩:=BoxT.one ht (.inl ⟨hok,hbx⟩);rw[he,e1,e2],hb⟩
 have CC:=ab fun w=>qm lo.1 lo.2 hi.1 hi.2 r t ht h0 w;have h0':(t == 0)=false:=by simpa using h0
 have h02:decide (t=0)=false:=by simpa using h0
 have HG:=ab hG;obtain⟨pG,cG,rfl,-,-⟩:=hG;obtain⟨nG,enG⟩:∃nG,G.length=nG:=⟨_,rfl⟩
 rw[enG]at HG CK BX ⊢;clear hsz hok hbx ht enG;obtain⟨l1,l2⟩:=lo;obtain⟨u1,u2⟩:=hi;dsimp only at BX CC
 go_enter Tryz.func8,Tryz.ntmps8
 go_wp2_with fail;refine(CK.out _ HG.out).mono ?_;rintro e w1 ⟨rfl,b1⟩;have B1:=ab b1;clear CK b1;go_wp2_with fail;refine(BX.out _ (HG.out.keep B1.out)).mono ?_;rintro e w2 ⟨rfl,b2⟩;have B2:=ab (ae (ae (ae B1.out b2) (ag w2 (.cells #[.int .i64 l1,.int .i64 l2] 26))) (ag _ (.cells #[.int .i64 u1,.int .i64 u2] 26)));clear BX b2 B1;go_wp2_with fail;generalize (w2.alloc (.cells #[.int .i64 l1,.int .i64 l2] 26)).alloc (.cells #[.int .i64 u1,.int .i64 u2] 26)=w3 at *;refine(CC.out _).mono ?_;rintro e w4 ⟨⟨p4,c4,rfl⟩,b4⟩;have B4:=ab (ae B2.out b4);clear CC b4 B2;go_wp2_with fail
 go_ret2
 exact⟨rfl,B4.out⟩
theorem E9 (s:Value)(L:List Int)(x:Int)(hR:aq L)(hn:L.length<=20000)(w:World)(hl:Lst w s L) :
 Calls Tryz.prog 68 #[s,.int .u64 x] w fun e w'=>e=.returned (.bool (!decide (x∈L)))/\Below w.heap.size w w':=by
 have BS:=ab (xV s L x hR (by omega) w hl);clear hl hR hn;generalize decide (x∈L)=t at *
 go_enter Tryz.func68,Tryz.ntmps68
 go_wp2_with fail;refine BS.out.mono ?_;rintro e w1 ⟨⟨k,rfl⟩,rfl⟩;clear BS;go_wp2_with fail;go_ret;exact⟨rfl,Below.refl _ _⟩
theorem ym {f:Int->Bool}{L:List Int}{j:Nat}(hj:j<L.length)(h:(L.take j).any f=false):(f L[j]=true->L.any f=true)/\(f L[j]=false->(L.take (j+1)).any f=false):=by
 constructor
 · intro k;exact List.any_eq_true.2 ⟨_,List.getElem_mem hj,k⟩
 · intro k;rw[List.take_add_one,List.getElem?_eq_getElem hj,List.any_append,h]
   simpa using k
theorem E5 (s:Value)(L:List Int)(hR:aq L)(hn:L.length<=20000)(v:Value)(N:List Int)(hm:N.length<=1000)(w:World)(hl:Lst w s L)(h:RowAt 0 w v N) :
 Calls Tryz.prog 108 #[v,.func (.func 68) #[s] #[]] w fun e w'=>(∃k:Int,e=.returned (.int .i64 k)/\decide (0<=k)=N.any fun y=> !decide (y∈L))/\Below w.heap.size w w':=by
 have LK:=ab fun x w h=>E9 s L x hR hn w h;have HL:=ab hl;obtain⟨p,c,rfl,hp⟩:=h.form;obtain⟨n,en⟩:∃n,N.length=n:=⟨_,rfl⟩
 have EN:=ab en;have HP:=ab hp;rw[en]at hm ⊢;obtain⟨ps,cs,rfl,-,-⟩:=hl;obtain⟨f,ef⟩:∃f:Int->Bool,(fun y=> !decide (y∈L))=f:=⟨_,rfl⟩
 have LK2:Hid (∀x w,Lst w (.slice ps L.length cs) L->Calls Tryz.prog 68 #[.slice ps L.length cs,.int .u64 x] w fun e w'=>e=.returned (.bool (f x))/\Below w.heap.size w w'):=ab fun x w h=>by rw[←ef];exact LK.out x w h
 rw[ef];clear hp h en hR hn LK ef;generalize L.length=ll at *
 go_enter Tryz.func108,Tryz.ntmps108
 go_wp2;go_loopw [8] (fun v8 wr=>∃j:Nat,j<=n/\v8=.int .i64 (j:Int)/\Hid ((N.take j).any f=false)/\Hid (Below w.heap.size w wr)) (fun v8 _=>n-(intOf v8).toNat)
 case atStart=>exact⟨0,by omega,rfl,ab (by simp),ab (Below.refl _ _)⟩
 case round =>
  obtain⟨j,hj,rfl,TK,B⟩:=hrel;by_cases hjn:j<n
  · have hj':(j:Int)<(n:Int):=by omega
    have hjL:j<N.length:=by rw[EN.out];exact hjn
    obtain⟨g,rfl,y0⟩:=HP.out j hjL;replace y0:=aa B.out y0;have K1:=ab (LK2.out N[j] wr (HL.out.keep B.out));have ST:=ab (ym (f:=f) hjL TK.out);clear LK2;generalize N[j]=y at *;generalize f y=t at *;cases t
    · go_wp2_with fail;refine K1.out.mono ?_;rintro r w1 ⟨rfl,b1⟩;have B1:=ab (ae B.out b1);clear y0 K1 b1;go_wp2;go_roundw
      case rel=>exact⟨j+1,by omega,by go_num,ab (ST.out.2 (by simp)),B1⟩
      case measure=>simp[intOf];omega
    · go_wp2_with fail;refine K1.out.mono ?_;rintro r w1 ⟨rfl,b1⟩;have B1:=ab (ae B.out b1);clear y0 K1 b1;go_wp2;go_ret;exact⟨⟨_,rfl,by rw[ST.out.1 (by simp)];simp⟩,B1.out⟩
  · obtain rfl:j=n:=by omega
    have hj':decide ((j:Int)<(j:Int))=false:=by simp
    have e:N.any f=false:=by have:=TK.out;rwa [List.take_of_length_le (by rw[EN.out];omega)]at this
    have E:=ab e;clear e TK;go_wp2;go_ret;exact⟨⟨_,rfl,by rw[E.out];rfl⟩,B.out⟩
theorem Hm (s:Value)(L:List Int)(hR:aq L)(hn:L.length<=20000)(v:Value)(N:List Int)(hm:N.length<=1000)(w:World)(hl:Lst w s L)(h:RowAt 0 w v N) :
 Calls Tryz.prog 67 #[v,.func (.func 68) #[s] #[]] w fun e w'=>e=.returned (.bool (N.any fun y=> !decide (y∈L)))/\Below w.heap.size w w':=by
 have QI:=ab (E5 s L hR hn v N hm w hl h);obtain⟨p,c,rfl,-⟩:=h.form;obtain⟨ps,cs,rfl,-,-⟩:=hl;clear h hR hn;generalize (N.any fun y=> !decide (y∈L))=t at *;generalize N.length=ln at *;generalize L.length=ll at *
 go_enter Tryz.func67,Tryz.ntmps67
 go_wp2_with fail;refine QI.out.mono ?_;rintro r w1 ⟨⟨n,rfl,hd⟩,b1⟩;have HD:=ab hd;clear hd QI;go_wp2;go_ret;exact⟨by rw[←HD.out];rfl,b1⟩
theorem Hk (s:Value)(L:List Int)(hR:aq L)(hn:L.length<=20000)(x:Int)(hx:Whole x)(w:World)(hl:Lst w s L)(hT:Tabs w) :
 Calls Tryz.prog 41 #[s,.int .u64 x] w fun e w'=>e=.returned (.bool (opB L x))/\Below w.heap.size w w':=by
 have NE:=ab (xb x hx w hT);have SO:=ab fun v N hm w h1 h2=>Hm s L hR hn v N hm w h1 h2;have HL:=ab hl;obtain⟨ps,cs,rfl,-,-⟩:=hl;have OB:=ab fun N (hN:NbS x N)=>zy (L:=L) hN;have NL:=ab fun N (hN:NbS x N)=>rB hN;clear hR hn hT;obtain⟨ll,el⟩:∃ll,L.length=ll:=⟨_,rfl⟩
 rw[el]at SO HL ⊢;clear el;generalize opB L x=t at *
 go_enter Tryz.func41,Tryz.ntmps41
 go_wp2_with fail;refine NE.out.mono ?_;rintro r w1 ⟨⟨N,⟨v,rfl,hv⟩,hN⟩,b1⟩;have h6:=NL.out N (uS hN);have OB1:=ab (OB.out N (uS hN));have S1:=ab (SO.out v N (by omega) w1 (HL.out.keep b1) (hv.mono (Nat.zero_le _)));have B1:=ab b1;obtain⟨p,c,rfl,-⟩:=hv.form;obtain⟨n,en⟩:∃n,N.length=n:=⟨_,rfl⟩
 rw[en]at h6 OB1 S1 ⊢;clear NE SO OB NL hN b1 hv en;generalize (N.any fun y=> !decide (y∈L))=q at *;by_cases h5:n<6
 · have h5':(n:Int)<6:=by omega
   have hd:decide ((n:Int)<6)=true:=decide_eq_true h5';obtain rfl:t=true:=by rw[OB1.out,decide_eq_true h5,Bool.true_or]
   clear OB1 S1;go_wp2_with fail;go_ret;exact⟨rfl,B1.out⟩
 · have hd:decide ((n:Int)<6)=false:=decide_eq_false (by omega);obtain rfl:t=q:=by rw[OB1.out,decide_eq_false h5,Bool.false_or]
   clear OB1;go_wp2_with fail;refine S1.out.mono ?_;rintro r w2 ⟨rfl,b2⟩;have B2:=ab (ae B1.out b2);clear S1 b2;go_wp2_with fail;go_ret;exact⟨rfl,B2.out⟩
def G6 (v:Value)(f:Int->Bool)(L:List Int)(W:World):Prop:=∀x∈L,∀w,Below W.heap.size W w->Calls Tryz.prog 41 #[v,.int .u64 x] w fun e w'=>e=.returned (.bool (f x))/\Below w.heap.size w w'
theorem E8 (v:Value)(f:Int->Bool)(s:Value)(L:List Int)(hn:L.length<=40000)(w:World)(hv:G6 v f L w)(h:RowAt 0 w s L) :
 Calls Tryz.prog 29 #[s,.func (.func 41) #[v] #[]] w fun e w'=>(∃v,e=.returned v/\w'.ownsRow w.heap.size 35 1 v (L.filter f).length (aj (L.filter f)))/\Below w.heap.size w w':=by
 obtain⟨p,cap,rfl,hp⟩:=h.form;obtain⟨n,en⟩:∃n,L.length=n:=⟨_,rfl⟩
 have EN:=ab en;have HP:=ab hp;have HV:=ab hv;obtain⟨i0,hi,hz0,hz1,hz2⟩:=info_parts ca;rw[en]at hn ⊢;clear hp h en hv
 go_enter Tryz.func29,Tryz.ntmps29
 go_wp2_with fail;go_loopw [5,10] (fun v5 v10 wr=>∃(i:Nat) (M:List Int),i<=n/\v10=.int .i64 (i:Int)/\Hid (M=(L.take i).filter f)/\M.length<=i/\Hid (wr.ownsRow w.heap.size 35 1 v5 M.length (aj M))/\Hid (Below w.heap.size w wr)) (fun _ v10 _=>n-(intOf v10).toNat)
 case atStart=>exact⟨0,[],by omega,rfl,ab rfl,by simp,ab (World.ownsRow_nil _ _ _ _),ab (Below.refl _ _)⟩
 case round =>
  obtain⟨i,M,hin,rfl,hM,hMl,hO,hB⟩:=hrel;obtain⟨p7,c7,rfl,-⟩:=aA hO.out;by_cases hlt:i<n
  · have hlt':(i:Int)<(n:Int):=by omega
    obtain⟨g,rfl,x1⟩:=HP.out i (by rw[EN.out];exact hlt);have hiL:i<L.length:=by rw[EN.out];exact hlt
    replace x1:=aa hB.out x1;have SN:Hid ((L.take (i+1)).filter f=M++(if f L[i]then [L[i]]else [])):=ab (by
     rw[List.take_succ_eq_append_getElem hiL,List.filter_append,←hM.out];congr 1;rw[List.filter_cons]
     split <;>simp)
    have AS:=ab (HV.out _ (List.getElem_mem hiL) wr hB.out);clear hM HV;generalize L[i]=x at *;generalize f x=cb at *;cases cb
    · have SN2:Hid (M=(L.take (i+1)).filter f):=ab (by rw[SN.out];simp);clear SN;go_wp2_with fail;refine AS.out.mono ?_;rintro e w4 ⟨rfl,b4⟩;have O4:=ab (ai b4 hO.out);have B4:=ab (hB.out.trans (b4.mono hB.out.size));clear AS b4 hO hB x1;go_wp2_with fail;go_roundw
      case rel=>exact⟨i+1,M,by omega,by go_num,SN2,by omega,O4,B4⟩
      case measure=>simp[intOf];omega
    · have SN2:Hid (M++[x]=(L.take (i+1)).filter f):=ab (by rw[SN.out];rfl);clear SN;go_wp2_with fail;refine AS.out.mono ?_;rintro e w4 ⟨rfl,b4⟩;have O4:=ab (ai b4 hO.out);have B4:=ab (hB.out.trans (b4.mono hB.out.size));have hs4:=B4.out.size;clear AS b4 hO hB x1;go_wp2_with (at_builtin;refine wpList_append_own _ rfl (.tmp 17) (.tmp 19) 22 rfl w.heap.size 35 i0 (.int .u64 0) 1 8 Tryz.underlying22 hi hz0 hz1 hz2 rfl (by decide) _ _ _ rfl (ai (ag _ _) O4.out) ⟨w4.heap.size,0,none⟩ 1 1 [.int .u64 x] rfl rfl (bf _ _ rfl _ _) (bK _ _) (by unfold maxLen;omega) (by omega) (by simp;omega) ?_)
      intro v' w5 hown hgrow _;have O5:Hid (w5.ownsRow w.heap.size 35 1 v' (M++[x]).length (aj (M++[x]))):=ab (by
       have e1:(M++[x]).length=M.length+1:=by simp
       have e2:aj (M++[x])=aj M++[.int .u64 x]:=by simp[aj]
       rw[e1,e2];exact hown)
      have B5:=ab ((B4.out.trans ((ag w4 (.cells #[.int .u64 x] 35)).mono hs4)).grown hgrow (by simp;omega) (fun k hk=>aM O4.out k hk));clear hown hgrow;go_wp2;go_roundw
      case rel=>exact⟨i+1,M++[x],by omega,by go_num,SN2,by simp;omega,O5,B5⟩
      case measure=>simp[intOf];omega
  · obtain rfl:i=n:=by omega
    have hlt':decide ((i:Int)<(i:Int))=false:=by simp
    have e:M=L.filter f:=by rw[hM.out,List.take_of_length_le (by rw[EN.out];omega)]
    subst e;clear hM hlt;go_wp2_with fail;go_ret;exact⟨⟨_,rfl,hO.out⟩,hB.out⟩
def Eo (C:Nat)(G:List (List (Int×Int)))(K r:Nat)(e:Ending)(w':World):Prop :=
 ∃(v:Value) (L:List Int),e=.returned (.tuple #[v,.int .i64 0])/\L.length<=20000/\aq L/\(∀x,x∈L↔iI G K r x)/\w'.ownsRow C 35 1 v (L.filter (opB L)).length (aj (L.filter (opB L)))
theorem Bu (sG:Value)(G:List (List (Int×Int)))(hok:bv G)(lo hi:Int×Int)(hbx:Bx G.flatten lo hi)(r K:Nat)(hK:K<=12)(hr:12-(r:Int)=(K:Int))(hfew:¬Many K lo.1 lo.2 hi.1 hi.2 r 20000)(w:World)(hG:RingsL w sG G)(hT:Cov3 w) :
 Calls Tryz.prog 20 #[sG,.int .i64 (r:Int)] w fun e w'=>Eo w.heap.size G K r e w'/\Below w.heap.size w w':=by
 have FI:=ab (nc sG G hok lo hi hbx r K hK hr hfew w hG hT);have KP:Hid (∀(s:Value) (L:List Int),L.length<=20000->aq L->(∀x∈L,Whole x)->∀w,Cov3 w->RowAt 0 w s L->Lst w s L->Calls Tryz.prog 29 #[s,.func (.func 41) #[s] #[]] w fun e w'=>(∃v,e=.returned v/\w'.ownsRow w.heap.size 35 1 v (L.filter (opB L)).length (aj (L.filter (opB L))))/\Below w.heap.size w w'):=ab fun s L hL hR hW w hT h hl =>
  E8 s (opB L) s L (by omega) w (fun x hx w' hb=>Hk s L hR hL x (hW x hx) w' (hl.keep hb) (hT.1.below hb)) h
 have HT:=ab hT;obtain⟨pG,cG,rfl,-,-⟩:=hG;clear hok hbx hK hr hfew hT;generalize G.length=nG at *
 go_enter Tryz.func20,Tryz.ntmps20
 go_wp2_with fail;refine FI.out.mono ?_;rintro e w1 ⟨⟨v,L,rfl,h1,h2,h3,h4⟩,b1⟩;have B1:=ab b1;have KK:=ab (KP.out v L h1 h2 (fun x hx=>((h3 x).1 hx).1.1) w1 (HT.out.below b1) ((fh h4).mono (Nat.zero_le _)) (Lst.own h4));have FF:=ab (And.intro h1 (And.intro h2 h3));obtain⟨p4,c4,rfl,-⟩:=aA h4;clear FI KP b1 h1 h2 h3 h4;generalize L.length=ll at KK ⊢;go_wp2_with fail;refine KK.out.mono ?_;rintro e w2 ⟨⟨v2,rfl,ho⟩,b2⟩;have B2:=ab (ae B1.out b2);have O2:=ab (bo ho B1.out.size);clear KK b2 ho;go_wp2_with fail
 go_ret2
 exact⟨⟨_,L,rfl,FF.out.1,FF.out.2.1,FF.out.2.2,O2.out⟩,B2.out⟩
def Es (C:Nat)(G:List (List (Int×Int)))(K r:Nat)(e:Ending)(w':World):Prop :=
 ∃(v:Value) (L P:List Int),e=.returned (.tuple #[v,.int .i64 0])/\L.length<=20000/\aq L/\(∀x,x∈L↔iI G K r x)/\Packed r L P/\P.length<=L.length/\w'.ownsRow C 35 1 v P.length (aj P)
theorem By (sG:Value)(G:List (List (Int×Int)))(hok:bv G)(lo hi:Int×Int)(hbx:Bx G.flatten lo hi)(r K:Nat)(hK:K<=12)(hr:12-(r:Int)=(K:Int))(hfew:¬Many K lo.1 lo.2 hi.1 hi.2 r 20000)(w:World)(hG:RingsL w sG G)(hT:Cov3 w) :
 Calls Tryz.prog 21 #[sG,.int .i64 (r:Int)] w fun e w'=>Es w.heap.size G K r e w'/\Below w.heap.size w w':=by
 have FI:=ab (nc sG G hok lo hi hbx r K hK hr hfew w hG hT);have KP:Hid (∀(s:Value) (L:List Int),L.length<=20000->(∀x∈L,Whole x/\wR x=(r:Int))->∀w,Lst w s L->Calls Tryz.prog 42 #[s] w fun e w'=>(∃(sl:Value) (P:List Int),e=.returned (.tuple #[sl,.int .i64 0])/\Packed r L P/\P.length<=L.length/\w'.ownsRow w.heap.size 35 1 sl P.length (aj P))/\Below w.heap.size w w'):=ab fun s L hL hW w hl =>
  (zB s L (by omega) (fun x hx=>by have:=aC (hW x hx).1;exact ⟨by omega,by omega⟩) w hl).mono fun e w' ⟨h,hb⟩=>by
    obtain⟨sl,P,he,h1,h2,_,_,h3⟩:=uh hW hL h;exact⟨⟨sl,P,he,h1,h2,h3⟩,hb⟩
 obtain⟨pG,cG,rfl,-,-⟩:=hG;clear hok hbx hK hr hfew hT;generalize G.length=nG at *
 go_enter Tryz.func21,Tryz.ntmps21
 go_wp2_with fail;refine FI.out.mono ?_;rintro e w1 ⟨⟨v,L,rfl,h1,h2,h3,h4⟩,b1⟩;have B1:=ab b1;have KK:=ab (KP.out v L h1 (fun x hx=>((h3 x).1 hx).1) w1 (Lst.own h4));have FF:=ab (And.intro h1 (And.intro h2 h3));obtain⟨p4,c4,rfl,-⟩:=aA h4;clear FI KP b1 h1 h2 h3 h4;obtain⟨ll,el⟩:∃ll,L.length=ll:=⟨_,rfl⟩
 have EL:=ab el;rw[el]at KK ⊢;clear el;go_wp2_with fail;refine KK.out.mono ?_;rintro e w2 ⟨⟨v2,P,rfl,hP,hl,ho⟩,b2⟩;have B2:=ab (ae B1.out b2);have O2:=ab (bo ho B1.out.size);have HP:=ab (And.intro hP hl);clear KK b2 ho hP hl;go_wp2_with fail
 go_ret2
 exact⟨⟨_,L,P,rfl,FF.out.1,FF.out.2.1,FF.out.2.2,HP.out.1,by rw[EL.out];exact HP.out.2,O2.out⟩,B2.out⟩
theorem qY (sG:Value)(G:List (List (Int×Int)))(r t:Int)(h0:t≠0)(w:World)(hG:RingsL w sG G)(hf:Calls Tryz.prog 8 #[sG,.int .i64 r] w fun e w'=>e=.returned (.tuple #[.slice none 0 0,.int .i64 t])/\Below w.heap.size w w') :
 Calls Tryz.prog 20 #[sG,.int .i64 r] w fun e w'=>e=.returned (.tuple #[.slice none 0 0,.int .i64 t])/\Below w.heap.size w w':=by
 have FI:=ab hf;have h0':(t == 0)=false:=by simpa using h0
 have h02:decide (t=0)=false:=by simpa using h0
 obtain⟨pG,cG,rfl,-,-⟩:=hG;clear hf;generalize G.length=nG at *
 go_enter Tryz.func20,Tryz.ntmps20
 go_wp2_with fail;refine FI.out.mono ?_;rintro e w1 ⟨rfl,b1⟩;clear FI;go_wp2_with fail
 go_ret2
 exact⟨rfl,b1⟩
theorem qZ (sG:Value)(G:List (List (Int×Int)))(r t:Int)(h0:t≠0)(w:World)(hG:RingsL w sG G)(hf:Calls Tryz.prog 8 #[sG,.int .i64 r] w fun e w'=>e=.returned (.tuple #[.slice none 0 0,.int .i64 t])/\Below w.heap.size w w') :
 Calls Tryz.prog 21 #[sG,.int .i64 r] w fun e w'=>e=.returned (.tuple #[.slice none 0 0,.int .i64 t])/\Below w.heap.size w w':=by
 have FI:=ab hf;have h0':(t == 0)=false:=by simpa using h0
 have h02:decide (t=0)=false:=by simpa using h0
 obtain⟨pG,cG,rfl,-,-⟩:=hG;clear hf;generalize G.length=nG at *
 go_enter Tryz.func21,Tryz.ntmps21
 go_wp2_with fail;refine FI.out.mono ?_;rintro e w1 ⟨rfl,b1⟩;clear FI;go_wp2_with fail
 go_ret2
 exact⟨rfl,b1⟩
theorem Fh {R:List (Int×Int)}(hok:bv [R]){x y:Int}:InT [R] x y↔¬ct x y/\inR R x y:=by
 unfold InT inR;rw[Fv,EG];exact⟨fun h=>⟨h.2.1,h.2.2⟩,fun h=>⟨hok,h.1,h.2⟩⟩
theorem Cy {R:List (Int×Int)}(h3:3<=R.length)(h5:R.length<=500)(hw:∀p∈R,aW p):bv [R]:=Cz.2 ⟨h3,h5,hw⟩
theorem pH {a b c d:Int}(ha:0<=a/\a<1073741824)(hb:0<=b/\b<1073741824)(hc:0<=c/\c<1073741824)(hd:0<=d/\d<1073741824):bv [cE a b c d] :=
 Cy (show 3<=4 by omega) (show 4<=500 by omega) (I9 ha hb hc hd)
theorem EA {a b c d:Int}:Bx [cE a b c d].flatten (min a c,min b d) (max a c,max b d):=by
 have e:[cE a b c d].flatten=cE a b c d:=by simp
 rw[e];unfold cE;refine⟨fun p hp=>?_,?_,?_,?_,?_⟩
 · simp only[List.mem_cons,List.not_mem_nil,or_false]at hp;rcases hp with rfl | rfl | rfl | rfl <;>dsimp only <;>omega
 · rcases Int.le_total a c with h | h
   · exact⟨(a,b),by simp,by dsimp only;omega⟩
   · exact⟨(c,b),by simp,by dsimp only;omega⟩
 · rcases Int.le_total b d with h | h
   · exact⟨(a,b),by simp,by dsimp only;omega⟩
   · exact⟨(a,d),by simp,by dsimp only;omega⟩
 · rcases Int.le_total a c with h | h
   · exact⟨(c,b),by simp,by dsimp only;omega⟩
   · exact⟨(a,b),by simp,by dsimp only;omega⟩
 · rcases Int.le_total b d with h | h
   · exact⟨(a,d),by simp,by dsimp only;omega⟩
   · exact⟨(a,b),by simp,by dsimp only;omega⟩
theorem BB {a b c d:Int}(ha:0<=a/\a<1073741824)(hb:0<=b/\b<1073741824)(hc:0<=c/\c<1073741824)(hd:0<=d/\d<1073741824){K r:Nat}{x:Int} :
 iI [cE a b c d] K r x↔(Whole x/\wR x=(r:Int))/\bZ K (min a c) (min b d) (max a c) (max b d) x=true:=by
 unfold iI bZ;rw[Fh (pH ha hb hc hd),Ex,decide_eq_true_eq];unfold ct;constructor
 · rintro⟨h1,h2,h3⟩;exact⟨h1,h3⟩
 · rintro⟨h1,h3⟩;exact⟨h1,by omega,h3⟩
theorem kI {L M:List Int}{P:Int->Prop}(h1:aq L)(h2:aq M)(k1:∀x,x∈L↔P x)(k2:∀x,x∈M↔P x):L=M:=gU h1 h2 fun x=>(k1 x).trans (k2 x).symm
theorem kv:Ok4 ((12:Nat):Int) 1 0:=zx (by decide +kernel)
theorem mz:Ok4 ((12:Nat):Int) 0 0:=zx (by decide +kernel)
theorem CZ (a b:Int):poX 0 a b=52*a+26*b/\poY 0 a b=45*b:=by
 unfold poX poY ctA ctB;have e:bet 0=(1,0):=rfl;rw[e];simp only;constructor <;>grind
theorem yp {L:List Int}(hR:aq L)(h:∀x,x∈L↔iI [cE 0 0 60 5] 0 12 x):L.length=2:=by
 have hne:av 12 0 0≠av 12 1 0:=fun e=>by
  have k1:=cg mz;have k2:=cg kv;rw[e]at k1;have:=k1.1.symm.trans k2.1;omega
 have key:∀x,x∈L↔x∈[av 12 0 0,av 12 1 0]:=fun x=>by
  rw[h x,BB (by omega) (by omega) (by omega) (by omega)];unfold bZ;rw[decide_eq_true_eq];obtain⟨e1,e2⟩:=CZ (an x) (ao x);rw[e1,e2];simp only[List.mem_cons,List.not_mem_nil,or_false];constructor
  · rintro⟨⟨h1,h2⟩,h3⟩;have hb:ao x=0:=by omega
    have ha:an x=0∨an x=1:=by omega
    have w:=da h1;rw[h2,hb]at w;rcases ha with ha | ha <;>rw[ha]at w
    · exact .inl w.symm
    · exact .inr w.symm
  · rintro(rfl | rfl)
    · have k:=cg mz;have p:=a8 mz;rw[k.1,k.2];exact⟨⟨p.1,by first | exact p.2.1 | exact p.2.2.1 | (have:=p.2;omega)⟩,by omega⟩
    · have k:=cg kv;have p:=a8 kv;rw[k.1,k.2];exact⟨⟨p.1,by first | exact p.2.1 | exact p.2.2.1 | (have:=p.2;omega)⟩,by omega⟩
 exact nK (dE hR) (by simp[hne]) key
theorem Ho (w:World)(hT:Cov3 w):Calls Tryz.prog 11 #[] w fun e w'=>e=.returned (.bool true)/\Below w.heap.size w w':=by
 have L1:Hid (RingL (w.alloc (.cells #[.int .i64 0,.int .i64 0,.int .i64 60,.int .i64 0,.int .i64 60,.int .i64 5,.int .i64 0,.int .i64 5] 26)) (.slice (some ⟨w.heap.size,0,none⟩) 4 4) (cE 0 0 60 5)):=ab (Cm w (cE 0 0 60 5) 26);have L2:=ab (nC _ _ _ _ 27 L1.out);have B2:=ab (ae (ag w (.cells #[.int .i64 0,.int .i64 0,.int .i64 60,.int .i64 0,.int .i64 60,.int .i64 5,.int .i64 0,.int .i64 5] 26)) (ag (w.alloc (.cells #[.int .i64 0,.int .i64 0,.int .i64 60,.int .i64 0,.int .i64 60,.int .i64 5,.int .i64 0,.int .i64 5] 26)) (.cells #[.slice (some ⟨w.heap.size,0,none⟩) 4 4] 27)));have F1:=ab (nc _ [cE 0 0 60 5] (pH (by omega) (by omega) (by omega) (by omega)) _ _ EA 12 0 (by omega) (by omega) (uF (by omega) (by decide) (by decide)) _ L2.out (hT.below B2.out));have F2:=ab fun w=>ng (.slice none 0 0) [] 12 1 (.inr (.inl ⟨by simp[aH],.inl rfl,rfl⟩)) (by omega) (by simp) (fun L hL=>by simp at hL) w (zY w);have e12:((12:Nat):Int)=12:=rfl;rw[e12]at F1;clear L1 L2 hT e12
 go_enter Tryz.func11,Tryz.ntmps11
 go_wp2_with fail;refine F1.out.mono ?_;rintro e w1 ⟨⟨v,L,rfl,h1,h2,h3,h4⟩,b1⟩;have h2l:=yp h2 h3;rw[h2l]at h4;obtain⟨p4,c4,rfl,-⟩:=aA h4;have B3:=ab (ae B2.out b1);clear F1 B2 h1 h2 h3 h4 h2l b1;go_wp2_with fail;refine(F2.out _).mono ?_;rintro e w2 ⟨rfl,b2⟩;have B4:=ab (ae B3.out b2);clear F2 B3 b2;go_wp2_with fail;go_ret;exact⟨rfl,B4.out⟩
end Go.Proofs.YtbnlhdnnenahfaaGreatDoor
