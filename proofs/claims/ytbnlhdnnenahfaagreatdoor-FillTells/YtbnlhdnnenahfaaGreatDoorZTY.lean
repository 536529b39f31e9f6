/-
  The law FillTells answers true for every list of rings, every list of numbers and every four numbers, in whatever memory where the three tables hold what their texts lay.
-/
import Derived.Test.YtbnlhdnnenahfaaGreatDoorRCmp8Y
import Derived.Test.YtbnlhdnnenahfaaGreatDoorZRY
import Derived.Test.YtbnlhdnnenahfaaGreatDoorFGroupY
import Derived.Test.YtbnlhdnnenahfaaGreatDoorFWantY
set_option maxHeartbeats 64000000
set_option maxRecDepth 20000
namespace Go.Proofs.YtbnlhdnnenahfaaGreatDoor
open Go.RowKit
theorem wX (l1 l2 u1 u2 r:Int):∃t,j7 l1 l2 u1 u2 r t:=by
 by_cases h:r<0∨12<r
 · exact⟨1,.inl ⟨h,rfl⟩⟩
 · by_cases k:InW l1 l2/\InW u1 u2
   · by_cases c:u1<l1∨u2<l2
     · exact⟨1,.inr (.inr (.inl ⟨by omega,k,c,rfl⟩))⟩
     · exact⟨0,.inr (.inr (.inr ⟨by omega,k,by omega,rfl⟩))⟩
   · exact⟨4,.inr (.inl ⟨by omega,k,rfl⟩)⟩
theorem A6 (G:List (List (Int×Int))):∃t,ChkG G t:=by
 by_cases h1:20<G.length∨500<aH G
 · exact⟨7,.inl ⟨h1,rfl⟩⟩
 · by_cases h2:G=[]∨∃L∈G,L.length<3
   · exact⟨1,.inr (.inl ⟨h1,h2,rfl⟩)⟩
   · have h3:G≠[]/\∀L∈G,3<=L.length:=⟨fun e=>h2 (.inl e),fun L hL=>by
      by_cases h:L.length<3
      · exact absurd (.inr ⟨L,hL,h⟩) h2
      · omega⟩
     by_cases h4:∃L∈G,∃p∈L,¬aW p
     · exact⟨4,.inr (.inr (.inl ⟨h1,h3.1,h3.2,h4,rfl⟩))⟩
     · exact⟨0,.inr (.inr (.inr ⟨h1,h3.1,h3.2,fun L hL p hp=>by
        by_cases h:aW p
        · exact h
        · exact absurd ⟨L,hL,p,hp,h⟩ h4,rfl⟩))⟩
theorem AU {N:List Int}{f:Int->Bool}{j:Nat}(hj:j<N.length):(N.take (j+1)).all f=((N.take j).all f && f N[j]):=by
 rw[List.take_succ_eq_append_getElem hj,List.all_append];simp
theorem FG {L N:List Int}{x:Int}(hN:NbS x N):(!opB L x)=(decide ((N.length:Int)=6) && N.all fun y=>decide (y∈L)):=by
 rw[zy hN];have h6:=rB hN;have e:(N.any fun y=> !decide (y∈L))= !(N.all fun y=>decide (y∈L)):=by rw[List.not_all_eq_any_not]
 rw[e,Bool.not_or,Bool.not_not];congr 1;by_cases c:N.length<6
 · rw[decide_eq_true c,decide_eq_false (show ¬(N.length:Int)=6 by omega)];rfl
 · rw[decide_eq_false c,decide_eq_true (show(N.length:Int)=6 by omega)];rfl
theorem oB (sR:Value)(RR:List (List (Int×Int)))(bad x y r0 t s':Int)(sX:Value)(X:List Int)(r K:Nat)(hK:K<=12)(hr:12-(r:Int)=(K:Int))(es:s'=(r:Int))(e1:r0.tmod 13=t)(e2:(t+13).tmod 13=s')(t1: -13<t)(t2:t<13)(W:World)(hT:Cov3 W)(hR:RingsL W sR RR)(hRs:∀L∈RR,L.length<=140737488355328)(hX:LstK .i64 W sX X) :
 Calls Tryz.prog 5 #[sR,.int .i64 bad,.int .i64 x,.int .i64 y,sX,.int .i64 r0] W fun e w'=>e=.returned (.bool true)/\Below W.heap.size W w':=by
 subst es;have hr12:(r:Int)<=12:=by omega
 have RG:=ab fun w h=>Gh x y sX X r K hK hr w h;have AW:=ab fun w h=>Ho w h;have HT:=ab hT;have AL:=ab fun G h0 h2 h=>Ct (x:=x%1073741824) (y:=y%1073741824) (K:=K) (r:=r) (G:=G) hK ⟨by omega,by omega⟩ h0 h2 h;have FI:=ab fun sG G hok lo hi hbx hfew w h1 h2=>nc sG G hok lo hi hbx r K hK hr hfew w h1 h2;have BO:=ab fun sG G hok lo hi hbx hfew w h1 h2=>Bu sG G hok lo hi hbx r K hK hr hfew w h1 h2;have PK:=ab fun sG G hok lo hi hbx hfew w h1 h2=>By sG G hok lo hi hbx r K hK hr hfew w h1 h2;have WN:=ab fun sG G hok lo hi hbx w h1=>IY sG G hok lo hi hbx r K hK hr w h1;have RCM:Hid (∀(s:Value) (L:List Int),L.length<=300->(∀z∈L,Whole z/\wR z=(r:Int))->∀w,Lst w s L->Calls Tryz.prog 25 #[s] w fun e w'=>(∃(sl:Value) (P:List Int),e=.returned (.tuple #[sl,.int .i64 0])/\Packed r L P/\P.length<=L.length/\w'.ownsRow w.heap.size 35 1 sl P.length (aj P))/\Below w.heap.size w w'):=ab fun s L hL hW w hl =>
  (zO s L (by omega) (fun z hz=>qf (hW z hz).1) w hl).mono fun e w' ⟨h,hb⟩=>by
    obtain⟨sl,P,he,k1,k2,_,_,k3⟩:=uh hW (by omega) h;exact⟨⟨sl,P,he,k1,k2,k3⟩,hb⟩
 have PO:=ab fun(S T P Q:List Int) (hP:Packed r S P) (hQ:Packed r T Q) h=>Packed.one (by omega) hP hQ h;have HXX:=ab hX;obtain⟨pX,cX,rfl,-,-⟩:=hX;obtain⟨nX,enX⟩:∃nX,X.length=nX:=⟨_,rfl⟩
 have ENX:=ab enX;have HR:=ab hR;obtain⟨pR,cR,rfl,-,-⟩:=hR;by_cases hbig:25<RR.length∨40<nX
 · have A1:=ab (AW.out W hT);obtain⟨nR,enR⟩:∃nR,RR.length=nR:=⟨_,rfl⟩
   rw[enR]at hbig ⊢;rw[enX];have hc:((25:Int)<(nR:Int))∨(decide ((25:Int)<(nR:Int))=false/\(40:Int)<(nX:Int)):=by
    by_cases h:25<nR
    · exact .inl (by omega)
    · exact .inr ⟨df (by omega),by omega⟩
   clear RG AW AL FI BO PK WN RCM HR HXX ENX enX enR hRs hbig hK hr hT
   go_enter Tryz.func5,Tryz.ntmps5
   rcases hc with hc | ⟨hc,hd⟩
   all_goals
    go_wp2_with fail;refine A1.out.mono ?_;rintro e w4 ⟨rfl,b4⟩;go_wp2_with fail;go_ret;exact⟨rfl,b4⟩
 · have h25:decide ((25:Int)<(RR.length:Int))=false:=df (by omega);have h40:decide ((40:Int)<(nX:Int))=false:=df (by omega);obtain⟨tc,htc⟩:=A6 RR;have CK:Hid (∀w,RingsL w (.slice pR RR.length cR) RR->Calls Tryz.prog 17 #[.slice pR RR.length cR] w fun e w'=>e=.returned (.int .i64 tc)/\Below w.heap.size w w'):=ab fun w h =>
    (pV _ RR (by omega) hRs w h).mono fun e w' ⟨⟨t',he,ht'⟩,hb⟩=>⟨by rw[he,ht'.one htc],hb⟩
   have FC:=ab fun(h0:tc≠0) w h=>ng (.slice pR RR.length cR) RR bad tc htc h0 (by omega) hRs w h;have FBD:=ab fun(t:Int) (h0:t≠0) w h hf=>qY (.slice pR RR.length cR) RR bad t h0 w h hf;have FPD:=ab fun(t:Int) (h0:t≠0) w h hf=>qZ (.slice pR RR.length cR) RR bad t h0 w h hf;have ZR:=ab (bV htc);have MB:Hid (tc=0->∃(lo hi:Int×Int) (te:Int),(∀w,RingsL w (.slice pR RR.length cR) RR->Calls Tryz.prog 18 #[.slice pR RR.length cR] w fun e w'=>e=.returned (.tuple #[.agg #[.int .i64 lo.1,.int .i64 lo.2],.agg #[.int .i64 hi.1,.int .i64 hi.2]])/\Below w.heap.size w w')/\(∀w,Calls Tryz.prog 19 #[.agg #[.int .i64 lo.1,.int .i64 lo.2],.agg #[.int .i64 hi.1,.int .i64 hi.2],.int .i64 bad] w fun e w'=>e=.returned (.int .i64 te)/\Below w.heap.size w w')/\(te≠0->∀w,RingsL w (.slice pR RR.length cR) RR->Calls Tryz.prog 8 #[.slice pR RR.length cR,.int .i64 bad] w fun e w'=>e=.returned (.tuple #[.slice none 0 0,.int .i64 te])/\Below w.heap.size w w')):=ab fun h0=>by
    have hok:=(bV htc).1 h0;obtain⟨lo,hi,hbx⟩:=uf (oI hok);obtain⟨te,hte⟩:=wX lo.1 lo.2 hi.1 hi.2 bad;have hsz:=fO hok;exact⟨lo,hi,te,fun w h=>(zP _ RR hsz.1 hsz.2 w h).mono fun e w' ⟨⟨lo',hi',he,ht⟩,hb⟩=>⟨by
     obtain⟨e1,e2⟩:=BoxT.one ht (.inl ⟨hok,hbx⟩);rw[he,e1,e2],hb⟩,fun w=>Jz lo.1 lo.2 hi.1 hi.2 bad te hte w,fun ht w h=>wI _ RR hok lo hi hbx bad te hte ht w h⟩
   obtain⟨nR,enR⟩:∃nR,RR.length=nR:=⟨_,rfl⟩
   rw[enR]at h25 HR CK FC FBD FPD MB ⊢;rw[enX]at HXX RG ⊢;clear hT hRs hbig htc enR enX ZR hK hr
   go_enter Tryz.func5,Tryz.ntmps5
   go_wp2_with fail;refine(CK.out _ HR.out).mono ?_;rintro e w1 ⟨rfl,b1⟩;have B1:=ab b1;clear CK b1
   go_upto_if 51 with fail
   go_cut [13,14,15]from 39 (fun v13 _ _ wx=>∃te:Int,v13=.int .i64 te/\Hid (te≠0->∀w,RingsL w (.slice pR nR cR) RR->Calls Tryz.prog 8 #[.slice pR nR cR,.int .i64 bad] w fun e w'=>e=.returned (.tuple #[.slice none 0 0,.int .i64 te])/\Below w.heap.size w w')/\Hid (Below W.heap.size W wx))
   case first =>
    by_cases h0:tc=0
    · obtain⟨lo,hi,te,BX,MY,FM⟩:=MB.out h0;obtain⟨l1,l2⟩:=lo;obtain⟨p1,p2⟩:=hi;dsimp only at BX MY;replace BX:=ab BX;replace MY:=ab MY;replace FM:=ab FM;subst h0;clear MB FC RG AW AL FI BO PK WN RCM HT HXX FBD FPD;go_wp2_with fail;refine(BX.out _ (HR.out.keep B1.out)).mono ?_;rintro e w2 ⟨rfl,b2⟩;have B2:=ab (ae (ae (ae B1.out b2) (ag w2 (.cells #[.int .i64 l1,.int .i64 l2] 26))) (ag _ (.cells #[.int .i64 p1,.int .i64 p2] 26)));clear BX b2 B1;go_wp2_with fail;generalize (w2.alloc (.cells #[.int .i64 l1,.int .i64 l2] 26)).alloc (.cells #[.int .i64 p1,.int .i64 p2] 26)=w3 at *;refine(MY.out _).mono ?_;rintro e w4 ⟨rfl,b4⟩;have B4:=ab (ae B2.out b4);clear MY b4 B2;go_wp2_with fail;go_meet
      case rel=>exact⟨te,rfl,FM,B4⟩
    · have h0':(tc == 0)=false:=by simpa using h0
      have FE:=ab fun(_:tc≠0)=>FC.out h0;clear MB FC RG AW AL FI BO PK WN RCM HT HXX FBD FPD;go_wp2_with fail;go_meet
      case rel=>exact⟨tc,rfl,FE,B1⟩
   case rest =>
    obtain⟨te,rfl,FM,B4⟩:=hcut;clear MB FC B1
    go_upto_if 62 with fail
    go_cut [16,17,18,19,20,21]from 39 (fun _ _ _ _ _ _ wy=>Hid (Below W.heap.size W wy))
    case first =>
     clear RG AW AL FI BO PK WN RCM HT HXX;by_cases h1:te=0
     · subst h1;clear FM FBD FPD;go_wp2_with fail;go_meet
       case rel=>exact B4
     · have h1':(te == 0)=false:=by simpa using h1
       have h1n:(te != te)=false:=by simp
       have FE:=ab (FM.out h1);have BE:=ab (FBD.out te h1);have PE:=ab (FPD.out te h1);clear FM FBD FPD;go_wp2_with fail;refine(FE.out _ (HR.out.keep B4.out)).mono ?_;rintro e w5 ⟨rfl,b5⟩;have B5:=ab (ae B4.out b5);clear b5 B4;go_wp2_with fail;refine(BE.out _ (HR.out.keep B5.out) (FE.out _ (HR.out.keep B5.out))).mono ?_;rintro e w6 ⟨rfl,b6⟩;have B6:=ab (ae B5.out b6);clear b6 B5 BE;go_wp2_with fail;refine(PE.out _ (HR.out.keep B6.out) (FE.out _ (HR.out.keep B6.out))).mono ?_;rintro e w7 ⟨rfl,b7⟩;have B7:=ab (ae B6.out b7);clear b7 B6 PE FE;go_wp2_with fail;go_meet
       case rel=>exact B7
    case rest =>
     rename_i wk;have B7:=hcut;clear FM FBD FPD B4;go_wp2_with fail;refine(RG.out _ (HXX.out.keep B7.out)).mono ?_;rintro e w8 ⟨⟨sl,G,S,rfl,hG2,hGn,hGr⟩,b8⟩;have HG:=ab hGr.rings;have HO:=hGr.2.1;have B8:=ab (ae B7.out b8);have H8:=ab (HT.out.below B8.out);obtain⟨pG,cG,rfl,-⟩:=aA HO;clear RG HT b8 hGr HO B7 HR HXX;by_cases hg0:G=[]
     · subst hg0;clear HG AL FI BO PK WN RCM;go_wp2_with fail;refine(AW.out _ H8.out).mono ?_;rintro e w9 ⟨rfl,b9⟩;go_wp2_with fail;go_ret;exact⟨rfl,ae B8.out b9⟩
     · obtain⟨hok,lo,hi,hbx,hfew⟩:=AL.out G hg0 hG2 hGn;have FI:=ab fun sG w h1 h2=>FI.out sG G hok lo hi hbx hfew w h1 h2;have BO:=ab fun sG w h1 h2=>BO.out sG G hok lo hi hbx hfew w h1 h2;have PK:=ab fun sG w h1 h2=>PK.out sG G hok lo hi hbx hfew w h1 h2;have WN:=ab fun sG w h1=>WN.out sG G hok lo hi hbx w h1;have hg0':((G.length:Int) == 0)=false:=by
        have:G.length≠0:=fun e=>hg0 (List.length_eq_zero_iff.1 e);simp;omega
       obtain⟨nG,enG⟩:∃nG,G.length=nG:=⟨_,rfl⟩
       rw[enG]at hg0' HG ⊢;clear AL hok hbx hfew hG2 hGn enG hg0;go_wp2_with fail;refine(WN.out _ _ HG.out).mono ?_;rintro e w9 ⟨⟨v,L,rfl,a1,a2,a3,a4⟩ | rfl,b9⟩
       · have R9:=ab ((fh a4).mono (Nat.zero_le _));have T9:=ab (Lst.own a4);have PL:=ab (And.intro a1 (And.intro a2 a3));obtain⟨pL,cL,rfl,-⟩:=aA a4;have B9:=ab (ae B8.out b9);have H9:=ab (H8.out.below b9);have G9:=ab (HG.out.keep b9);clear WN a1 a2 a3 a4 b9 B8 H8 HG;have RCL:=ab fun w h=>RCM.out (.slice pL L.length cL) L PL.out.1 (fun z hz=>((PL.out.2.2 z).1 hz).1) w h;have HL:=ab fun z (hz:U64 z) w (h:RowAt 0 w (.slice pL L.length cL) L)=>Io 0 (.slice pL L.length cL) L z hz PL.out.2.1 (fun y hy=>qf ((PL.out.2.2 y).1 hy).1.1) (by have:=PL.out.1;omega) w h;have NE:=ab fun z (hz:z∈L) w=>Im z ((PL.out.2.2 z).1 hz).1.1 w;have OP:=ab fun z N (hN:NbS z N)=>FG (L:=L) hN;obtain⟨nL,eL⟩:∃nL,L.length=nL:=⟨_,rfl⟩
         have EL:=ab eL;rw[eL]at R9 T9 RCL HL ⊢;have nb:(nL:Int)<=300:=by have:=PL.out.1;omega
         obtain⟨i0,hi0,hz0,hz1,hz2⟩:=info_parts ca;clear eL RCM;go_wp2_with fail;go_loopw [25,26] (fun v25 v26 wr=>∃(i:Nat) (M:List Int),i<=nL/\v26=.int .i64 (i:Int)/\Hid (M=(L.take i).filter (opB L))/\M.length<=i/\Hid (wr.ownsRow w9.heap.size 35 1 v25 M.length (aj M))/\Hid (Below w9.heap.size w9 wr)) (fun _ v26 _=>nL-(intOf v26).toNat)
         case atStart=>exact⟨0,[],by omega,rfl,ab rfl,by simp,ab (World.ownsRow_nil _ _ _ _),ab (Below.refl _ _)⟩
         case round =>
          obtain⟨i,M,hin,rfl,hM,hMl,hO,hB⟩:=hrel;obtain⟨p25,c25,rfl,-⟩:=aA hO.out;by_cases hlt:i<nL
          · have hlt':(i:Int)<(nL:Int):=by omega
            have hiL:i<L.length:=by rw[EL.out];exact hlt
            have Rj:=R9.out.keep hB.out;obtain⟨p',c',e',hp⟩:=Rj.form;simp only[Value.slice.injEq]at e';obtain⟨rfl,-,rfl⟩:=e';obtain⟨g,rfl,x0⟩:=hp i hiL;have zM:L[i]∈L:=List.getElem_mem hiL;have N1:=ab fun w=>NE.out L[i] zM w;have OP1:=ab fun N (hN:NbS L[i] N)=>OP.out L[i] N hN;have SN:Hid ((L.take (i+1)).filter (opB L)=M++(if opB L L[i]then [L[i]]else [])):=ab (by
             rw[List.take_succ_eq_append_getElem hiL,List.filter_append,←hM.out];congr 1;rw[List.filter_cons]
             split <;>simp)
            clear Rj hp zM hM;generalize opB L L[i]=ob at *;generalize L[i]=z at *;go_wp2_with fail;refine(N1.out _).mono ?_;rintro e z1 ⟨⟨sN,N,rfl,hN,hNb,hN6,hNu⟩,c1⟩;have O1:=ab (ai c1 hO.out);have BJ1:=ab (hB.out.trans (c1.mono hB.out.size));have HN:=ab hN;have HU:=ab hNu;have ON:=ab (OP1.out N hNb);obtain⟨pN,cN,rfl,hpN⟩:=hN.form;have HP:=ab hpN;replace x0:=aa c1 x0;obtain⟨m,em⟩:∃m,N.length=m:=⟨_,rfl⟩
            have EM:=ab em;rw[em]at hN6 HN ⊢;obtain⟨six,e6⟩:∃six,((m:Int) == 6)=six:=⟨_,rfl⟩
            have E6:=ab (show decide ((N.length:Int)=6)=six by rw[em,←e6];exact(Bool.eq_iff_iff.2 (by simp)));clear N1 c1 hN hNb hNu hpN em OP1 hO hB;go_wp2_with fail;go_loopw [29,30] (fun v29 v30 wr=>∃(j:Nat) (al:Bool),j<=m/\v30=.int .i64 (j:Int)/\v29=.bool al/\Hid (al=(six && (N.take j).all fun y=>decide (y∈L)))/\Hid (Below z1.heap.size z1 wr)) (fun _ v30 _=>m-(intOf v30).toNat)
            case atStart=>exact⟨0,six,by omega,rfl,rfl,ab (by simp),ab (Below.refl _ _)⟩
            case round =>
             obtain⟨j,al,hj,rfl,rfl,hk,BK⟩:=hrel;by_cases hjm:j<m
             · have hjm':(j:Int)<(m:Int):=by omega
               have hjN:j<N.length:=by rw[EM.out];exact hjm
               obtain⟨g2,rfl,y0⟩:=HP.out j hjN;replace y0:=aa BK.out y0;have HL1:=ab (HL.out N[j] (HU.out _ (List.getElem_mem hjN)) _ (R9.out.keep (BJ1.out.trans (BK.out.mono BJ1.out.size))));have NX:Hid ((six && (N.take (j+1)).all fun y=>decide (y∈L))=(al && decide (N[j]∈L))):=ab (by rw[AU hjN,hk.out,Bool.and_assoc]);clear hk;generalize decide (N[j]∈L)=tb at *;generalize N[j]=q at *;cases al
               · go_wp2_with fail;clear HL1 y0;go_roundw
                 case rel=>exact⟨j+1,false,by omega,by go_num,rfl,ab (by rw[NX.out];rfl),BK⟩
                 case measure=>simp[intOf];omega
               · go_wp2_with fail;refine HL1.out.mono ?_;rintro e z2 ⟨rfl,c2⟩;have BK1:=ab (ae BK.out c2);clear HL1 c2 BK y0;go_wp2_with fail;go_roundw
                 case rel=>exact⟨j+1,tb,by omega,by go_num,rfl,ab (by rw[NX.out];rfl),BK1⟩
                 case measure=>simp[intOf];omega
             · obtain rfl:j=m:=by omega
               have hjm':decide ((j:Int)<(j:Int))=false:=by simp
               have hob:(!al)=ob:=by
                have k:=ON.out;rw[hk.out,←E6.out];rw[List.take_of_length_le (by rw[EM.out];omega),←k,Bool.not_not]
               have O2:=ab (ai BK.out O1.out);have BJ2:=ab (BJ1.out.trans (BK.out.mono BJ1.out.size));replace x0:=aa BK.out x0;clear hk ON E6 BK BJ1 HU HP O1 HN;cases al
               · obtain rfl:ob=true:=by rw[←hob];rfl
                 have SN2:Hid (M++[z]=(L.take (i+1)).filter (opB L)):=ab (by rw[SN.out];rfl);have hsw:=BJ2.out.size;clear SN hob;go_wp2_with (at_builtin;refine wpList_append_own _ rfl (.tmp 161) (.tmp 166) 22 rfl w9.heap.size 35 i0 (.int .u64 0) 1 8 Tryz.underlying22 hi0 hz0 hz1 hz2 rfl (by decide) _ _ _ rfl (ai (ag _ _) O2.out) ⟨wr.heap.size,0,none⟩ 1 1 [.int .u64 z] rfl rfl (bf _ _ rfl _ _) (bK _ _) (by unfold maxLen;omega) (by omega) (by simp;omega) ?_)
                 intro v' w5 hown hgrow _;have O5:Hid (w5.ownsRow w9.heap.size 35 1 v' (M++[z]).length (aj (M++[z]))):=ab (by
                  have e1:(M++[z]).length=M.length+1:=by simp
                  have e2:aj (M++[z])=aj M++[.int .u64 z]:=by simp[aj]
                  rw[e1,e2];exact hown)
                 have B5:=ab ((BJ2.out.trans ((ag wr (.cells #[.int .u64 z] 35)).mono hsw)).grown hgrow (by simp;omega) (fun k hk=>aM O2.out k hk));clear hown hgrow;go_wp2;go_roundw
                 case rel=>exact⟨i+1,M++[z],by omega,by go_num,SN2,by simp;omega,O5,B5⟩
                 case measure=>simp[intOf];omega
               · obtain rfl:ob=false:=by rw[←hob];rfl
                 have SN2:Hid (M=(L.take (i+1)).filter (opB L)):=ab (by rw[SN.out];simp);clear SN hob;go_wp2_with fail;go_roundw
                 case rel=>exact⟨i+1,M,by omega,by go_num,SN2,by omega,O2,BJ2⟩
                 case measure=>simp[intOf];omega
          · obtain rfl:i=nL:=by omega
            have hlt':decide ((i:Int)<(i:Int))=false:=by simp
            have eM:M=L.filter (opB L):=by rw[hM.out,List.take_of_length_le (by rw[EL.out];omega)]
            have EMM:=ab eM;have RM10:=ab ((fh hO.out).mono (Nat.zero_le _));obtain⟨nM,enM⟩:∃nM,M.length=nM:=⟨_,rfl⟩
            have hMl':nM<=300:=by omega
            have RCL1:=ab (RCL.out _ (T9.out.keep hB.out));have R10:=ab (R9.out.keep hB.out);have G10:=ab (G9.out.keep hB.out);have H10:=ab (H9.out.below hB.out);have B10:=ab (ae B9.out hB.out);rw[enM]at RM10 ⊢;clear hM hlt eM hO hB RCL T9 R9 G9 H9 B9 HL NE OP enM;go_wp2_with fail;refine RCL1.out.mono ?_;rintro e w11 ⟨⟨s11,P,rfl,hP,hPl,hPo⟩,b11⟩;have RP11:=ab ((fh hPo).mono (Nat.zero_le _));have HPK:=ab hP;have hPl':P.length<=300:=by have:=PL.out.1;omega
            obtain⟨pP,cP,rfl,-⟩:=aA hPo;have R11:=ab (R10.out.keep b11);have RM11:=ab (RM10.out.keep b11);have G11:=ab (G10.out.keep b11);have H11:=ab (H10.out.below b11);have B11:=ab (ae B10.out b11);obtain⟨nP,enP⟩:∃nP,P.length=nP:=⟨_,rfl⟩
            have ENP:=ab enP;rw[enP]at RP11 ⊢;clear RCL1 R10 RM10 G10 H10 B10 b11 hP hPl hPo enP;go_wp2_with fail;refine(FI.out _ _ G11.out H11.out).mono ?_;rintro e w12 ⟨⟨v12,L2,rfl,a1,a2,a3,a4⟩,b12⟩;obtain rfl:L2=L:=kI a2 PL.out.2.1 a3 PL.out.2.2;have RF12:=ab ((fh a4).mono (Nat.zero_le _));obtain⟨pF,cF,rfl,-⟩:=aA a4;have R12:=ab (R11.out.keep b12);have RM12:=ab (RM11.out.keep b12);have RP12:=ab (RP11.out.keep b12);have G12:=ab (G11.out.keep b12);have H12:=ab (H11.out.below b12);have B12:=ab (ae B11.out b12);rw[EL.out]at RF12 ⊢;clear FI R11 RM11 RP11 G11 H11 B11 b12 a1 a2 a3 a4;go_wp2_with fail;refine(BO.out _ _ G12.out H12.out).mono ?_;rintro e w13 ⟨⟨v13,L3,rfl,a1,a2,a3,a4⟩,b13⟩;obtain rfl:L3=L2:=kI a2 PL.out.2.1 a3 PL.out.2.2;rw[←EMM.out]at a4;have RB13:=ab ((fh a4).mono (Nat.zero_le _));obtain⟨pB,cB,rfl,-⟩:=aA a4;have R13:=ab (R12.out.keep b13);have RM13:=ab (RM12.out.keep b13);have RP13:=ab (RP12.out.keep b13);have RF13:=ab (RF12.out.keep b13);have G13:=ab (G12.out.keep b13);have H13:=ab (H12.out.below b13);have B13:=ab (ae B12.out b13);have SMB:=ab fun s t w h1 h2=>xJ 0 0 s t M (by omega) w h1 h2;have SML:=ab fun s t w h1 h2=>xJ 0 0 s t L3 (by have:=PL.out.1;omega) w h1 h2;generalize M.length=nM2 at *;clear BO R12 RM12 RP12 RF12 G12 H12 B12 b13 a1 a2 a3 a4 EMM;go_wp2_with fail;refine(PK.out _ _ G13.out H13.out).mono ?_;rintro e w14 ⟨⟨v14,L4,Q,rfl,a1,a2,a3,a4,a5,a6⟩,b14⟩;obtain rfl:L4=L3:=kI a2 PL.out.2.1 a3 PL.out.2.2;obtain rfl:Q=P:=PO.out _ _ _ _ a4 HPK.out fun _=>Iff.rfl;have RK14:=ab ((fh a6).mono (Nat.zero_le _));obtain⟨pK,cK,rfl,-⟩:=aA a6;have R14:=ab (R13.out.keep b14);have RM14:=ab (RM13.out.keep b14);have RP14:=ab (RP13.out.keep b14);have RF14:=ab (RF13.out.keep b14);have RB14:=ab (RB13.out.keep b14);have H14:=ab (H13.out.below b14);have B14:=ab (ae B13.out b14);have SMP:=ab fun s t w h1 h2=>xJ 0 0 s t Q (by omega) w h1 h2;rw[ENP.out]at RK14 ⊢;clear PK R13 RM13 RP13 RF13 RB13 G13 H13 B13 b14 a1 a2 a3 a4 a5 a6 HPK PL ENP EL;go_wp2_with fail;refine(SML.out _ _ _ RF14.out R14.out).mono ?_;rintro e w15 ⟨rfl,b15⟩;have RM15:=ab (RM14.out.keep b15);have RP15:=ab (RP14.out.keep b15);have RB15:=ab (RB14.out.keep b15);have RK15:=ab (RK14.out.keep b15);have H15:=ab (H14.out.below b15);have B15:=ab (ae B14.out b15);clear SML RF14 R14 RM14 RP14 RB14 RK14 H14 B14 b15;go_wp2_with fail;refine(SMB.out _ _ _ RB15.out RM15.out).mono ?_;rintro e w16 ⟨rfl,b16⟩;have RP16:=ab (RP15.out.keep b16);have RK16:=ab (RK15.out.keep b16);have H16:=ab (H15.out.below b16);have B16:=ab (ae B15.out b16);clear SMB RB15 RM15 RP15 RK15 H15 B15 b16;go_wp2_with fail;refine(SMP.out _ _ _ RK16.out RP16.out).mono ?_;rintro e w17 ⟨rfl,b17⟩;have H17:=ab (H16.out.below b17);have B17:=ab (ae B16.out b17);clear SMP RP16 RK16 H16 B16 b17;go_wp2_with fail;refine(AW.out _ H17.out).mono ?_;rintro e w18 ⟨rfl,b18⟩;go_wp2_with fail;go_ret;exact⟨rfl,ae B17.out b18⟩
       · have B9:=ab (ae B8.out b9);have H9:=ab (H8.out.below b9);clear WN FI BO PK RCM b9 B8 H8 HG;go_wp2_with fail;refine(AW.out _ H9.out).mono ?_;rintro e w10 ⟨rfl,b10⟩;go_wp2_with fail;go_ret;exact⟨rfl,ae B9.out b10⟩
theorem Fc (sR:Value)(RR:List (List (Int×Int)))(bad x y:Int)(sX:Value)(X:List Int)(r0:Int)(W:World)(hT:Cov3 W)(hR:RingsL W sR RR)(hRs:∀L∈RR,L.length<=140737488355328)(_: -9223372036854775808<=bad)(_:bad<=9223372036854775807)(_: -9223372036854775808<=x)(_:x<=9223372036854775807)(_: -9223372036854775808<=y)(_:y<=9223372036854775807)(hX:LstK .i64 W sX X)(_:∀x∈X,-9223372036854775808<=x/\x<=9223372036854775807)(_: -9223372036854775808<=r0)(_:r0<=9223372036854775807) :
 Calls Tryz.prog 5 #[sR,.int .i64 bad,.int .i64 x,.int .i64 y,sX,.int .i64 r0] W fun e w'=>e=.returned (.bool true)/\Below W.heap.size W w':=by
 obtain⟨t,s',K,e1,e2,t1,t2,hK,hs⟩:=IA r0;obtain⟨r,es⟩:∃r:Nat,s'=(r:Int):=⟨s'.toNat,by have h:=e2;rw[Int.tmod_eq_emod_of_nonneg (by omega)]at h;omega⟩
 exact oB sR RR bad x y r0 t s' sX X r K hK (by rw[←es];exact hs) es e1 e2 t1 t2 W hT hR hRs hX
end Go.Proofs.YtbnlhdnnenahfaaGreatDoor
