/-
  The law FillPacks answers true for every two numbers, every list of numbers and every size, in whatever memory where the three tables hold what their texts lay.
-/
import Derived.Test.YtbnlhdnnenahfaaGreatDoorF3M
import Derived.Test.YtbnlhdnnenahfaaGreatDoorZRM
namespace Go.Proofs.YtbnlhdnnenahfaaGreatDoor
open Go.RowKit
set_option maxHeartbeats 16000000 in
set_option maxRecDepth 20000 in
theorem fillPacks_core (x y r0 t s':Int) (sX:Value) (X:List Int) (r K:Nat) (hK:K≤12) (hr:12 - (r:Int)=(K:Int)) (es:s'=(r:Int)) (e1:r0.tmod 13=t) (e2:(t+13).tmod 13=s') (t1: -13 < t) (t2:t < 13) (W:World) (hT:Cov3 W) (hX:LstK .i64 W sX X) :
 Calls Tryz.prog 7 #[.int .i64 x,.int .i64 y,sX,.int .i64 r0] W fun e w'=>e=.returned (.bool true)∧Below W.heap.size W w':=by
 subst es
 have hr12:(r:Int)≤12:=by omega
 have RG:=hidd (rings11 x y sX X r K hK hr W hX)
 obtain ⟨pX,cX,rfl,-,-⟩:=hX
 obtain ⟨nX,enX⟩:∃ nX,X.length=nX:=⟨_,rfl⟩
 rw [enX] at RG ⊢
 have AW:=hidd fun w h=>fawake w h
 have HT:=hidd hT
 have AL:=hidd fun G h0 h2 h=>near_all (x:=x%1073741824) (y:=y%1073741824) (K:=K) (r:=r) (G:=G) hK ⟨by omega,by omega⟩ h0 h2 h
 clear hT enX
 go_enter Tryz.func7,Tryz.ntmps7
 go_wp2_with fail
 refine RG.out.mono ?_
 rintro e w1 ⟨⟨sl,G,S,rfl,h2,hG,hR⟩,b1⟩
 have HG:=hidd hR.rings
 have HO:=hR.2.1
 have B1:=hidd b1
 have H1:=hidd (HT.out.below b1)
 obtain ⟨pG,cG,rfl,-⟩:=own_slice HO
 clear RG HT b1 hR HO
 by_cases hgo:G.length=0∨40 < nX
 · obtain ⟨nG,enG⟩:∃ nG,G.length=nG:=⟨_,rfl⟩
   rw [enG] at hgo ⊢
   have A1:=hidd (AW.out w1 H1.out)
   clear HG AL AW enG
   rcases Nat.eq_zero_or_pos nG with h0 | h0
   · subst h0
     go_wp2_with fail
     refine A1.out.mono ?_
     rintro e w2 ⟨rfl,b2⟩
     go_wp2_with fail
     go_ret
     exact ⟨rfl,belowT B1.out b2⟩
   · have h0':((nG:Int) == 0)=false:=by simp;omega
     have h40:(40:Int) < (nX:Int):=by omega
     go_wp2_with fail
     refine A1.out.mono ?_
     rintro e w2 ⟨rfl,b2⟩
     go_wp2_with fail
     go_ret
     exact ⟨rfl,belowT B1.out b2⟩
 · have h0:G≠[]:=fun e=>hgo (.inl (by rw [e];rfl))
   have h40:decide ((40:Int) < (nX:Int))=false:=decide_eq_false (by omega)
   obtain ⟨hok,lo,hi,hbx,hfew⟩:=AL.out G h0 h2 hG
   have FI:=hidd fun sG w h1 h2=>f_fill sG G hok lo hi hbx r K hK hr hfew w h1 h2
   have BO:=hidd fun sG w h1 h2=>f_border sG G hok lo hi hbx r K hK hr hfew w h1 h2
   have PK:=hidd fun sG w h1 h2=>f_packed sG G hok lo hi hbx r K hK hr hfew w h1 h2
   have h0':((G.length:Int) == 0)=false:=by simp;omega
   obtain ⟨nG,enG⟩:∃ nG,G.length=nG:=⟨_,rfl⟩
   rw [enG] at h0' HG ⊢
   clear AL hok hbx hfew hgo hG h0 h2 enG
   go_wp2_with fail
   refine (FI.out _ _ HG.out H1.out).mono ?_
   rintro e w2 ⟨⟨v,L,rfl,a1,a2,a3,a4⟩,b2⟩
   have R2:=hidd ((own_row a4).mono (Nat.zero_le _))
   have PL:=hidd (And.intro a1 (And.intro a2 a3))
   obtain ⟨pL,cL,rfl,-⟩:=own_slice a4
   have B2:=hidd (belowT B1.out b2)
   have H2:=hidd (H1.out.below b2)
   have G2:=hidd (HG.out.keep b2)
   clear FI a1 a2 a3 a4 b2 B1 H1 HG
   obtain ⟨nL,eL⟩:∃ nL,L.length=nL:=⟨_,rfl⟩
   have EL:=hidd eL
   rw [eL] at R2 ⊢
   have nb:(nL:Int)≤20000:=by have:=PL.out.1;omega
   clear eL
   go_wp2_with fail
   refine (BO.out _ _ G2.out H2.out).mono ?_
   rintro e w3 ⟨⟨vB,L',rfl,a1,a2,a3,a4⟩,b3⟩
   obtain rfl:L'=L:=same_rows a2 PL.out.2.1 a3 PL.out.2.2
   have RB:=hidd ((own_row a4).mono (Nat.zero_le _))
   obtain ⟨pB,cB,rfl,-⟩:=own_slice a4
   have B3:=hidd (belowT B2.out b3)
   have H3:=hidd (H2.out.below b3)
   have G3:=hidd (G2.out.keep b3)
   have R3:=hidd (R2.out.keep b3)
   have lb:=List.length_filter_le (opB L') L'
   have RBr:Hid (Rising (L'.filter (opB L'))):=hidd (a2.filter _)
   clear BO a1 a2 a3 a4 b3 B2 H2 G2 R2
   obtain ⟨nB,eB⟩:∃ nB,(L'.filter (opB L')).length=nB:=⟨_,rfl⟩
   rw [eB] at RB lb ⊢
   have lb2:nB≤nL:=by have:=EL.out;omega
   clear lb eB
   go_wp2_with fail
   refine (PK.out _ _ G3.out H3.out).mono ?_
   rintro e w4 ⟨⟨vP,L2,P,rfl,a1,a2,a3,a4,a5,a6⟩,b4⟩
   obtain rfl:L2=L':=same_rows a2 PL.out.2.1 a3 PL.out.2.2
   have hW:∀ z∈L2,Whole z∧wR z=(r:Int):=fun z hz=>((a3 z).1 hz).1
   have HW:=hidd hW
   have KM:=hidd fun (M:List Int) (h:∀ z,z∈M↔Whole z∧wR z=(r:Int)∧Cov P z) z=>back_packed hW a4 h z
   have SP:Hid (Calls Tryz.prog 26 #[vP,.int .i64 (r:Int)] w4 fun e w'=>(∃ (sl:Value) (M:List Int),e=.returned (.tuple #[sl,.int .i64 0])∧Rising M∧(∀ z,z∈M↔Whole z∧wR z=(r:Int)∧Cov P z)∧M.length≤20000∧w'.ownsRow w4.heap.size 35 1 sl M.length (vals M))∧Below w4.heap.size w4 w'):=hidd
    ((r_spread vP P (r:Int) ⟨by omega,by omega⟩ (by omega) (fun z hz=>u64_whole (a4.2.1 z hz).1) w4 (Lst.own a6)).mono fun e w' ⟨h,hb⟩=>⟨rs_yes (by omega) a4.2.1 (by have:=cnt_packed (by omega) a4;omega) h,hb⟩)
   obtain ⟨pP,cP,rfl,-⟩:=own_slice a6
   have B4:=hidd (belowT B3.out b4)
   have H4:=hidd (H3.out.below b4)
   have R4:=hidd (R3.out.keep b4)
   have RB4:=hidd (RB.out.keep b4)
   clear PK a1 a2 a3 a4 a5 a6 b4 B3 H3 G3 R3 RB hW
   generalize P.length=nP at *
   go_wp2_with fail
   refine SP.out.mono ?_
   rintro e w5 ⟨⟨vS,M,rfl,a1,a2,a3,a4⟩,b5⟩
   obtain rfl:M=L2:=rising_ext a1 PL.out.2.1 (KM.out M a2)
   have B5:=hidd (belowT B4.out b5)
   have H5:=hidd (H4.out.below b5)
   have R5:=hidd (R4.out.keep b5)
   have RB5:=hidd (RB4.out.keep b5)
   have SM:=hidd (rsame 0 0 vS _ M (by omega) w5 ((own_row a4).mono (Nat.zero_le _)) R5.out)
   obtain ⟨pS,cS,rfl,-⟩:=own_slice a4
   clear SP KM a1 a2 a3 a4 b5 B4 H4 R4 RB4
   go_wp2_with fail
   refine SM.out.mono ?_
   rintro e w6 ⟨rfl,b6⟩
   have B6:=hidd (belowT B5.out b6)
   have H6:=hidd (H5.out.below b6)
   have R6:=hidd (R5.out.keep b6)
   have RB6:=hidd (RB5.out.keep b6)
   have HL:=hidd fun z (hz:U64 z) w (h:RowAt 0 w (.slice pL nL cL) M)=>rhas 0 (.slice pL nL cL) M z hz PL.out.2.1 (fun y hy=>u64_whole (HW.out y hy).1) (by have:=PL.out.1;omega) w h
   have HB:=hidd fun z (hz:z∈M) w (h:RowAt 0 w (.slice pB nB cB) (M.filter (opB M)))=>rhas 0 (.slice pB nB cB) (M.filter (opB M)) z (u64_whole (HW.out z hz).1) RBr.out (fun y hy=>u64_whole (HW.out y (List.mem_filter.1 hy).1).1) (by have:=List.length_filter_le (opB M) M;have:=PL.out.1;omega) w h
   have NE:=hidd fun z (hz:z∈M) w=>r_near z (HW.out z hz).1 w
   have OP:=hidd fun z N (hN:NbS z N)=>opB_cnt (L:=M) hN
   clear SM b6 B5 H5 R5 RB5 PL RBr HW
   go_wp2_with fail
   go_loopw [18] (fun v18 wr=>∃ i:Nat,i≤nL∧v18=.int .i64 (i:Int)∧Hid (Below w6.heap.size w6 wr)) (fun v18 _=>nL - (intOf v18).toNat)
   case atStart=>exact ⟨0,by omega,rfl,hidd (Below.refl _ _)⟩
   case round =>
    obtain ⟨i,hi',rfl,BJ⟩:=hrel
    by_cases hin:i < nL
    · have hin':(i:Int) < (nL:Int):=by omega
      have hiM:i < M.length:=by rw [EL.out];exact hin
      have Rj:=R6.out.keep BJ.out
      obtain ⟨p',c',e',hp⟩:=Rj.form
      simp only [Value.slice.injEq] at e'
      obtain ⟨rfl,-,rfl⟩:=e'
      obtain ⟨g,rfl,x0⟩:=hp i hiM
      have zM:M[i]∈M:=List.getElem_mem hiM
      have N1:=hidd fun w=>NE.out M[i] zM w
      have HB1:=hidd fun w h=>HB.out M[i] zM w h
      have OP1:=hidd fun N (hN:NbS M[i] N)=>OP.out M[i] N hN
      have MB:Hid (decide (M[i]∈M.filter (opB M))=opB M M[i]):=hidd (by
       refine Bool.eq_iff_iff.2 ?_
       rw [decide_eq_true_iff,List.mem_filter]
       exact ⟨fun h=>h.2,fun h=>⟨zM,h⟩⟩)
      rw [MB.out] at HB1
      clear Rj hp zM MB
      generalize opB M M[i]=ob at *
      generalize M[i]=z at *
      go_wp2_with fail
      refine (N1.out _).mono ?_
      rintro e z1 ⟨⟨sN,N,rfl,hN,hNb,hN6,hNu⟩,c1⟩
      have BJ1:=hidd (belowT BJ.out c1)
      have HN:=hidd hN
      have HU:=hidd hNu
      have ON:=hidd (OP1.out N hNb)
      obtain ⟨pN,cN,rfl,hpN⟩:=hN.form
      have HP:=hidd hpN
      replace x0:=keepCell c1 x0
      obtain ⟨m,em⟩:∃ m,N.length=m:=⟨_,rfl⟩
      have EM:=hidd em
      rw [em] at hN6 HN ⊢
      clear N1 c1 hN hNb hNu hpN em OP1
      go_wp2_with fail
      go_loopw [21,22] (fun v21 v22 wr=>∃ j k:Nat,j≤m∧k≤j∧v22=.int .i64 (j:Int)∧v21=.int .i64 (k:Int)∧Hid (k=((N.take j).filter fun y=>decide (y∈M)).length)∧Hid (Below z1.heap.size z1 wr)) (fun _ v22 _=>m - (intOf v22).toNat)
      case atStart=>exact ⟨0,0,by omega,by omega,rfl,rfl,hidd rfl,hidd (Below.refl _ _)⟩
      case round =>
       obtain ⟨j,k,hj,hkj,rfl,rfl,hk,BK⟩:=hrel
       by_cases hjm:j < m
       · have hjm':(j:Int) < (m:Int):=by omega
         have hjN:j < N.length:=by rw [EM.out];exact hjm
         obtain ⟨g2,rfl,y0⟩:=HP.out j hjN
         replace y0:=keepCell BK.out y0
         have HL1:=hidd (HL.out N[j] (HU.out _ (List.getElem_mem hjN)) _ (R6.out.keep (belowT BJ1.out BK.out)))
         have NX:Hid (((N.take (j+1)).filter fun y=>decide (y∈M)).length=k+if decide (N[j]∈M) then 1 else 0):=hidd (by rw [cnt_next hjN,← hk.out])
         clear hk
         generalize decide (N[j]∈M)=tb at *
         generalize N[j]=q at *
         cases tb
         · go_wp2_with fail
           refine HL1.out.mono ?_
           rintro e z2 ⟨rfl,c2⟩
           have BK1:=hidd (belowT BK.out c2)
           clear HL1 c2 BK
           go_wp2_with fail
           go_roundw
           case rel=>exact ⟨j+1,k,by omega,by omega,by go_num,rfl,hidd (by rw [NX.out];rfl),BK1⟩
           case measure=>simp [intOf];omega
         · go_wp2_with fail
           refine HL1.out.mono ?_
           rintro e z2 ⟨rfl,c2⟩
           have BK1:=hidd (belowT BK.out c2)
           clear HL1 c2 BK
           go_wp2_with fail
           go_roundw
           case rel=>exact ⟨j+1,k+1,by omega,by omega,by go_num,by go_num,hidd (by rw [NX.out];rfl),BK1⟩
           case measure=>simp [intOf];omega
       · obtain rfl:j=m:=by omega
         have hjm':decide ((j:Int) < (j:Int))=false:=by simp
         have hob:ob=decide ((k:Int) < 6):=by
          rw [ON.out,hk.out,List.take_of_length_le (by rw [EM.out];omega)]
          exact decide_eq_decide.2 (by omega)
         have BJ2:=hidd (belowT BJ1.out BK.out)
         have HB2:=hidd (HB1.out _ (RB6.out.keep BJ2.out))
         rw [hob] at HB2
         have hne:(decide ((k:Int) < 6) != decide ((k:Int) < 6))=false:=by simp
         replace x0:=keepCell BK.out x0
         clear hk hob ON HB1 BK BJ BJ1 HU HP
         go_wp2_with fail
         refine HB2.out.mono ?_
         rintro e z2 ⟨rfl,c2⟩
         have BJ3:=hidd (belowT BJ2.out c2)
         clear HB2 c2 BJ2 x0
         go_wp2_with fail
         go_roundw
         case rel=>exact ⟨i+1,by omega,by go_num,BJ3⟩
         case measure=>simp [intOf];omega
    · obtain rfl:i=nL:=by omega
      have hin':decide ((i:Int) < (i:Int))=false:=by simp
      have lb':(nB:Int)≤(i:Int):=by omega
      have H7:=hidd (H6.out.below BJ.out)
      have B7:=hidd (belowT B6.out BJ.out)
      go_wp2_with fail
      refine (AW.out _ H7.out).mono ?_
      rintro e z1 ⟨rfl,c1⟩
      go_wp2_with fail
      go_ret
      exact ⟨rfl,belowT B7.out c1⟩
theorem fillPacks_walk (x y:Int) (sX:Value) (X:List Int) (r0:Int) (W:World) (hT:Cov3 W) (_: -9223372036854775808≤x) (_:x≤9223372036854775807) (_: -9223372036854775808≤y) (_:y≤9223372036854775807) (hX:LstK .i64 W sX X) (_:∀ x∈X,-9223372036854775808≤x∧x≤9223372036854775807) (_: -9223372036854775808≤r0) (_:r0≤9223372036854775807) :
 Calls Tryz.prog 7 #[.int .i64 x,.int .i64 y,sX,.int .i64 r0] W fun e w'=>e=.returned (.bool true)∧Below W.heap.size W w':=by
 obtain ⟨t,s',K,e1,e2,t1,t2,hK,hs⟩:=size13 r0
 obtain ⟨r,es⟩:∃ r:Nat,s'=(r:Int):=⟨s'.toNat,by have h:=e2;rw [Int.tmod_eq_emod_of_nonneg (by omega)] at h;omega⟩
 exact fillPacks_core x y r0 t s' sX X r K hK (by rw [← es];exact hs) es e1 e2 t1 t2 W hT hX
end Go.Proofs.YtbnlhdnnenahfaaGreatDoor
