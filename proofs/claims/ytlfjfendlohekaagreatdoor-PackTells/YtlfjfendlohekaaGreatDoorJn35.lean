/-
  What Pow of package num tells, for any number and exponent of 64 bits, in whatever memory.
-/
import Derived.Test.YtlfjfendlohekaaGreatDoorKCmp
import Derived.Test.YtlfjfendlohekaaGreatDoorJn22
namespace Go.Proofs.YtlfjfendlohekaaGreatDoor
open Go.RowKit
set_option maxHeartbeats 1000000 in
theorem power_see (a:Int) (K:Nat) (a1: -9223372036854775808≤a) (a2:a≤9223372036854775807) (hK:K≤9223372036854775807) (w:World) :
 Calls Tryz.prog 70 #[.agg #[.int .i64 a,.int .i64 (K:Int)]] w fun e w'=>∃ n,e=.returned (.tuple #[.int .i64 n,.bool (fits (a^K))])∧(fits (a^K)=true→n=a^K)∧Below w.heap.size w w':=by
 go_enter Tryz.func70,Tryz.ntmps70
 go_wp2
 go_quiet (fail)
 go_wp2_with fail
 refine (bits_len _ _ (by omega) (by omega)).mono ?_
 rintro e w1 ⟨rfl,rfl⟩
 have hl:=bitLen_64 K (by omega)
 have ht:=bitLen_top K (by omega)
 rw [Int.toNat_natCast]
 generalize Lib.bitLen K=L at hl ht ⊢
 go_wp2_with fail
 go_loopw [4,5,6] (fun n ok i wr=>∃ (q m:Int) (b:Bool),-1≤q∧q≤63∧n=.int .i64 m∧ok=.bool b∧i=.int .i64 q∧-9223372036854775808≤m∧m≤9223372036854775807∧(b=true→m=a^(K / 2^(q+1).toNat))∧(b=false→¬ In64 (a^K))∧Below (w.heap.size+1) (w.alloc (.cells #[.int .i64 a,.int .i64 (K:Int)] 107)) wr)
  (fun _ _ i _=>(intOf i+1).toNat)
 case atStart=>exact ⟨(L:Int) - 1,1,true,by omega,by omega,rfl,rfl,rfl,by omega,by omega,fun _=>by rw [show ((L:Int) - 1+1).toNat=L by omega,ht];simp,(fun h=>by cases h),belowN (Below.refl _ _) _⟩
 case round =>
  obtain ⟨q,m,b,hq1,hq2,rfl,rfl,rfl,m1,m2,hy,hn,hb⟩:=hrel
  have c0:wr.cell? ⟨w.heap.size,0,none⟩=some (.int .i64 a):=by rw [hb.cell (p:=⟨w.heap.size,0,none⟩) (by simp)];go_simp
  have c1:wr.cell? ⟨w.heap.size,1,none⟩=some (.int .i64 (K:Int)):=by rw [hb.cell (p:=⟨w.heap.size,1,none⟩) (by simp)];go_simp
  have hbW:Below w.heap.size w wr:=((Below.refl _ _).alloc (Nat.le_refl _) _).trans (hb.mono (by omega))
  have hz:w.heap.size+1≤wr.heap.size:=by have:=hb.size;simpa using this
  cases b with
  | false =>
   have HF:Hid (fits (a^K)=false):=fits_no (hn rfl)
   clear hy hn hb
   go_wp2
   go_ret2
   exact ⟨m,by rw [HF.out];rfl,(fun h=>by rw [HF.out] at h;cases h),hbW⟩
  | true =>
   by_cases hq:q < 0
   · have hm:=hy rfl
     rw [show (q+1).toNat=0 by omega] at hm
     simp only [Nat.pow_zero,Nat.div_one] at hm
     have HF:Hid (fits (a^K)=true):=by rw [← hm];exact fits_mk ⟨m1,m2⟩
     have HM:Hid (m=a^K):=hm
     clear hy hn hb hm
     go_wp2
     go_ret2
     exact ⟨m,by rw [HF.out];rfl,fun _=>HM.out,hbW⟩
   · have HY:Hid (m=a^(K / 2^(q+1).toNat)):=hy rfl
     clear hy hn
     have hst:=half_step K (q+1).toNat (by omega)
     rw [show (q+1).toNat - 1=q.toNat by omega] at hst
     have HST:Hid (K / 2^q.toNat=2*(K / 2^(q+1).toNat)+K / 2^q.toNat%2):=hst
     clear hst
     obtain ⟨s,hs⟩:∃ s:Nat,s=K / 2^q.toNat:=⟨_,rfl⟩
     have hs':(K:Int) / 2^q.toNat=(s:Int):=by rw [hs];simp
     have hsle:s≤K:=by rw [hs];exact Nat.div_le_self _ _
     have HS:Hid (s=K / 2^q.toNat):=hs
     clear hs
     have hbit:bits .and .i64 (s:Int) 1=(s:Int)%2:=by
      have:=i64_mask (s:Int) 1 (by omega)
      simpa using this
     have later:∀ w2,Below wr.heap.size wr w2→w2.cell? ⟨w.heap.size,0,none⟩=some (.int .i64 a)∧w2.cell? ⟨w.heap.size,1,none⟩=some (.int .i64 (K:Int))∧Below (w.heap.size+1) (w.alloc (.cells #[.int .i64 a,.int .i64 (K:Int)] 107)) w2∧w.heap.size+1≤w2.heap.size:=fun w2 h =>
      ⟨(h.cell (p:=⟨w.heap.size,0,none⟩) (show w.heap.size < wr.heap.size by omega)).trans c0,(h.cell (p:=⟨w.heap.size,1,none⟩) (show w.heap.size < wr.heap.size by omega)).trans c1,hb.trans (h.mono hz),by have:=h.size;omega⟩
     have LAT:Hid (∀ w2,Below wr.heap.size wr w2→w2.cell? ⟨w.heap.size,0,none⟩=some (.int .i64 a)∧w2.cell? ⟨w.heap.size,1,none⟩=some (.int .i64 (K:Int))∧Below (w.heap.size+1) (w.alloc (.cells #[.int .i64 a,.int .i64 (K:Int)] 107)) w2∧w.heap.size+1≤w2.heap.size):=later
     clear later hb hbW hsle
     by_cases hmm:In64 (m*m)
     · by_cases hodd:(s:Int)%2=1
       · go_wp2_with fail
         refine (mul_fits m m m1 m2 m1 m2 hmm _).mono ?_
         rintro e w2 ⟨rfl,hb2⟩
         obtain ⟨d0,d1,hb3,hz3⟩:=LAT.out w2 hb2
         clear LAT
         go_wp2_with fail
         refine (mul_any (m*m) a hmm.1 hmm.2 a1 a2 _).mono ?_
         rintro e w3 ⟨rfl,hb4⟩
         have hb5:=hb3.trans (hb4.mono hz3)
         clear hb2 hb3 hb4
         go_wp2
         go_roundw
         case rel =>
          have e1:m*m*a=a^(K / 2^(q - 1+1).toNat):=by
           rw [show q - 1+1=q by omega,HST.out,← HS.out,show s%2=1 by omega,pow_odd,← HY.out]
          refine ⟨q - 1,_,_,by omega,by omega,rfl,rfl,rfl,(kept_bd _).1,(kept_bd _).2,fun h=>?_,fun h=>?_,hb5⟩
          · rw [kept_mk h];exact e1
          · refine over_mono (e:=K / 2^(q - 1+1).toNat) (Nat.div_le_self _ _) ?_
            rw [← e1]
            intro hi
            rw [fits_mk hi] at h
            cases h
         case measure=>simp [intOf];omega
       · have hev:((s:Int)%2 == 1)=false:=by simpa using hodd
         go_wp2_with fail
         refine (mul_fits m m m1 m2 m1 m2 hmm _).mono ?_
         rintro e w2 ⟨rfl,hb2⟩
         obtain ⟨d0,d1,hb3,hz3⟩:=LAT.out w2 hb2
         clear LAT hb2
         go_wp2
         go_roundw
         case rel =>
          have e1:m*m=a^(K / 2^(q - 1+1).toNat):=by
           rw [show q - 1+1=q by omega,HST.out,← HS.out,show s%2=0 by omega,Nat.add_zero,pow_even,← HY.out]
          exact ⟨q - 1,m*m,true,by omega,by omega,rfl,rfl,rfl,hmm.1,hmm.2,fun _=>e1,(fun h=>by cases h),hb3⟩
         case measure=>simp [intOf];omega
     · go_wp2_with fail
       refine (mul_over m m m1 m2 m1 m2 hmm _).mono ?_
       rintro e w2 ⟨rfl,hb2⟩
       obtain ⟨d0,d1,hb3,hz3⟩:=LAT.out w2 hb2
       clear LAT hb2
       go_wp2
       go_roundw
       case rel =>
        have e1:m*m=a^(2*(K / 2^(q+1).toNat)):=by rw [pow_even,← HY.out]
        refine ⟨q - 1,0,false,by omega,by omega,rfl,rfl,rfl,by omega,by omega,(fun h=>by cases h),fun _=>over_mono (e:=2*(K / 2^(q+1).toNat)) ?_ ?_,hb3⟩
        · have:=HST.out;have h2:K / 2^q.toNat≤K:=Nat.div_le_self _ _;omega
        · rw [← e1];exact hmm
       case measure=>simp [intOf];omega
set_option maxHeartbeats 400000 in
theorem pow_any (a:Int) (K:Nat) (a1: -9223372036854775808≤a) (a2:a≤9223372036854775807) (hK:K≤9223372036854775807) (w:World) :
 Calls Tryz.prog 39 #[.int .i64 a,.int .i64 (K:Int)] w fun e w'=>e=.returned (.tuple #[.int .i64 (kept (a^K)),.bool (fits (a^K))])∧Below w.heap.size w w':=by
 have hmf:=hmf
 cases hf:fits (a^K) with
 | true =>
  have HK:Hid (kept (a^K)=a^K):=kept_mk hf
  go_enter Tryz.func39,Tryz.ntmps39
  go_wp2_with (first | (go_at_call 70;refine (power_see a K a1 a2 hK _).mono ?_;rintro e w1 ⟨n,rfl,hn,hb⟩;have hn':Hid (n=a^K):=hn hf;clear hn) | go_in)
  go_ret2
  exact ⟨by rw [HK.out,← hn'.out];rfl,hb⟩
 | false =>
  have HK:Hid (kept (a^K)=0):=kept_no hf
  go_enter Tryz.func39,Tryz.ntmps39
  go_wp2_with (first | (go_at_call 70;refine (power_see a K a1 a2 hK _).mono ?_;rintro e w1 ⟨n,rfl,hn,hb⟩;clear hn) | go_in)
  go_ret2
  exact ⟨by rw [HK.out];rfl,hb⟩
theorem n_seven (K:Nat) (hK:K≤12) (w:World):Calls Tryz.prog 39 #[.int .i64 7,.int .i64 (K:Int)] w fun e w'=>e=.returned (.tuple #[.int .i64 (7^K),.bool true])∧Below w.heap.size w w':=by
 have h:=pow_any 7 K (by omega) (by omega) (by omega) w
 have hs:=seven_box hK
 have hf:fits ((7:Int)^K)=true:=fits_mk ⟨by omega,by omega⟩
 rwa [kept_mk hf,hf] at h
set_option maxHeartbeats 4000000 in
set_option maxRecDepth 20000 in
theorem p_anyFiner (s:Value) (L:List Int) (r:Int) (hn:L.length≤50000) (hL:∀ x∈L,Whole x) (b:Bool) (hb:b=true↔∃ x∈L,r < wR x) (w:World) (hl:Lst w s L) :
 Calls Tryz.prog 38 #[s,.int .i64 r] w fun e w'=>e=.returned (.bool b)∧Below w.heap.size w w':=by
 obtain ⟨p,cap,rfl,-,hc⟩:=hl
 obtain ⟨n,en⟩:∃ n,L.length=n:=⟨_,rfl⟩
 have HC:=hidd hc
 have EN:=hidd en
 have HL:=hidd hL
 have HB:=hidd hb
 rw [en] at hn ⊢
 clear hc en hL hb
 go_enter Tryz.func38,Tryz.ntmps38
 go_wp2_with fail
 go_loopw [9] (fun v9 wr=>∃ i:Nat,i≤n∧v9=.int .i64 (i:Int)∧Hid (∀ (j:Nat) (hj:j < L.length),j < i→wR L[j]≤r)∧Below w.heap.size w wr) (fun v9 _=>n - (intOf v9).toNat)
 case atStart=>exact ⟨0,by omega,rfl,hidd fun j _ h=>absurd h (Nat.not_lt_zero _),Below.refl _ _⟩
 case round =>
  obtain ⟨i,hi,rfl,hI,hB⟩:=hrel
  by_cases hlt:i < n
  · have hiL:i < L.length:=by rw [EN.out];exact hlt
    obtain ⟨g,o,rfl,x1⟩:=HC.out i hiL
    replace x1:=keepCell hB x1
    have hm:=hidd (List.getElem_mem hiL)
    have RS:=hidd fun w=>ires_yes L[i] (HL.out _ hm.out) w
    by_cases hr:r < wR L[i]
    · have hT:Hid (b=true):=hidd (HB.out.2 ⟨_,hm.out,hr⟩)
      clear hI hm
      generalize wR L[i]=z at *
      generalize L[i]'_=x at *
      go_wp2_with fail
      refine (RS.out _).mono ?_
      rintro e w1 ⟨rfl,b1⟩
      have B1:=belowT hB b1
      go_wp2_with fail
      go_ret
      exact ⟨by rw [hT.out];rfl,B1⟩
    · have hI2:Hid (∀ (j:Nat) (hj:j < L.length),j < i+1→wR L[j]≤r):=hidd fun j hj h=>by
       rcases Nat.lt_or_ge j i with k | k
       · exact hI.out j hj k
       · obtain rfl:j=i:=by omega
         omega
      have hr':decide (r < wR L[i])=false:=df hr
      clear hI hm hr
      generalize wR L[i]=z at *
      generalize L[i]'_=x at *
      go_wp2_with fail
      refine (RS.out _).mono ?_
      rintro e w1 ⟨rfl,b1⟩
      have B1:=belowT hB b1
      go_wp2_with fail
      go_roundw
      case rel=>exact ⟨i+1,by omega,by go_num,hI2,B1⟩
      case measure=>simp [intOf];omega
  · obtain rfl:i=n:=by omega
    have hT:Hid (b=false):=hidd (by
     cases hb:b with
     | false=>rfl
     | true =>
      obtain ⟨x,hx,h⟩:=HB.out.1 hb
      obtain ⟨j,hj,rfl⟩:=List.mem_iff_getElem.1 hx
      have:=hI.out j hj (by rw [← EN.out];exact hj)
      omega)
    clear hI
    go_wp2_with fail
    go_ret
    exact ⟨by rw [hT.out];rfl,hB⟩
set_option maxHeartbeats 4000000 in
set_option maxRecDepth 20000 in
theorem p_size (s:Value) (L:List Int) (r:Int) (hr: -9223372036854775808≤r∧r≤9223372036854775807) (hn:L.length≤50000) (uL:∀ x∈L,U64 x) (w:World) (hl:Lst w s L) :
 Calls Tryz.prog 19 #[s,.int .i64 r] w fun e w'=>(∃ z t,e=.returned (.tuple #[.int .i64 z,.int .i64 t])∧SizeT L r z t)∧Below w.heap.size w w':=by
 have HL:=hidd hl
 have HN:=hidd hn
 obtain ⟨p,cap,hs,-,hc⟩:=hl
 obtain ⟨n,en⟩:∃ n,L.length=n:=⟨_,rfl⟩
 have EN:=hidd en
 rw [en] at hs hn
 subst hs
 have UL:=hidd uL
 have HC:=hidd hc
 clear uL en hc
 by_cases hW:∀ x∈L,Whole x
 · have AW:=hidd fun w h=>p_areWords (.slice p n cap) L HN.out UL.out true (by simp only [true_iff];exact hW) w h
   have HW:=hidd hW
   by_cases hF:∃ x∈L,r < wR x
   · have AF:=hidd fun w h=>p_anyFiner (.slice p n cap) L r HN.out hW true (by simp only [true_iff];exact hF) w h
     have HF:=hidd hF
     clear hW hF
     go_enter Tryz.func19,Tryz.ntmps19
     go_wp2_with fail
     refine (AW.out _ HL.out).mono ?_
     rintro e w1 ⟨rfl,b1⟩
     have L1:=hidd (HL.out.keep b1)
     have B1:=hidd b1
     clear b1
     go_wp2_with fail
     refine (AF.out _ L1.out).mono ?_
     rintro e w2 ⟨rfl,b2⟩
     have B2:=hidd (belowT B1.out b2)
     clear b2 L1 B1
     go_wp2
     go_ret2
     exact ⟨⟨0,8,rfl,.inr (.inl ⟨HW.out,HF.out,rfl,rfl⟩)⟩,B2.out⟩
   · have AF:=hidd fun w h=>p_anyFiner (.slice p n cap) L r HN.out hW false (by simp [hF]) w h
     have HF:Hid (∀ x∈L,wR x≤r):=hidd fun x hx=>by
      by_cases h:wR x≤r
      · exact h
      · exact absurd ⟨x,hx,by omega⟩ hF
     clear hW hF
     by_cases hrr:0≤r∧r≤12
     · obtain ⟨m,rfl⟩:=Int.eq_ofNat_of_zero_le hrr.1
       have hm:m≤12:=by omega
       have q1:decide ((m:Int) < 0)=false:=df (by omega)
       have q2:decide ((12:Int) < (m:Int))=false:=df (by omega)
       have WI:Hid (WithinR m L):=hidd fun x hx=>⟨HW.out x hx,HF.out x hx⟩
       clear hrr
       go_enter Tryz.func19,Tryz.ntmps19
       go_wp2_with fail
       refine (AW.out _ HL.out).mono ?_
       rintro e w1 ⟨rfl,b1⟩
       have L1:=hidd (HL.out.keep b1)
       have B1:=hidd b1
       clear b1
       go_wp2_with fail
       refine (AF.out _ L1.out).mono ?_
       rintro e w2 ⟨rfl,b2⟩
       have B2:=hidd (belowT B1.out b2)
       clear b2 L1 B1 AW AF HW HF
       go_wp2_with fail
       go_loopw [6,25] (fun v6 v25 wr=>∃ (i:Nat) (z:Int),i≤n∧v25=.int .i64 (i:Int)∧v6=.int .i64 z∧0≤z∧z≤1099511627776∧Hid (z=cntR m (L.take i))∧Below w.heap.size w wr) (fun _ v25 _=>n - (intOf v25).toNat)
       case atStart=>exact ⟨0,0,by omega,rfl,rfl,by omega,by omega,hidd rfl,B2.out⟩
       case round =>
        clear B2
        obtain ⟨i,z,hi,rfl,rfl,z0,z1,hz,hB⟩:=hrel
        by_cases hlt:i < n
        · have hiL:i < L.length:=by rw [EN.out];exact hlt
          obtain ⟨g,o,rfl,x1⟩:=HC.out i hiL
          replace x1:=keepCell hB x1
          have hwi:=WI.out _ (List.getElem_mem hiL)
          have hbx:=wR_box L[i]
          have RS:=hidd fun w=>ires_yes L[i] hwi.1 w
          have NX:=hidd (cntR_next m hiL)
          obtain ⟨K,hK⟩:∃ K:Nat,m - (wR L[i]).toNat=K:=⟨_,rfl⟩
          rw [hK] at NX
          have eK:(m:Int) - wR L[i]=(K:Int):=by omega
          have hK12:K≤12:=by omega
          have PW:=hidd fun w=>n_seven K hK12 w
          have bx:=seven_box hK12
          clear hwi hbx hK
          obtain ⟨Z,hZ⟩:∃ Z,(7:Int)^K=Z:=⟨_,rfl⟩
          rw [hZ] at NX PW bx
          clear hZ
          generalize wR L[i]=R at *
          generalize L[i]'_=x at *
          have hcnt:Hid (z+Z=cntR m (L.take (i+1))):=hidd (by rw [NX.out,hz.out])
          have hle:=hidd (cntR_take m L (i+1))
          clear NX hz
          by_cases hmany:1099511627776 < z+Z
          · have hT:Hid (SizeT L (m:Int) 0 7):=hidd (.inr (.inr (.inr ⟨m,rfl,hm,WI.out,.inl ⟨by have:=hle.out;have:=hcnt.out;omega,rfl,rfl⟩⟩)))
            clear hcnt hle
            go_wp2_with fail
            refine (RS.out _).mono ?_
            rintro e w3 ⟨rfl,b3⟩
            have B3:=belowT hB b3
            go_wp2_with fail
            refine (PW.out _).mono ?_
            rintro e w4 ⟨rfl,b4⟩
            have B4:=belowT B3 b4
            go_wp2_with fail
            go_ret2
            exact ⟨⟨0,7,rfl,hT.out⟩,B4⟩
          · have hmany':decide (1099511627776 < z+Z)=false:=df hmany
            go_wp2_with fail
            refine (RS.out _).mono ?_
            rintro e w3 ⟨rfl,b3⟩
            have B3:=belowT hB b3
            go_wp2_with fail
            refine (PW.out _).mono ?_
            rintro e w4 ⟨rfl,b4⟩
            have B4:=belowT B3 b4
            go_wp2_with fail
            go_roundw
            case rel=>exact ⟨i+1,z+Z,by omega,by go_num,rfl,by omega,by omega,hcnt,B4⟩
            case measure=>simp [intOf];omega
        · obtain rfl:i=n:=by omega
          have hT:Hid (SizeT L (m:Int) z 0):=hidd (.inr (.inr (.inr ⟨m,rfl,hm,WI.out,.inr ⟨by have:=hz.out;rw [List.take_of_length_le (by rw [EN.out];omega)] at this;omega,by have:=hz.out;rwa [List.take_of_length_le (by rw [EN.out];omega)] at this,rfl⟩⟩)))
          clear hz
          go_wp2_with fail
          go_ret2
          exact ⟨⟨z,0,rfl,hT.out⟩,hB⟩
     · have hT:Hid (SizeT L r 0 1):=hidd (.inr (.inr (.inl ⟨HW.out,HF.out,hrr,rfl,rfl⟩)))
       have hq:r < 0∨(decide (r < 0)=false∧12 < r):=by
        by_cases h:r < 0
        · exact .inl h
        · exact .inr ⟨df h,by omega⟩
       clear hrr HW HF
       rcases hq with hq | ⟨hq,hq2⟩
       all_goals
        go_enter Tryz.func19,Tryz.ntmps19
        go_wp2_with fail
        refine (AW.out _ HL.out).mono ?_
        rintro e w1 ⟨rfl,b1⟩
        have L1:=hidd (HL.out.keep b1)
        have B1:=hidd b1
        clear b1
        go_wp2_with fail
        refine (AF.out _ L1.out).mono ?_
        rintro e w2 ⟨rfl,b2⟩
        have B2:=hidd (belowT B1.out b2)
        clear b2 L1 B1
        go_wp2
        go_ret2
        exact ⟨⟨0,1,rfl,hT.out⟩,B2.out⟩
 · have AW:=hidd fun w h=>p_areWords (.slice p n cap) L HN.out UL.out false (by simp only [Bool.false_eq_true,false_iff];exact hW) w h
   have HW:=hidd hW
   clear hW
   go_enter Tryz.func19,Tryz.ntmps19
   go_wp2_with fail
   refine (AW.out _ HL.out).mono ?_
   rintro e w1 ⟨rfl,b1⟩
   have B1:=hidd b1
   clear b1
   go_wp2
   go_ret2
   exact ⟨⟨0,5,rfl,.inl ⟨HW.out,rfl,rfl⟩⟩,B1.out⟩
end Go.Proofs.YtlfjfendlohekaaGreatDoor
