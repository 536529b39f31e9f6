/-
  The law PackTells answers true for every list of words, list of numbers, sizes and word, in whatever memory where the two tables hold what their texts lay.
-/
import Derived.Test.YtlfjfendlohekaaGreatDoorRCmp8
import Derived.Test.YtlfjfendlohekaaGreatDoorPAwake
namespace Go.Proofs.YtlfjfendlohekaaGreatDoor
open Go.RowKit
theorem cmp_two {C C':Nat} {L:List Int} {e e':Ending} {w1 w2:World} (hn:L.length≤300) (h:TellsCmp C L e w1) (h':TellsCmp C' L e' w2) :
 ∃ (s s':Value) (P:List Int) (t:Int),e=.returned (.tuple #[s,.int .i64 t])∧e'=.returned (.tuple #[s',.int .i64 t])∧P.length≤300∧(∀ x∈P,U64 x)∧Lst w1 s P∧Lst w2 s' P:=by
 have no:∀ t:Int,∃ (s s':Value) (P:List Int) (t':Int),Ending.returned (.tuple #[.slice none 0 0,.int .i64 t])=.returned (.tuple #[s,.int .i64 t'])∧Ending.returned (.tuple #[.slice none 0 0,.int .i64 t])=.returned (.tuple #[s',.int .i64 t'])∧P.length≤300∧(∀ x∈P,U64 x)∧Lst w1 s P∧Lst w2 s' P :=
  fun t=>⟨_,_,[],t,rfl,rfl,by simp,fun x hx=>by simp at hx,nil_lst w1,nil_lst w2⟩
 rcases h with ⟨a,_⟩ | ⟨_,a,rfl⟩ | ⟨_,a,b,rfl⟩ | ⟨_,a,b,sl,P,rfl,hP,hn1,hl,_,_⟩
 · omega
 · rcases h' with ⟨a',_⟩ | ⟨_,_,rfl⟩ | ⟨_,a',_⟩ | ⟨_,a',_⟩
   · omega
   · exact no 5
   · exact absurd a' a
   · exact absurd a' a
 · rcases h' with ⟨a',_⟩ | ⟨_,a',_⟩ | ⟨_,_,_,rfl⟩ | ⟨_,_,b',_⟩
   · omega
   · exact absurd a a'
   · exact no 8
   · exact absurd b' b
 · rcases h' with ⟨a',_⟩ | ⟨_,a',_⟩ | ⟨_,_,b',_⟩ | ⟨_,_,_,sl',P',rfl,hP',_,hl',_,_⟩
   · omega
   · exact absurd a a'
   · exact absurd b b'
   · obtain ⟨r,hr,hS⟩:=one_size a b
     have p1:=hP r fun x hx=>(hS x hx).2
     obtain rfl:P=P':=p1.one hr (hP' r fun x hx=>(hS x hx).2) fun _=>Iff.rfl
     refine ⟨sl,sl',P,0,rfl,rfl,by omega,fun x hx=>?_,hl,hl'⟩
     have:=whole_box (p1.2.1 x hx).1
     exact ⟨by omega,by omega⟩
theorem spr_form {L:List Int} {r:Int} {e:Ending} {w1:World} (h:TellsSpr L r e w1) :
 ∃ (s:Value) (t:Int) (K:List Int),e=.returned (.tuple #[s,.int .i64 t])∧K.length≤20000∧Lst w1 s K∧∀ (C:Nat) (e':Ending) (w2:World),TellsRS C L r e' w2→∃ s',e'=.returned (.tuple #[s',.int .i64 t])∧Lst w2 s' K:=by
 obtain ⟨z,t,hz,h⟩:=h
 rcases h with ⟨h,rfl⟩ | ⟨rfl,h,rfl⟩ | ⟨rfl,h,m,rfl,sl,K,rfl,h2,h3,h4,h5,_⟩
 · refine ⟨_,t,[],rfl,by simp,nil_lst w1,fun C e' w2 h'=>?_⟩
   obtain ⟨z',t',hz',h'⟩:=h'
   obtain ⟨rfl,rfl⟩:=hz.one hz'
   rcases h' with ⟨_,rfl⟩ | ⟨rfl,_⟩ | ⟨rfl,_⟩
   · exact ⟨_,rfl,nil_lst w2⟩
   · exact absurd rfl h
   · exact absurd rfl h
 · refine ⟨_,7,[],rfl,by simp,nil_lst w1,fun C e' w2 h'=>?_⟩
   obtain ⟨z',t',hz',h'⟩:=h'
   obtain ⟨rfl,rfl⟩:=hz.one hz'
   rcases h' with ⟨h0,_⟩ | ⟨_,_,rfl⟩ | ⟨_,h0,_⟩
   · exact absurd rfl h0
   · exact ⟨_,rfl,nil_lst w2⟩
   · omega
 · refine ⟨sl,0,K,rfl,h4,h5,fun C e' w2 h'=>?_⟩
   obtain ⟨z',t',hz',h'⟩:=h'
   obtain ⟨rfl,rfl⟩:=hz.one hz'
   rcases h' with ⟨h0,_⟩ | ⟨_,h0,_⟩ | ⟨_,_,m',e,sl',K',rfl,k2,k3,_,k5⟩
   · exact absurd rfl h0
   · omega
   · obtain rfl:m=m':=by omega
     obtain rfl:K=K':=rising_ext h2 k2 fun x=>by rw [h3 x,k3 x]
     exact ⟨sl',rfl,Lst.own k5⟩
theorem free_bool (L:List Int):∃ b:Bool,b=true↔FreeP L:=by
 by_cases h:FreeP L
 · exact ⟨true,by simp [h]⟩
 · exact ⟨false,by simp [h]⟩
set_option maxHeartbeats 32000000 in
set_option maxRecDepth 20000 in
theorem packTells_walk (sR:Value) (R:List Int) (sX:Value) (X:List Int) (r tt w0:Int) (w:World) (hT:Tabs w) (hR:Lst w sR R) (uR:∀ x∈R,U64 x) (hX:LstK .i64 w sX X) (_:∀ x∈X,-9223372036854775808≤x∧x≤9223372036854775807) (_: -9223372036854775808≤r) (_:r≤9223372036854775807) (ht1: -9223372036854775808≤tt) (ht2:tt≤9223372036854775807) (h01:0≤w0) (h02:w0≤18446744073709551615) :
 Calls Tryz.prog 7 #[sR,sX,.int .i64 r,.int .i64 tt,.int .u64 w0] w fun e w'=>e=.returned (.bool true)∧Below w.heap.size w w':=by
 have AW:=hidd fun w h=>pawake w h
 have HT:=hidd hT
 have HR:=hidd hR
 have UR:=hidd uR
 have U0:Hid (U64 w0):=hidd ⟨h01,by omega⟩
 have TO:=hidd (And.intro ht1 ht2)
 clear hT uR ht1 ht2
 by_cases h40:40 < R.length∨20 < X.length
 · obtain ⟨pX,cX,rfl,-,-⟩:=hX
   obtain ⟨pR,cR,rfl,-,-⟩:=hR
   have A1:=hidd (AW.out w HT.out)
   have hc:(40:Int) < (R.length:Int)∨(decide ((40:Int) < (R.length:Int))=false∧(20:Int) < (X.length:Int)):=by
    by_cases h:40 < R.length
    · exact .inl (by omega)
    · exact .inr ⟨df (by omega),by omega⟩
   rcases hc with hc | ⟨hc,hd⟩
   all_goals
    go_enter Tryz.func7,Tryz.ntmps7
    go_wp2_with fail
    refine A1.out.mono ?_
    rintro e w1 ⟨rfl,b1⟩
    go_wp2_with fail
    go_ret
    exact ⟨rfl,b1⟩
 · obtain ⟨t,n,et,en,t1,t2,n12,szn⟩:=sz_walk r
   have WS:=hidd (words sX X r n szn w hX).2
   have NR:Hid (R.length≤300):=hidd (by omega)
   obtain ⟨pX,cX,rfl,-,-⟩:=hX
   obtain ⟨pR,cR,rfl,-,-⟩:=hR
   have h40':decide ((40:Int) < (R.length:Int))=false:=df (by omega)
   have h20':decide ((20:Int) < (X.length:Int))=false:=df (by omega)
   clear szn h40 et en t1 t2
   go_enter Tryz.func7,Tryz.ntmps7
   go_wp2_with fail
   refine WS.out.mono ?_
   rintro e w1 ⟨⟨sl,L0,rfl,hn,hW,hO⟩,b1⟩
   have U1:Hid (∀ x∈L0,U64 x):=hidd fun x hx=>by have:=whole_box (hW x hx).1;exact ⟨by omega,by omega⟩
   have L1:=hidd (Lst.own hO)
   have B1:=hidd b1
   have NL0:=hidd hn
   obtain ⟨pl,cl,rfl,-⟩:=own_slice hO
   clear hW hO b1 WS hn
   go_wp2_with fail
   go_loopw [11,12] (fun v11 v12 wr=>∃ (i:Nat) (L:List Int),i≤2∧v12=.int .i64 (i:Int)∧Hid (L.length≤300)∧Hid (∀ x∈L,U64 x)∧Hid (Lst wr v11 L)∧Hid (Below w.heap.size w wr)) (fun _ v12 _=>2 - (intOf v12).toNat)
   case atStart=>exact ⟨0,L0,by omega,rfl,NL0,U1,L1,B1⟩
   case round =>
    clear NL0 U1 L1 B1
    obtain ⟨i,L,hi2,rfl,hNL,hUL,hLL,hB⟩:=hrel
    obtain ⟨c,ec⟩:∃ c,L.length=c:=⟨_,rfl⟩
    have EC:=hidd ec
    have hc3:c≤300:=by have:=hNL.out;omega
    obtain ⟨p1,c1,e1,-,-⟩:=id hLL.out
    rw [ec] at e1
    subst e1
    have hb1:=hB
    by_cases hlt:i < 2
    · have hlt':(i:Int) < 2:=by omega
      have CM:=hidd (p_compact _ L (by have:=EC.out;omega) hUL.out wr hLL.out)
      clear ec hlt
      go_wp2_with fail
      refine CM.out.mono ?_
      rintro e w2 ⟨hc,b2⟩
      have HC:=hidd hc
      have B2:=hidd (belowT hB.out b2)
      have L2:=hidd (hLL.out.keep b2)
      have RC:=hidd (r_compact _ L (by have:=EC.out;omega) hUL.out w2 L2.out)
      obtain ⟨s0,t0,es0⟩:∃ (s:Value) (t:Int),e=.returned (.tuple #[s,.int .i64 t]):=by
       rcases hc with ⟨_,e⟩ | ⟨_,_,e⟩ | ⟨_,_,_,e⟩ | ⟨_,_,_,sl,P,e,_⟩
       · exact ⟨_,_,e⟩
       · exact ⟨_,_,e⟩
       · exact ⟨_,_,e⟩
       · exact ⟨_,_,e⟩
      subst es0
      clear hc b2 CM hLL
      go_wp2_with fail
      refine RC.out.mono ?_
      rintro e w3 ⟨hc,b3⟩
      obtain ⟨s,s',P,q,e1,e2,hPn,hPU,hP2,hP3⟩:=cmp_two hNL.out HC.out hc
      obtain ⟨rfl,rfl⟩:s0=s∧t0=q:=by
       injection e1 with e1
       injection e1 with e1
       simp at e1
       exact e1
      clear e1
      subst e2
      have PN:=hidd hPn
      have PU:=hidd hPU
      have PA:=hidd (hP2.keep b3)
      have PB:=hidd hP3
      have L3:=hidd (L2.out.keep b3)
      have B3:=hidd (belowT B2.out b3)
      have SA:=hidd (lsame s0 s' P (by omega) w3 PA.out PB.out)
      obtain ⟨pa,ca,rfl,-,-⟩:=hP2
      obtain ⟨pb,cb,rfl,-,-⟩:=hP3
      clear hc b3 RC HC L2 B2 hPn hPU
      go_wp2_with fail
      refine SA.out.mono ?_
      rintro e w4 ⟨rfl,b4⟩
      have PB4:=hidd (PB.out.keep b4)
      have L4:=hidd (L3.out.keep b4)
      have B4:=hidd (belowT B3.out b4)
      clear b4 SA PA PB L3 B3
      obtain ⟨fb,hfb⟩:=free_bool L
      have FB:=hidd hfb
      have hqq:(t0 != t0)=false:=by simp
      clear hfb
      have hfbb:(fb != fb)=false:=by simp
      have h120:(decide ((c:Int)≤120)=true)∨(decide ((c:Int)≤120)=false):=by cases decide ((c:Int)≤120) <;>simp
      rcases h120 with h120 | h120
      · have h120n:decide (c≤120)=true:=by
         have:=of_decide_eq_true h120
         exact decide_eq_true (by omega)
        have FP:=hidd (p_free _ L (by have:=EC.out;omega) hUL.out fb FB.out w4 L4.out)
        go_wp2_with fail
        refine FP.out.mono ?_
        rintro e w5 ⟨rfl,b5⟩
        have FR:=hidd (r_free _ L (by have:=EC.out;omega) hUL.out fb FB.out w5 (L4.out.keep b5))
        have B5:=hidd (belowT B4.out b5)
        have PB5:=hidd (PB4.out.keep b5)
        have L5:=hidd (L4.out.keep b5)
        clear b5 FP B4 PB4 L4
        go_wp2_with fail
        refine FR.out.mono ?_
        rintro e w6 ⟨rfl,b6⟩
        have B6:=hidd (belowT B5.out b6)
        have PB6:=hidd (PB5.out.keep b6)
        have L6:=hidd (L5.out.keep b6)
        clear b6 FR B5 PB5 L5
        have SZ:=hidd (p_size _ P tt TO.out (by have:=PN.out;omega) PU.out w6 PB6.out)
        go_wp2_with fail
        clear h120 h120n FB hfbb
        refine SZ.out.mono ?_
        rintro e w7 ⟨⟨z,g,rfl,hz⟩,b7⟩
        have HZ:=hidd hz
        have B7:=hidd (belowT B6.out b7)
        have PB7:=hidd (PB6.out.keep b7)
        have L7:=hidd (L6.out.keep b7)
        have RS:=hidd (r_size _ P tt TO.out (by have:=PN.out;omega) PU.out w7 PB7.out)
        clear b7 hz SZ B6 PB6 L6
        go_wp2_with fail
        refine RS.out.mono ?_
        rintro e w8 ⟨⟨z',g',rfl,hz'⟩,b8⟩
        obtain ⟨rfl,rfl⟩:=HZ.out.one hz'
        have hzz:(z != z)=false:=by simp
        have hgg:(g != g)=false:=by simp
        have B8:=hidd (belowT B7.out b8)
        have PB8:=hidd (PB7.out.keep b8)
        have L8:=hidd (L7.out.keep b8)
        have SP:=hidd (p_spread _ P tt TO.out (by have:=PN.out;omega) PU.out w8 PB8.out (HT.out.below B8.out))
        clear b8 hz' RS B7 PB7 L7
        go_wp2_with fail
        refine SP.out.mono ?_
        rintro e w9 ⟨hs,b9⟩
        obtain ⟨s9,t9,K,rfl,hKn,hKl,hK⟩:=spr_form hs
        have KN:=hidd hKn
        have KK:=hidd hK
        have K9:=hidd hKl
        have B9:=hidd (belowT B8.out b9)
        have PB9:=hidd (PB8.out.keep b9)
        have L9:=hidd (L8.out.keep b9)
        obtain ⟨p9,c9,rfl,-,-⟩:=hKl
        clear b9 hs SP B8 PB8 L8 hKn hK hzz hgg HZ
        have htt:(t9 != t9)=false:=by simp
        have hgo:(decide (z≤2500)=true)∨(decide (z≤2500)=false∧(g != 0)=true)∨(decide (z≤2500)=false∧(g != 0)=false∧True):=by
         cases decide (z≤2500) <;>cases (g != 0) <;>simp
        rcases hgo with h1 | ⟨h1,h2⟩ | ⟨h1,h2,mk3⟩
        all_goals first
         | (have _t:=mk3
            obtain ⟨w12,rfl⟩:∃ z,z=w9:=⟨_,rfl⟩
            have B12:=B9
            have L12:=L9
            clear B9 PB9 L9 K9 KK mk3)
         | (have RP:=hidd (r_spread _ P tt TO.out (by have:=PN.out;omega) PU.out w9 PB9.out)
            go_wp2_with fail
            refine RP.out.mono ?_
            rintro e w10 ⟨hr,b10⟩
            obtain ⟨s10,rfl,hl10⟩:=KK.out _ _ _ hr
            have SB:=hidd (lsame _ s10 K (by have:=KN.out;omega) w10 (K9.out.keep b10) hl10)
            have B10:=hidd (belowT B9.out b10)
            have L10:=hidd (L9.out.keep b10)
            obtain ⟨p10,c10,rfl,-,-⟩:=hl10
            clear hr b10 RP B9 PB9 L9 K9 KK
            go_wp2_with fail
            refine SB.out.mono ?_
            rintro e w12 ⟨rfl,b12⟩
            have B12:=hidd (belowT B10.out b12)
            have L12:=hidd (L10.out.keep b12)
            clear b12 SB B10 L10)
        all_goals
         have L1b:=L12.out
         obtain ⟨p1',c1',e1',-,hcell⟩:=L12.out
         simp only [Value.slice.injEq] at e1'
         obtain ⟨rfl,-,rfl⟩:=e1'
         have HC:=hidd hcell
         have B0:=hidd (Below.refl w12.heap.size w12)
         clear hcell L1b
         obtain ⟨wq,rfl⟩:∃ z,z=w12:=⟨_,rfl⟩
         go_wp2_with fail
         go_loopw [25,26] (fun v25 v26 wr=>∃ (k:Nat) (b:Bool),k≤c∧v26=.int .i64 (k:Int)∧v25=.bool b∧Hid (b=true↔∃ (j:Nat) (hj:j < L.length),j < k∧Whole w0∧Above L[j] w0)∧Hid (Below wq.heap.size wq wr)) (fun _ v26 _=>c - (intOf v26).toNat)
         case atStart=>exact ⟨0,false,by omega,rfl,rfl,hidd (by simp),B0⟩
         case round =>
          clear B0
          obtain ⟨k,b,hk,rfl,rfl,hAny,hX⟩:=hrel
          by_cases hkc:k < c
          · have hkc':(k:Int) < (c:Int):=by omega
            have hkL:k < L.length:=by rw [EC.out];exact hkc
            obtain ⟨gq,oq,rfl,x0⟩:=HC.out k hkL
            replace x0:=keepCell hX.out x0
            cases b with
            | true =>
             have hA2:Hid (true=true↔∃ (j:Nat) (hj:j < L.length),j < k+1∧Whole w0∧Above L[j] w0):=hidd (by
              simp only [true_iff]
              obtain ⟨j,hj,h1,h2⟩:=hAny.out.1 rfl
              exact ⟨j,hj,by omega,h2⟩)
             clear hAny x0
             go_wp2_with fail
             go_roundw
             case rel=>exact ⟨k+1,true,by omega,by go_num,rfl,hA2,hX⟩
             case measure=>simp [intOf];omega
            | false =>
             obtain ⟨d,hd⟩:∃ d:Bool,d=true↔Whole w0∧Above L[k] w0:=by
              by_cases h:Whole w0∧Above L[k] w0
              · exact ⟨true,by simp only [true_iff];exact h⟩
              · exact ⟨false,by simp only [Bool.false_eq_true,false_iff];exact h⟩
             have WI:=hidd fun w=>r_wordin w0 L[k] U0.out (hUL.out _ (List.getElem_mem hkL)) d hd w
             have hA2:Hid (d=true↔∃ (j:Nat) (hj:j < L.length),j < k+1∧Whole w0∧Above L[j] w0):=hidd (by
              rw [hd]
              constructor
              · intro h;exact ⟨k,hkL,by omega,h⟩
              · rintro ⟨j,hj,h1,h2⟩
                rcases Nat.lt_or_ge j k with q | q
                · have:=hAny.out.2 ⟨j,hj,q,h2⟩
                  cases this
                · obtain rfl:j=k:=by omega
                  exact h2)
             clear hAny hd
             generalize L[k]'_=y at *
             go_wp2_with fail
             refine (WI.out _).mono ?_
             rintro e w13 ⟨rfl,b13⟩
             have X13:=hidd (belowT hX.out b13)
             go_wp2_with fail
             go_roundw
             case rel=>exact ⟨k+1,d,by omega,by go_num,rfl,hA2,X13⟩
             case measure=>simp [intOf];omega
          · obtain rfl:k=c:=by omega
            have hkc':decide ((k:Int) < (k:Int))=false:=by simp
            have hbb:(b != b)=false:=by simp
            have L13:=hidd (L12.out.keep hX.out)
            have B13:=hidd (belowT B12.out hX.out)
            have CV:=hidd (p_covers _ L w0 U0.out (by have:=EC.out;omega) b (by
             rw [hAny.out]
             constructor
             · rintro ⟨j,hj,_,h2,h3⟩;exact ⟨h2,L[j],List.getElem_mem hj,h3⟩
             · rintro ⟨h2,p,hp,h3⟩
               obtain ⟨j,hj,rfl⟩:=List.mem_iff_getElem.1 hp
               exact ⟨j,hj,by have:=EC.out;omega,h2,h3⟩) wr L13.out)
            clear hAny hX L12 B12 HC hkc
            go_wp2_with fail
            refine CV.out.mono ?_
            rintro e w14 ⟨rfl,b14⟩
            have B14:=hidd (belowT B13.out b14)
            have R14:=hidd (HR.out.keep B14.out)
            clear b14 CV B13 L13
            go_wp2_with fail
            go_roundw
            case rel=>exact ⟨i+1,R,by omega,by go_num,NR,UR,R14,B14⟩
            case measure=>simp [intOf];omega
      · have h120n:decide (c≤120)=false:=by
         have:=of_decide_eq_false h120
         exact df (by omega)
        obtain ⟨w6,rfl⟩:∃ z,z=w4:=⟨_,rfl⟩
        have B6:=B4
        have PB6:=PB4
        have L6:=L4
        clear B4 PB4 L4
        have SZ:=hidd (p_size _ P tt TO.out (by have:=PN.out;omega) PU.out w6 PB6.out)
        go_wp2_with fail
        clear h120 h120n FB hfbb
        refine SZ.out.mono ?_
        rintro e w7 ⟨⟨z,g,rfl,hz⟩,b7⟩
        have HZ:=hidd hz
        have B7:=hidd (belowT B6.out b7)
        have PB7:=hidd (PB6.out.keep b7)
        have L7:=hidd (L6.out.keep b7)
        have RS:=hidd (r_size _ P tt TO.out (by have:=PN.out;omega) PU.out w7 PB7.out)
        clear b7 hz SZ B6 PB6 L6
        go_wp2_with fail
        refine RS.out.mono ?_
        rintro e w8 ⟨⟨z',g',rfl,hz'⟩,b8⟩
        obtain ⟨rfl,rfl⟩:=HZ.out.one hz'
        have hzz:(z != z)=false:=by simp
        have hgg:(g != g)=false:=by simp
        have B8:=hidd (belowT B7.out b8)
        have PB8:=hidd (PB7.out.keep b8)
        have L8:=hidd (L7.out.keep b8)
        have SP:=hidd (p_spread _ P tt TO.out (by have:=PN.out;omega) PU.out w8 PB8.out (HT.out.below B8.out))
        clear b8 hz' RS B7 PB7 L7
        go_wp2_with fail
        refine SP.out.mono ?_
        rintro e w9 ⟨hs,b9⟩
        obtain ⟨s9,t9,K,rfl,hKn,hKl,hK⟩:=spr_form hs
        have KN:=hidd hKn
        have KK:=hidd hK
        have K9:=hidd hKl
        have B9:=hidd (belowT B8.out b9)
        have PB9:=hidd (PB8.out.keep b9)
        have L9:=hidd (L8.out.keep b9)
        obtain ⟨p9,c9,rfl,-,-⟩:=hKl
        clear b9 hs SP B8 PB8 L8 hKn hK hzz hgg HZ
        have htt:(t9 != t9)=false:=by simp
        have hgo:(decide (z≤2500)=true)∨(decide (z≤2500)=false∧(g != 0)=true)∨(decide (z≤2500)=false∧(g != 0)=false∧True):=by
         cases decide (z≤2500) <;>cases (g != 0) <;>simp
        rcases hgo with h1 | ⟨h1,h2⟩ | ⟨h1,h2,mk3⟩
        all_goals first
         | (have _t:=mk3
            obtain ⟨w12,rfl⟩:∃ z,z=w9:=⟨_,rfl⟩
            have B12:=B9
            have L12:=L9
            clear B9 PB9 L9 K9 KK mk3)
         | (have RP:=hidd (r_spread _ P tt TO.out (by have:=PN.out;omega) PU.out w9 PB9.out)
            go_wp2_with fail
            refine RP.out.mono ?_
            rintro e w10 ⟨hr,b10⟩
            obtain ⟨s10,rfl,hl10⟩:=KK.out _ _ _ hr
            have SB:=hidd (lsame _ s10 K (by have:=KN.out;omega) w10 (K9.out.keep b10) hl10)
            have B10:=hidd (belowT B9.out b10)
            have L10:=hidd (L9.out.keep b10)
            obtain ⟨p10,c10,rfl,-,-⟩:=hl10
            clear hr b10 RP B9 PB9 L9 K9 KK
            go_wp2_with fail
            refine SB.out.mono ?_
            rintro e w12 ⟨rfl,b12⟩
            have B12:=hidd (belowT B10.out b12)
            have L12:=hidd (L10.out.keep b12)
            clear b12 SB B10 L10)
        all_goals
         have L1b:=L12.out
         obtain ⟨p1',c1',e1',-,hcell⟩:=L12.out
         simp only [Value.slice.injEq] at e1'
         obtain ⟨rfl,-,rfl⟩:=e1'
         have HC:=hidd hcell
         have B0:=hidd (Below.refl w12.heap.size w12)
         clear hcell L1b
         obtain ⟨wq,rfl⟩:∃ z,z=w12:=⟨_,rfl⟩
         go_wp2_with fail
         go_loopw [25,26] (fun v25 v26 wr=>∃ (k:Nat) (b:Bool),k≤c∧v26=.int .i64 (k:Int)∧v25=.bool b∧Hid (b=true↔∃ (j:Nat) (hj:j < L.length),j < k∧Whole w0∧Above L[j] w0)∧Hid (Below wq.heap.size wq wr)) (fun _ v26 _=>c - (intOf v26).toNat)
         case atStart=>exact ⟨0,false,by omega,rfl,rfl,hidd (by simp),B0⟩
         case round =>
          clear B0
          obtain ⟨k,b,hk,rfl,rfl,hAny,hX⟩:=hrel
          by_cases hkc:k < c
          · have hkc':(k:Int) < (c:Int):=by omega
            have hkL:k < L.length:=by rw [EC.out];exact hkc
            obtain ⟨gq,oq,rfl,x0⟩:=HC.out k hkL
            replace x0:=keepCell hX.out x0
            cases b with
            | true =>
             have hA2:Hid (true=true↔∃ (j:Nat) (hj:j < L.length),j < k+1∧Whole w0∧Above L[j] w0):=hidd (by
              simp only [true_iff]
              obtain ⟨j,hj,h1,h2⟩:=hAny.out.1 rfl
              exact ⟨j,hj,by omega,h2⟩)
             clear hAny x0
             go_wp2_with fail
             go_roundw
             case rel=>exact ⟨k+1,true,by omega,by go_num,rfl,hA2,hX⟩
             case measure=>simp [intOf];omega
            | false =>
             obtain ⟨d,hd⟩:∃ d:Bool,d=true↔Whole w0∧Above L[k] w0:=by
              by_cases h:Whole w0∧Above L[k] w0
              · exact ⟨true,by simp only [true_iff];exact h⟩
              · exact ⟨false,by simp only [Bool.false_eq_true,false_iff];exact h⟩
             have WI:=hidd fun w=>r_wordin w0 L[k] U0.out (hUL.out _ (List.getElem_mem hkL)) d hd w
             have hA2:Hid (d=true↔∃ (j:Nat) (hj:j < L.length),j < k+1∧Whole w0∧Above L[j] w0):=hidd (by
              rw [hd]
              constructor
              · intro h;exact ⟨k,hkL,by omega,h⟩
              · rintro ⟨j,hj,h1,h2⟩
                rcases Nat.lt_or_ge j k with q | q
                · have:=hAny.out.2 ⟨j,hj,q,h2⟩
                  cases this
                · obtain rfl:j=k:=by omega
                  exact h2)
             clear hAny hd
             generalize L[k]'_=y at *
             go_wp2_with fail
             refine (WI.out _).mono ?_
             rintro e w13 ⟨rfl,b13⟩
             have X13:=hidd (belowT hX.out b13)
             go_wp2_with fail
             go_roundw
             case rel=>exact ⟨k+1,d,by omega,by go_num,rfl,hA2,X13⟩
             case measure=>simp [intOf];omega
          · obtain rfl:k=c:=by omega
            have hkc':decide ((k:Int) < (k:Int))=false:=by simp
            have hbb:(b != b)=false:=by simp
            have L13:=hidd (L12.out.keep hX.out)
            have B13:=hidd (belowT B12.out hX.out)
            have CV:=hidd (p_covers _ L w0 U0.out (by have:=EC.out;omega) b (by
             rw [hAny.out]
             constructor
             · rintro ⟨j,hj,_,h2,h3⟩;exact ⟨h2,L[j],List.getElem_mem hj,h3⟩
             · rintro ⟨h2,p,hp,h3⟩
               obtain ⟨j,hj,rfl⟩:=List.mem_iff_getElem.1 hp
               exact ⟨j,hj,by have:=EC.out;omega,h2,h3⟩) wr L13.out)
            clear hAny hX L12 B12 HC hkc
            go_wp2_with fail
            refine CV.out.mono ?_
            rintro e w14 ⟨rfl,b14⟩
            have B14:=hidd (belowT B13.out b14)
            have R14:=hidd (HR.out.keep B14.out)
            clear b14 CV B13 L13
            go_wp2_with fail
            go_roundw
            case rel=>exact ⟨i+1,R,by omega,by go_num,NR,UR,R14,B14⟩
            case measure=>simp [intOf];omega
    · obtain rfl:i=2:=by omega
      have hlt':decide (((2:Nat):Int) < 2)=false:=by decide
      have A9:=hidd (AW.out wr (HT.out.below hB.out))
      clear hlt hLL
      go_wp2_with fail
      refine A9.out.mono ?_
      rintro e w2 ⟨rfl,b2⟩
      go_wp2_with fail
      go_ret
      exact ⟨rfl,belowT hB.out b2⟩
end Go.Proofs.YtlfjfendlohekaaGreatDoor
