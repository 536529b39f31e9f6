/-
  The words of one size that the laws of package pack make of numbers: what Words tells of any list of numbers and any size; in whatever memory.
-/
import Derived.Test.YtlfjfendlohekaaGreatDoorJn14
import Derived.Test.YtlfjfendlohekaaGreatDoorRSpr8
import Derived.Test.YtlfjfendlohekaaGreatDoorJn37
namespace Go.Proofs.YtlfjfendlohekaaGreatDoor
open Go.RowKit
theorem rs_one {v:Int} {n m:Nat} (h:Whole v) (hn:wR v=(n:Int)) (h1:n≤m) (hm:m≤12) (hc:(7:Int)^(m - n)≤20000) {e:Ending} {w':World} {C:Nat} (hs:TellsRS C [v] (m:Int) e w') :
 ∃ (sl:Value) (K:List Int),e=.returned (.tuple #[sl,.int .i64 0])∧Rising K∧(∀ x,x∈K↔Whole x∧wR x=(m:Int)∧Above v x)∧(K.length:Int)=7^(m - n)∧w'.ownsRow C 30 1 sl K.length (vals K):=by
 have hW:=within_one (m:=m) h (by omega)
 obtain ⟨z,t,hz,h⟩:=hs
 have hc':cntR m [v]≤20000:=by rw [cnt_one m hn];exact hc
 obtain ⟨rfl,rfl⟩:=size_yes hm hW (by omega) hz
 rcases h with ⟨h,_⟩ | ⟨_,h,_⟩ | ⟨_,_,m',e,sl,K,h1,h2,h3,h4,h5⟩
 · exact absurd rfl h
 · omega
 · obtain rfl:m=m':=by omega
   have hK:∀ x,x∈K↔Whole x∧wR x=(m:Int)∧Cov [v] x:=fun x=>by rw [h3 x,mem_kinR hm hW]
   refine ⟨sl,K,h1,h2,fun x=>by rw [hK x,cov_one],?_,h5⟩
   rw [spr_len hm hW (anti_one v) (by simp) h2 hK,cnt_one m hn]
theorem mask_one (z:Int):∃ U:Nat,U≤1∧bits .and .i64 z 1=(U:Int):=by
 have h:=i64_mask z 1 (by omega)
 refine ⟨(z%2).toNat,by omega,?_⟩
 rw [show (((2^1 - 1:Nat)):Int)=1 by decide,show (((2^1:Nat)):Int)=2 by decide] at h
 rw [h];omega
theorem seven_two {k:Nat} (h:k≤2):(7:Int)^k≤49:=by
 rcases (show k=0∨k=1∨k=2 by omega) with rfl | rfl | rfl <;>decide
theorem apart_grown {w:World} {base n:Nat} {xs:List Value} {a a' b:Value} (hab:Apart a b) (hb:w.ownsRow base 30 1 b n xs) (e:a'.ownBlock=a.ownBlock∨a'.ownBlock=some w.heap.size):Apart a' b:=by
 rcases e with e | e
 · unfold Apart at hab ⊢
   rw [e]
   exact hab
 · by_cases hn:b.ownBlock=none
   · exact .inr (.inl hn)
   · refine .inr (.inr fun e2=>?_)
     rw [e] at e2
     have:=(own_lt hb _ e2.symm).2
     omega
theorem apart_new {w w':World} {base n m:Nat} {xs ys:List Value} {a b:Value} (ha:w.ownsRow base 30 1 a n xs) (hb:w'.ownsRow w.heap.size 30 1 b m ys):Apart a b:=by
 rcases ha.2 with ⟨rfl,_⟩ | ⟨g,c,cur,rfl,_,hg,_⟩
 · exact .inl rfl
 · rcases hb.2 with ⟨rfl,_⟩ | ⟨g',c',cur',rfl,hb',_⟩
   · exact .inr (.inl rfl)
   · refine .inr (.inr fun e=>?_)
     have e':g=g':=by simpa [Value.ownBlock] using e
     have:=(Array.getElem?_eq_some_iff.1 hg).1
     omega
def TellsWs (C:Nat) (n:Nat) (e:Ending) (w':World):Prop :=
 ∃ (sl:Value) (L:List Int),e=.returned sl∧L.length≤300∧(∀ x∈L,Whole x∧wR x=(n:Int))∧w'.ownsRow C 30 1 sl L.length (vals L)
theorem aword_of (n:Nat) (hn:n≤12) (x y:Int) (w:World):Calls Tryz.prog 13 #[.int .i64 x,.int .i64 y,.int .i64 (n:Int)] w fun e w'=>(∃ v,e=.returned (.int .u64 v)∧Whole v∧wR v=(n:Int))∧Below w.heap.size w w':=by
 obtain ⟨s,hs,_,h⟩:=aword_sz x y (n:Int)
 rw [szOf_box (by omega) (by omega)] at hs
 obtain rfl:n=s:=by omega
 refine (h w).mono ?_
 rintro e w' ⟨⟨v,h1,h2,h3,_⟩,hb⟩
 exact ⟨⟨v,h1,h2,h3⟩,hb⟩
theorem sz_walk (r:Int):∃ (t:Int) (n:Nat),r.tmod 13=t∧(t+13).tmod 13=(n:Int)∧-13 < t∧t < 13∧n≤12∧szOf r=(n:Int):=by
 obtain ⟨t,s,K,h1,h2,h3,h4,h5,h6⟩:=size13 r
 have:0≤s:=by rw [← h2,Int.tmod_eq_emod_of_nonneg (by omega)];omega
 obtain ⟨n,rfl⟩:=Int.eq_ofNat_of_zero_le this
 exact ⟨t,n,h1,h2,h3,h4,by omega,by unfold szOf;rw [h1,h2]⟩
set_option maxHeartbeats 32000000 in
set_option maxRecDepth 20000 in
theorem words_core (sX:Value) (X:List Int) (r t:Int) (n:Nat) (ht:r.tmod 13=t) (hn:(t+13).tmod 13=(n:Int)) (t1: -13 < t) (t2:t < 13) (n12:n≤12) (w:World) (hX:LstK .i64 w sX X) :
 Calls Tryz.prog 10 #[sX,.int .i64 r] w fun e w'=>TellsWs w.heap.size n e w'∧Below w.heap.size w w':=by
 have WD:=hidd fun x y w=>aword_of n n12 x y w
 obtain ⟨pX,cX,rfl,-,cX0⟩:=hX
 have HX:=hidd cX0
 obtain ⟨i0,hi,hz0,hz1,hz2⟩:=info_parts infoU64
 clear cX0
 go_enter Tryz.func10,Tryz.ntmps10
 go_wp2_with fail
 go_loopw [5,6] (fun v5 v6 wr=>∃ (i m:Nat) (L:List Int),Hid (i%2=0)∧i≤12∧m≤25*i∧v6=.int .i64 (i:Int)∧Hid (∀ x∈L,Whole x∧wR x=(n:Int))∧Hid (wr.ownsRow w.heap.size 30 1 v5 m (vals L))∧Below w.heap.size w wr) (fun _ v6 _=>12 - (intOf v6).toNat)
 case atStart=>exact ⟨0,0,[],hidd rfl,by omega,by omega,rfl,hidd (fun x hx=>by simp at hx),World.ownsRow_nil _ _ _ _,Below.refl _ _⟩
 case round =>
  obtain ⟨i,m,L,hE,hi12,hm,rfl,hW,hO,hB⟩:=hrel
  by_cases hlt:i+1 < X.length∧i < 12
  · obtain ⟨b1,b2⟩:=hlt
    have b3:(i:Int)+1 < (X.length:Int):=by omega
    have b4:(i:Int) < 12:=by omega
    have ew:IntKind.i64.wrap ((i:Int)+1)=(i:Int)+1:=by rw [IntKind.wrap_i64];omega
    have en1:((i:Int)+1).toNat=i+1:=by omega
    have i10:i≤10:=by have:=hE.out;omega
    obtain ⟨g0,o0,rfl,x0⟩:=HX.out i (by omega)
    obtain ⟨g1,o1,e1,x1⟩:=HX.out (i+1) (by omega)
    simp only [Option.some.injEq,Addr.mk.injEq,and_true] at e1
    obtain ⟨rfl,rfl⟩:=e1
    have q0:=hidd x0
    have q1:=hidd x1
    replace x0:=keepCell hB x0
    replace x1:=keepCell hB x1
    generalize X[i]'_=z0 at *
    generalize X[i+1]'_=z1 at *
    have W1:=hidd fun w=>WD.out z0 z1 w
    go_wp2_with fail
    go_cut [7] from 20 to 111 (fun v7 wx=>∃ v,v7=.int .u64 v∧Hid (Whole v∧wR v=(n:Int))∧Below wr.heap.size wr wx)
    case first =>
     go_region_with (go_at_call 13;refine (W1.out _).mono ?_;rintro e w1 ⟨⟨v,rfl,h1,h2⟩,d1⟩;have hv:Hid (Whole v∧wR v=(n:Int)):=hidd ⟨h1,h2⟩;clear h1 h2)
     all_goals
      go_wp2_with fail
      go_meet
      exact ⟨v,rfl,hv,by first | exact d1 | exact belowT (drewB _) d1⟩
    case rest =>
     obtain ⟨v,rfl,hv,d1⟩:=hcut
     have B1:=belowT hB d1
     have O1:=hidd (own_keep d1 hO.out)
     have y0:=keepCell d1 x0
     have y1:=keepCell d1 x1
     clear x0 x1 d1 hB hO W1
     obtain ⟨U,hU,eU⟩:=mask_one (z0 / 1048576)
     obtain ⟨A,eA⟩:∃ A,bits .and .i64 (z1 / 1073741824) 3=A:=⟨_,rfl⟩
     obtain ⟨D,eD⟩:∃ D,bits .and .i64 (z0 / 4194304) 63=D:=⟨_,rfl⟩
     obtain ⟨E,eE⟩:∃ E,bits .and .i64 (z0 / 2097152) 1=E:=⟨_,rfl⟩
     have eU2:((U+1:Nat):Int)=(U:Int)+1:=by omega
     go_wp2_with fail
     obtain ⟨wu,rfl⟩:∃ z,z=wc:=⟨_,rfl⟩
     go_loopw [9,10] (fun v9 v10 wr=>∃ (k:Nat) (t:Int),k≤U+1∧v10=.int .i64 (k:Int)∧v9=.int .u64 t∧Hid (Whole t∧wR t≤(n:Int)∧(n:Int)≤wR t+(k:Int))∧Below wu.heap.size wu wr) (fun _ v10 _=>2 - (intOf v10).toNat)
     case atStart=>exact ⟨0,v,by omega,rfl,rfl,hidd ⟨hv.out.1,by rw [hv.out.2];omega,by rw [hv.out.2];omega⟩,Below.refl _ _⟩
     case round =>
      obtain ⟨k,t,hk,rfl,rfl,hH,hX⟩:=hrel
      have y0:=keepCell hX y0
      have y1:=keepCell hX y1
      by_cases hkU:k < U+1
      · have hk1:(k:Int) < (U:Int)+1:=by omega
        by_cases hr:0 < wR t
        · have UP:=hidd fun w=>rup_yes2 t hH.out.1 hr w
          have hu:=up_whole hH.out.1 hr
          have HN:Hid (Whole (upW t)∧wR (upW t)≤(n:Int)∧(n:Int)≤wR (upW t)+((k+1:Nat):Int)):=hidd ⟨hu.1,by rw [hu.2];have:=hH.out.2.1;omega,by rw [hu.2];have:=hH.out.2.2;omega⟩
          clear hu
          generalize upW t=p at *
          clear hH hr
          go_wp2_with fail
          refine (UP.out _).mono ?_
          rintro e w2 ⟨rfl,d2⟩
          have hX2:=belowT hX d2
          go_wp2_with fail
          go_roundw
          case rel=>exact ⟨k+1,p,by omega,by go_num,rfl,HN,hX2⟩
          case measure=>simp [intOf];omega
        · have hr0:wR t=0:=by have:=wR_box t;omega
          have UP:=hidd fun w=>rup_top t hH.out.1 hr0 w
          have HN:Hid (Whole t∧wR t≤(n:Int)∧(n:Int)≤wR t+((k+1:Nat):Int)):=hidd ⟨hH.out.1,hH.out.2.1,by have:=hH.out.2.2;omega⟩
          clear hH hr hr0
          go_wp2_with fail
          refine (UP.out _).mono ?_
          rintro e w2 ⟨rfl,d2⟩
          have hX2:=belowT hX d2
          go_wp2_with fail
          go_roundw
          case rel=>exact ⟨k+1,t,by omega,by go_num,rfl,HN,hX2⟩
          case measure=>simp [intOf];omega
      · obtain rfl:k=U+1:=by omega
        have hk1:decide ((((U+1:Nat):Int)) < (U:Int)+1)=false:=df (by omega)
        obtain ⟨q,hq⟩:∃ q:Nat,wR t=(q:Int):=⟨(wR t).toNat,by have:=wR_box t;omega⟩
        have hqn:q≤n∧n - q≤2:=by have:=hH.out.2;omega
        have h7:=seven_two hqn.2
        have ut:=whole_box hH.out.1
        have hTQ:=hidd (And.intro hH.out.1 (And.intro hq (And.intro hqn.1 h7)))
        have RS:=hidd (r_spread _ [t] (n:Int) (by omega) (by simp) (fun x hx=>by rw [List.mem_singleton] at hx;subst hx;exact ⟨by omega,by omega⟩) _ (lit1 wr t 30))
        have B2:=hidd (belowT B1 hX)
        have O2:=hidd (own_keep hX O1.out)
        have hsB:=hidd B1.size
        clear hH hq hqn h7 ut O1 B1 hX
        go_wp2_with fail
        refine RS.out.mono ?_
        rintro e w3 ⟨hs,d3⟩
        have hAl:=allocB wr (.cells #[.int .u64 t] 30)
        obtain ⟨sl,K,rfl,-,hK,hlen,hl3⟩:=rs_one hTQ.out.1 hTQ.out.2.1 hTQ.out.2.2.1 n12 (by have:=hTQ.out.2.2.2;omega) hs
        have hlen':K.length≤49:=by have:=hTQ.out.2.2.2;omega
        have hWK:Hid (∀ x∈K,Whole x∧wR x=(n:Int)):=hidd fun x hx=>⟨((hK x).1 hx).1,((hK x).1 hx).2.1⟩
        have hAp:=hidd (apart_new (own_keep hAl O2.out) hl3)
        have hszW:w.heap.size≤(wr.alloc (.cells #[.int .u64 t] 30)).heap.size:=by have:=B2.out.size;have:=hAl.size;omega
        have O4:=hidd (own_mono hl3 hszW)
        have B3:=hidd (belowT B2.out (belowT hAl d3))
        have O3:=hidd (own_keep d3 (own_keep hAl O2.out))
        clear hs hlen hK hl3 B2 O2 d3 hAl RS hTQ y0 y1 hszW
        obtain ⟨kl,ekl⟩:∃ kl,K.length=kl:=⟨_,rfl⟩
        have EK:=hidd ekl
        rw [ekl] at hlen' O4
        obtain ⟨pK,cK,rfl,hpK⟩:=own_slice O4.out
        clear ekl
        go_wp2_with fail
        go_loopw [5,15] (fun v5 v15 wr=>∃ (k c:Nat) (M:List Int),k≤kl∧c≤m+k∧v15=.int .i64 (k:Int)∧Hid (∀ x∈M,Whole x∧wR x=(n:Int))∧Hid (wr.ownsRow w.heap.size 30 1 v5 c (vals M))∧Hid (wr.ownsRow w.heap.size 30 1 (.slice pK kl cK) kl (vals K))∧Hid (Apart v5 (.slice pK kl cK))∧Hid (Below w.heap.size w wr)) (fun _ v15 _=>kl - (intOf v15).toNat)
        case atStart=>exact ⟨0,m,L,by omega,by omega,rfl,hW,O3,O4,hAp,B3⟩
        case round =>
         clear hW O3 O4 hAp B3
         obtain ⟨k,c,M,hk,hc,rfl,hM,O3,O4,hAp,hB⟩:=hrel
         have y0:=keepCell hB.out q0.out
         have y1:=keepCell hB.out q1.out
         have hsB2:=hB.out.size
         by_cases hlt:k < kl
         · have hkK:k < K.length:=by rw [EK.out];exact hlt
           have hKk:=hidd (hWK.out _ (List.getElem_mem hkK))
           obtain ⟨gK,rfl⟩:=own_some hpK (by omega)
           have cK0:=(own_cells O4.out).2.1 k hkK
           generalize K[k]'_=x at *
           obtain ⟨p5,c5,rfl,-⟩:=own_slice O3.out
           cases hA0:(A != 0) with
           | true =>
            go_wp2_with (at_builtin;refine wpList_append_apart rfl (.tmp 94) (.tmp 99) 24 rfl w.heap.size 30 i0 (.int .u64 0) 1 8 Tryz.underlying24 hi hz0 hz1 hz2 rfl (by decide) _ _ _ rfl (own_keep (allocB _ _) O3.out) ⟨wr.heap.size,0,none⟩ 1 1 (by decide) [.int .u64 x] rfl rfl (one_lies _ _ rfl _ _) (one_int _ _) (by unfold maxLen;omega) (by omega) (by simp;omega) ?_)
            intro v' w5 hown hgrow hblk
            have B5:=hidd ((hB.out.alloc hsB2 (.cells #[.int .u64 x] 30)).grown hgrow (by simp;omega) (own_block O3.out))
            have O3b:Hid (w5.ownsRow w.heap.size 30 1 v' (c+1) (vals (M++[x]))):=hidd (by rw [show vals (M++[x])=vals M++[.int .u64 x] by simp [vals]];exact hown)
            have O4b:=hidd ((own_keep (allocB wr (.cells #[.int .u64 x] 30)) O4.out).kept hgrow hAp.out.symm.kept)
            have A5:=hidd (apart_grown hAp.out (own_keep (allocB wr (.cells #[.int .u64 x] 30)) O4.out) (hblk.imp_right fun h=>h.trans (by simp)))
            have M5:Hid (∀ y∈M++[x],Whole y∧wR y=(n:Int)):=hidd fun y hy=>(List.mem_append.1 hy).elim (hM.out y) (fun h=>by rw [List.mem_singleton.1 h];exact hKk.out)
            clear hown hgrow hblk O3 O4 hAp hM hB
            go_wp2_with fail
            go_roundw
            case rel=>exact ⟨k+1,c+1,M++[x],by omega,by omega,by go_num,M5,O3b,O4b,A5,B5⟩
            case measure=>simp [intOf];omega
           | false =>
            cases hk0:((k:Int) != D) with
            | true =>
             go_wp2_with (at_builtin;refine wpList_append_apart rfl (.tmp 94) (.tmp 99) 24 rfl w.heap.size 30 i0 (.int .u64 0) 1 8 Tryz.underlying24 hi hz0 hz1 hz2 rfl (by decide) _ _ _ rfl (own_keep (allocB _ _) O3.out) ⟨wr.heap.size,0,none⟩ 1 1 (by decide) [.int .u64 x] rfl rfl (one_lies _ _ rfl _ _) (one_int _ _) (by unfold maxLen;omega) (by omega) (by simp;omega) ?_)
             intro v' w5 hown hgrow hblk
             have B5:=hidd ((hB.out.alloc hsB2 (.cells #[.int .u64 x] 30)).grown hgrow (by simp;omega) (own_block O3.out))
             have O3b:Hid (w5.ownsRow w.heap.size 30 1 v' (c+1) (vals (M++[x]))):=hidd (by rw [show vals (M++[x])=vals M++[.int .u64 x] by simp [vals]];exact hown)
             have O4b:=hidd ((own_keep (allocB wr (.cells #[.int .u64 x] 30)) O4.out).kept hgrow hAp.out.symm.kept)
             have A5:=hidd (apart_grown hAp.out (own_keep (allocB wr (.cells #[.int .u64 x] 30)) O4.out) (hblk.imp_right fun h=>h.trans (by simp)))
             have M5:Hid (∀ y∈M++[x],Whole y∧wR y=(n:Int)):=hidd fun y hy=>(List.mem_append.1 hy).elim (hM.out y) (fun h=>by rw [List.mem_singleton.1 h];exact hKk.out)
             clear hown hgrow hblk O3 O4 hAp hM hB
             go_wp2_with fail
             go_roundw
             case rel=>exact ⟨k+1,c+1,M++[x],by omega,by omega,by go_num,M5,O3b,O4b,A5,B5⟩
             case measure=>simp [intOf];omega
            | false =>
             go_wp2_with fail
             go_roundw
             case rel=>exact ⟨k+1,c,M,by omega,by omega,by go_num,hM,O3,O4,hAp,hB⟩
             case measure=>simp [intOf];omega
         · obtain rfl:k=kl:=by omega
           obtain ⟨p5,c5,rfl,-⟩:=own_slice O3.out
           cases hE1:(E == 1) with
           | true =>
            go_wp2_with (at_builtin;refine wpList_append_own _ rfl (.tmp 108) (.tmp 110) 24 rfl w.heap.size 30 i0 (.int .u64 0) 1 8 Tryz.underlying24 hi hz0 hz1 hz2 rfl (by decide) _ _ _ rfl (own_keep (allocB _ _) O3.out) ⟨wr.heap.size,0,none⟩ 1 1 [.int .u64 v] rfl rfl (one_lies _ _ rfl _ _) (one_int _ _) (by unfold maxLen;omega) (by omega) (by simp;omega) ?_)
            intro v' w5 hown hgrow _
            have B5:=(hB.out.alloc hsB2 (.cells #[.int .u64 v] 30)).grown hgrow (by simp;omega) (own_block O3.out)
            have O3b:Hid (w5.ownsRow w.heap.size 30 1 v' (c+1) (vals (M++[v]))):=hidd (by rw [show vals (M++[v])=vals M++[.int .u64 v] by simp [vals]];exact hown)
            have M5:Hid (∀ y∈M++[v],Whole y∧wR y=(n:Int)):=hidd fun y hy=>(List.mem_append.1 hy).elim (hM.out y) (fun h=>by rw [List.mem_singleton.1 h];exact hv.out)
            clear hown hgrow O3 O4 hAp hM hB
            go_wp2_with fail
            go_roundw
            case rel=>exact ⟨i+2,c+1,M++[v],hidd (by have:=hE.out;omega),by omega,by omega,by go_num,M5,O3b,B5⟩
            case measure=>simp [intOf];omega
           | false =>
            have BB:=hB.out
            clear hB
            go_wp2_with fail
            go_roundw
            case rel=>exact ⟨i+2,c,M,hidd (by have:=hE.out;omega),by omega,by omega,by go_num,hM,O3,BB⟩
            case measure=>simp [intOf];omega
  · have hml:L.length=m:=by have:=hO.out.1;rw [vals_len] at this;omega
    have FN:=hidd (And.intro hW.out (And.intro hml hO.out))
    obtain ⟨p5,c5,rfl,-⟩:=own_slice hO.out
    have hc:¬ (i+1 < X.length)∨¬ (i < 12):=by omega
    clear hW hO hml
    rcases hc with hc | hc
    · have b3:decide ((i:Int)+1 < (X.length:Int))=false:=df (by omega)
      go_wp2_with fail
      go_ret
      exact ⟨⟨_,L,rfl,by have:=FN.out.2.1;omega,FN.out.1,by rw [FN.out.2.1];exact FN.out.2.2⟩,hB⟩
    · have b4:decide ((i:Int) < 12)=false:=df (by omega)
      cases b3:decide ((i:Int)+1 < (X.length:Int))
      all_goals
       go_wp2_with fail
       go_ret
       exact ⟨⟨_,L,rfl,by have:=FN.out.2.1;omega,FN.out.1,by rw [FN.out.2.1];exact FN.out.2.2⟩,hB⟩
theorem words (sX:Value) (X:List Int) (r:Int) (n:Nat) (hn:szOf r=(n:Int)) (w:World) (hX:LstK .i64 w sX X) :
 n≤12∧Calls Tryz.prog 10 #[sX,.int .i64 r] w fun e w'=>TellsWs w.heap.size n e w'∧Below w.heap.size w w':=by
 obtain ⟨t,n',h1,h2,h3,h4,h5,h6⟩:=sz_walk r
 obtain rfl:n=n':=by omega
 exact ⟨h5,words_core sX X r t n h1 h2 h3 h4 h5 w hX⟩
end Go.Proofs.YtlfjfendlohekaaGreatDoor
