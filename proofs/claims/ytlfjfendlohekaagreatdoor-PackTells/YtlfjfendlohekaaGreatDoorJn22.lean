/-
  Plain facts on how many cells some words are: what Size tells, of any list and any size.
-/
import Derived.Test.YtlfjfendlohekaaGreatDoorM2C
import Derived.Test.YtlfjfendlohekaaGreatDoorJn01
import Derived.Test.YtlfjfendlohekaaGreatDoorI2C
namespace Go.Proofs.YtlfjfendlohekaaGreatDoor
open Go.RowKit
theorem cntR_snoc (r:Nat) (w:Int):∀ L:List Int,cntR r (L++[w])=cntR r L+7^(r - (wR w).toNat)
 | []=>by show 7^_+0=0+7^_;omega
 | x :: L=>by show 7^_+cntR r (L++[w])=7^_+cntR r L+7^_;rw [cntR_snoc r w L];omega
theorem seven_pos (k:Nat):(1:Int)≤7^k:=by have:(0:Int) < 7^k:=Int.pow_pos (by omega);omega
theorem cntR_append (r:Nat):∀ L M:List Int,cntR r (L++M)=cntR r L+cntR r M
 | [],M=>by show _=0+_;simp
 | x :: L,M=>by show 7^_+cntR r (L++M)=7^_+cntR r L+cntR r M;rw [cntR_append r L M];omega
theorem cntR_pos (r:Nat):∀ L:List Int,(L.length:Int)≤cntR r L
 | []=>by simp [cntR]
 | x :: L=>by have:=cntR_pos r L;have:=seven_pos (r - (wR x).toNat);show _≤7^_+cntR r L;simp;omega
theorem cntR_take (r:Nat) (L:List Int) (i:Nat):cntR r (L.take i)≤cntR r L:=by
 have h:=cntR_append r (L.take i) (L.drop i)
 rw [List.take_append_drop] at h
 have:=cntR_pos r (L.drop i)
 omega
theorem cntR_next (r:Nat) {L:List Int} {i:Nat} (h:i < L.length):cntR r (L.take (i+1))=cntR r (L.take i)+7^(r - (wR L[i]).toNat):=by
 rw [List.take_succ_eq_append_getElem h,cntR_snoc]
def SizeT (L:List Int) (r z t:Int):Prop :=
 ((¬ ∀ x∈L,Whole x)∧z=0∧t=5) ∨
 ((∀ x∈L,Whole x)∧(∃ x∈L,r < wR x)∧z=0∧t=8) ∨
 ((∀ x∈L,Whole x)∧(∀ x∈L,wR x≤r)∧¬ (0≤r∧r≤12)∧z=0∧t=1) ∨
 ∃ n:Nat,r=(n:Int)∧n≤12∧WithinR n L∧((1099511627776 < cntR n L∧z=0∧t=7)∨(cntR n L≤1099511627776∧z=cntR n L∧t=0))
theorem SizeT.one {L:List Int} {r z t z' t':Int} (h:SizeT L r z t) (h':SizeT L r z' t'):z=z'∧t=t':=by
 have no:∀ {n:Nat},WithinR n L→∀ x∈L,Whole x:=fun h x hx=>(h x hx).1
 rcases h with ⟨a,rfl,rfl⟩ | ⟨a,⟨x,hx,b⟩,rfl,rfl⟩ | ⟨a,b,c,rfl,rfl⟩ | ⟨n,rfl,a,b,c⟩
 · rcases h' with ⟨_,rfl,rfl⟩ | ⟨a',_⟩ | ⟨a',_⟩ | ⟨n,_,_,b',_⟩
   · exact ⟨rfl,rfl⟩
   · exact absurd a' a
   · exact absurd a' a
   · exact absurd (no b') a
 · rcases h' with ⟨a',_⟩ | ⟨_,_,rfl,rfl⟩ | ⟨_,b',_⟩ | ⟨n,e,_,b',_⟩
   · exact absurd a a'
   · exact ⟨rfl,rfl⟩
   · have:=b' x hx;omega
   · have:=(b' x hx).2;omega
 · rcases h' with ⟨a',_⟩ | ⟨_,⟨x,hx,b'⟩,_⟩ | ⟨_,_,_,rfl,rfl⟩ | ⟨n,e,e2,_⟩
   · exact absurd a a'
   · have:=b x hx;omega
   · exact ⟨rfl,rfl⟩
   · exact absurd ⟨by omega,by omega⟩ c
 · rcases h' with ⟨a',_⟩ | ⟨_,⟨x,hx,b'⟩,_⟩ | ⟨_,_,c',_⟩ | ⟨n',e,_,_,c'⟩
   · exact absurd (no b) a'
   · have:=(b x hx).2;omega
   · exact absurd ⟨by omega,by omega⟩ c'
   · obtain rfl:n=n':=by omega
     rcases c with ⟨c1,rfl,rfl⟩ | ⟨c1,rfl,rfl⟩ <;>rcases c' with ⟨c2,rfl,rfl⟩ | ⟨c2,rfl,rfl⟩
     · exact ⟨rfl,rfl⟩
     · omega
     · omega
     · exact ⟨rfl,rfl⟩
theorem seven_box {k:Nat} (h:k≤12):(1:Int)≤7^k∧(7:Int)^k≤13841287201:=by
 have:=seven_pos k
 have h2:(7:Nat)^k≤7^12:=Nat.pow_le_pow_right (by omega) h
 have e:((7^k:Nat):Int)=(7:Int)^k:=by push_cast;rfl
 have:(7:Nat)^12=13841287201:=by decide
 omega
theorem r_seven (K:Nat) (hK:K≤12) (w:World):Calls Tryz.prog 43 #[.int .i64 (K:Int)] w fun e w'=>e=.returned (.int .i64 (7^K))∧Below w.heap.size w w':=by
 have h:=rseven_any K hK w
 rwa [sev_pow hK] at h
theorem size_mask {x:Int} (h:Whole x):bits .and .u64 (x / 72057594037927936) 15=wR x:=by
 have hb:=whole_box h
 rw [umask4 _ ⟨by omega,by omega⟩]
 rfl
set_option maxHeartbeats 8000000 in
set_option maxRecDepth 20000 in
theorem r_size (s:Value) (L:List Int) (r:Int) (hr: -9223372036854775808≤r∧r≤9223372036854775807) (hn:L.length≤50000) (uL:∀ x∈L,U64 x) (w:World) (hl:Lst w s L) :
 Calls Tryz.prog 22 #[s,.int .i64 r] w fun e w'=>(∃ z t,e=.returned (.tuple #[.int .i64 z,.int .i64 t])∧SizeT L r z t)∧Below w.heap.size w w':=by
 obtain ⟨p,cap,hs,-,hc⟩:=hl
 obtain ⟨n,en⟩:∃ n,L.length=n:=⟨_,rfl⟩
 have EN:=hidd en
 rw [en] at hs hn
 subst hs
 have UL:=hidd uL
 have HC:=hidd hc
 clear uL en hc
 go_enter Tryz.func22,Tryz.ntmps22
 go_wp2_with fail
 go_loopw [6] (fun v6 wr=>∃ i:Nat,i≤n∧v6=.int .i64 (i:Int)∧Hid (∀ (j:Nat) (hj:j < L.length),j < i→Whole L[j])∧Below w.heap.size w wr) (fun v6 _=>n - (intOf v6).toNat)
 case atStart=>exact ⟨0,by omega,rfl,hidd fun j _ h=>absurd h (Nat.not_lt_zero _),Below.refl _ _⟩
 case round =>
  obtain ⟨i,hi,rfl,hI,hB⟩:=hrel
  by_cases hlt:i < n
  · have hiL:i < L.length:=by rw [EN.out];exact hlt
    obtain ⟨g,o,rfl,x1⟩:=HC.out i hiL
    replace x1:=keepCell hB x1
    have hu:=UL.out _ (List.getElem_mem hiL)
    have hm:=hidd (List.getElem_mem hiL)
    by_cases hW:Whole L[i]
    · have IK:=hidd fun w=>risword_yes L[i] hW w
      have hI2:Hid (∀ (j:Nat) (hj:j < L.length),j < i+1→Whole L[j]):=hidd fun j hj h=>by
       rcases Nat.lt_or_ge j i with k | k
       · exact hI.out j hj k
       · obtain rfl:j=i:=by omega
         exact hW
      clear hW hI hm
      generalize L[i]'_=x at *
      go_wp2_with fail
      refine (IK.out _).mono ?_
      rintro e w1 ⟨rfl,b1⟩
      have B1:=belowT hB b1
      go_wp2_with fail
      go_roundw
      case rel=>exact ⟨i+1,by omega,by go_num,hI2,B1⟩
      case measure=>simp [intOf];omega
    · have IK:=hidd fun w=>risword_no L[i] hu hW w
      have hT:Hid (SizeT L r 0 5):=hidd (.inl ⟨fun h=>hW (h _ hm.out),rfl,rfl⟩)
      clear hW hI hm
      generalize L[i]'_=x at *
      go_wp2_with fail
      refine (IK.out _).mono ?_
      rintro e w1 ⟨rfl,b1⟩
      have B1:=belowT hB b1
      go_wp2_with fail
      go_ret2
      exact ⟨⟨0,5,rfl,hT.out⟩,B1⟩
  · obtain rfl:i=n:=by omega
    have HW:Hid (∀ x∈L,Whole x):=hidd fun x hx=>by
     obtain ⟨j,hj,rfl⟩:=List.mem_iff_getElem.1 hx
     exact hI.out j hj (by rw [← EN.out];exact hj)
    have hlt':decide (i < i)=false:=by simp
    clear hI hlt
    go_wp2_with fail
    go_loopw [7] (fun v7 w2=>∃ k:Nat,k≤i∧v7=.int .i64 (k:Int)∧Hid (∀ (j:Nat) (hj:j < L.length),j < k→wR L[j]≤r)∧Below w.heap.size w w2) (fun v7 _=>i - (intOf v7).toNat)
    case atStart=>exact ⟨0,by omega,rfl,hidd fun j _ h=>absurd h (Nat.not_lt_zero _),hB⟩
    case round =>
     clear hB
     obtain ⟨k,hk,rfl,hI,hB⟩:=hrel
     by_cases hlt:k < i
     · have hkL:k < L.length:=by rw [EN.out];exact hlt
       obtain ⟨g,o,rfl,x1⟩:=HC.out k hkL
       replace x1:=keepCell hB x1
       have hu:=UL.out _ (List.getElem_mem hkL)
       have hm:=hidd (List.getElem_mem hkL)
       have hwk:=HW.out _ hm.out
       have X1:=size_mask hwk
       have hbx:=wR_box L[k]
       by_cases hrk:r < wR L[k]
       · have hT:Hid (SizeT L r 0 8):=hidd (.inr (.inl ⟨HW.out,⟨_,hm.out,hrk⟩,rfl,rfl⟩))
         clear hI hm hwk
         generalize wR L[k]=R at *
         generalize L[k]'_=x at *
         obtain ⟨X,eX⟩:∃ X,x / 72057594037927936=X:=⟨_,rfl⟩
         rw [eX] at X1
         go_wp2_with fail
         go_ret2
         exact ⟨⟨0,8,rfl,hT.out⟩,hB⟩
       · have hI2:Hid (∀ (j:Nat) (hj:j < L.length),j < k+1→wR L[j]≤r):=hidd fun j hj h=>by
          rcases Nat.lt_or_ge j k with q | q
          · exact hI.out j hj q
          · obtain rfl:j=k:=by omega
            omega
         have hrk':decide (r < wR L[k])=false:=df hrk
         clear hI hm hwk hrk
         generalize wR L[k]=R at *
         generalize L[k]'_=x at *
         obtain ⟨X,eX⟩:∃ X,x / 72057594037927936=X:=⟨_,rfl⟩
         rw [eX] at X1
         go_wp2_with fail
         go_roundw
         case rel=>exact ⟨k+1,by omega,by go_num,hI2,hB⟩
         case measure=>simp [intOf];omega
     · obtain rfl:k=i:=by omega
       have HF:Hid (∀ x∈L,wR x≤r):=hidd fun x hx=>by
        obtain ⟨j,hj,rfl⟩:=List.mem_iff_getElem.1 hx
        exact hI.out j hj (by rw [← EN.out];exact hj)
       clear hI hlt
       by_cases hrr:0≤r∧r≤12
       · obtain ⟨m,rfl⟩:=Int.eq_ofNat_of_zero_le hrr.1
         have hm:m≤12:=by omega
         have q1:decide ((m:Int) < 0)=false:=df (by omega)
         have q2:decide ((12:Int) < (m:Int))=false:=df (by omega)
         have WI:Hid (WithinR m L):=hidd fun x hx=>⟨HW.out x hx,HF.out x hx⟩
         clear hrr HW HF
         go_wp2_with fail
         go_loopw [8,9] (fun v8 v9 w3=>∃ (q:Nat) (z:Int),q≤k∧v9=.int .i64 (q:Int)∧v8=.int .i64 z∧0≤z∧z≤1099511627776∧Hid (z=cntR m (L.take q))∧Below w.heap.size w w3) (fun _ v9 _=>k - (intOf v9).toNat)
         case atStart=>exact ⟨0,0,by omega,rfl,rfl,by omega,by omega,hidd rfl,hB⟩
         case round =>
          clear hB
          obtain ⟨q,z,hq,rfl,rfl,z0,z1,hz,hB⟩:=hrel
          by_cases hlt:q < k
          · have hqL:q < L.length:=by rw [EN.out];exact hlt
            obtain ⟨g,o,rfl,x1⟩:=HC.out q hqL
            replace x1:=keepCell hB x1
            have hwq:=WI.out _ (List.getElem_mem hqL)
            have hu:=UL.out _ (List.getElem_mem hqL)
            have X1:=size_mask hwq.1
            have hbx:=wR_box L[q]
            have NX:=hidd (cntR_next m hqL)
            obtain ⟨K,hK⟩:∃ K:Nat,m - (wR L[q]).toNat=K:=⟨_,rfl⟩
            rw [hK] at NX
            have eK:(m:Int) - wR L[q]=(K:Int):=by omega
            have hK12:K≤12:=by omega
            have PW:=hidd fun w=>r_seven K hK12 w
            have bx:=seven_box hK12
            clear hwq hK
            obtain ⟨Z,hZ⟩:∃ Z,(7:Int)^K=Z:=⟨_,rfl⟩
            rw [hZ] at NX PW bx
            clear hZ
            generalize wR L[q]=R at *
            generalize L[q]'_=x at *
            obtain ⟨X,eX⟩:∃ X,x / 72057594037927936=X:=⟨_,rfl⟩
            rw [eX] at X1
            have hcnt:Hid (z+Z=cntR m (L.take (q+1))):=hidd (by rw [NX.out,hz.out])
            have hle:=hidd (cntR_take m L (q+1))
            clear NX hz
            by_cases hmany:1099511627776 < z+Z
            · have hT:Hid (SizeT L (m:Int) 0 7):=hidd (.inr (.inr (.inr ⟨m,rfl,hm,WI.out,.inl ⟨by have:=hle.out;have:=hcnt.out;omega,rfl,rfl⟩⟩)))
              clear hcnt hle
              go_wp2_with fail
              refine (PW.out _).mono ?_
              rintro e w4 ⟨rfl,b4⟩
              have B4:=belowT hB b4
              go_wp2_with fail
              go_ret2
              exact ⟨⟨0,7,rfl,hT.out⟩,B4⟩
            · have hmany':decide (1099511627776 < z+Z)=false:=df hmany
              go_wp2_with fail
              refine (PW.out _).mono ?_
              rintro e w4 ⟨rfl,b4⟩
              have B4:=belowT hB b4
              go_wp2_with fail
              go_roundw
              case rel=>exact ⟨q+1,z+Z,by omega,by go_num,rfl,by omega,by omega,hcnt,B4⟩
              case measure=>simp [intOf];omega
          · obtain rfl:q=k:=by omega
            have hT:Hid (SizeT L (m:Int) z 0):=hidd (.inr (.inr (.inr ⟨m,rfl,hm,WI.out,.inr ⟨by have:=hz.out;rw [List.take_of_length_le (by rw [EN.out];omega)] at this;omega,by have:=hz.out;rwa [List.take_of_length_le (by rw [EN.out];omega)] at this,rfl⟩⟩)))
            clear hz hlt
            go_wp2_with fail
            go_ret2
            exact ⟨⟨z,0,rfl,hT.out⟩,hB⟩
       · have hT:Hid (SizeT L r 0 1):=hidd (.inr (.inr (.inl ⟨HW.out,HF.out,hrr,rfl,rfl⟩)))
         have hq:r < 0∨(decide (r < 0)=false∧12 < r):=by
          by_cases h:r < 0
          · exact .inl h
          · exact .inr ⟨df h,by omega⟩
         clear hrr HW HF
         rcases hq with hq | ⟨hq,hq2⟩
         all_goals
          go_wp2_with fail
          go_ret2
          exact ⟨⟨0,1,rfl,hT.out⟩,hB⟩
end Go.Proofs.YtlfjfendlohekaaGreatDoor
