/-
  What the document's own Free tells of any list; in whatever memory.
-/
import Derived.Test.YtlfjfendlohekaaGreatDoorJn13
import Derived.Laws.AppendOwnNone
namespace Go.Proofs.YtlfjfendlohekaaGreatDoor
open Go.RowKit
theorem free_at {L:List Int}:FreeP L↔(∀ x∈L,Whole x)∧∀ (j:Nat) (hj:j < L.length) (q:Nat) (hq:q < L.length),q≠j→¬ Above L[q] L[j]:=by
 constructor
 · rintro ⟨h1,h2,h3⟩
   refine ⟨h2,fun j hj q hq hne ha=>?_⟩
   have e:=h3 _ (List.getElem_mem hq) _ (List.getElem_mem hj) ha
   have h4:=List.pairwise_iff_getElem.1 h1
   rcases Nat.lt_or_ge q j with h | h
   · exact h4 q j hq hj h e
   · exact h4 j q hj hq (by omega) e.symm
 · rintro ⟨h1,h2⟩
   refine ⟨List.pairwise_iff_getElem.2 fun i j hi hj hlt e=>?_,h1,fun p hp q hq ha=>?_⟩
   · exact h2 j hj i hi (by omega) (by rw [e];exact above_refl _)
   · obtain ⟨i,hi,rfl⟩:=List.mem_iff_getElem.1 hp
     obtain ⟨j,hj,rfl⟩:=List.mem_iff_getElem.1 hq
     by_cases e:i=j
     · subst e;rfl
     · exact absurd ha (h2 j hj i hi e)
theorem keepTwo8 {w0 a b:World} {p0 p1:Addr} {v0 v1:Value} (hb:Below a.heap.size a b) (h:a.cell? p0=some v0∧a.cell? p1=some v1∧Below w0.heap.size w0 a) :
 b.cell? p0=some v0∧b.cell? p1=some v1∧Below w0.heap.size w0 b:=⟨keepCell hb h.1,keepCell hb h.2.1,belowT h.2.2 hb⟩
set_option maxHeartbeats 8000000 in
set_option maxRecDepth 20000 in
theorem r_free (s:Value) (L:List Int) (hn:L.length≤50000) (uL:∀ x∈L,U64 x) (b:Bool) (hb:b=true↔FreeP L) (w:World) (hl:Lst w s L) :
 Calls Tryz.prog 21 #[s] w fun e w'=>e=.returned (.bool b)∧Below w.heap.size w w':=by
 obtain ⟨p,cap,hs,-,hc⟩:=hl
 obtain ⟨n,en⟩:∃ n,L.length=n:=⟨_,rfl⟩
 have EN:=hidd en
 rw [en] at hs hn
 subst hs
 have UL:=hidd uL
 have HC:=hidd hc
 rw [free_at] at hb
 have HB:=hidd hb
 clear uL en hc hb
 go_enter Tryz.func21,Tryz.ntmps21
 go_wp2_with fail
 go_loopw [3] (fun v3 wr=>∃ i:Nat,i≤n∧v3=.int .i64 (i:Int)∧Hid ((∀ (j:Nat) (hj:j < L.length),j < i→Whole L[j])∧∀ (j:Nat) (hj:j < L.length) (q:Nat) (hq:q < L.length),j < i→q≠j→¬ Above L[q] L[j])∧Below w.heap.size w wr) (fun v3 _=>n - (intOf v3).toNat)
 case atStart=>exact ⟨0,by omega,rfl,hidd ⟨fun j _ h=>absurd h (Nat.not_lt_zero _),fun j _ q _ h=>absurd h (Nat.not_lt_zero _)⟩,Below.refl _ _⟩
 case round =>
  obtain ⟨i,hi,rfl,hI,hB⟩:=hrel
  by_cases hlt:i < n
  · have hlt':(i:Int) < (n:Int):=by omega
    have hiL:i < L.length:=by rw [EN.out];exact hlt
    obtain ⟨g,o,rfl,x0⟩:=HC.out i hiL
    have X0:=hidd x0
    replace x0:=keepCell hB x0
    have hu:=UL.out _ (List.getElem_mem hiL)
    by_cases hW:Whole L[i]
    · have IK:=hidd fun w=>risword_yes L[i] hW w
      have HW:=hidd hW
      have WI:Hid (∀ (k:Nat) (hk:k < L.length) (d:Bool),(d=true↔Above L[k] L[i])→∀ w,Calls Tryz.prog 24 #[.int .u64 L[i],.int .u64 L[k]] w fun e w'=>e=.returned (.bool d)∧Below w.heap.size w w') :=
       hidd fun k hk d hd w=>r_wordin L[i] L[k] hu (UL.out _ (List.getElem_mem hk)) d (by rw [hd];exact ⟨fun h=>⟨hW,h⟩,fun h=>h.2⟩) w
      clear hW hu
      have IN0:Hid (∀ (q:Nat) (hq:q < L.length),q < 0→q≠i→¬ Above L[q] L[i]):=hidd fun q _ h=>absurd h (Nat.not_lt_zero _)
      have NO:Hid (∀ (k:Nat) (hk:k < L.length),k≠i→Above L[k] L[i]→b=false):=hidd fun k hk hne ha=>by
       cases hb1:b with
       | false=>rfl
       | true=>exact absurd ha ((HB.out.1 hb1).2 i hiL k hk hne)
      have NX:Hid ((∀ (q:Nat) (hq:q < L.length),q < n→q≠i→¬ Above L[q] L[i])→((∀ (j:Nat) (hj:j < L.length),j < i+1→Whole L[j])∧∀ (j:Nat) (hj:j < L.length) (q:Nat) (hq:q < L.length),j < i+1→q≠j→¬ Above L[q] L[j])):=hidd fun h=>by
       refine ⟨fun j hj hji=>?_,fun j hj q hq hji hne=>?_⟩
       · rcases Nat.lt_or_ge j i with k | k
         · exact hI.out.1 j hj k
         · obtain rfl:j=i:=by omega
           exact HW.out
       · rcases Nat.lt_or_ge j i with k | k
         · exact hI.out.2 j hj q hq k hne
         · obtain rfl:j=i:=by omega
           exact h q hq (by rw [← EN.out];exact hq) hne
      have STEP:Hid (∀ (k:Nat) (hk:k < L.length),(∀ (q:Nat) (hq:q < L.length),q < k→q≠i→¬ Above L[q] L[i])→(k≠i→¬ Above L[k] L[i])→∀ (q:Nat) (hq:q < L.length),q < k+1→q≠i→¬ Above L[q] L[i]):=hidd fun k hk h1 h2 q hq hlt hne=>by
       rcases Nat.lt_or_ge q k with c | c
       · exact h1 q hq c hne
       · obtain rfl:q=k:=by omega
         exact h2 hne
      obtain ⟨INP,eINP⟩:∃ P:Nat→Prop,∀ k,P k↔∀ (q:Nat) (hq:q < L.length),q < k→q≠i→¬ Above L[q] L[i]:=⟨fun k=>∀ (q:Nat) (hq:q < L.length),q < k→q≠i→¬ Above L[q] L[i],fun _=>Iff.rfl⟩
      have EI:=hidd eINP
      replace IN0:Hid (INP 0):=hidd ((EI.out 0).2 IN0.out)
      obtain ⟨ABV,eABV⟩:∃ P:Nat→Prop,∀ (k:Nat) (hk:k < L.length),P k↔Above L[k] L[i]:=⟨fun k=>∀ hk:k < L.length,Above L[k] L[i],fun k hk=>⟨fun h=>h hk,fun h _=>h⟩⟩
      have EA:=hidd eABV
      clear eINP eABV hI
      generalize hxx:L[i]'hiL=x at *
      go_wp2_with fail
      refine (IK.out _).mono ?_
      rintro e w1 ⟨rfl,b1⟩
      have B1:=belowT hB b1
      clear hB b1 x0 IK
      go_wp2_with fail
      go_loopw [4] (fun v4 wr=>∃ k:Nat,k≤n∧v4=.int .i64 (k:Int)∧Hid (INP k)∧Below w.heap.size w wr) (fun v4 _=>n - (intOf v4).toNat)
      case atStart=>exact ⟨0,by omega,rfl,IN0,B1⟩
      case round =>
       clear B1 IN0
       obtain ⟨k,hk,rfl,hI,hB⟩:=hrel
       by_cases hkn:k < n
       · have hkn':(k:Int) < (n:Int):=by omega
         have hkL:k < L.length:=by rw [EN.out];exact hkn
         by_cases hki:k=i
         · subst hki
           have hne:((k:Int) != (k:Int))=false:=by simp
           have hI2:Hid (INP (k+1)):=hidd ((EI.out _).2 (STEP.out k hkL ((EI.out _).1 hI.out) fun h=>absurd rfl h))
           clear hI
           go_wp2_with fail
           go_quiet (fail)
           go_wp2_with fail
           go_roundw
           case rel=>exact ⟨k+1,by omega,by go_num,hI2,by first | exact hB | exact belowN hB _⟩
           case measure=>simp [intOf];omega
         · have hne:((k:Int) != (i:Int))=true:=by simp;omega
           obtain ⟨g',o',e',y0⟩:=HC.out k hkL
           simp only [Option.some.injEq,Addr.mk.injEq,and_true] at e'
           obtain ⟨rfl,rfl⟩:=e'
           replace y0:=keepCell hB y0
           have x0:=keepCell hB X0.out
           by_cases ha:ABV k
           · have hbf:=NO.out k hkL hki ((EA.out k hkL).1 ha)
             have WK:=hidd fun w=>WI.out k hkL true (by simp only [true_iff];exact (EA.out k hkL).1 ha) w
             subst hbf
             clear ha hI
             generalize L[k]'_=y at *
             have hS0:wr.drew.cell? ⟨g,o+i,none⟩=some (.int .u64 x)∧wr.drew.cell? ⟨g,o+k,none⟩=some (.int .u64 y)∧Below wr.heap.size wr wr.drew:=⟨x0,y0,(Below.refl _ _).drew⟩
             go_wp2_with fail
             go_region_held3 (fun w'=>w'.cell? ⟨g,o+i,none⟩=some (.int .u64 x)∧w'.cell? ⟨g,o+k,none⟩=some (.int .u64 y)∧Below wr.heap.size wr w') (first | exact hS0 | exact keepTwo8 hb (by assumption)) (first | (go_at_call 24;with_reducible refine (WK.out _).mono ?_;rintro e w' ⟨rfl,hb⟩))
             all_goals
              rename_i hS
              have hW:=belowT hB hS.2.2
              clear hS hS0 hb x0 y0 WK hB
              go_wp2
              go_ret
              exact ⟨rfl,hW⟩
           · have WK:=hidd fun w=>WI.out k hkL false (by simp only [Bool.false_eq_true,false_iff];exact fun h=>ha ((EA.out k hkL).2 h)) w
             have hI2:Hid (INP (k+1)):=hidd ((EI.out _).2 (STEP.out k hkL ((EI.out _).1 hI.out) fun _ h=>ha ((EA.out k hkL).2 h)))
             clear ha hI
             generalize L[k]'_=y at *
             have hS0:wr.drew.cell? ⟨g,o+i,none⟩=some (.int .u64 x)∧wr.drew.cell? ⟨g,o+k,none⟩=some (.int .u64 y)∧Below wr.heap.size wr wr.drew:=⟨x0,y0,(Below.refl _ _).drew⟩
             go_wp2_with fail
             go_region_held3 (fun w'=>w'.cell? ⟨g,o+i,none⟩=some (.int .u64 x)∧w'.cell? ⟨g,o+k,none⟩=some (.int .u64 y)∧Below wr.heap.size wr w') (first | exact hS0 | exact keepTwo8 hb (by assumption)) (first | (go_at_call 24;with_reducible refine (WK.out _).mono ?_;rintro e w' ⟨rfl,hb⟩))
             all_goals
              rename_i hS
              have hW:=belowT hB hS.2.2
              clear hS hS0 hb x0 y0 WK hB
              go_wp2
              go_roundw
              case rel=>exact ⟨k+1,by omega,by go_num,hI2,hW⟩
              case measure=>simp [intOf];omega
       · obtain rfl:k=n:=by omega
         have hkn':decide ((k:Int) < (k:Int))=false:=by simp
         have hI2:=hidd (NX.out ((EI.out _).1 hI.out))
         clear hI hkn
         go_wp2_with fail
         go_roundw
         case rel=>exact ⟨i+1,by omega,by go_num,hI2,hB⟩
         case measure=>simp [intOf];omega
    · have IK:=hidd fun w=>risword_no L[i] hu hW w
      have hbf:b=false:=by
       cases hb1:b with
       | false=>rfl
       | true=>exact absurd ((HB.out.1 hb1).1 _ (List.getElem_mem hiL)) hW
      subst hbf
      clear hW hI
      generalize L[i]'_=x at *
      go_wp2_with fail
      refine (IK.out _).mono ?_
      rintro e w1 ⟨rfl,b1⟩
      have B1:=belowT hB b1
      go_wp2_with fail
      go_ret
      exact ⟨rfl,B1⟩
  · obtain rfl:i=n:=by omega
    have hlt':decide ((i:Int) < (i:Int))=false:=by simp
    have hbt:b=true:=HB.out.2 ⟨fun x hx=>by
     obtain ⟨j,hj,rfl⟩:=List.mem_iff_getElem.1 hx
     exact hI.out.1 j hj (by rw [← EN.out];exact hj),fun j hj q hq hne=>hI.out.2 j hj q hq (by rw [← EN.out];exact hj) hne⟩
    subst hbt
    clear hI hlt
    go_wp2_with fail
    go_ret
    exact ⟨rfl,hB⟩
end Go.Proofs.YtlfjfendlohekaaGreatDoor
namespace Go.Proofs.YtlfjfendlohekaaGreatDoor
open Go.ChangeShapes Go.WideShapes Go.RowKit
def LstK (k:IntKind) (w:World) (s:Value) (L:List Int):Prop :=
 ∃ p cap,s=.slice p L.length cap∧L.length≤cap∧∀ (j:Nat) (hj:j < L.length),∃ g o,p=some ⟨g,o,none⟩∧w.cell? ⟨g,o+j,none⟩=some (.int k L[j])
theorem LstK.u64 {w:World} {s:Value} {L:List Int} (h:LstK .u64 w s L):Lst w s L:=h
theorem LstK.keep {k:IntKind} {w w':World} {s:Value} {L:List Int} (h:LstK k w s L) (hb:Below w.heap.size w w'):LstK k w' s L:=by
 obtain ⟨p,cap,h1,h2,h3⟩:=h
 refine ⟨p,cap,h1,h2,fun j hj=>?_⟩
 obtain ⟨g,o,e,hc⟩:=h3 j hj
 exact ⟨g,o,e,keepCell hb hc⟩
theorem u64_wf {x:Int} (h:(Lit.int .u64 x).wf=true):U64 x:=by
 have e1:IntKind.u64.min=0:=rfl
 have e2:IntKind.u64.max=18446744073709551615:=rfl
 simp [Lit.wf,e1,e2] at h
 unfold U64
 omega
theorem i64_wf {x:Int} (h:(Lit.int .i64 x).wf=true): -9223372036854775808≤x∧x≤9223372036854775807:=by
 have e1:IntKind.i64.min= -9223372036854775808:=rfl
 have e2:IntKind.i64.max=9223372036854775807:=rfl
 simp [Lit.wf,e1,e2] at h
 omega
set_option maxHeartbeats 1000000 in
theorem open_list {P:Program} {b0:Nat} {H:Type} {enc:TypeId × Value→H} {W:World} {t e:TypeId} {k:IntKind} {v:Value} {d:DataW H} {p:List MemPlace} (ht:P.underlying t=some (.slice e)) (he:P.underlying e=some (.int k)) (hc:P.cellsOf e=1)
 (hval:Value.okWide P W .any b0 t v) (h:DataW.Trod enc P W 0 (fun _=>true) true t v d p) :
 ∃ L:List Int,(LstK k W v L∧(v=.slice none 0 0∨∃ a m c,v=.slice (some a) m c))∧(∀ x∈L,(Lit.int k x).wf=true)∧∀ W',Below W.heap.size W W'→∃ p',DataW.Trod enc P W' 0 (fun b=>decide (b < W.heap.size)) true t v d p':=by
 obtain ⟨a0,len,cap,rfl⟩:=okWide_slice ht hval
 obtain ⟨fuel,hf⟩:=h
 rcases open_ints ht he hc hf with ⟨hcs,hx⟩ | ⟨a,len',cap',zs,hcs,hb,hl,hm,hz,hx,hcell,hwz⟩
 · simp [Value.cells] at hcs
   obtain ⟨rfl,rfl,rfl⟩:=hcs
   simp only [Prod.mk.injEq] at hx
   obtain ⟨rfl,rfl⟩:=hx
   refine ⟨[],⟨⟨none,0,rfl,Nat.le_refl _,fun j hj=>absurd hj (Nat.not_lt_zero _)⟩,.inl rfl⟩,fun x hx=>by simp at hx,fun W' _=>⟨[],1,?_⟩⟩
   rw [DataW.trod_step]
   unfold DataW.trodStep
   simp [Value.cells,ht]
 · simp [Value.cells] at hcs
   obtain ⟨rfl,rfl,rfl⟩:=hcs
   simp only [Prod.mk.injEq] at hx
   obtain ⟨rfl,rfl⟩:=hx
   simp only [if_true] at hz
   have hlt:(zs.take len).length=len:=by simp;omega
   refine ⟨zs.take len,⟨?_,.inr ⟨a,len,cap,rfl⟩⟩,fun x hx=>hwz x (List.mem_of_mem_take hx),fun W' hB=>⟨MemPlace.row a zs.length,2,?_⟩⟩
   · by_cases hl0:len=0
     · refine ⟨some a,cap,by rw [hlt],by omega,fun j hj=>by omega⟩
     · obtain ⟨b,off,spot⟩:=a
       have hspot:spot=none:=by simpa [Addr.add] using World.cell?_spot (hcell 0 (by omega))
       subst hspot
       refine ⟨_,cap,by rw [hlt],by omega,fun j hj=>⟨b,off,rfl,?_⟩⟩
       rw [← add_plain,hcell j (by omega)]
       have hj2:j < zs.length:=by omega
       simp [List.getD,hj2]
   · have hz2:zs.length=(if decide (a.block < W.heap.size) then cap else len):=by
      by_cases h0:cap=0
      · have:len=0:=by omega
        rw [hz,h0,this]
        simp
      · have hlt2:=World.block_lt_of_cell? _ _ (hcell 0 (by omega))
        rw [block_add] at hlt2
        rw [decide_eq_true hlt2,hz]
        simp
     exact shut_ints 0 ht he hc (Nat.zero_le _) hl hm hz2 (fun i hi=>keepCell hB (hcell i hi)) hwz
end Go.Proofs.YtlfjfendlohekaaGreatDoor
namespace Go.Proofs.YtlfjfendlohekaaGreatDoor
open Go.RowKit
def Apart (a b:Value):Prop:=a.ownBlock=none∨b.ownBlock=none∨a.ownBlock≠b.ownBlock
theorem Apart.symm {a b:Value} (h:Apart a b):Apart b a:=by
 rcases h with h | h | h
 · exact .inr (.inl h)
 · exact .inl h
 · exact .inr (.inr fun e=>h e.symm)
theorem Apart.kept {a b:Value} (h:Apart a b):a.ownBlock=none∨a.ownBlock≠b.ownBlock:=by
 rcases h with h | h | h
 · exact .inl h
 · by_cases h2:a.ownBlock=none
   · exact .inl h2
   · exact .inr (by rw [h];exact h2)
 · exact .inr h
end Go.Proofs.YtlfjfendlohekaaGreatDoor
