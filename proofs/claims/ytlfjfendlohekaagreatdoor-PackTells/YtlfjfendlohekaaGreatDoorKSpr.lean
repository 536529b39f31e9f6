/-
  What Spread of package pack tells of any list and size; in whatever memory where the two tables hold what their texts lay.
-/
import Derived.Test.YtlfjfendlohekaaGreatDoorJn35
namespace Go.Proofs.YtlfjfendlohekaaGreatDoor
open Go.RowKit
def kinK (t:Nat) (v:Int) (k:Nat):List Int:=(List.range k).flatMap fun d=>kin t (chW v d)
theorem kinK_step (t:Nat) (v:Int) (k:Nat):kinK t v (k+1)=kinK t v k++kin t (chW v k):=by unfold kinK;rw [List.range_succ,List.flatMap_append];simp
theorem kinK_len (t:Nat) (v:Int):∀ k,(kinK t v k).length=k*7^t
 | 0=>by simp [kinK]
 | k+1=>by rw [kinK_step,List.length_append,kinK_len t v k,kin_len,Nat.succ_mul]
theorem kinK_all (t:Nat) (v:Int):kinK t v 7=kin (t+1) v:=by
 show _=(kidRow v).flatMap (kin t)
 unfold kinK kidRow
 rw [List.flatMap_map]
theorem vals_app (L M:List Int):vals (L++M)=vals L++vals M:=by simp [vals]
theorem seven_nat {k:Nat} (h:k≤12):1≤7^k∧7^k≤13841287201:=by
 have h1:0 < 7^k:=Nat.pow_pos (by omega)
 have h2:(7:Nat)^k≤7^12:=Nat.pow_le_pow_right (by omega) h
 have:(7:Nat)^12=13841287201:=by decide
 omega
set_option maxHeartbeats 8000000 in
set_option maxRecDepth 20000 in
theorem p_below:∀ (t:Nat) (v:Int) (n:Nat) (_:Whole v) (_:wR v=(n:Int)) (_:n+t≤12) (w:World) (_:Tabs w),
 Calls Tryz.prog 35 #[.int .u64 v,.int .i64 ((n+t:Nat):Int)] w fun e w'=>∃ g c,e=.returned (.slice (some ⟨g,0,none⟩) (7^t) c)∧w'.ownsRow w.heap.size 30 1 (.slice (some ⟨g,0,none⟩) (7^t) c) (7^t) (vals (kin t v))∧Below w.heap.size w w'
 | 0,v,n,hv,hn,ht,w,hT=>by
  have RS:=hidd fun w=>ires_yes v hv w
  rw [hn] at RS
  have e0:((n:Int) == ((n+0:Nat):Int))=true:=by simp
  obtain ⟨m,hm⟩:∃ m,((n+0:Nat):Int)=m:=⟨_,rfl⟩
  rw [hm] at e0 ⊢
  have ub:=whole_box hv
  clear hv hm hT
  go_enter Tryz.func35,Tryz.ntmps35
  go_wp2_with fail
  refine (RS.out _).mono ?_
  rintro e w1 ⟨rfl,b1⟩
  have hO:(w1.alloc (.cells #[.int .u64 v] 30)).ownsRow w.heap.size 30 1 (.slice (some ⟨w1.heap.size,0,none⟩) 1 1) 1 (vals [v]):=World.ownsRow_lit _ #[.int .u64 v] 1 b1.size (by unfold maxLen;omega) rfl
  have B1:=hidd (And.intro hO (b1.alloc b1.size (.cells #[.int .u64 v] 30)))
  clear b1 hO
  go_wp2
  go_ret
  exact ⟨_,_,rfl,B1.out.1,B1.out.2⟩
 | t+1,v,n,hv,hn,ht,w,hT=>by
  have RS:=hidd fun w=>ires_yes v hv w
  have CE:=hidd fun w h=>icell_yes v hv w h
  have KE:=hidd fun w h=>ckids_yes (wR v) (cellA v) (cellB v) (cell_ok hv) (by omega) w h
  have WE:Hid (∀ k:Nat,k < 7→∀ w,Tabs w→Calls Tryz.prog 64 #[.agg #[.int .i64 (kidG (wR v) (cellA v) (cellB v) (k*3)),.int .i64 (kidG (wR v) (cellA v) (cellB v) (k*3+1)),.int .i64 (kidG (wR v) (cellA v) (cellB v) (k*3+2))]] w fun e w'=>e=.returned (.tuple #[.int .u64 (chW v k),.int .i64 0])∧Below w.heap.size w w'):=hidd fun k hk w hT=>by
   have hc:=child_word hv (by omega) (show k≤6 by omega)
   have:=iof_yes _ _ _ hc.1 w hT
   rw [hc.2] at this
   rw [kidG_0,kidG_1,kidG_2,show wR v+1=(((wR v).toNat+1:Nat):Int) by have:=wR_box v;omega]
   exact this
  have IH:Hid (∀ k:Nat,k < 7→∀ w,Tabs w→Calls Tryz.prog 35 #[.int .u64 (chW v k),.int .i64 ((n+(t+1):Nat):Int)] w fun e w'=>∃ g c,e=.returned (.slice (some ⟨g,0,none⟩) (7^t) c)∧w'.ownsRow w.heap.size 30 1 (.slice (some ⟨g,0,none⟩) (7^t) c) (7^t) (vals (kin t (chW v k)))∧Below w.heap.size w w'):=hidd fun k hk w hT=>by
   have hk2:=kid_whole hv (by omega) (d:=k) (by omega)
   have:=p_below t (chW v k) (n+1) hk2.1 (by rw [hk2.2.1,hn];omega) (by omega) w hT
   rwa [show n+1+t=n+(t+1) by omega] at this
  have UW:Hid (∀ k:Nat,k < 7→U64 (chW v k)):=hidd fun k hk=>by
   have:=whole_box (kid_whole hv (by omega) (d:=k) (by omega)).1
   exact ⟨by omega,by omega⟩
  have ub:=whole_box hv
  have e0:((n:Int) == ((n+(t+1):Nat):Int))=false:=by simp;omega
  have hnR:=hidd hn
  rw [hn] at RS CE KE WE
  obtain ⟨m,hm⟩:∃ m,((n+(t+1):Nat):Int)=m:=⟨_,rfl⟩
  rw [hm] at e0 IH ⊢
  have HT:=hidd hT
  have h7:=seven_nat (k:=t) (by omega)
  have hp7:Hid (7^(t+1)=7*7^t):=hidd (by rw [Nat.pow_succ];omega)
  obtain ⟨S,hS⟩:∃ S:Nat,7^t=S:=⟨_,rfl⟩
  rw [hS] at IH h7 hp7
  have KL:Hid (∀ k,(kinK t v k).length=k*S):=hidd fun k=>by rw [kinK_len,hS]
  clear hv hm hT hn ht hS
  generalize cellA v=A at *
  generalize cellB v=B at *
  generalize kidG (n:Int) A B=G at *
  obtain ⟨i0,hi,hz0,hz1,hz2⟩:=info_parts infoFin
  go_enter Tryz.func35,Tryz.ntmps35
  go_wp2_with fail
  refine (RS.out _).mono ?_
  rintro e w1 ⟨rfl,d1⟩
  have c1:Below w.heap.size w w1:=Below.trans (by go_grown) (d1.mono (by simp;try omega))
  have hB:=c1
  clear c1 d1
  go_wp2_with fail
  refine (CE.out _ (HT.out.below hB)).mono ?_
  rintro e w2 ⟨rfl,d2⟩
  have c2:Below w1.heap.size w1 w2:=Below.trans (by go_grown) (d2.mono (by simp;try omega))
  replace hB:=belowT hB c2
  clear c2 d2
  go_wp2_with fail
  refine (KE.out _ (HT.out.below (hB.trans ((allocB w2 _).mono hB.size)))).mono ?_
  rintro e w3 ⟨⟨Bk,hBk,rfl,hG⟩,d3⟩
  have hB3:=hidd (belowT (hB.trans ((allocB w2 (.cells #[.int .i64 (n:Int),.int .i64 A,.int .i64 B] 57)).mono hB.size)) d3)
  have HG:Hid (∀ o,o < 21→w3.cell? ⟨Bk,o,none⟩=some (.int .i64 (G o))):=hidd fun o ho=>by rw [(hG o ho).1,kidAt_all G o ho]
  have hBl:Bk < w3.heap.size:=World.block_lt_of_cell? _ _ (HG.out 0 (by omega))
  clear hG d3 hB CE KE RS hBk
  go_wp2_with fail
  go_loopw [5,32] (fun v5 v32 wr=>∃ k:Nat,k≤7∧v32=.int .i64 (k:Int)∧Hid (wr.ownsRow w3.heap.size 30 1 v5 (k*S) (vals (kinK t v k)))∧Below w3.heap.size w3 wr) (fun _ v32 _=>7 - (intOf v32).toNat)
  case atStart=>exact ⟨0,by omega,rfl,hidd (by simpa [kinK,vals] using World.ownsRow_nil _ _ _ _),Below.refl _ _⟩
  case round =>
   obtain ⟨k,hk,rfl,hO,hX⟩:=hrel
   have hXs:=hX.size
   have hWr:=hidd (hB3.out.trans (hX.mono hB3.out.size))
   by_cases hlt:k < 7
   · have s0:=keepLow hX (HG.out (k*3) (by omega)) (by simpa using hBl)
     have s1:=keepLow hX (HG.out (k*3+1) (by omega)) (by simpa using hBl)
     have s2:=keepLow hX (HG.out (k*3+2) (by omega)) (by simpa using hBl)
     have WK:=hidd (WE.out k hlt)
     have IK:=hidd (IH.out k hlt)
     have uK:=UW.out k hlt
     have hst:=hidd (kinK_step t v k)
     have hkl:=hidd (KL.out k)
     have hkl2:Hid ((kin t (chW v k)).length=S):=hidd (by have h1:=KL.out (k+1);rw [kinK_step,List.length_append,KL.out k,Nat.succ_mul] at h1;omega)
     obtain ⟨u0,u1⟩:=uK
     generalize G (k*3)=g0 at *
     generalize G (k*3+1)=g1 at *
     generalize G (k*3+2)=g2 at *
     generalize chW v k=x at *
     clear WE IH
     go_wp2_with fail
     have hA:=allocB wr (.cells #[.int .i64 g0,.int .i64 g1,.int .i64 g2] 57)
     refine (WK.out _ (HT.out.below (hWr.out.trans (hA.mono hWr.out.size)))).mono ?_
     rintro e w4 ⟨rfl,d4⟩
     have dA:=belowT hA d4
     have hX4:=hX.trans (dA.mono hXs)
     have hW4:=hidd (hWr.out.trans (dA.mono hWr.out.size))
     have hO4:=hidd (own_keep dA hO.out)
     have hs4:=hX4.size
     clear hA d4 dA hO hX s0 s1 s2 WK hWr
     go_wp2_with fail
     refine (IK.out _ (HT.out.below hW4.out)).mono ?_
     rintro e w5 ⟨q,c5,rfl,o5,b5⟩
     have hX5:=hidd (hX4.trans (b5.mono hs4))
     have hO5:=hidd (own_keep b5 hO4.out)
     have hN5:=hidd (own_lies o5)
     have hs5:=b5.size
     clear o5 b5 hO4 IK hX4 hW4
     obtain ⟨p5,cc5,rfl,-⟩:=own_slice hO5.out
     have hkS:k*S≤7*S:=Nat.mul_le_mul_right S (by omega)
     go_wp2_with (at_builtin;refine wpList_append_own _ rfl (.tmp 41) (.tmp 44) 24 rfl w3.heap.size 30 i0 (.int .u64 0) 1 8 Tryz.underlying24 hi hz0 hz1 hz2 rfl (by decide) _ _ _ rfl hO5.out ⟨q,0,none⟩ S c5 (vals (kin t x)) rfl (by rw [vals_len,hkl2.out];omega) hN5.out (vals_one _) (by unfold maxLen;omega) (by omega) (by omega) ?_)
     intro v' w6 hown hgrow _
     have hX6:=hidd (hX5.out.grown hgrow (by omega) (own_block hO5.out))
     have hO6:Hid (w6.ownsRow w3.heap.size 30 1 v' ((k+1)*S) (vals (kinK t v (k+1)))):=hidd (by
      rw [hst.out,vals_app,Nat.succ_mul];exact hown)
     clear hown hgrow hO5 hN5 hX5
     go_wp2
     go_roundw
     case rel=>exact ⟨k+1,by omega,by go_num,hO6,hX6.out⟩
     case measure=>simp [intOf];omega
   · obtain rfl:k=7:=by omega
     have hO7:=hidd (own_mono hO.out hB3.out.size)
     obtain ⟨g',cap',rfl⟩:=own_shape hO7.out (by omega)
     have FN:=hidd hWr.out
     clear WE IH hlt hO hX hWr
     go_wp2
     go_ret
     refine ⟨g',cap',?_,?_,FN.out⟩
     · rw [hp7.out];rfl
     · rw [hp7.out,← kinK_all]
       exact hO7.out
theorem SizeT.zero {L:List Int} {r z:Int} (h:SizeT L r z 0):∃ n:Nat,r=(n:Int)∧n≤12∧WithinR n L∧z=cntR n L∧z≤1099511627776:=by
 rcases h with ⟨_,_,h⟩ | ⟨_,_,_,h⟩ | ⟨_,_,_,_,h⟩ | ⟨n,h1,h2,h3,h4⟩
 · omega
 · omega
 · omega
 · rcases h4 with ⟨_,_,h⟩ | ⟨h5,h6,_⟩
   · omega
   · exact ⟨n,h1,h2,h3,h6,by omega⟩
def TellsSpr (L:List Int) (r:Int) (e:Ending) (w':World):Prop :=
 ∃ z t,SizeT L r z t∧((t≠0∧e=.returned (.tuple #[.slice none 0 0,.int .i64 t]))∨(t=0∧20000 < z∧e=.returned (.tuple #[.slice none 0 0,.int .i64 7])) ∨
  (t=0∧z≤20000∧∃ m:Nat,r=(m:Int)∧∃ (sl:Value) (K:List Int),e=.returned (.tuple #[sl,.int .i64 0])∧Rising K∧(∀ x,x∈K↔x∈kinR m L)∧K.length≤20000∧Lst w' sl K∧Addressed sl))
theorem kinR_next (m:Nat) {L:List Int} {i:Nat} (h:i < L.length):kinR m (L.take (i+1))=kinR m (L.take i)++kin (m - (wR L[i]).toNat) L[i]:=by
 unfold kinR
 rw [List.take_succ_eq_append_getElem h,List.flatMap_append]
 simp
set_option maxHeartbeats 8000000 in
set_option maxRecDepth 20000 in
theorem p_spread (s:Value) (L:List Int) (r:Int) (hr: -9223372036854775808≤r∧r≤9223372036854775807) (hn:L.length≤50000) (uL:∀ x∈L,U64 x) (w:World) (hl:Lst w s L) (hT:Tabs w) :
 Calls Tryz.prog 16 #[s,.int .i64 r] w fun e w'=>TellsSpr L r e w'∧Below w.heap.size w w':=by
 have SZ:=hidd (p_size s L r hr hn uL w hl)
 have HT:=hidd hT
 obtain ⟨p,cap,hs,-,hc⟩:=hl
 obtain ⟨n,en⟩:∃ n,L.length=n:=⟨_,rfl⟩
 have EN:=hidd en
 rw [en] at hs hn
 subst hs
 have UL:=hidd uL
 have HC:=hidd hc
 clear uL en hc hT
 go_enter Tryz.func16,Tryz.ntmps16
 go_wp2_with fail
 refine SZ.out.mono ?_
 rintro e w1 ⟨⟨z,t,rfl,hz⟩,b1⟩
 have HZ:=hidd hz
 have B1:=hidd b1
 clear SZ b1 hz
 by_cases ht:t=0
 · subst ht
   obtain ⟨m,rfl,hm,hW,hzc,hz40⟩:=HZ.out.zero
   have WI:=hidd hW
   have ZC:=hidd hzc
   have hz0:0≤z:=by have:=cntR_pos m L;omega
   clear hW hzc
   by_cases hmany:20000 < z
   · go_wp2
     go_ret2
     exact ⟨⟨z,0,HZ.out,.inr (.inl ⟨rfl,hmany,rfl⟩)⟩,B1.out⟩
   · have hmany':decide (20000 < z)=false:=df hmany
     have hz2:z≤20000:=by omega
     have hb1s:=B1.out.size
     obtain ⟨i0,hi,hz0',hz1,hz2'⟩:=info_parts infoFin
     clear hmany
     go_wp2_with fail
     go_loopw [8,24] (fun v8 v24 wr=>∃ (i c:Nat),i≤n∧v24=.int .i64 (i:Int)∧c≤20000∧Hid (c=(kinR m (L.take i)).length)∧Hid (wr.ownsRow w.heap.size 30 1 v8 c (vals (kinR m (L.take i))))∧Hid (Below w.heap.size w wr)) (fun _ v24 _=>n - (intOf v24).toNat)
     case atStart=>exact ⟨0,0,by omega,rfl,by omega,hidd (by simp [kinR]),hidd (by simpa [kinR,vals] using World.ownsRow_nil _ _ _ _),B1⟩
     case round =>
      clear B1 hb1s
      obtain ⟨i,c,hi',rfl,hc2,hcl,hO,hB⟩:=hrel
      have hsr:=hB.out.size
      by_cases hlt:i < n
      · have hiL:i < L.length:=by rw [EN.out];exact hlt
        obtain ⟨g,o,rfl,x1⟩:=HC.out i hiL
        replace x1:=keepCell hB.out x1
        have hwi:=WI.out _ (List.getElem_mem hiL)
        have hbx:=wR_box L[i]
        have hNX:=hidd (kinR_next m hiL)
        have hCN:=hidd (cntR_next m hiL)
        obtain ⟨K,hK⟩:∃ K:Nat,m - (wR L[i]).toNat=K:=⟨_,rfl⟩
        obtain ⟨q,hq⟩:∃ q:Nat,wR L[i]=(q:Int):=⟨(wR L[i]).toNat,by omega⟩
        have hqK:q+K=m:=by omega
        have BW:=hidd fun w h=>p_below K L[i] q hwi.1 hq (by omega) w h
        rw [hqK] at BW
        rw [hK] at hNX hCN
        have hle:=cntR_take m L (i+1)
        have h7:((c+7^K:Nat):Int)≤20000:=by
         have e1:=cntR_len m (L.take i)
         have e2:=hCN.out
         have e3:=hcl.out
         have e4:=ZC.out
         push_cast
         omega
        have h7p:=seven_nat (k:=K) (by omega)
        have hkl:=hidd (kin_len K L[i])
        have u:=whole_box hwi.1
        clear hwi hbx hCN hK hq hle
        obtain ⟨S,hS⟩:∃ S:Nat,7^K=S:=⟨_,rfl⟩
        rw [hS] at BW h7 h7p hkl
        generalize L[i]'_=x at *
        obtain ⟨pv,cv,rfl,-⟩:=own_slice hO.out
        clear hS
        go_wp2_with fail
        refine (BW.out _ (HT.out.below hB.out)).mono ?_
        rintro e w2 ⟨q2,c3,rfl,o2,b2⟩
        have hO2:=hidd (own_keep b2 hO.out)
        have hN2:=hidd (own_lies o2)
        have hB2:=hidd (belowT hB.out b2)
        have hs2:=hB2.out.size
        clear o2 b2 hO hB BW
        go_wp2_with (at_builtin;refine wpList_append_own _ rfl (.tmp 28) (.tmp 31) 24 rfl w.heap.size 30 i0 (.int .u64 0) 1 8 Tryz.underlying24 hi hz0' hz1 hz2' rfl (by decide) _ _ _ rfl hO2.out ⟨q2,0,none⟩ S c3 (vals (kin K x)) rfl (by rw [vals_len,hkl.out];omega) hN2.out (vals_one _) (by unfold maxLen;omega) (by omega) (by omega) ?_)
        intro v' w3 hown hgrow _
        have hB3:=hidd (hB2.out.grown hgrow hs2 (own_block hO2.out))
        have hO3:Hid (w3.ownsRow w.heap.size 30 1 v' (c+S) (vals (kinR m (L.take (i+1))))):=hidd (by rw [hNX.out,vals_app];exact hown)
        have hcl3:Hid (c+S=(kinR m (L.take (i+1))).length):=hidd (by rw [hNX.out,List.length_append,← hcl.out,hkl.out])
        clear hown hgrow hO2 hN2 hB2
        go_wp2
        go_roundw
        case rel=>exact ⟨i+1,c+S,by omega,by go_num,by omega,hcl3,hO3,hB3⟩
        case measure=>simp [intOf];omega
      · obtain rfl:i=n:=by omega
        have eall:L.take i=L:=List.take_of_length_le (by rw [EN.out];omega)
        rw [eall] at hcl hO
        have OA:=hidd (own_addr hO.out)
        have hL2:=Lst.own hO.out
        have CS:=hidd (cset_row u8 (kinR m L) (by rw [← hcl.out];omega) wr hL2)
        have BB:=hidd hB.out
        clear hO hB hL2 eall hlt
        go_wp2_with fail
        refine CS.out.mono ?_
        rintro e w2 ⟨⟨g,c3,K,rfl,k1,k2,k3,k4⟩,b2⟩
        have FN:=hidd (And.intro k1 (And.intro k2 (And.intro k3 k4)))
        have B2:=hidd (belowT BB.out b2)
        clear k1 k2 k3 k4 b2 CS BB
        go_wp2
        go_ret2
        exact ⟨⟨z,0,HZ.out,.inr (.inr ⟨rfl,hz2,m,rfl,_,K,rfl,FN.out.1,FN.out.2.1,by have:=FN.out.2.2.1;have:=hcl.out;omega,Lst.own FN.out.2.2.2,own_addr FN.out.2.2.2⟩)⟩,B2.out⟩
 · have ht':(t != 0)=true:=by simp [ht]
   have HTt:=hidd ht
   clear ht
   go_wp2
   go_ret2
   exact ⟨⟨z,t,HZ.out,.inl ⟨HTt.out,rfl⟩⟩,B1.out⟩
end Go.Proofs.YtlfjfendlohekaaGreatDoor
