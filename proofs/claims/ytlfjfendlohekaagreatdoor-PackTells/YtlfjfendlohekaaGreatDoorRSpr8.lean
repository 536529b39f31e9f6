/-
  What the document's own Spread tells of any list and size; in whatever memory.
-/
import Derived.Test.YtlfjfendlohekaaGreatDoorVLook
import Derived.Test.YtlfjfendlohekaaGreatDoorJn22
import Derived.Test.YtlfjfendlohekaaGreatDoorRKidW
namespace Go.Proofs.YtlfjfendlohekaaGreatDoor
open Go.RowKit
def bf:Nat→Int→List Int
 | 0,v=>[v]
 | t+1,v=>(bf t v).flatMap kidRow
theorem bf_len:∀ (t:Nat) (v:Int),(bf t v).length=7^t
 | 0,v=>rfl
 | t+1,v=>by
  show ((bf t v).flatMap kidRow).length=_
  have:∀ L:List Int,(L.flatMap kidRow).length=L.length*7:=fun L=>by
   induction L with
   | nil=>simp
   | cons a L ih=>rw [List.flatMap_cons,List.length_append,ih,kidRow_len,List.length_cons,Nat.succ_mul];omega
  rw [this,bf_len t v,Nat.pow_succ]
theorem mem_bf:∀ (t:Nat) {v x:Int},Whole v→wR v+(t:Int)≤12→(x∈bf t v↔Whole x∧wR x=wR v+(t:Int)∧Above v x)
 | 0,v,x,h,ht=>by
  show x∈[v]↔_
  rw [List.mem_singleton]
  constructor
  · rintro rfl;exact ⟨h,by simp,above_refl x⟩
  · rintro ⟨hx,hs,ha⟩;exact (ha.eq hx (by omega)).symm
 | t+1,v,x,h,ht=>by
  show x∈(bf t v).flatMap kidRow↔_
  rw [List.mem_flatMap]
  have hb:=wR_box v
  constructor
  · rintro ⟨y,hy,hx⟩
    obtain ⟨h1,h2,h3⟩:=(mem_bf t h (by omega)).1 hy
    obtain ⟨d,hd,rfl⟩:=kidRow_mem.1 hx
    have hw:=kid_whole h1 (by omega) hd
    exact ⟨hw.1,by rw [hw.2.1,h2];omega,h3.trans (above_kid h1 (by omega) hd) hw.1⟩
  · rintro ⟨hx,hs,ha⟩
    have hu:=up_whole hx (by omega)
    rcases above_cases hx ha with e | ⟨_,hau⟩
    · rw [e] at hs;omega
    · obtain ⟨d,hd,e⟩:=kid_of_up hx (by omega)
      exact ⟨upW x,(mem_bf t h (by omega)).2 ⟨hu.1,by rw [hu.2,hs];omega,hau⟩,kidRow_mem.2 ⟨d,hd,e⟩⟩
theorem bf_kin (t:Nat) {v x:Int} (h:Whole v) (ht:wR v+(t:Int)≤12):x∈bf t v↔x∈kin t v:=by rw [mem_bf t h ht,mem_kin t h ht]
def bfR (r:Nat) (L:List Int):List Int:=L.flatMap fun w=>bf (r - (wR w).toNat) w
theorem bfR_mem {r:Nat} (hr:r≤12) {L:List Int} (hL:WithinR r L) {x:Int}:x∈bfR r L↔x∈kinR r L:=by
 unfold bfR kinR
 rw [List.mem_flatMap,List.mem_flatMap]
 constructor
 · rintro ⟨w,hw,hx⟩
   have:=hL w hw
   have hb:=wR_box w
   exact ⟨w,hw,(bf_kin _ this.1 (by omega)).1 hx⟩
 · rintro ⟨w,hw,hx⟩
   have:=hL w hw
   have hb:=wR_box w
   exact ⟨w,hw,(bf_kin _ this.1 (by omega)).2 hx⟩
theorem bfR_next (m:Nat) {L:List Int} {i:Nat} (h:i < L.length):bfR m (L.take (i+1))=bfR m (L.take i)++bf (m - (wR L[i]).toNat) L[i]:=by
 unfold bfR
 rw [List.take_succ_eq_append_getElem h,List.flatMap_append]
 simp
theorem bfR_len (r:Nat):∀ L:List Int,cntR r L=((bfR r L).length:Int)
 | []=>rfl
 | w :: L=>by
  show 7^(r - (wR w).toNat)+cntR r L=_
  unfold bfR
  rw [List.flatMap_cons,List.length_append,bf_len,bfR_len r L]
  unfold bfR
  push_cast
  rfl
theorem bfR_u64 {r:Nat} (hr:r≤12) {L:List Int} (hL:WithinR r L):∀ x∈bfR r L,U64 x:=fun x hx=>by
 have:=((mem_kinR hr hL).1 ((bfR_mem hr hL).1 hx)).1
 have:=whole_box this
 exact ⟨by omega,by omega⟩
theorem flat_next {L:List Int} {i:Nat} (h:i < L.length):(L.take (i+1)).flatMap kidRow=(L.take i).flatMap kidRow++kidRow L[i]:=by
 rw [List.take_succ_eq_append_getElem h,List.flatMap_append]
 simp
theorem flat_len:∀ L:List Int,(L.flatMap kidRow).length=7*L.length
 | []=>rfl
 | a :: L=>by rw [List.flatMap_cons,List.length_append,flat_len L,kidRow_len,List.length_cons];omega
theorem kidL_vals (y:Int):kidL y 7=vals (kidRow y):=by unfold kidL vals kidRow;rw [List.map_map];rfl
theorem rs_zero {L:List Int} {r z:Int} (h:SizeT L r z 0):∃ n:Nat,r=(n:Int)∧n≤12∧WithinR n L∧z=cntR n L∧z≤1099511627776:=by
 rcases h with ⟨_,_,h⟩ | ⟨_,_,_,h⟩ | ⟨_,_,_,_,h⟩ | ⟨n,h1,h2,h3,h4⟩
 · omega
 · omega
 · omega
 · rcases h4 with ⟨_,_,h⟩ | ⟨h5,h6,_⟩
   · omega
   · exact ⟨n,h1,h2,h3,h6,by omega⟩
def TellsRS (C:Nat) (L:List Int) (r:Int) (e:Ending) (w':World):Prop :=
 ∃ z t,SizeT L r z t∧((t≠0∧e=.returned (.tuple #[.slice none 0 0,.int .i64 t]))∨(t=0∧20000 < z∧e=.returned (.tuple #[.slice none 0 0,.int .i64 7])) ∨
  (t=0∧z≤20000∧∃ m:Nat,r=(m:Int)∧∃ (sl:Value) (K:List Int),e=.returned (.tuple #[sl,.int .i64 0])∧Rising K∧(∀ x,x∈K↔x∈kinR m L)∧K.length≤20000∧w'.ownsRow C 30 1 sl K.length (vals K)))
set_option maxHeartbeats 8000000 in
set_option maxRecDepth 20000 in
theorem r_spread (s:Value) (L:List Int) (r:Int) (hr: -9223372036854775808≤r∧r≤9223372036854775807) (hn:L.length≤50000) (uL:∀ x∈L,U64 x) (w:World) (hl:Lst w s L) :
 Calls Tryz.prog 23 #[s,.int .i64 r] w fun e w'=>TellsRS w.heap.size L r e w'∧Below w.heap.size w w':=by
 have SZ:=hidd (r_size s L r hr hn uL w hl)
 obtain ⟨p,cap,hs,-,hc⟩:=hl
 obtain ⟨n,en⟩:∃ n,L.length=n:=⟨_,rfl⟩
 have EN:=hidd en
 rw [en] at hs hn
 subst hs
 have HC:=hidd hc
 clear uL en hc
 go_enter Tryz.func23,Tryz.ntmps23
 go_wp2_with fail
 refine SZ.out.mono ?_
 rintro e w1 ⟨⟨z,t,rfl,hz⟩,b1⟩
 have HZ:=hidd hz
 have B1:=hidd b1
 clear SZ b1 hz
 by_cases ht:t=0
 · subst ht
   obtain ⟨m,rfl,hm,hW,hzc,hz40⟩:=rs_zero HZ.out
   have WI:=hidd hW
   have ZC:=hidd hzc
   have hz0:0≤z:=by have:=cntR_pos m L;omega
   clear hW hzc
   by_cases hmany:20000 < z
   · go_wp2
     go_ret2
     exact ⟨⟨z,0,HZ.out,.inr (.inl ⟨rfl,hmany,rfl⟩)⟩,B1.out⟩
   · have hmany':decide (20000 < z)=false:=df hmany
     have hz2:z≤20000:=by omega
     obtain ⟨i0,hi,hz0',hz1,hz2'⟩:=info_parts infoU64
     clear hmany
     go_wp2_with fail
     go_loopw [8,9] (fun v8 v9 wr=>∃ (i c:Nat),i≤n∧v9=.int .i64 (i:Int)∧c≤20000∧Hid (c=(bfR m (L.take i)).length)∧Hid (wr.ownsRow w.heap.size 30 1 v8 c (vals (bfR m (L.take i))))∧Hid (Below w.heap.size w wr)) (fun _ v9 _=>n - (intOf v9).toNat)
     case atStart=>exact ⟨0,0,by omega,rfl,by omega,hidd (by simp [bfR]),hidd (by simpa [bfR,vals] using World.ownsRow_nil _ _ _ _),B1⟩
     case round =>
      clear B1
      obtain ⟨i,c,hi',rfl,hc2,hcl,hO,hB⟩:=hrel
      have hsr:=hB.out.size
      by_cases hlt:i < n
      · have hiL:i < L.length:=by rw [EN.out];exact hlt
        obtain ⟨g,o,rfl,x1⟩:=HC.out i hiL
        have hgo:=World.block_lt_of_cell? _ _ x1
        replace x1:=keepCell hB.out x1
        have hwi:=WI.out _ (List.getElem_mem hiL)
        have hbx:=wR_box L[i]
        have X1:=size_mask hwi.1
        have hNX:=hidd (bfR_next m hiL)
        have hCN:=hidd (cntR_next m hiL)
        obtain ⟨K,hK⟩:∃ K:Nat,m - (wR L[i]).toNat=K:=⟨_,rfl⟩
        obtain ⟨q,hq⟩:∃ q:Nat,wR L[i]=(q:Int):=⟨(wR L[i]).toNat,by omega⟩
        have hqK:q+K=m:=by omega
        rw [hK] at hNX hCN
        rw [hq] at X1
        have hle:=cntR_take m L (i+1)
        have h7:((c+7^K:Nat):Int)≤20000:=by
         have e1:=bfR_len m (L.take i)
         have e2:=hCN.out
         have e3:=hcl.out
         have e4:=ZC.out
         push_cast
         omega
        have u:=whole_box hwi.1
        have HWX:=hidd hwi.1
        have HQ:=hidd hq
        clear hwi hbx hCN hK hq hle
        generalize L[i]'_=x at *
        obtain ⟨X,eX⟩:∃ X,x / 72057594037927936=X:=⟨_,rfl⟩
        rw [eX] at X1
        have hO1:Hid ((wr.alloc (.cells #[.int .u64 x] 30)).ownsRow wr.heap.size 30 1 (.slice (some ⟨wr.heap.size,0,none⟩) 1 1) 1 (vals [x])):=hidd (World.ownsRow_lit _ #[.int .u64 x] 1 (Nat.le_refl _) (by unfold maxLen;omega) rfl)
        have hA:=allocB wr (.cells #[.int .u64 x] 30)
        have x2:=keepCell hA x1
        obtain ⟨pv,cv,rfl,-⟩:=own_slice hO.out
        have h7m:Hid (∀ k,k≤K→7^k≤20000):=hidd fun k hk=>by
         have h1:7^k≤7^K:=Nat.pow_le_pow_right (by omega) hk
         omega
        go_wp2_with fail
        obtain ⟨wi,rfl⟩:∃ z,z=wr:=⟨_,rfl⟩
        go_loopw [10,11] (fun v10 v11 w2=>∃ (k r' e:Nat),k≤K∧v11=.int .i64 (r':Int)∧Hid (r'=q+k)∧e≤20000∧Hid (e=7^k)∧Hid (w2.ownsRow wi.heap.size 30 1 v10 e (vals (bf k x)))∧Hid (Below wi.heap.size wi w2)) (fun _ v11 _=>m - (intOf v11).toNat)
        case atStart=>exact ⟨0,q,1,by omega,rfl,hidd (by omega),by omega,hidd rfl,hO1,hidd hA⟩
        case round =>
         clear hO1 hA x2 x1
         obtain ⟨k,r',e,hk,rfl,hr',he,h7k,hN,hX⟩:=hrel
         have hXs:=hX.out.size
         have hNlen:Hid ((bf k x).length=e):=hidd (by rw [bf_len,h7k.out])
         by_cases hkK:k < K
         · have hrm:(r':Int) < (m:Int):=by have:=hr'.out;omega
           have hr1:(r':Int)+1≤12:=by omega
           have he0:0 < e:=by have:=h7k.out;have:0 < 7^k:=Nat.pow_pos (by omega);omega
           obtain ⟨gn,cn,rfl⟩:=own_shape hN.out he0
           obtain ⟨wk,rfl⟩:∃ z,z=wr:=⟨_,rfl⟩
           go_wp2_with fail
           go_loopw [12,13] (fun v12 v13 w3=>∃ (j f:Nat),j≤e∧v13=.int .i64 (j:Int)∧f≤140000∧Hid (f=7*j)∧Hid (w3.ownsRow wk.heap.size 30 1 v12 f (vals (((bf k x).take j).flatMap kidRow)))∧Hid (Below wk.heap.size wk w3)) (fun _ v13 _=>e - (intOf v13).toNat)
           case atStart=>exact ⟨0,0,by omega,rfl,by omega,hidd rfl,hidd (by simpa [vals] using World.ownsRow_nil _ _ _ _),hidd (Below.refl _ _)⟩
           case round =>
            obtain ⟨j,f,hj,rfl,hf1,hf,hO3,hX3⟩:=hrel
            have hX3s:=hX3.out.size
            by_cases hje:j < e
            · have hjL:j < (bf k x).length:=by rw [hNlen.out];exact hje
              have cy0:=(own_cells hN.out).2.1 j hjL
              have cy:=keepCell hX3.out cy0
              have hmy:=(mem_bf k HWX.out (by rw [HQ.out];omega)).1 (List.getElem_mem hjL)
              have hfn:=hidd (flat_next hjL)
              have KY:=hidd fun w=>rkidsW (bf k x)[j] hmy.1 (by rw [hmy.2.1,HQ.out];omega) w
              have uy:=whole_box hmy.1
              clear hmy cy0
              generalize (bf k x)[j]'_=y at *
              obtain ⟨p3,c3,rfl,-⟩:=own_slice hO3.out
              go_wp2_with fail
              refine (KY.out _).mono ?_
              rintro e4 w4 ⟨⟨gk,ck,rfl,hck⟩,d4⟩
              have hX4:=hidd (hX3.out.trans (d4.mono hX3s))
              have hX4s:=hX4.out.size
              have hO4:=hidd (own_keep d4 hO3.out)
              have hk4:=hidd (kidL_lies hck)
              clear hck d4 hX3 hO3 cy KY
              go_wp2_with (at_builtin;refine wpList_append_own _ rfl (.tmp 54) (.tmp 59) 24 rfl wk.heap.size 30 i0 (.int .u64 0) 1 8 Tryz.underlying24 hi hz0' hz1 hz2' rfl (by decide) _ _ _ rfl hO4.out ⟨gk,0,none⟩ 7 ck (kidL y 7) rfl (kidL_len y 7) hk4.out (kidL_one y) (by unfold maxLen;omega) (by omega) (by omega) ?_)
              intro v' w5 hown hgrow _
              have hX5:=hidd (hX4.out.grown hgrow hX4s (own_block hO4.out))
              have hO5:Hid (w5.ownsRow wk.heap.size 30 1 v' (f+7) (vals (((bf k x).take (j+1)).flatMap kidRow))):=hidd (by
               rw [hfn.out]
               have e1:vals (((bf k x).take j).flatMap kidRow++kidRow y)=vals (((bf k x).take j).flatMap kidRow)++kidL y 7:=by rw [kidL_vals];simp [vals]
               rw [e1];exact hown)
              clear hown hgrow hO4 hX4 hk4
              go_wp2
              go_roundw
              case rel=>exact ⟨j+1,f+7,by omega,by go_num,by have:=hf.out;omega,hidd (by have:=hf.out;omega),hO5,hX5⟩
              case measure=>simp [intOf];omega
            · obtain rfl:j=e:=by omega
              have eall:(bf k x).take j=bf k x:=List.take_of_length_le (by rw [hNlen.out];omega)
              rw [eall] at hO3
              have hN5:Hid (wr.ownsRow wi.heap.size 30 1 u12 f (vals (bf (k+1) x))):=hidd (own_mono hO3.out hXs)
              have h7k5:Hid (f=7^(k+1)):=hidd (by rw [hf.out,h7k.out,Nat.pow_succ];omega)
              have hX5:=hidd (hX.out.trans (hX3.out.mono hXs))
              have hf2:f≤20000:=by have:=h7m.out (k+1) (by omega);have:=h7k5.out;omega
              clear hO3 hX3 hN hX eall hje hNlen h7k
              go_wp2
              go_roundw
              case rel=>exact ⟨k+1,r'+1,f,by omega,by go_num,hidd (by have:=hr'.out;omega),hf2,h7k5,hN5,hX5⟩
              case measure=>simp [intOf];omega
         · obtain rfl:k=K:=by omega
           obtain rfl:r'=m:=by have:=hr'.out;omega
           have hrm:decide (r' < r')=false:=by simp
           have he0:0 < e:=by have:=h7k.out;have:0 < 7^k:=Nat.pow_pos (by omega);omega
           obtain ⟨gn,cn,rfl⟩:=own_shape hN.out he0
           have hO2:=hidd (own_keep hX.out hO.out)
           have hB2:=hidd (belowT hB.out hX.out)
           have hNL:=hidd (own_lies hN.out)
           have he7:c+e≤20000:=by have:=h7k.out;omega
           have hs2:=hB2.out.size
           clear hN hX hkK
           go_wp2_with (at_builtin;refine wpList_append_own _ rfl (.tmp 62) (.tmp 63) 24 rfl w.heap.size 30 i0 (.int .u64 0) 1 8 Tryz.underlying24 hi hz0' hz1 hz2' rfl (by decide) _ _ _ rfl hO2.out ⟨gn,0,none⟩ e cn (vals (bf k x)) rfl (by rw [vals_len,hNlen.out];omega) hNL.out (vals_one _) (by unfold maxLen;omega) (by omega) (by omega) ?_)
           intro v' w5 hown hgrow _
           have hB5:=hidd (hB2.out.grown hgrow hs2 (own_block hO2.out))
           have hO5:Hid (w5.ownsRow w.heap.size 30 1 v' (c+e) (vals (bfR r' (L.take (i+1))))):=hidd (by
            rw [hNX.out]
            have e1:vals (bfR r' (L.take i)++bf k x)=vals (bfR r' (L.take i))++vals (bf k x):=by simp [vals]
            rw [e1];exact hown)
           have hcl5:Hid (c+e=(bfR r' (L.take (i+1))).length):=hidd (by rw [hNX.out,List.length_append,← hcl.out,hNlen.out])
           clear hown hgrow hO2 hNL hB2 hNlen
           go_wp2
           go_roundw
           case rel=>exact ⟨i+1,c+e,by omega,by go_num,he7,hcl5,hO5,hB5⟩
           case measure=>simp [intOf];omega
      · obtain rfl:i=n:=by omega
        have eall:L.take i=L:=List.take_of_length_le (by rw [EN.out];omega)
        rw [eall] at hcl hO
        have hL2:=Lst.own hO.out
        obtain ⟨p8,c8,e8,-,hc8⟩:=hL2
        have hcl2:(bfR m L).length≤20000:=by rw [← hcl.out];omega
        have CS:=hidd (lset_all (bfR m L) _ rfl hcl2 (bfR_u64 hm WI.out) p8 c8 wr hc8)
        rw [← e8] at CS
        clear e8 hc8
        have hsz8:=hidd hB.out.size
        have BB:=hidd hB.out
        clear hO hB eall hlt
        go_wp2_with fail
        refine CS.out.mono ?_
        rintro e w2 ⟨⟨v,K,rfl,k1,k2,k3,k4⟩,b2⟩
        have FN:=hidd (And.intro k1 (And.intro k2 (And.intro k3 k4)))
        have B2:=hidd (belowT BB.out b2)
        obtain ⟨pk,ck,rfl,-⟩:=own_slice k4
        clear k1 k2 k3 k4 b2 CS BB
        go_wp2
        go_ret2
        exact ⟨⟨z,0,HZ.out,.inr (.inr ⟨rfl,hz2,m,rfl,_,K,rfl,FN.out.1,fun x=>by rw [FN.out.2.1 x,bfR_mem hm WI.out],by have:=FN.out.2.2.1;omega,own_mono FN.out.2.2.2 hsz8.out⟩)⟩,B2.out⟩
 · have ht':(t != 0)=true:=by simp [ht]
   have HTt:=hidd ht
   clear ht
   go_wp2
   go_ret2
   exact ⟨⟨z,t,HZ.out,.inl ⟨HTt.out,rfl⟩⟩,B1.out⟩
end Go.Proofs.YtlfjfendlohekaaGreatDoor
