/-
  What the texts FSet, KBsA, FCode, FGroup say, so far as this seat's proofs need it.
-/
import Derived.Test.YtbnlhdnnenahfaaGreatDoorK3M
import Derived.Test.YtbnlhdnnenahfaaGreatDoorFXM
import Derived.Test.YtbnlhdnnenahfaaGreatDoorN3M
namespace Go.Proofs.YtbnlhdnnenahfaaGreatDoor
open Go.RowKit
def nbL (x:Int):List Int:=wordsAt (wR x).toNat (cellA x) (cellB x) (rngP 1)
def opB (L:List Int) (x:Int):Bool:=decide ((nbL x).length < 6) || (nbL x).any fun y=> !decide (y∈L)
def NbS (x:Int) (N:List Int):Prop:=N.Nodup∧∀ y,y∈N↔y∈nbL x
theorem nb_rows {x:Int} {N:List Int} (hN:Rows (wR x).toNat (cellA x) (cellB x) (rngP 1) N):NbS x N:=⟨rising_nodup hN.2,fun _=>hN.1.mem_iff⟩
theorem nbL_nodup (x:Int):(nbL x).Nodup:=wordsAt_nodup _ _ (by decide)
theorem nb_size {x:Int} {N:List Int} (hN:NbS x N):N.length=(nbL x).length:=nodup_same hN.1 (nbL_nodup x) hN.2
theorem opB_of {L N:List Int} {x:Int} (hN:NbS x N):opB L x=(decide (N.length < 6) || N.any fun y=> !decide (y∈L)):=by
 unfold opB
 rw [nb_size hN]
 congr 1
 refine Bool.eq_iff_iff.2 ?_
 rw [List.any_eq_true,List.any_eq_true]
 exact ⟨fun ⟨y,h1,h2⟩=>⟨y,(hN.2 y).2 h1,h2⟩,fun ⟨y,h1,h2⟩=>⟨y,(hN.2 y).1 h1,h2⟩⟩
theorem nb_len {x:Int} {N:List Int} (hN:NbS x N):N.length≤6:=by
 rw [nb_size hN]
 exact wordsAt_len _ _ _ _
theorem cnt_some {L:List Int}:∀ {N:List Int},(N.any fun y=> !decide (y∈L))=true→(N.filter fun y=>decide (y∈L)).length < N.length
 | y :: N,h=>by
  have hl:=List.length_filter_le (fun y=>decide (y∈L)) N
  rw [List.filter_cons,List.length_cons]
  by_cases c:y∈L
  · rw [List.any_cons] at h
    simp only [c,decide_true,Bool.not_true,Bool.false_or] at h
    have:=cnt_some h
    simp only [c,decide_true,if_true,List.length_cons]
    omega
  · simp only [c,decide_false,Bool.false_eq_true,if_false]
    omega
theorem cnt_all {L:List Int} {N:List Int} (h:(N.any fun y=> !decide (y∈L))=false):(N.filter fun y=>decide (y∈L)).length=N.length:=by
 rw [List.filter_eq_self.2]
 intro y hy
 rw [List.any_eq_false] at h
 have:=h y hy
 simpa using this
theorem opB_cnt {L N:List Int} {x:Int} (hN:NbS x N):opB L x=decide ((N.filter fun y=>decide (y∈L)).length < 6):=by
 rw [opB_of hN]
 have h6:=nb_len hN
 have hl:=List.length_filter_le (fun y=>decide (y∈L)) N
 cases c:N.any fun y=> !decide (y∈L)
 · rw [cnt_all c,Bool.or_false]
 · have:=cnt_some c
   rw [Bool.or_true]
   exact (decide_eq_true (by omega)).symm
end Go.Proofs.YtbnlhdnnenahfaaGreatDoor
namespace Go.Proofs.YtbnlhdnnenahfaaGreatDoor
section
open Go.RowKit
theorem bs_lt {x y:Int} (h:Sort.ltInt x y=true):x < y:=by simpa [Sort.ltInt] using h
theorem bs_ge {x y:Int} (h:Sort.ltInt x y=false):y≤x:=by simp [Sort.ltInt] at h;omega
theorem u_isnan (x:Int) (w:World):Calls Tryz.prog 159 #[.int .u64 x] w fun e w'=>e=.returned (.bool false)∧w'=w:=by
 go_enter Tryz.func159,Tryz.ntmps159
 go_wp2
 go_ret
 exact ⟨by simp,rfl⟩
set_option maxHeartbeats 4000000 in
set_option maxRecDepth 20000 in
theorem u_bsearchA (s:Value) (L:List Int) (x:Int) (hR:Rising L) (hn:L.length≤100000) (w:World) (h1:Lst w s L) :
 Calls Tryz.prog 109 #[s,.int .u64 x] w fun e w'=>(∃ k:Int,e=.returned (.tuple #[.int .i64 k,.bool (decide (x∈L))]))∧w'=w:=by
 obtain ⟨p,c,rfl,-,hp⟩:=h1
 obtain ⟨n,en⟩:∃ n,L.length=n:=⟨_,rfl⟩
 have HP:=hidd hp
 have EN:=hidd en
 have HR:=hidd hR
 rw [en] at hn ⊢
 clear hp en hR
 go_enter Tryz.func109,Tryz.ntmps109
 go_wp2_with fail
 go_loopw [7,8] (fun v7 v8 wr=>∃ lo hi:Nat,lo≤hi∧hi≤n∧v7=.int .i64 (lo:Int)∧v8=.int .i64 (hi:Int)∧Hid (Seek L x lo hi)∧wr=w) (fun v7 v8 _=>(intOf v8 - intOf v7).toNat)
 case atStart=>exact ⟨0,n,by omega,by omega,rfl,rfl,hidd ⟨fun t ht hl=>by omega,fun t ht hl=>by have:=EN.out;omega⟩,rfl⟩
 case round =>
  obtain ⟨lo,hi,h1,h2,rfl,rfl,hS,rfl⟩:=hrel
  by_cases hlh:lo < hi
  · obtain ⟨mid,hmid⟩:∃ mid,(lo+hi) / 2=mid:=⟨_,rfl⟩
    have m1:lo≤mid:=by omega
    have m2:mid < hi:=by omega
    have m3:mid < n:=by omega
    have em:((lo:Int)+(hi:Int)) / 2=(mid:Int):=by omega
    clear hmid
    have hmL:mid < L.length:=by rw [EN.out];exact m3
    obtain ⟨g,o,rfl,cy⟩:=HP.out mid hmL
    have hUp:=hidd (fun h=>hS.out.up HR.out hmL h)
    have hDn:=hidd (fun h=>hS.out.down HR.out hmL h)
    generalize L[mid]=y at *
    have hlh':(lo:Int) < (hi:Int):=by omega
    cases hq:Sort.ltInt y x
    · have LS:=hidd (u_less y x wr)
      rw [hq] at LS
      have hq':=hidd (bs_ge hq)
      clear hq
      go_wp2_with fail
      refine LS.out.mono ?_
      rintro e w1 ⟨rfl,rfl⟩
      clear LS
      go_wp2_with fail
      go_roundw
      case rel=>exact ⟨lo,mid,by omega,by omega,rfl,rfl,hidd (hDn.out hq'.out),trivial⟩
      case measure=>simp [intOf];omega
    · have LS:=hidd (u_less y x wr)
      rw [hq] at LS
      have hq':=hidd (bs_lt hq)
      clear hq
      go_wp2_with fail
      refine LS.out.mono ?_
      rintro e w1 ⟨rfl,rfl⟩
      clear LS
      go_wp2_with fail
      go_roundw
      case rel=>exact ⟨mid+1,hi,by omega,by omega,by go_num,rfl,hidd (hUp.out hq'.out),trivial⟩
      case measure=>simp [intOf];omega
  · obtain rfl:lo=hi:=by omega
    have hlh':decide ((lo:Int) < (lo:Int))=false:=by simp
    by_cases hln:lo < n
    · have hmL:lo < L.length:=by rw [EN.out];exact hln
      obtain ⟨g,o,rfl,cy⟩:=HP.out lo hmL
      have hD:Hid (decide (x∈L)=(L[lo] == x)):=by
       refine hidd ?_
       by_cases e:L[lo]=x
       · rw [decide_eq_true (e ▸ List.getElem_mem hmL)];simp [e]
       · rw [decide_eq_false]
         · simp [e]
         · intro hm
           obtain ⟨t,ht,et⟩:=List.mem_iff_getElem.1 hm
           rcases Nat.lt_or_ge t lo with k | k
           · have:=hS.out.1 t ht k;omega
           · have h3:=hS.out.2 lo hmL (Nat.le_refl _)
             have h4:=rise_le HR.out hmL ht k
             omega
      have hln':(lo:Int) < (n:Int):=by omega
      generalize L[lo]=y at *
      clear hS HP HR EN
      cases hyx:(y == x)
      · rw [hyx] at hD
        have N1:=hidd fun w=>u_isnan y w
        go_wp2_with fail
        refine (N1.out _).mono ?_
        rintro e w1 ⟨rfl,rfl⟩
        go_wp2_with fail
        go_ret2
        exact ⟨⟨_,by rw [hD.out];rfl⟩,rfl⟩
      · rw [hyx] at hD
        go_wp2_with fail
        go_ret2
        exact ⟨⟨_,by rw [hD.out];rfl⟩,rfl⟩
    · have hD:Hid (decide (x∈L)=false):=by
       refine hidd (decide_eq_false fun hm=>?_)
       obtain ⟨t,ht,et⟩:=List.mem_iff_getElem.1 hm
       have:=hS.out.1 t ht (by rw [EN.out] at ht;omega)
       omega
      have hln':decide ((lo:Int) < (n:Int))=false:=df (by omega)
      have hln2:decide (lo < n)=false:=df (by omega)
      clear hS HP HR EN
      go_wp2_with fail
      go_ret2
      exact ⟨⟨_,by rw [hD.out];rfl⟩,rfl⟩
end
end Go.Proofs.YtbnlhdnnenahfaaGreatDoor
namespace Go.Proofs.YtbnlhdnnenahfaaGreatDoor
open Go.RowKit
set_option maxHeartbeats 4000000 in
set_option maxRecDepth 20000 in
theorem f_lacks (s:Value) (L:List Int) (x:Int) (hR:Rising L) (hn:L.length≤20000) (w:World) (hl:Lst w s L) :
 Calls Tryz.prog 68 #[s,.int .u64 x] w fun e w'=>e=.returned (.bool (!decide (x∈L)))∧Below w.heap.size w w':=by
 have BS:=hidd (u_bsearchA s L x hR (by omega) w hl)
 clear hl hR hn
 generalize decide (x∈L)=t at *
 go_enter Tryz.func68,Tryz.ntmps68
 go_wp2_with fail
 refine BS.out.mono ?_
 rintro e w1 ⟨⟨k,rfl⟩,rfl⟩
 clear BS
 go_wp2_with fail
 go_ret
 exact ⟨rfl,Below.refl _ _⟩
theorem any_stepF {f:Int→Bool} {L:List Int} {j:Nat} (hj:j < L.length) (h:(L.take j).any f=false):(f L[j]=true→L.any f=true)∧(f L[j]=false→(L.take (j+1)).any f=false):=by
 constructor
 · intro k
   exact List.any_eq_true.2 ⟨_,List.getElem_mem hj,k⟩
 · intro k
   rw [List.take_add_one,List.getElem?_eq_getElem hj,List.any_append,h]
   simpa using k
set_option maxHeartbeats 8000000 in
set_option maxRecDepth 20000 in
theorem f_index (s:Value) (L:List Int) (hR:Rising L) (hn:L.length≤20000) (v:Value) (N:List Int) (hm:N.length≤1000) (w:World) (hl:Lst w s L) (h:RowAt 0 w v N) :
 Calls Tryz.prog 108 #[v,.func (.func 68) #[s] #[]] w fun e w'=>(∃ k:Int,e=.returned (.int .i64 k)∧decide (0≤k)=N.any fun y=> !decide (y∈L))∧Below w.heap.size w w':=by
 have LK:=hidd fun x w h=>f_lacks s L x hR hn w h
 have HL:=hidd hl
 obtain ⟨p,c,rfl,hp⟩:=h.form
 obtain ⟨n,en⟩:∃ n,N.length=n:=⟨_,rfl⟩
 have EN:=hidd en
 have HP:=hidd hp
 rw [en] at hm ⊢
 obtain ⟨ps,cs,rfl,-,-⟩:=hl
 obtain ⟨f,ef⟩:∃ f:Int→Bool,(fun y=> !decide (y∈L))=f:=⟨_,rfl⟩
 have LK2:Hid (∀ x w,Lst w (.slice ps L.length cs) L→Calls Tryz.prog 68 #[.slice ps L.length cs,.int .u64 x] w fun e w'=>e=.returned (.bool (f x))∧Below w.heap.size w w'):=hidd fun x w h=>by rw [← ef];exact LK.out x w h
 rw [ef]
 clear hp h en hR hn LK ef
 generalize L.length=ll at *
 go_enter Tryz.func108,Tryz.ntmps108
 go_wp2
 go_loopw [8] (fun v8 wr=>∃ j:Nat,j≤n∧v8=.int .i64 (j:Int)∧Hid ((N.take j).any f=false)∧Hid (Below w.heap.size w wr)) (fun v8 _=>n - (intOf v8).toNat)
 case atStart=>exact ⟨0,by omega,rfl,hidd (by simp),hidd (Below.refl _ _)⟩
 case round =>
  obtain ⟨j,hj,rfl,TK,B⟩:=hrel
  by_cases hjn:j < n
  · have hj':(j:Int) < (n:Int):=by omega
    have hjL:j < N.length:=by rw [EN.out];exact hjn
    obtain ⟨g,rfl,y0⟩:=HP.out j hjL
    replace y0:=keepCell B.out y0
    have K1:=hidd (LK2.out N[j] wr (HL.out.keep B.out))
    have ST:=hidd (any_stepF (f:=f) hjL TK.out)
    clear LK2
    generalize N[j]=y at *
    generalize f y=t at *
    cases t
    · go_wp2_with fail
      refine K1.out.mono ?_
      rintro r w1 ⟨rfl,b1⟩
      have B1:=hidd (belowT B.out b1)
      clear y0 K1 b1
      go_wp2
      go_roundw
      case rel=>exact ⟨j+1,by omega,by go_num,hidd (ST.out.2 (by simp)),B1⟩
      case measure=>simp [intOf];omega
    · go_wp2_with fail
      refine K1.out.mono ?_
      rintro r w1 ⟨rfl,b1⟩
      have B1:=hidd (belowT B.out b1)
      clear y0 K1 b1
      go_wp2
      go_ret
      exact ⟨⟨_,rfl,by rw [ST.out.1 (by simp)];simp⟩,B1.out⟩
  · obtain rfl:j=n:=by omega
    have hj':decide ((j:Int) < (j:Int))=false:=by simp
    have e:N.any f=false:=by have:=TK.out;rwa [List.take_of_length_le (by rw [EN.out];omega)] at this
    have E:=hidd e
    clear e TK
    go_wp2
    go_ret
    exact ⟨⟨_,rfl,by rw [E.out];rfl⟩,B.out⟩
set_option maxHeartbeats 4000000 in
set_option maxRecDepth 20000 in
theorem f_some (s:Value) (L:List Int) (hR:Rising L) (hn:L.length≤20000) (v:Value) (N:List Int) (hm:N.length≤1000) (w:World) (hl:Lst w s L) (h:RowAt 0 w v N) :
 Calls Tryz.prog 67 #[v,.func (.func 68) #[s] #[]] w fun e w'=>e=.returned (.bool (N.any fun y=> !decide (y∈L)))∧Below w.heap.size w w':=by
 have QI:=hidd (f_index s L hR hn v N hm w hl h)
 obtain ⟨p,c,rfl,-⟩:=h.form
 obtain ⟨ps,cs,rfl,-,-⟩:=hl
 clear h hR hn
 generalize (N.any fun y=> !decide (y∈L))=t at *
 generalize N.length=ln at *
 generalize L.length=ll at *
 go_enter Tryz.func67,Tryz.ntmps67
 go_wp2_with fail
 refine QI.out.mono ?_
 rintro r w1 ⟨⟨n,rfl,hd⟩,b1⟩
 have HD:=hidd hd
 clear hd QI
 go_wp2
 go_ret
 exact ⟨by rw [← HD.out];rfl,b1⟩
set_option maxHeartbeats 4000000 in
set_option maxRecDepth 20000 in
theorem f_open (s:Value) (L:List Int) (hR:Rising L) (hn:L.length≤20000) (x:Int) (hx:Whole x) (w:World) (hl:Lst w s L) (hT:Tabs w) :
 Calls Tryz.prog 41 #[s,.int .u64 x] w fun e w'=>e=.returned (.bool (opB L x))∧Below w.heap.size w w':=by
 have NE:=hidd (nneigh_yes x hx w hT)
 have SO:=hidd fun v N hm w h1 h2=>f_some s L hR hn v N hm w h1 h2
 have HL:=hidd hl
 obtain ⟨ps,cs,rfl,-,-⟩:=hl
 have OB:=hidd fun N (hN:NbS x N)=>opB_of (L:=L) hN
 have NL:=hidd fun N (hN:NbS x N)=>nb_len hN
 clear hR hn hT
 obtain ⟨ll,el⟩:∃ ll,L.length=ll:=⟨_,rfl⟩
 rw [el] at SO HL ⊢
 clear el
 generalize opB L x=t at *
 go_enter Tryz.func41,Tryz.ntmps41
 go_wp2_with fail
 refine NE.out.mono ?_
 rintro r w1 ⟨⟨N,⟨v,rfl,hv⟩,hN⟩,b1⟩
 have h6:=NL.out N (nb_rows hN)
 have OB1:=hidd (OB.out N (nb_rows hN))
 have S1:=hidd (SO.out v N (by omega) w1 (HL.out.keep b1) (hv.mono (Nat.zero_le _)))
 have B1:=hidd b1
 obtain ⟨p,c,rfl,-⟩:=hv.form
 obtain ⟨n,en⟩:∃ n,N.length=n:=⟨_,rfl⟩
 rw [en] at h6 OB1 S1 ⊢
 clear NE SO OB NL hN b1 hv en
 generalize (N.any fun y=> !decide (y∈L))=q at *
 by_cases h5:n < 6
 · have h5':(n:Int) < 6:=by omega
   have hd:decide ((n:Int) < 6)=true:=decide_eq_true h5'
   obtain rfl:t=true:=by rw [OB1.out,decide_eq_true h5,Bool.true_or]
   clear OB1 S1
   go_wp2_with fail
   go_ret
   exact ⟨rfl,B1.out⟩
 · have hd:decide ((n:Int) < 6)=false:=decide_eq_false (by omega)
   obtain rfl:t=q:=by rw [OB1.out,decide_eq_false h5,Bool.false_or]
   clear OB1
   go_wp2_with fail
   refine S1.out.mono ?_
   rintro r w2 ⟨rfl,b2⟩
   have B2:=hidd (belowT B1.out b2)
   clear S1 b2
   go_wp2_with fail
   go_ret
   exact ⟨rfl,B2.out⟩
def AskedO (v:Value) (f:Int→Bool) (L:List Int) (W:World):Prop:=∀ x∈L,∀ w,Below W.heap.size W w→Calls Tryz.prog 41 #[v,.int .u64 x] w fun e w'=>e=.returned (.bool (f x))∧Below w.heap.size w w'
set_option maxHeartbeats 8000000 in
set_option maxRecDepth 20000 in
theorem f_keepO (v:Value) (f:Int→Bool) (s:Value) (L:List Int) (hn:L.length≤40000) (w:World) (hv:AskedO v f L w) (h:RowAt 0 w s L) :
 Calls Tryz.prog 29 #[s,.func (.func 41) #[v] #[]] w fun e w'=>(∃ v,e=.returned v∧w'.ownsRow w.heap.size 35 1 v (L.filter f).length (vals (L.filter f)))∧Below w.heap.size w w':=by
 obtain ⟨p,cap,rfl,hp⟩:=h.form
 obtain ⟨n,en⟩:∃ n,L.length=n:=⟨_,rfl⟩
 have EN:=hidd en
 have HP:=hidd hp
 have HV:=hidd hv
 obtain ⟨i0,hi,hz0,hz1,hz2⟩:=info_parts infoU64
 rw [en] at hn ⊢
 clear hp h en hv
 go_enter Tryz.func29,Tryz.ntmps29
 go_wp2_with fail
 go_loopw [5,10] (fun v5 v10 wr=>∃ (i:Nat) (M:List Int),i≤n∧v10=.int .i64 (i:Int)∧Hid (M=(L.take i).filter f)∧M.length≤i∧Hid (wr.ownsRow w.heap.size 35 1 v5 M.length (vals M))∧Hid (Below w.heap.size w wr)) (fun _ v10 _=>n - (intOf v10).toNat)
 case atStart=>exact ⟨0,[],by omega,rfl,hidd rfl,by simp,hidd (World.ownsRow_nil _ _ _ _),hidd (Below.refl _ _)⟩
 case round =>
  obtain ⟨i,M,hin,rfl,hM,hMl,hO,hB⟩:=hrel
  obtain ⟨p7,c7,rfl,-⟩:=own_slice hO.out
  by_cases hlt:i < n
  · have hlt':(i:Int) < (n:Int):=by omega
    obtain ⟨g,rfl,x1⟩:=HP.out i (by rw [EN.out];exact hlt)
    have hiL:i < L.length:=by rw [EN.out];exact hlt
    replace x1:=keepCell hB.out x1
    have SN:Hid ((L.take (i+1)).filter f=M++(if f L[i] then [L[i]] else [])):=hidd (by
     rw [List.take_succ_eq_append_getElem hiL,List.filter_append,← hM.out]
     congr 1
     rw [List.filter_cons]
     split <;>simp)
    have AS:=hidd (HV.out _ (List.getElem_mem hiL) wr hB.out)
    clear hM HV
    generalize L[i]=x at *
    generalize f x=cb at *
    cases cb
    · have SN2:Hid (M=(L.take (i+1)).filter f):=hidd (by rw [SN.out];simp)
      clear SN
      go_wp2_with fail
      refine AS.out.mono ?_
      rintro e w4 ⟨rfl,b4⟩
      have O4:=hidd (own_keep b4 hO.out)
      have B4:=hidd (hB.out.trans (b4.mono hB.out.size))
      clear AS b4 hO hB x1
      go_wp2_with fail
      go_roundw
      case rel=>exact ⟨i+1,M,by omega,by go_num,SN2,by omega,O4,B4⟩
      case measure=>simp [intOf];omega
    · have SN2:Hid (M++[x]=(L.take (i+1)).filter f):=hidd (by rw [SN.out];rfl)
      clear SN
      go_wp2_with fail
      refine AS.out.mono ?_
      rintro e w4 ⟨rfl,b4⟩
      have O4:=hidd (own_keep b4 hO.out)
      have B4:=hidd (hB.out.trans (b4.mono hB.out.size))
      have hs4:=B4.out.size
      clear AS b4 hO hB x1
      go_wp2_with (at_builtin;refine wpList_append_own _ rfl (.tmp 17) (.tmp 19) 22 rfl w.heap.size 35 i0 (.int .u64 0) 1 8 Tryz.underlying22 hi hz0 hz1 hz2 rfl (by decide) _ _ _ rfl (own_keep (allocB _ _) O4.out) ⟨w4.heap.size,0,none⟩ 1 1 [.int .u64 x] rfl rfl (one_lies _ _ rfl _ _) (one_int _ _) (by unfold maxLen;omega) (by omega) (by simp;omega) ?_)
      intro v' w5 hown hgrow _
      have O5:Hid (w5.ownsRow w.heap.size 35 1 v' (M++[x]).length (vals (M++[x]))):=hidd (by
       have e1:(M++[x]).length=M.length+1:=by simp
       have e2:vals (M++[x])=vals M++[.int .u64 x]:=by simp [vals]
       rw [e1,e2];exact hown)
      have B5:=hidd ((B4.out.trans ((allocB w4 (.cells #[.int .u64 x] 35)).mono hs4)).grown hgrow (by simp;omega) (fun k hk=>own_block O4.out k hk))
      clear hown hgrow
      go_wp2
      go_roundw
      case rel=>exact ⟨i+1,M++[x],by omega,by go_num,SN2,by simp;omega,O5,B5⟩
      case measure=>simp [intOf];omega
  · obtain rfl:i=n:=by omega
    have hlt':decide ((i:Int) < (i:Int))=false:=by simp
    have e:M=L.filter f:=by rw [hM.out,List.take_of_length_le (by rw [EN.out];omega)]
    subst e
    clear hM hlt
    go_wp2_with fail
    go_ret
    exact ⟨⟨_,rfl,hO.out⟩,hB.out⟩
def TellsBd (C:Nat) (G:List (List (Int × Int))) (K r:Nat) (e:Ending) (w':World):Prop :=
 ∃ (v:Value) (L:List Int),e=.returned (.tuple #[v,.int .i64 0])∧L.length≤20000∧Rising L∧(∀ x,x∈L↔FilS G K r x)∧w'.ownsRow C 35 1 v (L.filter (opB L)).length (vals (L.filter (opB L)))
set_option maxHeartbeats 8000000 in
set_option maxRecDepth 20000 in
theorem f_border (sG:Value) (G:List (List (Int × Int))) (hok:Okay G) (lo hi:Int × Int) (hbx:Bx G.flatten lo hi) (r K:Nat) (hK:K≤12) (hr:12 - (r:Int)=(K:Int)) (hfew:¬ Many K lo.1 lo.2 hi.1 hi.2 r 20000) (w:World) (hG:RingsL w sG G) (hT:Cov3 w) :
 Calls Tryz.prog 20 #[sG,.int .i64 (r:Int)] w fun e w'=>TellsBd w.heap.size G K r e w'∧Below w.heap.size w w':=by
 have FI:=hidd (f_fill sG G hok lo hi hbx r K hK hr hfew w hG hT)
 have KP:Hid (∀ (s:Value) (L:List Int),L.length≤20000→Rising L→(∀ x∈L,Whole x)→∀ w,Cov3 w→RowAt 0 w s L→Lst w s L→Calls Tryz.prog 29 #[s,.func (.func 41) #[s] #[]] w fun e w'=>(∃ v,e=.returned v∧w'.ownsRow w.heap.size 35 1 v (L.filter (opB L)).length (vals (L.filter (opB L))))∧Below w.heap.size w w'):=hidd fun s L hL hR hW w hT h hl =>
  f_keepO s (opB L) s L (by omega) w (fun x hx w' hb=>f_open s L hR hL x (hW x hx) w' (hl.keep hb) (hT.1.below hb)) h
 have HT:=hidd hT
 obtain ⟨pG,cG,rfl,-,-⟩:=hG
 clear hok hbx hK hr hfew hT
 generalize G.length=nG at *
 go_enter Tryz.func20,Tryz.ntmps20
 go_wp2_with fail
 refine FI.out.mono ?_
 rintro e w1 ⟨⟨v,L,rfl,h1,h2,h3,h4⟩,b1⟩
 have B1:=hidd b1
 have KK:=hidd (KP.out v L h1 h2 (fun x hx=>((h3 x).1 hx).1.1) w1 (HT.out.below b1) ((own_row h4).mono (Nat.zero_le _)) (Lst.own h4))
 have FF:=hidd (And.intro h1 (And.intro h2 h3))
 obtain ⟨p4,c4,rfl,-⟩:=own_slice h4
 clear FI KP b1 h1 h2 h3 h4
 generalize L.length=ll at KK ⊢
 go_wp2_with fail
 refine KK.out.mono ?_
 rintro e w2 ⟨⟨v2,rfl,ho⟩,b2⟩
 have B2:=hidd (belowT B1.out b2)
 have O2:=hidd (own_mono ho B1.out.size)
 clear KK b2 ho
 go_wp2_with fail
 go_ret2
 exact ⟨⟨_,L,rfl,FF.out.1,FF.out.2.1,FF.out.2.2,O2.out⟩,B2.out⟩
def TellsPk (C:Nat) (G:List (List (Int × Int))) (K r:Nat) (e:Ending) (w':World):Prop :=
 ∃ (v:Value) (L P:List Int),e=.returned (.tuple #[v,.int .i64 0])∧L.length≤20000∧Rising L∧(∀ x,x∈L↔FilS G K r x)∧Packed r L P∧P.length≤L.length∧w'.ownsRow C 35 1 v P.length (vals P)
set_option maxHeartbeats 8000000 in
set_option maxRecDepth 20000 in
theorem f_packed (sG:Value) (G:List (List (Int × Int))) (hok:Okay G) (lo hi:Int × Int) (hbx:Bx G.flatten lo hi) (r K:Nat) (hK:K≤12) (hr:12 - (r:Int)=(K:Int)) (hfew:¬ Many K lo.1 lo.2 hi.1 hi.2 r 20000) (w:World) (hG:RingsL w sG G) (hT:Cov3 w) :
 Calls Tryz.prog 21 #[sG,.int .i64 (r:Int)] w fun e w'=>TellsPk w.heap.size G K r e w'∧Below w.heap.size w w':=by
 have FI:=hidd (f_fill sG G hok lo hi hbx r K hK hr hfew w hG hT)
 have KP:Hid (∀ (s:Value) (L:List Int),L.length≤20000→(∀ x∈L,Whole x∧wR x=(r:Int))→∀ w,Lst w s L→Calls Tryz.prog 42 #[s] w fun e w'=>(∃ (sl:Value) (P:List Int),e=.returned (.tuple #[sl,.int .i64 0])∧Packed r L P∧P.length≤L.length∧w'.ownsRow w.heap.size 35 1 sl P.length (vals P))∧Below w.heap.size w w'):=hidd fun s L hL hW w hl =>
  (p_compact s L (by omega) (fun x hx=>by have:=whole_box (hW x hx).1;exact ⟨by omega,by omega⟩) w hl).mono fun e w' ⟨h,hb⟩=>by
    obtain ⟨sl,P,he,h1,h2,_,_,h3⟩:=cmp_yes hW hL h
    exact ⟨⟨sl,P,he,h1,h2,h3⟩,hb⟩
 obtain ⟨pG,cG,rfl,-,-⟩:=hG
 clear hok hbx hK hr hfew hT
 generalize G.length=nG at *
 go_enter Tryz.func21,Tryz.ntmps21
 go_wp2_with fail
 refine FI.out.mono ?_
 rintro e w1 ⟨⟨v,L,rfl,h1,h2,h3,h4⟩,b1⟩
 have B1:=hidd b1
 have KK:=hidd (KP.out v L h1 (fun x hx=>((h3 x).1 hx).1) w1 (Lst.own h4))
 have FF:=hidd (And.intro h1 (And.intro h2 h3))
 obtain ⟨p4,c4,rfl,-⟩:=own_slice h4
 clear FI KP b1 h1 h2 h3 h4
 obtain ⟨ll,el⟩:∃ ll,L.length=ll:=⟨_,rfl⟩
 have EL:=hidd el
 rw [el] at KK ⊢
 clear el
 go_wp2_with fail
 refine KK.out.mono ?_
 rintro e w2 ⟨⟨v2,P,rfl,hP,hl,ho⟩,b2⟩
 have B2:=hidd (belowT B1.out b2)
 have O2:=hidd (own_mono ho B1.out.size)
 have HP:=hidd (And.intro hP hl)
 clear KK b2 ho hP hl
 go_wp2_with fail
 go_ret2
 exact ⟨⟨_,L,P,rfl,FF.out.1,FF.out.2.1,FF.out.2.2,HP.out.1,by rw [EL.out];exact HP.out.2,O2.out⟩,B2.out⟩
theorem r_near (x:Int) (hx:Whole x) (w:World) :
 Calls Tryz.prog 24 #[.int .u64 x] w fun e w'=>(∃ s N,e=.returned (.tuple #[s,.int .i64 0])∧RowAt 0 w' s N∧NbS x N∧N.length≤6∧∀ y∈N,U64 y)∧Below w.heap.size w w' :=
 (rneigh_yes x hx w).mono fun e w' ⟨⟨s,N,he,h1,h2,h3,_⟩,hb⟩=>⟨by
   have hr:=wR_box x
   have er:((wR x).toNat:Int)=wR x:=by omega
   have hN:NbS x N:=⟨rising_nodup h2,fun y=>by
    rw [h3 y]
    unfold nbL
    rw [words_iff (Q:=fun p=>stp p.1 p.2=1) (fun p=>mem_rngP),er]⟩
   refine ⟨s,N,he,h1,hN,nb_len hN,fun y hy=>?_⟩
   obtain ⟨p,q,_,ho,rfl⟩:=(h3 y).1 hy
   rw [← er] at ho
   have:=word_parts ho
   have hb:=whole_box this.1
   exact ⟨by omega,by omega⟩,hb⟩
theorem rs_yes {C:Nat} {L:List Int} {m:Nat} (hm:m≤12) (hL:WithinR m L) (hc:cntR m L≤20000) {e:Ending} {w':World} (h:TellsRS C L (m:Int) e w') :
 ∃ (sl:Value) (K:List Int),e=.returned (.tuple #[sl,.int .i64 0])∧Rising K∧(∀ x,x∈K↔Whole x∧wR x=(m:Int)∧Cov L x)∧K.length≤20000∧w'.ownsRow C 35 1 sl K.length (vals K):=by
 obtain ⟨z,t,hz,h⟩:=h
 have hz':SizeT L (m:Int) (cntR m L) 0:=.inr (.inr (.inr ⟨m,rfl,hm,hL,.inr ⟨by omega,rfl,rfl⟩⟩))
 obtain ⟨rfl,rfl⟩:=hz.one hz'
 rcases h with ⟨h,_⟩ | ⟨_,h,_⟩ | ⟨_,_,m',e,sl,K,h1,h2,h3,h4,h5⟩
 · exact absurd rfl h
 · omega
 · obtain rfl:m=m':=by omega
   exact ⟨sl,K,h1,h2,fun x=>by rw [h3 x,mem_kinR hm hL],h4,h5⟩
theorem cnt_packed {r:Nat} (hr:r≤12) {S P:List Int} (h:Packed r S P):cntR r P≤(S.length:Int):=by
 rw [cntR_len]
 have hn:=kinR_nodup hr h.2.1 h.2.2.1 (rising_nodup h.1)
 have:=nodup_len hn (L:=S) fun x hx=>by
  obtain ⟨h1,h2,h3⟩:=(mem_kinR hr h.2.1).1 hx
  exact (h.2.2.2.2 x h1 h2).1 h3
 omega
theorem back_packed {r:Nat} {S P K:List Int} (hS:∀ x∈S,Whole x∧wR x=(r:Int)) (h:Packed r S P) (hK:∀ x,x∈K↔Whole x∧wR x=(r:Int)∧Cov P x) (x:Int):x∈K↔x∈S:=by
 rw [hK x]
 exact ⟨fun ⟨h1,h2,h3⟩=>(h.2.2.2.2 x h1 h2).1 h3,fun hx=>⟨(hS x hx).1,(hS x hx).2,(h.2.2.2.2 x (hS x hx).1 (hS x hx).2).2 hx⟩⟩
theorem u64_whole {x:Int} (h:Whole x):U64 x:=by have:=whole_box h;exact ⟨by omega,by omega⟩
theorem cnt_next {N:List Int} {f:Int→Bool} {j:Nat} (hj:j < N.length):((N.take (j+1)).filter f).length=((N.take j).filter f).length+if f N[j] then 1 else 0:=by
 rw [List.take_succ_eq_append_getElem hj,List.filter_append,List.length_append,List.filter_cons]
 split <;>simp
end Go.Proofs.YtbnlhdnnenahfaaGreatDoor
