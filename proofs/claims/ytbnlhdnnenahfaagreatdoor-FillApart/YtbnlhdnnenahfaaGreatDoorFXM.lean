/-
  What the texts FSet, FCode, FBox say, so far as this seat's proofs need it.
-/
import Derived.Test.YtbnlhdnnenahfaaGreatDoorQ7M
import Derived.Test.YtbnlhdnnenahfaaGreatDoorPIM
namespace Go.Proofs.YtbnlhdnnenahfaaGreatDoor
open Go.RowKit
def inQ (G:List (List (Int × Int))) (x y:Int):Bool:=decide (-2147483648≤x∧x≤2147483648∧-2147483648≤y∧y≤2147483648) && (decide (0 < onG G x y) || decide (crG G x y%2=1))
theorem inQ_iff {G:List (List (Int × Int))} (hok:Okay G) {x y:Int}:inQ G x y=true↔InT G x y:=by
 unfold inQ InT FarG
 simp only [Bool.and_eq_true,Bool.or_eq_true,decide_eq_true_eq]
 constructor
 · rintro ⟨h1,h2⟩
   exact ⟨hok,by omega,h2⟩
 · rintro ⟨_,h1,h2⟩
   exact ⟨by omega,h2⟩
def inF (G:List (List (Int × Int))) (K:Nat) (x:Int):Bool:=inQ G (poX K (cellA x) (cellB x)) (poY K (cellA x) (cellB x))
def FilS (G:List (List (Int × Int))) (K r:Nat) (x:Int):Prop:=(Whole x∧wR x=(r:Int))∧InT G (poX K (cellA x) (cellB x)) (poY K (cellA x) (cellB x))
theorem okay_ne {G:List (List (Int × Int))} (hok:Okay G):∃ p,p∈G.flatten:=by
 obtain ⟨_,_,h0,h3,_⟩:=okay_iff.1 hok
 cases G with
 | nil=>exact absurd rfl h0
 | cons L G =>
  have:=h3 L (List.mem_cons_self ..)
  exact ⟨L[0]'(by omega),List.mem_flatten.2 ⟨L,List.mem_cons_self ..,List.getElem_mem _⟩⟩
theorem bx_world {G:List (List (Int × Int))} (hok:Okay G) {lo hi:Int × Int} (h:Bx G.flatten lo hi):(0≤lo.1∧0≤lo.2∧hi.1 < 1073741824∧hi.2 < 1073741824)∧lo.1≤hi.1∧lo.2≤hi.2:=by
 obtain ⟨_,_,_,_,hw⟩:=okay_iff.1 hok
 obtain ⟨p,hp⟩:=okay_ne hok
 obtain ⟨h0,⟨p1,m1,e1⟩,⟨p2,m2,e2⟩,⟨p3,m3,e3⟩,⟨p4,m4,e4⟩⟩:=h
 have f:∀ q∈G.flatten,InWo q:=fun q hq=>by
  obtain ⟨L,hL,hq⟩:=List.mem_flatten.1 hq
  exact hw L hL q hq
 have k:=h0 p hp
 have f1:=f p1 m1
 have f2:=f p2 m2
 have f3:=f p3 m3
 have f4:=f p4 m4
 unfold InWo at f1 f2 f3 f4
 omega
theorem in_bx {G:List (List (Int × Int))} {lo hi:Int × Int} (h:Bx G.flatten lo hi) {x y:Int} (hi':InT G x y):lo.1≤x∧x≤hi.1∧lo.2≤y∧y≤hi.2:=by
 have hm:∀ L∈G,∀ p∈L,p∈G.flatten:=fun L hL p hp=>List.mem_flatten.2 ⟨L,hL,hp⟩
 by_cases c:lo.1≤x∧x≤hi.1∧lo.2≤y∧y≤hi.2
 · exact c
 · exfalso
   have k:=in_beside (G:=G) (x:=x) (y:=y) (by
    by_cases c1:x < lo.1
    · exact .inl fun L hL p hp=>by have:=h.1 p (hm L hL p hp);omega
    · by_cases c2:hi.1 < x
      · exact .inr (.inl fun L hL p hp=>by have:=h.1 p (hm L hL p hp);omega)
      · by_cases c3:y < lo.2
        · exact .inr (.inr (.inr fun L hL p hp=>by have:=h.1 p (hm L hL p hp);omega))
        · exact .inr (.inr (.inl fun L hL p hp=>by have:=h.1 p (hm L hL p hp);omega)))
   have:=hi'.2.2
   omega
theorem fil_box {G:List (List (Int × Int))} {lo hi:Int × Int} (h:Bx G.flatten lo hi) {K r:Nat} (hK:K≤12) {x:Int}:FilS G K r x↔(TW K lo.1 lo.2 hi.1 hi.2 x r∧inCB K lo.1 lo.2 hi.1 hi.2 x=true)∧InT G (poX K (cellA x) (cellB x)) (poY K (cellA x) (cellB x)):=by
 constructor
 · rintro ⟨⟨h1,h2⟩,h3⟩
   have k:=in_bx h h3
   refine ⟨⟨⟨h1,h2,tou_at ⟨k.1,k.2.1⟩ k.2.2 (near_self hK _ _).1⟩,?_⟩,h3⟩
   unfold inCB
   exact decide_eq_true k
 · rintro ⟨⟨⟨h1,h2,_⟩,_⟩,h3⟩
   exact ⟨⟨h1,h2⟩,h3⟩
theorem nodup_same {A B:List Int} (hA:A.Nodup) (hB:B.Nodup) (h:∀ x,x∈A↔x∈B):A.length=B.length :=
 Nat.le_antisymm (nodup_len hA fun x hx=>(h x).1 hx) (nodup_len hB fun x hx=>(h x).2 hx)
theorem okay_sizes {G:List (List (Int × Int))} (hok:Okay G):G.length≤1000000∧∀ M∈G,M.length≤1000000 :=
 ⟨by have:=(okay_iff.1 hok).1;omega,fun M hM=>by have:=corners_mem hM;have:=(okay_iff.1 hok).2.1;omega⟩
set_option maxHeartbeats 4000000 in
set_option maxRecDepth 20000 in
theorem f_holds (sG:Value) (G:List (List (Int × Int))) (hok:Okay G) (x:Int) (hx:Whole x) (K:Nat) (hK:K≤12) (hr:12 - wR x=(K:Int)) (w:World) (hG:RingsL w sG G) (hT:Tabs w) :
 Calls Tryz.prog 30 #[sG,.int .u64 x] w fun e w'=>e=.returned (.bool (inF G K x))∧Below w.heap.size w w':=by
 have CE:=hidd (icell_yes x hx w hT)
 have pt4:=ok4_part (cell_ok hx)
 have PO:=hidd fun w=>pcentre_yes (cellA x) (cellB x) (wR x) K hK hr ⟨by omega,by omega⟩ ⟨by omega,by omega⟩ w
 have IN:=hidd fun w h=>p_inside sG G (poX K (cellA x) (cellB x)) (poY K (cellA x) (cellB x)) (inQ G _ _) (inQ_iff hok) (okay_sizes hok).1 (okay_sizes hok).2 w h
 have hc:Hid (inQ G (poX K (cellA x) (cellB x)) (poY K (cellA x) (cellB x))=inF G K x):=hidd rfl
 rw [hc.out] at IN
 have HG:=hidd hG
 clear hc pt4 hr hK hx hT hok hG
 generalize poX K (cellA x) (cellB x)=X at *
 generalize poY K (cellA x) (cellB x)=Y at *
 generalize cellA x=a at *
 generalize cellB x=b at *
 generalize wR x=rr at *
 generalize inF G K x=cb at *
 go_enter Tryz.func30,Tryz.ntmps30
 go_wp2_with fail
 refine CE.out.mono ?_
 rintro e w1 ⟨rfl,b1⟩
 have B1:=hidd (belowT b1 (allocB w1 (.cells #[.int .i64 rr,.int .i64 a,.int .i64 b] 39)))
 clear CE b1
 go_wp2_with fail
 generalize w1.alloc (.cells #[.int .i64 rr,.int .i64 a,.int .i64 b] 39)=w2 at *
 refine (PO.out _).mono ?_
 rintro e w3 ⟨rfl,b3⟩
 have B3:=hidd (belowT B1.out b3)
 clear PO b3 B1
 go_wp2_with fail
 refine (IN.out _ (HG.out.keep B3.out)).mono ?_
 rintro e w4 ⟨rfl,b4⟩
 have B4:=hidd (belowT B3.out b4)
 clear IN b4 B3 HG
 go_wp2_with fail
 go_ret
 exact ⟨rfl,B4.out⟩
def AskedH (v:Value) (f:Int→Bool) (L:List Int) (W:World):Prop:=∀ x∈L,∀ w,Below W.heap.size W w→Calls Tryz.prog 30 #[v,.int .u64 x] w fun e w'=>e=.returned (.bool (f x))∧Below w.heap.size w w'
set_option maxHeartbeats 8000000 in
set_option maxRecDepth 20000 in
theorem f_keepH (v:Value) (f:Int→Bool) (s:Value) (L:List Int) (hn:L.length≤40000) (w:World) (hv:AskedH v f L w) (h:RowAt 0 w s L) :
 Calls Tryz.prog 29 #[s,.func (.func 30) #[v] #[]] w fun e w'=>(∃ v,e=.returned v∧w'.ownsRow w.heap.size 35 1 v (L.filter f).length (vals (L.filter f)))∧Below w.heap.size w w':=by
 obtain ⟨p,cap,rfl,hp⟩:=h.form
 obtain ⟨n,en⟩:∃ n,L.length=n:=⟨_,rfl⟩
 have EN:=hidd en
 have HP:=hidd hp
 have HV:=hidd hv
 obtain ⟨i0,hi,hz0,hz1,hz2⟩:=info_parts infoU64
 rw [en] at hn ⊢
 clear hp h en hv
 go_enter Tryz.func29,Tryz.ntmps29
 go_wp2_with fail
 go_loopw [5,10] (fun v5 v10 wr=>∃ (i:Nat) (M:List Int),i≤n∧v10=.int .i64 (i:Int)∧Hid (M=(L.take i).filter f)∧M.length≤i∧Hid (wr.ownsRow w.heap.size 35 1 v5 M.length (vals M))∧Hid (Below w.heap.size w wr)) (fun _ v10 _=>n - (intOf v10).toNat)
 case atStart=>exact ⟨0,[],by omega,rfl,hidd rfl,by simp,hidd (World.ownsRow_nil _ _ _ _),hidd (Below.refl _ _)⟩
 case round =>
  obtain ⟨i,M,hin,rfl,hM,hMl,hO,hB⟩:=hrel
  obtain ⟨p7,c7,rfl,-⟩:=own_slice hO.out
  by_cases hlt:i < n
  · have hlt':(i:Int) < (n:Int):=by omega
    obtain ⟨g,rfl,x1⟩:=HP.out i (by rw [EN.out];exact hlt)
    have hiL:i < L.length:=by rw [EN.out];exact hlt
    replace x1:=keepCell hB.out x1
    have SN:Hid ((L.take (i+1)).filter f=M++(if f L[i] then [L[i]] else [])):=hidd (by
     rw [List.take_succ_eq_append_getElem hiL,List.filter_append,← hM.out]
     congr 1
     rw [List.filter_cons]
     split <;>simp)
    have AS:=hidd (HV.out _ (List.getElem_mem hiL) wr hB.out)
    clear hM HV
    generalize L[i]=x at *
    generalize f x=cb at *
    cases cb
    · have SN2:Hid (M=(L.take (i+1)).filter f):=hidd (by rw [SN.out];simp)
      clear SN
      go_wp2_with fail
      refine AS.out.mono ?_
      rintro e w4 ⟨rfl,b4⟩
      have O4:=hidd (own_keep b4 hO.out)
      have B4:=hidd (hB.out.trans (b4.mono hB.out.size))
      clear AS b4 hO hB x1
      go_wp2_with fail
      go_roundw
      case rel=>exact ⟨i+1,M,by omega,by go_num,SN2,by omega,O4,B4⟩
      case measure=>simp [intOf];omega
    · have SN2:Hid (M++[x]=(L.take (i+1)).filter f):=hidd (by rw [SN.out];rfl)
      clear SN
      go_wp2_with fail
      refine AS.out.mono ?_
      rintro e w4 ⟨rfl,b4⟩
      have O4:=hidd (own_keep b4 hO.out)
      have B4:=hidd (hB.out.trans (b4.mono hB.out.size))
      have hs4:=B4.out.size
      clear AS b4 hO hB x1
      go_wp2_with (at_builtin;refine wpList_append_own _ rfl (.tmp 17) (.tmp 19) 22 rfl w.heap.size 35 i0 (.int .u64 0) 1 8 Tryz.underlying22 hi hz0 hz1 hz2 rfl (by decide) _ _ _ rfl (own_keep (allocB _ _) O4.out) ⟨w4.heap.size,0,none⟩ 1 1 [.int .u64 x] rfl rfl (one_lies _ _ rfl _ _) (one_int _ _) (by unfold maxLen;omega) (by omega) (by simp;omega) ?_)
      intro v' w5 hown hgrow _
      have O5:Hid (w5.ownsRow w.heap.size 35 1 v' (M++[x]).length (vals (M++[x]))):=hidd (by
       have e1:(M++[x]).length=M.length+1:=by simp
       have e2:vals (M++[x])=vals M++[.int .u64 x]:=by simp [vals]
       rw [e1,e2];exact hown)
      have B5:=hidd ((B4.out.trans ((allocB w4 (.cells #[.int .u64 x] 35)).mono hs4)).grown hgrow (by simp;omega) (fun k hk=>own_block O4.out k hk))
      clear hown hgrow
      go_wp2
      go_roundw
      case rel=>exact ⟨i+1,M++[x],by omega,by go_num,SN2,by simp;omega,O5,B5⟩
      case measure=>simp [intOf];omega
  · obtain rfl:i=n:=by omega
    have hlt':decide ((i:Int) < (i:Int))=false:=by simp
    have e:M=L.filter f:=by rw [hM.out,List.take_of_length_le (by rw [EN.out];omega)]
    subst e
    clear hM hlt
    go_wp2_with fail
    go_ret
    exact ⟨⟨_,rfl,hO.out⟩,hB.out⟩
def TellsFl (C:Nat) (G:List (List (Int × Int))) (K r:Nat) (e:Ending) (w':World):Prop :=
 ∃ (v:Value) (L:List Int),e=.returned (.tuple #[v,.int .i64 0])∧L.length≤20000∧Rising L∧(∀ x,x∈L↔FilS G K r x)∧w'.ownsRow C 35 1 v L.length (vals L)
set_option maxHeartbeats 8000000 in
set_option maxRecDepth 20000 in
theorem f_fill (sG:Value) (G:List (List (Int × Int))) (hok:Okay G) (lo hi:Int × Int) (hbx:Bx G.flatten lo hi) (r K:Nat) (hK:K≤12) (hr:12 - (r:Int)=(K:Int)) (hfew:¬ Many K lo.1 lo.2 hi.1 hi.2 r 20000) (w:World) (hG:RingsL w sG G) (hT:Cov3 w) :
 Calls Tryz.prog 8 #[sG,.int .i64 (r:Int)] w fun e w'=>TellsFl w.heap.size G K r e w'∧Below w.heap.size w w':=by
 have hsz:=okay_sizes hok
 have CK:Hid (∀ w,RingsL w sG G→Calls Tryz.prog 27 #[sG] w fun e w'=>e=.returned (.int .i64 0)∧Below w.heap.size w w'):=hidd fun w h =>
  (p_check sG G hsz.1 hsz.2 w h).mono fun e w' ⟨⟨t,he,ht⟩,hb⟩=>⟨by rw [he,(chk_zero ht).2 hok],hb⟩
 have BX:Hid (∀ w,RingsL w sG G→Calls Tryz.prog 28 #[sG] w fun e w'=>e=.returned (.tuple #[.agg #[.int .i64 lo.1,.int .i64 lo.2],.agg #[.int .i64 hi.1,.int .i64 hi.2]])∧Below w.heap.size w w'):=hidd fun w h =>
  (pp_box sG G hsz.1 hsz.2 w h).mono fun e w' ⟨⟨lo',hi',he,ht⟩,hb⟩=>⟨by
    obtain ⟨e1,e2⟩:=BoxT.one ht (.inl ⟨hok,hbx⟩)
    rw [he,e1,e2],hb⟩
 have hwo:=bx_world hok hbx
 have CC:Hid (∀ w,Cov3 w→Calls Tryz.prog 9 #[.agg #[.int .i64 lo.1,.int .i64 lo.2],.agg #[.int .i64 hi.1,.int .i64 hi.2],.int .i64 (r:Int)] w fun e w'=>(∃ s L,e=.returned (.tuple #[s,.int .i64 0])∧RowAt 0 w' s L∧Rising L∧(∀ x,x∈L↔TW K lo.1 lo.2 hi.1 hi.2 x r∧inCB K lo.1 lo.2 hi.1 hi.2 x=true)∧L.length≤20000)∧Below w.heap.size w w'):=hidd fun w h =>
  (p_centres_cap lo.1 lo.2 hi.1 hi.2 r K hK hr hwo.1.1 hwo.1.2.1 hwo.1.2.2.1 hwo.1.2.2.2 hwo.2.1 hwo.2.2 w h).mono fun e w' ⟨⟨h1,_⟩,hb⟩=>⟨h1.row hfew,hb⟩
 have KP:Hid (∀ (s:Value) (L:List Int),L.length≤20000→(∀ x∈L,Whole x∧wR x=(r:Int))→∀ w,RingsL w sG G→Cov3 w→RowAt 0 w s L→Calls Tryz.prog 29 #[s,.func (.func 30) #[sG] #[]] w fun e w'=>(∃ v,e=.returned v∧w'.ownsRow w.heap.size 35 1 v (L.filter (inF G K)).length (vals (L.filter (inF G K))))∧Below w.heap.size w w'):=hidd fun s L hL hW w hG hT h =>
  f_keepH sG (inF G K) s L (by omega) w (fun x hx w' hb=>f_holds sG G hok x (hW x hx).1 K hK (by rw [(hW x hx).2];exact hr) w' (hG.keep hb) (hT.1.below hb)) h
 have FN:Hid (∀ L:List Int,Rising L→(∀ x,x∈L↔TW K lo.1 lo.2 hi.1 hi.2 x r∧inCB K lo.1 lo.2 hi.1 hi.2 x=true)→L.length≤20000→(∀ x∈L,Whole x∧wR x=(r:Int))∧(L.filter (inF G K)).length≤20000∧Rising (L.filter (inF G K))∧∀ x,x∈L.filter (inF G K)↔FilS G K r x):=hidd fun L h1 h2 h3 =>
  ⟨fun x hx=>⟨((h2 x).1 hx).1.1,((h2 x).1 hx).1.2.1⟩,Nat.le_trans (List.length_filter_le _ _) h3,h1.filter _,fun x=>by
    rw [List.mem_filter,h2 x,fil_box hbx hK]
    unfold inF
    rw [inQ_iff hok]⟩
 have HG:=hidd hG
 have HT:=hidd hT
 obtain ⟨pG,cG,rfl,-,-⟩:=hG
 obtain ⟨nG,enG⟩:∃ nG,G.length=nG:=⟨_,rfl⟩
 rw [enG] at HG CK BX KP ⊢
 clear hsz hwo hok hbx hK hr hfew hT enG
 obtain ⟨l1,l2⟩:=lo
 obtain ⟨u1,u2⟩:=hi
 dsimp only at BX CC FN
 go_enter Tryz.func8,Tryz.ntmps8
 go_wp2_with fail
 refine (CK.out _ HG.out).mono ?_
 rintro e w1 ⟨rfl,b1⟩
 have B1:=hidd b1
 clear CK b1
 go_wp2_with fail
 refine (BX.out _ (HG.out.keep B1.out)).mono ?_
 rintro e w2 ⟨rfl,b2⟩
 have B2:=hidd (belowT (belowT (belowT B1.out b2) (allocB w2 (.cells #[.int .i64 l1,.int .i64 l2] 26))) (allocB _ (.cells #[.int .i64 u1,.int .i64 u2] 26)))
 clear BX b2 B1
 go_wp2_with fail
 generalize (w2.alloc (.cells #[.int .i64 l1,.int .i64 l2] 26)).alloc (.cells #[.int .i64 u1,.int .i64 u2] 26)=w3 at *
 refine (CC.out _ (HT.out.below B2.out)).mono ?_
 rintro e w4 ⟨⟨s,L,rfl,h1,h2,h3,h4⟩,b4⟩
 have B4:=hidd (belowT B2.out b4)
 have FL:=hidd (FN.out L h2 h3 h4)
 have KK:=hidd (KP.out s L h4 FL.out.1 _ (HG.out.keep B4.out) (HT.out.below B4.out) h1)
 clear CC b4 B2 FN KP h1 h2 h3 h4
 generalize L.filter (inF G K)=M at *
 go_wp2_with fail
 refine KK.out.mono ?_
 rintro e w5 ⟨⟨v,rfl,ho⟩,b5⟩
 have B5:=hidd (belowT B4.out b5)
 have O5:=hidd (own_mono ho B4.out.size)
 clear KK b5 B4 ho
 go_wp2_with fail
 go_ret2
 exact ⟨⟨_,M,rfl,FL.out.2.1,FL.out.2.2.1,FL.out.2.2.2,O5.out⟩,B5.out⟩
set_option maxHeartbeats 4000000 in
set_option maxRecDepth 20000 in
theorem f_fill_chk (sG:Value) (G:List (List (Int × Int))) (r t:Int) (ht:ChkG G t) (h0:t≠0) (hn:G.length≤1000000) (hl:∀ L∈G,L.length≤140737488355328) (w:World) (hG:RingsL w sG G) :
 Calls Tryz.prog 8 #[sG,.int .i64 r] w fun e w'=>e=.returned (.tuple #[.slice none 0 0,.int .i64 t])∧Below w.heap.size w w':=by
 have CK:Hid (∀ w,RingsL w sG G→Calls Tryz.prog 27 #[sG] w fun e w'=>e=.returned (.int .i64 t)∧Below w.heap.size w w'):=hidd fun w h =>
  (p_checkL sG G hn hl w h).mono fun e w' ⟨⟨t',he,ht'⟩,hb⟩=>⟨by rw [he,ht'.one ht],hb⟩
 have h0':(t == 0)=false:=by simpa using h0
 have h02:decide (t=0)=false:=by simpa using h0
 have HG:=hidd hG
 obtain ⟨pG,cG,rfl,-,-⟩:=hG
 clear ht hn hl
 generalize G.length=nG at *
 go_enter Tryz.func8,Tryz.ntmps8
 go_wp2_with fail
 refine (CK.out _ HG.out).mono ?_
 rintro e w1 ⟨rfl,b1⟩
 clear CK
 go_wp2_with fail
 go_ret2
 exact ⟨rfl,b1⟩
theorem in_ring {R:List (Int × Int)} (hok:Okay [R]) {x y:Int}:InT [R] x y↔¬ FarG x y∧inR R x y:=by
 unfold InT inR
 rw [onG_one,crG_one]
 exact ⟨fun h=>⟨h.2.1,h.2.2⟩,fun h=>⟨hok,h.1,h.2⟩⟩
theorem okay_few {R:List (Int × Int)} (h3:3≤R.length) (h5:R.length≤500) (hw:∀ p∈R,InWo p):Okay [R]:=okay_one.2 ⟨h3,h5,hw⟩
theorem okay_box4 {a b c d:Int} (ha:0≤a∧a < 1073741824) (hb:0≤b∧b < 1073741824) (hc:0≤c∧c < 1073741824) (hd:0≤d∧d < 1073741824):Okay [box4 a b c d] :=
 okay_few (show 3≤4 by omega) (show 4≤500 by omega) (wo_box ha hb hc hd)
theorem bx_box4 {a b c d:Int}:Bx [box4 a b c d].flatten (min a c,min b d) (max a c,max b d):=by
 have e:[box4 a b c d].flatten=box4 a b c d:=by simp
 rw [e]
 unfold box4
 refine ⟨fun p hp=>?_,?_,?_,?_,?_⟩
 · simp only [List.mem_cons,List.not_mem_nil,or_false] at hp
   rcases hp with rfl | rfl | rfl | rfl <;>dsimp only <;>omega
 · rcases Int.le_total a c with h | h
   · exact ⟨(a,b),by simp,by dsimp only;omega⟩
   · exact ⟨(c,b),by simp,by dsimp only;omega⟩
 · rcases Int.le_total b d with h | h
   · exact ⟨(a,b),by simp,by dsimp only;omega⟩
   · exact ⟨(a,d),by simp,by dsimp only;omega⟩
 · rcases Int.le_total a c with h | h
   · exact ⟨(c,b),by simp,by dsimp only;omega⟩
   · exact ⟨(a,b),by simp,by dsimp only;omega⟩
 · rcases Int.le_total b d with h | h
   · exact ⟨(a,d),by simp,by dsimp only;omega⟩
   · exact ⟨(a,b),by simp,by dsimp only;omega⟩
theorem fil_box4 {a b c d:Int} (ha:0≤a∧a < 1073741824) (hb:0≤b∧b < 1073741824) (hc:0≤c∧c < 1073741824) (hd:0≤d∧d < 1073741824) {K r:Nat} {x:Int} :
 FilS [box4 a b c d] K r x↔(Whole x∧wR x=(r:Int))∧inCB K (min a c) (min b d) (max a c) (max b d) x=true:=by
 unfold FilS inCB
 rw [in_ring (okay_box4 ha hb hc hd),box_all,decide_eq_true_eq]
 unfold FarG
 constructor
 · rintro ⟨h1,h2,h3⟩
   exact ⟨h1,h3⟩
 · rintro ⟨h1,h3⟩
   exact ⟨h1,by omega,h3⟩
theorem cen_box {K r:Nat} (hK:K≤12) {l1 l2 u1 u2 x:Int}:(TW K l1 l2 u1 u2 x r∧inCB K l1 l2 u1 u2 x=true)↔(Whole x∧wR x=(r:Int))∧inCB K l1 l2 u1 u2 x=true:=by
 constructor
 · rintro ⟨⟨h1,h2,_⟩,h3⟩
   exact ⟨⟨h1,h2⟩,h3⟩
 · rintro ⟨⟨h1,h2⟩,h3⟩
   refine ⟨⟨h1,h2,?_⟩,h3⟩
   unfold inCB at h3
   have k:=of_decide_eq_true h3
   exact tou_at ⟨k.1,k.2.1⟩ k.2.2 (near_self hK _ _).1
theorem same_rows {L M:List Int} {P:Int→Prop} (h1:Rising L) (h2:Rising M) (k1:∀ x,x∈L↔P x) (k2:∀ x,x∈M↔P x):L=M:=rising_ext h1 h2 fun x=>(k1 x).trans (k2 x).symm
theorem ok_unit11:Ok4 ((12:Nat):Int) 1 0:=ok4_of (by decide +kernel)
theorem ok_nil11:Ok4 ((12:Nat):Int) 0 0:=ok4_of (by decide +kernel)
theorem po_any11 (a b:Int):poX 0 a b=52*a+26*b∧poY 0 a b=45*b:=by
 unfold poX poY ctA ctB
 have e:bet 0=(1,0):=rfl
 rw [e]
 simp only
 constructor <;>grind
theorem awake_two {L:List Int} (hR:Rising L) (h:∀ x,x∈L↔FilS [box4 0 0 60 5] 0 12 x):L.length=2:=by
 have hne:wordOf 12 0 0≠wordOf 12 1 0:=fun e=>by
  have k1:=cell_word ok_nil11
  have k2:=cell_word ok_unit11
  rw [e] at k1
  have:=k1.1.symm.trans k2.1
  omega
 have key:∀ x,x∈L↔x∈[wordOf 12 0 0,wordOf 12 1 0]:=fun x=>by
  rw [h x,fil_box4 (by omega) (by omega) (by omega) (by omega)]
  unfold inCB
  rw [decide_eq_true_eq]
  obtain ⟨e1,e2⟩:=po_any11 (cellA x) (cellB x)
  rw [e1,e2]
  simp only [List.mem_cons,List.not_mem_nil,or_false]
  constructor
  · rintro ⟨⟨h1,h2⟩,h3⟩
    have hb:cellB x=0:=by omega
    have ha:cellA x=0∨cellA x=1:=by omega
    have w:=word_cell h1
    rw [h2,hb] at w
    rcases ha with ha | ha <;>rw [ha] at w
    · exact .inl w.symm
    · exact .inr w.symm
  · rintro (rfl | rfl)
    · have k:=cell_word ok_nil11
      have p:=word_parts ok_nil11
      rw [k.1,k.2]
      exact ⟨⟨p.1,by first | exact p.2.1 | exact p.2.2.1 | (have:=p.2;omega)⟩,by omega⟩
    · have k:=cell_word ok_unit11
      have p:=word_parts ok_unit11
      rw [k.1,k.2]
      exact ⟨⟨p.1,by first | exact p.2.1 | exact p.2.2.1 | (have:=p.2;omega)⟩,by omega⟩
 exact nodup_same (rising_nodup hR) (by simp [hne]) key
set_option maxHeartbeats 4000000 in
set_option maxRecDepth 20000 in
theorem fawake (w:World) (hT:Cov3 w):Calls Tryz.prog 11 #[] w fun e w'=>e=.returned (.bool true)∧Below w.heap.size w w':=by
 have L1:Hid (RingL (w.alloc (.cells #[.int .i64 0,.int .i64 0,.int .i64 60,.int .i64 0,.int .i64 60,.int .i64 5,.int .i64 0,.int .i64 5] 26)) (.slice (some ⟨w.heap.size,0,none⟩) 4 4) (box4 0 0 60 5)):=hidd (lit_ring w (box4 0 0 60 5) 26)
 have L2:=hidd (lit_rings1_next _ _ _ _ 27 L1.out)
 have B2:=hidd (belowT (allocB w (.cells #[.int .i64 0,.int .i64 0,.int .i64 60,.int .i64 0,.int .i64 60,.int .i64 5,.int .i64 0,.int .i64 5] 26)) (allocB (w.alloc (.cells #[.int .i64 0,.int .i64 0,.int .i64 60,.int .i64 0,.int .i64 60,.int .i64 5,.int .i64 0,.int .i64 5] 26)) (.cells #[.slice (some ⟨w.heap.size,0,none⟩) 4 4] 27)))
 have F1:=hidd (f_fill _ [box4 0 0 60 5] (okay_box4 (by omega) (by omega) (by omega) (by omega)) _ _ bx_box4 12 0 (by omega) (by omega) (few_box (by omega) (by decide) (by decide)) _ L2.out (hT.below B2.out))
 have F2:=hidd fun w=>f_fill_chk (.slice none 0 0) [] 12 1 (.inr (.inl ⟨by simp [corners],.inl rfl,rfl⟩)) (by omega) (by simp) (fun L hL=>by simp at hL) w (rings_nil w)
 have e12:((12:Nat):Int)=12:=rfl
 rw [e12] at F1
 clear L1 L2 hT e12
 go_enter Tryz.func11,Tryz.ntmps11
 go_wp2_with fail
 refine F1.out.mono ?_
 rintro e w1 ⟨⟨v,L,rfl,h1,h2,h3,h4⟩,b1⟩
 have h2l:=awake_two h2 h3
 rw [h2l] at h4
 obtain ⟨p4,c4,rfl,-⟩:=own_slice h4
 have B3:=hidd (belowT B2.out b1)
 clear F1 B2 h1 h2 h3 h4 h2l b1
 go_wp2_with fail
 refine (F2.out _).mono ?_
 rintro e w2 ⟨rfl,b2⟩
 have B4:=hidd (belowT B3.out b2)
 clear F2 B3 b2
 go_wp2_with fail
 go_ret
 exact ⟨rfl,B4.out⟩
end Go.Proofs.YtbnlhdnnenahfaaGreatDoor
