/-
  Package pack's join: the words of one size come to as few as there can be; in whatever memory.
-/
import Derived.Test.YtlfjfendlohekaaGreatDoorJn27
import Derived.Test.YtlfjfendlohekaaGreatDoorJBro
namespace Go.Proofs.YtlfjfendlohekaaGreatDoor
open Go.RowKit
def Turned (d:Array Int) (n i:Nat) (dk:Array Int):Prop:=dk.size=n∧∀ t,t < n→dk[t]! =if t < i∨n < t+1+i then d[n - 1 - t]! else d[t]!
theorem turned_step {d dk:Array Int} {n i:Nat} (h:Turned d n i dk) (hi:2*i+1 < n):Turned d n (i+1) (Sort.swp dk i (n - 1 - i)):=by
 refine ⟨by rw [Sort.size_swp];exact h.1,fun t ht=>?_⟩
 have gi:=h.2 i (by omega)
 have gj:=h.2 (n - 1 - i) (by omega)
 rw [if_neg (by omega)] at gi
 rw [if_neg (by omega)] at gj
 by_cases e1:t=i
 · subst e1
   rw [Sort.swp_left _ _ _ (by have:=h.1;omega) (by omega),if_pos (by omega),gj]
 · by_cases e2:t=n - 1 - i
   · subst e2
     rw [Sort.swp_right _ _ _ (by have:=h.1;omega),if_pos (by omega),gi,show n - 1 - (n - 1 - i)=i by omega]
   · rw [Sort.swp_other _ _ _ _ e1 e2,h.2 t ht]
     by_cases c:t < i∨n < t+1+i
     · rw [if_pos c,if_pos (by omega)]
     · rw [if_neg c,if_neg (by omega)]
theorem turned_done {d dk:Array Int} {n i:Nat} (hn:d.size=n) (h:Turned d n i dk) (hi:n≤2*i+1):dk.toList=d.toList.reverse:=by
 refine List.ext_getElem? fun t=>?_
 by_cases ht:t < n
 · have e:=h.2 t ht
   have e3:dk[t]! =d[n - 1 - t]! :=by
    by_cases c:t < i∨n < t+1+i
    · rw [e,if_pos c]
    · rw [e,if_neg c,show n - 1 - t=t by omega]
   rw [List.getElem?_reverse (by simpa [hn] using ht),Array.length_toList,hn,Array.getElem?_toList,Array.getElem?_toList]
   rw [getElem!_pos dk t (by have:=h.1;omega),getElem!_pos d (n - 1 - t) (by omega)] at e3
   rw [Array.getElem?_eq_getElem (by have:=h.1;omega),Array.getElem?_eq_getElem (by omega),e3]
 · rw [List.getElem?_eq_none (by simp [h.1];omega),List.getElem?_eq_none (by simp [hn];omega)]
set_option maxHeartbeats 8000000 in
set_option maxRecDepth 100000 in
theorem u_reverse (g c n:Nat) (d:Array Int) (hn:d.size=n) (w:World) (hH:Sort.Holds (Value.int .u64) w g 0 d) (hg:g < w.heap.size) (hsz:n≤1000000) :
 Calls Tryz.prog 56 #[.slice (some ⟨g,0,none⟩) n c] w fun e w'=>e=.returned (.tuple #[])∧∃ d',St w g 0 d d' w'∧d'.toList=d.toList.reverse:=by
 have H0:Hid (Sort.Holds (Value.int .u64) w g 0 d):=hH
 have HN:Hid (d.size=n):=hn
 clear hH hn
 go_enter Tryz.func56,Tryz.ntmps56
 go_wp2_with fail
 go_loopw [2,3] (fun v2 v3 wr=>∃ (i:Nat) (j:Int) (dk:Array Int),v2=.int .i64 i∧v3=.int .i64 j∧j=(n:Int) - 1 - i∧i≤n∧Hid (St w g 0 d dk wr∧Turned d n i dk)) (fun v2 _ _=>n - (intOf v2).toNat)
 case atStart=>exact ⟨0,(n:Int) - 1,d,rfl,rfl,by omega,by omega,St.refl H0.out,HN.out,fun t ht=>by rw [if_neg (by omega)]⟩
 case round =>
  obtain ⟨i,j,dk,rfl,rfl,hj,hi,hS⟩:=hrel
  by_cases hlt:(i:Int) < j
  · obtain ⟨m,hm⟩:∃ m:Nat,j=(m:Int):=⟨j.toNat,by omega⟩
    have em:n - 1 - i=m:=by omega
    have ST:=hid_mk (turned_step hS.out.2 (by omega))
    rw [em] at ST
    have hds:dk.size=n:=hS.out.2.1
    obtain ⟨G,hG,hc,hf⟩:=hS.out.1.fam H0.out hg
    rw [HN.out] at hc hf
    simp only [Nat.zero_add] at hc hf
    have SW:=hid_mk (hS.out.1.swap H0.out hg hG (j:=i) (k:=m) (by rw [HN.out];omega) (by rw [HN.out];omega) 0)
    simp only [Nat.zero_add] at SW
    obtain ⟨y3,hy3⟩:=cell?_setCell_some (w:=wr) (p:=⟨g,i,none⟩) (x:=.int .u64 (G m)) (q:=⟨g,m,none⟩) (hc m (by omega))
    have i0:i < n:=by omega
    have m0:m < n:=by omega
    have i1:(i:Int) < (n:Int):=by omega
    have m1:(m:Int) < (n:Int):=by omega
    have hi2:=hid_mk hj
    clear hS hG hj em
    subst hm
    go_wp2_with fail
    go_region
    all_goals go_wp2_with fail
    all_goals
     go_roundw
     case rel=>exact ⟨i+1,(m:Int) - 1,_,by go_num,rfl,by have:=hi2.out;omega,by omega,SW.out.drawn 1,ST.out⟩
     case measure=>simp [intOf];omega
  · have hlt':decide ((i:Int) < j)=false:=df hlt
    have FN:=hid_mk (And.intro hS.out.1 (turned_done HN.out hS.out.2 (by omega)))
    clear hS
    go_wp2
    go_end0
    exact ⟨rfl,dk,FN.out⟩
theorem u_reverse_nil (w:World):Calls Tryz.prog 56 #[.slice none 0 0] w fun e w'=>e=.returned (.tuple #[])∧w'=w:=by
 go_enter Tryz.func56,Tryz.ntmps56
 go_wp2_with fail
 go_loopw [2,3] (fun v2 v3 wr=>v2=.int .i64 0∧v3=.int .i64 (-1)∧wr=w) (fun _ _ _=>0)
 case atStart=>exact ⟨rfl,rfl,rfl⟩
 case round =>
  obtain ⟨rfl,rfl,rfl⟩:=hrel
  go_wp2
  go_end0
  exact ⟨rfl,rfl⟩
theorem u_reverse_own (base:Nat) (v:Value) (L:List Int) (w:World) (ho:w.ownsRow base 30 1 v L.length (vals L)) (hsz:L.length≤1000000) (hbase:base≤w.heap.size) :
 Calls Tryz.prog 56 #[v] w fun e w'=>e=.returned (.tuple #[])∧w'.ownsRow base 30 1 v L.reverse.length (vals L.reverse)∧Below base w w':=by
 rcases ho.2 with ⟨rfl,h0⟩ | ⟨g,cap,cur,rfl,hg,_⟩
 · have e:L=[]:=List.length_eq_zero_iff.1 h0
   subst e
   exact (u_reverse_nil w).mono fun e w' ⟨h1,h2⟩=>⟨h1,by rw [h2];exact ho,by rw [h2];exact Below.refl _ _⟩
 · refine (u_reverse g cap L.length L.toArray (by simp) w (own_holds ho) (ho.lt g rfl).2 hsz).mono fun e w' ⟨h1,d',h2,h3⟩=>⟨h1,?_,(st_but (a:=g) h2).below hg hg hbase⟩
   have:=st_own (n:=L.length) (d:=L.toArray) (by simp) (by simpa using ho) h2
   rw [h3] at this
   simpa using this
theorem own_but {w:World} {base B:Nat} {x:Value} {e:TypeId} {size:Nat} {v:Value} {n:Nat} {xs:List Value} (ho:w.ownsRow base e size v n xs) (h:v.ownBlock≠some B):(w.setCell ⟨B,0,none⟩ x).ownsRow base e size v n xs :=
 But.own (a:=B) (b:=B) ((But.refl _ _ _).set _ (.inl rfl)) ho h h
def Off (v:Value) (B g:Nat):Prop:=v.ownBlock≠some B∧v.ownBlock≠some g
set_option maxHeartbeats 8000000 in
set_option maxRecDepth 100000 in
theorem p_join (base g c r:Nat) (S:List Int) (hR:Rising S) (hS:∀ x∈S,Whole x∧wR x=(r:Int)) (hsz:S.length≤50000) (w:World) (ho:w.ownsRow base 30 1 (.slice (some ⟨g,0,none⟩) S.length c) S.length (vals S)) (hbase:base≤w.heap.size) :
 Calls Tryz.prog 30 #[.slice (some ⟨g,0,none⟩) S.length c] w fun e w'=>∃ (sl:Value) (P:List Int),e=.returned sl∧Packed r S P∧P.length≤S.length∧w'.ownsRow base 30 1 sl P.length (vals P)∧Below base w w':=by
 obtain ⟨n,hn⟩:∃ n,S.length=n:=⟨_,rfl⟩
 have HN:=hid_mk hn
 have hg:=(ho.lt g rfl).2
 have J0:=hid_mk (Joi.start (r:=r) hR (fun _=>Iff.rfl) hS (Nat.le_refl _))
 have HA:Hid (Hat (w.alloc (.cells #[.slice (some ⟨g,0,none⟩) n c] 86)) base w.heap.size g c S∧Below base w (w.alloc (.cells #[.slice (some ⟨g,0,none⟩) n c] 86))) :=
  hid_mk ⟨⟨by rw [hn];go_simp,by go_simp,by omega,own_keep (allocB w _) ho⟩,(allocB w _).mono hbase⟩
 rw [hn] at hsz ⊢
 clear hR hS hn ho
 go_enter Tryz.func30,Tryz.ntmps30
 go_wp2_with fail
 generalize w.alloc (.cells #[.slice (some ⟨g,0,none⟩) n c] 86)=W at *
 generalize w.heap.size=B at *
 have hl:=HA.out.1.lt
 have hbW:base≤W.heap.size:=by omega
 have IN:=hid_mk (h_init B g c n S.toArray (by simp [HN.out]) W (by have:=HA.out.1.1;rwa [HN.out] at this) HA.out.1.2.2.1 HA.out.1.holds hl.1 (by omega))
 refine IN.out.mono ?_
 rintro e w1 ⟨rfl,h1⟩
 have PB:=hp_build S.toArray (n:=n) (k:=n / 2) (by simp [HN.out]) (by omega)
 have hH1:=HA.out.1.st HN.out h1
 have PL:=perm_list (n:=n) (by simp [HN.out]) PB.2
 obtain ⟨H1,eH⟩:∃ H,(Sort.heapBuild Sort.ltInt n 0 (n / 2) S.toArray).toList=H:=⟨_,rfl⟩
 have eA:(Sort.heapBuild Sort.ltInt n 0 (n / 2) S.toArray)=H1.toArray:=by rw [← eH]
 rw [eA] at PB
 rw [eH] at hH1 PL
 have START:=hid_mk (show Joi r S [] H1∧Hp H1.length H1.toArray from ⟨J0.out.perm (by simpa using PL.symm),by rw [hH1.2];exact PB.1⟩)
 have HB1:=hid_mk (show Hat w1 base B g c H1∧Below base w w1 from ⟨hH1.1,HA.out.2.trans ((st_but (a:=B) h1).below hbase hl.2.1 hbW)⟩)
 have hs1:=(st_but (a:=B) h1).size
 clear IN h1 PB hH1 PL eH eA HA J0 hl
 go_wp2_with fail
 go_loopw [3] (fun v3 wr=>∃ (J H:List Int) (g' c':Nat),Hid (Joi r S J H∧Hp H.length H.toArray)∧Hid (Hat wr base B g' c' H∧Below base w wr∧base≤wr.heap.size)∧Hid (wr.ownsRow base 30 1 v3 J.length (vals J)∧Off v3 B g')) (fun _ wr=>lenAt wr B)
 case atStart=>exact ⟨[],H1,g,c,START.out,⟨HB1.out.1,HB1.out.2,by omega⟩,World.ownsRow_nil _ _ _ _,by simp [Value.ownBlock],by simp [Value.ownBlock]⟩
 case round =>
  clear START HB1 hs1 hbW
  obtain ⟨J,H,g1,c1,hJ,hH,hO⟩:=hrel
  have cB:=hH.out.1.1
  have hJH:J.length+H.length≤n:=by have:=hJ.out.1.2.2.2.2.2.2.2.2;rw [HN.out] at this;exact this
  have hbr:=hH.out.2.2
  by_cases h0:H.length=0
  · have hnil:H=[]:=List.length_eq_zero_iff.1 h0
    have DN:=hid_mk (show Packed r S J.reverse by have:=hJ.out.1;rw [hnil] at this;exact this.done)
    rw [h0] at cB
    have RV:=hid_mk (u_reverse_own base u3 J wr hO.out.1 (by omega) hbr)
    have HB:=hid_mk hH.out.2.1
    clear hJ hnil h0 hO hH hbr
    go_wp2_with fail
    refine RV.out.mono ?_
    rintro e w2 ⟨rfl,o2,b2⟩
    have FN:=hid_mk (And.intro o2 (HB.out.trans b2))
    clear RV o2 b2 cB HB
    go_wp2
    go_ret
    exact ⟨_,J.reverse,rfl,DN.out,by rw [List.length_reverse];omega,FN.out.1,FN.out.2⟩
  · have hpos:(0:Int) < (H.length:Int):=by omega
    have hJo:=hJ.out.1
    have BR:=hid_mk (f_brothers base B g1 c1 H (fun x hx=>(hJo.2.2.1 x (List.mem_append_right _ hx)).1) hJo.2.1 wr hH.out.1 hJ.out.2 (by omega) (by omega))
    have ER:=hid_mk hH.out.1.lenAt
    have hlr:=hH.out.1.lt
    clear hJo
    go_wp2_with fail
    refine BR.out.mono ?_
    rintro e w2 ⟨sl,u,l,H',rfl,bro,h2,p2,o2,b2⟩
    have hlen:=bro.1.length_eq
    rw [List.length_append] at hlen
    have hs2:=b2.size
    obtain ⟨ps,cs,rfl,hps⟩:=own_slice o2
    have hOl:=hO.out.1.lt
    have O2:=hid_mk (show w2.ownsRow base 30 1 u3 J.length (vals J) from b2.own hO.out.1 hO.out.2.1 hO.out.2.2)
    have HB:=hid_mk (show Hat w2 base B g1 c1 H'∧Below base w w2 from ⟨h2,hH.out.2.1.trans (b2.below (by omega) hlr.2.1 hbr)⟩)
    have OF:=hid_mk hO.out.2
    have HP:=hid_mk p2
    have BO:=hid_mk bro
    have LL:=hid_mk (And.intro o2 hps)
    have JJ:=hid_mk hJ.out.1
    have hlne:0 < l.length:=by
     rcases bro.2.2.2 with ⟨_,m,rfl,_⟩ | ⟨_,h,_⟩
     · simp
     · exact List.length_pos_iff.2 h
    clear BR bro h2 p2 o2 b2 hO hH hJ cB hps
    by_cases h7:l.length=7
    · have e7:((l.length:Int) == 7)=true:=by simp;omega
      have LF:=hid_mk (JJ.out.lift BO.out h7)
      have PU:=hid_mk (h_push base B g1 c1 H'.length H' u rfl w2 HB.out.1 HP.out (by omega) (by omega))
      have uu:=whole_box LF.out.2
      have H7:=hid_mk h7
      clear JJ BO h7 LL
      go_wp2_with fail
      refine PU.out.mono ?_
      rintro e w3 ⟨rfl,g3,c3,H3,h3,p3,hp3,n3,b3,hg3⟩
      have HB3:=hid_mk (show Hat w3 base B g3 c3 H3∧Below base w w3∧base≤w3.heap.size from ⟨h3,HB.out.2.trans (b3.below (by omega) hlr.2.1 (by omega)),by have:=b3.size;omega⟩)
      have hO2:=O2.out.lt
      have O3:=hid_mk (show w3.ownsRow base 30 1 u3 J.length (vals J)∧Off u3 B g3 from ⟨b3.own O2.out OF.out.1 OF.out.2,OF.out.1,fun e=>by
       rcases hg3 with rfl | hg3
       · exact OF.out.2 e
       · have:=(hO2 _ e).2;omega⟩)
      have J3:=hid_mk (show Joi r S J H3∧Hp H3.length H3.toArray from ⟨LF.out.1.perm p3.symm,by rw [n3];exact hp3⟩)
      have E3:=hid_mk h3.lenAt
      clear PU h3 p3 hp3 b3 hg3 HB O2 OF LF
      go_wp2
      go_roundw
      case rel=>exact ⟨J,H3,g3,c3,J3.out,HB3.out,O3.out⟩
      case measure=>rw [E3.out,ER.out,n3];have:=H7.out;omega
    · have e7:((l.length:Int) == 7)=false:=by simp;omega
      have KP:=hid_mk (JJ.out.keep BO.out h7)
      obtain ⟨q,rfl⟩:=own_some LL.out.2 hlne
      have NW:=hid_mk (own_lies LL.out.1)
      have hlv:=hid_mk (vals_len l)
      have one:=hid_mk (vals_one l)
      clear JJ BO h7 LL
      obtain ⟨i0,hi,hz0,hz1,hz2⟩:=info_parts infoFin
      go_wp2_with (at_builtin;refine wpList_append_apart rfl (.tmp 24) (.tmp 25) 24 rfl base 30 i0 (.int .u64 0) 1 8 Tryz.underlying24 hi hz0 hz1 hz2 rfl (by decide) _ _ _ rfl O2.out ⟨q,0,none⟩ l.length cs hlne (vals l) rfl (by rw [hlv.out];omega) NW.out one.out (by unfold maxLen;omega) (by omega) (by omega) ?_)
      intro v' w3 hown hgrow hat
      have hO2:=O2.out.lt
      have hl2:=HB.out.1.lt
      have H3:=hid_mk (show Hat w3 base B g1 c1 H'∧Below base w w3∧base≤w3.heap.size from ⟨by
       have b3:∀ k,k < w2.heap.size→u3.ownBlock≠some k→w3.heap[k]?=w2.heap[k]?:=fun k hk hne=>hgrow.block k hk (fun e=>hne e.symm)
       have hh:=HB.out.1
       exact ⟨by rw [World.cell?_of_block (w:=w2) (b3 B hl2.2.2 OF.out.1)];exact hh.1,by rw [World.frozen?_of_block (w:=w2) (b3 B hl2.2.2 OF.out.1)];exact hh.2.1,hh.2.2.1,hh.2.2.2.kept hgrow (.inr fun e=>OF.out.2 (by rw [← e];rfl))⟩,
       HB.out.2.grown hgrow (by omega) (fun k hk=>(hO2 k hk).1),by have:=hgrow.size;omega⟩)
      have O3:Hid (w3.ownsRow base 30 1 v' (J++l).length (vals (J++l))∧Off v' B g1):=hid_mk (by
       have e1:(J++l).length=J.length+l.length:=by simp
       have e2:vals (J++l)=vals J++vals l:=by simp [vals]
       rw [e1,e2]
       refine ⟨hown,?_⟩
       unfold Off
       rcases hat with e | e
       · rw [e];exact OF.out
       · rw [e];exact ⟨by simp;omega,by simp;omega⟩)
      have E3:=hid_mk H3.out.1.lenAt
      clear hown hgrow hat HB O2 OF NW one hO2 hl2
      go_wp2
      go_roundw
      case rel=>exact ⟨J++l,H',g1,c1,⟨KP.out,HP.out⟩,H3.out,O3.out⟩
      case measure=>rw [E3.out,ER.out];omega
end Go.Proofs.YtlfjfendlohekaaGreatDoor
