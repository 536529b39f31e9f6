/-
  Package pack's heap of words: brothers taken off; in whatever memory.
-/
import Derived.Test.YtlfjfendlohekaaGreatDoorM2C
import Derived.Test.YtlfjfendlohekaaGreatDoorI2C
import Derived.Test.YtlfjfendlohekaaGreatDoorHPop
namespace Go.Proofs.YtlfjfendlohekaaGreatDoor
open Go.RowKit
theorem But.grown {a b:Nat} {u w w':World} {row:Option Nat} (h:But a b u w) (hg:w.grownBy w' row) (hr:∀ k,row=some k→u.heap.size≤k):But a b u w' :=
 ⟨hg.os.trans h.os,hg.tape.trans h.tape,hg.output.trans h.output,Nat.le_trans h.size hg.size,fun k hk h1 h2=>by
   rw [hg.block k (Nat.lt_of_lt_of_le hk h.size) (fun e=>by have:=hr k e.symm;omega),h.block k hk h1 h2]⟩
theorem But.new {a b:Nat} {u w w':World} (h:But a b u w) (hb:Below w.heap.size w w'):But a b u w' :=
 ⟨hb.os.trans h.os,hb.tape.trans h.tape,hb.output.trans h.output,Nat.le_trans h.size hb.size,fun k hk h1 h2=>by
   rw [hb.block k (Nat.lt_of_lt_of_le hk h.size),h.block k hk h1 h2]⟩
theorem Hat.grown {w w':World} {base B g c C:Nat} {L:List Int} {row:Option Nat} (h:Hat w base B g c L) (hg:w.grownBy w' row) (hr:∀ k,row=some k→C≤k) (hB:B < C) (hgC:g < C):Hat w' base B g c L:=by
 have hlt:=h.lt
 have e1:w'.heap[B]?=w.heap[B]?:=hg.block B hlt.2.2 (fun e=>by have:=hr B e.symm;omega)
 refine ⟨by rw [World.cell?_of_block (w:=w) e1];exact h.1,by rw [World.frozen?_of_block (w:=w) e1];exact h.2.1,h.2.2.1,h.2.2.2.kept hg (.inr fun e=>by have:=hr g (by rw [← e];rfl);omega)⟩
def lenAt (w:World) (B:Nat):Nat:=match w.cell? ⟨B,0,none⟩ with
 | some (.slice _ n _)=>n
 | _=>0
theorem Hat.lenAt {w:World} {base B g c:Nat} {L:List Int} (h:Hat w base B g c L):lenAt w B=L.length:=by unfold Go.Proofs.YtlfjfendlohekaaGreatDoor.lenAt;rw [h.1]
theorem top_max {L L':List Int} {x t:Int} (hp:L.Perm (x :: L')) (hm:∀ y∈L',y≤x) (ht:t∈L) (htm:∀ y∈L,y≤t):x=t:=by
 have h1:=htm x (hp.mem_iff.2 (List.mem_cons_self ..))
 rcases List.mem_cons.1 (hp.mem_iff.1 ht) with e | e
 · exact e.symm
 · have:=hm t e;omega
set_option maxHeartbeats 8000000 in
set_option maxRecDepth 100000 in
theorem f_brothers (base B g c:Nat) (L:List Int) (hw:∀ x∈L,Whole x) (hnd:L.Nodup) (w:World) (h:Hat w base B g c L) (hp:Hp L.length L.toArray) (h0:0 < L.length) (hsz:L.length≤100000) :
 Calls Tryz.prog 54 #[.pointer (some ⟨B,0,none⟩)] w fun e w'=>∃ (sl:Value) (u:Int) (l L':List Int),e=.returned (.tuple #[sl,.int .u64 u])∧Bro L l u L'∧Hat w' base B g c L'∧Hp L'.length L'.toArray∧w'.ownsRow w.heap.size 30 1 sl l.length (vals l)∧But B g w w':=by
 obtain ⟨m,hm⟩:∃ m,L.length=m+1:=⟨L.length - 1,by omega⟩
 rw [hm] at hp hsz
 have hl:=h.lt
 have NX:=hid_mk (f_next base B g c m L hm w h hp (by omega))
 have HW:=hid_mk hw
 have HD:=hid_mk hnd
 have HM:=hid_mk hm
 obtain ⟨i0,hi,hz0,hz1,hz2⟩:=info_parts infoFin
 clear h hp hw hnd hm h0
 go_enter Tryz.func54,Tryz.ntmps54
 go_wp2_with fail
 refine NX.out.mono ?_
 rintro e w1 ⟨x,C1,rfl,p1,x1,n1,hp1,h1,b1⟩
 have hx:Whole x:=HW.out x (p1.mem_iff.2 (List.mem_cons_self ..))
 have ux:=whole_box hx
 have hbase:=h1.lt
 have hs1:=b1.size
 have hO1:(w1.alloc (.cells #[.int .u64 x] 30)).ownsRow w.heap.size 30 1 (.slice (some ⟨w1.heap.size,0,none⟩) 1 1) 1 (vals [x]):=World.ownsRow_lit _ #[.int .u64 x] 1 hs1 (by unfold maxLen;omega) rfl
 have F1:=hid_mk (And.intro p1 (And.intro x1 (And.intro n1 hp1)))
 have H1:=hid_mk (And.intro (h1.keep (allocB w1 (.cells #[.int .u64 x] 30))) (b1.new (allocB w1 (.cells #[.int .u64 x] 30))))
 have O1:=hid_mk hO1
 clear NX p1 x1 n1 hp1 h1 b1 hO1
 by_cases hr:wR x=0
 · have PT:=hid_mk (iparent_top x hx hr)
   clear hx
   go_wp2_with fail
   refine (PT.out _).mono ?_
   rintro e w2 ⟨rfl,d2⟩
   have H2:=hid_mk (And.intro (H1.out.1.keep d2) (H1.out.2.new d2))
   have O2:=hid_mk (own_keep d2 O1.out)
   clear PT H1 O1 d2
   go_wp2
   go_ret2
   refine ⟨_,_,[x],C1,rfl,bro_top HD.out F1.out.1 F1.out.2.1 hr,H2.out.1,by rw [F1.out.2.2.1];exact F1.out.2.2.2,O2.out,H2.out.2⟩
 · have hb:=wR_box x
   have hr0:0 < wR x:=by omega
   have PT:=hid_mk (iparent_yes x hx hr0)
   have TK:=hid_mk (Taking.start HW.out HD.out F1.out.1 F1.out.2.1 hr0)
   have hu:=up_whole hx hr0
   have uu:=whole_box hu.1
   have HU:=hid_mk hu.1
   clear hx hu
   obtain ⟨u,eu⟩:∃ u,upW x=u:=⟨_,rfl⟩
   rw [eu] at PT TK uu HU
   clear eu hr hr0 hb
   go_wp2_with fail
   refine (PT.out _).mono ?_
   rintro e w2 ⟨rfl,d2⟩
   have H2:=hid_mk (And.intro (H1.out.1.keep d2) (H1.out.2.new d2))
   have O2:=hid_mk (own_keep d2 O1.out)
   clear PT H1 O1 d2
   go_wp2_with fail
   go_loopw [4] (fun v4 wr=>∃ (l C:List Int),Hid (Taking L l u C∧Hp C.length C.toArray)∧Hid (Hat wr base B g c C∧But B g w wr)∧Hid (wr.ownsRow w.heap.size 30 1 v4 l.length (vals l))) (fun _ wr=>lenAt wr B)
   case atStart=>exact ⟨[x],C1,⟨TK.out,by rw [F1.out.2.2.1];exact F1.out.2.2.2⟩,H2.out,O2.out⟩
   case round =>
    clear TK F1 H2 O2
    obtain ⟨l,C,hT,hH,hO⟩:=hrel
    have cB:=hH.out.1.1
    have hsr:=hH.out.2.size
    have hlC:l.length+C.length=m+1:=by have:=hT.out.1.1.length_eq;rw [List.length_append,HM.out] at this;omega
    cases hC:C.length with
    | zero =>
     have hnil:C=[]:=List.length_eq_zero_iff.1 hC
     have BR:=hid_mk (hT.out.1.done HU.out (.inl hnil))
     have HC:=hid_mk hT.out.2
     rw [hC] at cB
     clear hT hC hnil hlC
     go_wp2
     go_ret2
     exact ⟨_,_,l,C,rfl,BR.out,hH.out.1,HC.out,hO.out,hH.out.2⟩
    | succ k =>
     rw [hC] at cB
     have hk1:k+1≤m+1:=by omega
     have ER:=hid_mk (hH.out.1.lenAt.trans hC)
     have h0C:0 < C.length:=by omega
     obtain ⟨t,ht⟩:∃ t,C[0]'h0C=t:=⟨_,rfl⟩
     have cT:=(own_cells hH.out.1.2.2.2).2.1 0 h0C
     rw [ht] at cT
     have tC:t∈C:=by rw [← ht];exact List.getElem_mem h0C
     have tmax:∀ y∈C,y≤t:=by
      have:=hp_max hT.out.2 (by simp)
      have e:C.toArray[0]! =t:=by rw [getElem!_pos _ 0 (by simpa using h0C)];simpa using ht
      rw [e] at this
      simpa using this
     have hW:=HW.out t (hT.out.1.1.mem_iff.2 (List.mem_append_right _ tC))
     have ut:=whole_box hW
     have TM:=hid_mk (And.intro tC tmax)
     have HC:=hid_mk hC
     clear tC tmax ht hC h0C
     by_cases hr:wR t=0
     · have PT:=hid_mk (iparent_top t hW hr)
       have BR:=hid_mk (hT.out.1.done HU.out (.inr ⟨t,TM.out.1,TM.out.2,fun h=>by omega⟩))
       have HP:=hid_mk hT.out.2
       have u0:((0:Int) == u)=false:=by have:=whole_pos HU.out;simp;omega
       clear hW hT hr TM
       go_wp2_with fail
       refine (PT.out _).mono ?_
       rintro e w3 ⟨rfl,d3⟩
       have H3:=hid_mk (And.intro (hH.out.1.keep d3) (hH.out.2.new d3))
       have O3:=hid_mk (own_keep d3 hO.out)
       clear PT hH hO d3
       go_wp2
       go_ret2
       exact ⟨_,_,l,C,rfl,BR.out,H3.out.1,HP.out,O3.out,H3.out.2⟩
     · have hb:=wR_box t
       have hr0:0 < wR t:=by omega
       have PT:=hid_mk (iparent_yes t hW hr0)
       have u2:=whole_box (up_whole hW hr0).1
       clear hW hr hb
       obtain ⟨q,eq⟩:∃ q,upW t=q:=⟨_,rfl⟩
       have EQ:=hid_mk eq
       rw [eq] at PT u2
       clear eq
       by_cases hqu:q=u
       · subst hqu
         go_wp2_with fail
         refine (PT.out _).mono ?_
         rintro e w3 ⟨rfl,d3⟩
         have H3:=hid_mk (And.intro (hH.out.1.keep d3) (hH.out.2.new d3))
         have O3:=hid_mk (own_keep d3 hO.out)
         have NX:=hid_mk (f_next base B g c k C HC.out w3 H3.out.1 (by have:=hT.out.2;rwa [HC.out] at this) (by omega))
         clear PT hH hO d3 cB cT
         obtain ⟨p4,c4,rfl,-⟩:=own_slice O3.out
         go_wp2_with fail
         refine NX.out.mono ?_
         rintro e w4 ⟨y,C4,rfl,p4',y4,n4,hp4,h4,b4⟩
         have ey:=top_max p4' y4 TM.out.1 TM.out.2
         subst ey
         have TN:=hid_mk (hT.out.1.next p4' y4 hr0 EQ.out)
         have hlO:=O3.out.lt
         have O4:=hid_mk (b4.own O3.out (fun e=>by have:=(hlO _ e).1;omega) (fun e=>by have:=(hlO _ e).1;omega))
         have H4:=hid_mk (And.intro h4 (H3.out.2.trans b4 (.inl rfl)))
         have HP4:=hid_mk (show Hp C4.length C4.toArray by rw [n4];exact hp4)
         have hs4:=H4.out.2.size
         have hl4:=hid_mk n4
         clear NX p4' y4 n4 hp4 h4 b4 hT H3 O3 hlO TM
         go_wp2_with (at_builtin;refine wpList_append_own _ rfl (.tmp 39) (.tmp 42) 24 rfl w.heap.size 30 i0 (.int .u64 0) 1 8 Tryz.underlying24 hi hz0 hz1 hz2 rfl (by decide) _ _ _ rfl (own_keep (allocB _ _) O4.out) ⟨w4.heap.size,0,none⟩ 1 1 [.int .u64 y] rfl rfl (one_lies _ _ rfl _ _) (one_int _ _) (by unfold maxLen;omega) (by omega) (by simp;omega) ?_)
         intro v' w5 hown hgrow _
         have hlO:=O4.out.lt
         have H5:=hid_mk (And.intro ((H4.out.1.keep (allocB w4 (.cells #[.int .u64 y] 30))).grown hgrow (C:=w.heap.size) (fun k hk=>(hlO k hk).1) (by omega) (by omega)) ((H4.out.2.new (allocB w4 (.cells #[.int .u64 y] 30))).grown hgrow (fun k hk=>(hlO k hk).1)))
         have O5:Hid (w5.ownsRow w.heap.size 30 1 v' (l++[y]).length (vals (l++[y]))):=hid_mk (by
          have e1:(l++[y]).length=l.length+1:=by simp
          have e2:vals (l++[y])=vals l++[.int .u64 y]:=by simp [vals]
          rw [e1,e2];exact hown)
         have e5:=H5.out.1.lenAt
         clear hown hgrow H4 O4 hlO
         go_wp2
         go_roundw
         case rel=>exact ⟨l++[y],C4,⟨TN.out,HP4.out⟩,H5.out,O5.out⟩
         case measure=>rw [e5,hl4.out,ER.out];omega
       · have BR:=hid_mk (hT.out.1.done HU.out (.inr ⟨t,TM.out.1,TM.out.2,fun h=>hqu (by rw [← EQ.out];exact h.2)⟩))
         have HP:=hid_mk hT.out.2
         have u0:(q == u)=false:=by simp;exact hqu
         clear hT TM hqu EQ
         go_wp2_with fail
         refine (PT.out _).mono ?_
         rintro e w3 ⟨rfl,d3⟩
         have H3:=hid_mk (And.intro (hH.out.1.keep d3) (hH.out.2.new d3))
         have O3:=hid_mk (own_keep d3 hO.out)
         clear PT hH hO d3
         go_wp2
         go_ret2
         exact ⟨_,_,l,C,rfl,BR.out,H3.out.1,HP.out,O3.out,H3.out.2⟩
end Go.Proofs.YtlfjfendlohekaaGreatDoor
