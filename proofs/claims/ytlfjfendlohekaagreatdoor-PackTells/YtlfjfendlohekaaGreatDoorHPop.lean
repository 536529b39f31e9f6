/-
  Package pack's heap of words as the call holds it: a word taken off, a word put in; all but the heap's two blocks stays; in whatever memory.
-/
import Derived.Test.YtlfjfendlohekaaGreatDoorSBrkC
import Derived.Test.YtlfjfendlohekaaGreatDoorOC
import Derived.Test.YtlfjfendlohekaaGreatDoorJn01
import Derived.Test.YtlfjfendlohekaaGreatDoorHUp
import Derived.Laws.AppendOwnNone
import Derived.Deep.AppendLies
namespace Go.Proofs.YtlfjfendlohekaaGreatDoor
open Go.RowKit
structure But (a b:Nat) (w w':World):Prop where
 os:w'.os=w.os
 tape:w'.tape=w.tape
 output:w'.output=w.output
 size:w.heap.size≤w'.heap.size
 block:∀ k,k < w.heap.size→k≠a→k≠b→w'.heap[k]?=w.heap[k]?
theorem But.refl (a b:Nat) (w:World):But a b w w:=⟨rfl,rfl,rfl,Nat.le_refl _,fun _ _ _ _=>rfl⟩
theorem But.trans {a b b':Nat} {u v w:World} (h:But a b u v) (k:But a b' v w) (hb:b'=b∨u.heap.size≤b'):But a b u w :=
 ⟨k.os.trans h.os,k.tape.trans h.tape,k.output.trans h.output,Nat.le_trans h.size k.size,fun i hi ha hib=>by
   rw [k.block i (Nat.lt_of_lt_of_le hi h.size) ha (by omega),h.block i hi ha hib]⟩
theorem But.cell {a b:Nat} {w w':World} (h:But a b w w') {p:Addr} {v:Value} (hc:w.cell? p=some v) (h1:p.block≠a) (h2:p.block≠b):w'.cell? p=some v :=
 (World.cell?_of_block (h.block p.block (World.block_lt_of_cell? _ _ hc) h1 h2)).trans hc
theorem But.below {a b B:Nat} {w w':World} (h:But a b w w') (ha:B≤a) (hb:B≤b) (hB:B≤w.heap.size):Below B w w':=⟨h.os,h.tape,h.output,h.size,fun k hk=>h.block k (by omega) (by omega) (by omega)⟩
theorem But.own {a b:Nat} {w w':World} (h:But a b w w') {base:Nat} {e:TypeId} {size:Nat} {v:Value} {n:Nat} {xs:List Value} (ho:w.ownsRow base e size v n xs) (h1:v.ownBlock≠some a) (h2:v.ownBlock≠some b):w'.ownsRow base e size v n xs:=by
 refine ⟨ho.1,?_⟩
 rcases ho.2 with hn | ⟨g,cap,cur,rfl,hb,hgg,rest⟩
 · exact .inl hn
 · refine .inr ⟨g,cap,cur,rfl,hb,?_,rest⟩
   rw [h.block g (Array.getElem?_eq_some_iff.1 hgg).1 (fun e=>h1 (by rw [e];rfl)) (fun e=>h2 (by rw [e];rfl))]
   exact hgg
theorem But.of_below {a b:Nat} {w w':World} (h:Below w.heap.size w w'):But a b w w':=⟨h.os,h.tape,h.output,h.size,fun k hk _ _=>h.block k hk⟩
theorem But.set {a b:Nat} {u w:World} (h:But a b u w) {p:Addr} (v:Value) (hp:p.block=a∨p.block=b):But a b u (w.setCell p v):=by
 refine ⟨h.os,h.tape,h.output,by simpa using h.size,fun k hk h1 h2=>?_⟩
 rw [Below.heap_setCell _ _ _ _ (by rcases hp with hp | hp <;>omega)]
 exact h.block k hk h1 h2
theorem st_but {w w':World} {a g:Nat} {d0 d:Array Int} (h:St w g 0 d0 d w'):But a g w w':=by
 obtain ⟨n,os,rfl⟩:=h.2
 refine ⟨rfl,rfl,rfl,by simp [Sort.grow,Sort.putRow,Sort.mapBlock,Sort.ahead],fun k hk _ h2=>?_⟩
 rw [Sort.heap_grow_old _ _ (by simp [Sort.putRow,Sort.mapBlock,Sort.ahead];exact hk)]
 show (w.heap.modify g _)[k]?=_
 rw [Array.getElem?_modify,if_neg (Ne.symm h2)]
theorem st_own {w w':World} {base g c n:Nat} {d d':Array Int} (hn:d.size=n) (ho:w.ownsRow base 30 1 (.slice (some ⟨g,0,none⟩) n c) n (vals d.toList)) (h:St w g 0 d d' w'):w'.ownsRow base 30 1 (.slice (some ⟨g,0,none⟩) n c) n (vals d'.toList):=by
 have hH:Sort.Holds (Value.int .u64) w g 0 d:=by have:=own_holds ho;simpa using this
 have hg:=(ho.lt g rfl).2
 have hH':=(h.hold hH hg).1
 have hs:d'.size=n:=by rw [h.1,hn]
 refine ⟨by rw [vals_len];simp [hs],.inr ?_⟩
 rcases ho.2 with ⟨e,_⟩ | ⟨g2,c2,cur,e,hb,hgg,h1,h2,h3,h4⟩
 · cases e
 simp only [Value.slice.injEq,Option.some.injEq,Addr.mk.injEq,and_true,true_and] at e
 obtain ⟨rfl,rfl⟩:=e
 obtain ⟨c',e1,e2⟩:=tag_st hg h _ _ _ hgg
 refine ⟨g,c,c',rfl,hb,e2,h1,h2,by rw [e1];exact h3,?_⟩
 refine List.ext_getElem? fun j=>?_
 rw [Nat.mul_one,List.getElem?_take]
 by_cases hj:j < n
 · rw [if_pos hj]
   have h8:=(hH' j (by omega)).1
   rw [cell_of_row w' g (0+j) c' 30 (0,0) e2,Nat.zero_add] at h8
   rw [Array.getElem?_toList,h8,vals_at _ j (by simpa [hs] using hj),getElem!_pos d' j (by omega)]
   simp
 · rw [if_neg hj,List.getElem?_eq_none (by rw [vals_len];simp [hs];omega)]
theorem own_prefix {w:World} {base g c n m:Nat} {L:List Int} (ho:w.ownsRow base 30 1 (.slice (some ⟨g,0,none⟩) n c) n (vals L)) (hm:m≤n):w.ownsRow base 30 1 (.slice (some ⟨g,0,none⟩) m c) m (vals (L.take m)):=by
 have hl:L.length=n:=by have:=ho.1;rw [vals_len] at this;omega
 rcases ho.2 with ⟨e,_⟩ | ⟨g2,c2,cur,e,hb,hgg,h1,h2,h3,h4⟩
 · cases e
 simp only [Value.slice.injEq,Option.some.injEq,Addr.mk.injEq,and_true,true_and] at e
 obtain ⟨rfl,rfl⟩:=e
 refine ⟨by rw [vals_len,List.length_take];omega,.inr ⟨g,c,cur,rfl,hb,hgg,by omega,h2,h3,?_⟩⟩
 rw [Nat.mul_one] at h4 ⊢
 have e:vals (L.take m)=(vals L).take m:=by unfold vals;rw [List.map_take]
 rw [e,← h4,List.take_take,Nat.min_eq_left hm]
def Hat (w:World) (base B g c:Nat) (L:List Int):Prop :=
 w.cell? ⟨B,0,none⟩=some (.slice (some ⟨g,0,none⟩) L.length c)∧w.frozen? ⟨B,0,none⟩=false∧B≠g∧w.ownsRow base 30 1 (.slice (some ⟨g,0,none⟩) L.length c) L.length (vals L)
theorem Hat.lt {w:World} {base B g c:Nat} {L:List Int} (h:Hat w base B g c L):g < w.heap.size∧base≤g∧B < w.heap.size:=⟨(h.2.2.2.lt g rfl).2,(h.2.2.2.lt g rfl).1,World.block_lt_of_cell? _ _ h.1⟩
theorem Hat.holds {w:World} {base B g c:Nat} {L:List Int} (h:Hat w base B g c L):Sort.Holds (Value.int .u64) w g 0 L.toArray:=own_holds h.2.2.2
theorem Hat.st {w w':World} {base B g c n:Nat} {L:List Int} {d:Array Int} (h:Hat w base B g c L) (hn:L.length=n) (hs:St w g 0 L.toArray d w'):Hat w' base B g c d.toList∧d.toList.length=n:=by
 have e:d.size=L.length:=by rw [hs.1];simp
 have hb:=st_but (a:=g) hs
 have hl:=World.block_lt_of_cell? _ _ h.1
 refine ⟨⟨?_,?_,h.2.2.1,?_⟩,by simp [e,hn]⟩
 · have:=st_cell hs h.1 h.2.2.1
   rw [this];simp [e]
 · rw [World.frozen?_of_block (hb.block B hl h.2.2.1 h.2.2.1)];exact h.2.1
 · have:=st_own (n:=L.length) (by simp) (by simpa using h.2.2.2) hs
   simpa [e] using this
theorem Hat.but {w w':World} {a b base B g c:Nat} {L:List Int} (h:Hat w base B g c L) (hb:But a b w w') (h1:B≠a) (h2:B≠b) (h3:g≠a) (h4:g≠b):Hat w' base B g c L :=
 ⟨hb.cell h.1 h1 h2,by rw [World.frozen?_of_block (hb.block B h.lt.2.2 h1 h2)];exact h.2.1,h.2.2.1,hb.own h.2.2.2 (fun e=>h3 (by simpa [Value.ownBlock] using e)) (fun e=>h4 (by simpa [Value.ownBlock] using e))⟩
theorem Hat.keep {w w':World} {base B g c:Nat} {L:List Int} (h:Hat w base B g c L) (hb:Below w.heap.size w w'):Hat w' base B g c L :=
 ⟨keepCell hb h.1,keepFrozen hb h.1 h.2.1,h.2.2.1,own_keep hb h.2.2.2⟩
set_option maxHeartbeats 8000000 in
set_option maxRecDepth 100000 in
theorem f_pop (base B g c m:Nat) (L:List Int) (x:Int) (hL:L.length=m+1) (w:World) (h:Hat w base B g c L) (hx:L[m]'(by omega)=x) (hsz:m≤1000000) :
 Calls Tryz.prog 174 #[.pointer (some ⟨B,0,none⟩)] w fun e w'=>e=.returned (.iface 30 (.int .u64 x))∧Hat w' base B g c (L.take m)∧But B g w w':=by
 have hB:=h.1
 have hF:=h.2.1
 have hc:=(own_cells h.2.2.2).2.1 m (by omega)
 rw [hx] at hc
 rw [hL] at hB
 have hle:m+1≤c:=by
  rcases h.2.2.2.2 with ⟨e,_⟩ | ⟨g2,c2,cur,e,_,_,h1,_⟩
  · cases e
  · simp only [Value.slice.injEq,true_and] at e
    rw [e.2,← hL];exact h1
 have HH:=hid_mk h
 have HL:=hid_mk hL
 clear h hL hx
 have e1:((m+1:Nat):Int) - 1=(m:Int):=by omega
 go_enter Tryz.func174,Tryz.ntmps174
 go_wp2
 go_ret
 have hl:(L.take m).length=m:=by rw [List.length_take];have:=HL.out;omega
 refine ⟨rfl,⟨?_,?_,HH.out.2.2.1,?_⟩,(But.refl _ _ _).set _ (.inl rfl)⟩
 · rw [hl];go_simp
 · go_simp
 · rw [hl]
   have hne:=HH.out.2.2.1
   refine But.own (a:=B) (b:=B) ((But.refl _ _ _).set _ (.inl rfl)) (own_prefix (by have:=HH.out.2.2.2;rw [HL.out] at this;exact this) (by omega)) (fun e=>hne (by simpa [Value.ownBlock,eq_comm] using e)) (fun e=>hne (by simpa [Value.ownBlock,eq_comm] using e))
set_option maxHeartbeats 8000000 in
set_option maxRecDepth 100000 in
theorem h_pop (base B g c m:Nat) (L:List Int) (hL:L.length=m+1) (w:World) (h:Hat w base B g c L) (hp:Hp (m+1) L.toArray) (hsz:m+1≤1000000) :
 Calls Tryz.prog 103 #[.iface 88 (.pointer (some ⟨B,0,none⟩))] w fun e w'=>∃ (x:Int) (L':List Int),e=.returned (.iface 30 (.int .u64 x))∧L.Perm (x :: L')∧(∀ y∈L',y≤x)∧L'.length=m∧Hp m L'.toArray∧Hat w' base B g c L'∧But B g w w':=by
 have hs:L.toArray.size=m+1:=by simp [hL]
 have P:=hp_pop hp hs
 have hmax:=hp_max hp hs
 obtain ⟨x,hx⟩:∃ x,L.toArray[0]! =x:=⟨_,rfl⟩
 rw [hx] at P hmax
 clear hx
 have hB:=h.1
 rw [hL] at hB
 have hl:=h.lt
 have hne:=h.2.2.1
 have mN:=m_len B w _ hB
 have mS:=m_swap B w _ hB
 have SW:=hid_mk (f_swap_at g c (m+1) (i:=0) (j:=(m:Int)) 0 m rfl rfl L.toArray w hs h.holds hl.1 (by omega) (by omega))
 have HH:=hid_mk h
 have HL:=hid_mk hL
 have HP:=hid_mk P
 have HM:=hid_mk hmax
 have e1:((m+1:Nat):Int) - 1=(m:Int):=by omega
 clear h hL hp P hmax
 go_enter Tryz.func103,Tryz.ntmps103
 go_wp2_with fail
 refine (f_len _ _ _ _).mono ?_
 rintro e w0 ⟨rfl,rfl⟩
 go_wp2_with fail
 refine SW.out.mono ?_
 rintro e w1 ⟨rfl,h1⟩
 have hH1:=HH.out.st HL.out h1
 have hb1:=st_but (a:=B) h1
 have hl1:=hH1.1.lt
 have DN:=hid_mk (h_down B g c (m+1) 0 m (Sort.swp L.toArray 0 m) (by rw [Sort.size_swp];simp [HL.out]) w1 (by have:=hH1.1.1;rwa [hH1.2] at this) hne (by have:=hH1.1.holds;simpa using this) hl1.1 (by omega) hsz (Nat.zero_le _))
 have hH1':=hid_mk hH1
 have hb1':=hid_mk hb1
 clear SW h1 mN mS hB hH1 hb1 hl1
 go_wp2_with fail
 refine DN.out.mono ?_
 rintro e w2 ⟨⟨b,rfl⟩,h2⟩
 have h2':St w1 g 0 (Sort.swp L.toArray 0 m).toList.toArray (popD m L.toArray) w2:=by simpa [popD] using h2
 have hH2:=hH1'.out.1.st hH1'.out.2 h2'
 have hb2:=hid_mk (hb1'.out.trans (st_but (a:=B) h2) (.inl rfl))
 have hsd:(popD m L.toArray).size=m+1:=HP.out.1
 have PO:=hid_mk (f_pop base B g c m (popD m L.toArray).toList x hH2.2 w2 hH2.1 (by have:=HP.out.2.1;rw [getElem!_pos _ m (by omega)] at this;simpa using this) (by omega))
 have mP:=m_pop B w2
 clear DN h2 h2' hH2 hH1' hb1'
 go_wp2_with fail
 refine PO.out.mono ?_
 rintro e w3 ⟨rfl,h3,hb3⟩
 have h3':=hid_mk h3
 have hb3':=hid_mk (hb2.out.trans hb3 (.inl rfl))
 clear PO mP h3 hb3 hb2
 go_wp2
 go_ret
 have p:=HP.out.2.2.2.1
 have p:L.Perm (x :: (popD m L.toArray).toList.take m):=p
 refine ⟨x,_,rfl,p,fun y hy=>HM.out y ?_,HP.out.2.2.2.2,HP.out.2.2.1,h3'.out,hb3'.out⟩
 show y∈L
 exact p.mem_iff.2 (List.mem_cons_of_mem _ hy)
theorem as_u64 (x:Int) (w:World):(Instr.typeAssert (.iface 30 (.int .u64 x)) 20 30 false).run Tryz.prog w=.ok (.int .u64 x) w:=by kernel_rfl
set_option maxHeartbeats 8000000 in
set_option maxRecDepth 100000 in
theorem f_next (base B g c m:Nat) (L:List Int) (hL:L.length=m+1) (w:World) (h:Hat w base B g c L) (hp:Hp (m+1) L.toArray) (hsz:m+1≤1000000) :
 Calls Tryz.prog 80 #[.pointer (some ⟨B,0,none⟩)] w fun e w'=>∃ (x:Int) (L':List Int),e=.returned (.int .u64 x)∧L.Perm (x :: L')∧(∀ y∈L',y≤x)∧L'.length=m∧Hp m L'.toArray∧Hat w' base B g c L'∧But B g w w':=by
 have PO:=hid_mk (h_pop base B g c m L hL w h hp hsz)
 clear h hp hL
 go_enter Tryz.func80,Tryz.ntmps80
 go_wp2_with fail
 refine PO.out.mono ?_
 rintro e w1 ⟨x,L',rfl,h1⟩
 have h1':=hid_mk h1
 clear PO h1
 have hA:=as_u64 x w1
 go_wp2
 go_ret
 exact ⟨x,L',rfl,h1'.out⟩
theorem keep_far {w w6:World} {row:Option Nat} {p:Addr} {v:Value} (hg:w.grownBy w6 row) (hne:some p.block≠row) (h:w.cell? p=some v∧w.frozen? p=false):w6.cell? p=some v∧w6.frozen? p=false :=
 ⟨hg.cell h.1 hne,by rw [World.frozen?_of_block (hg.block p.block (World.block_lt_of_cell? _ _ h.1) hne)];exact h.2⟩
theorem infoFin:(Tryz.prog.info? 30).map (fun i=>(i.zero,i.size,i.bytes))=some (some (.int .u64 0),1,8):=by kernel_rfl
set_option maxHeartbeats 8000000 in
set_option maxRecDepth 100000 in
theorem f_push (base B g c:Nat) (L:List Int) (x:Int) (w:World) (h:Hat w base B g c L) (hbase:base≤w.heap.size) (hsz:L.length≤100000) :
 Calls Tryz.prog 175 #[.pointer (some ⟨B,0,none⟩),.iface 30 (.int .u64 x)] w fun e w'=>e=.returned (.tuple #[])∧∃ g' c',Hat w' base B g' c' (L++[x])∧But B g w w'∧(g'=g∨w.heap.size≤g'):=by
 have hB:=h.1
 have hF:=h.2.1
 have HH:=hid_mk h
 have hO:=hid_mk h.2.2.2
 have hl:=h.lt
 obtain ⟨n,hn⟩:∃ n,L.length=n:=⟨_,rfl⟩
 have HN:=hid_mk hn
 have hA:=as_u64 x
 rw [hn] at hB hO hsz
 have hBa:=keepCell (allocB w (.cells #[.int .u64 x] 30)) hB
 have hFa:=keepFrozen (allocB w (.cells #[.int .u64 x] 30)) hB hF
 have hOa:=hid_mk (own_keep (allocB w (.cells #[.int .u64 x] 30)) hO.out)
 have hne:B≠g:=h.2.2.1
 have CS:=hid_mk (And.intro hBa hFa)
 have hneQ:some (⟨B,0,none⟩:Addr).block≠(Value.slice (some ⟨g,0,none⟩) n c).ownBlock:=by simpa [Value.ownBlock] using hne
 clear h hn
 obtain ⟨i0,hi,hz0,hz1,hz2⟩:=info_parts infoFin
 go_enter Tryz.func175,Tryz.ntmps175
 go_wp2_with fail
 go_region_law ((refine step_append_lies _ (by rfl) _ _ _ (by rfl) base 30 i0 (.int .u64 0) 1 8 Tryz.underlying86 hi hz0 hz1 hz2 rfl (by decide) _ n (vals L) (by rfl) hOa.out ⟨w.heap.size,0,none⟩ 1 1 [.int .u64 x] (by rfl) rfl (one_lies w.drew w.heap.size rfl (.int .u64 x) 30) (one_int _ _) (by decide) (by unfold maxLen;omega) (by omega) (by simp;omega) (w.heap.size+1) (by simp) ?_;intro g6 c6 w6 hown hgrow hat hlt6;obtain ⟨cs6,fs6⟩:=keep_far hgrow hneQ CS.out))
 all_goals
  have hg6:B≠g6∧(g6=g∨w.heap.size≤g6):=by
   rcases hat with h | h
   · simp only [Value.ownBlock,Option.some.injEq] at h
     exact ⟨by omega,.inl h.symm⟩
   · exact ⟨by omega,.inr (by omega)⟩
  have hb6:But B g w w6:=by
   have b0:=allocB w (.cells #[.int .u64 x] 30)
   have b1:But B g w (w.alloc (.cells #[.int .u64 x] 30)).drew:=⟨b0.os,b0.tape,b0.output,b0.size,fun k hk _ _=>b0.block k hk⟩
   refine b1.trans (b':=g) ⟨hgrow.os,hgrow.tape,hgrow.output,hgrow.size,fun k hk _ h2=>hgrow.block k hk (by simp [Value.ownBlock];exact h2)⟩ (.inl rfl)
  have FIN:=hid_mk (And.intro hown (And.intro hg6 hb6))
  have CF:=hid_mk (And.intro cs6 fs6)
  clear hown hgrow hat hg6 hb6
  go_wp2_with fail
  go_end0
  obtain ⟨ho,hg6,hb6⟩:=FIN.out
  have hl6:(L++[x]).length=n+1:=by simp [HN.out]
  have hv:vals (L++[x])=vals L++[.int .u64 x]:=by simp [vals]
  refine ⟨rfl,g6,c6,⟨?_,?_,hg6.1,?_⟩,hb6.set _ (.inl rfl),hg6.2⟩
  · rw [hl6]
    have:=CF.out.1
    go_simp
  · have:=CF.out.2
    go_simp
  · rw [hl6,hv]
    exact (But.own (a:=B) (b:=B) ((But.refl _ _ _).set _ (.inl rfl)) ho (fun e=>hg6.1 (by simpa [Value.ownBlock,eq_comm] using e)) (fun e=>hg6.1 (by simpa [Value.ownBlock,eq_comm] using e)))
set_option maxHeartbeats 8000000 in
set_option maxRecDepth 100000 in
theorem h_push (base B g c n:Nat) (L:List Int) (x:Int) (hn:L.length=n) (w:World) (h:Hat w base B g c L) (hp:Hp n L.toArray) (hbase:base≤w.heap.size) (hsz:n≤100000) :
 Calls Tryz.prog 55 #[.iface 88 (.pointer (some ⟨B,0,none⟩)),.iface 30 (.int .u64 x)] w fun e w'=>e=.returned (.tuple #[])∧∃ g' c' L',Hat w' base B g' c' L'∧L'.Perm (x :: L)∧Hp (n+1) L'.toArray∧L'.length=n+1∧But B g w w'∧(g'=g∨w.heap.size≤g'):=by
 have hP:=hid_mk (hp_push hp (by simp [hn]) x)
 have FP:=hid_mk (f_push base B g c L x w h hbase (by omega))
 have HN:=hid_mk hn
 have mP:=m_push B w
 clear h hp hn
 go_enter Tryz.func55,Tryz.ntmps55
 go_wp2_with fail
 refine FP.out.mono ?_
 rintro e w1 ⟨rfl,g1,c1,h1,hb1,hg1⟩
 have hl1:(L++[x]).length=n+1:=by simp [HN.out]
 have hB1:=h1.1
 rw [hl1] at hB1
 have mN:=m_len B w1 _ hB1
 have hsd:((L++[x]).toArray).size=n+1:=by simp [HN.out]
 have UP:=hid_mk (h_up B g1 c1 (n+1) n (L++[x]).toArray hsd w1 hB1 h1.2.2.1 h1.holds h1.lt.1 (by omega) (by omega))
 have H1:=hid_mk (And.intro h1 (And.intro hb1 hg1))
 have e1:((n+1:Nat):Int) - 1=(n:Int):=by omega
 clear FP mP h1 hb1 hg1 hB1
 go_wp2_with fail
 refine (f_len _ _ _ _).mono ?_
 rintro e w2 ⟨rfl,rfl⟩
 go_wp2_with fail
 refine UP.out.mono ?_
 rintro e w3 ⟨rfl,h3⟩
 have HS:=hid_mk h3
 clear UP h3 mN
 go_wp2_with fail
 go_end0
 obtain ⟨h1,hb1,hg1⟩:=H1.out
 have h4:=h1.st hl1 HS.out
 have e2:(L++[x]).toArray=L.toArray.push x:=by simp
 have hp:=hP.out
 rw [← e2] at hp
 exact ⟨rfl,g1,c1,_,h4.1,by simpa using hp.2.1,by simpa using hp.1,h4.2,hb1.trans (st_but HS.out) hg1,hg1⟩
end Go.Proofs.YtlfjfendlohekaaGreatDoor
