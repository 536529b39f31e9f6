/-
  What Set of package cells tells of a list of words: the same words, rising, each once, in a row of new memory; in whatever memory.
-/
import Derived.Test.YtdklpgphmoaniabGreatDoorJn36
import Derived.Deep.OwnRows
import Derived.Test.YtdklpgphmoaniabGreatDoorI2X
import Derived.Test.YtdklpgphmoaniabGreatDoorJn28
namespace Go.Proofs.YtdklpgphmoaniabGreatDoor
open Go.RowKit
def TellsSet (C:Nat) (X:List Int) (e:Ending) (w:World):Prop:=∃ (g cap:Nat) (L:List Int),e=.returned (.slice (some ⟨g,0,none⟩) L.length cap)∧C≤g∧L.length≤cap∧Rising L∧(∀ x,x∈L↔x∈X)∧L.length≤X.length∧∀ (j:Nat) (hj:j < L.length),w.cell? ⟨g,0+j,none⟩=some (.int .u64 L[j])
def TellsOwn (C:Nat) (X:List Int) (e:Ending) (w:World):Prop:=∃ (g cap:Nat) (L:List Int),e=.returned (.slice (some ⟨g,0,none⟩) L.length cap)∧Rising L∧(∀ x,x∈L↔x∈X)∧L.length≤X.length∧w.ownsRow C 36 1 (.slice (some ⟨g,0,none⟩) L.length cap) L.length (vals L)
theorem TellsOwn.set {C:Nat} {X:List Int} {e:Ending} {w:World} (h:TellsOwn C X e w):TellsSet C X e w:=by
 obtain ⟨g,cap,L,h1,h2,h3,h4,h5⟩:=h
 have hc:=own_cells h5
 refine ⟨g,cap,L,h1,hc.2.2.1,?_,h2,h3,h4,fun j hj=>by rw [Nat.zero_add];exact hc.2.1 j hj⟩
 rcases h5.2 with ⟨e1,_⟩ | ⟨g2,c2,cur,e1,_,_,hl,_⟩
 · cases e1
 · simp only [Value.slice.injEq,true_and] at e1
   rw [e1.2];exact hl
theorem putRow_below (w:World) (g off q:Nat) (d:Array Int):Below g w (Sort.putRow (Value.int .u64) (Sort.ahead w q) g off d):=by
 refine ⟨rfl,rfl,rfl,by simp [Sort.putRow,Sort.mapBlock,Sort.ahead],fun k hk=>?_⟩
 show (w.heap.modify g _)[k]?=_
 rw [Array.getElem?_modify,if_neg (by omega)]
theorem holds_of_block {w:World} {g:Nat} {X:List Int} (h:w.heap[g]?=some (.cells (vals X).toArray 36 (0,0))):Sort.Holds (Value.int .u64) w g 0 X.toArray:=fun j hj=>by
 have hj':j < X.length:=by simpa using hj
 refine ⟨?_,?_⟩
 · rw [cell_of_row w g (0+j) _ 36 (0,0) h,Nat.zero_add]
   simp [vals,hj']
 · simp [World.frozen?,h]
theorem set_done {X:List Int} {d:Array Int} {n:Nat} (hX:X.length=n) (hs:Sorts 0 n X.toArray d) (hd:d.size=n):Rising (Lib.compactUpTo d d.size)∧(∀ x,x∈Lib.compactUpTo d d.size↔x∈X)∧(Lib.compactUpTo d d.size).length≤X.length:=by
 have hl:=sorts_list hX hs
 have f:=upto_facts (d:=d) (fun i j h1 h2=>by
  have:=sorted_le hs.2 (i:=i) (j:=j) (Nat.zero_le _) h1 (by omega)
  exact this) d.size (Nat.le_refl _)
 refine ⟨f.1,fun x=>?_,by omega⟩
 rw [f.2.1 x,← hl.1.mem_iff,List.mem_iff_getElem]
 constructor
 · rintro ⟨j,hj,e⟩
   refine ⟨j,by simpa using hj,?_⟩
   rw [← e]
   simp [hj]
 · rintro ⟨j,hj,e⟩
   have hj':j < d.size:=by simpa using hj
   refine ⟨j,hj',?_⟩
   rw [← e]
   simp [hj']
set_option maxHeartbeats 4000000 in
set_option maxRecDepth 20000 in
theorem cset_row (s:Value) (X:List Int) (hn:X.length≤50000) (w:World) (hl:Lst w s X) :
 Calls Tryz.prog 32 #[s] w fun e w'=>TellsOwn w.heap.size X e w'∧Below w.heap.size w w':=by
 obtain ⟨p,cap,rfl,-,hc⟩:=hl
 obtain ⟨n,hX⟩:∃ n,X.length=n:=⟨_,rfl⟩
 have HC:=hidd hc
 have HX:=hidd hX
 rw [hX] at hn ⊢
 clear hX hc
 have hmk:=fun w=>run_make_row' (P:=Tryz.prog) 26 36 (.int .u64 0) 8 Tryz.underlying26 infoU64 rfl .i64 .i64 n (by omega) (by omega) w
 obtain ⟨w6,hcopy,hrow,hB6⟩:∃ w6,(∀ ty,(Builtin.copy_ #[26,26] ty #[.slice (some ⟨w.heap.size,0,none⟩) n n,.slice p n cap]).run Tryz.prog (w.alloc (.cells (madeCells #[.int .u64 0] n) 36))=.ok (.int .i64 (n:Int)) w6) ∧
  Hid (w6.heap[w.heap.size]?=some (.cells (vals X).toArray 36 (0,0)))∧Hid (Below w.heap.size w w6):=by
  have hinf:(Tryz.prog.info? 36).map (·.size)=some 1:=by kernel_rfl
  have hblk:(w.alloc (.cells (madeCells #[.int .u64 0] n) 36)).heap[w.heap.size]?=some (.cells (madeCells #[.int .u64 0] n) 36 (0,0)):=by show (w.heap.push _)[w.heap.size]?=_;simp
  by_cases h0:n=0
  · subst h0
    refine ⟨w.alloc (.cells (madeCells #[.int .u64 0] 0) 36),fun ty=>run_copy_none _ _ _ ty _ _ _ _ _ _ _ Tryz.underlying26 hinf rfl,hidd ?_,hidd (allocB w _)⟩
    have:X=[]:=List.length_eq_zero_iff.1 HX.out
    subst this
    rw [hblk]
    simp [madeCells,vals]
  · obtain ⟨g,o,rfl,-⟩:=HC.out 0 (by rw [HX.out];omega)
    have hlen:(vals X).length=Nat.min n n:=by rw [vals_len,HX.out];show _=min n n;omega
    have hsrc:∀ j v,(vals X)[j]?=some v→(w.alloc (.cells (madeCells #[.int .u64 0] n) 36)).cell? ((⟨g,o,none⟩:Addr).add j)=some v:=fun j v hj=>by
     have hj':j < X.length:=by rw [List.getElem?_eq_some_iff] at hj;rw [← vals_len];exact hj.1
     obtain ⟨g',o',e,hcj⟩:=HC.out j hj'
     simp only [Option.some.injEq,Addr.mk.injEq,and_true] at e
     obtain ⟨rfl,rfl⟩:=e
     rw [vals_at X j hj'] at hj
     rw [Go.WideShapes.add_plain,keepCell (allocB w _) hcj,hj]
    have hrun:=fun ty=>run_copy_row (P:=Tryz.prog) (w.alloc (.cells (madeCells #[.int .u64 0] n) 36)) 26 26 ty 36 w.heap.size 0 n n ⟨g,o,none⟩ n cap (madeCells #[.int .u64 0] n) 36 (vals X) Tryz.underlying26 hinf hblk hlen hsrc (by rw [vals_len,HX.out,size_madeCells];omega) (vals_one X)
    have ec:goInt ((vals X).length:Nat)=.int .i64 (n:Int):=by rw [vals_len,HX.out];rfl
    refine ⟨_,fun ty=>by rw [hrun ty,ec],hidd ?_,hidd (below_setRow (allocB w _) (Nat.le_refl _) _)⟩
    rw [setRow_heap _ _ _ _ 36 (0,0) hblk]
    congr 2
    simp [vals_len,HX.out,size_madeCells]
 have hH:=holds_of_block hrow.out
 have hsz:w.heap.size < w6.heap.size:=(Array.getElem?_eq_some_iff.1 hrow.out).1
 have SO:=hidd (u_sort w.heap.size 0 n n X.toArray (by simp [HX.out]) w6 hH hsz (by omega))
 clear hH HC
 go_enter Tryz.func32,Tryz.ntmps32
 go_wp2_with fail
 refine SO.out.mono ?_
 rintro e w7 ⟨rfl,d,hS,hR⟩
 have hd:d.size=n:=(sorts_list HX.out hS).2.2
 have hB7:=hB6.out.trans hR.2.2.1
 have hT7:Hid (∃ c',c'.size=n∧w7.heap[w.heap.size]?=some (.cells c' 36 (0,0))):=by
  obtain ⟨c',h1,h2⟩:=hR.2.2.2 _ _ _ hrow.out
  exact ⟨c',by rw [h1];simp [vals_len,HX.out],h2⟩
 have CM:=ucompact_arr w.heap.size 0 n d w7 hR.2.1 (by omega) (by omega)
 have DN:=hidd (set_done HX.out hS hd)
 have HH:=hidd hR.2.1
 rw [hd] at CM
 have HD:=hidd hd
 replace CM:=hidd CM
 clear hS hR SO hB6 hrow hsz hcopy hmk
 go_wp2_with fail
 refine CM.out.mono ?_
 rintro e w8 ⟨rfl,q,hw8⟩
 have hT8:Hid (∃ c',c'.size=n∧w8.heap[w.heap.size]?=some (.cells c' 36 (0,0))):=by
  obtain ⟨c1,h1,h2⟩:=hT7.out
  rw [hw8]
  obtain ⟨c2,h3,h4⟩:=tag_put w7 w.heap.size 0 q (Lib.compactUpTo d n++List.replicate (n - (Lib.compactUpTo d n).length) 0).toArray _ _ _ h2
  exact ⟨c2,h3.trans h1,h4⟩
 have hp8:Below w.heap.size w7 w8:=by rw [hw8];exact putRow_below w7 w.heap.size 0 q _
 have hB8:=hB7.trans hp8
 have hd:=HD.out
 have hsz2:(Lib.compactUpTo d n++List.replicate (n - (Lib.compactUpTo d n).length) 0).toArray.size=d.size:=by
  have:=DN.out.2.2
  rw [hd,HX.out] at this
  simp;omega
 have hH8:=Sort.holds_putRow (Value.int .u64) (Sort.ahead w7 q) w.heap.size 0 d _ (Sort.holds_ahead (Value.int .u64) w7 q w.heap.size 0 d HH.out) hsz2
 rw [← hw8] at hH8
 replace hH8:=hidd hH8
 replace hw8:=hidd hw8
 clear CM
 go_wp2
 go_ret
 have dn:=DN.out
 rw [hd] at dn
 have hle:=dn.2.2
 rw [HX.out] at hle
 obtain ⟨c8,e8,t8⟩:=hT8.out
 refine ⟨⟨w.heap.size,n,_,rfl,dn.1,dn.2.1,dn.2.2,by rw [vals_len];omega,.inr ⟨w.heap.size,n,c8,rfl,Nat.le_refl _,t8,hle,by unfold maxLen;omega,by omega,?_⟩⟩,hB8⟩
 refine List.ext_getElem? fun j=>?_
 rw [Nat.mul_one,List.getElem?_take]
 by_cases hj:j < (Lib.compactUpTo d n).length
 · rw [if_pos hj]
   have h8:=(hH8.out j (by simp;omega)).1
   rw [cell_of_row w8 w.heap.size (0+j) c8 36 (0,0) t8,Nat.zero_add] at h8
   rw [Array.getElem?_toList,h8,vals_at _ j hj]
   simp
   rw [List.getElem?_append_left hj,List.getElem?_eq_getElem hj]
   rfl
 · rw [if_neg hj,List.getElem?_eq_none (by rw [vals_len];omega)]
theorem cset (s:Value) (X:List Int) (hn:X.length≤50000) (w:World) (hl:Lst w s X) :
 Calls Tryz.prog 32 #[s] w fun e w'=>TellsSet w.heap.size X e w'∧Below w.heap.size w w' :=
 (cset_row s X hn w hl).mono fun _ _ h=>⟨h.1.set,h.2⟩
theorem lst_ownQ {w:World} {base:Nat} {v:Value} {L:List Int} {n:Nat} (hn:L.length=n) (h:w.ownsRow base 36 1 v n (vals L)):Lst w v L:=by
 subst hn
 rcases h.2 with ⟨e1,e2⟩ | ⟨g,cap,cur,e1,_,_,hl,_⟩
 · exact ⟨none,0,by rw [e1,e2],by omega,fun j hj=>by omega⟩
 · subst e1
   have hc:=own_cells h
   exact ⟨some ⟨g,0,none⟩,cap,rfl,hl,fun j hj=>⟨g,0,rfl,by rw [Nat.zero_add];exact hc.2.1 j hj⟩⟩
def wdL (r:Nat) (S:List (Int × Int)):List Int:=S.map fun p=>wordOf r p.1 p.2
theorem wdL_len (r:Nat) (S:List (Int × Int)):(wdL r S).length=S.length:=by simp [wdL]
theorem wdL_step (r:Nat) (S:List (Int × Int)) {j:Nat} (hj:j < S.length):wdL r (S.take (j+1))=wdL r (S.take j)++[wordOf r S[j].1 S[j].2]:=by
 unfold wdL
 rw [List.take_add_one,List.getElem?_eq_getElem hj,List.map_append]
 rfl
set_option maxHeartbeats 8000000 in
set_option maxRecDepth 100000 in
theorem q_words (r:Nat) (b0:Nat) (sv:Value) (S0:List (Int × Int)) (hok:∀ p∈S0,Ok4 (r:Int) p.1 p.2) (hn:S0.length≤50000) (w:World) (hT:Tabs w) (hO:RowE b0 sv S0 w) :
 Calls Tryz.prog 17 #[sv,.int .i64 (r:Int)] w fun e w'=>TellsSet w.heap.size (wdL r S0) e w'∧Below w.heap.size w w':=by
 have OF:=hidd fun p (hp:p∈S0) w hT=>iof_yes r p.1 p.2 (hok p hp) w hT
 have HT:=hidd hT
 have HO:=hidd hO
 obtain ⟨sp,sc,rfl⟩:=hO.any
 have NN:=hidd hn
 obtain ⟨n,en⟩:∃ n,S0.length=n:=⟨_,rfl⟩
 rw [en] at HO hn ⊢
 have EN:=hidd en
 clear hT hO hok en
 obtain ⟨i0,hi,hz0,hz1,hz2⟩:=info_partsQ infoU64
 go_enter Tryz.func17,Tryz.ntmps17
 go_wp2
 go_loopw [5,12] (fun v5 v12 wr=>∃ j:Nat,j≤n∧v12=.int .i64 (j:Int)∧Hid (wr.ownsRow w.heap.size 36 1 v5 j (vals (wdL r (S0.take j))))∧Hid (Below w.heap.size w wr)) (fun _ v12 _=>n - (intOf v12).toNat)
 case atStart=>exact ⟨0,by omega,rfl,hidd (World.ownsRow_nil _ _ _ _),hidd (Below.refl _ _)⟩
 case round =>
  obtain ⟨j,hj,rfl,OW,B⟩:=hrel
  obtain ⟨vp,vc,rfl⟩:=own_any OW.out
  by_cases hjn:j < n
  · have hjn':(j:Int) < (n:Int):=by omega
    have hjL:j < S0.length:=by rw [EN.out];exact hjn
    have hrow:RowE b0 (.slice sp S0.length sc) S0 wr:=RowE.keep (by have:=HO.out;rwa [← EN.out] at this) B.out
    obtain ⟨g,c2,e,-,y0,y1⟩:=hrow.at_ j hjL
    rw [EN.out] at e
    simp only [Value.slice.injEq] at e
    obtain ⟨rfl,-,rfl⟩:=e
    have al:=allocB wr (.cells #[.int .i64 S0[j].1,.int .i64 S0[j].2] 40)
    have ST:=hidd (wdL_step r S0 hjL)
    have B1:=hidd (belowT B.out al)
    have P1:=hidd (OF.out S0[j] (List.getElem_mem hjL) _ (HT.out.below B1.out))
    have O1:=hidd (own_keep al OW.out)
    clear hrow al OW B OF
    generalize wordOf r S0[j].1 S0[j].2=x at *
    generalize S0[j].1=a at *
    generalize S0[j].2=b at *
    go_wp2_with fail
    refine P1.out.mono ?_
    rintro e w3 ⟨rfl,b3⟩
    have B3:=hidd (belowT B1.out b3)
    have O3:=hidd (own_keep b3 O1.out)
    have hs3:=B3.out.size
    clear P1 O1 B1 b3 y0 y1
    go_wp2_with (at_builtin;refine wpList_append_lies _ rfl (.tmp 23) (.tmp 25) 26 rfl w.heap.size 36 i0 (.int .u64 0) 1 8 Tryz.underlying26 hi hz0 hz1 hz2 rfl (by decide) (.slice vp j vc) _ _ rfl (own_keep (allocB _ _) O3.out) ⟨w3.heap.size,0,none⟩ 1 1 [.int .u64 x] rfl rfl (one_lies _ _ rfl _ _) (one_int _ _) (by decide) (by unfold maxLen;omega) (by omega) (by simp;omega) (w3.heap.size+1) (by simp) ?_;intro g6 q6 w6 hown hgrow hat hlt6)
    have R6:=hidd (show w6.ownsRow w.heap.size 36 1 (.slice (some ⟨g6,0,none⟩) (j+1) q6) (j+1) (vals (wdL r (S0.take (j+1)))) by
     rw [ST.out]
     unfold vals at hown ⊢
     rw [List.map_append]
     exact hown)
    have hne:∀ k,(Value.slice vp j vc).ownBlock=some k→w.heap.size≤k:=fun k e=>(World.ownsRow.lt O3.out k e).1
    have B6:=hidd ((belowT B3.out (allocB _ _)).grown hgrow (by simp;omega) (fun k e=>by have:=hne k e;omega))
    clear hown hgrow hat B3 O3 hne
    go_roundw
    case rel=>exact ⟨j+1,by omega,by go_num,R6,B6⟩
    case measure=>simp [intOf];omega
  · obtain rfl:j=n:=by omega
    have hjn':decide ((j:Int) < (j:Int))=false:=by simp
    have hX:wdL r (S0.take j)=wdL r S0:=by rw [← EN.out,List.take_length]
    rw [hX] at OW
    have CS:=hidd (cset_row _ (wdL r S0) (by rw [wdL_len,EN.out];omega) _ (lst_ownQ (by rw [wdL_len,EN.out]) OW.out))
    clear hX OW
    go_wp2_with fail
    refine CS.out.mono ?_
    rintro e w3 ⟨h3,b3⟩
    have hsz:=B.out.size
    have B3:=hidd (belowT B.out b3)
    have H3:=hidd h3.set
    obtain ⟨g,cap,L,rfl,-⟩:=h3
    clear CS b3
    go_wp2
    go_ret
    refine ⟨?_,B3.out⟩
    obtain ⟨g',cap',L',e',k1,k2,k3,k4,k5,k6⟩:=H3.out
    exact ⟨g',cap',L',e',by omega,k2,k3,k4,k5,k6⟩
end Go.Proofs.YtdklpgphmoaniabGreatDoor
