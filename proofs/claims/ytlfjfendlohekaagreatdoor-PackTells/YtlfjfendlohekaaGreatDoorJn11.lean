/-
  The words on a word's line, handed on one by one, the finest first: what package pack's words of a line tells a loop over it; what Covers tells; in whatever memory.
-/
import Derived.Test.YtlfjfendlohekaaGreatDoorM2C
import Derived.Test.YtlfjfendlohekaaGreatDoorJn01
import Derived.Test.YtlfjfendlohekaaGreatDoorI2C
import Derived.Sort.Walk13a
import Derived.Sort.LotB
import Derived.Sort.WalkB3
import Derived.Sort.WalkA6
import Derived.Laws.AppendOwnNone
import Derived.Deep.AppendLies
import Derived.Deep.OwnRows
namespace Go.Proofs.YtlfjfendlohekaaGreatDoor
open Go.RowKit Go
attribute [local go_sem] Oper.semAt_some
theorem upWs_last:∀ (k:Nat) (v:Int),upWs (k+1) v=upW (upWs k v)
 | 0,_=>rfl
 | k+1,v=>by show upWs (k+1) (upW v)=_;rw [upWs_last k (upW v)];rfl
theorem upWs_whole:∀ (n:Nat) {w:Int},Whole w→(n:Int)≤wR w→Whole (upWs n w)∧wR (upWs n w)=wR w - n
 | 0,w,h,_=>⟨h,by show wR w=wR w - ((0:Nat):Int);omega⟩
 | n+1,w,h,hn=>by
  have hu:=up_whole h (by omega)
  have ih:=upWs_whole n hu.1 (by omega)
  show Whole (upWs n (upW w))∧wR (upWs n (upW w))=_
  exact ⟨ih.1,by omega⟩
def lw (v:Int) (k:Nat):List Int:=(List.range k).map fun i=>upWs i v
theorem lw_step (v:Int) (k:Nat):lw v (k+1)=lw v k++[upWs k v]:=by unfold lw;rw [List.range_succ,List.map_append];rfl
theorem lw_len (v:Int) (k:Nat):(lw v k).length=k:=by unfold lw;simp
theorem lw_mem {v:Int} {x:Int}:x∈lw v ((wR v).toNat+1)↔Above x v:=by
 have hb:=wR_box v
 unfold lw Above
 rw [List.mem_map]
 constructor
 · rintro ⟨k,hk,rfl⟩;exact ⟨k,by have:=List.mem_range.1 hk;omega,rfl⟩
 · rintro ⟨k,hk,rfl⟩;exact ⟨k,List.mem_range.2 (by omega),rfl⟩
theorem lw_sub {v:Int} {k n:Nat} (h:k≤n):∀ x∈lw v k,x∈lw v n:=fun x hx=>by
 unfold lw at hx ⊢
 obtain ⟨i,hi,rfl⟩:=List.mem_map.1 hx
 exact List.mem_map.2 ⟨i,List.mem_range.2 (by have:=List.mem_range.1 hi;omega),rfl⟩
def lineMs:Value→Value→Nat
 | .int _ x,.int _ e=>if e=0 then (wR x).toNat+2 else 1
 | _,_=>0
abbrev encW (x:Int):Array Value:=#[.int .u64 x]
set_option maxRecDepth 100000 in
set_option maxHeartbeats 4000000 in
theorem lwords_seq (v:Int) (hv:Whole v) (n₀:Nat) (w:World) (hn:n₀≤w.heap.size) :
 SeqF Fence.wide 2 Tryz.prog 32 #[.int .u64 v] #[] encW n₀ (fun xs=>xs=lw v ((wR v).toNat+1)) (fun pre=>∃ k,k≤(wR v).toNat+1∧pre=lw v k) 13 w:=by
 intro l J Jx W hW hJ hJx hY h0
 have hW0:n₀≤W.heap.size:=Nat.le_trans hn hW.size
 have ub:=whole_box hv
 have hb:=wR_box v
 have h12:=hv.2.1
 have OK:=hidd fun w=>iok v ⟨by omega,by omega⟩ true (by simp [hv]) w
 obtain ⟨R,hR⟩:∃ R,(wR v).toNat=R:=⟨_,rfl⟩
 rw [hR]
 have HV:=hidd hv
 refine callsIn_of_wp Tryz.func32 rfl trivial ?_ rfl
 simp only [Tryz.ntmps32,List.size_toArray,List.length_cons,List.length_nil,Nat.reduceAdd,Nat.reduceSub,Array.replicate_succ,Array.replicate_zero,List.push_toArray,List.append_toArray,List.nil_append,List.cons_append]
 gi_wp2_with (first
  | (refine ⟨trivial,?_⟩;gi_at_call 51;refine (callsIn_wide.2 (OK.out _)).mono ?_;rintro e w1 ⟨rfl,hb1⟩)
  | fail)
 have hJ1:J (lw v 0) w1:=hJ _ _ _ h0 hb1
 have hs1:=hb1.size
 have hB1:Below n₀ W w1:=hb1.mono hW0
 clear h0 hb1 OK
 gi_loopw [4,5] (fun v4 v5 wr=>∃ k:Nat,Hid ((k < R+1∧v4=.int .u64 (upWs k v)∧v5=.int .i64 0)∨(k=R+1∧v4=.int .u64 0∧v5=.int .i64 3))∧Below n₀ W wr∧W.heap.size≤wr.heap.size∧J (lw v k) wr) (fun v4 v5 _=>lineMs v4 v5)
 case atStart=>exact ⟨0,.inl ⟨by omega,rfl,rfl⟩,hB1,by omega,hJ1⟩
 case round =>
  clear hJ1 hs1 hB1
  obtain ⟨k,hv45,hb,hsz,hJr⟩:=hrel
  rcases hv45.out with ⟨hk,rfl,rfl⟩ | ⟨rfl,rfl,rfl⟩
  · clear hv45
    have hw:=upWs_whole k HV.out (by omega)
    have hnx:=hidd (lw_step v k)
    have hup:=hidd (upWs_last k v)
    generalize upWs k v=x at *
    have ux:=whole_box hw.1
    obtain ⟨fn,tmps,assign,body,hy,hRd⟩:=hY (lw v k) x wr hJr (by rw [lw_len];omega) hsz
    have HR:=hidd hRd
    have HX:=hidd hw
    have hRv:=hidd hR
    clear hRd hw hv hY hJr hR
    by_cases hr:wR x=0
    · have PT:=hidd fun w=>iparent_top x HX.out.1 hr w
      have ek:Hid (k=R):=hidd (by have:=HX.out.2;have:=hRv.out;omega)
      gi_wp2
      refine HR.out.mono ?_
      rintro e W3 (⟨rfl,h1,h2,h3⟩ | ⟨rfl,h1⟩)
      · have H1:=hidd (show J (lw v (k+1)) W3 by rw [hnx.out];exact h1)
        have hb3:=hb.trans h2
        have hs3:=h3.size
        clear h1 h2 h3 HR
        gi_wp2_with (first
         | (refine ⟨trivial,?_⟩;gi_at_call 36;refine (callsIn_wide.2 (PT.out _)).mono ?_;rintro e w4 ⟨rfl,hb4⟩)
         | fail)
        have hs4:=hb4.size
        go_roundw
        case rel=>exact ⟨k+1,.inr ⟨by have:=ek.out;omega,rfl,rfl⟩,hb3.trans (hb4.mono (by omega)),by omega,hJ _ _ _ H1.out (hb4.mono (by omega))⟩
        case measure=>simp [lineMs]
      · have H1:=hidd (show Jx (lw v (k+1)) W3 by rw [hnx.out];exact h1)
        clear h1 HR
        gi_wp2
        go_end0
        exact ⟨⟨_,rfl⟩,.inr ⟨_,⟨k+1,by omega,rfl⟩,H1.out⟩⟩
    · have hr0:0 < wR x:=by have:=wR_box x;omega
      have PT:=hidd fun w=>iparent_yes x HX.out.1 hr0 w
      have hu:=up_whole HX.out.1 hr0
      have ub2:=whole_box hu.1
      have ek:Hid (k+1 < R+1):=hidd (by have:=HX.out.2;have:=hRv.out;omega)
      have hms:Hid (lineMs (.int .u64 (upW x)) (.int .i64 0) < lineMs (.int .u64 x) (.int .i64 0)):=hidd (by
       simp only [lineMs,if_true]
       have:=hu.2
       omega)
      clear hu hr
      generalize upW x=q at *
      gi_wp2
      refine HR.out.mono ?_
      rintro e W3 (⟨rfl,h1,h2,h3⟩ | ⟨rfl,h1⟩)
      · have H1:=hidd (show J (lw v (k+1)) W3 by rw [hnx.out];exact h1)
        have hb3:=hb.trans h2
        have hs3:=h3.size
        clear h1 h2 h3 HR
        gi_wp2_with (first
         | (refine ⟨trivial,?_⟩;gi_at_call 36;refine (callsIn_wide.2 (PT.out _)).mono ?_;rintro e w4 ⟨rfl,hb4⟩)
         | fail)
        have hs4:=hb4.size
        go_roundw
        case rel=>exact ⟨k+1,.inl ⟨ek.out,by rw [hup.out],rfl⟩,hb3.trans (hb4.mono (by omega)),by omega,hJ _ _ _ H1.out (hb4.mono (by omega))⟩
        case measure=>exact hms.out
      · have H1:=hidd (show Jx (lw v (k+1)) W3 by rw [hnx.out];exact h1)
        clear h1 HR
        gi_wp2
        go_end0
        exact ⟨⟨_,rfl⟩,.inr ⟨_,⟨k+1,by omega,rfl⟩,H1.out⟩⟩
  · clear hv45
    gi_wp2
    refine ⟨fun _ h=>(by cases h),?_⟩
    gi_wp2
    go_end0
    exact ⟨⟨_,rfl⟩,.inl ⟨_,rfl,hJr⟩⟩
set_option maxRecDepth 100000 in
set_option maxHeartbeats 4000000 in
theorem lwords_no (v:Int) (uv:U64 v) (hv:¬ Whole v) (n₀:Nat) (w:World) :
 SeqF Fence.wide 2 Tryz.prog 32 #[.int .u64 v] #[] encW n₀ (fun xs=>xs=[]) (fun _=>False) 13 w:=by
 intro l J Jx W hW hJ hJx hY h0
 have OK:=hidd fun w=>iok v uv false (by simp [hv]) w
 refine callsIn_of_wp Tryz.func32 rfl trivial ?_ rfl
 simp only [Tryz.ntmps32,List.size_toArray,List.length_cons,List.length_nil,Nat.reduceAdd,Nat.reduceSub,Array.replicate_succ,Array.replicate_zero,List.push_toArray,List.append_toArray,List.nil_append,List.cons_append]
 gi_wp2_with (first
  | (refine ⟨trivial,?_⟩;gi_at_call 51;refine (callsIn_wide.2 (OK.out _)).mono ?_;rintro e w1 ⟨rfl,hb1⟩)
  | fail)
 have hJ1:J [] w1:=hJ _ _ _ h0 hb1
 refine bodyPost_ret (results_none rfl _ _ _) rfl ?_
 exact ⟨⟨_,rfl⟩,.inl ⟨_,rfl,hJ1⟩⟩
end Go.Proofs.YtlfjfendlohekaaGreatDoor
namespace Go.Proofs.YtlfjfendlohekaaGreatDoor
open Go.RowKit Go
attribute [local go_sem] Oper.semAt_some
set_option maxRecDepth 100000 in
set_option maxHeartbeats 8000000 in
theorem covers_core (s:Value) (L:List Int) (v:Int) (hn:L.length≤50000) (w:World) (hl:Lst w s L) (b:Bool) (S Sp:List Int→Prop)
 (SQ:∀ (n₀:Nat) (w:World),n₀≤w.heap.size→SeqF Fence.wide 2 Tryz.prog 32 #[.int .u64 v] #[] encW n₀ S Sp 13 w)
 (hS:∀ xs,S xs→(∀ x∈xs,¬ x∈L)→b=false) (hSp:∀ pre,Sp pre→(∃ x∈pre,x∈L)→b=true) :
 Calls Tryz.prog 12 #[s,.int .u64 v] w fun e w'=>e=.returned (.bool b)∧Below w.heap.size w w':=by
 have HL:=hidd hl
 obtain ⟨p,cap,rfl,-,-⟩:=hl
 obtain ⟨n,en⟩:∃ n,L.length=n:=⟨_,rfl⟩
 rw [en] at HL ⊢
 have HN:=hidd hn
 clear hn en
 have HS:=hidd hS
 have HSp:=hidd hSp
 clear hS hSp
 refine (callsIn_wide (n:=3)).1 ?_
 refine callsIn_of_wp_marks Tryz.func12 rfl trivial ?_ rfl
 simp only [Tryz.ntmps12,List.size_toArray,List.length_cons,List.length_nil,Nat.reduceAdd,Nat.reduceSub,Array.replicate_succ,Array.replicate_zero,List.push_toArray,List.append_toArray,List.nil_append,List.cons_append]
 have hal:=allocB w (.cells #[.slice p n cap] 24)
 have hal2:=belowT hal (allocB (w.alloc (.cells #[.slice p n cap] 24)) (.cells #[.bool false] 4))
 have z0:((w.alloc (.cells #[.slice p n cap] 24)).alloc (.cells #[.bool false] 4)).cell? ⟨w.heap.size,0,none⟩=some (.slice p n cap):=by go_simp
 have r0:((w.alloc (.cells #[.slice p n cap] 24)).alloc (.cells #[.bool false] 4)).cell? ⟨w.heap.size+1,0,none⟩=some (.bool false):=by go_simp
 have q0:((w.alloc (.cells #[.slice p n cap] 24)).alloc (.cells #[.bool false] 4)).frozen? ⟨w.heap.size+1,0,none⟩=false:=by go_simp
 have hz:w.heap.size+1 < ((w.alloc (.cells #[.slice p n cap] 24)).alloc (.cells #[.bool false] 4)).heap.size:=World.block_lt_of_cell? _ _ r0
 gi_wp2
 refine rf_law rfl (by omega) (gf:=32) (pb:=#[.int .u64 v]) (lb:=#[]) rfl trivial (enters_of Tryz.func32 (by kernel_rfl) rfl)
  (SQ w.heap.size _ (by omega)) (by omega) (fun _=>rfl)
  (fun pre W=>((∀ x∈pre,¬ x∈L)∧W.cell? ⟨w.heap.size,0,none⟩=some (.slice p n cap)∧W.cell? ⟨w.heap.size+1,0,none⟩=some (.bool false)∧W.frozen? ⟨w.heap.size+1,0,none⟩=false)∧Below w.heap.size w W)
  (fun c pre W=>(c=.ret∧(∃ x∈pre,x∈L)∧W.cell? ⟨w.heap.size+1,0,none⟩=some (.bool true))∧Below w.heap.size w W) ?hI ?hIx ⟨⟨(by intro x hx;cases hx),z0,r0,q0⟩,hal2⟩
  (fun x=>{ tmps:=#[.slice p n cap,.int .u64 v,.pointer (some ⟨w.heap.size,0,none⟩),undef,.pointer (some ⟨w.heap.size+1,0,none⟩),.int .u64 x,.int .u64 v,.func (.func 32) #[.int .u64 v] #[],.int .u64 x,undef,undef,undef],defers:=[] }) ?assign ?body ?done ?stop
 case hI =>
  intro s X Y hs hb
  exact ⟨⟨hs.1.1,(hb.cell (p:=⟨w.heap.size,0,none⟩) (by simp <;>omega)).trans hs.1.2.1,(hb.cell (p:=⟨w.heap.size+1,0,none⟩) (by simp <;>omega)).trans hs.1.2.2.1,(hb.frozen (p:=⟨w.heap.size+1,0,none⟩) (by simp <;>omega)).trans hs.1.2.2.2⟩,hs.2.trans (hb.mono (by omega))⟩
 case hIx =>
  intro c s X Y hs hb
  exact ⟨⟨hs.1.1,hs.1.2.1,(hb.cell (p:=⟨w.heap.size+1,0,none⟩) (by simp <;>omega)).trans hs.1.2.2⟩,hs.2.trans (hb.mono (by omega))⟩
 case assign =>
  intro l x W K hK
  gi_wp2
  exact hK
 case body =>
  rintro l pre x W ⟨⟨hp,hc,hr0,hf⟩,hb⟩ hs _
  have CH:=hidd (chas (.slice p n cap) L x HN.out W (HL.out.keep hb))
  by_cases hx:x∈L
  · have CT:Hid (Calls Tryz.prog 33 #[.slice p n cap,.int .u64 x] W fun e w'=>e=.returned (.bool true)∧w'=W):=hidd (by have:=CH.out;rwa [decide_eq_true hx] at this)
    have HP:=hidd hp
    have HX:=hidd hx
    clear CH hp hx
    gi_wp2_with (refine ⟨trivial,?_⟩;gi_at_call 33;refine (CallsIn.inRound l (callsIn_wide.2 CT.out)).mono ?_;rintro e w3 ⟨rfl,rfl⟩)
    exact ⟨(High.refl _ _).setCell (p:=⟨w.heap.size+1,0,none⟩) (by simp <;>omega) _,⟨rfl,⟨x,List.mem_append.2 (.inr (List.mem_singleton.2 rfl)),HX.out⟩,store_new hr0⟩,hb.setCell (p:=⟨w.heap.size+1,0,none⟩) (by simp <;>omega) _⟩
  · have CT:Hid (Calls Tryz.prog 33 #[.slice p n cap,.int .u64 x] W fun e w'=>e=.returned (.bool false)∧w'=W):=hidd (by have:=CH.out;rwa [decide_eq_false hx] at this)
    have HP:=hidd hp
    have HX:=hidd hx
    clear CH hp hx
    gi_wp2_with (refine ⟨trivial,?_⟩;gi_at_call 33;refine (CallsIn.inRound l (callsIn_wide.2 CT.out)).mono ?_;rintro e w3 ⟨rfl,rfl⟩)
    exact ⟨Below.refl _ _,High.refl _ _,⟨fun y hy=>(List.mem_append.1 hy).elim (HP.out y) (fun h=>by rw [List.mem_singleton.1 h];exact HX.out),hc,hr0,hf⟩,hb⟩
 case done =>
  rintro D xs W hD hxs ⟨⟨hp,hc,hr0,hf⟩,hb⟩ hK
  have hW:=HS.out xs hxs hp
  have hK':(W.setCell ⟨w.heap.size+1,0,none⟩ (.bool false)).heap[D]?=some (.deferred (some [])):=by rw [heap_setCell_other _ _ _ _ (by simp at hD ⊢;omega)];exact hK
  have hbp:=below_put (B:=w.heap.size+2) (W.setCell ⟨w.heap.size+1,0,none⟩ (.bool false)) D (.deferred none) (by simp;have:=(Array.getElem?_eq_some_iff.1 hK).1;simp at hD;omega) (by simp at hD;omega)
  have hcell:=(hbp.cell (p:=⟨w.heap.size+1,0,none⟩) (by simp <;>omega)).trans (store_new hr0)
  gi_wp2
  refine ⟨by simp,.inl ⟨_,_,rfl,run_takeDeferred hK',?_⟩⟩
  exact ⟨.bool false,by simp [results,Tryz.results12,go_sem,hcell],by rw [hW],(hb.setCell (p:=⟨w.heap.size+1,0,none⟩) (by simp <;>omega) _).trans (hbp.mono (by omega))⟩
 case stop =>
  rintro D c pre W hD hpre ⟨⟨rfl,hx,hr0⟩,hb⟩ hK
  have hW:=HSp.out pre hpre hx
  have hbp:=below_put (B:=w.heap.size+2) W D (.deferred none) (by have:=(Array.getElem?_eq_some_iff.1 hK).1;simp at hD;omega) (by simp at hD;omega)
  have hcell:=(hbp.cell (p:=⟨w.heap.size+1,0,none⟩) (by simp <;>omega)).trans hr0
  gi_wp2
  refine ⟨by simp,.inl ⟨_,_,rfl,run_takeDeferred hK,?_⟩⟩
  exact ⟨.bool true,by simp [results,Tryz.results12,go_sem,hcell],by rw [hW],hb.trans (hbp.mono (by omega))⟩
theorem p_covers (s:Value) (L:List Int) (v:Int) (uv:U64 v) (hn:L.length≤50000) (b:Bool) (hb:b=true↔Whole v∧Cov L v) (w:World) (hl:Lst w s L) :
 Calls Tryz.prog 12 #[s,.int .u64 v] w fun e w'=>e=.returned (.bool b)∧Below w.heap.size w w':=by
 by_cases hv:Whole v
 · refine covers_core s L v hn w hl b _ _ (fun n₀ w h=>lwords_seq v hv n₀ w h) (fun xs e h=>?_) (fun pre e h=>?_)
   · subst e
     cases hb1:b with
     | false=>rfl
     | true =>
      obtain ⟨-,p,hp,ha⟩:=hb.1 hb1
      exact absurd hp (h p (lw_mem.2 ha))
   · obtain ⟨k,hk,rfl⟩:=e
     obtain ⟨x,hx,hxL⟩:=h
     exact hb.2 ⟨hv,x,hxL,lw_mem.1 (lw_sub hk x hx)⟩
 · refine covers_core s L v hn w hl b _ _ (fun n₀ w _=>lwords_no v uv hv n₀ w) (fun xs e h=>?_) (fun pre e h=>e.elim)
   cases hb1:b with
   | false=>rfl
   | true=>exact absurd (hb.1 hb1).1 hv
end Go.Proofs.YtlfjfendlohekaaGreatDoor
