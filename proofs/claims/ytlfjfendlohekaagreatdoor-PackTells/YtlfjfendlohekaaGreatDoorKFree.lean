/-
  What Free of package pack tells of any list; in whatever memory.
-/
import Derived.Test.YtlfjfendlohekaaGreatDoorKCmp
import Derived.Test.YtlfjfendlohekaaGreatDoorJn11
import Derived.Test.YtlfjfendlohekaaGreatDoorJn13
import Derived.Test.YtlfjfendlohekaaGreatDoorKBs
namespace Go.Proofs.YtlfjfendlohekaaGreatDoor
open Go.RowKit Go
attribute [local go_sem] Oper.semAt_some
def Marks (B T:Nat) (ds:List Deferred) (W:World):Prop :=
 ∃ Ds:List Nat,ds=Ds.map (fun D=>{ target:=.collected D,args:=#[] })∧Ds.Nodup∧∀ D∈Ds,B≤D∧D < T∧W.heap[D]?=some (.deferred (some []))
theorem Marks.nil (B T:Nat) (W:World):Marks B T [] W:=⟨[],rfl,List.nodup_nil,fun _ h=>by cases h⟩
theorem Marks.keep {B T U:Nat} {ds:List Deferred} {W W':World} (h:Marks B T ds W) (hb:Below U W W') (hT:T≤U):Marks B T ds W':=by
 obtain ⟨Ds,e,hn,hD⟩:=h
 exact ⟨Ds,e,hn,fun D hm=>⟨(hD D hm).1,(hD D hm).2.1,(hb.block _ (by have:=(hD D hm).2.1;omega)).trans (hD D hm).2.2⟩⟩
theorem Marks.wide {B T U:Nat} {ds:List Deferred} {W:World} (h:Marks B T ds W) (hT:T≤U):Marks B U ds W:=by
 obtain ⟨Ds,e,hn,hD⟩:=h
 exact ⟨Ds,e,hn,fun D hm=>⟨(hD D hm).1,by have:=(hD D hm).2.1;omega,(hD D hm).2.2⟩⟩
theorem Marks.cell {B T:Nat} {ds:List Deferred} {W:World} (h:Marks B T ds W) {p:Addr} (hp:p.block < B) (v:Value):Marks B T ds (W.setCell p v):=by
 obtain ⟨Ds,e,hn,hD⟩:=h
 exact ⟨Ds,e,hn,fun D hm=>⟨(hD D hm).1,(hD D hm).2.1,by rw [heap_setCell_other _ _ _ _ (by have:=(hD D hm).1;omega)];exact (hD D hm).2.2⟩⟩
theorem Marks.more {B T:Nat} {ds:List Deferred} {W:World} (h:Marks B T ds W) {D:Nat} (hB:B≤D) (hT:T≤D) (hd:W.heap[D]?=some (.deferred (some []))) :
 Marks B W.heap.size ({ target:=.collected D,args:=#[] } :: ds) W:=by
 obtain ⟨Ds,rfl,hn,hD⟩:=h
 have hlt:D < W.heap.size:=(Array.getElem?_eq_some_iff.1 hd).1
 refine ⟨D :: Ds,rfl,List.nodup_cons.2 ⟨fun hm=>by have:=(hD D hm).2.1;omega,hn⟩,fun E hE=>?_⟩
 rcases List.mem_cons.1 hE with rfl | hE
 · exact ⟨hB,hlt,hd⟩
 · exact ⟨(hD E hE).1,by have:=(hD E hE).2.1;omega,(hD E hE).2.2⟩
theorem Marks.leaves {F:Fence} {n:Nat} {P:Program} {fn:Func} {tmps:Array Value} {R:Ending→World→Prop} {B T:Nat} {ds:List Deferred} {W:World} (h:Marks B T ds W) (hB:B≤W.heap.size)
 (h0:∀ W',Below B W W'→LeavesInM F n P fn tmps R [] .returning W'):LeavesInM F n P fn tmps R ds .returning W:=by
 obtain ⟨Ds,rfl,hn,hD⟩:=h
 induction Ds generalizing W with
 | nil=>exact h0 W (Below.refl _ _)
 | cons D Ds ih =>
  have hn':=List.nodup_cons.1 hn
  have hd:=hD D (List.mem_cons_self ..)
  have hb:=below_put W D (.deferred none) hB hd.1
  refine ⟨by simp,.inl ⟨D,_,rfl,run_takeDeferred hd.2.2,ih (by simpa using hB) (fun W' h=>h0 W' (hb.trans h)) hn'.2 fun E hE=>?_⟩⟩
  have he:=hD E (List.mem_cons_of_mem _ hE)
  exact ⟨he.1,he.2.1,(World.putObj_heap_other (fun e=>hn'.1 (by rw [← e];exact hE))).trans he.2.2⟩
def FrF (s2 s3 s23 s24 s25:Value) (ds:List Deferred) (a:Act):Prop :=
 ∃ u0 u1 u4 u5 u6 u7 u8 u9 u10 u11 u12 u13 u14 u15 u16 u17 u18 u19 u20 u21 u22 u26 u27 u28 u29 u30 u31 u32 u33 u34 u35 u36 u37 u38 u39 u40 u41 u42 u43 u44:Value,a={ tmps:=#[u0,u1,s2,s3,u4,u5,u6,u7,u8,u9,u10,u11,u12,u13,u14,u15,u16,u17,u18,u19,u20,u21,u22,s23,s24,s25,u26,u27,u28,u29,u30,u31,u32,u33,u34,u35,u36,u37,u38,u39,u40,u41,u42,u43,u44],defers:=ds }
def Clean (K:List Int) (x:Int):Prop:=0 < wR x→∀ p,Above p (upW x)→¬ p∈K
theorem free_line (K:List Int) (x:Int) (hx:Whole x):∃ (q e:Int) (S Sp:List Int→Prop),(0≤q∧q≤18446744073709551615) ∧
 (∀ w,Calls Tryz.prog 36 #[.int .u64 x] w fun r w'=>r=.returned (.tuple #[.int .u64 q,.int .i64 e])∧Below w.heap.size w w') ∧
 (∀ (n₀:Nat) (w:World),n₀≤w.heap.size→SeqF Fence.wide 2 Tryz.prog 32 #[.int .u64 q] #[] encW n₀ S Sp 13 w) ∧
 (∀ xs,S xs→(∀ y∈xs,¬ y∈K)→Clean K x)∧(∀ pre,Sp pre→(∃ y∈pre,y∈K)→¬ Clean K x):=by
 have hb:=wR_box x
 by_cases hr:0 < wR x
 · have hu:=up_whole hx hr
   have ub:=whole_box hu.1
   refine ⟨upW x,0,_,_,⟨by omega,by omega⟩,fun w=>iparent_yes x hx hr w,fun n₀ w h=>lwords_seq _ hu.1 n₀ w h,fun xs e h=>?_,fun pre e h hc=>?_⟩
   · subst e
     exact fun _ p hp=>h p (lw_mem.2 hp)
   · obtain ⟨k,hk,rfl⟩:=e
     obtain ⟨y,hy,hyK⟩:=h
     exact hc hr y (lw_mem.1 (lw_sub hk y hy)) hyK
 · have h0:wR x=0:=by omega
   exact ⟨0,_,_,_,⟨by omega,by omega⟩,fun w=>iparent_top x hx h0 w,fun n₀ w _=>lwords_no 0 ⟨by omega,by omega⟩ (by intro h;have:=whole_box h;omega) n₀ w,fun xs _ _ h=>absurd h hr,fun pre e _ _=>e.elim⟩
set_option maxRecDepth 100000 in
set_option maxHeartbeats 8000000 in
theorem free_twice (s:Value) (L:List Int) (hn:L.length≤50000) (HP:Hid (¬ L.Nodup)) (w:World) (hl:Lst w s L) :
 Calls Tryz.prog 18 #[s] w fun e w'=>e=.returned (.bool false)∧Below w.heap.size w w':=by
 have HL:=hidd hl
 obtain ⟨p,cap,rfl,-,-⟩:=hl
 obtain ⟨n,en⟩:∃ n,L.length=n:=⟨_,rfl⟩
 rw [en] at HL ⊢
 have EN:=hidd en
 rw [en] at hn
 clear en
 refine (callsIn_wide (n:=3)).1 ?_
 refine callsIn_of_wp_marks Tryz.func18 rfl trivial ?_ rfl
 simp only [Tryz.ntmps18,List.size_toArray,List.length_cons,List.length_nil,Nat.reduceAdd,Nat.reduceSub,Array.replicate_succ,Array.replicate_zero,List.push_toArray,List.append_toArray,List.nil_append,List.cons_append]
 have hal:=allocB w (.cells #[.bool false] 4)
 have r0:(w.alloc (.cells #[.bool false] 4)).cell? ⟨w.heap.size,0,none⟩=some (.bool false):=by go_simp
 have q0:(w.alloc (.cells #[.bool false] 4)).frozen? ⟨w.heap.size,0,none⟩=false:=by go_simp
 have CS:=hidd (cset_row (.slice p n cap) L (by rw [EN.out];exact hn) (w.alloc (.cells #[.bool false] 4)) (HL.out.keep hal))
 gi_wp2_with (first
  | (refine ⟨trivial,?_⟩
     gi_at_call 31
     refine (callsIn_wide.2 CS.out).mono ?_
     rintro e w1 ⟨⟨g,c,K,rfl,k1,k2,k3,k4⟩,b1⟩
     obtain ⟨m,em⟩:∃ m,K.length=m:=⟨_,rfl⟩
     have EM:=hidd em
     have KR:=hidd k1
     have KM:=hidd k2
     have hlt:decide (m < n)=true:=by have h:=set_short (rising_nodup k1) k2;rw [em,EN.out] at h;simpa using h.2 HP.out
     have hmn:m≤50000:=by rw [em,EN.out] at k3;omega
     have k5:=hidd (Lst.own k4)
     rw [em] at k5 ⊢
     have B1:=hidd (belowT hal b1)
     have r1:=keepCell b1 r0
     have q1:=keepFrozen b1 r0 q0
     have hs1:w.heap.size+1≤w1.heap.size:=by have:=b1.size;simpa using this
     have hal2:=allocB w1 (.cells #[.slice (some ⟨g,0,none⟩) m c] 24)
     have z2:(w1.alloc (.cells #[.slice (some ⟨g,0,none⟩) m c] 24)).cell? ⟨w1.heap.size,0,none⟩=some (.slice (some ⟨g,0,none⟩) m c):=by go_simp
     have r2:=keepCell hal2 r1
     have q2:=keepFrozen hal2 r1 q1
     have L2:=hidd (k5.out.keep hal2)
     have B2:=hidd (belowT B1.out hal2)
     clear k1 k2 k3 k4 k5 em r0 q0 r1 q1 b1 hal hal2 B1 CS HL)
  | fail)
 refine ⟨trivial,?_⟩
 gi_wp2
 have hs2:=B2.out.size
 refine ⟨.bool false,by simp [results,Tryz.results18,go_sem,store_new r2],rfl,B2.out.setCell (p:=⟨w.heap.size,0,none⟩) (by simp) _⟩
set_option maxRecDepth 100000 in
set_option maxHeartbeats 8000000 in
theorem free_none (s:Value) (L:List Int) (hn:L.length≤50000) (HP:Hid L.Nodup) (HW:Hid (¬ ∀ x∈L,Whole x)) (uL:∀ x∈L,U64 x) (w:World) (hl:Lst w s L) :
 Calls Tryz.prog 18 #[s] w fun e w'=>e=.returned (.bool false)∧Below w.heap.size w w':=by
 have HL:=hidd hl
 obtain ⟨p,cap,rfl,-,-⟩:=hl
 obtain ⟨n,en⟩:∃ n,L.length=n:=⟨_,rfl⟩
 rw [en] at HL ⊢
 have EN:=hidd en
 rw [en] at hn
 clear en
 refine (callsIn_wide (n:=3)).1 ?_
 refine callsIn_of_wp_marks Tryz.func18 rfl trivial ?_ rfl
 simp only [Tryz.ntmps18,List.size_toArray,List.length_cons,List.length_nil,Nat.reduceAdd,Nat.reduceSub,Array.replicate_succ,Array.replicate_zero,List.push_toArray,List.append_toArray,List.nil_append,List.cons_append]
 have hal:=allocB w (.cells #[.bool false] 4)
 have r0:(w.alloc (.cells #[.bool false] 4)).cell? ⟨w.heap.size,0,none⟩=some (.bool false):=by go_simp
 have q0:(w.alloc (.cells #[.bool false] 4)).frozen? ⟨w.heap.size,0,none⟩=false:=by go_simp
 have CS:=hidd (cset_row (.slice p n cap) L (by rw [EN.out];exact hn) (w.alloc (.cells #[.bool false] 4)) (HL.out.keep hal))
 have UL:=hidd uL
 clear uL
 gi_wp2_with (first
  | (refine ⟨trivial,?_⟩
     gi_at_call 31
     refine (callsIn_wide.2 CS.out).mono ?_
     rintro e w1 ⟨⟨g,c,K,rfl,k1,k2,k3,k4⟩,b1⟩
     obtain ⟨m,em⟩:∃ m,K.length=m:=⟨_,rfl⟩
     have EM:=hidd em
     have KR:=hidd k1
     have KM:=hidd k2
     have hlt:decide (m < n)=false:=by have h:=set_short (rising_nodup k1) k2;rw [em,EN.out] at h;simpa using fun hc=>h.1 hc HP.out
     have hmn:m≤50000:=by rw [em,EN.out] at k3;omega
     have k5:=hidd (Lst.own k4)
     rw [em] at k5 ⊢
     have B1:=hidd (belowT hal b1)
     have r1:=keepCell b1 r0
     have q1:=keepFrozen b1 r0 q0
     have hs1:w.heap.size+1≤w1.heap.size:=by have:=b1.size;simpa using this
     have hal2:=allocB w1 (.cells #[.slice (some ⟨g,0,none⟩) m c] 24)
     have z2:(w1.alloc (.cells #[.slice (some ⟨g,0,none⟩) m c] 24)).cell? ⟨w1.heap.size,0,none⟩=some (.slice (some ⟨g,0,none⟩) m c):=by go_simp
     have r2:=keepCell hal2 r1
     have q2:=keepFrozen hal2 r1 q1
     have L2:=hidd (k5.out.keep hal2)
     have B2:=hidd (belowT B1.out hal2)
     clear k1 k2 k3 k4 k5 em r0 q0 r1 q1 b1 hal hal2 B1 CS HL
     have AW:=hidd (p_areWords (.slice (some ⟨g,0,none⟩) m c) K (by rw [EM.out];exact hmn) (fun x hx=>UL.out x ((KM.out x).1 hx)) false ⟨fun h=>(by cases h),fun h=>(HW.out fun x hx=>h x ((KM.out x).2 hx)).elim⟩ _ L2.out))
  | (refine ⟨trivial,?_⟩
     gi_at_call 28
     refine (callsIn_wide.2 AW.out).mono ?_
     rintro e w3 ⟨rfl,b3⟩
     have r3:=keepCell b3 r2
     have q3:=keepFrozen b3 r2 q2
     have B3:=hidd (belowT B2.out b3)
     clear AW)
  | fail)
 refine ⟨.bool false,by simp [results,Tryz.results18,go_sem,store_new r3],rfl,B3.out.setCell (p:=⟨w.heap.size,0,none⟩) (by simp) _⟩
set_option maxRecDepth 100000 in
set_option maxHeartbeats 8000000 in
theorem free_loop (s:Value) (L:List Int) (hn:L.length≤50000) (HP:Hid L.Nodup) (HW:Hid (∀ x∈L,Whole x)) (uL:∀ x∈L,U64 x) (b:Bool) (HB:Hid (b=true↔FreeP L)) (w:World) (hl:Lst w s L) :
 Calls Tryz.prog 18 #[s] w fun e w'=>e=.returned (.bool b)∧Below w.heap.size w w':=by
 have HL:=hidd hl
 obtain ⟨p,cap,rfl,-,-⟩:=hl
 obtain ⟨n,en⟩:∃ n,L.length=n:=⟨_,rfl⟩
 rw [en] at HL ⊢
 have EN:=hidd en
 rw [en] at hn
 clear en
 refine (callsIn_wide (n:=3)).1 ?_
 refine callsIn_of_wp_marks Tryz.func18 rfl trivial ?_ rfl
 simp only [Tryz.ntmps18,List.size_toArray,List.length_cons,List.length_nil,Nat.reduceAdd,Nat.reduceSub,Array.replicate_succ,Array.replicate_zero,List.push_toArray,List.append_toArray,List.nil_append,List.cons_append]
 have hal:=allocB w (.cells #[.bool false] 4)
 have r0:(w.alloc (.cells #[.bool false] 4)).cell? ⟨w.heap.size,0,none⟩=some (.bool false):=by go_simp
 have q0:(w.alloc (.cells #[.bool false] 4)).frozen? ⟨w.heap.size,0,none⟩=false:=by go_simp
 have CS:=hidd (cset_row (.slice p n cap) L (by rw [EN.out];exact hn) (w.alloc (.cells #[.bool false] 4)) (HL.out.keep hal))
 have UL:=hidd uL
 clear uL
 gi_wp2_with (first
  | (refine ⟨trivial,?_⟩
     gi_at_call 31
     refine (callsIn_wide.2 CS.out).mono ?_
     rintro e w1 ⟨⟨g,c,K,rfl,k1,k2,k3,k4⟩,b1⟩
     obtain ⟨m,em⟩:∃ m,K.length=m:=⟨_,rfl⟩
     have EM:=hidd em
     have KR:=hidd k1
     have KM:=hidd k2
     have hlt:decide (m < n)=false:=by have h:=set_short (rising_nodup k1) k2;rw [em,EN.out] at h;simpa using fun hc=>h.1 hc HP.out
     have hmn:m≤50000:=by rw [em,EN.out] at k3;omega
     have k5:=hidd (Lst.own k4)
     rw [em] at k5 ⊢
     have B1:=hidd (belowT hal b1)
     have r1:=keepCell b1 r0
     have q1:=keepFrozen b1 r0 q0
     have hs1:w.heap.size+1≤w1.heap.size:=by have:=b1.size;simpa using this
     have hal2:=allocB w1 (.cells #[.slice (some ⟨g,0,none⟩) m c] 24)
     have z2:(w1.alloc (.cells #[.slice (some ⟨g,0,none⟩) m c] 24)).cell? ⟨w1.heap.size,0,none⟩=some (.slice (some ⟨g,0,none⟩) m c):=by go_simp
     have r2:=keepCell hal2 r1
     have q2:=keepFrozen hal2 r1 q1
     have L2:=hidd (k5.out.keep hal2)
     have B2:=hidd (belowT B1.out hal2)
     clear k1 k2 k3 k4 k5 em r0 q0 r1 q1 b1 hal hal2 B1 CS HL
     have AW:=hidd (p_areWords (.slice (some ⟨g,0,none⟩) m c) K (by rw [EM.out];exact hmn) (fun x hx=>UL.out x ((KM.out x).1 hx)) true (by simpa using fun x hx=>HW.out x ((KM.out x).1 hx)) _ L2.out))
  | (refine ⟨trivial,?_⟩
     gi_at_call 28
     refine (callsIn_wide.2 AW.out).mono ?_
     rintro e w3 ⟨rfl,b3⟩
     have r3:=keepCell b3 r2
     have q3:=keepFrozen b3 r2 q2
     have z3:=keepCell b3 z2
     have L3:=hidd (L2.out.keep b3)
     have B3:=hidd (belowT B2.out b3)
     clear AW b3 r2 q2 z2 B2 L2)
  | fail)
 have HC:Hid (b=true↔∀ x∈K,Clean K x):=hidd (by
  rw [HB.out,free_iff (rising_nodup KR.out) KM.out]
  have h:=set_short (rising_nodup KR.out) KM.out
  exact ⟨fun h=>h.2.2,fun h3=>⟨fun hc=>h.1 hc HP.out,fun x hx=>HW.out x ((KM.out x).1 hx),h3⟩⟩)
 clear HB HP
 have hs3:=World.block_lt_of_cell? _ _ z3
 simp only at hs3
 refine wpIn_loop (fun a W=>∃ (i:Nat) (ds:List Deferred),i≤m∧FrF (.pointer (some ⟨w.heap.size,0,none⟩)) (.pointer (some ⟨w1.heap.size,0,none⟩)) (.slice (some ⟨g,0,none⟩) m c) (.int .i64 (m:Int)) (.int .i64 (i:Int)) ds a∧Below w3.heap.size w3 W∧Marks w3.heap.size W.heap.size ds W∧Hid (∀ x∈K.take i,Clean K x))
  (fun a _=>m - (intOf (a.tmps.getD 25 undef)).toNat) ?start ?round
 case start=>exact ⟨0,[],by omega,⟨_,_,_,_,_,_,_,_,_,_,_,_,_,_,_,_,_,_,_,_,_,_,_,_,_,_,_,_,_,_,_,_,_,_,_,_,_,_,_,_,rfl⟩,Below.refl _ _,Marks.nil _ _ _,hidd (by simp)⟩
 case round =>
  rintro a W ⟨i,ds,hi,⟨u0,u1,u4,u5,u6,u7,u8,u9,u10,u11,u12,u13,u14,u15,u16,u17,u18,u19,u20,u21,u22,u26,u27,u28,u29,u30,u31,u32,u33,u34,u35,u36,u37,u38,u39,u40,u41,u42,u43,u44,rfl⟩,hb,hM,hI⟩
  have hsW:=hb.size
  have rW:=keepCell hb r3
  have qW:=keepFrozen hb r3 q3
  have zW:=keepCell hb z3
  have LW:=hidd (L3.out.keep hb)
  by_cases hlt2:i < m
  · have hiK:i < K.length:=by rw [EM.out];exact hlt2
    have x1:W.cell? ⟨g,i,none⟩=some (.int .u64 K[i]):=by
     obtain ⟨pg,cg,he,-,hc⟩:=LW.out
     injection he with e1 e2 e3
     obtain ⟨g',o',e4,x1⟩:=hc i hiK
     rw [← e1] at e4
     cases e4
     simpa using x1
    have hmx:=List.getElem_mem hiK
    have hIn:=hidd (take_next hiK)
    have MX:=hidd hmx
    obtain ⟨q,e,S,Sp,hq,PA,SQ,hS,hSp⟩:=free_line K K[i] (HW.out _ ((KM.out _).1 hmx))
    have PA:=hidd PA
    have SQ:=hidd SQ
    have HS:=hidd hS
    have HSp:=hidd hSp
    clear hS hSp hmx
    generalize K[i]=x at *
    gi_wp2_with (first
     | (refine ⟨trivial,?_⟩
        gi_at_call 36
        refine (callsIn_wide.2 (PA.out _)).mono ?_
        rintro e4 w4 ⟨rfl,b4⟩
        have hb4:=hb.trans (b4.mono hsW)
        have hs4:=b4.size
        have M4:=hM.keep b4 (Nat.le_refl _)
        have r4:=keepCell b4 rW
        have q4:=keepFrozen b4 rW qW
        have z4:=keepCell b4 zW
        clear hM b4 x1 rW qW zW LW PA)
     | fail)
    have hs3w:w.heap.size < w3.heap.size:=World.block_lt_of_cell? _ _ r3
    refine rf_law rfl (by omega) (gf:=32) (pb:=#[.int .u64 q]) (lb:=#[]) rfl trivial (enters_of Tryz.func32 (by kernel_rfl) rfl)
     (SQ.out w3.heap.size w4 (by omega)) (by omega) (fun _=>rfl)
     (fun pre X=>((∀ y∈pre,¬ y∈K)∧Marks w3.heap.size w4.heap.size ds X)∧Below w3.heap.size w3 X)
     (fun c pre X=>(c=.ret∧(∃ y∈pre,y∈K)∧X.cell? ⟨w.heap.size,0,none⟩=some (.bool false)∧Marks w3.heap.size w4.heap.size ds X)∧Below w.heap.size w X) ?hI ?hIx ⟨⟨(by intro y hy;cases hy),M4.wide hs4⟩,hb4⟩
     (fun y=>{ tmps:=#[u0,u1,.pointer (some ⟨w.heap.size,0,none⟩),.pointer (some ⟨w1.heap.size,0,none⟩),u4,.int .u64 x,.int .u64 q,.int .i64 e,.int .u64 y,u9,u10,u11,u12,u13,u14,u15,u16,u17,u18,u19,u20,u21,u22,.slice (some ⟨g,0,none⟩) m c,.int .i64 (m:Int),.int .i64 (i:Int),.bool true,.pointer (some ⟨g,i,none⟩),.int .u64 x,.tuple #[.int .u64 q,.int .i64 e],.int .u64 x,.tuple #[.int .u64 q,.int .i64 e],.int .u64 q,.int .i64 e,.int .u64 q,.func (.func 32) #[.int .u64 q] #[],.int .u64 y,u37,u38,u39,u40,u41,u42,u43,u44],defers:=[] }) ?assign ?body ?done ?stop
    case hI =>
     intro s X Y hs hb'
     exact ⟨⟨hs.1.1,hs.1.2.keep hb' (Nat.le_refl _)⟩,hs.2.trans (hb'.mono (by omega))⟩
    case hIx =>
     intro c s X Y hs hb'
     exact ⟨⟨hs.1.1,hs.1.2.1,(hb'.cell (p:=⟨w.heap.size,0,none⟩) (by simp <;>omega)).trans hs.1.2.2.1,hs.1.2.2.2.keep hb' (Nat.le_refl _)⟩,hs.2.trans (hb'.mono (by omega))⟩
    case assign =>
     intro l y X K' hK
     gi_wp2
     exact hK
    case body =>
     rintro l pre y X ⟨⟨hp,hm⟩,hbX⟩ hs _
     have BS:=hidd (u_bsearch (.slice (some ⟨g,0,none⟩) m c) K y KR.out (by rw [EM.out];omega) X (L3.out.keep hbX))
     have zX:=keepCell hbX z3
     have rX:=keepCell hbX r3
     have qX:=keepFrozen hbX r3 q3
     have HP2:=hidd hp
     have HM2:=hidd hm
     clear hp hm
     by_cases hy:y∈K
     · have CT:Hid (Calls Tryz.prog 37 #[.slice (some ⟨g,0,none⟩) m c,.int .u64 y] X fun e w'=>(∃ k:Int,e=.returned (.tuple #[.int .i64 k,.bool true]))∧w'=X):=hidd (by have:=BS.out;rwa [decide_eq_true hy] at this)
       have HY:=hidd hy
       clear BS hy
       gi_wp2_with (first
        | (refine ⟨trivial,?_⟩
           gi_at_call 37
           refine (CallsIn.inRound l (callsIn_wide.2 CT.out)).mono ?_
           rintro e5 w5 ⟨⟨k5,rfl⟩,rfl⟩)
        | fail)
       exact ⟨(High.refl _ _).setCell (p:=⟨w.heap.size,0,none⟩) (by simp <;>omega) _,⟨rfl,⟨y,List.mem_append.2 (.inr (List.mem_singleton.2 rfl)),HY.out⟩,store_new rX,HM2.out.cell (p:=⟨w.heap.size,0,none⟩) (by simp <;>omega) _⟩,(B3.out.trans (hbX.mono (by omega))).setCell (p:=⟨w.heap.size,0,none⟩) (by simp <;>omega) _⟩
     · have CT:Hid (Calls Tryz.prog 37 #[.slice (some ⟨g,0,none⟩) m c,.int .u64 y] X fun e w'=>(∃ k:Int,e=.returned (.tuple #[.int .i64 k,.bool false]))∧w'=X):=hidd (by have:=BS.out;rwa [decide_eq_false hy] at this)
       have HY:=hidd hy
       clear BS hy
       gi_wp2_with (first
        | (refine ⟨trivial,?_⟩
           gi_at_call 37
           refine (CallsIn.inRound l (callsIn_wide.2 CT.out)).mono ?_
           rintro e5 w5 ⟨⟨k5,rfl⟩,rfl⟩)
        | fail)
       exact ⟨Below.refl _ _,High.refl _ _,⟨fun z hz=>(List.mem_append.1 hz).elim (HP2.out z) (fun h=>by rw [List.mem_singleton.1 h];exact HY.out),HM2.out⟩,hbX⟩
    case done =>
     rintro D xs X hD hxs ⟨⟨hp,hm⟩,hbX⟩ hK
     have hcl:=hidd (HS.out xs hxs hp)
     have HM2:=hidd (hm.more (D:=D) (by omega) (by omega) hK)
     have hIz:Hid (∀ z∈K.take (i+1),Clean K z):=hidd fun z hz=>by
      rw [hIn.out] at hz
      exact (List.mem_append.1 hz).elim (hI.out z) (fun h=>by rw [List.mem_singleton.1 h];exact hcl.out)
     clear hp hm hxs hK
     gi_wp2
     refine ⟨⟨i+1,_,by omega,?fr,hbX,HM2.out,hIz⟩,?ms⟩
     case fr =>
      have e25:(.int .i64 (((i+1:Nat):Int)):Value)=.int .i64 ((i:Int)+1):=by go_num
      rw [e25]
      exact ⟨_,_,_,_,_,_,_,_,_,_,_,_,_,_,_,_,_,_,_,_,_,_,_,_,_,_,_,_,_,_,_,_,_,_,_,_,_,_,_,_,rfl⟩
     case ms=>simp [intOf];omega
    case stop =>
     rintro D c' pre X hD hpre ⟨⟨rfl,hx,hr0,hm⟩,hbX⟩ hK
     have hcl:=HSp.out pre hpre hx
     have hbF:Hid (b=false):=hidd (by
      cases hbb:b with
      | false=>rfl
      | true=>exact absurd (HC.out.1 hbb x MX.out) hcl)
     have HM2:=hidd (hm.more (D:=D) (by omega) (by omega) hK)
     have hXs:=(Array.getElem?_eq_some_iff.1 hK).1
     clear hm hK hx hcl
     gi_wp2
     refine HM2.out.leaves (by omega) fun W' hW'=>?_
     have hcell:=(hW'.cell (p:=⟨w.heap.size,0,none⟩) (by simp <;>omega)).trans hr0
     exact ⟨.bool false,by simp [results,Tryz.results18,go_sem,hcell],by rw [hbF.out],hbX.trans (hW'.mono (by omega))⟩
  · obtain rfl:i=m:=by omega
    gi_wp2
    have hbT:Hid (b=true):=hidd (HC.out.2 fun x hx=>hI.out x (by rw [List.take_of_length_le (by rw [EM.out];omega)];exact hx))
    refine (hM.cell (p:=⟨w.heap.size,0,none⟩) (by simp <;>omega) (.bool true)).leaves (by simp <;>omega) fun W' hW'=>?_
    have hcell:=(hW'.cell (p:=⟨w.heap.size,0,none⟩) (by simp <;>omega)).trans (store_new rW)
    exact ⟨.bool true,by simp [results,Tryz.results18,go_sem,hcell],by rw [hbT.out],((B3.out.trans (hb.mono (by omega))).setCell (p:=⟨w.heap.size,0,none⟩) (by simp) _).trans (hW'.mono (by omega))⟩
theorem p_free (s:Value) (L:List Int) (hn:L.length≤50000) (uL:∀ x∈L,U64 x) (b:Bool) (hb:b=true↔FreeP L) (w:World) (hl:Lst w s L) :
 Calls Tryz.prog 18 #[s] w fun e w'=>e=.returned (.bool b)∧Below w.heap.size w w':=by
 by_cases h1:L.Nodup
 · by_cases h2:∀ x∈L,Whole x
   · exact free_loop s L hn (hidd h1) (hidd h2) uL b (hidd hb) w hl
   · have e:b=false:=by
      cases hbb:b with
      | false=>rfl
      | true=>exact absurd (hb.1 hbb).2.1 h2
     subst e
     exact free_none s L hn (hidd h1) (hidd h2) uL w hl
 · have e:b=false:=by
    cases hbb:b with
    | false=>rfl
    | true=>exact absurd (hb.1 hbb).1 h1
   subst e
   exact free_twice s L hn (hidd h1) w hl
end Go.Proofs.YtlfjfendlohekaaGreatDoor
