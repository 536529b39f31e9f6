/-
  The document's own words within words: what WordIn tells; in whatever memory.
-/
import Derived.Test.YtlfjfendlohekaaGreatDoorM2C
import Derived.Test.YtlfjfendlohekaaGreatDoorJn01
import Derived.Test.YtlfjfendlohekaaGreatDoorI2C
import Derived.Test.YtlfjfendlohekaaGreatDoorCWC
namespace Go.Proofs.YtlfjfendlohekaaGreatDoor
open Go.RowKit
theorem cell_up {w:Int} (h:Whole w) (hr:0 < wR w):cellA (upW w)=parA (cellA w) (cellB w)∧cellB (upW w)=parB (cellA w) (cellB w):=by
 have hb:=wR_box w
 have e:=word_cell h
 have hu:=raised_word (r:=(wR w).toNat) (a:=cellA w) (b:=cellB w) (by rw [show (((wR w).toNat:Nat):Int)=wR w by omega];exact cell_ok h) (by omega)
 rw [e] at hu
 have hp:=ok4_parent (cell_ok h) hr
 rw [show wR w - 1=(((wR w).toNat - 1:Nat):Int) by omega] at hp
 rw [hu]
 exact cell_word hp
theorem cell_ups:∀ (n:Nat) {w:Int},Whole w→(n:Int)≤wR w→Whole (upWs n w)∧wR (upWs n w)=wR w - n∧cellA (upWs n w)=(ups n (cellA w) (cellB w)).1∧cellB (upWs n w)=(ups n (cellA w) (cellB w)).2
 | 0,w,h,_=>⟨h,by show wR w=wR w - ((0:Nat):Int);omega,rfl,rfl⟩
 | n+1,w,h,hn=>by
  have hu:=up_whole h (by omega)
  have hc:=cell_up h (by omega)
  have ih:=cell_ups n hu.1 (by omega)
  rw [hc.1,hc.2] at ih
  show Whole (upWs n (upW w))∧wR (upWs n (upW w))=_∧cellA (upWs n (upW w))=_∧cellB (upWs n (upW w))=_
  rw [ups_step]
  exact ⟨ih.1,by omega,ih.2.2.1,ih.2.2.2⟩
theorem line_above {w a:Int} (hw:Whole w) (ha:Whole a):Within4 (wR w) (cellA w) (cellB w) (wR a) (cellA a) (cellB a)↔Above a w:=by
 have hb:=wR_box w
 have hb2:=wR_box a
 constructor
 · rintro ⟨_,_,h3,h4,h5⟩
   obtain ⟨h6,h7,h8,h9⟩:=cell_ups (wR w - wR a).toNat hw (by omega)
   refine ⟨(wR w - wR a).toNat,by omega,?_⟩
   have e1:=word_cell h6
   have e2:=word_cell ha
   rw [h8,h9,h4,h5,show (wR (upWs (wR w - wR a).toNat w)).toNat=(wR a).toNat by omega] at e1
   rw [← e1,e2]
 · rintro ⟨k,h1,rfl⟩
   obtain ⟨h6,h7,h8,h9⟩:=cell_ups k hw h1
   refine ⟨cell_ok hw,cell_ok h6,by omega,?_,?_⟩
   · rw [show (wR w - wR (upWs k w)).toNat=k by omega,h8]
   · rw [show (wR w - wR (upWs k w)).toNat=k by omega,h9]
theorem withB_iff {r a b t p q:Int}:withB r a b t p q=true↔Within4 r a b t p q:=by
 constructor
 · intro h
   by_cases k:Within4 r a b t p q
   · exact k
   · rw [withB_no k] at h;cases h
 · exact withB_mk
set_option maxHeartbeats 4000000 in
set_option maxRecDepth 20000 in
theorem r_wordin (v a:Int) (uv:U64 v) (ua:U64 a) (b:Bool) (hb:b=true↔Whole v∧Above a v) (w:World) :
 Calls Tryz.prog 24 #[.int .u64 v,.int .u64 a] w fun e w'=>e=.returned (.bool b)∧Below w.heap.size w w':=by
 by_cases hv:Whole v
 · have CV:=hidd fun w=>rwcell_yes v hv w
   by_cases ha:Whole a
   · have CA:=hidd fun w=>rwcell_yes a ha w
     have e:withB (wR v) (cellA v) (cellB v) (wR a) (cellA a) (cellB a)=b:=by
      cases hb1:b with
      | true=>exact withB_iff.2 ((line_above hv ha).2 (hb.1 hb1).2)
      | false =>
       cases hw:withB (wR v) (cellA v) (cellB v) (wR a) (cellA a) (cellB a) with
       | false=>rfl
       | true =>
        have:=hb.2 ⟨hv,(line_above hv ha).1 (withB_iff.1 hw)⟩
        rw [hb1] at this;cases this
     have WI:=hidd fun w=>rwithin_any (wR v) (cellA v) (cellB v) (wR a) (cellA a) (cellB a) w
     rw [e] at WI
     clear hb hv ha e
     generalize wR v=r1 at *
     generalize cellA v=a1 at *
     generalize cellB v=b1 at *
     generalize wR a=r2 at *
     generalize cellA a=a2 at *
     generalize cellB a=b2 at *
     go_enter Tryz.func24,Tryz.ntmps24
     go_wp2_with fail
     refine (CV.out _).mono ?_
     rintro e w1 ⟨rfl,d1⟩
     have c1:Below w.heap.size w w1:=Below.trans (by go_grown) (d1.mono (by simp;try omega))
     have hB:=c1
     clear c1 d1
     go_wp2_with fail
     refine (CA.out _).mono ?_
     rintro e w2 ⟨rfl,d2⟩
     have c2:Below w1.heap.size w1 w2:=Below.trans (by go_grown) (d2.mono (by simp;try omega))
     have x0:w2.cell? ⟨w1.heap.size,0,none⟩=some (.int .i64 r1):=keepCell d2 (by go_simp)
     have qx0:=World.block_lt_of_cell? _ _ x0
     have x1:w2.cell? ⟨w1.heap.size,1,none⟩=some (.int .i64 a1):=keepCell d2 (by go_simp)
     have x2:w2.cell? ⟨w1.heap.size,2,none⟩=some (.int .i64 b1):=keepCell d2 (by go_simp)
     replace hB:=belowT hB c2
     clear c2 d2
     go_wp2_with fail
     refine (WI.out _).mono ?_
     rintro e w3 ⟨rfl,d3⟩
     have c3:Below w2.heap.size w2 w3:=Below.trans (by go_grown) (d3.mono (by simp;try omega))
     replace x0:=keepCell c3 x0
     replace qx0:=World.block_lt_of_cell? _ _ x0
     replace x1:=keepCell c3 x1
     replace x2:=keepCell c3 x2
     replace hB:=belowT hB c3
     clear c3 d3
     go_wp2
     go_ret
     exact ⟨rfl,hB⟩
   · have CA:=hidd fun w=>rwcell_no a ua ha w
     have e:b=false:=by
      cases hb1:b with
      | false=>rfl
      | true=>exact absurd ((hb.1 hb1).2.whole hv) ha
     subst e
     clear hb hv ha
     generalize wR v=r1 at *
     generalize cellA v=a1 at *
     generalize cellB v=b1 at *
     go_enter Tryz.func24,Tryz.ntmps24
     go_wp2_with fail
     refine (CV.out _).mono ?_
     rintro e w1 ⟨rfl,d1⟩
     have c1:Below w.heap.size w w1:=Below.trans (by go_grown) (d1.mono (by simp;try omega))
     have hB:=c1
     clear c1 d1
     go_wp2_with fail
     refine (CA.out _).mono ?_
     rintro e w2 ⟨rfl,d2⟩
     have c2:Below w1.heap.size w1 w2:=Below.trans (by go_grown) (d2.mono (by simp;try omega))
     replace hB:=belowT hB c2
     clear c2 d2
     go_wp2
     go_ret
     exact ⟨rfl,hB.alloc (by have:=hB.size;omega) _⟩
 · have CV:=hidd fun w=>rwcell_no v uv hv w
   have e:b=false:=by
    cases hb1:b with
    | false=>rfl
    | true=>exact absurd (hb.1 hb1).1 hv
   subst e
   clear hb
   by_cases ha:Whole a
   · have CA:=hidd fun w=>rwcell_yes a ha w
     clear hv ha
     generalize wR a=r1 at *
     generalize cellA a=a1 at *
     generalize cellB a=b1 at *
     go_enter Tryz.func24,Tryz.ntmps24
     go_wp2_with fail
     refine (CV.out _).mono ?_
     rintro e w1 ⟨rfl,d1⟩
     have c1:Below w.heap.size w w1:=Below.trans (by go_grown) (d1.mono (by simp;try omega))
     have hB:=c1
     clear c1 d1
     go_wp2_with fail
     refine (CA.out _).mono ?_
     rintro e w2 ⟨rfl,d2⟩
     have c2:Below w1.heap.size w1 w2:=Below.trans (by go_grown) (d2.mono (by simp;try omega))
     replace hB:=belowT hB c2
     clear c2 d2
     go_wp2
     go_ret
     exact ⟨rfl,hB.alloc (by have:=hB.size;omega) _⟩
   · have CA:=hidd fun w=>rwcell_no a ua ha w
     clear hv ha
     go_enter Tryz.func24,Tryz.ntmps24
     go_wp2_with fail
     refine (CV.out _).mono ?_
     rintro e w1 ⟨rfl,d1⟩
     have c1:Below w.heap.size w w1:=Below.trans (by go_grown) (d1.mono (by simp;try omega))
     have hB:=c1
     clear c1 d1
     go_wp2_with fail
     refine (CA.out _).mono ?_
     rintro e w2 ⟨rfl,d2⟩
     have c2:Below w1.heap.size w1 w2:=Below.trans (by go_grown) (d2.mono (by simp;try omega))
     replace hB:=belowT hB c2
     clear c2 d2
     go_wp2
     go_ret
     exact ⟨rfl,hB.alloc (by have:=hB.size;omega) _⟩
def FreeP (L:List Int):Prop:=L.Nodup∧(∀ x∈L,Whole x)∧Anti L
theorem nodup_sub:∀ (K L:List Int),K.Nodup→(∀ x∈K,x∈L)→K.length≤L.length∧(L.length≤K.length→L.Perm K)
 | [],L,_,_=>⟨by simp,fun h=>by
     have:L=[]:=List.length_eq_zero_iff.1 (by simpa using h)
     rw [this]⟩
 | a :: K,L,hn,hs=>by
  have hn':=List.nodup_cons.1 hn
  obtain ⟨L1,L2,rfl⟩:=List.append_of_mem (hs a (List.mem_cons_self ..))
  have ih:=nodup_sub K (L1++L2) hn'.2 fun x hx=>by
   have h1:=hs x (List.mem_cons_of_mem _ hx)
   have hne:x≠a:=fun e=>hn'.1 (e ▸ hx)
   simp only [List.mem_append,List.mem_cons] at h1 ⊢
   rcases h1 with h | h | h
   · exact .inl h
   · exact absurd h hne
   · exact .inr h
  have e:(L1++a :: L2).length=(L1++L2).length+1:=by simp;omega
  refine ⟨by rw [e,List.length_cons];omega,fun h=>?_⟩
  have hp:=ih.2 (by rw [e,List.length_cons] at h;omega)
  exact List.perm_middle.trans (List.Perm.cons a hp)
theorem set_short {K L:List Int} (hK:K.Nodup) (hm:∀ x,x∈K↔x∈L):K.length < L.length↔¬ L.Nodup:=by
 have h:=nodup_sub K L hK fun x hx=>(hm x).1 hx
 constructor
 · intro hlt hL
   have:=nodup_ext_len hK hL hm
   omega
 · intro hL
   by_cases hlt:K.length < L.length
   · exact hlt
   · exact absurd ((h.2 (by omega)).nodup_iff.2 hK) hL
theorem free_iff {K L:List Int} (hK:K.Nodup) (hm:∀ x,x∈K↔x∈L):FreeP L↔(¬ K.length < L.length)∧(∀ x∈K,Whole x)∧∀ x∈K,0 < wR x→∀ p,Above p (upW x)→¬ p∈K:=by
 rw [set_short hK hm]
 unfold FreeP
 constructor
 · rintro ⟨h1,h2,h3⟩
   refine ⟨fun h=>h h1,fun x hx=>h2 x ((hm x).1 hx),fun x hx hr p hp hpK=>?_⟩
   have hw:=h2 x ((hm x).1 hx)
   have hu:=up_whole hw hr
   have e:=h3 p ((hm p).1 hpK) x ((hm x).1 hx) (above_up hw hr hp)
   have:=hp.size hu.1
   rw [e,hu.2] at this
   omega
 · rintro ⟨h1,h2,h3⟩
   refine ⟨Classical.not_not.1 h1,fun x hx=>h2 x ((hm x).2 hx),fun p hp q hq ha=>?_⟩
   have hw:=h2 q ((hm q).2 hq)
   rcases above_cases hw ha with e | ⟨hr,hu⟩
   · exact e
   · exact absurd ((hm p).2 hp) (h3 q ((hm q).2 hq) hr p hu)
end Go.Proofs.YtlfjfendlohekaaGreatDoor
