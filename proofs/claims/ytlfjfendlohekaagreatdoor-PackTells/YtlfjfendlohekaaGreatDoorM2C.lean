/-
  What the texts SetMath, KidMath, PackMath, PackStep say, so far as this seat's proofs need it.
-/
import Derived.Test.YtlfjfendlohekaaGreatDoorMC
namespace Go.Proofs.YtlfjfendlohekaaGreatDoor
open Go.RowKit
def Took (k:Bool→Bool→Bool) (A B A1 B1 K:List Int):Prop :=
 ∃ A0 B0:List Int,A=A0++A1∧B=B0++B1∧Rising K∧(∀ x,x∈K↔k (decide (x∈A)) (decide (x∈B))=true∧(x∈A0∨x∈B0)) ∧
  (∀ x,x∈A0∨x∈B0→(∀ y∈A1,x < y)∧∀ y∈B1,x < y)∧K.length≤A0.length+B0.length
theorem Took.start (k:Bool→Bool→Bool) (A B:List Int):Took k A B A B [] :=
 ⟨[],[],rfl,rfl,List.Pairwise.nil,fun x=>by simp,fun x h=>by simp at h,by simp⟩
theorem Took.len {k:Bool→Bool→Bool} {A B A1 B1 K:List Int} (h:Took k A B A1 B1 K):K.length+A1.length+B1.length≤A.length+B.length:=by
 obtain ⟨A0,B0,rfl,rfl,-,-,-,h6⟩:=h
 simp only [List.length_append]
 omega
theorem Took.done {k:Bool→Bool→Bool} {A B K:List Int} (h:Took k A B [] [] K):Rising K∧(∀ x,x∈K↔k (decide (x∈A)) (decide (x∈B))=true∧(x∈A∨x∈B)):=by
 obtain ⟨A0,B0,e1,e2,h3,h4,-,-⟩:=h
 rw [List.append_nil] at e1 e2
 subst e1 e2
 exact ⟨h3,h4⟩
theorem rising_head {A0 A1:List Int} {x:Int} (h:Rising (A0++x :: A1)):(∀ y∈A0,y < x)∧(∀ y∈A1,x < y):=by
 have h1:=List.pairwise_append.1 h
 exact ⟨fun y hy=>h1.2.2 y hy x (List.mem_cons_self ..),(List.pairwise_cons.1 h1.2.1).1⟩
theorem rising_snoc {K:List Int} {w:Int} (h:Rising K) (hw:∀ x∈K,x < w):Rising (K++[w]) :=
 List.pairwise_append.2 ⟨h,List.pairwise_singleton _ _,fun x hx y hy=>by rw [List.mem_singleton] at hy;subst hy;exact hw x hx⟩
theorem Took.step {k:Bool→Bool→Bool} {A B A1 B1 A2 B2 K:List Int} {w:Int} {p q:Bool} (h:Took k A B A1 B1 K) (hA:Rising A) (hB:Rising B) (hpq:p=true∨q=true)
 (hp:(p=true∧A1=w :: A2)∨(p=false∧A2=A1∧∀ y∈A1,w < y)) (hq:(q=true∧B1=w :: B2)∨(q=false∧B2=B1∧∀ y∈B1,w < y)) :
 Took k A B A2 B2 (if k p q=true then K++[w] else K):=by
 obtain ⟨A0,B0,e1,e2,h3,h4,h5,h6⟩:=h
 have hwA:decide (w∈A)=p:=by
  rcases hp with ⟨rfl,e⟩ | ⟨rfl,rfl,hw⟩
  · exact decide_eq_true (by rw [e1,e];simp)
  · refine decide_eq_false fun hm=>?_
    rw [e1,List.mem_append] at hm
    rcases hm with hm | hm
    · rcases hpq with h | h
      · cases h
      · rcases hq with ⟨_,e⟩ | ⟨rfl,_⟩
        · have:=(h5 w (.inl hm)).2 w (by rw [e];simp);omega
        · cases h
    · have:=hw w hm;omega
 have hwB:decide (w∈B)=q:=by
  rcases hq with ⟨rfl,e⟩ | ⟨rfl,rfl,hw⟩
  · exact decide_eq_true (by rw [e2,e];simp)
  · refine decide_eq_false fun hm=>?_
    rw [e2,List.mem_append] at hm
    rcases hm with hm | hm
    · rcases hpq with h | h
      · rcases hp with ⟨_,e⟩ | ⟨rfl,_⟩
        · have:=(h5 w (.inr hm)).1 w (by rw [e];simp);omega
        · cases h
      · cases h
    · have:=hw w hm;omega
 have hKw:∀ x∈K,x < w:=fun x hx=>by
  have hx0:=((h4 x).1 hx).2
  rcases hpq with h | h
  · rcases hp with ⟨_,e⟩ | ⟨rfl,_⟩
    · exact (h5 x hx0).1 w (by rw [e];simp)
    · cases h
  · rcases hq with ⟨_,e⟩ | ⟨rfl,_⟩
    · exact (h5 x hx0).2 w (by rw [e];simp)
    · cases h
 obtain ⟨A3,eA,mA,lA,gA⟩:∃ A3,A=A3++A2∧(∀ x,x∈A3↔x∈A0∨(p=true∧x=w))∧A3.length=A0.length+(if p=true then 1 else 0)∧∀ y∈A2,w < y:=by
  rcases hp with ⟨rfl,e⟩ | ⟨rfl,rfl,hw⟩
  · refine ⟨A0++[w],by rw [e1,e];simp,fun x=>by simp,by simp,?_⟩
    rw [e1,e] at hA
    exact (rising_head hA).2
  · exact ⟨A0,e1,fun x=>by simp,by simp,hw⟩
 obtain ⟨B3,eB,mB,lB,gB⟩:∃ B3,B=B3++B2∧(∀ x,x∈B3↔x∈B0∨(q=true∧x=w))∧B3.length=B0.length+(if q=true then 1 else 0)∧∀ y∈B2,w < y:=by
  rcases hq with ⟨rfl,e⟩ | ⟨rfl,rfl,hw⟩
  · refine ⟨B0++[w],by rw [e2,e];simp,fun x=>by simp,by simp,?_⟩
    rw [e2,e] at hB
    exact (rising_head hB).2
  · exact ⟨B0,e2,fun x=>by simp,by simp,hw⟩
 have hor:∀ x,(x∈A3∨x∈B3)↔((x∈A0∨x∈B0)∨x=w):=fun x=>by
  rw [mA,mB]
  rcases hpq with h | h <;>simp only [h,true_and] <;>grind
 refine ⟨A3,B3,eA,eB,?_,fun x=>?_,fun x hx=>?_,?_⟩
 · split
   · exact rising_snoc h3 hKw
   · exact h3
 · rw [hor x]
   by_cases hk:k p q=true
   · rw [if_pos hk,List.mem_append,List.mem_singleton,h4 x]
     constructor
     · rintro (h | rfl)
       · exact ⟨h.1,.inl h.2⟩
       · exact ⟨by rw [hwA,hwB];exact hk,.inr rfl⟩
     · rintro ⟨h1,h | rfl⟩
       · exact .inl ⟨h1,h⟩
       · exact .inr rfl
   · rw [if_neg hk,h4 x]
     constructor
     · rintro ⟨h1,h2⟩;exact ⟨h1,.inl h2⟩
     · rintro ⟨h1,h | rfl⟩
       · exact ⟨h1,h⟩
       · rw [hwA,hwB] at h1;exact absurd h1 hk
 · have s2A:∀ y∈A2,y∈A1:=fun y hy=>by
    rcases hp with ⟨_,e⟩ | ⟨_,e,_⟩
    · rw [e];exact List.mem_cons_of_mem _ hy
    · rw [← e];exact hy
   have s2B:∀ y∈B2,y∈B1:=fun y hy=>by
    rcases hq with ⟨_,e⟩ | ⟨_,e,_⟩
    · rw [e];exact List.mem_cons_of_mem _ hy
    · rw [← e];exact hy
   rcases (hor x).1 hx with h | rfl
   · exact ⟨fun y hy=>(h5 x h).1 y (s2A y hy),fun y hy=>(h5 x h).2 y (s2B y hy)⟩
   · exact ⟨gA,gB⟩
 · rw [lA,lB]
   have:(if k p q=true then K++[w] else K).length≤K.length+1:=by split <;>simp
   rcases hpq with h | h
   · rw [if_pos h];omega
   · rw [if_pos h];omega
def Chosen (k:Bool→Bool→Bool) (A B K:List Int):Prop:=Rising K∧∀ x,x∈K↔k (decide (x∈A)) (decide (x∈B))=true∧(x∈A∨x∈B)
theorem Chosen.one {k:Bool→Bool→Bool} {A B A' B' K K':List Int} (h:Chosen k A B K) (h':Chosen k A' B' K') (eA:∀ x,x∈A↔x∈A') (eB:∀ x,x∈B↔x∈B'):K=K' :=
 rising_ext h.1 h'.1 fun x=>by rw [h.2 x,h'.2 x,decide_eq_decide.2 (eA x),decide_eq_decide.2 (eB x),eA x,eB x]
def chW (v:Int) (d:Nat):Int:=v+72057594037927936 - (7 - (d:Int))*8^(11 - (wR v).toNat)
theorem child_word {v:Int} (h:Whole v) (hr:wR v < 12) {d:Nat} (hd:d≤6) :
 Ok4 (((wR v).toNat+1:Nat):Int) (chA (d:Int) (cellA v) (cellB v)) (chB (d:Int) (cellA v) (cellB v))∧wordOf ((wR v).toNat+1) (chA (d:Int) (cellA v) (cellB v)) (chB (d:Int) (cellA v) (cellB v))=chW v d:=by
 have hb:=wR_box v
 have hc:=ok4_child (cell_ok h) hr (show 0≤(d:Int) by omega) (show (d:Int)≤6 by omega)
 rw [show wR v+1=(((wR v).toNat+1:Nat):Int) by omega] at hc
 refine ⟨hc,?_⟩
 have hp:=par_one (P:=cellA v) (Q:=cellB v) (show 0≤(d:Int) by omega) (show (d:Int)≤6 by omega)
 have hu:=raised_word hc (by omega)
 rw [hp.2.1,hp.2.2,Nat.add_sub_cancel,word_cell h] at hu
 have hw:=word_parts hc
 have hdg:=hw.2.2.2.2.1 ((wR v).toNat+1) (by omega) (by omega)
 unfold dgs at hdg
 rw [if_pos (Nat.le_refl _),Nat.sub_self] at hdg
 unfold upW setD at hu
 rw [hw.2.1] at hu
 rw [show (((wR v).toNat+1:Nat):Int).toNat=(wR v).toNat+1 by omega,hdg] at hu
 rw [show ups 0 (chA (d:Int) (cellA v) (cellB v)) (chB (d:Int) (cellA v) (cellB v))=(chA (d:Int) (cellA v) (cellB v),chB (d:Int) (cellA v) (cellB v)) from rfl] at hu
 simp only at hu
 rw [hp.1,show 12 - ((wR v).toNat+1)=11 - (wR v).toNat by omega] at hu
 unfold chW
 rw [Int.sub_mul]
 omega
theorem chW_whole {v:Int} (h:Whole v) (hr:wR v < 12) {d:Nat} (hd:d≤6):Whole (chW v d)∧wR (chW v d)=wR v+1:=by
 have hb:=wR_box v
 have hc:=child_word h hr hd
 have hp:=word_parts hc.1
 rw [hc.2] at hp
 exact ⟨hp.1,by rw [hp.2.1];omega⟩
theorem word_foot {a:Int} {n:Nat} (h:Whole a) (hn:wR a=(n:Int)):∀ k,k≤12 - n→a%8^k=8^k - 1
 | 0,_=>by simp
 | k+1,hk=>by
  have ih:=word_foot h hn k (by omega)
  have hd:dg a (12 - k)=7:=(h.2.2 (12 - k) (by omega) (by omega)).2 (by rw [hn];omega)
  unfold dg at hd
  rw [show 12 - (12 - k)=k by omega] at hd
  have hp:(0:Int) < 8^k:=Int.pow_pos (by omega)
  rw [Int.pow_succ]
  generalize (8:Int)^k=p at *
  have e1:=Int.mul_ediv_add_emod a p
  have e2:=Int.mul_ediv_add_emod (a / p) 8
  rw [hd] at e2
  rw [ih] at e1
  generalize a / p=q at *
  generalize q / 8=s at *
  have e3:a=(p*8 - 1)+p*8*s:=by rw [← e1,← e2,Int.mul_add,Int.mul_assoc];omega
  rw [e3,Int.add_mul_emod_self_left]
  exact Int.emod_eq_of_lt (by omega) (by omega)
theorem word_apart {a b:Int} {n:Nat} (ha:Whole a) (hb:Whole b) (na:wR a=(n:Int)) (nb:wR b=(n:Int)) (hne:a≠b):a+8^(12 - n)≤b∨b+8^(12 - n)≤a:=by
 have e1:=word_foot ha na (12 - n) (Nat.le_refl _)
 have e2:=word_foot hb nb (12 - n) (Nat.le_refl _)
 have hp:(0:Int) < 8^(12 - n):=Int.pow_pos (by omega)
 generalize (8:Int)^(12 - n)=p at *
 have f1:=Int.mul_ediv_add_emod a p
 have f2:=Int.mul_ediv_add_emod b p
 rw [e1] at f1
 rw [e2] at f2
 generalize a / p=q at *
 generalize b / p=s at *
 rcases (show q=s∨q+1≤s∨s+1≤q by omega) with rfl | h | h
 · exact absurd (by omega) hne
 · have:=Int.mul_le_mul_of_nonneg_left h (show 0≤p by omega)
   rw [Int.mul_add] at this
   omega
 · have:=Int.mul_le_mul_of_nonneg_left h (show 0≤p by omega)
   rw [Int.mul_add] at this
   omega
theorem up_kid {v:Int} (h:Whole v) (hr:wR v < 12) {d:Nat} (hd:d≤6):upW (chW v d)=v:=by
 have hc:=child_word h hr hd
 have hp:=par_one (P:=cellA v) (Q:=cellB v) (show 0≤(d:Int) by omega) (show (d:Int)≤6 by omega)
 have hu:=raised_word hc.1 (by omega)
 rw [hp.2.1,hp.2.2,Nat.add_sub_cancel,word_cell h,hc.2] at hu
 exact hu
def kidRow (v:Int):List Int:=(List.range 7).map (chW v)
theorem kidRow_len (v:Int):(kidRow v).length=7:=by simp [kidRow]
theorem kidRow_mem {v x:Int}:x∈kidRow v↔∃ d:Nat,d≤6∧x=chW v d:=by
 unfold kidRow
 rw [List.mem_map]
 constructor
 · rintro ⟨d,hd,rfl⟩;exact ⟨d,by have:=List.mem_range.1 hd;omega,rfl⟩
 · rintro ⟨d,hd,rfl⟩;exact ⟨d,List.mem_range.2 (by omega),rfl⟩
theorem kids_rise {v:Int} {d e:Nat} (h:d < e) (_:e≤6):chW v d < chW v e:=by
 unfold chW
 have hp:(0:Int) < 8^(11 - (wR v).toNat):=Int.pow_pos (by omega)
 generalize (8:Int)^(11 - (wR v).toNat)=p at *
 have:=Int.mul_lt_mul_of_pos_right (show (7 - (e:Int)) < 7 - (d:Int) by omega) hp
 omega
theorem kids_apart {u v:Int} {n d e:Nat} (hu:Whole u) (hv:Whole v) (nu:wR u=(n:Int)) (nv:wR v=(n:Int)) (hn:n < 12) (h:u < v) (hd:d≤6) (_:e≤6):chW u d < chW v e:=by
 have ha:=word_apart hu hv nu nv (by omega)
 have e8:(8:Int)^(12 - n)=8*8^(11 - n):=by rw [show 12 - n=11 - n+1 by omega,Int.pow_succ,Int.mul_comm]
 rw [e8] at ha
 unfold chW
 rw [nu,nv,show ((n:Int)).toNat=n by omega]
 have hp:(0:Int) < 8^(11 - n):=Int.pow_pos (by omega)
 generalize (8:Int)^(11 - n)=p at *
 have h1:=Int.mul_le_mul_of_nonneg_right (show (1:Int)≤7 - (d:Int) by omega) (show 0≤p by omega)
 have h2:=Int.mul_le_mul_of_nonneg_right (show 7 - (e:Int)≤7 by omega) (show 0≤p by omega)
 omega
theorem up_whole {w:Int} (h:Whole w) (hr:0 < wR w):Whole (upW w)∧wR (upW w)=wR w - 1:=by
 have hb:=wR_box w
 have e:=word_cell h
 have hu:=raised_word (r:=(wR w).toNat) (a:=cellA w) (b:=cellB w) (by rw [show (((wR w).toNat:Nat):Int)=wR w by omega];exact cell_ok h) (by omega)
 rw [e] at hu
 have hp:=ok4_parent (cell_ok h) hr
 rw [show wR w - 1=(((wR w).toNat - 1:Nat):Int) by omega] at hp ⊢
 have hq:=word_parts hp
 rw [hu]
 exact ⟨hq.1,hq.2.1⟩
theorem whole_pos {w:Int} (h:Whole w):0 < w:=by have:=h.1;omega
theorem kid_of_up {w:Int} (h:Whole w) (hr:0 < wR w):∃ d:Nat,d≤6∧w=chW (upW w) d:=by
 have hb:=wR_box w
 have hu:=up_whole h hr
 have hd:=whole_digs h (j:=(wR w).toNat) (by omega) (by omega)
 refine ⟨(dg w (wR w).toNat).toNat,by omega,?_⟩
 have h12:=h.2.1
 have e:11 - (wR (upW w)).toNat=12 - (wR w).toNat:=by rw [hu.2];omega
 unfold chW
 rw [e,show (((dg w (wR w).toNat).toNat:Nat):Int)=dg w (wR w).toNat by omega]
 unfold upW setD
 rw [Int.sub_mul]
 omega
theorem size_mono {a b:Int} (ha:Whole a) (hb:Whole b) (h:a≤b):wR a≤wR b:=by
 have h1:=ha.1
 have h2:=hb.1
 unfold wR
 omega
theorem up_lt {w:Int} (h:Whole w) (hr:0 < wR w):upW w < w:=by
 have hu:=up_whole h hr
 by_cases hlt:upW w < w
 · exact hlt
 · have:=size_mono h hu.1 (by omega);omega
theorem up_mono {a b:Int} (ha:Whole a) (hb:Whole b) (hr:0 < wR a) (hs:wR a=wR b) (h:a≤b):upW a≤upW b:=by
 have ua:=up_whole ha hr
 have ub:=up_whole hb (by omega)
 by_cases hlt:upW b < upW a
 · obtain ⟨d,hd,ea⟩:=kid_of_up ha hr
   obtain ⟨e,he,eb⟩:=kid_of_up hb (by omega)
   have hbx:=wR_box (upW a)
   have h12:=ha.2.1
   have:=kids_apart (n:=(wR (upW a)).toNat) ub.1 ua.1 (by omega) (by omega) (by omega) hlt he hd
   rw [← ea,← eb] at this
   omega
 · omega
def upWs:Nat→Int→Int
 | 0,w=>w
 | k+1,w=>upWs k (upW w)
def Above (p w:Int):Prop:=∃ k:Nat,(k:Int)≤wR w∧upWs k w=p
theorem above_refl (w:Int):Above w w:=⟨0,(wR_box w).1,rfl⟩
theorem above_up {p w:Int} (h:Whole w) (hr:0 < wR w) (hp:Above p (upW w)):Above p w:=by
 obtain ⟨k,h1,h2⟩:=hp
 rw [(up_whole h hr).2] at h1
 exact ⟨k+1,by omega,h2⟩
theorem above_cases {p w:Int} (h:Whole w) (hp:Above p w):p=w∨(0 < wR w∧Above p (upW w)):=by
 obtain ⟨k,h1,h2⟩:=hp
 cases k with
 | zero=>exact .inl h2.symm
 | succ k=>exact .inr ⟨by omega,k,by rw [(up_whole h (by omega)).2];omega,h2⟩
theorem above_whole:∀ (n:Nat) {p w:Int},(wR w).toNat=n→Whole w→Above p w→Whole p∧wR p≤wR w∧p≤w∧(wR p=wR w→p=w)
 | 0,p,w,hn,h,hp=>by
  have hb:=wR_box w
  rcases above_cases h hp with rfl | ⟨hr,_⟩
  · exact ⟨h,Int.le_refl _,Int.le_refl _,fun _=>rfl⟩
  · omega
 | n+1,p,w,hn,h,hp=>by
  rcases above_cases h hp with rfl | ⟨hr,ha⟩
  · exact ⟨h,Int.le_refl _,Int.le_refl _,fun _=>rfl⟩
  · have hu:=up_whole h hr
    have ih:=above_whole n (by rw [hu.2];omega) hu.1 ha
    have hl:=up_lt h hr
    exact ⟨ih.1,by omega,by omega,fun e=>by omega⟩
theorem Above.whole {p w:Int} (hp:Above p w) (h:Whole w):Whole p:=(above_whole _ rfl h hp).1
theorem Above.size {p w:Int} (hp:Above p w) (h:Whole w):wR p≤wR w:=(above_whole _ rfl h hp).2.1
theorem Above.le {p w:Int} (hp:Above p w) (h:Whole w):p≤w:=(above_whole _ rfl h hp).2.2.1
theorem Above.eq {p w:Int} (hp:Above p w) (h:Whole w) (e:wR p=wR w):p=w:=(above_whole _ rfl h hp).2.2.2 e
theorem above_trans:∀ (n:Nat) {p q w:Int},(wR w).toNat=n→Whole w→Above p q→Above q w→Above p w
 | 0,p,q,w,hn,h,hp,hq=>by
  have hb:=wR_box w
  rcases above_cases h hq with rfl | ⟨hr,_⟩
  · exact hp
  · omega
 | n+1,p,q,w,hn,h,hp,hq=>by
  rcases above_cases h hq with rfl | ⟨hr,ha⟩
  · exact hp
  · have hu:=up_whole h hr
    exact above_up h hr (above_trans n (by rw [hu.2];omega) hu.1 hp ha)
theorem Above.trans {p q w:Int} (hp:Above p q) (hq:Above q w) (h:Whole w):Above p w:=above_trans _ rfl h hp hq
theorem above_line:∀ (n:Nat) {p q w:Int},(wR w).toNat=n→Whole w→Above p w→Above q w→wR p≤wR q→Above p q
 | 0,p,q,w,hn,h,hp,hq,hs=>by
  have hb:=wR_box w
  rcases above_cases h hq with rfl | ⟨hr,_⟩
  · exact hp
  · omega
 | n+1,p,q,w,hn,h,hp,hq,hs=>by
  rcases above_cases h hq with rfl | ⟨hr,ha⟩
  · exact hp
  · have hu:=up_whole h hr
    rcases above_cases h hp with rfl | ⟨_,hb⟩
    · have:=ha.size hu.1;omega
    · exact above_line n (by rw [hu.2];omega) hu.1 hb ha hs
theorem kid_whole {v:Int} (h:Whole v) (hr:wR v < 12) {d:Nat} (hd:d≤6):Whole (chW v d)∧wR (chW v d)=wR v+1∧upW (chW v d)=v∧v < chW v d:=by
 have hc:=chW_whole h hr hd
 have hb:=wR_box v
 have hu:=up_kid h hr hd
 have hl:=up_lt hc.1 (by omega)
 exact ⟨hc.1,hc.2,hu,by omega⟩
theorem above_kid {v:Int} (h:Whole v) (hr:wR v < 12) {d:Nat} (hd:d≤6):Above v (chW v d):=by
 have hk:=kid_whole h hr hd
 have hb:=wR_box v
 exact above_up hk.1 (by omega) (by rw [hk.2.2.1];exact above_refl v)
theorem above_kid_cases {p v:Int} (h:Whole v) (hr:wR v < 12) {d:Nat} (hd:d≤6) (hp:Above p (chW v d)):p=chW v d∨Above p v:=by
 have hk:=kid_whole h hr hd
 rcases above_cases hk.1 hp with e | ⟨_,ha⟩
 · exact .inl e
 · rw [hk.2.2.1] at ha;exact .inr ha
theorem above_by_kid:∀ (n:Nat) {v x:Int},(wR x).toNat=n→Whole x→Above v x→wR v < wR x→∃ d:Nat,d≤6∧Above (chW v d) x
 | 0,v,x,hn,h,ha,hs=>by have hb:=wR_box v;omega
 | n+1,v,x,hn,h,ha,hs=>by
  rcases above_cases h ha with rfl | ⟨hr,hb⟩
  · omega
  · have hu:=up_whole h hr
    by_cases he:wR v=wR (upW x)
    · have e:=hb.eq hu.1 he
      subst e
      obtain ⟨d,hd,e⟩:=kid_of_up h hr
      exact ⟨d,hd,by rw [← e];exact above_refl x⟩
    · have:=hb.size hu.1
      obtain ⟨d,hd,hk⟩:=above_by_kid n (by rw [hu.2];omega) hu.1 hb (by omega)
      exact ⟨d,hd,above_up h hr hk⟩
theorem above_has_kid {v x:Int} (h:Whole x) (ha:Above v x) (hs:wR v < wR x):∃ d:Nat,d≤6∧Above (chW v d) x:=above_by_kid _ rfl h ha hs
theorem below_is:∀ (n:Nat) {v:Int} {r:Nat},Whole v→r≤12→(wR v).toNat+n=r→∃ x,Whole x∧wR x=(r:Int)∧Above v x
 | 0,v,r,h,hr,hn=>⟨v,h,by have:=wR_box v;omega,above_refl v⟩
 | n+1,v,r,h,hr,hn=>by
  have hb:=wR_box v
  have hk:=kid_whole h (by omega) (d:=0) (by omega)
  obtain ⟨x,h1,h2,h3⟩:=below_is n (v:=chW v 0) hk.1 hr (by rw [hk.2.1];omega)
  exact ⟨x,h1,h2,(above_kid h (by omega) (by omega)).trans h3 h1⟩
def Cov (X:List Int) (x:Int):Prop:=∃ p∈X,Above p x
def Anti (X:List Int):Prop:=∀ p∈X,∀ q∈X,Above p q→p=q
def NoSeven (X:List Int):Prop:=∀ v,Whole v→wR v < 12→¬ ∀ d:Nat,d≤6→chW v d∈X
def WithinR (r:Nat) (X:List Int):Prop:=∀ x∈X,Whole x∧wR x≤(r:Int)
theorem cov_fill {r:Nat} (hr:r≤12) {P:List Int} (hP:WithinR r P) (hn:NoSeven P):∀ (n:Nat) {v:Int},Whole v→(wR v).toNat+n=r→(∀ x,Whole x→wR x=(r:Int)→Above v x→Cov P x)→Cov P v
 | 0,v,h,e,hc=>hc v h (by have:=wR_box v;omega) (above_refl v)
 | n+1,v,h,e,hc=>by
  have hb:=wR_box v
  have hv:wR v < 12:=by omega
  have hk:∀ d:Nat,d≤6→Cov P (chW v d):=fun d hd=>by
   have hw:=kid_whole h hv hd
   exact cov_fill hr hP hn n hw.1 (by rw [hw.2.1];omega) fun x hx hxr hax=>hc x hx hxr ((above_kid h hv hd).trans hax hx)
  by_cases hcv:Cov P v
  · exact hcv
  · refine absurd (fun d hd=>?_) (hn v h hv)
    obtain ⟨p,hp,ha⟩:=hk d hd
    rcases above_kid_cases h hv hd ha with rfl | ha
    · exact hp
    · exact absurd ⟨p,hp,ha⟩ hcv
theorem cov_sub {r:Nat} (hr:r≤12) {P Q:List Int} (hP:WithinR r P) (hQ:WithinR r Q) (aP:Anti P) (nP:NoSeven P) (nQ:NoSeven Q)
 (h:∀ x,Whole x→wR x=(r:Int)→(Cov P x↔Cov Q x)):∀ x∈P,x∈Q:=fun w hw=>by
 have hW:=hP w hw
 have hb:=wR_box w
 have h1:Cov Q w:=cov_fill hr hQ nQ (r - (wR w).toNat) hW.1 (by omega) fun x hx hxr ha=>(h x hx hxr).1 ⟨w,hw,ha⟩
 obtain ⟨q,hq,haq⟩:=h1
 have hQw:=hQ q hq
 have hbq:=wR_box q
 obtain ⟨p,hp,hap⟩:=cov_fill hr hP nP (r - (wR q).toNat) hQw.1 (by omega) fun x hx hxr ha=>(h x hx hxr).2 ⟨q,hq,ha⟩
 have e:=aP p hp w hw (hap.trans haq hW.1)
 subst e
 have s1:=haq.size hW.1
 have s2:=hap.size hQw.1
 have:=haq.eq hW.1 (by omega)
 subst this
 exact hq
def Packed (r:Nat) (S P:List Int):Prop:=Rising P∧WithinR r P∧Anti P∧NoSeven P∧∀ x,Whole x→wR x=(r:Int)→(Cov P x↔x∈S)
theorem Packed.one {r:Nat} (hr:r≤12) {S T P Q:List Int} (hP:Packed r S P) (hQ:Packed r T Q) (h:∀ x,x∈S↔x∈T):P=Q :=
 rising_ext hP.1 hQ.1 fun x=>⟨cov_sub hr hP.2.1 hQ.2.1 hP.2.2.1 hP.2.2.2.1 hQ.2.2.2.1 (fun y hy hs=>by rw [hP.2.2.2.2 y hy hs,hQ.2.2.2.2 y hy hs,h y]) x,
  cov_sub hr hQ.2.1 hP.2.1 hQ.2.2.1 hQ.2.2.2.1 hP.2.2.2.1 (fun y hy hs=>by rw [hP.2.2.2.2 y hy hs,hQ.2.2.2.2 y hy hs,h y]) x⟩
def kin:Nat→Int→List Int
 | 0,v=>[v]
 | t+1,v=>(kidRow v).flatMap (kin t)
theorem mem_kin:∀ (t:Nat) {v x:Int},Whole v→wR v+(t:Int)≤12→(x∈kin t v↔Whole x∧wR x=wR v+(t:Int)∧Above v x)
 | 0,v,x,h,ht=>by
  show x∈[v]↔_
  rw [List.mem_singleton]
  constructor
  · rintro rfl;exact ⟨h,by simp,above_refl x⟩
  · rintro ⟨hx,hs,ha⟩;exact (ha.eq hx (by omega)).symm
 | t+1,v,x,h,ht=>by
  show x∈(kidRow v).flatMap (kin t)↔_
  rw [List.mem_flatMap]
  constructor
  · rintro ⟨k,hk,hx⟩
    obtain ⟨d,hd,rfl⟩:=kidRow_mem.1 hk
    have hw:=kid_whole h (by omega) hd
    obtain ⟨h1,h2,h3⟩:=(mem_kin t hw.1 (by rw [hw.2.1];omega)).1 hx
    exact ⟨h1,by rw [h2,hw.2.1];omega,(above_kid h (by omega) hd).trans h3 h1⟩
  · rintro ⟨hx,hs,ha⟩
    obtain ⟨d,hd,hk⟩:=above_has_kid hx ha (by omega)
    have hw:=kid_whole h (by omega) hd
    exact ⟨chW v d,kidRow_mem.2 ⟨d,hd,rfl⟩,(mem_kin t hw.1 (by rw [hw.2.1];omega)).2 ⟨hx,by rw [hs,hw.2.1];omega,hk⟩⟩
theorem kin_len:∀ (t:Nat) (v:Int),(kin t v).length=7^t
 | 0,v=>rfl
 | t+1,v=>by
  show ((kidRow v).flatMap (kin t)).length=_
  have:∀ L:List Int,(L.flatMap (kin t)).length=L.length*7^t:=fun L=>by
   induction L with
   | nil=>simp
   | cons a L ih=>rw [List.flatMap_cons,List.length_append,ih,kin_len t a,List.length_cons,Nat.succ_mul];omega
  rw [this,kidRow_len,Nat.pow_succ,Nat.mul_comm]
theorem above_one {p q x:Int} (hx:Whole x) (hp:Above p x) (hq:Above q x) (hs:wR p=wR q):p=q:=by
 have h:=above_line _ rfl hx hp hq (by omega)
 exact h.eq (hq.whole hx) hs
theorem kidRow_nodup (v:Int):(kidRow v).Nodup:=by
 unfold kidRow
 exact List.pairwise_map.2 ((List.pairwise_lt_range (n:=7)).imp_of_mem fun {a b} ha hb hab=>by
  have:=kids_rise (v:=v) hab (by have:=List.mem_range.1 hb;omega);omega)
theorem kin_nodup:∀ (t:Nat) {v:Int},Whole v→wR v+(t:Int)≤12→(kin t v).Nodup
 | 0,v,h,ht=>by show [v].Nodup;simp
 | t+1,v,h,ht=>by
  show ((kidRow v).flatMap (kin t)).Nodup
  refine List.pairwise_flatMap.2 ⟨fun k hk=>?_,?_⟩
  · obtain ⟨d,hd,rfl⟩:=kidRow_mem.1 hk
    have hw:=kid_whole h (by omega) hd
    exact kin_nodup t hw.1 (by rw [hw.2.1];omega)
  · refine (kidRow_nodup v).imp_of_mem ?_
    intro a b ha hb hne x hx y hy hxy
    subst hxy
    obtain ⟨d,hd,rfl⟩:=kidRow_mem.1 ha
    obtain ⟨e,he,rfl⟩:=kidRow_mem.1 hb
    have wd:=kid_whole h (by omega) hd
    have we:=kid_whole h (by omega) he
    have h1:=(mem_kin t wd.1 (by rw [wd.2.1];omega)).1 hx
    have h2:=(mem_kin t we.1 (by rw [we.2.1];omega)).1 hy
    exact hne (above_one h1.1 h1.2.2 h2.2.2 (by rw [wd.2.1,we.2.1]))
def kinR (r:Nat) (L:List Int):List Int:=L.flatMap fun w=>kin (r - (wR w).toNat) w
theorem mem_kinR {r:Nat} (hr:r≤12) {L:List Int} (hL:WithinR r L) {x:Int}:x∈kinR r L↔Whole x∧wR x=(r:Int)∧Cov L x:=by
 unfold kinR
 rw [List.mem_flatMap]
 constructor
 · rintro ⟨w,hw,hx⟩
   have h:=hL w hw
   have hb:=wR_box w
   obtain ⟨h1,h2,h3⟩:=(mem_kin _ h.1 (by omega)).1 hx
   exact ⟨h1,by omega,w,hw,h3⟩
 · rintro ⟨h1,h2,w,hw,h3⟩
   have h:=hL w hw
   have hb:=wR_box w
   exact ⟨w,hw,(mem_kin _ h.1 (by omega)).2 ⟨h1,by omega,h3⟩⟩
theorem kinR_nodup {r:Nat} (hr:r≤12) {L:List Int} (hL:WithinR r L) (hA:Anti L) (hn:L.Nodup):(kinR r L).Nodup:=by
 unfold kinR
 refine List.pairwise_flatMap.2 ⟨fun w hw=>?_,?_⟩
 · have h:=hL w hw
   have hb:=wR_box w
   exact kin_nodup _ h.1 (by omega)
 · refine hn.imp_of_mem ?_
   intro a b ha hb hne x hx y hy hxy
   subst hxy
   have wa:=hL a ha
   have wb:=hL b hb
   have ba:=wR_box a
   have bb:=wR_box b
   have h1:=(mem_kin _ wa.1 (by omega)).1 hx
   have h2:=(mem_kin _ wb.1 (by omega)).1 hy
   rcases (show wR a≤wR b∨wR b≤wR a by omega) with h | h
   · exact hne (hA a ha b hb (above_line _ rfl h1.1 h1.2.2 h2.2.2 h))
   · exact hne (hA b hb a ha (above_line _ rfl h1.1 h2.2.2 h1.2.2 h)).symm
def cntR (r:Nat):List Int→Int
 | []=>0
 | w :: L=>7^(r - (wR w).toNat)+cntR r L
theorem cntR_len (r:Nat):∀ L:List Int,cntR r L=((kinR r L).length:Int)
 | []=>rfl
 | w :: L=>by
  show 7^(r - (wR w).toNat)+cntR r L=_
  unfold kinR
  rw [List.flatMap_cons,List.length_append,kin_len,cntR_len r L]
  unfold kinR
  push_cast
  rfl
theorem nodup_ext_len {L M:List Int} (hL:L.Nodup) (hM:M.Nodup) (h:∀ x,x∈L↔x∈M):L.length=M.length :=
 ((List.perm_ext_iff_of_nodup hL hM).2 h).length_eq
def Full (N:List Int) (p:Int):Prop:=∀ d:Nat,d≤6→chW p d∈N
def Lev (r n:Nat) (S D N:List Int):Prop :=
 (∀ x∈D,Whole x∧(n:Int) < wR x∧wR x≤(r:Int))∧Rising N∧(∀ x∈N,Whole x∧wR x=(n:Int))∧Anti (D++N)∧NoSeven D∧∀ x,Whole x→wR x=(r:Int)→(Cov (D++N) x↔x∈S)
theorem cov_same {S:List Int} {r:Nat} (hS:∀ x∈S,Whole x∧wR x=(r:Int)) {x:Int} (hx:Whole x) (hr:wR x=(r:Int)):Cov S x↔x∈S:=by
 constructor
 · rintro ⟨p,hp,ha⟩
   have:=ha.eq hx (by rw [(hS p hp).2,hr])
   subst this
   exact hp
 · intro h;exact ⟨x,h,above_refl x⟩
theorem anti_same {S:List Int} {r:Nat} (hS:∀ x∈S,Whole x∧wR x=(r:Int)):Anti S:=fun p hp q hq ha=>ha.eq (hS q hq).1 (by rw [(hS p hp).2,(hS q hq).2])
theorem Lev.start {r:Nat} {S N:List Int} (hR:Rising N) (hm:∀ x,x∈N↔x∈S) (hS:∀ x∈S,Whole x∧wR x=(r:Int)):Lev r r S [] N:=by
 have hN:∀ x∈N,Whole x∧wR x=(r:Int):=fun x hx=>hS x ((hm x).1 hx)
 refine ⟨fun x hx=>by simp at hx,hR,hN,anti_same hN,fun v hv hr h=>by have:=h 0 (by omega);simp at this,fun x hx hr=>?_⟩
 rw [List.nil_append,cov_same hN hx hr,hm x]
theorem full_cov {N:List Int} {p x:Int} (hf:Full N p) (hx:Whole x) (ha:Above p x) (hs:wR p < wR x):Cov N x:=by
 obtain ⟨d,hd,hk⟩:=above_has_kid hx ha hs
 exact ⟨chW p d,hf d hd,hk⟩
theorem Lev.step {r n:Nat} (hn:n+1≤r) (hr12:r≤12) {S D N D' N':List Int} (h:Lev r (n+1) S D N) (hD':∀ x,x∈D'↔x∈D∨(x∈N∧¬ Full N (upW x))) (hR:Rising N') (hN':∀ p,p∈N'↔∃ x∈N,Full N (upW x)∧p=upW x) :
 Lev r n S D' N':=by
 obtain ⟨h1,h2,h3,h4,h5,h6⟩:=h
 have kN':∀ p∈N',Whole p∧wR p=(n:Int)∧Full N p:=fun p hp=>by
  obtain ⟨x,hx,hf,rfl⟩:=(hN' p).1 hp
  have hw:=h3 x hx
  have hu:=up_whole hw.1 (by omega)
  exact ⟨hu.1,by rw [hu.2,hw.2];omega,hf⟩
 have kD':∀ x∈D',Whole x∧(n:Int) < wR x∧wR x≤(r:Int):=fun x hx=>by
  rcases (hD' x).1 hx with hx | ⟨hx,_⟩
  · have:=h1 x hx;exact ⟨this.1,by omega,this.2.2⟩
  · have:=h3 x hx;exact ⟨this.1,by omega,by omega⟩
 have sub:∀ x∈D',x∈D++N:=fun x hx=>by
  rcases (hD' x).1 hx with hx | ⟨hx,_⟩
  · exact List.mem_append_left _ hx
  · exact List.mem_append_right _ hx
 have kid_in:∀ p∈N',∀ d:Nat,d≤6→chW p d∈D++N:=fun p hp d hd=>List.mem_append_right _ ((kN' p hp).2.2 d hd)
 have apart:∀ p∈N',∀ q∈D',¬ Above p q:=fun p hp q hq ha=>by
  have hp':=kN' p hp
  have hq':=kD' q hq
  obtain ⟨d,hd,hk⟩:=above_has_kid hq'.1 ha (by omega)
  have e:=h4 _ (kid_in p hp d hd) _ (sub q hq) hk
  have hw:=kid_whole hp'.1 (by omega) hd
  rcases (hD' q).1 hq with hq2 | ⟨hq2,hnf⟩
  · have:=h1 q hq2
    rw [← e,hw.2.1] at this
    omega
  · rw [← e,hw.2.2.1] at hnf
    exact hnf hp'.2.2
 refine ⟨kD',hR,fun p hp=>⟨(kN' p hp).1,(kN' p hp).2.1⟩,?_,?_,?_⟩
 · intro p hp q hq ha
   rcases List.mem_append.1 hp with hp | hp <;>rcases List.mem_append.1 hq with hq | hq
   · exact h4 p (sub p hp) q (sub q hq) ha
   · have a:=kD' p hp
     have b:=kN' q hq
     have:=ha.size b.1
     omega
   · exact absurd ha (apart p hp q hq)
   · exact ha.eq (kN' q hq).1 (by rw [(kN' p hp).2.1,(kN' q hq).2.1])
 · intro v hv hvr hall
   have k0:=kid_whole hv hvr (d:=0) (by omega)
   by_cases hvn:wR v=(n:Int)
   · have hN:Full N v:=fun d hd=>by
      have kd:=kid_whole hv hvr hd
      rcases (hD' _).1 (hall d hd) with hx | ⟨hx,_⟩
      · have:=h1 _ hx
        rw [kd.2.1] at this
        omega
      · exact hx
     rcases (hD' _).1 (hall 0 (by omega)) with hx | ⟨hx,hnf⟩
     · have:=h1 _ hx
       rw [k0.2.1] at this
       omega
     · rw [k0.2.2.1] at hnf;exact hnf hN
   · refine h5 v hv hvr fun d hd=>?_
     have kd:=kid_whole hv hvr hd
     rcases (hD' _).1 (hall d hd) with hx | ⟨hx,_⟩
     · exact hx
     · have:=h3 _ hx
       rw [kd.2.1] at this
       omega
 · intro x hx hxr
   rw [← h6 x hx hxr]
   constructor
   · rintro ⟨p,hp,ha⟩
     rcases List.mem_append.1 hp with hp | hp
     · exact ⟨p,sub p hp,ha⟩
     · have hp':=kN' p hp
       obtain ⟨q,hq,hqa⟩:=full_cov hp'.2.2 hx ha (by omega)
       exact ⟨q,List.mem_append_right _ hq,hqa⟩
   · rintro ⟨p,hp,ha⟩
     rcases List.mem_append.1 hp with hp | hp
     · exact ⟨p,List.mem_append_left _ ((hD' p).2 (.inl hp)),ha⟩
     · by_cases hf:Full N (upW p)
       · have hw:=h3 p hp
         have hu:=up_whole hw.1 (by omega)
         exact ⟨upW p,List.mem_append_right _ ((hN' _).2 ⟨p,hp,hf,rfl⟩),(above_up hw.1 (by omega) (above_refl _)).trans ha hx⟩
       · exact ⟨p,List.mem_append_left _ ((hD' p).2 (.inr ⟨hp,hf⟩)),ha⟩
theorem Lev.done {r n:Nat} {S D N P:List Int} (h:Lev r n S D N) (hn:n≤r) (he:n=0∨N=[]) (hR:Rising P) (hP:∀ x,x∈P↔x∈D++N):Packed r S P:=by
 obtain ⟨h1,h2,h3,h4,h5,h6⟩:=h
 refine ⟨hR,fun x hx=>?_,fun p hp q hq ha=>h4 p ((hP p).1 hp) q ((hP q).1 hq) ha,fun v hv hvr hall=>?_,fun x hx hxr=>?_⟩
 · rcases List.mem_append.1 ((hP x).1 hx) with hx | hx
   · exact ⟨(h1 x hx).1,(h1 x hx).2.2⟩
   · exact ⟨(h3 x hx).1,by rw [(h3 x hx).2];omega⟩
 · refine h5 v hv hvr fun d hd=>?_
   have kd:=kid_whole hv hvr hd
   have hb:=wR_box v
   rcases List.mem_append.1 ((hP _).1 (hall d hd)) with hx | hx
   · exact hx
   · rcases he with rfl | rfl
     · have:=(h3 _ hx).2
       rw [kd.2.1] at this
       omega
     · simp at hx
 · rw [← h6 x hx hxr]
   constructor
   · rintro ⟨p,hp,ha⟩;exact ⟨p,(hP p).1 hp,ha⟩
   · rintro ⟨p,hp,ha⟩;exact ⟨p,(hP p).2 hp,ha⟩
def Falling (L:List Int):Prop:=L.Pairwise fun a b=>b < a
theorem falling_rev {L:List Int} (h:Falling L):Rising L.reverse:=by
 unfold Rising
 rw [List.pairwise_reverse]
 exact h
theorem falling_nodup {L:List Int} (h:Falling L):L.Nodup:=h.imp fun {a b} hab=>by omega
def Joi (r:Nat) (S J H:List Int):Prop :=
 Falling J∧H.Nodup∧WithinR r (J++H)∧(∀ h∈H,∀ j∈J,h < j)∧Anti (J++H)∧NoSeven J∧(∀ h∈H,∀ j∈J,0 < wR h→wR h=wR j→upW h≠upW j)∧(∀ x,Whole x→wR x=(r:Int)→(Cov (J++H) x↔x∈S))∧J.length+H.length≤S.length
theorem Joi.start {r:Nat} {S H:List Int} (hR:Rising H) (hm:∀ x,x∈H↔x∈S) (hS:∀ x∈S,Whole x∧wR x=(r:Int)) (hl:H.length≤S.length):Joi r S [] H:=by
 have hH:∀ x∈H,Whole x∧wR x=(r:Int):=fun x hx=>hS x ((hm x).1 hx)
 refine ⟨List.Pairwise.nil,rising_nodup hR,fun x hx=>⟨(hH x hx).1,by rw [(hH x hx).2];exact Int.le_refl _⟩,fun h _ j hj=>by simp at hj,anti_same hH,fun v hv hr h=>by have:=h 0 (by omega);simp at this,
  fun h _ j hj=>by simp at hj,fun x hx hr=>?_,by simpa using hl⟩
 rw [List.nil_append,cov_same hH hx hr,hm x]
theorem Joi.perm {r:Nat} {S J H K:List Int} (h:Joi r S J H) (p:H.Perm K):Joi r S J K:=by
 obtain ⟨h1,h2,h3,h4,h5,h6,h7,h8,h9⟩:=h
 have m:∀ x,x∈J++K↔x∈J++H:=fun x=>by rw [List.mem_append,List.mem_append,p.mem_iff]
 refine ⟨h1,p.nodup_iff.1 h2,fun x hx=>h3 x ((m x).1 hx),fun y hy j hj=>h4 y (p.mem_iff.2 hy) j hj,fun a ha b hb hab=>h5 a ((m a).1 ha) b ((m b).1 hb) hab,h6,fun y hy j hj=>h7 y (p.mem_iff.2 hy) j hj,fun x hx hr=>?_,by rw [← p.length_eq];exact h9⟩
 rw [← h8 x hx hr]
 constructor
 · rintro ⟨q,hq,ha⟩;exact ⟨q,(m q).1 hq,ha⟩
 · rintro ⟨q,hq,ha⟩;exact ⟨q,(m q).2 hq,ha⟩
def Bro (H B:List Int) (u:Int) (H':List Int):Prop :=
 H.Perm (B++H')∧Falling B∧(∀ b∈B,∀ h∈H',h < b)∧((u=0∧∃ m,B=[m]∧wR m=0)∨(u≠0∧B≠[]∧(∀ b∈B,0 < wR b∧upW b=u)∧∀ h∈H',¬ (0 < wR h∧upW h=u)))
theorem seven_kids {B:List Int} {u:Int} (hB:B.Nodup) (hk:∀ b∈B,b∈kidRow u):B.length≤7∧(B.length=7↔∀ d:Nat,d≤6→chW u d∈B):=by
 have e:B.length=((kidRow u).filter fun x=>decide (x∈B)).length:=nodup_ext_len hB ((kidRow_nodup u).filter _) fun x=>by
  rw [List.mem_filter,decide_eq_true_eq]
  exact ⟨fun h=>⟨hk x h,h⟩,fun h=>h.2⟩
 have hl:=List.length_filter_le (fun x=>decide (x∈B)) (kidRow u)
 rw [kidRow_len] at hl
 refine ⟨by omega,?_⟩
 rw [e,← kidRow_len u,List.length_filter_eq_length_iff]
 constructor
 · intro h d hd;exact of_decide_eq_true (h _ (kidRow_mem.2 ⟨d,hd,rfl⟩))
 · intro h x hx
   obtain ⟨d,hd,rfl⟩:=kidRow_mem.1 hx
   exact decide_eq_true (h d hd)
theorem Joi.keep {r:Nat} {S J H B H':List Int} {u:Int} (h:Joi r S J H) (hb:Bro H B u H') (h7:B.length≠7):Joi r S (J++B) H':=by
 obtain ⟨b1,b2,b3,b4⟩:=hb
 obtain ⟨h1,h2,h3,h4,h5,h6,h7',h8,h9⟩:=h.perm b1
 have m:∀ x,x∈J++B++H'↔x∈J++(B++H'):=fun x=>by simp only [List.mem_append];exact or_assoc
 have hBw:∀ b∈B,Whole b∧wR b≤(r:Int):=fun b hb=>h3 b (by simp [hb])
 have nd:=List.nodup_append.1 h2
 refine ⟨List.pairwise_append.2 ⟨h1,b2,fun j hj b hb=>h4 b (by simp [hb]) j hj⟩,nd.2.1,fun x hx=>h3 x ((m x).1 hx),fun y hy j hj=>?_,fun a ha b hb hab=>h5 a ((m a).1 ha) b ((m b).1 hb) hab,?_,fun y hy j hj hy0 hs=>?_,fun x hx hxr=>?_,?_⟩
 · rcases List.mem_append.1 hj with hj | hj
   · exact h4 y (by simp [hy]) j hj
   · exact b3 j hj y hy
 · intro v hv hvr hall
   by_cases hB:∃ d:Nat,d≤6∧chW v d∈B
   · obtain ⟨d0,hd0,hB0⟩:=hB
     have k0:=kid_whole hv hvr hd0
     have hv0:=wR_box v
     rcases b4 with ⟨_,m0,rfl,hm0⟩ | ⟨hu,hne,hpar,hrest⟩
     · rw [List.mem_singleton] at hB0
       rw [← hB0,k0.2.1] at hm0
       omega
     · have hvu:v=u:=by rw [← k0.2.2.1];exact (hpar _ hB0).2
       subst hvu
       refine h7 ((seven_kids (u:=v) (falling_nodup b2) fun b hb=>?_).2.2 fun d hd=>?_)
       · obtain ⟨e,he,hbe⟩:=kid_of_up (hBw b hb).1 (hpar b hb).1
         rw [(hpar b hb).2] at hbe
         exact kidRow_mem.2 ⟨e,he,hbe⟩
       · rcases List.mem_append.1 (hall d hd) with hx | hx
         · have kd:=kid_whole hv hvr hd
           exact absurd (by rw [k0.2.2.1,kd.2.2.1]) (h7' _ (List.mem_append_left _ hB0) _ hx (hpar _ hB0).1 (by rw [k0.2.1,kd.2.1]))
         · exact hx
   · refine h6 v hv hvr fun d hd=>?_
     rcases List.mem_append.1 (hall d hd) with hx | hx
     · exact hx
     · exact absurd ⟨d,hd,hx⟩ hB
 · rcases List.mem_append.1 hj with hj | hj
   · exact h7' y (by simp [hy]) j hj hy0 hs
   · rcases b4 with ⟨_,m0,rfl,hm0⟩ | ⟨hu,hne,hpar,hrest⟩
     · rw [List.mem_singleton] at hj
       subst hj
       omega
     · intro e
       exact hrest y hy ⟨hy0,by rw [e];exact (hpar j hj).2⟩
 · rw [← h8 x hx hxr]
   constructor
   · rintro ⟨q,hq,ha⟩;exact ⟨q,(m q).1 hq,ha⟩
   · rintro ⟨q,hq,ha⟩;exact ⟨q,(m q).2 hq,ha⟩
 · rw [List.length_append] at h9 ⊢
   omega
theorem Joi.lift {r:Nat} {S J H B H':List Int} {u:Int} (h:Joi r S J H) (hb:Bro H B u H') (h7:B.length=7):Joi r S J (u :: H')∧Whole u:=by
 obtain ⟨b1,b2,b3,b4⟩:=hb
 obtain ⟨h1,h2,h3,h4,h5,h6,h7',h8,h9⟩:=h.perm b1
 have hBw:∀ b∈B,Whole b∧wR b≤(r:Int):=fun b hb=>h3 b (by simp [hb])
 have nd:=List.nodup_append.1 h2
 rcases b4 with ⟨_,m0,rfl,hm0⟩ | ⟨hu,hne,hpar,hrest⟩
 · simp at h7
 have hall:∀ d:Nat,d≤6→chW u d∈B:=(seven_kids (u:=u) (falling_nodup b2) fun b hb=>by
  obtain ⟨e,he,hbe⟩:=kid_of_up (hBw b hb).1 (hpar b hb).1
  rw [(hpar b hb).2] at hbe
  exact kidRow_mem.2 ⟨e,he,hbe⟩).2.1 h7
 have k0:=hpar _ (hall 0 (by omega))
 have w0:=hBw _ (hall 0 (by omega))
 have hu0:=up_whole w0.1 k0.1
 rw [k0.2] at hu0
 have hWu:=hu0.1
 have h12:=w0.1.2.1
 have hur:wR u < 12:=by omega
 have kid:∀ d:Nat,d≤6→chW u d∈J++(B++H'):=fun d hd=>List.mem_append_right _ (List.mem_append_left _ (hall d hd))
 have hub:∀ d:Nat,d≤6→Above u (chW u d):=fun d hd=>above_kid hWu hur hd
 have hult:u < chW u 0:=(kid_whole hWu hur (d:=0) (by omega)).2.2.2
 have nk:∀ x,x∈J∨x∈H'→∀ d:Nat,d≤6→x≠chW u d:=fun x hx d hd e=>by
  subst e
  rcases hx with hx | hx
  · have:=h4 _ (List.mem_append_left _ (hall d hd)) _ hx
    omega
  · have:=b3 _ (hall d hd) _ hx
    omega
 have mem_old:∀ x,x∈J∨x∈H'→x∈J++(B++H'):=fun x hx=>by
  rcases hx with hx | hx
  · exact List.mem_append_left _ hx
  · simp [hx]
 have up_no:∀ x,x∈J∨x∈H'→¬ Above u x:=fun x hx ha=>by
  have hxw:=h3 x (mem_old x hx)
  by_cases he:wR u=wR x
  · have:=ha.eq hxw.1 he
    subst this
    have:=h5 _ (mem_old _ hx) _ (kid 0 (by omega)) (hub 0 (by omega))
    exact nk _ hx 0 (by omega) this
  · have:=ha.size hxw.1
    obtain ⟨d,hd,hk⟩:=above_has_kid hxw.1 ha (by omega)
    exact nk x hx d hd (h5 _ (kid d hd) _ (mem_old x hx) hk).symm
 have no_up:∀ x,x∈J∨x∈H'→¬ Above x u:=fun x hx ha=>nk x hx 0 (by omega) (h5 _ (mem_old x hx) _ (kid 0 (by omega)) (ha.trans (hub 0 (by omega)) w0.1))
 have cases':∀ x,x∈J++u :: H'→x=u∨(x∈J∨x∈H'):=fun x hx=>by
  rcases List.mem_append.1 hx with hx | hx
  · exact .inr (.inl hx)
  · rcases List.mem_cons.1 hx with hx | hx
    · exact .inl hx
    · exact .inr (.inr hx)
 refine ⟨⟨h1,List.nodup_cons.2 ⟨fun hm=>up_no u (.inr hm) (above_refl u),nd.2.1⟩,fun x hx=>?_,fun y hy j hj=>?_,fun a ha b hb hab=>?_,h6,fun y hy j hj hy0 hs=>?_,fun x hx hxr=>?_,?_⟩,hWu⟩
 · rcases cases' x hx with rfl | hx
   · exact ⟨hWu,by omega⟩
   · exact h3 x (mem_old x hx)
 · rcases List.mem_cons.1 hy with rfl | hy
   · have:=h4 _ (List.mem_append_left _ (hall 0 (by omega))) j hj
     omega
   · exact h4 y (by simp [hy]) j hj
 · rcases cases' a ha with ea | ha2
   · rcases cases' b hb with eb | hb2
     · rw [ea,eb]
     · exact absurd (ea ▸ hab) (up_no b hb2)
   · rcases cases' b hb with eb | hb2
     · exact absurd (eb ▸ hab) (no_up a ha2)
     · exact h5 a (mem_old a ha2) b (mem_old b hb2) hab
 · rcases List.mem_cons.1 hy with rfl | hy
   · have hlt:=h4 _ (List.mem_append_left _ (hall 0 (by omega))) j hj
     have hjw:=h3 j (List.mem_append_left _ hj)
     have:=size_mono w0.1 hjw.1 (by omega)
     omega
   · exact h7' y (by simp [hy]) j hj hy0 hs
 · rw [← h8 x hx hxr]
   constructor
   · rintro ⟨q,hq,ha⟩
     rcases cases' q hq with rfl | hq
     · by_cases he:wR q=wR x
       · have:=hBw _ (hall 0 (by omega))
         omega
       · have:=ha.size hx
         obtain ⟨d,hd,hk⟩:=above_has_kid hx ha (by omega)
         exact ⟨_,kid d hd,hk⟩
     · exact ⟨q,mem_old q hq,ha⟩
   · rintro ⟨q,hq,ha⟩
     rcases List.mem_append.1 hq with hq | hq
     · exact ⟨q,List.mem_append_left _ hq,ha⟩
     · rcases List.mem_append.1 hq with hq | hq
       · have hk:=hpar q hq
         have hu2:=above_up (hBw q hq).1 hk.1 (above_refl (upW q))
         rw [hk.2] at hu2
         exact ⟨u,List.mem_append_right _ (List.mem_cons_self ..),hu2.trans ha hx⟩
       · exact ⟨q,List.mem_append_right _ (List.mem_cons_of_mem _ hq),ha⟩
 · rw [List.length_append] at h9
   rw [List.length_cons]
   omega
theorem Joi.done {r:Nat} {S J:List Int} (h:Joi r S J []):Packed r S J.reverse:=by
 obtain ⟨h1,h2,h3,h4,h5,h6,h7,h8,h9⟩:=h
 rw [List.append_nil] at h3 h5 h8
 refine ⟨falling_rev h1,fun x hx=>h3 x (List.mem_reverse.1 hx),fun p hp q hq ha=>h5 p (List.mem_reverse.1 hp) q (List.mem_reverse.1 hq) ha,fun v hv hvr hall=>h6 v hv hvr fun d hd=>List.mem_reverse.1 (hall d hd),fun x hx hxr=>?_⟩
 rw [← h8 x hx hxr]
 constructor
 · rintro ⟨p,hp,ha⟩;exact ⟨p,List.mem_reverse.1 hp,ha⟩
 · rintro ⟨p,hp,ha⟩;exact ⟨p,List.mem_reverse.2 hp,ha⟩
def Taking (H l:List Int) (u:Int) (C:List Int):Prop:=H.Perm (l++C)∧Falling l∧l≠[]∧(∀ b∈l,∀ h∈C,h < b)∧(∀ b∈l,0 < wR b∧upW b=u)∧(∀ x∈H,Whole x)∧H.Nodup
theorem Taking.start {H C:List Int} {m:Int} (hw:∀ x∈H,Whole x) (hn:H.Nodup) (hp:H.Perm (m :: C)) (hmax:∀ h∈C,h≤m) (hr:0 < wR m):Taking H [m] (upW m) C:=by
 have nd:=List.nodup_cons.1 (hp.nodup_iff.1 hn)
 refine ⟨hp,List.pairwise_singleton _ _,by simp,fun b hb h hh=>?_,fun b hb=>?_,hw,hn⟩
 · rw [List.mem_singleton] at hb
   subst hb
   have:=hmax h hh
   have:h≠b:=fun e=>nd.1 (e ▸ hh)
   omega
 · rw [List.mem_singleton] at hb
   subst hb
   exact ⟨hr,rfl⟩
theorem Taking.next {H l C C':List Int} {u m:Int} (h:Taking H l u C) (hp:C.Perm (m :: C')) (hmax:∀ y∈C',y≤m) (hr:0 < wR m) (hu:upW m=u):Taking H (l++[m]) u C':=by
 obtain ⟨h1,h2,h3,h4,h5,h6,h7⟩:=h
 have hC:∀ y,y=m∨y∈C'→y∈C:=fun y hy=>hp.mem_iff.2 (by rcases hy with rfl | hy <;>simp [*])
 have ndC:C.Nodup:=(List.nodup_append.1 (h1.nodup_iff.1 h7)).2.1
 have nd:=List.nodup_cons.1 (hp.nodup_iff.1 ndC)
 refine ⟨h1.trans ?_,List.pairwise_append.2 ⟨h2,List.pairwise_singleton _ _,fun a ha b hb=>?_⟩,by simp,fun b hb y hy=>?_,fun b hb=>?_,h6,h7⟩
 · rw [List.append_assoc]
   exact List.Perm.append_left _ hp
 · rw [List.mem_singleton] at hb
   subst hb
   exact h4 a ha b (hC b (.inl rfl))
 · rcases List.mem_append.1 hb with hb | hb
   · exact h4 b hb y (hC y (.inr hy))
   · rw [List.mem_singleton] at hb
     subst hb
     have:=hmax y hy
     have:y≠b:=fun e=>nd.1 (e ▸ hy)
     omega
 · rcases List.mem_append.1 hb with hb | hb
   · exact h5 b hb
   · rw [List.mem_singleton] at hb
     subst hb
     exact ⟨hr,hu⟩
theorem Taking.done {H l C:List Int} {u:Int} (h:Taking H l u C) (hu:Whole u) (he:C=[]∨∃ t∈C,(∀ y∈C,y≤t)∧¬ (0 < wR t∧upW t=u)):Bro H l u C:=by
 obtain ⟨h1,h2,h3,h4,h5,h6,h7⟩:=h
 refine ⟨h1,h2,h4,.inr ⟨by have:=whole_pos hu;omega,h3,h5,fun y hy ⟨y0,yu⟩=>?_⟩⟩
 rcases he with rfl | ⟨t,ht,hmax,hno⟩
 · simp at hy
 · obtain ⟨m,hm⟩:=List.exists_mem_of_ne_nil l h3
   have wm:=h6 m (h1.mem_iff.2 (by simp [hm]))
   have wt:=h6 t (h1.mem_iff.2 (by simp [ht]))
   have wy:=h6 y (h1.mem_iff.2 (by simp [hy]))
   have m5:=h5 m hm
   have um:=up_whole wm m5.1
   have uy:=up_whole wy y0
   rw [m5.2] at um
   rw [yu] at uy
   have h4':=h4 m hm t ht
   have hyt:=hmax y hy
   have s1:=size_mono wy wt hyt
   have s2:=size_mono wt wm (by omega)
   have u1:=up_mono wy wt y0 (by omega) hyt
   have u2:=up_mono wt wm (by omega) (by omega) (by omega)
   rw [yu] at u1
   rw [m5.2] at u2
   exact hno ⟨by omega,by omega⟩
theorem bro_top {H C:List Int} {m:Int} (hn:H.Nodup) (hp:H.Perm (m :: C)) (hmax:∀ h∈C,h≤m) (hr:wR m=0):Bro H [m] 0 C:=by
 have nd:=List.nodup_cons.1 (hp.nodup_iff.1 hn)
 refine ⟨hp,List.pairwise_singleton _ _,fun b hb h hh=>?_,.inl ⟨rfl,m,rfl,hr⟩⟩
 rw [List.mem_singleton] at hb
 subst hb
 have:=hmax h hh
 have:h≠b:=fun e=>nd.1 (e ▸ hh)
 omega
end Go.Proofs.YtlfjfendlohekaaGreatDoor
