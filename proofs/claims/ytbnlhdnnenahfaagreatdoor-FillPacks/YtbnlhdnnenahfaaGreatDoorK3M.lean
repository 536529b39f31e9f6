/-
  What the texts KidMath, PackMath, PackHeap, UApart, PackStep, HDown, HUp, HPop, JBro, JJoin, VCheck, KCmp, RKidW, SizeMath, RSize8, VLook, RSpr8, PackOne say, so far as this seat's proofs need it.
-/
import Derived.Test.YtbnlhdnnenahfaaGreatDoorB3M
import Derived.Test.YtbnlhdnnenahfaaGreatDoorUSM
namespace Go.Proofs.YtbnlhdnnenahfaaGreatDoor
open Go.RowKit
def chW (v:Int) (d:Nat):Int:=v+72057594037927936 - (7 - (d:Int))*8^(11 - (wR v).toNat)
theorem child_word {v:Int} (h:Whole v) (hr:wR v < 12) {d:Nat} (hd:d≤6) :
 Ok4 (((wR v).toNat+1:Nat):Int) (chA (d:Int) (cellA v) (cellB v)) (chB (d:Int) (cellA v) (cellB v))∧wordOf ((wR v).toNat+1) (chA (d:Int) (cellA v) (cellB v)) (chB (d:Int) (cellA v) (cellB v))=chW v d:=by
 have hb:=wR_box v
 have hc:=ok4_child (cell_ok h) hr (show 0≤(d:Int) by omega) (show (d:Int)≤6 by omega)
 rw [show wR v+1=(((wR v).toNat+1:Nat):Int) by omega] at hc
 refine ⟨hc,?_⟩
 have hp:=par_one (P:=cellA v) (Q:=cellB v) (show 0≤(d:Int) by omega) (show (d:Int)≤6 by omega)
 have hu:=raised_word hc (by omega)
 rw [hp.2.1,hp.2.2,Nat.add_sub_cancel,word_cell h] at hu
 have hw:=word_parts hc
 have hdg:=hw.2.2.2.2.1 ((wR v).toNat+1) (by omega) (by omega)
 unfold dgs at hdg
 rw [if_pos (Nat.le_refl _),Nat.sub_self] at hdg
 unfold upW setD at hu
 rw [hw.2.1] at hu
 rw [show (((wR v).toNat+1:Nat):Int).toNat=(wR v).toNat+1 by omega,hdg] at hu
 rw [show ups 0 (chA (d:Int) (cellA v) (cellB v)) (chB (d:Int) (cellA v) (cellB v))=(chA (d:Int) (cellA v) (cellB v),chB (d:Int) (cellA v) (cellB v)) from rfl] at hu
 simp only at hu
 rw [hp.1,show 12 - ((wR v).toNat+1)=11 - (wR v).toNat by omega] at hu
 unfold chW
 rw [Int.sub_mul]
 omega
theorem chW_whole {v:Int} (h:Whole v) (hr:wR v < 12) {d:Nat} (hd:d≤6):Whole (chW v d)∧wR (chW v d)=wR v+1:=by
 have hb:=wR_box v
 have hc:=child_word h hr hd
 have hp:=word_parts hc.1
 rw [hc.2] at hp
 exact ⟨hp.1,by rw [hp.2.1];omega⟩
theorem word_foot {a:Int} {n:Nat} (h:Whole a) (hn:wR a=(n:Int)):∀ k,k≤12 - n→a%8^k=8^k - 1
 | 0,_=>by simp
 | k+1,hk=>by
  have ih:=word_foot h hn k (by omega)
  have hd:dg a (12 - k)=7:=(h.2.2 (12 - k) (by omega) (by omega)).2 (by rw [hn];omega)
  unfold dg at hd
  rw [show 12 - (12 - k)=k by omega] at hd
  have hp:(0:Int) < 8^k:=Int.pow_pos (by omega)
  rw [Int.pow_succ]
  generalize (8:Int)^k=p at *
  have e1:=Int.mul_ediv_add_emod a p
  have e2:=Int.mul_ediv_add_emod (a / p) 8
  rw [hd] at e2
  rw [ih] at e1
  generalize a / p=q at *
  generalize q / 8=s at *
  have e3:a=(p*8 - 1)+p*8*s:=by rw [← e1,← e2,Int.mul_add,Int.mul_assoc];omega
  rw [e3,Int.add_mul_emod_self_left]
  exact Int.emod_eq_of_lt (by omega) (by omega)
theorem word_apart {a b:Int} {n:Nat} (ha:Whole a) (hb:Whole b) (na:wR a=(n:Int)) (nb:wR b=(n:Int)) (hne:a≠b):a+8^(12 - n)≤b∨b+8^(12 - n)≤a:=by
 have e1:=word_foot ha na (12 - n) (Nat.le_refl _)
 have e2:=word_foot hb nb (12 - n) (Nat.le_refl _)
 have hp:(0:Int) < 8^(12 - n):=Int.pow_pos (by omega)
 generalize (8:Int)^(12 - n)=p at *
 have f1:=Int.mul_ediv_add_emod a p
 have f2:=Int.mul_ediv_add_emod b p
 rw [e1] at f1
 rw [e2] at f2
 generalize a / p=q at *
 generalize b / p=s at *
 rcases (show q=s∨q+1≤s∨s+1≤q by omega) with rfl | h | h
 · exact absurd (by omega) hne
 · have:=Int.mul_le_mul_of_nonneg_left h (show 0≤p by omega)
   rw [Int.mul_add] at this
   omega
 · have:=Int.mul_le_mul_of_nonneg_left h (show 0≤p by omega)
   rw [Int.mul_add] at this
   omega
theorem up_kid {v:Int} (h:Whole v) (hr:wR v < 12) {d:Nat} (hd:d≤6):upW (chW v d)=v:=by
 have hc:=child_word h hr hd
 have hp:=par_one (P:=cellA v) (Q:=cellB v) (show 0≤(d:Int) by omega) (show (d:Int)≤6 by omega)
 have hu:=raised_word hc.1 (by omega)
 rw [hp.2.1,hp.2.2,Nat.add_sub_cancel,word_cell h,hc.2] at hu
 exact hu
def kidRow (v:Int):List Int:=(List.range 7).map (chW v)
theorem kidRow_len (v:Int):(kidRow v).length=7:=by simp [kidRow]
theorem kidRow_mem {v x:Int}:x∈kidRow v↔∃ d:Nat,d≤6∧x=chW v d:=by
 unfold kidRow
 rw [List.mem_map]
 constructor
 · rintro ⟨d,hd,rfl⟩;exact ⟨d,by have:=List.mem_range.1 hd;omega,rfl⟩
 · rintro ⟨d,hd,rfl⟩;exact ⟨d,List.mem_range.2 (by omega),rfl⟩
theorem kids_rise {v:Int} {d e:Nat} (h:d < e) (_:e≤6):chW v d < chW v e:=by
 unfold chW
 have hp:(0:Int) < 8^(11 - (wR v).toNat):=Int.pow_pos (by omega)
 generalize (8:Int)^(11 - (wR v).toNat)=p at *
 have:=Int.mul_lt_mul_of_pos_right (show (7 - (e:Int)) < 7 - (d:Int) by omega) hp
 omega
theorem kids_apart {u v:Int} {n d e:Nat} (hu:Whole u) (hv:Whole v) (nu:wR u=(n:Int)) (nv:wR v=(n:Int)) (hn:n < 12) (h:u < v) (hd:d≤6) (_:e≤6):chW u d < chW v e:=by
 have ha:=word_apart hu hv nu nv (by omega)
 have e8:(8:Int)^(12 - n)=8*8^(11 - n):=by rw [show 12 - n=11 - n+1 by omega,Int.pow_succ,Int.mul_comm]
 rw [e8] at ha
 unfold chW
 rw [nu,nv,show ((n:Int)).toNat=n by omega]
 have hp:(0:Int) < 8^(11 - n):=Int.pow_pos (by omega)
 generalize (8:Int)^(11 - n)=p at *
 have h1:=Int.mul_le_mul_of_nonneg_right (show (1:Int)≤7 - (d:Int) by omega) (show 0≤p by omega)
 have h2:=Int.mul_le_mul_of_nonneg_right (show 7 - (e:Int)≤7 by omega) (show 0≤p by omega)
 omega
theorem up_whole {w:Int} (h:Whole w) (hr:0 < wR w):Whole (upW w)∧wR (upW w)=wR w - 1:=by
 have hb:=wR_box w
 have e:=word_cell h
 have hu:=raised_word (r:=(wR w).toNat) (a:=cellA w) (b:=cellB w) (by rw [show (((wR w).toNat:Nat):Int)=wR w by omega];exact cell_ok h) (by omega)
 rw [e] at hu
 have hp:=ok4_parent (cell_ok h) hr
 rw [show wR w - 1=(((wR w).toNat - 1:Nat):Int) by omega] at hp ⊢
 have hq:=word_parts hp
 rw [hu]
 exact ⟨hq.1,hq.2.1⟩
theorem whole_pos {w:Int} (h:Whole w):0 < w:=by have:=h.1;omega
theorem kid_of_up {w:Int} (h:Whole w) (hr:0 < wR w):∃ d:Nat,d≤6∧w=chW (upW w) d:=by
 have hb:=wR_box w
 have hu:=up_whole h hr
 have hd:=whole_digs h (j:=(wR w).toNat) (by omega) (by omega)
 refine ⟨(dg w (wR w).toNat).toNat,by omega,?_⟩
 have h12:=h.2.1
 have e:11 - (wR (upW w)).toNat=12 - (wR w).toNat:=by rw [hu.2];omega
 unfold chW
 rw [e,show (((dg w (wR w).toNat).toNat:Nat):Int)=dg w (wR w).toNat by omega]
 unfold upW setD
 rw [Int.sub_mul]
 omega
theorem size_mono {a b:Int} (ha:Whole a) (hb:Whole b) (h:a≤b):wR a≤wR b:=by
 have h1:=ha.1
 have h2:=hb.1
 unfold wR
 omega
theorem up_lt {w:Int} (h:Whole w) (hr:0 < wR w):upW w < w:=by
 have hu:=up_whole h hr
 by_cases hlt:upW w < w
 · exact hlt
 · have:=size_mono h hu.1 (by omega);omega
theorem up_mono {a b:Int} (ha:Whole a) (hb:Whole b) (hr:0 < wR a) (hs:wR a=wR b) (h:a≤b):upW a≤upW b:=by
 have ua:=up_whole ha hr
 have ub:=up_whole hb (by omega)
 by_cases hlt:upW b < upW a
 · obtain ⟨d,hd,ea⟩:=kid_of_up ha hr
   obtain ⟨e,he,eb⟩:=kid_of_up hb (by omega)
   have hbx:=wR_box (upW a)
   have h12:=ha.2.1
   have:=kids_apart (n:=(wR (upW a)).toNat) ub.1 ua.1 (by omega) (by omega) (by omega) hlt he hd
   rw [← ea,← eb] at this
   omega
 · omega
def upWs:Nat→Int→Int
 | 0,w=>w
 | k+1,w=>upWs k (upW w)
def Above (p w:Int):Prop:=∃ k:Nat,(k:Int)≤wR w∧upWs k w=p
theorem above_refl (w:Int):Above w w:=⟨0,(wR_box w).1,rfl⟩
theorem above_up {p w:Int} (h:Whole w) (hr:0 < wR w) (hp:Above p (upW w)):Above p w:=by
 obtain ⟨k,h1,h2⟩:=hp
 rw [(up_whole h hr).2] at h1
 exact ⟨k+1,by omega,h2⟩
theorem above_cases {p w:Int} (h:Whole w) (hp:Above p w):p=w∨(0 < wR w∧Above p (upW w)):=by
 obtain ⟨k,h1,h2⟩:=hp
 cases k with
 | zero=>exact .inl h2.symm
 | succ k=>exact .inr ⟨by omega,k,by rw [(up_whole h (by omega)).2];omega,h2⟩
theorem above_whole:∀ (n:Nat) {p w:Int},(wR w).toNat=n→Whole w→Above p w→Whole p∧wR p≤wR w∧p≤w∧(wR p=wR w→p=w)
 | 0,p,w,hn,h,hp=>by
  have hb:=wR_box w
  rcases above_cases h hp with rfl | ⟨hr,_⟩
  · exact ⟨h,Int.le_refl _,Int.le_refl _,fun _=>rfl⟩
  · omega
 | n+1,p,w,hn,h,hp=>by
  rcases above_cases h hp with rfl | ⟨hr,ha⟩
  · exact ⟨h,Int.le_refl _,Int.le_refl _,fun _=>rfl⟩
  · have hu:=up_whole h hr
    have ih:=above_whole n (by rw [hu.2];omega) hu.1 ha
    have hl:=up_lt h hr
    exact ⟨ih.1,by omega,by omega,fun e=>by omega⟩
theorem Above.whole {p w:Int} (hp:Above p w) (h:Whole w):Whole p:=(above_whole _ rfl h hp).1
theorem Above.size {p w:Int} (hp:Above p w) (h:Whole w):wR p≤wR w:=(above_whole _ rfl h hp).2.1
theorem Above.eq {p w:Int} (hp:Above p w) (h:Whole w) (e:wR p=wR w):p=w:=(above_whole _ rfl h hp).2.2.2 e
theorem above_trans:∀ (n:Nat) {p q w:Int},(wR w).toNat=n→Whole w→Above p q→Above q w→Above p w
 | 0,p,q,w,hn,h,hp,hq=>by
  have hb:=wR_box w
  rcases above_cases h hq with rfl | ⟨hr,_⟩
  · exact hp
  · omega
 | n+1,p,q,w,hn,h,hp,hq=>by
  rcases above_cases h hq with rfl | ⟨hr,ha⟩
  · exact hp
  · have hu:=up_whole h hr
    exact above_up h hr (above_trans n (by rw [hu.2];omega) hu.1 hp ha)
theorem Above.trans {p q w:Int} (hp:Above p q) (hq:Above q w) (h:Whole w):Above p w:=above_trans _ rfl h hp hq
theorem above_line:∀ (n:Nat) {p q w:Int},(wR w).toNat=n→Whole w→Above p w→Above q w→wR p≤wR q→Above p q
 | 0,p,q,w,hn,h,hp,hq,hs=>by
  have hb:=wR_box w
  rcases above_cases h hq with rfl | ⟨hr,_⟩
  · exact hp
  · omega
 | n+1,p,q,w,hn,h,hp,hq,hs=>by
  rcases above_cases h hq with rfl | ⟨hr,ha⟩
  · exact hp
  · have hu:=up_whole h hr
    rcases above_cases h hp with rfl | ⟨_,hb⟩
    · have:=ha.size hu.1;omega
    · exact above_line n (by rw [hu.2];omega) hu.1 hb ha hs
theorem kid_whole {v:Int} (h:Whole v) (hr:wR v < 12) {d:Nat} (hd:d≤6):Whole (chW v d)∧wR (chW v d)=wR v+1∧upW (chW v d)=v∧v < chW v d:=by
 have hc:=chW_whole h hr hd
 have hb:=wR_box v
 have hu:=up_kid h hr hd
 have hl:=up_lt hc.1 (by omega)
 exact ⟨hc.1,hc.2,hu,by omega⟩
theorem above_kid {v:Int} (h:Whole v) (hr:wR v < 12) {d:Nat} (hd:d≤6):Above v (chW v d):=by
 have hk:=kid_whole h hr hd
 have hb:=wR_box v
 exact above_up hk.1 (by omega) (by rw [hk.2.2.1];exact above_refl v)
theorem above_kid_cases {p v:Int} (h:Whole v) (hr:wR v < 12) {d:Nat} (hd:d≤6) (hp:Above p (chW v d)):p=chW v d∨Above p v:=by
 have hk:=kid_whole h hr hd
 rcases above_cases hk.1 hp with e | ⟨_,ha⟩
 · exact .inl e
 · rw [hk.2.2.1] at ha;exact .inr ha
theorem above_by_kid:∀ (n:Nat) {v x:Int},(wR x).toNat=n→Whole x→Above v x→wR v < wR x→∃ d:Nat,d≤6∧Above (chW v d) x
 | 0,v,x,hn,h,ha,hs=>by have hb:=wR_box v;omega
 | n+1,v,x,hn,h,ha,hs=>by
  rcases above_cases h ha with rfl | ⟨hr,hb⟩
  · omega
  · have hu:=up_whole h hr
    by_cases he:wR v=wR (upW x)
    · have e:=hb.eq hu.1 he
      subst e
      obtain ⟨d,hd,e⟩:=kid_of_up h hr
      exact ⟨d,hd,by rw [← e];exact above_refl x⟩
    · have:=hb.size hu.1
      obtain ⟨d,hd,hk⟩:=above_by_kid n (by rw [hu.2];omega) hu.1 hb (by omega)
      exact ⟨d,hd,above_up h hr hk⟩
theorem above_has_kid {v x:Int} (h:Whole x) (ha:Above v x) (hs:wR v < wR x):∃ d:Nat,d≤6∧Above (chW v d) x:=above_by_kid _ rfl h ha hs
theorem below_is:∀ (n:Nat) {v:Int} {r:Nat},Whole v→r≤12→(wR v).toNat+n=r→∃ x,Whole x∧wR x=(r:Int)∧Above v x
 | 0,v,r,h,hr,hn=>⟨v,h,by have:=wR_box v;omega,above_refl v⟩
 | n+1,v,r,h,hr,hn=>by
  have hb:=wR_box v
  have hk:=kid_whole h (by omega) (d:=0) (by omega)
  obtain ⟨x,h1,h2,h3⟩:=below_is n (v:=chW v 0) hk.1 hr (by rw [hk.2.1];omega)
  exact ⟨x,h1,h2,(above_kid h (by omega) (by omega)).trans h3 h1⟩
def Cov (X:List Int) (x:Int):Prop:=∃ p∈X,Above p x
def Anti (X:List Int):Prop:=∀ p∈X,∀ q∈X,Above p q→p=q
def NoSeven (X:List Int):Prop:=∀ v,Whole v→wR v < 12→¬ ∀ d:Nat,d≤6→chW v d∈X
def WithinR (r:Nat) (X:List Int):Prop:=∀ x∈X,Whole x∧wR x≤(r:Int)
theorem cov_fill {r:Nat} (hr:r≤12) {P:List Int} (hP:WithinR r P) (hn:NoSeven P):∀ (n:Nat) {v:Int},Whole v→(wR v).toNat+n=r→(∀ x,Whole x→wR x=(r:Int)→Above v x→Cov P x)→Cov P v
 | 0,v,h,e,hc=>hc v h (by have:=wR_box v;omega) (above_refl v)
 | n+1,v,h,e,hc=>by
  have hb:=wR_box v
  have hv:wR v < 12:=by omega
  have hk:∀ d:Nat,d≤6→Cov P (chW v d):=fun d hd=>by
   have hw:=kid_whole h hv hd
   exact cov_fill hr hP hn n hw.1 (by rw [hw.2.1];omega) fun x hx hxr hax=>hc x hx hxr ((above_kid h hv hd).trans hax hx)
  by_cases hcv:Cov P v
  · exact hcv
  · refine absurd (fun d hd=>?_) (hn v h hv)
    obtain ⟨p,hp,ha⟩:=hk d hd
    rcases above_kid_cases h hv hd ha with rfl | ha
    · exact hp
    · exact absurd ⟨p,hp,ha⟩ hcv
theorem cov_sub {r:Nat} (hr:r≤12) {P Q:List Int} (hP:WithinR r P) (hQ:WithinR r Q) (aP:Anti P) (nP:NoSeven P) (nQ:NoSeven Q)
 (h:∀ x,Whole x→wR x=(r:Int)→(Cov P x↔Cov Q x)):∀ x∈P,x∈Q:=fun w hw=>by
 have hW:=hP w hw
 have hb:=wR_box w
 have h1:Cov Q w:=cov_fill hr hQ nQ (r - (wR w).toNat) hW.1 (by omega) fun x hx hxr ha=>(h x hx hxr).1 ⟨w,hw,ha⟩
 obtain ⟨q,hq,haq⟩:=h1
 have hQw:=hQ q hq
 have hbq:=wR_box q
 obtain ⟨p,hp,hap⟩:=cov_fill hr hP nP (r - (wR q).toNat) hQw.1 (by omega) fun x hx hxr ha=>(h x hx hxr).2 ⟨q,hq,ha⟩
 have e:=aP p hp w hw (hap.trans haq hW.1)
 subst e
 have s1:=haq.size hW.1
 have s2:=hap.size hQw.1
 have:=haq.eq hW.1 (by omega)
 subst this
 exact hq
def Packed (r:Nat) (S P:List Int):Prop:=Rising P∧WithinR r P∧Anti P∧NoSeven P∧∀ x,Whole x→wR x=(r:Int)→(Cov P x↔x∈S)
theorem Packed.one {r:Nat} (hr:r≤12) {S T P Q:List Int} (hP:Packed r S P) (hQ:Packed r T Q) (h:∀ x,x∈S↔x∈T):P=Q :=
 rising_ext hP.1 hQ.1 fun x=>⟨cov_sub hr hP.2.1 hQ.2.1 hP.2.2.1 hP.2.2.2.1 hQ.2.2.2.1 (fun y hy hs=>by rw [hP.2.2.2.2 y hy hs,hQ.2.2.2.2 y hy hs,h y]) x,
  cov_sub hr hQ.2.1 hP.2.1 hQ.2.2.1 hQ.2.2.2.1 hP.2.2.2.1 (fun y hy hs=>by rw [hP.2.2.2.2 y hy hs,hQ.2.2.2.2 y hy hs,h y]) x⟩
def kin:Nat→Int→List Int
 | 0,v=>[v]
 | t+1,v=>(kidRow v).flatMap (kin t)
theorem mem_kin:∀ (t:Nat) {v x:Int},Whole v→wR v+(t:Int)≤12→(x∈kin t v↔Whole x∧wR x=wR v+(t:Int)∧Above v x)
 | 0,v,x,h,ht=>by
  show x∈[v]↔_
  rw [List.mem_singleton]
  constructor
  · rintro rfl;exact ⟨h,by simp,above_refl x⟩
  · rintro ⟨hx,hs,ha⟩;exact (ha.eq hx (by omega)).symm
 | t+1,v,x,h,ht=>by
  show x∈(kidRow v).flatMap (kin t)↔_
  rw [List.mem_flatMap]
  constructor
  · rintro ⟨k,hk,hx⟩
    obtain ⟨d,hd,rfl⟩:=kidRow_mem.1 hk
    have hw:=kid_whole h (by omega) hd
    obtain ⟨h1,h2,h3⟩:=(mem_kin t hw.1 (by rw [hw.2.1];omega)).1 hx
    exact ⟨h1,by rw [h2,hw.2.1];omega,(above_kid h (by omega) hd).trans h3 h1⟩
  · rintro ⟨hx,hs,ha⟩
    obtain ⟨d,hd,hk⟩:=above_has_kid hx ha (by omega)
    have hw:=kid_whole h (by omega) hd
    exact ⟨chW v d,kidRow_mem.2 ⟨d,hd,rfl⟩,(mem_kin t hw.1 (by rw [hw.2.1];omega)).2 ⟨hx,by rw [hs,hw.2.1];omega,hk⟩⟩
theorem kin_len:∀ (t:Nat) (v:Int),(kin t v).length=7^t
 | 0,v=>rfl
 | t+1,v=>by
  show ((kidRow v).flatMap (kin t)).length=_
  have:∀ L:List Int,(L.flatMap (kin t)).length=L.length*7^t:=fun L=>by
   induction L with
   | nil=>simp
   | cons a L ih=>rw [List.flatMap_cons,List.length_append,ih,kin_len t a,List.length_cons,Nat.succ_mul];omega
  rw [this,kidRow_len,Nat.pow_succ,Nat.mul_comm]
theorem above_one {p q x:Int} (hx:Whole x) (hp:Above p x) (hq:Above q x) (hs:wR p=wR q):p=q:=by
 have h:=above_line _ rfl hx hp hq (by omega)
 exact h.eq (hq.whole hx) hs
theorem kidRow_nodup (v:Int):(kidRow v).Nodup:=by
 unfold kidRow
 exact List.pairwise_map.2 ((List.pairwise_lt_range (n:=7)).imp_of_mem fun {a b} ha hb hab=>by
  have:=kids_rise (v:=v) hab (by have:=List.mem_range.1 hb;omega);omega)
theorem kin_nodup:∀ (t:Nat) {v:Int},Whole v→wR v+(t:Int)≤12→(kin t v).Nodup
 | 0,v,h,ht=>by show [v].Nodup;simp
 | t+1,v,h,ht=>by
  show ((kidRow v).flatMap (kin t)).Nodup
  refine List.pairwise_flatMap.2 ⟨fun k hk=>?_,?_⟩
  · obtain ⟨d,hd,rfl⟩:=kidRow_mem.1 hk
    have hw:=kid_whole h (by omega) hd
    exact kin_nodup t hw.1 (by rw [hw.2.1];omega)
  · refine (kidRow_nodup v).imp_of_mem ?_
    intro a b ha hb hne x hx y hy hxy
    subst hxy
    obtain ⟨d,hd,rfl⟩:=kidRow_mem.1 ha
    obtain ⟨e,he,rfl⟩:=kidRow_mem.1 hb
    have wd:=kid_whole h (by omega) hd
    have we:=kid_whole h (by omega) he
    have h1:=(mem_kin t wd.1 (by rw [wd.2.1];omega)).1 hx
    have h2:=(mem_kin t we.1 (by rw [we.2.1];omega)).1 hy
    exact hne (above_one h1.1 h1.2.2 h2.2.2 (by rw [wd.2.1,we.2.1]))
def kinR (r:Nat) (L:List Int):List Int:=L.flatMap fun w=>kin (r - (wR w).toNat) w
theorem mem_kinR {r:Nat} (hr:r≤12) {L:List Int} (hL:WithinR r L) {x:Int}:x∈kinR r L↔Whole x∧wR x=(r:Int)∧Cov L x:=by
 unfold kinR
 rw [List.mem_flatMap]
 constructor
 · rintro ⟨w,hw,hx⟩
   have h:=hL w hw
   have hb:=wR_box w
   obtain ⟨h1,h2,h3⟩:=(mem_kin _ h.1 (by omega)).1 hx
   exact ⟨h1,by omega,w,hw,h3⟩
 · rintro ⟨h1,h2,w,hw,h3⟩
   have h:=hL w hw
   have hb:=wR_box w
   exact ⟨w,hw,(mem_kin _ h.1 (by omega)).2 ⟨h1,by omega,h3⟩⟩
theorem kinR_nodup {r:Nat} (hr:r≤12) {L:List Int} (hL:WithinR r L) (hA:Anti L) (hn:L.Nodup):(kinR r L).Nodup:=by
 unfold kinR
 refine List.pairwise_flatMap.2 ⟨fun w hw=>?_,?_⟩
 · have h:=hL w hw
   have hb:=wR_box w
   exact kin_nodup _ h.1 (by omega)
 · refine hn.imp_of_mem ?_
   intro a b ha hb hne x hx y hy hxy
   subst hxy
   have wa:=hL a ha
   have wb:=hL b hb
   have ba:=wR_box a
   have bb:=wR_box b
   have h1:=(mem_kin _ wa.1 (by omega)).1 hx
   have h2:=(mem_kin _ wb.1 (by omega)).1 hy
   rcases (show wR a≤wR b∨wR b≤wR a by omega) with h | h
   · exact hne (hA a ha b hb (above_line _ rfl h1.1 h1.2.2 h2.2.2 h))
   · exact hne (hA b hb a ha (above_line _ rfl h1.1 h2.2.2 h1.2.2 h)).symm
def cntR (r:Nat):List Int→Int
 | []=>0
 | w :: L=>7^(r - (wR w).toNat)+cntR r L
theorem cntR_len (r:Nat):∀ L:List Int,cntR r L=((kinR r L).length:Int)
 | []=>rfl
 | w :: L=>by
  show 7^(r - (wR w).toNat)+cntR r L=_
  unfold kinR
  rw [List.flatMap_cons,List.length_append,kin_len,cntR_len r L]
  unfold kinR
  push_cast
  rfl
theorem nodup_ext_len {L M:List Int} (hL:L.Nodup) (hM:M.Nodup) (h:∀ x,x∈L↔x∈M):L.length=M.length :=
 ((List.perm_ext_iff_of_nodup hL hM).2 h).length_eq
theorem hp_build (d:Array Int) {n k:Nat} (hn:d.size=n) (hk:n≤2*k+1):Hp n (Sort.heapBuild Sort.ltInt n 0 k d)∧Sort.PermIn 0 n d (Sort.heapBuild Sort.ltInt n 0 k d):=by
 have h:=Sort.build Sort.swo_ltInt n 0 k d (by omega) (fun i h1 _ c hc hch=>by omega)
 rw [Nat.zero_add] at h
 exact h
theorem append_place {P:Program} (w:World) (base:Nat) (t ty e:TypeId) (i:TypeInfo) (z:Value) (size bytes:Nat) (ht:P.underlying t=some (.slice e)) (hi:P.info? e=some i) (hz:i.zero=some z)
 (hsize:i.size=size) (hby:i.bytes=bytes) (hzs:z.cells.size=size) (hsz:0 < size) (v:Value) (n:Nat) (xs:List Value) (hown:w.ownsRow base e size v n xs)
 (a:Addr) (m c:Nat) (hm:0 < m) (news:List Value) (hl:news.length=m*size) (hnews:∀ j u,news[j]?=some u→w.cell? (a.add j)=some u) (h1:∀ u∈news,u.oneCell'=true)
 (h63:n+m≤maxLen) (hbytes:(n+m)*bytes≤140737488355328) (hbase:base≤w.heap.size) :
 ∃ v' w',(Builtin.append_ #[t,t] ty #[v,.slice (some a) m c]).run P w=.ok v' w'∧w'.ownsRow base e size v' (n+m) (xs++news)∧w.grownBy w' v.ownBlock∧(v'.ownBlock=v.ownBlock∨v'.ownBlock=some w.heap.size):=by
 obtain ⟨v',w',hr,h2,h3,-⟩:=run_append_own (P:=P) w base t ty e i z size bytes ht hi hz hsize hby hzs hsz v n xs hown a m c news hl hnews h1 h63 hbytes hbase
 refine ⟨v',w',hr,h2,h3,?_⟩
 have hk:n+m≤9223372036854775807:=by simp only [maxLen] at h63;omega
 subst hsize hby
 have key:∀ {x:Value} {y:World},(Builtin.append_ #[t,t] ty #[v,.slice (some a) m c]).run P w=.ok x y→v'=x:=fun h=>by
  rw [hr] at h
  injection h
 rcases hown.2 with ⟨rfl,rfl⟩ | ⟨g,cap,cur,rfl,hbg,hg,hnc,hcm,hcs,htake⟩
 · have hb:m*i.bytes≤281474976710656:=by have h:=hbytes;rw [Nat.zero_add] at h;omega
   rw [key (run_append_nil (P:=P) w t ty e i z ht hi hz a m c news hl hnews hm (by omega) hb)]
   exact .inr rfl
 · by_cases hroom:n+m≤cap
   · have hfit:n*i.size+news.length≤cur.size:=by rw [hl,hcs,← Nat.add_mul];exact Nat.mul_le_mul_right _ hroom
     rw [key (run_append_room (P:=P) w t ty e i ht hi g n cap cur hg a m c news hl hnews h1 hroom hfit)]
     exact .inl rfl
   · rw [key (run_append_grow (P:=P) w t ty e i z ht hi hz ⟨g,0,none⟩ n cap xs hown.1 (hown.cells (g:=g) rfl) a m c news hl hnews (by omega) (by omega) (growslice_fits (by omega) hbytes))]
     exact .inr rfl
theorem wpList_append_apart {P:Program} {w:World} {ops:Array Oper} {rest:List Oper} {o:Oper} {a:Act} {Q:Exit→Act→World→Prop} (hgd:o.guard=none) (s x:Operand) (t:TypeId)
 (ho:o.op=.call { callee:=.builtin .append,args:=#[s,x],argTypes:=#[t,t] })
 (base:Nat) (e:TypeId) (i:TypeInfo) (z:Value) (size bytes:Nat) (ht:P.underlying t=some (.slice e)) (hi:P.info? e=some i) (hz:i.zero=some z)
 (hsize:i.size=size) (hby:i.bytes=bytes) (hzs:z.cells.size=size) (hsz:0 < size)
 (v:Value) (n:Nat) (xs:List Value) (hs:a.eval s=v) (hown:w.ownsRow base e size v n xs)
 (ad:Addr) (m c:Nat) (hm:0 < m) (news:List Value) (hx:a.eval x=.slice (some ad) m c) (hl:news.length=m*size) (hnews:∀ j u,news[j]?=some u→w.cell? (ad.add j)=some u) (h1:∀ u∈news,u.oneCell'=true)
 (h63:n+m≤maxLen) (hbytes:(n+m)*bytes≤140737488355328) (hbase:base≤w.heap.size)
 (h:∀ v' w',w'.ownsRow base e size v' (n+m) (xs++news)→w.grownBy w' v.ownBlock→(v'.ownBlock=v.ownBlock∨v'.ownBlock=some w.heap.size)→wpList P ops Q rest (a.put o.dst v') w'):wpList P ops Q (o :: rest) a w:=by
 refine wpList_plain hgd fun K hK=>?_
 obtain ⟨v',w',hr,h2,h3,h4⟩:=append_place (P:=P) w base t o.type e i z size bytes ht hi hz hsize hby hzs hsz v n xs hown ad m c hm news hl hnews h1 h63 hbytes hbase
 unfold Oper.wp
 simp [execOp,ho,resolve,invoke,builtin,hs,hx,hr,Result.andThen]
 exact hK _ _ (h v' w' h2 h3 h4)
theorem cov_same {S:List Int} {r:Nat} (hS:∀ x∈S,Whole x∧wR x=(r:Int)) {x:Int} (hx:Whole x) (hr:wR x=(r:Int)):Cov S x↔x∈S:=by
 constructor
 · rintro ⟨p,hp,ha⟩
   have:=ha.eq hx (by rw [(hS p hp).2,hr])
   subst this
   exact hp
 · intro h;exact ⟨x,h,above_refl x⟩
theorem anti_same {S:List Int} {r:Nat} (hS:∀ x∈S,Whole x∧wR x=(r:Int)):Anti S:=fun p hp q hq ha=>ha.eq (hS q hq).1 (by rw [(hS p hp).2,(hS q hq).2])
def Falling (L:List Int):Prop:=L.Pairwise fun a b=>b < a
theorem falling_rev {L:List Int} (h:Falling L):Rising L.reverse:=by
 unfold Rising
 rw [List.pairwise_reverse]
 exact h
theorem falling_nodup {L:List Int} (h:Falling L):L.Nodup:=h.imp fun {a b} hab=>by omega
def Joi (r:Nat) (S J H:List Int):Prop :=
 Falling J∧H.Nodup∧WithinR r (J++H)∧(∀ h∈H,∀ j∈J,h < j)∧Anti (J++H)∧NoSeven J∧(∀ h∈H,∀ j∈J,0 < wR h→wR h=wR j→upW h≠upW j)∧(∀ x,Whole x→wR x=(r:Int)→(Cov (J++H) x↔x∈S))∧J.length+H.length≤S.length
theorem Joi.start {r:Nat} {S H:List Int} (hR:Rising H) (hm:∀ x,x∈H↔x∈S) (hS:∀ x∈S,Whole x∧wR x=(r:Int)) (hl:H.length≤S.length):Joi r S [] H:=by
 have hH:∀ x∈H,Whole x∧wR x=(r:Int):=fun x hx=>hS x ((hm x).1 hx)
 refine ⟨List.Pairwise.nil,rising_nodup hR,fun x hx=>⟨(hH x hx).1,by rw [(hH x hx).2];exact Int.le_refl _⟩,fun h _ j hj=>by simp at hj,anti_same hH,fun v hv hr h=>by have:=h 0 (by omega);simp at this,
  fun h _ j hj=>by simp at hj,fun x hx hr=>?_,by simpa using hl⟩
 rw [List.nil_append,cov_same hH hx hr,hm x]
theorem Joi.perm {r:Nat} {S J H K:List Int} (h:Joi r S J H) (p:H.Perm K):Joi r S J K:=by
 obtain ⟨h1,h2,h3,h4,h5,h6,h7,h8,h9⟩:=h
 have m:∀ x,x∈J++K↔x∈J++H:=fun x=>by rw [List.mem_append,List.mem_append,p.mem_iff]
 refine ⟨h1,p.nodup_iff.1 h2,fun x hx=>h3 x ((m x).1 hx),fun y hy j hj=>h4 y (p.mem_iff.2 hy) j hj,fun a ha b hb hab=>h5 a ((m a).1 ha) b ((m b).1 hb) hab,h6,fun y hy j hj=>h7 y (p.mem_iff.2 hy) j hj,fun x hx hr=>?_,by rw [← p.length_eq];exact h9⟩
 rw [← h8 x hx hr]
 constructor
 · rintro ⟨q,hq,ha⟩;exact ⟨q,(m q).1 hq,ha⟩
 · rintro ⟨q,hq,ha⟩;exact ⟨q,(m q).2 hq,ha⟩
def Bro (H B:List Int) (u:Int) (H':List Int):Prop :=
 H.Perm (B++H')∧Falling B∧(∀ b∈B,∀ h∈H',h < b)∧((u=0∧∃ m,B=[m]∧wR m=0)∨(u≠0∧B≠[]∧(∀ b∈B,0 < wR b∧upW b=u)∧∀ h∈H',¬ (0 < wR h∧upW h=u)))
theorem seven_kids {B:List Int} {u:Int} (hB:B.Nodup) (hk:∀ b∈B,b∈kidRow u):B.length≤7∧(B.length=7↔∀ d:Nat,d≤6→chW u d∈B):=by
 have e:B.length=((kidRow u).filter fun x=>decide (x∈B)).length:=nodup_ext_len hB ((kidRow_nodup u).filter _) fun x=>by
  rw [List.mem_filter,decide_eq_true_eq]
  exact ⟨fun h=>⟨hk x h,h⟩,fun h=>h.2⟩
 have hl:=List.length_filter_le (fun x=>decide (x∈B)) (kidRow u)
 rw [kidRow_len] at hl
 refine ⟨by omega,?_⟩
 rw [e,← kidRow_len u,List.length_filter_eq_length_iff]
 constructor
 · intro h d hd;exact of_decide_eq_true (h _ (kidRow_mem.2 ⟨d,hd,rfl⟩))
 · intro h x hx
   obtain ⟨d,hd,rfl⟩:=kidRow_mem.1 hx
   exact decide_eq_true (h d hd)
theorem Joi.keep {r:Nat} {S J H B H':List Int} {u:Int} (h:Joi r S J H) (hb:Bro H B u H') (h7:B.length≠7):Joi r S (J++B) H':=by
 obtain ⟨b1,b2,b3,b4⟩:=hb
 obtain ⟨h1,h2,h3,h4,h5,h6,h7',h8,h9⟩:=h.perm b1
 have m:∀ x,x∈J++B++H'↔x∈J++(B++H'):=fun x=>by simp only [List.mem_append];exact or_assoc
 have hBw:∀ b∈B,Whole b∧wR b≤(r:Int):=fun b hb=>h3 b (by simp [hb])
 have nd:=List.nodup_append.1 h2
 refine ⟨List.pairwise_append.2 ⟨h1,b2,fun j hj b hb=>h4 b (by simp [hb]) j hj⟩,nd.2.1,fun x hx=>h3 x ((m x).1 hx),fun y hy j hj=>?_,fun a ha b hb hab=>h5 a ((m a).1 ha) b ((m b).1 hb) hab,?_,fun y hy j hj hy0 hs=>?_,fun x hx hxr=>?_,?_⟩
 · rcases List.mem_append.1 hj with hj | hj
   · exact h4 y (by simp [hy]) j hj
   · exact b3 j hj y hy
 · intro v hv hvr hall
   by_cases hB:∃ d:Nat,d≤6∧chW v d∈B
   · obtain ⟨d0,hd0,hB0⟩:=hB
     have k0:=kid_whole hv hvr hd0
     have hv0:=wR_box v
     rcases b4 with ⟨_,m0,rfl,hm0⟩ | ⟨hu,hne,hpar,hrest⟩
     · rw [List.mem_singleton] at hB0
       rw [← hB0,k0.2.1] at hm0
       omega
     · have hvu:v=u:=by rw [← k0.2.2.1];exact (hpar _ hB0).2
       subst hvu
       refine h7 ((seven_kids (u:=v) (falling_nodup b2) fun b hb=>?_).2.2 fun d hd=>?_)
       · obtain ⟨e,he,hbe⟩:=kid_of_up (hBw b hb).1 (hpar b hb).1
         rw [(hpar b hb).2] at hbe
         exact kidRow_mem.2 ⟨e,he,hbe⟩
       · rcases List.mem_append.1 (hall d hd) with hx | hx
         · have kd:=kid_whole hv hvr hd
           exact absurd (by rw [k0.2.2.1,kd.2.2.1]) (h7' _ (List.mem_append_left _ hB0) _ hx (hpar _ hB0).1 (by rw [k0.2.1,kd.2.1]))
         · exact hx
   · refine h6 v hv hvr fun d hd=>?_
     rcases List.mem_append.1 (hall d hd) with hx | hx
     · exact hx
     · exact absurd ⟨d,hd,hx⟩ hB
 · rcases List.mem_append.1 hj with hj | hj
   · exact h7' y (by simp [hy]) j hj hy0 hs
   · rcases b4 with ⟨_,m0,rfl,hm0⟩ | ⟨hu,hne,hpar,hrest⟩
     · rw [List.mem_singleton] at hj
       subst hj
       omega
     · intro e
       exact hrest y hy ⟨hy0,by rw [e];exact (hpar j hj).2⟩
 · rw [← h8 x hx hxr]
   constructor
   · rintro ⟨q,hq,ha⟩;exact ⟨q,(m q).1 hq,ha⟩
   · rintro ⟨q,hq,ha⟩;exact ⟨q,(m q).2 hq,ha⟩
 · rw [List.length_append] at h9 ⊢
   omega
theorem Joi.lift {r:Nat} {S J H B H':List Int} {u:Int} (h:Joi r S J H) (hb:Bro H B u H') (h7:B.length=7):Joi r S J (u :: H')∧Whole u:=by
 obtain ⟨b1,b2,b3,b4⟩:=hb
 obtain ⟨h1,h2,h3,h4,h5,h6,h7',h8,h9⟩:=h.perm b1
 have hBw:∀ b∈B,Whole b∧wR b≤(r:Int):=fun b hb=>h3 b (by simp [hb])
 have nd:=List.nodup_append.1 h2
 rcases b4 with ⟨_,m0,rfl,hm0⟩ | ⟨hu,hne,hpar,hrest⟩
 · simp at h7
 have hall:∀ d:Nat,d≤6→chW u d∈B:=(seven_kids (u:=u) (falling_nodup b2) fun b hb=>by
  obtain ⟨e,he,hbe⟩:=kid_of_up (hBw b hb).1 (hpar b hb).1
  rw [(hpar b hb).2] at hbe
  exact kidRow_mem.2 ⟨e,he,hbe⟩).2.1 h7
 have k0:=hpar _ (hall 0 (by omega))
 have w0:=hBw _ (hall 0 (by omega))
 have hu0:=up_whole w0.1 k0.1
 rw [k0.2] at hu0
 have hWu:=hu0.1
 have h12:=w0.1.2.1
 have hur:wR u < 12:=by omega
 have kid:∀ d:Nat,d≤6→chW u d∈J++(B++H'):=fun d hd=>List.mem_append_right _ (List.mem_append_left _ (hall d hd))
 have hub:∀ d:Nat,d≤6→Above u (chW u d):=fun d hd=>above_kid hWu hur hd
 have hult:u < chW u 0:=(kid_whole hWu hur (d:=0) (by omega)).2.2.2
 have nk:∀ x,x∈J∨x∈H'→∀ d:Nat,d≤6→x≠chW u d:=fun x hx d hd e=>by
  subst e
  rcases hx with hx | hx
  · have:=h4 _ (List.mem_append_left _ (hall d hd)) _ hx
    omega
  · have:=b3 _ (hall d hd) _ hx
    omega
 have mem_old:∀ x,x∈J∨x∈H'→x∈J++(B++H'):=fun x hx=>by
  rcases hx with hx | hx
  · exact List.mem_append_left _ hx
  · simp [hx]
 have up_no:∀ x,x∈J∨x∈H'→¬ Above u x:=fun x hx ha=>by
  have hxw:=h3 x (mem_old x hx)
  by_cases he:wR u=wR x
  · have:=ha.eq hxw.1 he
    subst this
    have:=h5 _ (mem_old _ hx) _ (kid 0 (by omega)) (hub 0 (by omega))
    exact nk _ hx 0 (by omega) this
  · have:=ha.size hxw.1
    obtain ⟨d,hd,hk⟩:=above_has_kid hxw.1 ha (by omega)
    exact nk x hx d hd (h5 _ (kid d hd) _ (mem_old x hx) hk).symm
 have no_up:∀ x,x∈J∨x∈H'→¬ Above x u:=fun x hx ha=>nk x hx 0 (by omega) (h5 _ (mem_old x hx) _ (kid 0 (by omega)) (ha.trans (hub 0 (by omega)) w0.1))
 have cases':∀ x,x∈J++u :: H'→x=u∨(x∈J∨x∈H'):=fun x hx=>by
  rcases List.mem_append.1 hx with hx | hx
  · exact .inr (.inl hx)
  · rcases List.mem_cons.1 hx with hx | hx
    · exact .inl hx
    · exact .inr (.inr hx)
 refine ⟨⟨h1,List.nodup_cons.2 ⟨fun hm=>up_no u (.inr hm) (above_refl u),nd.2.1⟩,fun x hx=>?_,fun y hy j hj=>?_,fun a ha b hb hab=>?_,h6,fun y hy j hj hy0 hs=>?_,fun x hx hxr=>?_,?_⟩,hWu⟩
 · rcases cases' x hx with rfl | hx
   · exact ⟨hWu,by omega⟩
   · exact h3 x (mem_old x hx)
 · rcases List.mem_cons.1 hy with rfl | hy
   · have:=h4 _ (List.mem_append_left _ (hall 0 (by omega))) j hj
     omega
   · exact h4 y (by simp [hy]) j hj
 · rcases cases' a ha with ea | ha2
   · rcases cases' b hb with eb | hb2
     · rw [ea,eb]
     · exact absurd (ea ▸ hab) (up_no b hb2)
   · rcases cases' b hb with eb | hb2
     · exact absurd (eb ▸ hab) (no_up a ha2)
     · exact h5 a (mem_old a ha2) b (mem_old b hb2) hab
 · rcases List.mem_cons.1 hy with rfl | hy
   · have hlt:=h4 _ (List.mem_append_left _ (hall 0 (by omega))) j hj
     have hjw:=h3 j (List.mem_append_left _ hj)
     have:=size_mono w0.1 hjw.1 (by omega)
     omega
   · exact h7' y (by simp [hy]) j hj hy0 hs
 · rw [← h8 x hx hxr]
   constructor
   · rintro ⟨q,hq,ha⟩
     rcases cases' q hq with rfl | hq
     · by_cases he:wR q=wR x
       · have:=hBw _ (hall 0 (by omega))
         omega
       · have:=ha.size hx
         obtain ⟨d,hd,hk⟩:=above_has_kid hx ha (by omega)
         exact ⟨_,kid d hd,hk⟩
     · exact ⟨q,mem_old q hq,ha⟩
   · rintro ⟨q,hq,ha⟩
     rcases List.mem_append.1 hq with hq | hq
     · exact ⟨q,List.mem_append_left _ hq,ha⟩
     · rcases List.mem_append.1 hq with hq | hq
       · have hk:=hpar q hq
         have hu2:=above_up (hBw q hq).1 hk.1 (above_refl (upW q))
         rw [hk.2] at hu2
         exact ⟨u,List.mem_append_right _ (List.mem_cons_self ..),hu2.trans ha hx⟩
       · exact ⟨q,List.mem_append_right _ (List.mem_cons_of_mem _ hq),ha⟩
 · rw [List.length_append] at h9
   rw [List.length_cons]
   omega
theorem Joi.done {r:Nat} {S J:List Int} (h:Joi r S J []):Packed r S J.reverse:=by
 obtain ⟨h1,h2,h3,h4,h5,h6,h7,h8,h9⟩:=h
 rw [List.append_nil] at h3 h5 h8
 refine ⟨falling_rev h1,fun x hx=>h3 x (List.mem_reverse.1 hx),fun p hp q hq ha=>h5 p (List.mem_reverse.1 hp) q (List.mem_reverse.1 hq) ha,fun v hv hvr hall=>h6 v hv hvr fun d hd=>List.mem_reverse.1 (hall d hd),fun x hx hxr=>?_⟩
 rw [← h8 x hx hxr]
 constructor
 · rintro ⟨p,hp,ha⟩;exact ⟨p,List.mem_reverse.1 hp,ha⟩
 · rintro ⟨p,hp,ha⟩;exact ⟨p,List.mem_reverse.2 hp,ha⟩
def Taking (H l:List Int) (u:Int) (C:List Int):Prop:=H.Perm (l++C)∧Falling l∧l≠[]∧(∀ b∈l,∀ h∈C,h < b)∧(∀ b∈l,0 < wR b∧upW b=u)∧(∀ x∈H,Whole x)∧H.Nodup
theorem Taking.start {H C:List Int} {m:Int} (hw:∀ x∈H,Whole x) (hn:H.Nodup) (hp:H.Perm (m :: C)) (hmax:∀ h∈C,h≤m) (hr:0 < wR m):Taking H [m] (upW m) C:=by
 have nd:=List.nodup_cons.1 (hp.nodup_iff.1 hn)
 refine ⟨hp,List.pairwise_singleton _ _,by simp,fun b hb h hh=>?_,fun b hb=>?_,hw,hn⟩
 · rw [List.mem_singleton] at hb
   subst hb
   have:=hmax h hh
   have:h≠b:=fun e=>nd.1 (e ▸ hh)
   omega
 · rw [List.mem_singleton] at hb
   subst hb
   exact ⟨hr,rfl⟩
theorem Taking.next {H l C C':List Int} {u m:Int} (h:Taking H l u C) (hp:C.Perm (m :: C')) (hmax:∀ y∈C',y≤m) (hr:0 < wR m) (hu:upW m=u):Taking H (l++[m]) u C':=by
 obtain ⟨h1,h2,h3,h4,h5,h6,h7⟩:=h
 have hC:∀ y,y=m∨y∈C'→y∈C:=fun y hy=>hp.mem_iff.2 (by rcases hy with rfl | hy <;>simp [*])
 have ndC:C.Nodup:=(List.nodup_append.1 (h1.nodup_iff.1 h7)).2.1
 have nd:=List.nodup_cons.1 (hp.nodup_iff.1 ndC)
 refine ⟨h1.trans ?_,List.pairwise_append.2 ⟨h2,List.pairwise_singleton _ _,fun a ha b hb=>?_⟩,by simp,fun b hb y hy=>?_,fun b hb=>?_,h6,h7⟩
 · rw [List.append_assoc]
   exact List.Perm.append_left _ hp
 · rw [List.mem_singleton] at hb
   subst hb
   exact h4 a ha b (hC b (.inl rfl))
 · rcases List.mem_append.1 hb with hb | hb
   · exact h4 b hb y (hC y (.inr hy))
   · rw [List.mem_singleton] at hb
     subst hb
     have:=hmax y hy
     have:y≠b:=fun e=>nd.1 (e ▸ hy)
     omega
 · rcases List.mem_append.1 hb with hb | hb
   · exact h5 b hb
   · rw [List.mem_singleton] at hb
     subst hb
     exact ⟨hr,hu⟩
theorem Taking.done {H l C:List Int} {u:Int} (h:Taking H l u C) (hu:Whole u) (he:C=[]∨∃ t∈C,(∀ y∈C,y≤t)∧¬ (0 < wR t∧upW t=u)):Bro H l u C:=by
 obtain ⟨h1,h2,h3,h4,h5,h6,h7⟩:=h
 refine ⟨h1,h2,h4,.inr ⟨by have:=whole_pos hu;omega,h3,h5,fun y hy ⟨y0,yu⟩=>?_⟩⟩
 rcases he with rfl | ⟨t,ht,hmax,hno⟩
 · simp at hy
 · obtain ⟨m,hm⟩:=List.exists_mem_of_ne_nil l h3
   have wm:=h6 m (h1.mem_iff.2 (by simp [hm]))
   have wt:=h6 t (h1.mem_iff.2 (by simp [ht]))
   have wy:=h6 y (h1.mem_iff.2 (by simp [hy]))
   have m5:=h5 m hm
   have um:=up_whole wm m5.1
   have uy:=up_whole wy y0
   rw [m5.2] at um
   rw [yu] at uy
   have h4':=h4 m hm t ht
   have hyt:=hmax y hy
   have s1:=size_mono wy wt hyt
   have s2:=size_mono wt wm (by omega)
   have u1:=up_mono wy wt y0 (by omega) hyt
   have u2:=up_mono wt wm (by omega) (by omega) (by omega)
   rw [yu] at u1
   rw [m5.2] at u2
   exact hno ⟨by omega,by omega⟩
theorem bro_top {H C:List Int} {m:Int} (hn:H.Nodup) (hp:H.Perm (m :: C)) (hmax:∀ h∈C,h≤m) (hr:wR m=0):Bro H [m] 0 C:=by
 have nd:=List.nodup_cons.1 (hp.nodup_iff.1 hn)
 refine ⟨hp,List.pairwise_singleton _ _,fun b hb h hh=>?_,.inl ⟨rfl,m,rfl,hr⟩⟩
 rw [List.mem_singleton] at hb
 subst hb
 have:=hmax h hh
 have:h≠b:=fun e=>nd.1 (e ▸ hh)
 omega
theorem m_len (B:Nat) (w:World) (v:Value) (h:w.cell? ⟨B,0,none⟩=some v):(method 389 162 (.pointer (some ⟨B,0,none⟩)) "Len").run Tryz.prog w=.ok (249,v) w:=by
 have e:(method 389 162 (.pointer (some ⟨B,0,none⟩)) "Len").run Tryz.prog w=(Sem.load Mode.plain ⟨B,0,none⟩ (fun v=>Sem.pure (249,v))).run Tryz.prog w:=by kernel_rfl
 rw [e];simp [Sem.run,h]
theorem m_less (B:Nat) (w:World) (v:Value) (h:w.cell? ⟨B,0,none⟩=some v):(method 389 162 (.pointer (some ⟨B,0,none⟩)) "Less").run Tryz.prog w=.ok (250,v) w:=by
 have e:(method 389 162 (.pointer (some ⟨B,0,none⟩)) "Less").run Tryz.prog w=(Sem.load Mode.plain ⟨B,0,none⟩ (fun v=>Sem.pure (250,v))).run Tryz.prog w:=by kernel_rfl
 rw [e];simp [Sem.run,h]
theorem m_swap (B:Nat) (w:World) (v:Value) (h:w.cell? ⟨B,0,none⟩=some v):(method 389 162 (.pointer (some ⟨B,0,none⟩)) "Swap").run Tryz.prog w=.ok (251,v) w:=by
 have e:(method 389 162 (.pointer (some ⟨B,0,none⟩)) "Swap").run Tryz.prog w=(Sem.load Mode.plain ⟨B,0,none⟩ (fun v=>Sem.pure (251,v))).run Tryz.prog w:=by kernel_rfl
 rw [e];simp [Sem.run,h]
theorem m_push (B:Nat) (w:World):(method 389 162 (.pointer (some ⟨B,0,none⟩)) "Push").run Tryz.prog w=.ok (253,.pointer (some ⟨B,0,none⟩)) w:=by kernel_rfl
theorem m_pop (B:Nat) (w:World):(method 389 162 (.pointer (some ⟨B,0,none⟩)) "Pop").run Tryz.prog w=.ok (252,.pointer (some ⟨B,0,none⟩)) w:=by kernel_rfl
theorem f_len (p:Option Addr) (n c:Nat) (w:World):Calls Tryz.prog 249 #[.slice p n c] w fun e w'=>e=.returned (.int .i64 (n:Int))∧w'=w:=by
 go_enter Tryz.func249,Tryz.ntmps249
 go_wp2
 go_ret
 exact ⟨rfl,rfl⟩
set_option maxHeartbeats 4000000 in
set_option maxRecDepth 100000 in
theorem f_less (g c n i j:Nat) (x y:Int) (w:World) (hi:i < n) (hj:j < n) (cx:w.cell? ⟨g,i,none⟩=some (.int .u64 x)) (cy:w.cell? ⟨g,j,none⟩=some (.int .u64 y)) :
 Calls Tryz.prog 250 #[.slice (some ⟨g,0,none⟩) n c,.int .i64 i,.int .i64 j] w fun e w'=>e=.returned (.bool (Sort.ltInt y x))∧∃ q,w'=w.drewN q:=by
 have i1:(i:Int) < (n:Int):=by omega
 have j1:(j:Int) < (n:Int):=by omega
 go_enter Tryz.func250,Tryz.ntmps250
 go_wp2_with fail
 go_quiet (fail)
 go_wp2
 go_ret
 exact ⟨rfl,_,rfl⟩
set_option maxHeartbeats 4000000 in
set_option maxRecDepth 100000 in
theorem f_swap (g c n i j:Nat) (d:Array Int) (w:World) (hn:d.size=n) (hH:Sort.Holds (Value.int .u64) w g 0 d) (hg:g < w.heap.size) (hi:i < n) (hj:j < n) :
 Calls Tryz.prog 251 #[.slice (some ⟨g,0,none⟩) n c,.int .i64 i,.int .i64 j] w fun e w'=>e=.returned (.tuple #[])∧St w g 0 d (Sort.swp d i j) w':=by
 have i1:(i:Int) < (n:Int):=by omega
 have j1:(j:Int) < (n:Int):=by omega
 obtain ⟨G,hG,hc,hf⟩:=(St.refl hH).fam hH hg
 rw [hn] at hc hf
 have SW:=hid_mk ((St.refl hH).swap hH hg hG (j:=i) (k:=j) (by omega) (by omega) 0)
 obtain ⟨y3,hy3⟩:=cell?_setCell_some (w:=w) (p:=⟨g,0+i,none⟩) (x:=.int .u64 (G j)) (q:=⟨g,0+j,none⟩) (hc j (by omega))
 simp only [Nat.zero_add] at hc hf hy3 SW
 clear hG hH hn
 go_enter Tryz.func251,Tryz.ntmps251
 go_wp2_with fail
 go_region
 go_wp2_with fail
 go_end0
 exact ⟨rfl,SW.out.1,SW.out.2.ahead 1⟩
theorem st_cell {w w':World} {g:Nat} {d0 d:Array Int} {p:Addr} {v:Value} (h:St w g 0 d0 d w') (hc:w.cell? p=some v) (hp:p.block≠g):w'.cell? p=some v:=by
 have hl:=World.block_lt_of_cell? _ _ hc
 obtain ⟨n,os,rfl⟩:=h.2
 rw [World.cell?_of_block (w:=w) (a:=p) ?_]
 · exact hc
 · rw [Sort.heap_grow_old _ _ (by simp [Sort.putRow,Sort.mapBlock,Sort.ahead];exact hl)]
   show (w.heap.modify g _)[p.block]?=_
   rw [Array.getElem?_modify,if_neg (Ne.symm hp)]
theorem sd_end' {d:Array Int} {hi r:Nat} (h:hi≤2*r+1):Sort.siftDown Sort.ltInt hi 0 r d=d:=Sort.sd_end _ _ h
theorem sd_rs {d:Array Int} {hi r:Nat} (h:2*r+2 < hi) (h1:Sort.ltInt d[2*r+1]! d[2*r+2]! =true) (h2:Sort.ltInt d[r]! d[2*r+2]! =false):Sort.siftDown Sort.ltInt hi 0 r d=d:=by
 have:=Sort.sd_right_stop (lt:=Sort.ltInt) (hi:=hi) (F:=0) (root:=r) d h
 simp only [Nat.zero_add] at this
 exact this h1 h2
theorem sd_rg {d:Array Int} {hi r:Nat} (h:2*r+2 < hi) (h1:Sort.ltInt d[2*r+1]! d[2*r+2]! =true) (h2:Sort.ltInt d[r]! d[2*r+2]! =true):Sort.siftDown Sort.ltInt hi 0 r d=Sort.siftDown Sort.ltInt hi 0 (2*r+2) (Sort.swp d r (2*r+2)):=by
 have:=Sort.sd_right_go (lt:=Sort.ltInt) (hi:=hi) (F:=0) (root:=r) d h
 simp only [Nat.zero_add] at this
 exact this h1 h2
theorem sd_ls {d:Array Int} {hi r:Nat} (h:2*r+1 < hi) (h1:2*r+2 < hi→Sort.ltInt d[2*r+1]! d[2*r+2]! =false) (h2:Sort.ltInt d[r]! d[2*r+1]! =false):Sort.siftDown Sort.ltInt hi 0 r d=d:=by
 have:=Sort.sd_left_stop (lt:=Sort.ltInt) (hi:=hi) (F:=0) (root:=r) d h
 simp only [Nat.zero_add] at this
 exact this h1 h2
theorem sd_lg {d:Array Int} {hi r:Nat} (h:2*r+1 < hi) (h1:2*r+2 < hi→Sort.ltInt d[2*r+1]! d[2*r+2]! =false) (h2:Sort.ltInt d[r]! d[2*r+1]! =true):Sort.siftDown Sort.ltInt hi 0 r d=Sort.siftDown Sort.ltInt hi 0 (2*r+1) (Sort.swp d r (2*r+1)):=by
 have:=Sort.sd_left_go (lt:=Sort.ltInt) (hi:=hi) (F:=0) (root:=r) d h
 simp only [Nat.zero_add] at this
 exact this h1 h2
theorem f_less_at (g c n:Nat) {i j:Int} (ni nj:Nat) (ei:(ni:Int)=i) (ej:(nj:Int)=j) {x y:Int} (b:Bool) (w:World) (hi:ni < n) (hj:nj < n) (cx:w.cell? ⟨g,ni,none⟩=some (.int .u64 x)) (cy:w.cell? ⟨g,nj,none⟩=some (.int .u64 y)) (hb:Sort.ltInt y x=b) :
 Calls Tryz.prog 250 #[.slice (some ⟨g,0,none⟩) n c,.int .i64 i,.int .i64 j] w fun e w'=>e=.returned (.bool b)∧∃ q,w'=w.drewN q:=by
 subst ei ej hb
 exact f_less g c n ni nj x y w hi hj cx cy
theorem f_swap_at (g c n:Nat) {i j:Int} (ni nj:Nat) (ei:(ni:Int)=i) (ej:(nj:Int)=j) (d:Array Int) (w:World) (hn:d.size=n) (hH:Sort.Holds (Value.int .u64) w g 0 d) (hg:g < w.heap.size) (hi:ni < n) (hj:nj < n) :
 Calls Tryz.prog 251 #[.slice (some ⟨g,0,none⟩) n c,.int .i64 i,.int .i64 j] w fun e w'=>e=.returned (.tuple #[])∧St w g 0 d (Sort.swp d ni nj) w':=by
 subst ei ej
 exact f_swap g c n ni nj d w hn hH hg hi hj
set_option maxHeartbeats 8000000 in
set_option maxRecDepth 100000 in
theorem h_down (B g c n i hi:Nat) (d:Array Int) (hn:d.size=n) (w:World) (hB:w.cell? ⟨B,0,none⟩=some (.slice (some ⟨g,0,none⟩) n c)) (hne:B≠g) (hH:Sort.Holds (Value.int .u64) w g 0 d) (hg:g < w.heap.size) (hhi:hi≤n) (hsz:n≤1000000) (hi0:i≤hi) :
 Calls Tryz.prog 161 #[.iface 162 (.pointer (some ⟨B,0,none⟩)),.int .i64 i,.int .i64 hi] w fun e w'=>(∃ b,e=.returned (.bool b))∧St w g 0 d (Sort.siftDown Sort.ltInt hi 0 i d) w':=by
 have H0:Hid (Sort.Holds (Value.int .u64) w g 0 d):=hH
 have HN:Hid (d.size=n):=hn
 have HB:Hid _:=hB
 clear hH hn hB
 go_enter Tryz.func161,Tryz.ntmps161
 go_wp2_with fail
 go_loopw [7] (fun v7 wr=>∃ (r:Nat) (dk:Array Int),v7=.int .i64 r∧r≤hi∧Hid (St w g 0 d dk wr∧Sort.siftDown Sort.ltInt hi 0 r dk=Sort.siftDown Sort.ltInt hi 0 i d)) (fun v7 _=>hi - (intOf v7).toNat)
 case atStart=>exact ⟨i,d,rfl,hi0,St.refl H0.out,rfl⟩
 case round =>
  obtain ⟨r,dk,rfl,hr,hS⟩:=hrel
  have cB:=st_cell hS.out.1 HB.out hne
  by_cases h0:hi≤2*r+1
  · have e0:(hi:Int)≤2*(r:Int)+1:=by omega
    have HR:Hid (St w g 0 d (Sort.siftDown Sort.ltInt hi 0 i d) wr):=by
     refine hid_mk ?_
     rw [← hS.out.2,sd_end' h0];exact hS.out.1
    clear hS
    go_wp2
    go_ret
    exact ⟨⟨_,rfl⟩,HR.out⟩
  · have e0:decide ((hi:Int)≤2*(r:Int)+1)=false:=df (by omega)
    have e1:decide (2*(r:Int)+1 < 0)=false:=df (by omega)
    have hds:Hid (dk.size=n):=by refine hid_mk ?_;rw [hS.out.1.1,HN.out]
    have hh:=hS.out.1.hold H0.out hg
    have HH:=hid_mk hh
    obtain ⟨G,hG,hcw,-⟩:=hS.out.1.fam H0.out hg
    rw [HN.out] at hcw
    simp only [Nat.zero_add] at hcw
    have HG:Hid (∀ t,G t=dk[t]!):=hG
    have CW:Hid _:=hcw
    have SS:=hid_mk hS.out.1
    have ED:=hid_mk hS.out.2
    clear hG hcw hh hS
    have mL:=m_less B wr _ cB
    by_cases h1:2*r+2 < hi
    · have e2:2*(r:Int)+1+1 < (hi:Int):=by omega
      cases hL:Sort.ltInt (G (2*r+1)) (G (2*r+2))
      · have LA:=hid_mk (f_less_at g c n (2*r+2) (2*r+1) (i:=2*(r:Int)+1+1) (j:=2*(r:Int)+1) (by omega) (by omega) false wr (by omega) (by omega) (CW.out _ (by omega)) (CW.out _ (by omega)) hL)
        go_wp2_with fail
        refine LA.out.mono ?_
        rintro e w2 ⟨rfl,q2,rfl⟩
        have S2:=hid_mk (SS.out.drawn q2)
        have C2:Hid (∀ t,t < n→(wr.drewN q2).cell? ⟨g,t,none⟩=some (.int .u64 (G t))):=CW
        have H2:Hid (Sort.Holds (Value.int .u64) (wr.drewN q2) g 0 dk∧g < (wr.drewN q2).heap.size):=HH
        have cB2:(wr.drewN q2).cell? ⟨B,0,none⟩=some (.slice (some ⟨g,0,none⟩) n c):=cB
        clear LA mL SS CW HH cB
        generalize wr.drewN q2=wr2 at *
        have SS:=S2
        have CW:=C2
        have HH:=H2
        have cB:=cB2
        clear S2 C2 H2 cB2
        have mL:=m_less B wr2 _ cB
        go_wp2_with fail
        cases hM:Sort.ltInt (G r) (G (2*r+1))
        · have LB:=hid_mk (f_less_at g c n (2*r+1) r (i:=2*(r:Int)+1) (j:=(r:Int)) (by omega) rfl false wr2 (by omega) (by omega) (CW.out (2*r+1) (by omega)) (CW.out r (by omega)) hM)
          refine LB.out.mono ?_
          clear LB
          rintro e w3 ⟨rfl,q3,rfl⟩
          have HR:=hid_mk (show St w g 0 d (Sort.siftDown Sort.ltInt hi 0 i d) (wr2.drewN q3) by rw [← ED.out,sd_ls (by omega) (fun _=>by rw [← HG.out,← HG.out];exact hL) (by rw [← HG.out,← HG.out];exact hM)];exact SS.out.drawn q3)
          clear SS CW HH hM
          go_wp2
          go_ret
          exact ⟨⟨_,rfl⟩,HR.out⟩
        · have LB:=hid_mk (f_less_at g c n (2*r+1) r (i:=2*(r:Int)+1) (j:=(r:Int)) (by omega) rfl true wr2 (by omega) (by omega) (CW.out (2*r+1) (by omega)) (CW.out r (by omega)) hM)
          refine LB.out.mono ?_
          clear LB
          rintro e w3 ⟨rfl,q3,rfl⟩
          have mS:=m_swap B (wr2.drewN q3) _ cB
          have S3:=hid_mk (SS.out.drawn q3)
          have SW:=hid_mk (f_swap_at g c n r (2*r+1) (i:=(r:Int)) (j:=2*(r:Int)+1) rfl (by omega) dk (wr2.drewN q3) hds.out (S3.out.hold H0.out hg).1 (S3.out.hold H0.out hg).2 (by omega) (by omega))
          have GO:Hid (Sort.siftDown Sort.ltInt hi 0 r dk=Sort.siftDown Sort.ltInt hi 0 (2*r+1) (Sort.swp dk r (2*r+1))):=hid_mk (sd_lg (by omega) (fun _=>by rw [← HG.out,← HG.out];exact hL) (by rw [← HG.out,← HG.out];exact hM))
          clear SS CW HH hM
          generalize wr2.drewN q3=w4 at *
          go_wp2_with fail
          refine SW.out.mono ?_
          rintro e w5 ⟨rfl,h5⟩
          have S5:=hid_mk (S3.out.trans hg h5)
          clear h5 SW S3 mS
          go_wp2_with fail
          go_roundw
          case rel=>exact ⟨2*r+1,_,by congr 1 <;>omega,by omega,S5.out,by rw [← GO.out];exact ED.out⟩
          case measure=>simp [intOf];omega
      · have LA:=hid_mk (f_less_at g c n (2*r+2) (2*r+1) (i:=2*(r:Int)+1+1) (j:=2*(r:Int)+1) (by omega) (by omega) true wr (by omega) (by omega) (CW.out _ (by omega)) (CW.out _ (by omega)) hL)
        go_wp2_with fail
        refine LA.out.mono ?_
        rintro e w2 ⟨rfl,q2,rfl⟩
        have S2:=hid_mk (SS.out.drawn q2)
        have C2:Hid (∀ t,t < n→(wr.drewN q2).cell? ⟨g,t,none⟩=some (.int .u64 (G t))):=CW
        have H2:Hid (Sort.Holds (Value.int .u64) (wr.drewN q2) g 0 dk∧g < (wr.drewN q2).heap.size):=HH
        have cB2:(wr.drewN q2).cell? ⟨B,0,none⟩=some (.slice (some ⟨g,0,none⟩) n c):=cB
        clear LA mL SS CW HH cB
        generalize wr.drewN q2=wr2 at *
        have SS:=S2
        have CW:=C2
        have HH:=H2
        have cB:=cB2
        clear S2 C2 H2 cB2
        have mL:=m_less B wr2 _ cB
        go_wp2_with fail
        cases hM:Sort.ltInt (G r) (G (2*r+2))
        · have LB:=hid_mk (f_less_at g c n (2*r+2) r (i:=2*(r:Int)+1+1) (j:=(r:Int)) (by omega) rfl false wr2 (by omega) (by omega) (CW.out (2*r+2) (by omega)) (CW.out r (by omega)) hM)
          refine LB.out.mono ?_
          clear LB
          rintro e w3 ⟨rfl,q3,rfl⟩
          have HR:=hid_mk (show St w g 0 d (Sort.siftDown Sort.ltInt hi 0 i d) (wr2.drewN q3) by rw [← ED.out,sd_rs h1 (by rw [← HG.out,← HG.out];exact hL) (by rw [← HG.out,← HG.out];exact hM)];exact SS.out.drawn q3)
          clear SS CW HH hM
          go_wp2
          go_ret
          exact ⟨⟨_,rfl⟩,HR.out⟩
        · have LB:=hid_mk (f_less_at g c n (2*r+2) r (i:=2*(r:Int)+1+1) (j:=(r:Int)) (by omega) rfl true wr2 (by omega) (by omega) (CW.out (2*r+2) (by omega)) (CW.out r (by omega)) hM)
          refine LB.out.mono ?_
          clear LB
          rintro e w3 ⟨rfl,q3,rfl⟩
          have mS:=m_swap B (wr2.drewN q3) _ cB
          have S3:=hid_mk (SS.out.drawn q3)
          have SW:=hid_mk (f_swap_at g c n r (2*r+2) (i:=(r:Int)) (j:=2*(r:Int)+1+1) rfl (by omega) dk (wr2.drewN q3) hds.out (S3.out.hold H0.out hg).1 (S3.out.hold H0.out hg).2 (by omega) (by omega))
          have GO:Hid (Sort.siftDown Sort.ltInt hi 0 r dk=Sort.siftDown Sort.ltInt hi 0 (2*r+2) (Sort.swp dk r (2*r+2))):=hid_mk (sd_rg h1 (by rw [← HG.out,← HG.out];exact hL) (by rw [← HG.out,← HG.out];exact hM))
          clear SS CW HH hM
          generalize wr2.drewN q3=w4 at *
          go_wp2_with fail
          refine SW.out.mono ?_
          rintro e w5 ⟨rfl,h5⟩
          have S5:=hid_mk (S3.out.trans hg h5)
          clear h5 SW S3 mS
          go_wp2_with fail
          go_roundw
          case rel=>exact ⟨2*r+2,_,by congr 1 <;>omega,by omega,S5.out,by rw [← GO.out];exact ED.out⟩
          case measure=>simp [intOf];omega
    · have e2:decide (2*(r:Int)+1+1 < (hi:Int))=false:=df (by omega)
      go_wp2_with fail
      cases hM:Sort.ltInt (G r) (G (2*r+1))
      · have LB:=hid_mk (f_less_at g c n (2*r+1) r (i:=2*(r:Int)+1) (j:=(r:Int)) (by omega) rfl false wr (by omega) (by omega) (CW.out (2*r+1) (by omega)) (CW.out r (by omega)) hM)
        refine LB.out.mono ?_
        clear LB
        rintro e w3 ⟨rfl,q3,rfl⟩
        have HR:=hid_mk (show St w g 0 d (Sort.siftDown Sort.ltInt hi 0 i d) (wr.drewN q3) by rw [← ED.out,sd_ls (by omega) (fun h=>absurd h h1) (by rw [← HG.out,← HG.out];exact hM)];exact SS.out.drawn q3)
        clear SS CW HH hM
        go_wp2
        go_ret
        exact ⟨⟨_,rfl⟩,HR.out⟩
      · have LB:=hid_mk (f_less_at g c n (2*r+1) r (i:=2*(r:Int)+1) (j:=(r:Int)) (by omega) rfl true wr (by omega) (by omega) (CW.out (2*r+1) (by omega)) (CW.out r (by omega)) hM)
        refine LB.out.mono ?_
        clear LB
        rintro e w3 ⟨rfl,q3,rfl⟩
        have mS:=m_swap B (wr.drewN q3) _ cB
        have S3:=hid_mk (SS.out.drawn q3)
        have SW:=hid_mk (f_swap_at g c n r (2*r+1) (i:=(r:Int)) (j:=2*(r:Int)+1) rfl (by omega) dk (wr.drewN q3) hds.out (S3.out.hold H0.out hg).1 (S3.out.hold H0.out hg).2 (by omega) (by omega))
        have GO:Hid (Sort.siftDown Sort.ltInt hi 0 r dk=Sort.siftDown Sort.ltInt hi 0 (2*r+1) (Sort.swp dk r (2*r+1))):=hid_mk (sd_lg (by omega) (fun h=>absurd h h1) (by rw [← HG.out,← HG.out];exact hM))
        clear SS CW HH hM
        generalize wr.drewN q3=w4 at *
        go_wp2_with fail
        refine SW.out.mono ?_
        rintro e w5 ⟨rfl,h5⟩
        have S5:=hid_mk (S3.out.trans hg h5)
        clear h5 SW S3 mS
        go_wp2_with fail
        go_roundw
        case rel=>exact ⟨2*r+1,_,by congr 1 <;>omega,by omega,S5.out,by rw [← GO.out];exact ED.out⟩
        case measure=>simp [intOf];omega
theorem half_back (j:Nat):((j:Int) - 1).tdiv 2=(((j - 1) / 2:Nat):Int):=by
 by_cases h:j=0
 · subst h;decide
 · rw [Int.tdiv_eq_ediv_of_nonneg (by omega)];omega
theorem half_of (n:Nat):(n:Int).tdiv 2=((n / 2:Nat):Int):=by rw [Int.tdiv_eq_ediv_of_nonneg (by omega)];omega
set_option maxHeartbeats 8000000 in
set_option maxRecDepth 100000 in
theorem h_up (B g c n j:Nat) (d:Array Int) (hn:d.size=n) (w:World) (hB:w.cell? ⟨B,0,none⟩=some (.slice (some ⟨g,0,none⟩) n c)) (hne:B≠g) (hH:Sort.Holds (Value.int .u64) w g 0 d) (hg:g < w.heap.size) (hj:j < n) (hsz:n≤1000000) :
 Calls Tryz.prog 164 #[.iface 162 (.pointer (some ⟨B,0,none⟩)),.int .i64 j] w fun e w'=>e=.returned (.tuple #[])∧St w g 0 d (siftUp j d) w':=by
 have H0:Hid (Sort.Holds (Value.int .u64) w g 0 d):=hH
 have HN:Hid (d.size=n):=hn
 have HB:Hid _:=hB
 clear hH hn hB
 go_enter Tryz.func164,Tryz.ntmps164
 go_wp2_with fail
 go_loopw [1] (fun v1 wr=>∃ (k:Nat) (dk:Array Int),v1=.int .i64 k∧k < n∧Hid (St w g 0 d dk wr∧siftUp k dk=siftUp j d)) (fun v1 _=>(intOf v1).toNat)
 case atStart=>exact ⟨j,d,rfl,hj,St.refl H0.out,rfl⟩
 case round =>
  obtain ⟨k,dk,rfl,hk,hS⟩:=hrel
  have cB:=st_cell hS.out.1 HB.out hne
  have et:=half_back k
  obtain ⟨m,hm⟩:∃ m,(k - 1) / 2=m:=⟨_,rfl⟩
  rw [hm] at et
  by_cases h0:k=0
  · have e0:((m:Int) == (k:Int))=true:=by simp;omega
    have hmk:m≤k:=by omega
    have hmk2:(m:Int)≤1000000:=by omega
    have HR:Hid (St w g 0 d (siftUp j d) wr):=by
     refine hid_mk ?_
     rw [← hS.out.2,h0,siftUp_zero];exact hS.out.1
    clear hS h0 hm
    go_wp2
    go_end0
    exact ⟨rfl,HR.out⟩
  · have e0:((m:Int) == (k:Int))=false:=by simp;omega
    have hmk:m < k:=by omega
    have hds:Hid (dk.size=n):=by refine hid_mk ?_;rw [hS.out.1.1,HN.out]
    have HH:=hid_mk (hS.out.1.hold H0.out hg)
    obtain ⟨G,hG,hcw,-⟩:=hS.out.1.fam H0.out hg
    rw [HN.out] at hcw
    simp only [Nat.zero_add] at hcw
    have HG:Hid (∀ t,G t=dk[t]!):=hG
    have CW:Hid _:=hcw
    have SS:=hid_mk hS.out.1
    have ED:=hid_mk hS.out.2
    have HM:=hid_mk hm
    clear hG hcw hS hm
    have mL:=m_less B wr _ cB
    go_wp2_with fail
    cases hM:Sort.ltInt (G m) (G k)
    · have LB:=hid_mk (f_less_at g c n k m (i:=(k:Int)) (j:=(m:Int)) rfl rfl false wr (by omega) (by omega) (CW.out k (by omega)) (CW.out m (by omega)) hM)
      refine LB.out.mono ?_
      clear LB
      rintro e w3 ⟨rfl,q3,rfl⟩
      have HR:=hid_mk (show St w g 0 d (siftUp j d) (wr.drewN q3) by rw [← ED.out,siftUp_stop (by rw [HM.out,← HG.out,← HG.out];exact hM)];exact SS.out.drawn q3)
      clear SS CW HH hM
      go_wp2
      go_end0
      exact ⟨rfl,HR.out⟩
    · have LB:=hid_mk (f_less_at g c n k m (i:=(k:Int)) (j:=(m:Int)) rfl rfl true wr (by omega) (by omega) (CW.out k (by omega)) (CW.out m (by omega)) hM)
      refine LB.out.mono ?_
      clear LB
      rintro e w3 ⟨rfl,q3,rfl⟩
      have mS:=m_swap B (wr.drewN q3) _ cB
      have S3:=hid_mk (SS.out.drawn q3)
      have SW:=hid_mk (f_swap_at g c n m k (i:=(m:Int)) (j:=(k:Int)) rfl rfl dk (wr.drewN q3) hds.out (S3.out.hold H0.out hg).1 (S3.out.hold H0.out hg).2 (by omega) (by omega))
      have GO:Hid (siftUp k dk=siftUp m (Sort.swp dk m k)):=hid_mk (by rw [siftUp_go (by omega) (by rw [HM.out,← HG.out,← HG.out];exact hM),HM.out])
      clear SS CW HH hM
      generalize wr.drewN q3=w4 at *
      go_wp2_with fail
      refine SW.out.mono ?_
      rintro e w5 ⟨rfl,h5⟩
      have S5:=hid_mk (S3.out.trans hg h5)
      clear h5 SW S3 mS
      go_wp2_with fail
      go_roundw
      case rel=>exact ⟨m,_,rfl,by omega,S5.out,by rw [← GO.out];exact ED.out⟩
      case measure=>simp [intOf];omega
theorem h_down_at (B g c n:Nat) {x:Int} (i hi:Nat) (ei:(i:Int)=x) (d:Array Int) (hn:d.size=n) (w:World) (hB:w.cell? ⟨B,0,none⟩=some (.slice (some ⟨g,0,none⟩) n c)) (hne:B≠g) (hH:Sort.Holds (Value.int .u64) w g 0 d) (hg:g < w.heap.size) (hhi:hi≤n) (hsz:n≤1000000) (hi0:i≤hi) :
 Calls Tryz.prog 161 #[.iface 162 (.pointer (some ⟨B,0,none⟩)),.int .i64 x,.int .i64 hi] w fun e w'=>(∃ b,e=.returned (.bool b))∧St w g 0 d (Sort.siftDown Sort.ltInt hi 0 i d) w':=by
 subst ei
 exact h_down B g c n i hi d hn w hB hne hH hg hhi hsz hi0
set_option maxHeartbeats 8000000 in
set_option maxRecDepth 100000 in
theorem h_init (B g c n:Nat) (d:Array Int) (hn:d.size=n) (w:World) (hB:w.cell? ⟨B,0,none⟩=some (.slice (some ⟨g,0,none⟩) n c)) (hne:B≠g) (hH:Sort.Holds (Value.int .u64) w g 0 d) (hg:g < w.heap.size) (hsz:n≤1000000) :
 Calls Tryz.prog 112 #[.iface 162 (.pointer (some ⟨B,0,none⟩))] w fun e w'=>e=.returned (.tuple #[])∧St w g 0 d (Sort.heapBuild Sort.ltInt n 0 (n / 2) d) w':=by
 have H0:Hid (Sort.Holds (Value.int .u64) w g 0 d):=hH
 have HN:Hid (d.size=n):=hn
 have HB:Hid _:=hB
 have mN:=m_len B w _ hB
 have et:=half_of n
 obtain ⟨h,hh⟩:∃ h,n / 2=h:=⟨_,rfl⟩
 rw [hh] at et
 have hh0:h≤n:=by omega
 have HHn:=hid_mk hh
 clear hH hn hB hh
 go_enter Tryz.func112,Tryz.ntmps112
 go_wp2_with fail
 refine (f_len _ _ _ _).mono ?_
 rintro e w1 ⟨rfl,rfl⟩
 go_wp2_with fail
 go_loopw [3] (fun v3 wr=>∃ (k:Nat) (dk:Array Int),v3=.int .i64 ((k:Int) - 1)∧k≤h∧Hid (St w1 g 0 d dk wr∧Sort.heapBuild Sort.ltInt n 0 k dk=Sort.heapBuild Sort.ltInt n 0 (n / 2) d)) (fun v3 _=>(intOf v3+1).toNat)
 case atStart=>exact ⟨h,d,rfl,Nat.le_refl _,St.refl H0.out,by rw [HHn.out]⟩
 case round =>
  obtain ⟨k,dk,rfl,hk,hS⟩:=hrel
  have cB:=st_cell hS.out.1 HB.out hne
  cases k with
  | zero =>
   have HR:Hid (St w1 g 0 d (Sort.heapBuild Sort.ltInt n 0 (n / 2) d) wr):=by
    refine hid_mk ?_
    rw [← hS.out.2];exact hS.out.1
   clear hS
   go_wp2
   go_end0
   exact ⟨rfl,HR.out⟩
  | succ k =>
   have hds:dk.size=n:=by rw [hS.out.1.1,HN.out]
   have hh2:=hS.out.1.hold H0.out hg
   have ek:(k:Int)=((k+1:Nat):Int) - 1:=by omega
   have DN:=hid_mk (h_down_at B g c n (x:=((k+1:Nat):Int) - 1) k n ek dk hds wr cB hne hh2.1 hh2.2 (Nat.le_refl _) hsz (by omega))
   have e0:(0:Int)≤((k+1:Nat):Int) - 1:=by omega
   have SS:=hid_mk hS.out.1
   have ED:=hid_mk (show Sort.heapBuild Sort.ltInt n 0 k (Sort.siftDown Sort.ltInt n 0 k dk)=_ from hS.out.2)
   clear hS hds hh2 ek
   obtain ⟨x,hx⟩:∃ x,((k+1:Nat):Int) - 1=x:=⟨_,rfl⟩
   rw [hx] at DN e0 ⊢
   go_wp2_with fail
   refine DN.out.mono ?_
   rintro e w2 ⟨⟨b,rfl⟩,h2⟩
   have S2:=hid_mk (SS.out.trans hg h2)
   clear h2 DN SS cB
   go_wp2_with fail
   go_roundw
   case rel=>exact ⟨k,_,by congr 1;omega,by omega,S2.out,ED.out⟩
   case measure=>simp [intOf];omega
structure But (a b:Nat) (w w':World):Prop where
 os:w'.os=w.os
 tape:w'.tape=w.tape
 output:w'.output=w.output
 size:w.heap.size≤w'.heap.size
 block:∀ k,k < w.heap.size→k≠a→k≠b→w'.heap[k]?=w.heap[k]?
theorem But.refl (a b:Nat) (w:World):But a b w w:=⟨rfl,rfl,rfl,Nat.le_refl _,fun _ _ _ _=>rfl⟩
theorem But.trans {a b b':Nat} {u v w:World} (h:But a b u v) (k:But a b' v w) (hb:b'=b∨u.heap.size≤b'):But a b u w :=
 ⟨k.os.trans h.os,k.tape.trans h.tape,k.output.trans h.output,Nat.le_trans h.size k.size,fun i hi ha hib=>by
   rw [k.block i (Nat.lt_of_lt_of_le hi h.size) ha (by omega),h.block i hi ha hib]⟩
theorem But.cell {a b:Nat} {w w':World} (h:But a b w w') {p:Addr} {v:Value} (hc:w.cell? p=some v) (h1:p.block≠a) (h2:p.block≠b):w'.cell? p=some v :=
 (World.cell?_of_block (h.block p.block (World.block_lt_of_cell? _ _ hc) h1 h2)).trans hc
theorem But.below {a b B:Nat} {w w':World} (h:But a b w w') (ha:B≤a) (hb:B≤b) (hB:B≤w.heap.size):Below B w w':=⟨h.os,h.tape,h.output,h.size,fun k hk=>h.block k (by omega) (by omega) (by omega)⟩
theorem But.own {a b:Nat} {w w':World} (h:But a b w w') {base:Nat} {e:TypeId} {size:Nat} {v:Value} {n:Nat} {xs:List Value} (ho:w.ownsRow base e size v n xs) (h1:v.ownBlock≠some a) (h2:v.ownBlock≠some b):w'.ownsRow base e size v n xs:=by
 refine ⟨ho.1,?_⟩
 rcases ho.2 with hn | ⟨g,cap,cur,rfl,hb,hgg,rest⟩
 · exact .inl hn
 · refine .inr ⟨g,cap,cur,rfl,hb,?_,rest⟩
   rw [h.block g (Array.getElem?_eq_some_iff.1 hgg).1 (fun e=>h1 (by rw [e];rfl)) (fun e=>h2 (by rw [e];rfl))]
   exact hgg
theorem But.set {a b:Nat} {u w:World} (h:But a b u w) {p:Addr} (v:Value) (hp:p.block=a∨p.block=b):But a b u (w.setCell p v):=by
 refine ⟨h.os,h.tape,h.output,by simpa using h.size,fun k hk h1 h2=>?_⟩
 rw [Below.heap_setCell _ _ _ _ (by rcases hp with hp | hp <;>omega)]
 exact h.block k hk h1 h2
theorem st_but {w w':World} {a g:Nat} {d0 d:Array Int} (h:St w g 0 d0 d w'):But a g w w':=by
 obtain ⟨n,os,rfl⟩:=h.2
 refine ⟨rfl,rfl,rfl,by simp [Sort.grow,Sort.putRow,Sort.mapBlock,Sort.ahead],fun k hk _ h2=>?_⟩
 rw [Sort.heap_grow_old _ _ (by simp [Sort.putRow,Sort.mapBlock,Sort.ahead];exact hk)]
 show (w.heap.modify g _)[k]?=_
 rw [Array.getElem?_modify,if_neg (Ne.symm h2)]
theorem st_own {w w':World} {base g c n:Nat} {d d':Array Int} (hn:d.size=n) (ho:w.ownsRow base 35 1 (.slice (some ⟨g,0,none⟩) n c) n (vals d.toList)) (h:St w g 0 d d' w'):w'.ownsRow base 35 1 (.slice (some ⟨g,0,none⟩) n c) n (vals d'.toList):=by
 have hH:Sort.Holds (Value.int .u64) w g 0 d:=by have:=own_holds ho;simpa using this
 have hg:=(ho.lt g rfl).2
 have hH':=(h.hold hH hg).1
 have hs:d'.size=n:=by rw [h.1,hn]
 refine ⟨by rw [vals_len];simp [hs],.inr ?_⟩
 rcases ho.2 with ⟨e,_⟩ | ⟨g2,c2,cur,e,hb,hgg,h1,h2,h3,h4⟩
 · cases e
 simp only [Value.slice.injEq,Option.some.injEq,Addr.mk.injEq,and_true,true_and] at e
 obtain ⟨rfl,rfl⟩:=e
 obtain ⟨c',e1,e2⟩:=tag_st hg h _ _ _ hgg
 refine ⟨g,c,c',rfl,hb,e2,h1,h2,by rw [e1];exact h3,?_⟩
 refine List.ext_getElem? fun j=>?_
 rw [Nat.mul_one,List.getElem?_take]
 by_cases hj:j < n
 · rw [if_pos hj]
   have h8:=(hH' j (by omega)).1
   rw [cell_of_row w' g (0+j) c' 35 (0,0) e2,Nat.zero_add] at h8
   rw [Array.getElem?_toList,h8,vals_at _ j (by simpa [hs] using hj),getElem!_pos d' j (by omega)]
   simp
 · rw [if_neg hj,List.getElem?_eq_none (by rw [vals_len];simp [hs];omega)]
theorem own_prefix {w:World} {base g c n m:Nat} {L:List Int} (ho:w.ownsRow base 35 1 (.slice (some ⟨g,0,none⟩) n c) n (vals L)) (hm:m≤n):w.ownsRow base 35 1 (.slice (some ⟨g,0,none⟩) m c) m (vals (L.take m)):=by
 have hl:L.length=n:=by have:=ho.1;rw [vals_len] at this;omega
 rcases ho.2 with ⟨e,_⟩ | ⟨g2,c2,cur,e,hb,hgg,h1,h2,h3,h4⟩
 · cases e
 simp only [Value.slice.injEq,Option.some.injEq,Addr.mk.injEq,and_true,true_and] at e
 obtain ⟨rfl,rfl⟩:=e
 refine ⟨by rw [vals_len,List.length_take];omega,.inr ⟨g,c,cur,rfl,hb,hgg,by omega,h2,h3,?_⟩⟩
 rw [Nat.mul_one] at h4 ⊢
 have e:vals (L.take m)=(vals L).take m:=by unfold vals;rw [List.map_take]
 rw [e,← h4,List.take_take,Nat.min_eq_left hm]
def Hat (w:World) (base B g c:Nat) (L:List Int):Prop :=
 w.cell? ⟨B,0,none⟩=some (.slice (some ⟨g,0,none⟩) L.length c)∧w.frozen? ⟨B,0,none⟩=false∧B≠g∧w.ownsRow base 35 1 (.slice (some ⟨g,0,none⟩) L.length c) L.length (vals L)
theorem Hat.lt {w:World} {base B g c:Nat} {L:List Int} (h:Hat w base B g c L):g < w.heap.size∧base≤g∧B < w.heap.size:=⟨(h.2.2.2.lt g rfl).2,(h.2.2.2.lt g rfl).1,World.block_lt_of_cell? _ _ h.1⟩
theorem Hat.holds {w:World} {base B g c:Nat} {L:List Int} (h:Hat w base B g c L):Sort.Holds (Value.int .u64) w g 0 L.toArray:=own_holds h.2.2.2
theorem Hat.st {w w':World} {base B g c n:Nat} {L:List Int} {d:Array Int} (h:Hat w base B g c L) (hn:L.length=n) (hs:St w g 0 L.toArray d w'):Hat w' base B g c d.toList∧d.toList.length=n:=by
 have e:d.size=L.length:=by rw [hs.1];simp
 have hb:=st_but (a:=g) hs
 have hl:=World.block_lt_of_cell? _ _ h.1
 refine ⟨⟨?_,?_,h.2.2.1,?_⟩,by simp [e,hn]⟩
 · have:=st_cell hs h.1 h.2.2.1
   rw [this];simp [e]
 · rw [World.frozen?_of_block (hb.block B hl h.2.2.1 h.2.2.1)];exact h.2.1
 · have:=st_own (n:=L.length) (by simp) (by simpa using h.2.2.2) hs
   simpa [e] using this
theorem Hat.keep {w w':World} {base B g c:Nat} {L:List Int} (h:Hat w base B g c L) (hb:Below w.heap.size w w'):Hat w' base B g c L :=
 ⟨keepCell hb h.1,keepFrozen hb h.1 h.2.1,h.2.2.1,own_keep hb h.2.2.2⟩
set_option maxHeartbeats 8000000 in
set_option maxRecDepth 100000 in
theorem f_pop (base B g c m:Nat) (L:List Int) (x:Int) (hL:L.length=m+1) (w:World) (h:Hat w base B g c L) (hx:L[m]'(by omega)=x) (hsz:m≤1000000) :
 Calls Tryz.prog 252 #[.pointer (some ⟨B,0,none⟩)] w fun e w'=>e=.returned (.iface 35 (.int .u64 x))∧Hat w' base B g c (L.take m)∧But B g w w':=by
 have hB:=h.1
 have hF:=h.2.1
 have hc:=(own_cells h.2.2.2).2.1 m (by omega)
 rw [hx] at hc
 rw [hL] at hB
 have hle:m+1≤c:=by
  rcases h.2.2.2.2 with ⟨e,_⟩ | ⟨g2,c2,cur,e,_,_,h1,_⟩
  · cases e
  · simp only [Value.slice.injEq,true_and] at e
    rw [e.2,← hL];exact h1
 have HH:=hid_mk h
 have HL:=hid_mk hL
 clear h hL hx
 have e1:((m+1:Nat):Int) - 1=(m:Int):=by omega
 go_enter Tryz.func252,Tryz.ntmps252
 go_wp2
 go_ret
 have hl:(L.take m).length=m:=by rw [List.length_take];have:=HL.out;omega
 refine ⟨rfl,⟨?_,?_,HH.out.2.2.1,?_⟩,(But.refl _ _ _).set _ (.inl rfl)⟩
 · rw [hl];go_simp
 · go_simp
 · rw [hl]
   have hne:=HH.out.2.2.1
   refine But.own (a:=B) (b:=B) ((But.refl _ _ _).set _ (.inl rfl)) (own_prefix (by have:=HH.out.2.2.2;rw [HL.out] at this;exact this) (by omega)) (fun e=>hne (by simpa [Value.ownBlock,eq_comm] using e)) (fun e=>hne (by simpa [Value.ownBlock,eq_comm] using e))
set_option maxHeartbeats 8000000 in
set_option maxRecDepth 100000 in
theorem h_pop (base B g c m:Nat) (L:List Int) (hL:L.length=m+1) (w:World) (h:Hat w base B g c L) (hp:Hp (m+1) L.toArray) (hsz:m+1≤1000000) :
 Calls Tryz.prog 179 #[.iface 162 (.pointer (some ⟨B,0,none⟩))] w fun e w'=>∃ (x:Int) (L':List Int),e=.returned (.iface 35 (.int .u64 x))∧L.Perm (x :: L')∧(∀ y∈L',y≤x)∧L'.length=m∧Hp m L'.toArray∧Hat w' base B g c L'∧But B g w w':=by
 have hs:L.toArray.size=m+1:=by simp [hL]
 have P:=hp_pop hp hs
 have hmax:=hp_max hp hs
 obtain ⟨x,hx⟩:∃ x,L.toArray[0]! =x:=⟨_,rfl⟩
 rw [hx] at P hmax
 clear hx
 have hB:=h.1
 rw [hL] at hB
 have hl:=h.lt
 have hne:=h.2.2.1
 have mN:=m_len B w _ hB
 have mS:=m_swap B w _ hB
 have SW:=hid_mk (f_swap_at g c (m+1) (i:=0) (j:=(m:Int)) 0 m rfl rfl L.toArray w hs h.holds hl.1 (by omega) (by omega))
 have HH:=hid_mk h
 have HL:=hid_mk hL
 have HP:=hid_mk P
 have HM:=hid_mk hmax
 have e1:((m+1:Nat):Int) - 1=(m:Int):=by omega
 clear h hL hp P hmax
 go_enter Tryz.func179,Tryz.ntmps179
 go_wp2_with fail
 refine (f_len _ _ _ _).mono ?_
 rintro e w0 ⟨rfl,rfl⟩
 go_wp2_with fail
 refine SW.out.mono ?_
 rintro e w1 ⟨rfl,h1⟩
 have hH1:=HH.out.st HL.out h1
 have hb1:=st_but (a:=B) h1
 have hl1:=hH1.1.lt
 have DN:=hid_mk (h_down B g c (m+1) 0 m (Sort.swp L.toArray 0 m) (by rw [Sort.size_swp];simp [HL.out]) w1 (by have:=hH1.1.1;rwa [hH1.2] at this) hne (by have:=hH1.1.holds;simpa using this) hl1.1 (by omega) hsz (Nat.zero_le _))
 have hH1':=hid_mk hH1
 have hb1':=hid_mk hb1
 clear SW h1 mN mS hB hH1 hb1 hl1
 go_wp2_with fail
 refine DN.out.mono ?_
 rintro e w2 ⟨⟨b,rfl⟩,h2⟩
 have h2':St w1 g 0 (Sort.swp L.toArray 0 m).toList.toArray (popD m L.toArray) w2:=by simpa [popD] using h2
 have hH2:=hH1'.out.1.st hH1'.out.2 h2'
 have hb2:=hid_mk (hb1'.out.trans (st_but (a:=B) h2) (.inl rfl))
 have hsd:(popD m L.toArray).size=m+1:=HP.out.1
 have PO:=hid_mk (f_pop base B g c m (popD m L.toArray).toList x hH2.2 w2 hH2.1 (by have:=HP.out.2.1;rw [getElem!_pos _ m (by omega)] at this;simpa using this) (by omega))
 have mP:=m_pop B w2
 clear DN h2 h2' hH2 hH1' hb1'
 go_wp2_with fail
 refine PO.out.mono ?_
 rintro e w3 ⟨rfl,h3,hb3⟩
 have h3':=hid_mk h3
 have hb3':=hid_mk (hb2.out.trans hb3 (.inl rfl))
 clear PO mP h3 hb3 hb2
 go_wp2
 go_ret
 have p:=HP.out.2.2.2.1
 have p:L.Perm (x :: (popD m L.toArray).toList.take m):=p
 refine ⟨x,_,rfl,p,fun y hy=>HM.out y ?_,HP.out.2.2.2.2,HP.out.2.2.1,h3'.out,hb3'.out⟩
 show y∈L
 exact p.mem_iff.2 (List.mem_cons_of_mem _ hy)
theorem as_u64 (x:Int) (w:World):(Instr.typeAssert (.iface 35 (.int .u64 x)) 20 35 false).run Tryz.prog w=.ok (.int .u64 x) w:=by kernel_rfl
set_option maxHeartbeats 8000000 in
set_option maxRecDepth 100000 in
theorem f_next (base B g c m:Nat) (L:List Int) (hL:L.length=m+1) (w:World) (h:Hat w base B g c L) (hp:Hp (m+1) L.toArray) (hsz:m+1≤1000000) :
 Calls Tryz.prog 162 #[.pointer (some ⟨B,0,none⟩)] w fun e w'=>∃ (x:Int) (L':List Int),e=.returned (.int .u64 x)∧L.Perm (x :: L')∧(∀ y∈L',y≤x)∧L'.length=m∧Hp m L'.toArray∧Hat w' base B g c L'∧But B g w w':=by
 have PO:=hid_mk (h_pop base B g c m L hL w h hp hsz)
 clear h hp hL
 go_enter Tryz.func162,Tryz.ntmps162
 go_wp2_with fail
 refine PO.out.mono ?_
 rintro e w1 ⟨x,L',rfl,h1⟩
 have h1':=hid_mk h1
 clear PO h1
 have hA:=as_u64 x w1
 go_wp2
 go_ret
 exact ⟨x,L',rfl,h1'.out⟩
theorem keep_far {w w6:World} {row:Option Nat} {p:Addr} {v:Value} (hg:w.grownBy w6 row) (hne:some p.block≠row) (h:w.cell? p=some v∧w.frozen? p=false):w6.cell? p=some v∧w6.frozen? p=false :=
 ⟨hg.cell h.1 hne,by rw [World.frozen?_of_block (hg.block p.block (World.block_lt_of_cell? _ _ h.1) hne)];exact h.2⟩
theorem infoFin:(Tryz.prog.info? 35).map (fun i=>(i.zero,i.size,i.bytes))=some (some (.int .u64 0),1,8):=by kernel_rfl
set_option maxHeartbeats 8000000 in
set_option maxRecDepth 100000 in
theorem f_push (base B g c:Nat) (L:List Int) (x:Int) (w:World) (h:Hat w base B g c L) (hbase:base≤w.heap.size) (hsz:L.length≤100000) :
 Calls Tryz.prog 253 #[.pointer (some ⟨B,0,none⟩),.iface 35 (.int .u64 x)] w fun e w'=>e=.returned (.tuple #[])∧∃ g' c',Hat w' base B g' c' (L++[x])∧But B g w w'∧(g'=g∨w.heap.size≤g'):=by
 have hB:=h.1
 have hF:=h.2.1
 have HH:=hid_mk h
 have hO:=hid_mk h.2.2.2
 have hl:=h.lt
 obtain ⟨n,hn⟩:∃ n,L.length=n:=⟨_,rfl⟩
 have HN:=hid_mk hn
 have hA:=as_u64 x
 rw [hn] at hB hO hsz
 have hBa:=keepCell (allocB w (.cells #[.int .u64 x] 35)) hB
 have hFa:=keepFrozen (allocB w (.cells #[.int .u64 x] 35)) hB hF
 have hOa:=hid_mk (own_keep (allocB w (.cells #[.int .u64 x] 35)) hO.out)
 have hne:B≠g:=h.2.2.1
 have CS:=hid_mk (And.intro hBa hFa)
 have hneQ:some (⟨B,0,none⟩:Addr).block≠(Value.slice (some ⟨g,0,none⟩) n c).ownBlock:=by simpa [Value.ownBlock] using hne
 clear h hn
 obtain ⟨i0,hi,hz0,hz1,hz2⟩:=info_parts infoFin
 go_enter Tryz.func253,Tryz.ntmps253
 go_wp2_with fail
 go_region_law ((refine step_append_lies _ (by rfl) _ _ _ (by rfl) base 35 i0 (.int .u64 0) 1 8 Tryz.underlying160 hi hz0 hz1 hz2 rfl (by decide) _ n (vals L) (by rfl) hOa.out ⟨w.heap.size,0,none⟩ 1 1 [.int .u64 x] (by rfl) rfl (one_lies w.drew w.heap.size rfl (.int .u64 x) 35) (one_int _ _) (by decide) (by unfold maxLen;omega) (by omega) (by simp;omega) (w.heap.size+1) (by simp) ?_;intro g6 c6 w6 hown hgrow hat hlt6;obtain ⟨cs6,fs6⟩:=keep_far hgrow hneQ CS.out))
 all_goals
  have hg6:B≠g6∧(g6=g∨w.heap.size≤g6):=by
   rcases hat with h | h
   · simp only [Value.ownBlock,Option.some.injEq] at h
     exact ⟨by omega,.inl h.symm⟩
   · exact ⟨by omega,.inr (by omega)⟩
  have hb6:But B g w w6:=by
   have b0:=allocB w (.cells #[.int .u64 x] 35)
   have b1:But B g w (w.alloc (.cells #[.int .u64 x] 35)).drew:=⟨b0.os,b0.tape,b0.output,b0.size,fun k hk _ _=>b0.block k hk⟩
   refine b1.trans (b':=g) ⟨hgrow.os,hgrow.tape,hgrow.output,hgrow.size,fun k hk _ h2=>hgrow.block k hk (by simp [Value.ownBlock];exact h2)⟩ (.inl rfl)
  have FIN:=hid_mk (And.intro hown (And.intro hg6 hb6))
  have CF:=hid_mk (And.intro cs6 fs6)
  clear hown hgrow hat hg6 hb6
  go_wp2_with fail
  go_end0
  obtain ⟨ho,hg6,hb6⟩:=FIN.out
  have hl6:(L++[x]).length=n+1:=by simp [HN.out]
  have hv:vals (L++[x])=vals L++[.int .u64 x]:=by simp [vals]
  refine ⟨rfl,g6,c6,⟨?_,?_,hg6.1,?_⟩,hb6.set _ (.inl rfl),hg6.2⟩
  · rw [hl6]
    have:=CF.out.1
    go_simp
  · have:=CF.out.2
    go_simp
  · rw [hl6,hv]
    exact (But.own (a:=B) (b:=B) ((But.refl _ _ _).set _ (.inl rfl)) ho (fun e=>hg6.1 (by simpa [Value.ownBlock,eq_comm] using e)) (fun e=>hg6.1 (by simpa [Value.ownBlock,eq_comm] using e)))
set_option maxHeartbeats 8000000 in
set_option maxRecDepth 100000 in
theorem h_push (base B g c n:Nat) (L:List Int) (x:Int) (hn:L.length=n) (w:World) (h:Hat w base B g c L) (hp:Hp n L.toArray) (hbase:base≤w.heap.size) (hsz:n≤100000) :
 Calls Tryz.prog 114 #[.iface 162 (.pointer (some ⟨B,0,none⟩)),.iface 35 (.int .u64 x)] w fun e w'=>e=.returned (.tuple #[])∧∃ g' c' L',Hat w' base B g' c' L'∧L'.Perm (x :: L)∧Hp (n+1) L'.toArray∧L'.length=n+1∧But B g w w'∧(g'=g∨w.heap.size≤g'):=by
 have hP:=hid_mk (hp_push hp (by simp [hn]) x)
 have FP:=hid_mk (f_push base B g c L x w h hbase (by omega))
 have HN:=hid_mk hn
 have mP:=m_push B w
 clear h hp hn
 go_enter Tryz.func114,Tryz.ntmps114
 go_wp2_with fail
 refine FP.out.mono ?_
 rintro e w1 ⟨rfl,g1,c1,h1,hb1,hg1⟩
 have hl1:(L++[x]).length=n+1:=by simp [HN.out]
 have hB1:=h1.1
 rw [hl1] at hB1
 have mN:=m_len B w1 _ hB1
 have hsd:((L++[x]).toArray).size=n+1:=by simp [HN.out]
 have UP:=hid_mk (h_up B g1 c1 (n+1) n (L++[x]).toArray hsd w1 hB1 h1.2.2.1 h1.holds h1.lt.1 (by omega) (by omega))
 have H1:=hid_mk (And.intro h1 (And.intro hb1 hg1))
 have e1:((n+1:Nat):Int) - 1=(n:Int):=by omega
 clear FP mP h1 hb1 hg1 hB1
 go_wp2_with fail
 refine (f_len _ _ _ _).mono ?_
 rintro e w2 ⟨rfl,rfl⟩
 go_wp2_with fail
 refine UP.out.mono ?_
 rintro e w3 ⟨rfl,h3⟩
 have HS:=hid_mk h3
 clear UP h3 mN
 go_wp2_with fail
 go_end0
 obtain ⟨h1,hb1,hg1⟩:=H1.out
 have h4:=h1.st hl1 HS.out
 have e2:(L++[x]).toArray=L.toArray.push x:=by simp
 have hp:=hP.out
 rw [← e2] at hp
 exact ⟨rfl,g1,c1,_,h4.1,by simpa using hp.2.1,by simpa using hp.1,h4.2,hb1.trans (st_but HS.out) hg1,hg1⟩
theorem But.grown {a b:Nat} {u w w':World} {row:Option Nat} (h:But a b u w) (hg:w.grownBy w' row) (hr:∀ k,row=some k→u.heap.size≤k):But a b u w' :=
 ⟨hg.os.trans h.os,hg.tape.trans h.tape,hg.output.trans h.output,Nat.le_trans h.size hg.size,fun k hk h1 h2=>by
   rw [hg.block k (Nat.lt_of_lt_of_le hk h.size) (fun e=>by have:=hr k e.symm;omega),h.block k hk h1 h2]⟩
theorem But.new {a b:Nat} {u w w':World} (h:But a b u w) (hb:Below w.heap.size w w'):But a b u w' :=
 ⟨hb.os.trans h.os,hb.tape.trans h.tape,hb.output.trans h.output,Nat.le_trans h.size hb.size,fun k hk h1 h2=>by
   rw [hb.block k (Nat.lt_of_lt_of_le hk h.size),h.block k hk h1 h2]⟩
theorem Hat.grown {w w':World} {base B g c C:Nat} {L:List Int} {row:Option Nat} (h:Hat w base B g c L) (hg:w.grownBy w' row) (hr:∀ k,row=some k→C≤k) (hB:B < C) (hgC:g < C):Hat w' base B g c L:=by
 have hlt:=h.lt
 have e1:w'.heap[B]?=w.heap[B]?:=hg.block B hlt.2.2 (fun e=>by have:=hr B e.symm;omega)
 refine ⟨by rw [World.cell?_of_block (w:=w) e1];exact h.1,by rw [World.frozen?_of_block (w:=w) e1];exact h.2.1,h.2.2.1,h.2.2.2.kept hg (.inr fun e=>by have:=hr g (by rw [← e];rfl);omega)⟩
def lenAt (w:World) (B:Nat):Nat:=match w.cell? ⟨B,0,none⟩ with
 | some (.slice _ n _)=>n
 | _=>0
theorem Hat.lenAt {w:World} {base B g c:Nat} {L:List Int} (h:Hat w base B g c L):lenAt w B=L.length:=by unfold Go.Proofs.YtbnlhdnnenahfaaGreatDoor.lenAt;rw [h.1]
theorem top_max {L L':List Int} {x t:Int} (hp:L.Perm (x :: L')) (hm:∀ y∈L',y≤x) (ht:t∈L) (htm:∀ y∈L,y≤t):x=t:=by
 have h1:=htm x (hp.mem_iff.2 (List.mem_cons_self ..))
 rcases List.mem_cons.1 (hp.mem_iff.1 ht) with e | e
 · exact e.symm
 · have:=hm t e;omega
set_option maxHeartbeats 8000000 in
set_option maxRecDepth 100000 in
theorem f_brothers (base B g c:Nat) (L:List Int) (hw:∀ x∈L,Whole x) (hnd:L.Nodup) (w:World) (h:Hat w base B g c L) (hp:Hp L.length L.toArray) (h0:0 < L.length) (hsz:L.length≤100000) :
 Calls Tryz.prog 113 #[.pointer (some ⟨B,0,none⟩)] w fun e w'=>∃ (sl:Value) (u:Int) (l L':List Int),e=.returned (.tuple #[sl,.int .u64 u])∧Bro L l u L'∧Hat w' base B g c L'∧Hp L'.length L'.toArray∧w'.ownsRow w.heap.size 35 1 sl l.length (vals l)∧But B g w w':=by
 obtain ⟨m,hm⟩:∃ m,L.length=m+1:=⟨L.length - 1,by omega⟩
 rw [hm] at hp hsz
 have hl:=h.lt
 have NX:=hid_mk (f_next base B g c m L hm w h hp (by omega))
 have HW:=hid_mk hw
 have HD:=hid_mk hnd
 have HM:=hid_mk hm
 obtain ⟨i0,hi,hz0,hz1,hz2⟩:=info_parts infoFin
 clear h hp hw hnd hm h0
 go_enter Tryz.func113,Tryz.ntmps113
 go_wp2_with fail
 refine NX.out.mono ?_
 rintro e w1 ⟨x,C1,rfl,p1,x1,n1,hp1,h1,b1⟩
 have hx:Whole x:=HW.out x (p1.mem_iff.2 (List.mem_cons_self ..))
 have ux:=whole_box hx
 have hbase:=h1.lt
 have hs1:=b1.size
 have hO1:(w1.alloc (.cells #[.int .u64 x] 35)).ownsRow w.heap.size 35 1 (.slice (some ⟨w1.heap.size,0,none⟩) 1 1) 1 (vals [x]):=World.ownsRow_lit _ #[.int .u64 x] 1 hs1 (by unfold maxLen;omega) rfl
 have F1:=hid_mk (And.intro p1 (And.intro x1 (And.intro n1 hp1)))
 have H1:=hid_mk (And.intro (h1.keep (allocB w1 (.cells #[.int .u64 x] 35))) (b1.new (allocB w1 (.cells #[.int .u64 x] 35))))
 have O1:=hid_mk hO1
 clear NX p1 x1 n1 hp1 h1 b1 hO1
 by_cases hr:wR x=0
 · have PT:=hid_mk (iparent_top x hx hr)
   clear hx
   go_wp2_with fail
   refine (PT.out _).mono ?_
   rintro e w2 ⟨rfl,d2⟩
   have H2:=hid_mk (And.intro (H1.out.1.keep d2) (H1.out.2.new d2))
   have O2:=hid_mk (own_keep d2 O1.out)
   clear PT H1 O1 d2
   go_wp2
   go_ret2
   refine ⟨_,_,[x],C1,rfl,bro_top HD.out F1.out.1 F1.out.2.1 hr,H2.out.1,by rw [F1.out.2.2.1];exact F1.out.2.2.2,O2.out,H2.out.2⟩
 · have hb:=wR_box x
   have hr0:0 < wR x:=by omega
   have PT:=hid_mk (iparent_yes x hx hr0)
   have TK:=hid_mk (Taking.start HW.out HD.out F1.out.1 F1.out.2.1 hr0)
   have hu:=up_whole hx hr0
   have uu:=whole_box hu.1
   have HU:=hid_mk hu.1
   clear hx hu
   obtain ⟨u,eu⟩:∃ u,upW x=u:=⟨_,rfl⟩
   rw [eu] at PT TK uu HU
   clear eu hr hr0 hb
   go_wp2_with fail
   refine (PT.out _).mono ?_
   rintro e w2 ⟨rfl,d2⟩
   have H2:=hid_mk (And.intro (H1.out.1.keep d2) (H1.out.2.new d2))
   have O2:=hid_mk (own_keep d2 O1.out)
   clear PT H1 O1 d2
   go_wp2_with fail
   go_loopw [4] (fun v4 wr=>∃ (l C:List Int),Hid (Taking L l u C∧Hp C.length C.toArray)∧Hid (Hat wr base B g c C∧But B g w wr)∧Hid (wr.ownsRow w.heap.size 35 1 v4 l.length (vals l))) (fun _ wr=>lenAt wr B)
   case atStart=>exact ⟨[x],C1,⟨TK.out,by rw [F1.out.2.2.1];exact F1.out.2.2.2⟩,H2.out,O2.out⟩
   case round =>
    clear TK F1 H2 O2
    obtain ⟨l,C,hT,hH,hO⟩:=hrel
    have cB:=hH.out.1.1
    have hsr:=hH.out.2.size
    have hlC:l.length+C.length=m+1:=by have:=hT.out.1.1.length_eq;rw [List.length_append,HM.out] at this;omega
    cases hC:C.length with
    | zero =>
     have hnil:C=[]:=List.length_eq_zero_iff.1 hC
     have BR:=hid_mk (hT.out.1.done HU.out (.inl hnil))
     have HC:=hid_mk hT.out.2
     rw [hC] at cB
     clear hT hC hnil hlC
     go_wp2
     go_ret2
     exact ⟨_,_,l,C,rfl,BR.out,hH.out.1,HC.out,hO.out,hH.out.2⟩
    | succ k =>
     rw [hC] at cB
     have hk1:k+1≤m+1:=by omega
     have ER:=hid_mk (hH.out.1.lenAt.trans hC)
     have h0C:0 < C.length:=by omega
     obtain ⟨t,ht⟩:∃ t,C[0]'h0C=t:=⟨_,rfl⟩
     have cT:=(own_cells hH.out.1.2.2.2).2.1 0 h0C
     rw [ht] at cT
     have tC:t∈C:=by rw [← ht];exact List.getElem_mem h0C
     have tmax:∀ y∈C,y≤t:=by
      have:=hp_max hT.out.2 (by simp)
      have e:C.toArray[0]! =t:=by rw [getElem!_pos _ 0 (by simpa using h0C)];simpa using ht
      rw [e] at this
      simpa using this
     have hW:=HW.out t (hT.out.1.1.mem_iff.2 (List.mem_append_right _ tC))
     have ut:=whole_box hW
     have TM:=hid_mk (And.intro tC tmax)
     have HC:=hid_mk hC
     clear tC tmax ht hC h0C
     by_cases hr:wR t=0
     · have PT:=hid_mk (iparent_top t hW hr)
       have BR:=hid_mk (hT.out.1.done HU.out (.inr ⟨t,TM.out.1,TM.out.2,fun h=>by omega⟩))
       have HP:=hid_mk hT.out.2
       have u0:((0:Int) == u)=false:=by have:=whole_pos HU.out;simp;omega
       clear hW hT hr TM
       go_wp2_with fail
       refine (PT.out _).mono ?_
       rintro e w3 ⟨rfl,d3⟩
       have H3:=hid_mk (And.intro (hH.out.1.keep d3) (hH.out.2.new d3))
       have O3:=hid_mk (own_keep d3 hO.out)
       clear PT hH hO d3
       go_wp2
       go_ret2
       exact ⟨_,_,l,C,rfl,BR.out,H3.out.1,HP.out,O3.out,H3.out.2⟩
     · have hb:=wR_box t
       have hr0:0 < wR t:=by omega
       have PT:=hid_mk (iparent_yes t hW hr0)
       have u2:=whole_box (up_whole hW hr0).1
       clear hW hr hb
       obtain ⟨q,eq⟩:∃ q,upW t=q:=⟨_,rfl⟩
       have EQ:=hid_mk eq
       rw [eq] at PT u2
       clear eq
       by_cases hqu:q=u
       · subst hqu
         go_wp2_with fail
         refine (PT.out _).mono ?_
         rintro e w3 ⟨rfl,d3⟩
         have H3:=hid_mk (And.intro (hH.out.1.keep d3) (hH.out.2.new d3))
         have O3:=hid_mk (own_keep d3 hO.out)
         have NX:=hid_mk (f_next base B g c k C HC.out w3 H3.out.1 (by have:=hT.out.2;rwa [HC.out] at this) (by omega))
         clear PT hH hO d3 cB cT
         obtain ⟨p4,c4,rfl,-⟩:=own_slice O3.out
         go_wp2_with fail
         refine NX.out.mono ?_
         rintro e w4 ⟨y,C4,rfl,p4',y4,n4,hp4,h4,b4⟩
         have ey:=top_max p4' y4 TM.out.1 TM.out.2
         subst ey
         have TN:=hid_mk (hT.out.1.next p4' y4 hr0 EQ.out)
         have hlO:=O3.out.lt
         have O4:=hid_mk (b4.own O3.out (fun e=>by have:=(hlO _ e).1;omega) (fun e=>by have:=(hlO _ e).1;omega))
         have H4:=hid_mk (And.intro h4 (H3.out.2.trans b4 (.inl rfl)))
         have HP4:=hid_mk (show Hp C4.length C4.toArray by rw [n4];exact hp4)
         have hs4:=H4.out.2.size
         have hl4:=hid_mk n4
         clear NX p4' y4 n4 hp4 h4 b4 hT H3 O3 hlO TM
         go_wp2_with (at_builtin;refine wpList_append_own _ rfl (.tmp 39) (.tmp 42) 22 rfl w.heap.size 35 i0 (.int .u64 0) 1 8 Tryz.underlying22 hi hz0 hz1 hz2 rfl (by decide) _ _ _ rfl (own_keep (allocB _ _) O4.out) ⟨w4.heap.size,0,none⟩ 1 1 [.int .u64 y] rfl rfl (one_lies _ _ rfl _ _) (one_int _ _) (by unfold maxLen;omega) (by omega) (by simp;omega) ?_)
         intro v' w5 hown hgrow _
         have hlO:=O4.out.lt
         have H5:=hid_mk (And.intro ((H4.out.1.keep (allocB w4 (.cells #[.int .u64 y] 35))).grown hgrow (C:=w.heap.size) (fun k hk=>(hlO k hk).1) (by omega) (by omega)) ((H4.out.2.new (allocB w4 (.cells #[.int .u64 y] 35))).grown hgrow (fun k hk=>(hlO k hk).1)))
         have O5:Hid (w5.ownsRow w.heap.size 35 1 v' (l++[y]).length (vals (l++[y]))):=hid_mk (by
          have e1:(l++[y]).length=l.length+1:=by simp
          have e2:vals (l++[y])=vals l++[.int .u64 y]:=by simp [vals]
          rw [e1,e2];exact hown)
         have e5:=H5.out.1.lenAt
         clear hown hgrow H4 O4 hlO
         go_wp2
         go_roundw
         case rel=>exact ⟨l++[y],C4,⟨TN.out,HP4.out⟩,H5.out,O5.out⟩
         case measure=>rw [e5,hl4.out,ER.out];omega
       · have BR:=hid_mk (hT.out.1.done HU.out (.inr ⟨t,TM.out.1,TM.out.2,fun h=>hqu (by rw [← EQ.out];exact h.2)⟩))
         have HP:=hid_mk hT.out.2
         have u0:(q == u)=false:=by simp;exact hqu
         clear hT TM hqu EQ
         go_wp2_with fail
         refine (PT.out _).mono ?_
         rintro e w3 ⟨rfl,d3⟩
         have H3:=hid_mk (And.intro (hH.out.1.keep d3) (hH.out.2.new d3))
         have O3:=hid_mk (own_keep d3 hO.out)
         clear PT hH hO d3
         go_wp2
         go_ret2
         exact ⟨_,_,l,C,rfl,BR.out,H3.out.1,HP.out,O3.out,H3.out.2⟩
def Turned (d:Array Int) (n i:Nat) (dk:Array Int):Prop:=dk.size=n∧∀ t,t < n→dk[t]! =if t < i∨n < t+1+i then d[n - 1 - t]! else d[t]!
theorem turned_step {d dk:Array Int} {n i:Nat} (h:Turned d n i dk) (hi:2*i+1 < n):Turned d n (i+1) (Sort.swp dk i (n - 1 - i)):=by
 refine ⟨by rw [Sort.size_swp];exact h.1,fun t ht=>?_⟩
 have gi:=h.2 i (by omega)
 have gj:=h.2 (n - 1 - i) (by omega)
 rw [if_neg (by omega)] at gi
 rw [if_neg (by omega)] at gj
 by_cases e1:t=i
 · subst e1
   rw [Sort.swp_left _ _ _ (by have:=h.1;omega) (by omega),if_pos (by omega),gj]
 · by_cases e2:t=n - 1 - i
   · subst e2
     rw [Sort.swp_right _ _ _ (by have:=h.1;omega),if_pos (by omega),gi,show n - 1 - (n - 1 - i)=i by omega]
   · rw [Sort.swp_other _ _ _ _ e1 e2,h.2 t ht]
     by_cases c:t < i∨n < t+1+i
     · rw [if_pos c,if_pos (by omega)]
     · rw [if_neg c,if_neg (by omega)]
theorem turned_done {d dk:Array Int} {n i:Nat} (hn:d.size=n) (h:Turned d n i dk) (hi:n≤2*i+1):dk.toList=d.toList.reverse:=by
 refine List.ext_getElem? fun t=>?_
 by_cases ht:t < n
 · have e:=h.2 t ht
   have e3:dk[t]! =d[n - 1 - t]! :=by
    by_cases c:t < i∨n < t+1+i
    · rw [e,if_pos c]
    · rw [e,if_neg c,show n - 1 - t=t by omega]
   rw [List.getElem?_reverse (by simpa [hn] using ht),Array.length_toList,hn,Array.getElem?_toList,Array.getElem?_toList]
   rw [getElem!_pos dk t (by have:=h.1;omega),getElem!_pos d (n - 1 - t) (by omega)] at e3
   rw [Array.getElem?_eq_getElem (by have:=h.1;omega),Array.getElem?_eq_getElem (by omega),e3]
 · rw [List.getElem?_eq_none (by simp [h.1];omega),List.getElem?_eq_none (by simp [hn];omega)]
set_option maxHeartbeats 8000000 in
set_option maxRecDepth 100000 in
theorem u_reverse (g c n:Nat) (d:Array Int) (hn:d.size=n) (w:World) (hH:Sort.Holds (Value.int .u64) w g 0 d) (hg:g < w.heap.size) (hsz:n≤1000000) :
 Calls Tryz.prog 115 #[.slice (some ⟨g,0,none⟩) n c] w fun e w'=>e=.returned (.tuple #[])∧∃ d',St w g 0 d d' w'∧d'.toList=d.toList.reverse:=by
 have H0:Hid (Sort.Holds (Value.int .u64) w g 0 d):=hH
 have HN:Hid (d.size=n):=hn
 clear hH hn
 go_enter Tryz.func115,Tryz.ntmps115
 go_wp2_with fail
 go_loopw [2,3] (fun v2 v3 wr=>∃ (i:Nat) (j:Int) (dk:Array Int),v2=.int .i64 i∧v3=.int .i64 j∧j=(n:Int) - 1 - i∧i≤n∧Hid (St w g 0 d dk wr∧Turned d n i dk)) (fun v2 _ _=>n - (intOf v2).toNat)
 case atStart=>exact ⟨0,(n:Int) - 1,d,rfl,rfl,by omega,by omega,St.refl H0.out,HN.out,fun t ht=>by rw [if_neg (by omega)]⟩
 case round =>
  obtain ⟨i,j,dk,rfl,rfl,hj,hi,hS⟩:=hrel
  by_cases hlt:(i:Int) < j
  · obtain ⟨m,hm⟩:∃ m:Nat,j=(m:Int):=⟨j.toNat,by omega⟩
    have em:n - 1 - i=m:=by omega
    have ST:=hid_mk (turned_step hS.out.2 (by omega))
    rw [em] at ST
    have hds:dk.size=n:=hS.out.2.1
    obtain ⟨G,hG,hc,hf⟩:=hS.out.1.fam H0.out hg
    rw [HN.out] at hc hf
    simp only [Nat.zero_add] at hc hf
    have SW:=hid_mk (hS.out.1.swap H0.out hg hG (j:=i) (k:=m) (by rw [HN.out];omega) (by rw [HN.out];omega) 0)
    simp only [Nat.zero_add] at SW
    obtain ⟨y3,hy3⟩:=cell?_setCell_some (w:=wr) (p:=⟨g,i,none⟩) (x:=.int .u64 (G m)) (q:=⟨g,m,none⟩) (hc m (by omega))
    have i0:i < n:=by omega
    have m0:m < n:=by omega
    have i1:(i:Int) < (n:Int):=by omega
    have m1:(m:Int) < (n:Int):=by omega
    have hi2:=hid_mk hj
    clear hS hG hj em
    subst hm
    go_wp2_with fail
    go_region
    all_goals go_wp2_with fail
    all_goals
     go_roundw
     case rel=>exact ⟨i+1,(m:Int) - 1,_,by go_num,rfl,by have:=hi2.out;omega,by omega,SW.out.drawn 1,ST.out⟩
     case measure=>simp [intOf];omega
  · have hlt':decide ((i:Int) < j)=false:=df hlt
    have FN:=hid_mk (And.intro hS.out.1 (turned_done HN.out hS.out.2 (by omega)))
    clear hS
    go_wp2
    go_end0
    exact ⟨rfl,dk,FN.out⟩
theorem u_reverse_nil (w:World):Calls Tryz.prog 115 #[.slice none 0 0] w fun e w'=>e=.returned (.tuple #[])∧w'=w:=by
 go_enter Tryz.func115,Tryz.ntmps115
 go_wp2_with fail
 go_loopw [2,3] (fun v2 v3 wr=>v2=.int .i64 0∧v3=.int .i64 (-1)∧wr=w) (fun _ _ _=>0)
 case atStart=>exact ⟨rfl,rfl,rfl⟩
 case round =>
  obtain ⟨rfl,rfl,rfl⟩:=hrel
  go_wp2
  go_end0
  exact ⟨rfl,rfl⟩
theorem u_reverse_own (base:Nat) (v:Value) (L:List Int) (w:World) (ho:w.ownsRow base 35 1 v L.length (vals L)) (hsz:L.length≤1000000) (hbase:base≤w.heap.size) :
 Calls Tryz.prog 115 #[v] w fun e w'=>e=.returned (.tuple #[])∧w'.ownsRow base 35 1 v L.reverse.length (vals L.reverse)∧Below base w w':=by
 rcases ho.2 with ⟨rfl,h0⟩ | ⟨g,cap,cur,rfl,hg,_⟩
 · have e:L=[]:=List.length_eq_zero_iff.1 h0
   subst e
   exact (u_reverse_nil w).mono fun e w' ⟨h1,h2⟩=>⟨h1,by rw [h2];exact ho,by rw [h2];exact Below.refl _ _⟩
 · refine (u_reverse g cap L.length L.toArray (by simp) w (own_holds ho) (ho.lt g rfl).2 hsz).mono fun e w' ⟨h1,d',h2,h3⟩=>⟨h1,?_,(st_but (a:=g) h2).below hg hg hbase⟩
   have:=st_own (n:=L.length) (d:=L.toArray) (by simp) (by simpa using ho) h2
   rw [h3] at this
   simpa using this
def Off (v:Value) (B g:Nat):Prop:=v.ownBlock≠some B∧v.ownBlock≠some g
set_option maxHeartbeats 8000000 in
set_option maxRecDepth 100000 in
theorem p_join (base g c r:Nat) (S:List Int) (hR:Rising S) (hS:∀ x∈S,Whole x∧wR x=(r:Int)) (hsz:S.length≤50000) (w:World) (ho:w.ownsRow base 35 1 (.slice (some ⟨g,0,none⟩) S.length c) S.length (vals S)) (hbase:base≤w.heap.size) :
 Calls Tryz.prog 71 #[.slice (some ⟨g,0,none⟩) S.length c] w fun e w'=>∃ (sl:Value) (P:List Int),e=.returned sl∧Packed r S P∧P.length≤S.length∧w'.ownsRow base 35 1 sl P.length (vals P)∧Below base w w':=by
 obtain ⟨n,hn⟩:∃ n,S.length=n:=⟨_,rfl⟩
 have HN:=hid_mk hn
 have hg:=(ho.lt g rfl).2
 have J0:=hid_mk (Joi.start (r:=r) hR (fun _=>Iff.rfl) hS (Nat.le_refl _))
 have HA:Hid (Hat (w.alloc (.cells #[.slice (some ⟨g,0,none⟩) n c] 160)) base w.heap.size g c S∧Below base w (w.alloc (.cells #[.slice (some ⟨g,0,none⟩) n c] 160))) :=
  hid_mk ⟨⟨by rw [hn];go_simp,by go_simp,by omega,own_keep (allocB w _) ho⟩,(allocB w _).mono hbase⟩
 rw [hn] at hsz ⊢
 clear hR hS hn ho
 go_enter Tryz.func71,Tryz.ntmps71
 go_wp2_with fail
 generalize w.alloc (.cells #[.slice (some ⟨g,0,none⟩) n c] 160)=W at *
 generalize w.heap.size=B at *
 have hl:=HA.out.1.lt
 have hbW:base≤W.heap.size:=by omega
 have IN:=hid_mk (h_init B g c n S.toArray (by simp [HN.out]) W (by have:=HA.out.1.1;rwa [HN.out] at this) HA.out.1.2.2.1 HA.out.1.holds hl.1 (by omega))
 refine IN.out.mono ?_
 rintro e w1 ⟨rfl,h1⟩
 have PB:=hp_build S.toArray (n:=n) (k:=n / 2) (by simp [HN.out]) (by omega)
 have hH1:=HA.out.1.st HN.out h1
 have PL:=perm_list (n:=n) (by simp [HN.out]) PB.2
 obtain ⟨H1,eH⟩:∃ H,(Sort.heapBuild Sort.ltInt n 0 (n / 2) S.toArray).toList=H:=⟨_,rfl⟩
 have eA:(Sort.heapBuild Sort.ltInt n 0 (n / 2) S.toArray)=H1.toArray:=by rw [← eH]
 rw [eA] at PB
 rw [eH] at hH1 PL
 have START:=hid_mk (show Joi r S [] H1∧Hp H1.length H1.toArray from ⟨J0.out.perm (by simpa using PL.symm),by rw [hH1.2];exact PB.1⟩)
 have HB1:=hid_mk (show Hat w1 base B g c H1∧Below base w w1 from ⟨hH1.1,HA.out.2.trans ((st_but (a:=B) h1).below hbase hl.2.1 hbW)⟩)
 have hs1:=(st_but (a:=B) h1).size
 clear IN h1 PB hH1 PL eH eA HA J0 hl
 go_wp2_with fail
 go_loopw [3] (fun v3 wr=>∃ (J H:List Int) (g' c':Nat),Hid (Joi r S J H∧Hp H.length H.toArray)∧Hid (Hat wr base B g' c' H∧Below base w wr∧base≤wr.heap.size)∧Hid (wr.ownsRow base 35 1 v3 J.length (vals J)∧Off v3 B g')) (fun _ wr=>lenAt wr B)
 case atStart=>exact ⟨[],H1,g,c,START.out,⟨HB1.out.1,HB1.out.2,by omega⟩,World.ownsRow_nil _ _ _ _,by simp [Value.ownBlock],by simp [Value.ownBlock]⟩
 case round =>
  clear START HB1 hs1 hbW
  obtain ⟨J,H,g1,c1,hJ,hH,hO⟩:=hrel
  have cB:=hH.out.1.1
  have hJH:J.length+H.length≤n:=by have:=hJ.out.1.2.2.2.2.2.2.2.2;rw [HN.out] at this;exact this
  have hbr:=hH.out.2.2
  by_cases h0:H.length=0
  · have hnil:H=[]:=List.length_eq_zero_iff.1 h0
    have DN:=hid_mk (show Packed r S J.reverse by have:=hJ.out.1;rw [hnil] at this;exact this.done)
    rw [h0] at cB
    have RV:=hid_mk (u_reverse_own base u3 J wr hO.out.1 (by omega) hbr)
    have HB:=hid_mk hH.out.2.1
    clear hJ hnil h0 hO hH hbr
    go_wp2_with fail
    refine RV.out.mono ?_
    rintro e w2 ⟨rfl,o2,b2⟩
    have FN:=hid_mk (And.intro o2 (HB.out.trans b2))
    clear RV o2 b2 cB HB
    go_wp2
    go_ret
    exact ⟨_,J.reverse,rfl,DN.out,by rw [List.length_reverse];omega,FN.out.1,FN.out.2⟩
  · have hpos:(0:Int) < (H.length:Int):=by omega
    have hJo:=hJ.out.1
    have BR:=hid_mk (f_brothers base B g1 c1 H (fun x hx=>(hJo.2.2.1 x (List.mem_append_right _ hx)).1) hJo.2.1 wr hH.out.1 hJ.out.2 (by omega) (by omega))
    have ER:=hid_mk hH.out.1.lenAt
    have hlr:=hH.out.1.lt
    clear hJo
    go_wp2_with fail
    refine BR.out.mono ?_
    rintro e w2 ⟨sl,u,l,H',rfl,bro,h2,p2,o2,b2⟩
    have hlen:=bro.1.length_eq
    rw [List.length_append] at hlen
    have hs2:=b2.size
    obtain ⟨ps,cs,rfl,hps⟩:=own_slice o2
    have hOl:=hO.out.1.lt
    have O2:=hid_mk (show w2.ownsRow base 35 1 u3 J.length (vals J) from b2.own hO.out.1 hO.out.2.1 hO.out.2.2)
    have HB:=hid_mk (show Hat w2 base B g1 c1 H'∧Below base w w2 from ⟨h2,hH.out.2.1.trans (b2.below (by omega) hlr.2.1 hbr)⟩)
    have OF:=hid_mk hO.out.2
    have HP:=hid_mk p2
    have BO:=hid_mk bro
    have LL:=hid_mk (And.intro o2 hps)
    have JJ:=hid_mk hJ.out.1
    have hlne:0 < l.length:=by
     rcases bro.2.2.2 with ⟨_,m,rfl,_⟩ | ⟨_,h,_⟩
     · simp
     · exact List.length_pos_iff.2 h
    clear BR bro h2 p2 o2 b2 hO hH hJ cB hps
    by_cases h7:l.length=7
    · have e7:((l.length:Int) == 7)=true:=by simp;omega
      have LF:=hid_mk (JJ.out.lift BO.out h7)
      have PU:=hid_mk (h_push base B g1 c1 H'.length H' u rfl w2 HB.out.1 HP.out (by omega) (by omega))
      have uu:=whole_box LF.out.2
      have H7:=hid_mk h7
      clear JJ BO h7 LL
      go_wp2_with fail
      refine PU.out.mono ?_
      rintro e w3 ⟨rfl,g3,c3,H3,h3,p3,hp3,n3,b3,hg3⟩
      have HB3:=hid_mk (show Hat w3 base B g3 c3 H3∧Below base w w3∧base≤w3.heap.size from ⟨h3,HB.out.2.trans (b3.below (by omega) hlr.2.1 (by omega)),by have:=b3.size;omega⟩)
      have hO2:=O2.out.lt
      have O3:=hid_mk (show w3.ownsRow base 35 1 u3 J.length (vals J)∧Off u3 B g3 from ⟨b3.own O2.out OF.out.1 OF.out.2,OF.out.1,fun e=>by
       rcases hg3 with rfl | hg3
       · exact OF.out.2 e
       · have:=(hO2 _ e).2;omega⟩)
      have J3:=hid_mk (show Joi r S J H3∧Hp H3.length H3.toArray from ⟨LF.out.1.perm p3.symm,by rw [n3];exact hp3⟩)
      have E3:=hid_mk h3.lenAt
      clear PU h3 p3 hp3 b3 hg3 HB O2 OF LF
      go_wp2
      go_roundw
      case rel=>exact ⟨J,H3,g3,c3,J3.out,HB3.out,O3.out⟩
      case measure=>rw [E3.out,ER.out,n3];have:=H7.out;omega
    · have e7:((l.length:Int) == 7)=false:=by simp;omega
      have KP:=hid_mk (JJ.out.keep BO.out h7)
      obtain ⟨q,rfl⟩:=own_some LL.out.2 hlne
      have NW:=hid_mk (own_lies LL.out.1)
      have hlv:=hid_mk (vals_len l)
      have one:=hid_mk (vals_one l)
      clear JJ BO h7 LL
      obtain ⟨i0,hi,hz0,hz1,hz2⟩:=info_parts infoFin
      go_wp2_with (at_builtin;refine wpList_append_apart rfl (.tmp 24) (.tmp 25) 22 rfl base 35 i0 (.int .u64 0) 1 8 Tryz.underlying22 hi hz0 hz1 hz2 rfl (by decide) _ _ _ rfl O2.out ⟨q,0,none⟩ l.length cs hlne (vals l) rfl (by rw [hlv.out];omega) NW.out one.out (by unfold maxLen;omega) (by omega) (by omega) ?_)
      intro v' w3 hown hgrow hat
      have hO2:=O2.out.lt
      have hl2:=HB.out.1.lt
      have H3:=hid_mk (show Hat w3 base B g1 c1 H'∧Below base w w3∧base≤w3.heap.size from ⟨by
       have b3:∀ k,k < w2.heap.size→u3.ownBlock≠some k→w3.heap[k]?=w2.heap[k]?:=fun k hk hne=>hgrow.block k hk (fun e=>hne e.symm)
       have hh:=HB.out.1
       exact ⟨by rw [World.cell?_of_block (w:=w2) (b3 B hl2.2.2 OF.out.1)];exact hh.1,by rw [World.frozen?_of_block (w:=w2) (b3 B hl2.2.2 OF.out.1)];exact hh.2.1,hh.2.2.1,hh.2.2.2.kept hgrow (.inr fun e=>OF.out.2 (by rw [← e];rfl))⟩,
       HB.out.2.grown hgrow (by omega) (fun k hk=>(hO2 k hk).1),by have:=hgrow.size;omega⟩)
      have O3:Hid (w3.ownsRow base 35 1 v' (J++l).length (vals (J++l))∧Off v' B g1):=hid_mk (by
       have e1:(J++l).length=J.length+l.length:=by simp
       have e2:vals (J++l)=vals J++vals l:=by simp [vals]
       rw [e1,e2]
       refine ⟨hown,?_⟩
       unfold Off
       rcases hat with e | e
       · rw [e];exact OF.out
       · rw [e];exact ⟨by simp;omega,by simp;omega⟩)
      have E3:=hid_mk H3.out.1.lenAt
      clear hown hgrow hat HB O2 OF NW one hO2 hl2
      go_wp2
      go_roundw
      case rel=>exact ⟨J++l,H',g1,c1,⟨KP.out,HP.out⟩,H3.out,O3.out⟩
      case measure=>rw [E3.out,ER.out];omega
def ChkT (L:List Int) (r t:Int):Prop :=
 (t=0∧∀ (j:Nat) (hj:j < L.length),Whole L[j]∧wR L[j]=r) ∨
 ∃ (i:Nat) (hi:i < L.length),(∀ (j:Nat) (hj:j < L.length),j < i→Whole L[j]∧wR L[j]=r)∧((t=5∧¬ Whole L[i])∨(t=8∧Whole L[i]∧wR L[i]≠r))
set_option maxHeartbeats 4000000 in
set_option maxRecDepth 20000 in
theorem ccheck (s:Value) (L:List Int) (r:Int) (hn:L.length≤50000) (uL:∀ x∈L,U64 x) (w:World) (hl:Lst w s L) :
 Calls Tryz.prog 110 #[s,.int .i64 r] w fun e w'=>(∃ t,e=.returned (.int .i64 t)∧ChkT L r t)∧Below w.heap.size w w':=by
 obtain ⟨p,cap,rfl,-,hc⟩:=hl
 obtain ⟨n,en⟩:∃ n,L.length=n:=⟨_,rfl⟩
 have HC:=hidd hc
 have EN:=hidd en
 have UL:=hidd uL
 rw [en] at hn ⊢
 clear hc en uL
 go_enter Tryz.func110,Tryz.ntmps110
 go_wp2_with fail
 go_loopw [9] (fun v9 wr=>∃ i:Nat,i≤n∧v9=.int .i64 (i:Int)∧Hid (∀ (j:Nat) (hj:j < L.length),j < i→Whole L[j]∧wR L[j]=r)∧Below w.heap.size w wr) (fun v9 _=>n - (intOf v9).toNat)
 case atStart=>exact ⟨0,by omega,rfl,hidd fun j _ h=>absurd h (Nat.not_lt_zero _),Below.refl _ _⟩
 case round =>
  obtain ⟨i,hi,rfl,hI,hB⟩:=hrel
  by_cases hlt:i < n
  · have hiL:i < L.length:=by rw [EN.out];exact hlt
    obtain ⟨g,o,rfl,x1⟩:=HC.out i hiL
    replace x1:=keepCell hB x1
    have hu:=UL.out _ (List.getElem_mem hiL)
    by_cases hW:Whole L[i]
    · have IK:=hidd fun w=>iok L[i] hu true (by simp [hW]) w
      have RS:=hidd fun w=>ires_yes L[i] hW w
      by_cases hr:wR L[i]=r
      · have hI2:Hid (∀ (j:Nat) (hj:j < L.length),j < i+1→Whole L[j]∧wR L[j]=r):=hidd fun j hj h=>by
         rcases Nat.lt_or_ge j i with k | k
         · exact hI.out j hj k
         · obtain rfl:j=i:=by omega
           exact ⟨hW,hr⟩
        have hb:(wR L[i] != r)=false:=by simp [hr]
        clear hW hr hI
        generalize wR L[i]=z at *
        generalize L[i]'_=x at *
        go_wp2_with fail
        refine (IK.out _).mono ?_
        rintro e w1 ⟨rfl,b1⟩
        have B1:=belowT hB b1
        go_wp2_with fail
        refine (RS.out _).mono ?_
        rintro e w2 ⟨rfl,b2⟩
        have B2:=belowT B1 b2
        go_wp2_with fail
        go_roundw
        case rel=>exact ⟨i+1,by omega,by go_num,hI2,B2⟩
        case measure=>simp [intOf];omega
      · have hT:Hid (ChkT L r 8):=hidd (.inr ⟨i,hiL,hI.out,.inr ⟨rfl,hW,hr⟩⟩)
        have hb:(wR L[i] != r)=true:=by simp [hr]
        clear hW hr hI
        generalize wR L[i]=z at *
        generalize L[i]'_=x at *
        go_wp2_with fail
        refine (IK.out _).mono ?_
        rintro e w1 ⟨rfl,b1⟩
        have B1:=belowT hB b1
        go_wp2_with fail
        refine (RS.out _).mono ?_
        rintro e w2 ⟨rfl,b2⟩
        have B2:=belowT B1 b2
        go_wp2_with fail
        go_ret
        exact ⟨⟨8,rfl,hT.out⟩,B2⟩
    · have IK:=hidd fun w=>iok L[i] hu false (by simp [hW]) w
      have hT:Hid (ChkT L r 5):=hidd (.inr ⟨i,hiL,hI.out,.inl ⟨rfl,hW⟩⟩)
      clear hW hI
      generalize L[i]'_=x at *
      go_wp2_with fail
      refine (IK.out _).mono ?_
      rintro e w1 ⟨rfl,b1⟩
      have B1:=belowT hB b1
      go_wp2_with fail
      go_ret
      exact ⟨⟨5,rfl,hT.out⟩,B1⟩
  · obtain rfl:i=n:=by omega
    have hT:Hid (ChkT L r 0):=hidd (.inl ⟨rfl,fun j hj=>hI.out j hj (by rw [← EN.out];exact hj)⟩)
    clear hI
    go_wp2_with fail
    go_ret
    exact ⟨⟨0,rfl,hT.out⟩,hB⟩
set_option maxHeartbeats 4000000 in
set_option maxRecDepth 20000 in
theorem p_areWords (s:Value) (L:List Int) (hn:L.length≤50000) (uL:∀ x∈L,U64 x) (b:Bool) (hb:b=true↔∀ x∈L,Whole x) (w:World) (hl:Lst w s L) :
 Calls Tryz.prog 69 #[s] w fun e w'=>e=.returned (.bool b)∧Below w.heap.size w w':=by
 obtain ⟨p,cap,rfl,-,hc⟩:=hl
 obtain ⟨n,en⟩:∃ n,L.length=n:=⟨_,rfl⟩
 have HC:=hidd hc
 have EN:=hidd en
 have UL:=hidd uL
 have HB:=hidd hb
 rw [en] at hn ⊢
 clear hc en uL hb
 go_enter Tryz.func69,Tryz.ntmps69
 go_wp2_with fail
 go_loopw [7] (fun v7 wr=>∃ i:Nat,i≤n∧v7=.int .i64 (i:Int)∧Hid (∀ (j:Nat) (hj:j < L.length),j < i→Whole L[j])∧Below w.heap.size w wr) (fun v7 _=>n - (intOf v7).toNat)
 case atStart=>exact ⟨0,by omega,rfl,hidd fun j _ h=>absurd h (Nat.not_lt_zero _),Below.refl _ _⟩
 case round =>
  obtain ⟨i,hi,rfl,hI,hB⟩:=hrel
  by_cases hlt:i < n
  · have hiL:i < L.length:=by rw [EN.out];exact hlt
    obtain ⟨g,o,rfl,x1⟩:=HC.out i hiL
    replace x1:=keepCell hB x1
    have hu:=UL.out _ (List.getElem_mem hiL)
    have hm:=hidd (List.getElem_mem hiL)
    by_cases hW:Whole L[i]
    · have IK:=hidd fun w=>iok L[i] hu true (by simp [hW]) w
      have hI2:Hid (∀ (j:Nat) (hj:j < L.length),j < i+1→Whole L[j]):=hidd fun j hj h=>by
       rcases Nat.lt_or_ge j i with k | k
       · exact hI.out j hj k
       · obtain rfl:j=i:=by omega
         exact hW
      clear hW hI hm
      generalize L[i]'_=x at *
      go_wp2_with fail
      refine (IK.out _).mono ?_
      rintro e w1 ⟨rfl,b1⟩
      have B1:=belowT hB b1
      go_wp2_with fail
      go_roundw
      case rel=>exact ⟨i+1,by omega,by go_num,hI2,B1⟩
      case measure=>simp [intOf];omega
    · have IK:=hidd fun w=>iok L[i] hu false (by simp [hW]) w
      have hT:Hid (b=false):=hidd (by
       cases hb:b with
       | false=>rfl
       | true=>exact absurd (HB.out.1 hb _ hm.out) hW)
      clear hW hI hm
      generalize L[i]'_=x at *
      go_wp2_with fail
      refine (IK.out _).mono ?_
      rintro e w1 ⟨rfl,b1⟩
      have B1:=belowT hB b1
      go_wp2_with fail
      go_ret
      exact ⟨by rw [hT.out];rfl,B1⟩
  · obtain rfl:i=n:=by omega
    have hT:Hid (b=true):=hidd (HB.out.2 fun x hx=>by
     obtain ⟨j,hj,rfl⟩:=List.mem_iff_getElem.1 hx
     exact hI.out j hj (by rw [← EN.out];exact hj))
    clear hI
    go_wp2_with fail
    go_ret
    exact ⟨by rw [hT.out];rfl,hB⟩
def OneR (L:List Int):Prop:=∀ x∈L,∀ y∈L,wR x=wR y
set_option maxHeartbeats 4000000 in
set_option maxRecDepth 20000 in
theorem p_areOne (s:Value) (L:List Int) (hn:L.length≤50000) (hL:∀ x∈L,Whole x) (b:Bool) (hb:b=true↔OneR L) (w:World) (hl:Lst w s L) :
 Calls Tryz.prog 70 #[s] w fun e w'=>e=.returned (.bool b)∧Below w.heap.size w w':=by
 have HL:=hidd hl
 obtain ⟨p,cap,rfl,-,hc⟩:=hl
 obtain ⟨n,en⟩:∃ n,L.length=n:=⟨_,rfl⟩
 have uL:∀ x∈L,U64 x:=fun x hx=>by have:=whole_box (hL x hx);exact ⟨by omega,by omega⟩
 cases n with
 | zero =>
  have e:L=[]:=List.length_eq_zero_iff.1 en
  have hb1:b=true:=hb.2 (by rw [e];intro x hx;simp at hx)
  subst hb1
  clear HL hc hb hL uL hn
  rw [en]
  clear en e
  go_enter Tryz.func70,Tryz.ntmps70
  go_wp2
  go_ret
  exact ⟨rfl,Below.refl _ _⟩
 | succ n =>
  have h0:0 < L.length:=by omega
  obtain ⟨g,o,rfl,x0⟩:=hc 0 h0
  rw [Nat.add_zero] at x0
  have hn0:((n:Int)+1 == 0)=false:=by simp;omega
  have hm:L[0]∈L:=List.getElem_mem h0
  have RS:=hidd fun w=>ires_yes L[0] (hL _ hm) w
  have CK:=hidd fun w h=>ccheck (.slice (some ⟨g,o,none⟩) L.length cap) L (wR L[0]) hn uL w h
  have HB:=hidd hb
  have HH:=hidd hL
  have HM:=hidd hm
  rw [en] at CK HL ⊢
  clear hc hb hL uL hn en hm
  obtain ⟨x,ex⟩:∃ x,L[0]=x:=⟨_,rfl⟩
  have EX:=hidd ex
  rw [ex] at x0 RS CK HM
  clear ex
  obtain ⟨r,er⟩:∃ r,wR x=r:=⟨_,rfl⟩
  rw [er] at RS CK
  have ER:=hidd er
  clear er
  go_enter Tryz.func70,Tryz.ntmps70
  go_wp2_with fail
  refine (RS.out _).mono ?_
  rintro e w1 ⟨rfl,b1⟩
  have B1:=hidd b1
  clear b1 x0
  go_wp2_with fail
  refine (CK.out _ (HL.out.keep B1.out)).mono ?_
  rintro e w2 ⟨⟨t,rfl,hT⟩,b2⟩
  have B2:=hidd (belowT B1.out b2)
  have hbt:(t == 0)=b:=by
   by_cases ht:t=0
   · subst ht
     rcases hT with ⟨_,h⟩ | ⟨i,hi,_,h⟩
     · have:b=true:=HB.out.2 fun y hy z hz=>by
        obtain ⟨j,hj,rfl⟩:=List.mem_iff_getElem.1 hy
        obtain ⟨k,hk,rfl⟩:=List.mem_iff_getElem.1 hz
        rw [(h j hj).2,(h k hk).2]
       rw [this];rfl
     · rcases h with ⟨h,_⟩ | ⟨h,_⟩ <;>omega
   · have:b=false:=by
      cases hb:b with
      | false=>rfl
      | true =>
       rcases hT with ⟨h,_⟩ | ⟨i,hi,_,h⟩
       · exact absurd h ht
       · rcases h with ⟨_,h⟩ | ⟨_,_,h⟩
         · exact absurd (HH.out _ (List.getElem_mem hi)) h
         · exact absurd (HB.out.1 hb _ (List.getElem_mem hi) _ HM.out) (by rw [ER.out];exact h)
     rw [this];simp [ht]
  clear hT CK RS b2 HL
  cases b
  all_goals
   go_wp2
   go_ret
   exact ⟨rfl,B2.out⟩
theorem Packed.congr {r:Nat} {S T P:List Int} (h:Packed r S P) (e:∀ x,x∈S↔x∈T):Packed r T P:=⟨h.1,h.2.1,h.2.2.1,h.2.2.2.1,fun x hx hr=>by rw [h.2.2.2.2 x hx hr,e x]⟩
def TellsCmp (C:Nat) (L:List Int) (e:Ending) (w':World):Prop :=
 (20000 < L.length∧e=.returned (.tuple #[.slice none 0 0,.int .i64 7])) ∨
 (L.length≤20000∧(¬ ∀ x∈L,Whole x)∧e=.returned (.tuple #[.slice none 0 0,.int .i64 5])) ∨
 (L.length≤20000∧(∀ x∈L,Whole x)∧¬ OneR L∧e=.returned (.tuple #[.slice none 0 0,.int .i64 8])) ∨
 (L.length≤20000∧(∀ x∈L,Whole x)∧OneR L∧∃ (sl:Value) (P:List Int),e=.returned (.tuple #[sl,.int .i64 0])∧(∀ r:Nat,(∀ x∈L,wR x=(r:Int))→Packed r L P)∧P.length≤L.length∧Lst w' sl P∧Addressed sl∧w'.ownsRow C 35 1 sl P.length (vals P))
theorem packed_nil {r:Nat} (hr:r≤12) {P:List Int} (h:Packed r [] P):P=[]:=by
 cases P with
 | nil=>rfl
 | cons p P =>
  have hp:=h.2.1 p (List.mem_cons_self ..)
  have hb:=wR_box p
  obtain ⟨x,h1,h2,h3⟩:=below_is (r - (wR p).toNat) hp.1 hr (by omega)
  have:=(h.2.2.2.2 x h1 h2).1 ⟨p,List.mem_cons_self ..,h3⟩
  simp at this
set_option maxHeartbeats 4000000 in
set_option maxRecDepth 20000 in
theorem p_compact (s:Value) (L:List Int) (hn:L.length≤50000) (uL:∀ x∈L,U64 x) (w:World) (hl:Lst w s L) :
 Calls Tryz.prog 42 #[s] w fun e w'=>TellsCmp w.heap.size L e w'∧Below w.heap.size w w':=by
 have HL:=hidd hl
 have HN:=hidd hn
 obtain ⟨p,cap,hs,-,-⟩:=hl
 obtain ⟨n,en⟩:∃ n,L.length=n:=⟨_,rfl⟩
 have EN:=hidd en
 rw [en] at hs hn
 subst hs
 have UL:=hidd uL
 clear uL en
 by_cases hbig:20000 < n
 · have hT:Hid (20000 < L.length):=hidd (by rw [EN.out];exact hbig)
   have hbig':(20000:Int) < (n:Int):=by omega
   clear HL
   go_enter Tryz.func42,Tryz.ntmps42
   go_wp2
   go_ret2
   exact ⟨.inl ⟨hT.out,rfl⟩,Below.refl _ _⟩
 · have hT:Hid (L.length≤20000):=hidd (by rw [EN.out];omega)
   have hbig':decide ((20000:Int) < (n:Int))=false:=df (by omega)
   by_cases hW:∀ x∈L,Whole x
   · have AW:=hidd fun w h=>p_areWords (.slice p n cap) L HN.out UL.out true (by simp only [true_iff];exact hW) w h
     have HW:=hidd hW
     by_cases h1:OneR L
     · have A1:=hidd fun w h=>p_areOne (.slice p n cap) L HN.out hW true (by simp only [true_iff];exact h1) w h
       have H1:=hidd h1
       have CS:=hidd fun w h=>cset_row (.slice p n cap) L HN.out w h
       clear hW h1
       go_enter Tryz.func42,Tryz.ntmps42
       go_wp2_with fail
       refine (AW.out _ HL.out).mono ?_
       rintro e w1 ⟨rfl,b1⟩
       have L1:=hidd (HL.out.keep b1)
       have B1:=hidd b1
       clear b1
       go_wp2_with fail
       refine (A1.out _ L1.out).mono ?_
       rintro e w2 ⟨rfl,b2⟩
       have L2:=hidd (L1.out.keep b2)
       have B2:=hidd (belowT B1.out b2)
       clear b2 L1 B1
       go_wp2_with fail
       refine (CS.out _ L2.out).mono ?_
       rintro e w3 ⟨⟨g,c3,K,rfl,k1,k2,k3,k4⟩,b3⟩
       have hwK:∀ x∈K,Whole x∧wR x=(((match L with | []=>(0:Int) | y :: _=>wR y).toNat:Nat):Int):=fun x hx=>by
        have hxL:=(k2 x).1 hx
        refine ⟨HW.out x hxL,?_⟩
        cases L with
        | nil=>simp at hxL
        | cons y M =>
         have:=H1.out x hxL y (List.mem_cons_self ..)
         have hb:=wR_box y
         simp only
         omega
       obtain ⟨r,er⟩:∃ r,(match L with | []=>(0:Int) | y :: _=>wR y).toNat=r:=⟨_,rfl⟩
       rw [er] at hwK
       have hs3:=b3.size
       have PJ:=hidd (p_join w2.heap.size g c3 r K k1 hwK (by have:=hT.out;omega) w3 k4 hs3)
       have KK:=hidd (And.intro k2 k3)
       have B3:=hidd b3
       clear k1 k2 k3 k4 b3 hwK CS A1 AW
       have ER:=hidd er
       clear er
       go_wp2_with fail
       refine PJ.out.mono ?_
       rintro e w4 ⟨sl,P,rfl,p1,p2,p3,p4⟩
       have FN:=hidd (And.intro p1 (And.intro p2 p3))
       have B4:=hidd (belowT B2.out (B3.out.trans p4))
       clear p1 p2 p3 p4 PJ
       obtain ⟨pp,cc,rfl,-⟩:=own_slice FN.out.2.2
       go_wp2
       go_ret2
       refine ⟨.inr (.inr (.inr ⟨hT.out,HW.out,H1.out,_,P,rfl,fun r' hr'=>?_,by have:=KK.out.2;have:=FN.out.2.1;omega,Lst.own FN.out.2.2,own_addr FN.out.2.2,own_mono FN.out.2.2 B2.out.size⟩)),B4.out⟩
       have pk:=FN.out.1.congr KK.out.1
       by_cases hL:L=[]
       · subst hL
         have hP:=packed_nil (by rw [← ER.out];simp) pk
         subst hP
         refine ⟨List.Pairwise.nil,fun x hx=>by simp at hx,fun x hx=>by simp at hx,fun v hv hr h=>by have:=h 0 (by omega);simp at this,fun x hx hr=>?_⟩
         constructor
         · rintro ⟨q,hq,_⟩;simp at hq
         · intro h;simp at h
       · have:r=r':=by
          cases L with
          | nil=>exact absurd rfl hL
          | cons y M =>
           have h1:=hr' y (List.mem_cons_self ..)
           have h2:=ER.out
           simp only at h2
           omega
         rw [← this];exact pk
     · have A1:=hidd fun w h=>p_areOne (.slice p n cap) L HN.out hW false (by simp [h1]) w h
       have H1:=hidd h1
       clear hW h1
       go_enter Tryz.func42,Tryz.ntmps42
       go_wp2_with fail
       refine (AW.out _ HL.out).mono ?_
       rintro e w1 ⟨rfl,b1⟩
       have L1:=hidd (HL.out.keep b1)
       have B1:=hidd b1
       clear b1
       go_wp2_with fail
       refine (A1.out _ L1.out).mono ?_
       rintro e w2 ⟨rfl,b2⟩
       have B2:=hidd (belowT B1.out b2)
       clear b2 L1 B1
       go_wp2
       go_ret2
       exact ⟨.inr (.inr (.inl ⟨hT.out,HW.out,H1.out,rfl⟩)),B2.out⟩
   · have AW:=hidd fun w h=>p_areWords (.slice p n cap) L HN.out UL.out false (by simp only [Bool.false_eq_true,false_iff];exact hW) w h
     have HW:=hidd hW
     clear hW
     go_enter Tryz.func42,Tryz.ntmps42
     go_wp2_with fail
     refine (AW.out _ HL.out).mono ?_
     rintro e w1 ⟨rfl,b1⟩
     have B1:=hidd b1
     clear b1
     go_wp2
     go_ret2
     exact ⟨.inr (.inl ⟨hT.out,HW.out,rfl⟩),B1.out⟩
def kidL (v:Int) (k:Nat):List Value:=(List.range k).map fun d=>Value.int .u64 (chW v d)
theorem kidL_step (v:Int) (k:Nat):kidL v (k+1)=kidL v k++[.int .u64 (chW v k)]:=by unfold kidL;rw [List.range_succ,List.map_append];rfl
theorem kidL_at (v:Int) (d:Nat) (h:d < 7):(kidL v 7)[d]?=some (.int .u64 (chW v d)):=by unfold kidL;simp [h]
def TellsKW (v:Int) (e:Ending) (w':World):Prop:=∃ g cap,e=.returned (.slice (some ⟨g,0,none⟩) 7 cap)∧∀ d < 7,w'.cell? ⟨g,d,none⟩=some (.int .u64 (chW v d))
set_option maxHeartbeats 8000000 in
set_option maxRecDepth 20000 in
theorem rkidsW (v:Int) (h:Whole v) (hr:wR v < 12) (w:World) :
 Calls Tryz.prog 50 #[.int .u64 v] w fun e w'=>TellsKW v e w'∧Below w.heap.size w w':=by
 have hb:=wR_box v
 have CE:Hid _:=rwcell_yes v h
 have KE:Hid _:=rkids_yes (wR v) (cellA v) (cellB v) (cell_ok h) hr
 have WE:Hid (∀ k:Nat,k < 7→∀ w,Calls Tryz.prog 73 #[.agg #[.int .i64 (kidG (wR v) (cellA v) (cellB v) (k*3)),.int .i64 (kidG (wR v) (cellA v) (cellB v) (k*3+1)),.int .i64 (kidG (wR v) (cellA v) (cellB v) (k*3+2))]] w fun e w'=>e=.returned (.tuple #[.int .u64 (chW v k),.int .i64 0])∧Below w.heap.size w w'):=by
  intro k hk w
  have hc:=child_word h hr (show k≤6 by omega)
  have:=rword_yes _ _ _ hc.1 w
  rw [hc.2] at this
  rw [kidG_0,kidG_1,kidG_2,show wR v+1=(((wR v).toNat+1:Nat):Int) by omega]
  exact this
 clear h
 generalize hR:wR v=R at *
 generalize cellA v=A at *
 generalize cellB v=B at *
 generalize kidG R A B=G at *
 clear hR
 go_enter Tryz.func50,Tryz.ntmps50
 go_wp2_with fail
 refine (CE.out _).mono ?_
 rintro e w1 ⟨rfl,d1⟩
 have c1:Below w.heap.size w w1:=Below.trans (by go_grown) (d1.mono (by simp;try omega))
 have hB:=c1
 clear c1 d1
 go_wp2_with fail
 refine (KE.out _).mono ?_
 rintro e w2 ⟨⟨g,cap,rfl,hG⟩,d2⟩
 have c2:Below w1.heap.size w1 w2:=Below.trans (by go_grown) (d2.mono (by simp;try omega))
 replace hB:=belowT hB c2
 clear c2 d2 CE KE
 replace hG:Hid _:=hG
 have hgl:g < w2.heap.size:=World.block_lt_of_cell? _ _ (hG.out 0 (by omega))
 obtain ⟨i0,hi,hz0,hz1,hz2⟩:=info_parts infoU64
 go_wp2_with fail
 go_loopw [7,8] (fun v7 v8 wr=>∃ k:Nat,k≤7∧v8=.int .i64 (k:Int)∧Hid (wr.ownsRow w2.heap.size 35 1 v7 k (kidL v k))∧Below w2.heap.size w2 wr) (fun _ v8 _=>7 - (intOf v8).toNat)
 case atStart=>exact ⟨0,by omega,rfl,World.ownsRow_nil _ _ _ _,Below.refl _ _⟩
 case round =>
  obtain ⟨k,hk,rfl,hO,hX⟩:=hrel
  by_cases hlt:k < 7
  · have s0:=keepLow hX (hG.out (k*3) (by omega)) (by simp;omega)
    have s1:=keepLow hX (hG.out (k*3+1) (by omega)) (by simp;omega)
    have s2:=keepLow hX (hG.out (k*3+2) (by omega)) (by simp;omega)
    have WK:Hid _:=WE.out k hlt
    have hrow:Hid _:=kidL_step v k
    generalize G (k*3)=g0 at *
    generalize G (k*3+1)=g1 at *
    generalize G (k*3+2)=g2 at *
    generalize chW v k=x at *
    clear WE hgl
    go_wp2_with fail
    refine (WK.out _).mono ?_
    rintro e w3 ⟨rfl,d3⟩
    have hX3:=hX.trans (d3.mono hX.size)
    have hwz3:w2.heap.size≤w3.heap.size:=hX3.size
    have hO3:Hid (w3.ownsRow w2.heap.size 35 1 u7 k (kidL v k)):=own_keep d3 hO.out
    clear d3 hO hX s0 s1 s2 WK
    go_wp2_with (at_builtin;refine wpList_append_own _ rfl (.tmp 39) (.tmp 41) 22 rfl w2.heap.size 35 i0 (.int .u64 0) 1 8 Tryz.underlying22 hi hz0 hz1 hz2 rfl (by decide) _ _ _ rfl (own_keep (allocB _ _) hO3.out) ⟨w3.heap.size,0,none⟩ 1 1 [.int .u64 x] rfl rfl (one_lies _ _ rfl _ _) (one_int _ _) (by unfold maxLen;omega) (by omega) (by simp;omega) ?_)
    intro v' w5 hown hgrow _
    have hX5:=(hX3.alloc hwz3 (.cells #[.int .u64 x] 35)).grown hgrow (by simp;omega) (own_block hO3.out)
    have hO5:Hid (w5.ownsRow w2.heap.size 35 1 v' (k+1) (kidL v (k+1))):=by rw [hrow.out];exact hown
    clear hown hgrow hO3 hX3 hwz3
    go_wp2
    go_roundw
    case rel=>exact ⟨k+1,by omega,by go_num,hO5,hX5⟩
    case measure=>simp [intOf];omega
  · obtain rfl:k=7:=by omega
    obtain ⟨g',cap',rfl⟩:=own_shape hO.out (by omega)
    have hZ:Below w.heap.size w wr:=hB.trans (hX.mono (by have:=hB.size;omega))
    clear WE hgl
    go_wp2
    go_ret
    refine ⟨⟨g',cap',rfl,fun d hd=>?_⟩,hZ⟩
    rw [hO.out.cellAt d (by omega)]
    exact kidL_at v d hd
theorem kidL_one (y:Int):∀ v∈kidL y 7,v.oneCell'=true:=by
 intro v hv
 obtain ⟨d,_,rfl⟩:=List.mem_map.1 hv
 rfl
theorem kidL_len (y:Int) (k:Nat):(kidL y k).length=k:=by simp [kidL]
theorem kidL_lies {w:World} {g:Nat} {y:Int} (h:∀ d < 7,w.cell? ⟨g,d,none⟩=some (.int .u64 (chW y d))):∀ j u,(kidL y 7)[j]?=some u→w.cell? ((⟨g,0,none⟩:Addr).add j)=some u:=by
 intro j u hj
 have hl:j < 7:=by rw [List.getElem?_eq_some_iff] at hj;have:=hj.1;rwa [kidL_len] at this
 rw [show (⟨g,0,none⟩:Addr).add j=⟨g,j,none⟩ by simp [Addr.add] <;>(intro h;omega),h j hl,← hj,kidL_at y j hl]
theorem cntR_snoc (r:Nat) (w:Int):∀ L:List Int,cntR r (L++[w])=cntR r L+7^(r - (wR w).toNat)
 | []=>by show 7^_+0=0+7^_;omega
 | x :: L=>by show 7^_+cntR r (L++[w])=7^_+cntR r L+7^_;rw [cntR_snoc r w L];omega
theorem seven_pos (k:Nat):(1:Int)≤7^k:=by have:(0:Int) < 7^k:=Int.pow_pos (by omega);omega
theorem cntR_append (r:Nat):∀ L M:List Int,cntR r (L++M)=cntR r L+cntR r M
 | [],M=>by show _=0+_;simp
 | x :: L,M=>by show 7^_+cntR r (L++M)=7^_+cntR r L+cntR r M;rw [cntR_append r L M];omega
theorem cntR_pos (r:Nat):∀ L:List Int,(L.length:Int)≤cntR r L
 | []=>by simp [cntR]
 | x :: L=>by have:=cntR_pos r L;have:=seven_pos (r - (wR x).toNat);show _≤7^_+cntR r L;simp;omega
theorem cntR_take (r:Nat) (L:List Int) (i:Nat):cntR r (L.take i)≤cntR r L:=by
 have h:=cntR_append r (L.take i) (L.drop i)
 rw [List.take_append_drop] at h
 have:=cntR_pos r (L.drop i)
 omega
theorem cntR_next (r:Nat) {L:List Int} {i:Nat} (h:i < L.length):cntR r (L.take (i+1))=cntR r (L.take i)+7^(r - (wR L[i]).toNat):=by
 rw [List.take_succ_eq_append_getElem h,cntR_snoc]
def SizeT (L:List Int) (r z t:Int):Prop :=
 ((¬ ∀ x∈L,Whole x)∧z=0∧t=5) ∨
 ((∀ x∈L,Whole x)∧(∃ x∈L,r < wR x)∧z=0∧t=8) ∨
 ((∀ x∈L,Whole x)∧(∀ x∈L,wR x≤r)∧¬ (0≤r∧r≤12)∧z=0∧t=1) ∨
 ∃ n:Nat,r=(n:Int)∧n≤12∧WithinR n L∧((1099511627776 < cntR n L∧z=0∧t=7)∨(cntR n L≤1099511627776∧z=cntR n L∧t=0))
theorem SizeT.one {L:List Int} {r z t z' t':Int} (h:SizeT L r z t) (h':SizeT L r z' t'):z=z'∧t=t':=by
 have no:∀ {n:Nat},WithinR n L→∀ x∈L,Whole x:=fun h x hx=>(h x hx).1
 rcases h with ⟨a,rfl,rfl⟩ | ⟨a,⟨x,hx,b⟩,rfl,rfl⟩ | ⟨a,b,c,rfl,rfl⟩ | ⟨n,rfl,a,b,c⟩
 · rcases h' with ⟨_,rfl,rfl⟩ | ⟨a',_⟩ | ⟨a',_⟩ | ⟨n,_,_,b',_⟩
   · exact ⟨rfl,rfl⟩
   · exact absurd a' a
   · exact absurd a' a
   · exact absurd (no b') a
 · rcases h' with ⟨a',_⟩ | ⟨_,_,rfl,rfl⟩ | ⟨_,b',_⟩ | ⟨n,e,_,b',_⟩
   · exact absurd a a'
   · exact ⟨rfl,rfl⟩
   · have:=b' x hx;omega
   · have:=(b' x hx).2;omega
 · rcases h' with ⟨a',_⟩ | ⟨_,⟨x,hx,b'⟩,_⟩ | ⟨_,_,_,rfl,rfl⟩ | ⟨n,e,e2,_⟩
   · exact absurd a a'
   · have:=b x hx;omega
   · exact ⟨rfl,rfl⟩
   · exact absurd ⟨by omega,by omega⟩ c
 · rcases h' with ⟨a',_⟩ | ⟨_,⟨x,hx,b'⟩,_⟩ | ⟨_,_,c',_⟩ | ⟨n',e,_,_,c'⟩
   · exact absurd (no b) a'
   · have:=(b x hx).2;omega
   · exact absurd ⟨by omega,by omega⟩ c'
   · obtain rfl:n=n':=by omega
     rcases c with ⟨c1,rfl,rfl⟩ | ⟨c1,rfl,rfl⟩ <;>rcases c' with ⟨c2,rfl,rfl⟩ | ⟨c2,rfl,rfl⟩
     · exact ⟨rfl,rfl⟩
     · omega
     · omega
     · exact ⟨rfl,rfl⟩
theorem seven_box {k:Nat} (h:k≤12):(1:Int)≤7^k∧(7:Int)^k≤13841287201:=by
 have:=seven_pos k
 have h2:(7:Nat)^k≤7^12:=Nat.pow_le_pow_right (by omega) h
 have e:((7^k:Nat):Int)=(7:Int)^k:=by push_cast;rfl
 have:(7:Nat)^12=13841287201:=by decide
 omega
theorem r_seven (K:Nat) (hK:K≤12) (w:World):Calls Tryz.prog 78 #[.int .i64 (K:Int)] w fun e w'=>e=.returned (.int .i64 (7^K))∧Below w.heap.size w w':=by
 have h:=rseven_any K hK w
 rwa [sev_pow hK] at h
theorem size_mask {x:Int} (h:Whole x):bits .and .u64 (x / 72057594037927936) 15=wR x:=by
 have hb:=whole_box h
 rw [umask4 _ ⟨by omega,by omega⟩]
 rfl
set_option maxHeartbeats 8000000 in
set_option maxRecDepth 20000 in
theorem r_size (s:Value) (L:List Int) (r:Int) (hr: -9223372036854775808≤r∧r≤9223372036854775807) (hn:L.length≤50000) (uL:∀ x∈L,U64 x) (w:World) (hl:Lst w s L) :
 Calls Tryz.prog 51 #[s,.int .i64 r] w fun e w'=>(∃ z t,e=.returned (.tuple #[.int .i64 z,.int .i64 t])∧SizeT L r z t)∧Below w.heap.size w w':=by
 obtain ⟨p,cap,hs,-,hc⟩:=hl
 obtain ⟨n,en⟩:∃ n,L.length=n:=⟨_,rfl⟩
 have EN:=hidd en
 rw [en] at hs hn
 subst hs
 have UL:=hidd uL
 have HC:=hidd hc
 clear uL en hc
 go_enter Tryz.func51,Tryz.ntmps51
 go_wp2_with fail
 go_loopw [6] (fun v6 wr=>∃ i:Nat,i≤n∧v6=.int .i64 (i:Int)∧Hid (∀ (j:Nat) (hj:j < L.length),j < i→Whole L[j])∧Below w.heap.size w wr) (fun v6 _=>n - (intOf v6).toNat)
 case atStart=>exact ⟨0,by omega,rfl,hidd fun j _ h=>absurd h (Nat.not_lt_zero _),Below.refl _ _⟩
 case round =>
  obtain ⟨i,hi,rfl,hI,hB⟩:=hrel
  by_cases hlt:i < n
  · have hiL:i < L.length:=by rw [EN.out];exact hlt
    obtain ⟨g,o,rfl,x1⟩:=HC.out i hiL
    replace x1:=keepCell hB x1
    have hu:=UL.out _ (List.getElem_mem hiL)
    have hm:=hidd (List.getElem_mem hiL)
    by_cases hW:Whole L[i]
    · have IK:=hidd fun w=>risword_yes L[i] hW w
      have hI2:Hid (∀ (j:Nat) (hj:j < L.length),j < i+1→Whole L[j]):=hidd fun j hj h=>by
       rcases Nat.lt_or_ge j i with k | k
       · exact hI.out j hj k
       · obtain rfl:j=i:=by omega
         exact hW
      clear hW hI hm
      generalize L[i]'_=x at *
      go_wp2_with fail
      refine (IK.out _).mono ?_
      rintro e w1 ⟨rfl,b1⟩
      have B1:=belowT hB b1
      go_wp2_with fail
      go_roundw
      case rel=>exact ⟨i+1,by omega,by go_num,hI2,B1⟩
      case measure=>simp [intOf];omega
    · have IK:=hidd fun w=>risword_no L[i] hu hW w
      have hT:Hid (SizeT L r 0 5):=hidd (.inl ⟨fun h=>hW (h _ hm.out),rfl,rfl⟩)
      clear hW hI hm
      generalize L[i]'_=x at *
      go_wp2_with fail
      refine (IK.out _).mono ?_
      rintro e w1 ⟨rfl,b1⟩
      have B1:=belowT hB b1
      go_wp2_with fail
      go_ret2
      exact ⟨⟨0,5,rfl,hT.out⟩,B1⟩
  · obtain rfl:i=n:=by omega
    have HW:Hid (∀ x∈L,Whole x):=hidd fun x hx=>by
     obtain ⟨j,hj,rfl⟩:=List.mem_iff_getElem.1 hx
     exact hI.out j hj (by rw [← EN.out];exact hj)
    have hlt':decide (i < i)=false:=by simp
    clear hI hlt
    go_wp2_with fail
    go_loopw [7] (fun v7 w2=>∃ k:Nat,k≤i∧v7=.int .i64 (k:Int)∧Hid (∀ (j:Nat) (hj:j < L.length),j < k→wR L[j]≤r)∧Below w.heap.size w w2) (fun v7 _=>i - (intOf v7).toNat)
    case atStart=>exact ⟨0,by omega,rfl,hidd fun j _ h=>absurd h (Nat.not_lt_zero _),hB⟩
    case round =>
     clear hB
     obtain ⟨k,hk,rfl,hI,hB⟩:=hrel
     by_cases hlt:k < i
     · have hkL:k < L.length:=by rw [EN.out];exact hlt
       obtain ⟨g,o,rfl,x1⟩:=HC.out k hkL
       replace x1:=keepCell hB x1
       have hu:=UL.out _ (List.getElem_mem hkL)
       have hm:=hidd (List.getElem_mem hkL)
       have hwk:=HW.out _ hm.out
       have X1:=size_mask hwk
       have hbx:=wR_box L[k]
       by_cases hrk:r < wR L[k]
       · have hT:Hid (SizeT L r 0 8):=hidd (.inr (.inl ⟨HW.out,⟨_,hm.out,hrk⟩,rfl,rfl⟩))
         clear hI hm hwk
         generalize wR L[k]=R at *
         generalize L[k]'_=x at *
         obtain ⟨X,eX⟩:∃ X,x / 72057594037927936=X:=⟨_,rfl⟩
         rw [eX] at X1
         go_wp2_with fail
         go_ret2
         exact ⟨⟨0,8,rfl,hT.out⟩,hB⟩
       · have hI2:Hid (∀ (j:Nat) (hj:j < L.length),j < k+1→wR L[j]≤r):=hidd fun j hj h=>by
          rcases Nat.lt_or_ge j k with q | q
          · exact hI.out j hj q
          · obtain rfl:j=k:=by omega
            omega
         have hrk':decide (r < wR L[k])=false:=df hrk
         clear hI hm hwk hrk
         generalize wR L[k]=R at *
         generalize L[k]'_=x at *
         obtain ⟨X,eX⟩:∃ X,x / 72057594037927936=X:=⟨_,rfl⟩
         rw [eX] at X1
         go_wp2_with fail
         go_roundw
         case rel=>exact ⟨k+1,by omega,by go_num,hI2,hB⟩
         case measure=>simp [intOf];omega
     · obtain rfl:k=i:=by omega
       have HF:Hid (∀ x∈L,wR x≤r):=hidd fun x hx=>by
        obtain ⟨j,hj,rfl⟩:=List.mem_iff_getElem.1 hx
        exact hI.out j hj (by rw [← EN.out];exact hj)
       clear hI hlt
       by_cases hrr:0≤r∧r≤12
       · obtain ⟨m,rfl⟩:=Int.eq_ofNat_of_zero_le hrr.1
         have hm:m≤12:=by omega
         have q1:decide ((m:Int) < 0)=false:=df (by omega)
         have q2:decide ((12:Int) < (m:Int))=false:=df (by omega)
         have WI:Hid (WithinR m L):=hidd fun x hx=>⟨HW.out x hx,HF.out x hx⟩
         clear hrr HW HF
         go_wp2_with fail
         go_loopw [8,9] (fun v8 v9 w3=>∃ (q:Nat) (z:Int),q≤k∧v9=.int .i64 (q:Int)∧v8=.int .i64 z∧0≤z∧z≤1099511627776∧Hid (z=cntR m (L.take q))∧Below w.heap.size w w3) (fun _ v9 _=>k - (intOf v9).toNat)
         case atStart=>exact ⟨0,0,by omega,rfl,rfl,by omega,by omega,hidd rfl,hB⟩
         case round =>
          clear hB
          obtain ⟨q,z,hq,rfl,rfl,z0,z1,hz,hB⟩:=hrel
          by_cases hlt:q < k
          · have hqL:q < L.length:=by rw [EN.out];exact hlt
            obtain ⟨g,o,rfl,x1⟩:=HC.out q hqL
            replace x1:=keepCell hB x1
            have hwq:=WI.out _ (List.getElem_mem hqL)
            have hu:=UL.out _ (List.getElem_mem hqL)
            have X1:=size_mask hwq.1
            have hbx:=wR_box L[q]
            have NX:=hidd (cntR_next m hqL)
            obtain ⟨K,hK⟩:∃ K:Nat,m - (wR L[q]).toNat=K:=⟨_,rfl⟩
            rw [hK] at NX
            have eK:(m:Int) - wR L[q]=(K:Int):=by omega
            have hK12:K≤12:=by omega
            have PW:=hidd fun w=>r_seven K hK12 w
            have bx:=seven_box hK12
            clear hwq hK
            obtain ⟨Z,hZ⟩:∃ Z,(7:Int)^K=Z:=⟨_,rfl⟩
            rw [hZ] at NX PW bx
            clear hZ
            generalize wR L[q]=R at *
            generalize L[q]'_=x at *
            obtain ⟨X,eX⟩:∃ X,x / 72057594037927936=X:=⟨_,rfl⟩
            rw [eX] at X1
            have hcnt:Hid (z+Z=cntR m (L.take (q+1))):=hidd (by rw [NX.out,hz.out])
            have hle:=hidd (cntR_take m L (q+1))
            clear NX hz
            by_cases hmany:1099511627776 < z+Z
            · have hT:Hid (SizeT L (m:Int) 0 7):=hidd (.inr (.inr (.inr ⟨m,rfl,hm,WI.out,.inl ⟨by have:=hle.out;have:=hcnt.out;omega,rfl,rfl⟩⟩)))
              clear hcnt hle
              go_wp2_with fail
              refine (PW.out _).mono ?_
              rintro e w4 ⟨rfl,b4⟩
              have B4:=belowT hB b4
              go_wp2_with fail
              go_ret2
              exact ⟨⟨0,7,rfl,hT.out⟩,B4⟩
            · have hmany':decide (1099511627776 < z+Z)=false:=df hmany
              go_wp2_with fail
              refine (PW.out _).mono ?_
              rintro e w4 ⟨rfl,b4⟩
              have B4:=belowT hB b4
              go_wp2_with fail
              go_roundw
              case rel=>exact ⟨q+1,z+Z,by omega,by go_num,rfl,by omega,by omega,hcnt,B4⟩
              case measure=>simp [intOf];omega
          · obtain rfl:q=k:=by omega
            have hT:Hid (SizeT L (m:Int) z 0):=hidd (.inr (.inr (.inr ⟨m,rfl,hm,WI.out,.inr ⟨by have:=hz.out;rw [List.take_of_length_le (by rw [EN.out];omega)] at this;omega,by have:=hz.out;rwa [List.take_of_length_le (by rw [EN.out];omega)] at this,rfl⟩⟩)))
            clear hz hlt
            go_wp2_with fail
            go_ret2
            exact ⟨⟨z,0,rfl,hT.out⟩,hB⟩
       · have hT:Hid (SizeT L r 0 1):=hidd (.inr (.inr (.inl ⟨HW.out,HF.out,hrr,rfl,rfl⟩)))
         have hq:r < 0∨(decide (r < 0)=false∧12 < r):=by
          by_cases h:r < 0
          · exact .inl h
          · exact .inr ⟨df h,by omega⟩
         clear hrr HW HF
         rcases hq with hq | ⟨hq,hq2⟩
         all_goals
          go_wp2_with fail
          go_ret2
          exact ⟨⟨0,1,rfl,hT.out⟩,hB⟩
set_option maxHeartbeats 8000000 in
set_option maxRecDepth 20000 in
theorem lset_all (X:List Int) (n:Nat) (hX:X.length=n) (hn:n≤20000) (hDX:∀ x∈X,U64 x) (pl:Option Addr) (cap:Nat) (w:World)
 (hl:∀ (j:Nat) (hj:j < X.length),∃ g o,pl=some ⟨g,o,none⟩∧w.cell? ⟨g,o+j,none⟩=some (.int .u64 X[j])) :
 Calls Tryz.prog 12 #[.slice pl n cap] w fun e w'=>(∃ (v:Value) (L:List Int),e=.returned v∧Rising L∧(∀ x,x∈L↔x∈X)∧L.length≤n∧w'.ownsRow w.heap.size 35 1 v L.length (vals L))∧Below w.heap.size w w':=by
 replace hl:Hid _:=hl
 replace hDX:Hid _:=hDX
 have hX0:Hid _:=hX
 clear hX
 obtain ⟨i0,hi,hz0,hz1,hz2⟩:=info_parts infoU64
 go_enter Tryz.func12,Tryz.ntmps12
 go_wp2_with fail
 go_loopw [3,4] (fun v3 v4 wr=>∃ (k m:Nat) (L:List Int),k≤n∧v4=.int .i64 (k:Int)∧Hid (m≤k∧L.length=m∧Rising L∧∀ x,x∈L↔x∈X.take k)∧Hid (wr.ownsRow w.heap.size 35 1 v3 m (vals L))∧Below w.heap.size w wr) (fun _ v4 _=>n - (intOf v4).toNat)
 case atStart=>exact ⟨0,0,[],by omega,rfl,hidd ⟨by omega,rfl,List.Pairwise.nil,fun x=>by simp⟩,World.ownsRow_nil _ _ _ _,by go_grown⟩
 case round =>
  obtain ⟨k,m,L,hk,rfl,hM,hO,hB⟩:=hrel
  obtain ⟨wO,rfl⟩:∃ z,z=wr:=⟨_,rfl⟩
  obtain ⟨p,c,rfl,hp⟩:=own_slice hO.out
  replace hp:Hid _:=hp
  have hmk:=hM.out.1
  have hm2:m≤20000:=by omega
  by_cases hlt:k < n
  · have hxk:k < X.length:=by rw [hX0.out];exact hlt
    have hDx:Hid (U64 X[k]):=hDX.out _ (List.getElem_mem hxk)
    have hTK:Hid (X.take (k+1)=X.take k++[X[k]]):=hidd (take_next hxk)
    obtain ⟨gl,ol,rfl,hlk0⟩:=hl.out k hxk
    have hgl:gl < w.heap.size:=World.block_lt_of_cell? _ _ hlk0
    have c0:=keepLow hB hlk0 hgl
    have hlk:Hid (w.cell? ⟨gl,ol+k,none⟩=some (.int .u64 X[k])):=hlk0
    clear hlk0
    have hxu:=hDx.out
    generalize X[k]=x at *
    obtain ⟨x0,x1⟩:=hxu
    have hO2:=hO
    have hB2:=hB
    go_wp2_with fail
    go_loopw [5,6] (fun v5 v6 w2=>∃ lo hi:Nat,lo≤hi∧hi≤m∧v5=.int .i64 (lo:Int)∧v6=.int .i64 (hi:Int)∧Below wO.heap.size wO w2∧Hid (Seek L x lo hi)) (fun v5 v6 _=>(intOf v6 - intOf v5).toNat)
    case atStart=>exact ⟨0,m,by omega,by omega,rfl,rfl,Below.refl _ _,hidd ⟨fun t ht hl=>by omega,fun t ht hl=>by have:=hM.out.2.1;omega⟩⟩
    case round =>
     obtain ⟨lo,hi',h1,h2,rfl,rfl,hb2,hSK⟩:=hrel
     by_cases hlh:lo < hi'
     · obtain ⟨mid,hmid⟩:∃ mid,(lo+hi') / 2=mid:=⟨_,rfl⟩
       have m1:lo≤mid:=by omega
       have m2:mid < hi':=by omega
       have m3:mid < m:=by omega
       have em:((lo:Int)+(hi':Int)).tdiv 2=(mid:Int):=by rw [Int.tdiv_eq_ediv_of_nonneg (by omega)];omega
       clear hmid
       obtain ⟨g,rfl⟩:=own_some hp.out (by omega)
       have hmL:mid < L.length:=by rw [hM.out.2.1];exact m3
       have cy:=(own_keep hb2 hO.out).cellAt mid (by omega)
       rw [vals_at L mid hmL] at cy
       have cx:=keepCell hb2 c0
       have hyu:=hDX.out _ (List.mem_of_mem_take ((hM.out.2.2.2 _).1 (List.getElem_mem hmL)))
       have hUp:=hidd (fun h=>hSK.out.up hM.out.2.2.1 hmL h)
       have hDn:=hidd (fun h=>hSK.out.down hM.out.2.2.1 hmL h)
       generalize L[mid]=y at *
       obtain ⟨y0,y1⟩:=hyu
       have hlh':(lo:Int) < (hi':Int):=by omega
       clear hxk hmL
       have hq:y < x∨decide (y < x)=false:=by simp only [decide_eq_false_iff_not];omega
       rcases hq with hq | hq
       · go_wp2_with fail
         go_quiet (fail)
         go_wp2
         go_roundw
         case rel=>exact ⟨mid+1,hi',by omega,by omega,by go_num,rfl,hb2.trans ⟨rfl,rfl,rfl,Nat.le_refl _,fun _ _=>rfl⟩,hidd (hUp.out hq)⟩
         case measure=>simp [intOf];omega
       · go_wp2_with fail
         go_quiet (fail)
         go_wp2
         go_roundw
         case rel=>exact ⟨lo,mid,by omega,by omega,rfl,rfl,hb2.trans ⟨rfl,rfl,rfl,Nat.le_refl _,fun _ _=>rfl⟩,hidd (hDn.out (by simpa using hq))⟩
         case measure=>simp [intOf];omega
     · obtain rfl:lo=hi':=by omega
       have hlh':decide ((lo:Int) < (lo:Int))=false:=by simp
       have cx:=keepCell hb2 c0
       have hOc:Hid (wr.ownsRow w.heap.size 35 1 (.slice p m c) m (vals L)):=own_keep hb2 hO.out
       have hBc:=hB.trans (hb2.mono hB.size)
       have hcase:((lo:Int) < (m:Int)∧Hid (x∈L)∧∃ g,p=some ⟨g,0,none⟩∧wr.cell? ⟨g,lo,none⟩=some (.int .u64 x))∨((lo:Int) < (m:Int)∧Hid (∀ (t:Nat) (ht:t < L.length),lo≤t→x < L[t])∧∃ g,p=some ⟨g,0,none⟩∧∃ y,wr.cell? ⟨g,lo,none⟩=some (.int .u64 y)∧(y == x)=false)∨(Hid (∀ (t:Nat) (ht:t < L.length),lo≤t→x < L[t])∧decide (lo < m)=false):=by
        by_cases h:lo < m
        · obtain ⟨g,rfl⟩:=own_some hp.out (by omega)
          have hmL:lo < L.length:=by rw [hM.out.2.1];exact h
          have cy:=hOc.out.cellAt lo (by omega)
          rw [vals_at L lo hmL] at cy
          by_cases hxy:L[lo]=x
          · exact .inl ⟨by omega,hidd (hxy ▸ List.getElem_mem hmL),g,rfl,by rw [cy,hxy]⟩
          · refine .inr (.inl ⟨by omega,hidd fun t ht hl=>?_,g,rfl,_,cy,by simpa using hxy⟩)
            have h3:=hSK.out.2 lo hmL (Nat.le_refl _)
            have h4:=rise_le hM.out.2.2.1 hmL ht hl
            omega
        · exact .inr (.inr ⟨hidd fun t ht hl=>by have:=hM.out.2.1;omega,decide_eq_false h⟩)
       clear hO2 hB2 hxk
       have hLow:=hidd hSK.out.1
       clear hSK
       rcases hcase with ⟨hlm,hxL,g,rfl,cy⟩ | ⟨hlm,hHi,g,rfl,y,cy,hxy⟩ | ⟨hHi,hlm⟩
       · have hm0:0 < m:=by omega
         go_wp2_with fail
         go_quiet (fail)
         have dq:Below wr.heap.size wr (wr.drewN nq):=⟨rfl,rfl,rfl,Nat.le_refl _,fun _ _=>rfl⟩
         generalize wr.drewN nq=wq at *
         have hOq:Hid (wq.ownsRow w.heap.size 35 1 (.slice (some ⟨g,0,none⟩) m c) m (vals L)):=own_keep dq hOc.out
         have hBq:=hBc.trans (dq.mono hBc.size)
         go_wp2
         go_roundw
         case rel =>
          refine ⟨k+1,m,L,by omega,by go_num,hidd ⟨by omega,hM.out.2.1,hM.out.2.2.1,fun y=>?_⟩,hOq,hBq⟩
          rw [hTK.out,List.mem_append,List.mem_singleton,← hM.out.2.2.2 y]
          constructor
          · exact fun h=>.inl h
          · rintro (h | rfl)
            · exact h
            · exact hxL.out
         case measure=>simp [intOf];omega
       all_goals
        go_wp2_with fail
        go_quiet (fail)
        have dq:Below wr.heap.size wr (wr.drewN nq):=⟨rfl,rfl,rfl,Nat.le_refl _,fun _ _=>rfl⟩
        generalize wr.drewN nq=wq at *
        have hOq:=hidd (own_keep dq hOc.out)
        have hBq:=hBc.trans (dq.mono hBc.size)
        have cxq:=keepCell dq cx
        have hBqs:=hBq.size
        have hqs:=dq.size
        have hBcs:=hBc.size
        go_wp2_with (at_builtin;refine wpList_append_own _ rfl (.tmp 50) (.tmp 51) 22 rfl w.heap.size 35 i0 (.int .u64 0) 1 8 Tryz.underlying22 hi hz0 hz1 hz2 rfl (by decide) _ _ _ rfl (own_keep (allocB _ _) hOq.out) ⟨wq.heap.size,0,none⟩ 1 1 [.int .u64 0] rfl rfl (one_lies _ _ rfl _ _) (one_int _ _) (by unfold maxLen;omega) (by omega) (by simp;omega) ?_)
        intro v' w5 hown hgrow _
        have hB5:=(hBq.alloc hBqs (.cells #[.int .u64 0] 35)).grown hgrow (by simp;omega) (own_block hOq.out)
        have cx5:=hidd (keepLow hB5 hlk.out hgl)
        clear hOq hBq cxq dq hgrow cx hOc hBc hb2 c0 hB hO hp hBqs hqs hBcs
        obtain ⟨g',c',rfl⟩:=own_shape hown (by omega)
        obtain ⟨hlen,hown2⟩:=hown
        rcases hown2 with ⟨h,_⟩ | ⟨g2,c2,cur,h,hbg,hg2,hnc,hcm,hcs,htake⟩
        · cases h
        simp only [Value.slice.injEq,Option.some.injEq,Addr.mk.injEq,and_true,true_and] at h
        obtain ⟨rfl,rfl⟩:=h
        have hloL:lo≤L.length:=by rw [hM.out.2.1];exact h2
        have hIN:=hidd (ins_facts hM.out.2.2.1 hloL hLow.out hHi.out)
        have hcl:cur.toList.length=c':=by simpa using hcs
        have htk:cur.toList.take (m+1)=vals L++[.int .u64 0]:=by simpa using htake
        have hcsl:((vals L).drop lo).length=m - lo:=by rw [List.length_drop,vals_len,hM.out.2.1]
        replace hM:Hid _:=hM
        obtain ⟨CS,eCS⟩:∃ CS,(vals L).drop lo=CS:=⟨_,rfl⟩
        have hsrc:∀ j v,CS[j]?=some v→w5.cell? ((⟨g',lo,none⟩:Addr).add j)=some v:=by
         intro j v hj
         have hjl:j < CS.length:=by rw [List.getElem?_eq_some_iff] at hj;exact hj.1
         rw [← eCS,hcsl] at hjl
         rw [show (⟨g',lo,none⟩:Addr).add j=⟨g',lo+j,none⟩ by simp [Addr.add],cell_of_row w5 g' (lo+j) cur 35 (0,0) hg2,← Array.getElem?_toList]
         have e1:(cur.toList.take (m+1))[lo+j]?=cur.toList[lo+j]?:=by rw [List.getElem?_take,if_pos (by omega)]
         rw [← e1,htk,List.getElem?_append_left (by rw [vals_len,hM.out.2.1];omega),← hj,← eCS,List.getElem?_drop]
        rw [eCS] at hcsl
        have hone:∀ v∈CS,v.oneCell'=true:=by
         intro v hv
         rw [← eCS] at hv
         have:=List.mem_of_mem_drop hv
         unfold vals at this
         obtain ⟨y,_,rfl⟩:=List.mem_map.1 this
         rfl
        replace hsrc:Hid _:=hsrc
        replace hone:Hid _:=hone
        replace htk:Hid _:=htk
        have eCS':Hid _:=eCS
        have hg5:w5.heap[g']?=some (.cells cur.toList.toArray 35 (0,0)):=by simpa using hg2
        replace hg5:Hid _:=hg5
        generalize cur.toList=CL at *
        have hmc:m+1≤c':=hnc
        clear htake hg2 eCS hlen hcs
        have hw1:IntKind.i64.wrap ((lo:Int)+1)=(lo:Int)+1:=by rw [IntKind.wrap_i64];omega
        have hw2:(0:Int)≤(lo:Int)+1:=by omega
        have hw3:(lo:Int)+1≤(m:Int)+1:=by omega
        have hw4:(lo:Int)≤(m:Int)+1:=by omega
        have hw5:lo≤m+1:=by omega
        have hw6:¬ c'=lo:=by omega
        have hw7:((lo:Int)+1).toNat=lo+1:=by omega
        have hinf:Hid ((Tryz.prog.info? 35).map (·.size)=some 1):=by show _=_;kernel_rfl
        have hn1:Hid (CS.length=Nat.min (m+1 - lo) (m - lo)):=by show _=min _ _;omega
        have hfit:Hid (lo+1+CS.length≤CL.length):=by show _≤_;omega
        by_cases hc1:c'=lo+1
        · first
           | (exfalso;omega)
           | (obtain rfl:=hc1
              obtain rfl:m=lo:=by omega
              have hn2:Hid (CS.length=Nat.min 1 0):=by show _=min _ _;omega
              have hw8:(m:Int)≤(m:Int)+1:=by omega
              go_wp2_with fail
              go_region_law (refine step_copy_splice rfl (.tmp 56) (.tmp 59) 22 22 rfl 35 Tryz.underlying22 hinf.out (some ⟨g',0,none⟩) (some ⟨g',m,none⟩) 0 0 1 1 (by simp [Act.eval,Act.put]) (by simp [Act.eval,Act.put]) g' (m+1) CL 35 hg5.out CS hn2.out (fun hp0=>by exfalso;omega) hfit.out hone.out w.heap.size w hB5.drew hbg ?_;intro w6 hg6 hB6)
              have hspl:(splice CL (m+1) CS).length=(m+1):=by rw [length_splice _ _ _ hfit.out];exact hcl
              have own6:w6.ownsRow w.heap.size 35 1 (.slice (some ⟨g',0,none⟩) (m+1) (m+1)) (m+1) ((splice CL (m+1) CS).take (m+1)) :=
               ⟨by rw [List.length_take,hspl];omega,.inr ⟨g',(m+1),(splice CL (m+1) CS).toArray,rfl,hbg,hg6.out,hnc,hcm,by simp [hspl],by simp⟩⟩
              have own7:=(own6.stored m (.int .u64 x)).1
              rw [← eCS'.out,set_row hM.out.2.1 h2 htk.out] at own7
              obtain ⟨z,hz⟩:∃ z,w6.cell? ⟨g',m,none⟩=some z:=by
               rw [own6.cellAt m (by omega),List.getElem?_eq_getElem (by rw [List.length_take,hspl];omega)]
               exact ⟨_,rfl⟩
              have hfz:=own6.frozenAt m
              have cx6:w6.cell? ⟨gl,ol+k,none⟩=some (.int .u64 x):=keepLow hB6 hlk.out hgl
              have hL':(L.take m++(x :: L.drop m)).length=m+1∧Rising (L.take m++(x :: L.drop m))∧∀ y,y∈L.take m++(x :: L.drop m)↔y∈X.take (k+1):=by
               refine ⟨by simp [hM.out.2.1] <;>omega,hIN.out.1,fun y=>?_⟩
               rw [hIN.out.2 y,hTK.out,List.mem_append,List.mem_singleton,hM.out.2.2.2 y]
              have hB7:=hB6.setCell (p:=⟨g',m,none⟩) (by simpa using hbg) (.int .u64 x)
              replace own7:=hidd own7
              replace hL':=hidd hL'
              replace hB7:=hidd hB7
              clear own6 hspl hg6 hsrc hone htk eCS' hg5 cx5 hl hlk hfit hn1 hinf hcsl
              go_wp2
              go_roundw
              case rel=>exact ⟨k+1,m+1,_,by omega,by go_num,hidd ⟨by omega,hL'.out⟩,own7,hB7.out⟩
              case measure=>simp [intOf];omega)
        · go_wp2_with fail
          go_region_law (refine step_copy_splice rfl (.tmp 56) (.tmp 59) 22 22 rfl 35 Tryz.underlying22 hinf.out (some ⟨g',lo+1,none⟩) (some ⟨g',lo,none⟩) (m - lo) (c' - (lo+1)) (m+1 - lo) (c' - lo) (by simp [Act.eval,Act.put]) (by simp [Act.eval,Act.put]) g' (lo+1) CL 35 hg5.out CS hn1.out (fun _=>⟨rfl,_,rfl,hsrc.out⟩) hfit.out hone.out w.heap.size w hB5.drew hbg ?_;intro w6 hg6 hB6)
          have hspl:(splice CL (lo+1) CS).length=c':=by rw [length_splice _ _ _ hfit.out];exact hcl
          have own6:w6.ownsRow w.heap.size 35 1 (.slice (some ⟨g',0,none⟩) (m+1) c') (m+1) ((splice CL (lo+1) CS).take (m+1)) :=
           ⟨by rw [List.length_take,hspl];omega,.inr ⟨g',c',(splice CL (lo+1) CS).toArray,rfl,hbg,hg6.out,hnc,hcm,by simp [hspl],by simp⟩⟩
          have own7:=(own6.stored lo (.int .u64 x)).1
          rw [← eCS'.out,set_row hM.out.2.1 h2 htk.out] at own7
          obtain ⟨z,hz⟩:∃ z,w6.cell? ⟨g',lo,none⟩=some z:=by
           rw [own6.cellAt lo (by omega),List.getElem?_eq_getElem (by rw [List.length_take,hspl];omega)]
           exact ⟨_,rfl⟩
          have hfz:=own6.frozenAt lo
          have cx6:w6.cell? ⟨gl,ol+k,none⟩=some (.int .u64 x):=keepLow hB6 hlk.out hgl
          have hL':(L.take lo++(x :: L.drop lo)).length=m+1∧Rising (L.take lo++(x :: L.drop lo))∧∀ y,y∈L.take lo++(x :: L.drop lo)↔y∈X.take (k+1):=by
           refine ⟨by simp [hM.out.2.1] <;>omega,hIN.out.1,fun y=>?_⟩
           rw [hIN.out.2 y,hTK.out,List.mem_append,List.mem_singleton,hM.out.2.2.2 y]
          have hB7:=hB6.setCell (p:=⟨g',lo,none⟩) (by simpa using hbg) (.int .u64 x)
          replace own7:=hidd own7
          replace hL':=hidd hL'
          replace hB7:=hidd hB7
          clear own6 hspl hg6 hsrc hone htk eCS' hg5 cx5 hl hlk hfit hn1 hinf hcsl
          go_wp2
          go_roundw
          case rel=>exact ⟨k+1,m+1,_,by omega,by go_num,hidd ⟨by omega,hL'.out⟩,own7,hB7.out⟩
          case measure=>simp [intOf];omega
  · obtain rfl:k=n:=by omega
    have hfin:Hid (Rising L∧(∀ y,y∈L↔y∈X)∧L.length≤k∧wO.ownsRow w.heap.size 35 1 (.slice p m c) L.length (vals L)):=by
     refine hidd ⟨hM.out.2.2.1,fun y=>?_,by rw [hM.out.2.1];omega,by rw [hM.out.2.1];exact hO.out⟩
     rw [hM.out.2.2.2 y,List.take_of_length_le (by rw [hX0.out];omega)]
    clear hl hM hO
    go_wp2
    go_ret
    exact ⟨⟨_,L,rfl,hfin.out⟩,hB⟩
def bf:Nat→Int→List Int
 | 0,v=>[v]
 | t+1,v=>(bf t v).flatMap kidRow
theorem bf_len:∀ (t:Nat) (v:Int),(bf t v).length=7^t
 | 0,v=>rfl
 | t+1,v=>by
  show ((bf t v).flatMap kidRow).length=_
  have:∀ L:List Int,(L.flatMap kidRow).length=L.length*7:=fun L=>by
   induction L with
   | nil=>simp
   | cons a L ih=>rw [List.flatMap_cons,List.length_append,ih,kidRow_len,List.length_cons,Nat.succ_mul];omega
  rw [this,bf_len t v,Nat.pow_succ]
theorem mem_bf:∀ (t:Nat) {v x:Int},Whole v→wR v+(t:Int)≤12→(x∈bf t v↔Whole x∧wR x=wR v+(t:Int)∧Above v x)
 | 0,v,x,h,ht=>by
  show x∈[v]↔_
  rw [List.mem_singleton]
  constructor
  · rintro rfl;exact ⟨h,by simp,above_refl x⟩
  · rintro ⟨hx,hs,ha⟩;exact (ha.eq hx (by omega)).symm
 | t+1,v,x,h,ht=>by
  show x∈(bf t v).flatMap kidRow↔_
  rw [List.mem_flatMap]
  have hb:=wR_box v
  constructor
  · rintro ⟨y,hy,hx⟩
    obtain ⟨h1,h2,h3⟩:=(mem_bf t h (by omega)).1 hy
    obtain ⟨d,hd,rfl⟩:=kidRow_mem.1 hx
    have hw:=kid_whole h1 (by omega) hd
    exact ⟨hw.1,by rw [hw.2.1,h2];omega,h3.trans (above_kid h1 (by omega) hd) hw.1⟩
  · rintro ⟨hx,hs,ha⟩
    have hu:=up_whole hx (by omega)
    rcases above_cases hx ha with e | ⟨_,hau⟩
    · rw [e] at hs;omega
    · obtain ⟨d,hd,e⟩:=kid_of_up hx (by omega)
      exact ⟨upW x,(mem_bf t h (by omega)).2 ⟨hu.1,by rw [hu.2,hs];omega,hau⟩,kidRow_mem.2 ⟨d,hd,e⟩⟩
theorem bf_kin (t:Nat) {v x:Int} (h:Whole v) (ht:wR v+(t:Int)≤12):x∈bf t v↔x∈kin t v:=by rw [mem_bf t h ht,mem_kin t h ht]
def bfR (r:Nat) (L:List Int):List Int:=L.flatMap fun w=>bf (r - (wR w).toNat) w
theorem bfR_mem {r:Nat} (hr:r≤12) {L:List Int} (hL:WithinR r L) {x:Int}:x∈bfR r L↔x∈kinR r L:=by
 unfold bfR kinR
 rw [List.mem_flatMap,List.mem_flatMap]
 constructor
 · rintro ⟨w,hw,hx⟩
   have:=hL w hw
   have hb:=wR_box w
   exact ⟨w,hw,(bf_kin _ this.1 (by omega)).1 hx⟩
 · rintro ⟨w,hw,hx⟩
   have:=hL w hw
   have hb:=wR_box w
   exact ⟨w,hw,(bf_kin _ this.1 (by omega)).2 hx⟩
theorem bfR_next (m:Nat) {L:List Int} {i:Nat} (h:i < L.length):bfR m (L.take (i+1))=bfR m (L.take i)++bf (m - (wR L[i]).toNat) L[i]:=by
 unfold bfR
 rw [List.take_succ_eq_append_getElem h,List.flatMap_append]
 simp
theorem bfR_len (r:Nat):∀ L:List Int,cntR r L=((bfR r L).length:Int)
 | []=>rfl
 | w :: L=>by
  show 7^(r - (wR w).toNat)+cntR r L=_
  unfold bfR
  rw [List.flatMap_cons,List.length_append,bf_len,bfR_len r L]
  unfold bfR
  push_cast
  rfl
theorem bfR_u64 {r:Nat} (hr:r≤12) {L:List Int} (hL:WithinR r L):∀ x∈bfR r L,U64 x:=fun x hx=>by
 have:=((mem_kinR hr hL).1 ((bfR_mem hr hL).1 hx)).1
 have:=whole_box this
 exact ⟨by omega,by omega⟩
theorem flat_next {L:List Int} {i:Nat} (h:i < L.length):(L.take (i+1)).flatMap kidRow=(L.take i).flatMap kidRow++kidRow L[i]:=by
 rw [List.take_succ_eq_append_getElem h,List.flatMap_append]
 simp
theorem kidL_vals (y:Int):kidL y 7=vals (kidRow y):=by unfold kidL vals kidRow;rw [List.map_map];rfl
theorem rs_zero {L:List Int} {r z:Int} (h:SizeT L r z 0):∃ n:Nat,r=(n:Int)∧n≤12∧WithinR n L∧z=cntR n L∧z≤1099511627776:=by
 rcases h with ⟨_,_,h⟩ | ⟨_,_,_,h⟩ | ⟨_,_,_,_,h⟩ | ⟨n,h1,h2,h3,h4⟩
 · omega
 · omega
 · omega
 · rcases h4 with ⟨_,_,h⟩ | ⟨h5,h6,_⟩
   · omega
   · exact ⟨n,h1,h2,h3,h6,by omega⟩
def TellsRS (C:Nat) (L:List Int) (r:Int) (e:Ending) (w':World):Prop :=
 ∃ z t,SizeT L r z t∧((t≠0∧e=.returned (.tuple #[.slice none 0 0,.int .i64 t]))∨(t=0∧20000 < z∧e=.returned (.tuple #[.slice none 0 0,.int .i64 7])) ∨
  (t=0∧z≤20000∧∃ m:Nat,r=(m:Int)∧∃ (sl:Value) (K:List Int),e=.returned (.tuple #[sl,.int .i64 0])∧Rising K∧(∀ x,x∈K↔x∈kinR m L)∧K.length≤20000∧w'.ownsRow C 35 1 sl K.length (vals K)))
set_option maxHeartbeats 8000000 in
set_option maxRecDepth 20000 in
theorem r_spread (s:Value) (L:List Int) (r:Int) (hr: -9223372036854775808≤r∧r≤9223372036854775807) (hn:L.length≤50000) (uL:∀ x∈L,U64 x) (w:World) (hl:Lst w s L) :
 Calls Tryz.prog 26 #[s,.int .i64 r] w fun e w'=>TellsRS w.heap.size L r e w'∧Below w.heap.size w w':=by
 have SZ:=hidd (r_size s L r hr hn uL w hl)
 obtain ⟨p,cap,hs,-,hc⟩:=hl
 obtain ⟨n,en⟩:∃ n,L.length=n:=⟨_,rfl⟩
 have EN:=hidd en
 rw [en] at hs hn
 subst hs
 have HC:=hidd hc
 clear uL en hc
 go_enter Tryz.func26,Tryz.ntmps26
 go_wp2_with fail
 refine SZ.out.mono ?_
 rintro e w1 ⟨⟨z,t,rfl,hz⟩,b1⟩
 have HZ:=hidd hz
 have B1:=hidd b1
 clear SZ b1 hz
 by_cases ht:t=0
 · subst ht
   obtain ⟨m,rfl,hm,hW,hzc,hz40⟩:=rs_zero HZ.out
   have WI:=hidd hW
   have ZC:=hidd hzc
   have hz0:0≤z:=by have:=cntR_pos m L;omega
   clear hW hzc
   by_cases hmany:20000 < z
   · go_wp2
     go_ret2
     exact ⟨⟨z,0,HZ.out,.inr (.inl ⟨rfl,hmany,rfl⟩)⟩,B1.out⟩
   · have hmany':decide (20000 < z)=false:=df hmany
     have hz2:z≤20000:=by omega
     obtain ⟨i0,hi,hz0',hz1,hz2'⟩:=info_parts infoU64
     clear hmany
     go_wp2_with fail
     go_loopw [8,9] (fun v8 v9 wr=>∃ (i c:Nat),i≤n∧v9=.int .i64 (i:Int)∧c≤20000∧Hid (c=(bfR m (L.take i)).length)∧Hid (wr.ownsRow w.heap.size 35 1 v8 c (vals (bfR m (L.take i))))∧Hid (Below w.heap.size w wr)) (fun _ v9 _=>n - (intOf v9).toNat)
     case atStart=>exact ⟨0,0,by omega,rfl,by omega,hidd (by simp [bfR]),hidd (by simpa [bfR,vals] using World.ownsRow_nil _ _ _ _),B1⟩
     case round =>
      clear B1
      obtain ⟨i,c,hi',rfl,hc2,hcl,hO,hB⟩:=hrel
      have hsr:=hB.out.size
      by_cases hlt:i < n
      · have hiL:i < L.length:=by rw [EN.out];exact hlt
        obtain ⟨g,o,rfl,x1⟩:=HC.out i hiL
        have hgo:=World.block_lt_of_cell? _ _ x1
        replace x1:=keepCell hB.out x1
        have hwi:=WI.out _ (List.getElem_mem hiL)
        have hbx:=wR_box L[i]
        have X1:=size_mask hwi.1
        have hNX:=hidd (bfR_next m hiL)
        have hCN:=hidd (cntR_next m hiL)
        obtain ⟨K,hK⟩:∃ K:Nat,m - (wR L[i]).toNat=K:=⟨_,rfl⟩
        obtain ⟨q,hq⟩:∃ q:Nat,wR L[i]=(q:Int):=⟨(wR L[i]).toNat,by omega⟩
        have hqK:q+K=m:=by omega
        rw [hK] at hNX hCN
        rw [hq] at X1
        have hle:=cntR_take m L (i+1)
        have h7:((c+7^K:Nat):Int)≤20000:=by
         have e1:=bfR_len m (L.take i)
         have e2:=hCN.out
         have e3:=hcl.out
         have e4:=ZC.out
         push_cast
         omega
        have u:=whole_box hwi.1
        have HWX:=hidd hwi.1
        have HQ:=hidd hq
        clear hwi hbx hCN hK hq hle
        generalize L[i]'_=x at *
        obtain ⟨X,eX⟩:∃ X,x / 72057594037927936=X:=⟨_,rfl⟩
        rw [eX] at X1
        have hO1:Hid ((wr.alloc (.cells #[.int .u64 x] 35)).ownsRow wr.heap.size 35 1 (.slice (some ⟨wr.heap.size,0,none⟩) 1 1) 1 (vals [x])):=hidd (World.ownsRow_lit _ #[.int .u64 x] 1 (Nat.le_refl _) (by unfold maxLen;omega) rfl)
        have hA:=allocB wr (.cells #[.int .u64 x] 35)
        have x2:=keepCell hA x1
        obtain ⟨pv,cv,rfl,-⟩:=own_slice hO.out
        have h7m:Hid (∀ k,k≤K→7^k≤20000):=hidd fun k hk=>by
         have h1:7^k≤7^K:=Nat.pow_le_pow_right (by omega) hk
         omega
        go_wp2_with fail
        obtain ⟨wi,rfl⟩:∃ z,z=wr:=⟨_,rfl⟩
        go_loopw [10,11] (fun v10 v11 w2=>∃ (k r' e:Nat),k≤K∧v11=.int .i64 (r':Int)∧Hid (r'=q+k)∧e≤20000∧Hid (e=7^k)∧Hid (w2.ownsRow wi.heap.size 35 1 v10 e (vals (bf k x)))∧Hid (Below wi.heap.size wi w2)) (fun _ v11 _=>m - (intOf v11).toNat)
        case atStart=>exact ⟨0,q,1,by omega,rfl,hidd (by omega),by omega,hidd rfl,hO1,hidd hA⟩
        case round =>
         clear hO1 hA x2 x1
         obtain ⟨k,r',e,hk,rfl,hr',he,h7k,hN,hX⟩:=hrel
         have hXs:=hX.out.size
         have hNlen:Hid ((bf k x).length=e):=hidd (by rw [bf_len,h7k.out])
         by_cases hkK:k < K
         · have hrm:(r':Int) < (m:Int):=by have:=hr'.out;omega
           have hr1:(r':Int)+1≤12:=by omega
           have he0:0 < e:=by have:=h7k.out;have:0 < 7^k:=Nat.pow_pos (by omega);omega
           obtain ⟨gn,cn,rfl⟩:=own_shape hN.out he0
           obtain ⟨wk,rfl⟩:∃ z,z=wr:=⟨_,rfl⟩
           go_wp2_with fail
           go_loopw [12,13] (fun v12 v13 w3=>∃ (j f:Nat),j≤e∧v13=.int .i64 (j:Int)∧f≤140000∧Hid (f=7*j)∧Hid (w3.ownsRow wk.heap.size 35 1 v12 f (vals (((bf k x).take j).flatMap kidRow)))∧Hid (Below wk.heap.size wk w3)) (fun _ v13 _=>e - (intOf v13).toNat)
           case atStart=>exact ⟨0,0,by omega,rfl,by omega,hidd rfl,hidd (by simpa [vals] using World.ownsRow_nil _ _ _ _),hidd (Below.refl _ _)⟩
           case round =>
            obtain ⟨j,f,hj,rfl,hf1,hf,hO3,hX3⟩:=hrel
            have hX3s:=hX3.out.size
            by_cases hje:j < e
            · have hjL:j < (bf k x).length:=by rw [hNlen.out];exact hje
              have cy0:=(own_cells hN.out).2.1 j hjL
              have cy:=keepCell hX3.out cy0
              have hmy:=(mem_bf k HWX.out (by rw [HQ.out];omega)).1 (List.getElem_mem hjL)
              have hfn:=hidd (flat_next hjL)
              have KY:=hidd fun w=>rkidsW (bf k x)[j] hmy.1 (by rw [hmy.2.1,HQ.out];omega) w
              have uy:=whole_box hmy.1
              clear hmy cy0
              generalize (bf k x)[j]'_=y at *
              obtain ⟨p3,c3,rfl,-⟩:=own_slice hO3.out
              go_wp2_with fail
              refine (KY.out _).mono ?_
              rintro e4 w4 ⟨⟨gk,ck,rfl,hck⟩,d4⟩
              have hX4:=hidd (hX3.out.trans (d4.mono hX3s))
              have hX4s:=hX4.out.size
              have hO4:=hidd (own_keep d4 hO3.out)
              have hk4:=hidd (kidL_lies hck)
              clear hck d4 hX3 hO3 cy KY
              go_wp2_with (at_builtin;refine wpList_append_own _ rfl (.tmp 54) (.tmp 59) 22 rfl wk.heap.size 35 i0 (.int .u64 0) 1 8 Tryz.underlying22 hi hz0' hz1 hz2' rfl (by decide) _ _ _ rfl hO4.out ⟨gk,0,none⟩ 7 ck (kidL y 7) rfl (kidL_len y 7) hk4.out (kidL_one y) (by unfold maxLen;omega) (by omega) (by omega) ?_)
              intro v' w5 hown hgrow _
              have hX5:=hidd (hX4.out.grown hgrow hX4s (own_block hO4.out))
              have hO5:Hid (w5.ownsRow wk.heap.size 35 1 v' (f+7) (vals (((bf k x).take (j+1)).flatMap kidRow))):=hidd (by
               rw [hfn.out]
               have e1:vals (((bf k x).take j).flatMap kidRow++kidRow y)=vals (((bf k x).take j).flatMap kidRow)++kidL y 7:=by rw [kidL_vals];simp [vals]
               rw [e1];exact hown)
              clear hown hgrow hO4 hX4 hk4
              go_wp2
              go_roundw
              case rel=>exact ⟨j+1,f+7,by omega,by go_num,by have:=hf.out;omega,hidd (by have:=hf.out;omega),hO5,hX5⟩
              case measure=>simp [intOf];omega
            · obtain rfl:j=e:=by omega
              have eall:(bf k x).take j=bf k x:=List.take_of_length_le (by rw [hNlen.out];omega)
              rw [eall] at hO3
              have hN5:Hid (wr.ownsRow wi.heap.size 35 1 u12 f (vals (bf (k+1) x))):=hidd (own_mono hO3.out hXs)
              have h7k5:Hid (f=7^(k+1)):=hidd (by rw [hf.out,h7k.out,Nat.pow_succ];omega)
              have hX5:=hidd (hX.out.trans (hX3.out.mono hXs))
              have hf2:f≤20000:=by have:=h7m.out (k+1) (by omega);have:=h7k5.out;omega
              clear hO3 hX3 hN hX eall hje hNlen h7k
              go_wp2
              go_roundw
              case rel=>exact ⟨k+1,r'+1,f,by omega,by go_num,hidd (by have:=hr'.out;omega),hf2,h7k5,hN5,hX5⟩
              case measure=>simp [intOf];omega
         · obtain rfl:k=K:=by omega
           obtain rfl:r'=m:=by have:=hr'.out;omega
           have hrm:decide (r' < r')=false:=by simp
           have he0:0 < e:=by have:=h7k.out;have:0 < 7^k:=Nat.pow_pos (by omega);omega
           obtain ⟨gn,cn,rfl⟩:=own_shape hN.out he0
           have hO2:=hidd (own_keep hX.out hO.out)
           have hB2:=hidd (belowT hB.out hX.out)
           have hNL:=hidd (own_lies hN.out)
           have he7:c+e≤20000:=by have:=h7k.out;omega
           have hs2:=hB2.out.size
           clear hN hX hkK
           go_wp2_with (at_builtin;refine wpList_append_own _ rfl (.tmp 62) (.tmp 63) 22 rfl w.heap.size 35 i0 (.int .u64 0) 1 8 Tryz.underlying22 hi hz0' hz1 hz2' rfl (by decide) _ _ _ rfl hO2.out ⟨gn,0,none⟩ e cn (vals (bf k x)) rfl (by rw [vals_len,hNlen.out];omega) hNL.out (vals_one _) (by unfold maxLen;omega) (by omega) (by omega) ?_)
           intro v' w5 hown hgrow _
           have hB5:=hidd (hB2.out.grown hgrow hs2 (own_block hO2.out))
           have hO5:Hid (w5.ownsRow w.heap.size 35 1 v' (c+e) (vals (bfR r' (L.take (i+1))))):=hidd (by
            rw [hNX.out]
            have e1:vals (bfR r' (L.take i)++bf k x)=vals (bfR r' (L.take i))++vals (bf k x):=by simp [vals]
            rw [e1];exact hown)
           have hcl5:Hid (c+e=(bfR r' (L.take (i+1))).length):=hidd (by rw [hNX.out,List.length_append,← hcl.out,hNlen.out])
           clear hown hgrow hO2 hNL hB2 hNlen
           go_wp2
           go_roundw
           case rel=>exact ⟨i+1,c+e,by omega,by go_num,he7,hcl5,hO5,hB5⟩
           case measure=>simp [intOf];omega
      · obtain rfl:i=n:=by omega
        have eall:L.take i=L:=List.take_of_length_le (by rw [EN.out];omega)
        rw [eall] at hcl hO
        have hL2:=Lst.own hO.out
        obtain ⟨p8,c8,e8,-,hc8⟩:=hL2
        have hcl2:(bfR m L).length≤20000:=by rw [← hcl.out];omega
        have CS:=hidd (lset_all (bfR m L) _ rfl hcl2 (bfR_u64 hm WI.out) p8 c8 wr hc8)
        rw [← e8] at CS
        clear e8 hc8
        have hsz8:=hidd hB.out.size
        have BB:=hidd hB.out
        clear hO hB eall hlt
        go_wp2_with fail
        refine CS.out.mono ?_
        rintro e w2 ⟨⟨v,K,rfl,k1,k2,k3,k4⟩,b2⟩
        have FN:=hidd (And.intro k1 (And.intro k2 (And.intro k3 k4)))
        have B2:=hidd (belowT BB.out b2)
        obtain ⟨pk,ck,rfl,-⟩:=own_slice k4
        clear k1 k2 k3 k4 b2 CS BB
        go_wp2
        go_ret2
        exact ⟨⟨z,0,HZ.out,.inr (.inr ⟨rfl,hz2,m,rfl,_,K,rfl,FN.out.1,fun x=>by rw [FN.out.2.1 x,bfR_mem hm WI.out],by have:=FN.out.2.2.1;omega,own_mono FN.out.2.2.2 hsz8.out⟩)⟩,B2.out⟩
 · have ht':(t != 0)=true:=by simp [ht]
   have HTt:=hidd ht
   clear ht
   go_wp2
   go_ret2
   exact ⟨⟨z,t,HZ.out,.inl ⟨HTt.out,rfl⟩⟩,B1.out⟩
theorem cmp_yes {C:Nat} {L:List Int} {r:Nat} (hL:∀ x∈L,Whole x∧wR x=(r:Int)) (hn:L.length≤20000) {e:Ending} {w':World} (h:TellsCmp C L e w') :
 ∃ (sl:Value) (P:List Int),e=.returned (.tuple #[sl,.int .i64 0])∧Packed r L P∧P.length≤L.length∧Lst w' sl P∧Addressed sl∧w'.ownsRow C 35 1 sl P.length (vals P):=by
 have h1:∀ x∈L,Whole x:=fun x hx=>(hL x hx).1
 rcases h with ⟨h,_⟩ | ⟨_,h,_⟩ | ⟨_,_,h,_⟩ | ⟨_,_,_,sl,P,h2,h3,h4⟩
 · omega
 · exact absurd h1 h
 · exact absurd (fun x hx y hy=>by rw [(hL x hx).2,(hL y hy).2]) h
 · exact ⟨sl,P,h2,h3 r fun x hx=>(hL x hx).2,h4⟩
end Go.Proofs.YtbnlhdnnenahfaaGreatDoor
