/-
  What package cover's Touches, Box and Centres tell, over the landed code; in whatever memory where the tables hold what their texts lay.
-/
import Derived.Test.YtdklpgphmoaniaaGreatDoorJn35
import Derived.Test.YtdklpgphmoaniaaGreatDoorJn36
namespace Go.Proofs.YtdklpgphmoaniaaGreatDoor
open Go.RowKit
theorem word_injQ {r:Nat} {p q:Int × Int} (h:Ok4 (r:Int) p.1 p.2) (k:Ok4 (r:Int) q.1 q.2) (e:wordOf r p.1 p.2=wordOf r q.1 q.2):p=q:=by
 have h1:=cell_word h
 have h2:=cell_word k
 rw [e] at h1
 exact Prod.ext (h1.1.symm.trans h2.1) (h1.2.symm.trans h2.2)
theorem wdL_nodup {r:Nat} {F:List (Int × Int)} (hF:F.Nodup) (hok:∀ p∈F,Ok4 (r:Int) p.1 p.2):(wdL r F).Nodup:=by
 unfold wdL List.Nodup
 rw [List.pairwise_map]
 exact List.Pairwise.imp_of_mem (fun {a b} ha hb hne e=>hne (word_injQ (hok a ha) (hok b hb) e)) hF
theorem many_ofQ {K r:Nat} (hK:K≤12) (hr:12 - (r:Int)=(K:Int)) {l1 l2 u1 u2:Int} (h1:0≤l1) (h2:0≤l2) (h3:u1 < 1073741824) (h4:u2 < 1073741824) {F:List (Int × Int)} (k1:F.Nodup) (k2:∀ p∈F,Tou K l1 l2 u1 u2 p.1 p.2) (k3:20000 < F.length):Many K l1 l2 u1 u2 r 20000 :=
 ⟨wdL r F,wdL_nodup k1 fun p hp=>tou_ok hK hr h1 h2 h3 h4 (k2 p hp),fun x hx=>by
   obtain ⟨p,hp,rfl⟩:=List.mem_map.1 hx
   exact tw_mk (tou_ok hK hr h1 h2 h3 h4 (k2 p hp)) (k2 p hp),by rw [wdL_len];exact k3⟩
theorem wdL_mem {K r:Nat} (hK:K≤12) (hr:12 - (r:Int)=(K:Int)) {l1 l2 u1 u2:Int} (h1:0≤l1) (h2:0≤l2) (h3:u1 < 1073741824) (h4:u2 < 1073741824) {F:List (Int × Int)} (hF:∀ x y,Tou K l1 l2 u1 u2 x y↔(x,y)∈F) (x:Int):x∈wdL r F↔TW K l1 l2 u1 u2 x r:=by
 constructor
 · intro hx
   obtain ⟨p,hp,rfl⟩:=List.mem_map.1 hx
   have ht:=(hF p.1 p.2).2 hp
   exact tw_mk (tou_ok hK hr h1 h2 h3 h4 ht) ht
 · rintro ⟨k1,k2,k3⟩
   have e:=word_cell k1
   rw [k2,Int.toNat_natCast] at e
   exact List.mem_map.2 ⟨_,(hF _ _).1 k3,e⟩
def cenB (K:Nat) (l1 l2 u1 u2:Int) (p:Int × Int):Bool:=inB l1 l2 u1 u2 (poX K p.1 p.2) (poY K p.1 p.2)
theorem wdL_cen {K r:Nat} (hK:K≤12) (hr:12 - (r:Int)=(K:Int)) {l1 l2 u1 u2:Int} (h1:0≤l1) (h2:0≤l2) (h3:u1 < 1073741824) (h4:u2 < 1073741824) {F:List (Int × Int)} (hF:∀ x y,Tou K l1 l2 u1 u2 x y↔(x,y)∈F) (x:Int):x∈wdL r (F.filter (cenB K l1 l2 u1 u2))↔TW K l1 l2 u1 u2 x r∧inCB K l1 l2 u1 u2 x=true:=by
 constructor
 · intro hx
   obtain ⟨p,hp,rfl⟩:=List.mem_map.1 hx
   obtain ⟨hp,hc⟩:=List.mem_filter.1 hp
   have ht:=(hF p.1 p.2).2 hp
   have hok:=tou_ok hK hr h1 h2 h3 h4 ht
   refine ⟨tw_mk hok ht,?_⟩
   have e:=cell_word hok
   unfold inCB
   rw [e.1,e.2]
   exact hc
 · rintro ⟨⟨k1,k2,k3⟩,hc⟩
   have e:=word_cell k1
   rw [k2,Int.toNat_natCast] at e
   exact List.mem_map.2 ⟨_,List.mem_filter.2 ⟨(hF _ _).1 k3,hc⟩,e⟩
def CapE (e:Ending):Prop:=∀ (p:Option Addr) (n c:Nat) (v:Value),e=.returned (.tuple #[.slice p n c,v])→n≤c
theorem cap_mk {p:Option Addr} {n c:Nat} {v:Value} (h:n≤c):CapE (.returned (.tuple #[.slice p n c,v])):=by
 intro p' n' c' v' e
 simp only [Ending.returned.injEq,Value.tuple.injEq,Array.mk.injEq,List.cons.injEq,Value.slice.injEq] at e
 omega
set_option maxHeartbeats 8000000 in
set_option maxRecDepth 100000 in
theorem p_box_cap (l1 l2 u1 u2:Int) (r K:Nat) (hK:K≤12) (hr:12 - (r:Int)=(K:Int)) (h1:0≤l1) (h2:0≤l2) (h3:u1 < 1073741824) (h4:u2 < 1073741824) (h5:l1≤u1) (h6:l2≤u2) (w:World) (hT:Cov3 w) :
 Calls Tryz.prog 14 #[.agg #[.int .i64 l1,.int .i64 l2],.agg #[.int .i64 u1,.int .i64 u2],.int .i64 (r:Int)] w fun e w'=>(TellsCB K r l1 l2 u1 u2 e w'∧CapE e)∧Below w.heap.size w w':=by
 have TO:=hidd fun w hT=>q_touching l1 l2 u1 u2 (r:Int) K hK hr h1 h2 h3 h4 h5 h6 w hT
 have WM:=hidd fun F hF x=>wdL_mem (l1:=l1) (l2:=l2) (u1:=u1) (u2:=u2) hK hr h1 h2 h3 h4 (F:=F) hF x
 have OKK:=hidd fun (F:List (Int × Int)) (hF:∀ x y,Tou K l1 l2 u1 u2 x y↔(x,y)∈F) p (hp:p∈F)=>tou_ok (r:=(r:Int)) hK hr h1 h2 h3 h4 ((hF p.1 p.2).2 hp)
 have MA:=hidd fun F k1 k2 k3=>many_ofQ (l1:=l1) (l2:=l2) (u1:=u1) (u2:=u2) hK hr h1 h2 h3 h4 (F:=F) k1 k2 k3
 have HT:=hidd hT
 have B0:=hidd (belowT (allocB w (.cells #[.int .i64 l1,.int .i64 l2] 38)) (allocB (w.alloc (.cells #[.int .i64 l1,.int .i64 l2] 38)) (.cells #[.int .i64 u1,.int .i64 u2] 38)))
 clear hT h1 h2 h3 h4 h5 h6 hK hr
 go_enter Tryz.func14,Tryz.ntmps14
 go_wp2_with fail
 generalize (w.alloc (.cells #[.int .i64 l1,.int .i64 l2] 38)).alloc (.cells #[.int .i64 u1,.int .i64 u2] 38)=w0 at *
 refine (TO.out _ (HT.out.below B0.out)).mono ?_
 rintro e w1 ⟨⟨v,F,rfl,f1,f2,f3,f4⟩ | ⟨⟨p,c,rfl⟩,F,f1,f2,f3⟩,b1⟩
 · have B1:=hidd (belowT B0.out b1)
   have WW:=hidd (q_words r _ v F (OKK.out F f3) (by omega) w1 (HT.out.below B1.out).1 f1)
   have FF:=hidd (And.intro f3 f4)
   clear f1 f2 f3 f4 b1 TO
   go_wp2_with fail
   refine WW.out.mono ?_
   rintro e w2 ⟨h2,b2⟩
   have B2:=hidd (belowT B1.out b2)
   obtain ⟨g,cap,L,rfl,k1,k2,k3,k4,k5,k6⟩:=h2
   have CC:=hidd k2
   have LL:=hidd (show TellsCB K r l1 l2 u1 u2 (.returned (.tuple #[.slice (some ⟨g,0,none⟩) L.length cap,.int .i64 0])) w2 from .inl ⟨_,L,rfl,.inr ⟨g,cap,rfl,Nat.zero_le _,fun j hj=>by have:=k6 j hj;rwa [Nat.zero_add] at this⟩,k3,fun x=>(k4 x).trans (WM.out F FF.out.1 x),by rw [wdL_len] at k5;have:=FF.out.2;omega⟩)
   clear k1 k2 k3 k4 k5 k6 b2 WW
   go_wp2
   go_ret2
   exact ⟨⟨LL.out,cap_mk CC.out⟩,B2.out⟩
 · have B1:=hidd (belowT B0.out b1)
   have MM:=hidd (MA.out F f1 f2 f3)
   clear f1 f2 f3 b1 TO
   go_wp2
   go_ret2
   exact ⟨⟨.inr ⟨⟨_,_,rfl⟩,MM.out⟩,cap_mk (Nat.zero_le _)⟩,B1.out⟩
theorem p_box (l1 l2 u1 u2:Int) (r K:Nat) (hK:K≤12) (hr:12 - (r:Int)=(K:Int)) (h1:0≤l1) (h2:0≤l2) (h3:u1 < 1073741824) (h4:u2 < 1073741824) (h5:l1≤u1) (h6:l2≤u2) (w:World) (hT:Cov3 w) :
 Calls Tryz.prog 14 #[.agg #[.int .i64 l1,.int .i64 l2],.agg #[.int .i64 u1,.int .i64 u2],.int .i64 (r:Int)] w fun e w'=>TellsCB K r l1 l2 u1 u2 e w'∧Below w.heap.size w w' :=
 (p_box_cap l1 l2 u1 u2 r K hK hr h1 h2 h3 h4 h5 h6 w hT).mono fun _ _ h=>⟨h.1.1,h.2⟩
set_option maxHeartbeats 8000000 in
set_option maxRecDepth 100000 in
theorem p_box_bad (l1 l2 u1 u2 r t:Int) (h:MayT l1 l2 u1 u2 r t) (ht:t≠0) (w:World) :
 Calls Tryz.prog 14 #[.agg #[.int .i64 l1,.int .i64 l2],.agg #[.int .i64 u1,.int .i64 u2],.int .i64 r] w fun e w'=>(∃ p c,e=.returned (.tuple #[.slice p 0 c,.int .i64 t]))∧Below w.heap.size w w':=by
 have TO:=hidd fun w=>q_touching_bad l1 l2 u1 u2 r t h ht w
 have ht':(t == 0)=false:=by simpa using ht
 have ht2:decide (t=0)=false:=by simpa using ht
 have B0:=hidd (belowT (allocB w (.cells #[.int .i64 l1,.int .i64 l2] 38)) (allocB (w.alloc (.cells #[.int .i64 l1,.int .i64 l2] 38)) (.cells #[.int .i64 u1,.int .i64 u2] 38)))
 clear h
 go_enter Tryz.func14,Tryz.ntmps14
 go_wp2_with fail
 generalize (w.alloc (.cells #[.int .i64 l1,.int .i64 l2] 38)).alloc (.cells #[.int .i64 u1,.int .i64 u2] 38)=w0 at *
 refine (TO.out _).mono ?_
 rintro e w1 ⟨rfl,b1⟩
 have B1:=hidd (belowT B0.out b1)
 clear b1 TO
 go_wp2
 go_ret2
 exact ⟨⟨_,_,rfl⟩,B1.out⟩
set_option maxHeartbeats 8000000 in
set_option maxRecDepth 100000 in
theorem p_centres_bad (l1 l2 u1 u2 r t:Int) (h:MayT l1 l2 u1 u2 r t) (ht:t≠0) (w:World) :
 Calls Tryz.prog 15 #[.agg #[.int .i64 l1,.int .i64 l2],.agg #[.int .i64 u1,.int .i64 u2],.int .i64 r] w fun e w'=>(∃ p c,e=.returned (.tuple #[.slice p 0 c,.int .i64 t]))∧Below w.heap.size w w':=by
 have TO:=hidd fun w=>q_touching_bad l1 l2 u1 u2 r t h ht w
 have ht':(t == 0)=false:=by simpa using ht
 have ht2:decide (t=0)=false:=by simpa using ht
 have B0:=hidd (belowT (belowT (allocB w (.cells #[.int .i64 l1,.int .i64 l2] 38)) (allocB (w.alloc (.cells #[.int .i64 l1,.int .i64 l2] 38)) (.cells #[.int .i64 u1,.int .i64 u2] 38))) (allocB _ (.cells #[.int .i64 l1,.int .i64 l2,.int .i64 u1,.int .i64 u2] 80)))
 clear h
 go_enter Tryz.func15,Tryz.ntmps15
 go_wp2_with fail
 generalize ((w.alloc (.cells #[.int .i64 l1,.int .i64 l2] 38)).alloc (.cells #[.int .i64 u1,.int .i64 u2] 38)).alloc (.cells #[.int .i64 l1,.int .i64 l2,.int .i64 u1,.int .i64 u2] 80)=w0 at *
 refine (TO.out _).mono ?_
 rintro e w1 ⟨rfl,b1⟩
 have B1:=hidd (belowT B0.out b1)
 clear b1 TO
 go_wp2
 go_ret2
 exact ⟨⟨_,_,rfl⟩,B1.out⟩
theorem fil_yes {α:Type} {f:α→Bool} {F:List α} {j:Nat} (hj:j < F.length) (h:f F[j]=true):(F.take (j+1)).filter f=(F.take j).filter f++[F[j]]:=by
 rw [List.take_add_one,List.getElem?_eq_getElem hj,List.filter_append]
 simp [h]
theorem fil_no {α:Type} {f:α→Bool} {F:List α} {j:Nat} (hj:j < F.length) (h:f F[j]=false):(F.take (j+1)).filter f=(F.take j).filter f:=by
 rw [List.take_add_one,List.getElem?_eq_getElem hj,List.filter_append]
 simp [h]
theorem fil_len {α:Type} (f:α→Bool) (F:List α) (j:Nat):((F.take j).filter f).length≤j:=Nat.le_trans (List.length_filter_le _ _) (List.length_take_le _ _)
set_option maxHeartbeats 8000000 in
set_option maxRecDepth 100000 in
theorem p_centres_cap (l1 l2 u1 u2:Int) (r K:Nat) (hK:K≤12) (hr:12 - (r:Int)=(K:Int)) (h1:0≤l1) (h2:0≤l2) (h3:u1 < 1073741824) (h4:u2 < 1073741824) (h5:l1≤u1) (h6:l2≤u2) (w:World) (hT:Cov3 w) :
 Calls Tryz.prog 15 #[.agg #[.int .i64 l1,.int .i64 l2],.agg #[.int .i64 u1,.int .i64 u2],.int .i64 (r:Int)] w fun e w'=>(TellsCC K r l1 l2 u1 u2 e w'∧CapE e)∧Below w.heap.size w w':=by
 have TO:=hidd fun w hT=>q_touching l1 l2 u1 u2 (r:Int) K hK hr h1 h2 h3 h4 h5 h6 w hT
 have WM:=hidd fun F hF x=>wdL_cen (l1:=l1) (l2:=l2) (u1:=u1) (u2:=u2) hK hr h1 h2 h3 h4 (F:=F) hF x
 have OKK:=hidd fun (F:List (Int × Int)) (hF:∀ x y,Tou K l1 l2 u1 u2 x y↔(x,y)∈F) p (hp:p∈F)=>tou_ok (r:=(r:Int)) hK hr h1 h2 h3 h4 ((hF p.1 p.2).2 hp)
 have MA:=hidd fun F k1 k2 k3=>many_ofQ (l1:=l1) (l2:=l2) (u1:=u1) (u2:=u2) hK hr h1 h2 h3 h4 (F:=F) k1 k2 k3
 have CE:=hidd fun (a b:Int) (hok:Ok4 (r:Int) a b) w=>q_centre a b (r:Int) K hK hr hok.2.2.1 hok.2.2.2.1 w
 have HT:=hidd hT
 have B0:=hidd (belowT (belowT (allocB w (.cells #[.int .i64 l1,.int .i64 l2] 38)) (allocB (w.alloc (.cells #[.int .i64 l1,.int .i64 l2] 38)) (.cells #[.int .i64 u1,.int .i64 u2] 38))) (allocB _ (.cells #[.int .i64 l1,.int .i64 l2,.int .i64 u1,.int .i64 u2] 80)))
 have X0:=hidd (show Box4 (w.heap.size+1+1) l1 l2 u1 u2 (((w.alloc (.cells #[.int .i64 l1,.int .i64 l2] 38)).alloc (.cells #[.int .i64 u1,.int .i64 u2] 38)).alloc (.cells #[.int .i64 l1,.int .i64 l2,.int .i64 u1,.int .i64 u2] 80)) from ⟨by go_simp,by go_simp,by go_simp,by go_simp⟩)
 clear hT h1 h2 h3 h4 h5 h6 hK hr
 obtain ⟨i0,hi,hz0,hz1,hz2⟩:=info_partsQ infoEQ
 go_enter Tryz.func15,Tryz.ntmps15
 go_wp2_with fail
 generalize ((w.alloc (.cells #[.int .i64 l1,.int .i64 l2] 38)).alloc (.cells #[.int .i64 u1,.int .i64 u2] 38)).alloc (.cells #[.int .i64 l1,.int .i64 l2,.int .i64 u1,.int .i64 u2] 80)=w0 at *
 refine (TO.out _ (HT.out.below B0.out)).mono ?_
 rintro e w1 ⟨⟨v,F,rfl,f1,f2,f3,f4⟩ | ⟨⟨p,c,rfl⟩,F,f1,f2,f3⟩,b1⟩
 · have B1:=hidd (belowT B0.out b1)
   have X1:=hidd (X0.out.keep b1)
   have OKF:=hidd (OKK.out F f3)
   have HO:=hidd f1
   obtain ⟨sp,sc,rfl⟩:=f1.any
   have FF:=hidd (And.intro f3 f4)
   obtain ⟨n,en⟩:∃ n,F.length=n:=⟨_,rfl⟩
   have EN:=hidd en
   rw [en] at HO ⊢
   have hn:n≤20000:=by rw [← en];exact f4
   clear f1 f2 f3 f4 b1 TO OKK MA B0 X0 en
   have hs1:=B1.out.size
   go_wp2_with fail
   go_loopw [11,28] (fun v11 v28 wr=>∃ j:Nat,j≤n∧v28=.int .i64 (j:Int)∧Hid (RowE w1.heap.size v11 ((F.take j).filter (cenB K l1 l2 u1 u2)) wr)∧Hid (Below w1.heap.size w1 wr)) (fun _ v28 _=>n - (intOf v28).toNat)
   case atStart=>exact ⟨0,by omega,rfl,hidd (World.ownsRow_nil _ _ _ _),hidd (Below.refl _ _)⟩
   case round =>
    obtain ⟨j,hj,rfl,OW,B⟩:=hrel
    obtain ⟨vp,vc,rfl⟩:=OW.out.any
    have hm:=fil_len (cenB K l1 l2 u1 u2) F j
    have RO:Hid (wr.ownsRow w1.heap.size 23 2 (.slice vp ((F.take j).filter (cenB K l1 l2 u1 u2)).length vc) ((F.take j).filter (cenB K l1 l2 u1 u2)).length (pairV ((F.take j).filter (cenB K l1 l2 u1 u2)))):=hidd OW.out
    obtain ⟨m,em⟩:∃ m,((F.take j).filter (cenB K l1 l2 u1 u2)).length=m:=⟨_,rfl⟩
    have ML:=hidd em
    rw [em] at RO hm ⊢
    clear em OW
    by_cases hjn:j < n
    · have hjn':(j:Int) < (n:Int):=by omega
      have hjL:j < F.length:=by rw [EN.out];exact hjn
      have hrow:RowE _ (.slice sp F.length sc) F wr:=RowE.keep (by have:=HO.out;rwa [← EN.out] at this) B.out
      obtain ⟨g,c2,e,-,y0,y1⟩:=hrow.at_ j hjL
      rw [EN.out] at e
      simp only [Value.slice.injEq] at e
      obtain ⟨rfl,-,rfl⟩:=e
      have C1:=hidd fun w=>CE.out F[j].1 F[j].2 (OKF.out _ (List.getElem_mem hjL)) w
      have SY:=hidd (show cenB K l1 l2 u1 u2 F[j]=true→(F.take (j+1)).filter (cenB K l1 l2 u1 u2)=(F.take j).filter (cenB K l1 l2 u1 u2)++[(F[j].1,F[j].2)] from fil_yes (f:=cenB K l1 l2 u1 u2) hjL)
      have SN:=hidd (fil_no (f:=cenB K l1 l2 u1 u2) hjL)
      have H1:=hidd fun w=>q_holds l1 l2 u1 u2 (poX K F[j].1 F[j].2) (poY K F[j].1 F[j].2) w
      obtain ⟨t,et⟩:∃ t,inB l1 l2 u1 u2 (poX K F[j].1 F[j].2) (poY K F[j].1 F[j].2)=t:=⟨_,rfl⟩
      have ET:=hidd (show cenB K l1 l2 u1 u2 F[j]=t from et)
      simp only [et] at H1
      have al:=allocB wr (.cells #[.int .i64 F[j].1,.int .i64 F[j].2] 23)
      have X2:=hidd ((X1.out.keep B.out).keep al)
      have BA:=hidd al
      clear hrow al et
      generalize poX K F[j].1 F[j].2=cx at *
      generalize poY K F[j].1 F[j].2=cy at *
      generalize F[j].1=a at *
      generalize F[j].2=b at *
      go_wp2_with fail
      have z0:(wr.alloc (.cells #[.int .i64 a,.int .i64 b] 23)).cell? ⟨wr.heap.size,0,none⟩=some (.int .i64 a):=by go_simp
      have z1:(wr.alloc (.cells #[.int .i64 a,.int .i64 b] 23)).cell? ⟨wr.heap.size,1,none⟩=some (.int .i64 b):=by go_simp
      obtain ⟨x0,x1,x2,x3⟩:=X2.out
      have hS0:=keepSixQ (drewB _) ⟨x0,x1,x2,x3,z0,z1,BA.out⟩
      generalize wr.alloc (.cells #[.int .i64 a,.int .i64 b] 23)=w2 at *
      clear y0 y1 X2 BA x0 x1 x2 x3 z0 z1
      go_region_held3 (fun w'=>w'.cell? ⟨w.heap.size+1+1,0,none⟩=some (.int .i64 l1)∧w'.cell? ⟨w.heap.size+1+1,1,none⟩=some (.int .i64 l2)∧w'.cell? ⟨w.heap.size+1+1,2,none⟩=some (.int .i64 u1)∧w'.cell? ⟨w.heap.size+1+1,3,none⟩=some (.int .i64 u2)∧w'.cell? ⟨wr.heap.size,0,none⟩=some (.int .i64 a)∧w'.cell? ⟨wr.heap.size,1,none⟩=some (.int .i64 b)∧Below wr.heap.size wr w') (first | exact hS0 | assumption | exact keepSixQ (by assumption) (by assumption))
       (first | (go_at_call 39;refine (C1.out _).mono ?_;rintro e w' ⟨rfl,hb⟩) | (go_at_call 38;refine (H1.out _).mono ?_;rintro e w' ⟨rfl,hb⟩))
      rename_i hS
      obtain ⟨-,-,-,-,z0,z1,bw⟩:=hS
      have O3:=hidd (own_keep bw RO.out)
      have B3:=hidd (belowT B.out bw)
      have hs3:=B3.out.size
      clear hS0 C1 H1 bw RO B
      cases t
      · have N1:=hidd (SN.out ET.out)
        have R3:=hidd (show RowE w1.heap.size (.slice vp m vc) ((F.take (j+1)).filter (cenB K l1 l2 u1 u2)) w' from by
         rw [N1.out]
         unfold RowE
         rw [ML.out]
         exact O3.out)
        clear O3 z0 z1
        go_wp2_with fail
        go_roundw
        case rel=>exact ⟨j+1,by omega,by go_num,R3,B3⟩
        case measure=>simp [intOf];omega
      · have N1:=hidd (SY.out ET.out)
        have hm63:m+1≤maxLen:=by unfold maxLen;omega
        go_wp2_with (at_builtin;refine wpList_append_lies _ rfl (.tmp 37) (.tmp 39) 76 rfl w1.heap.size 23 i0 (.agg #[.int .i64 0,.int .i64 0]) 2 16 Tryz.underlying76 hi hz0 hz1 hz2 rfl (by decide) (.slice vp m vc) _ _ rfl (own_keep (allocB _ _) O3.out) ⟨w'.heap.size,0,none⟩ 1 1 [.int .i64 a,.int .i64 b] rfl rfl (pair_lie _ _ _ _) (pair_one _ _) (by decide) hm63 (by omega) (by simp;omega) (w'.heap.size+1) (by simp) ?_;intro g6 q6 w6 hown hgrow hat hlt6)
        have R6:Hid (RowE w1.heap.size (.slice (some ⟨g6,0,none⟩) (m+1) q6) ((F.take (j+1)).filter (cenB K l1 l2 u1 u2)) w6):=hidd (by
         rw [N1.out]
         unfold RowE
         rw [List.length_append,ML.out,pairV_app,pairV_one,List.length_singleton]
         exact hown)
        have hne:∀ k,(Value.slice vp m vc).ownBlock=some k→w1.heap.size≤k:=fun k e=>(World.ownsRow.lt O3.out k e).1
        have B6:=hidd ((belowT B3.out (allocB _ _)).grown hgrow (by simp;omega) (fun k e=>by have:=hne k e;omega))
        clear hown hgrow hat B3 O3 hne
        go_roundw
        case rel=>exact ⟨j+1,by omega,by go_num,R6,B6⟩
        case measure=>simp [intOf];omega
    · obtain rfl:j=n:=by omega
      have hjn':decide ((j:Int) < (j:Int))=false:=by simp
      have B2:=hidd (belowT B1.out B.out)
      have TK:F.take j=F:=by rw [← EN.out,List.take_length]
      rw [TK] at RO ML
      have WW:=hidd (q_words r w1.heap.size (.slice vp m vc) (F.filter (cenB K l1 l2 u1 u2)) (fun p hp=>OKF.out p (List.mem_filter.1 hp).1) (by have:=ML.out;omega) wr (HT.out.below B2.out).1 (by unfold RowE;rw [ML.out];exact RO.out))
      clear RO B1 B hm TK ML
      go_wp2_with fail
      refine WW.out.mono ?_
      rintro e w3 ⟨h2,b3⟩
      have B3:=hidd (belowT B2.out b3)
      obtain ⟨g,cap,L,rfl,k1,k2,k3,k4,k5,k6⟩:=h2
      have CC:=hidd k2
      have LL:=hidd (show TellsCC K r l1 l2 u1 u2 (.returned (.tuple #[.slice (some ⟨g,0,none⟩) L.length cap,.int .i64 0])) w3 from .inl ⟨_,L,rfl,.inr ⟨g,cap,rfl,Nat.zero_le _,fun j hj=>by have:=k6 j hj;rwa [Nat.zero_add] at this⟩,k3,fun x=>(k4 x).trans (WM.out F FF.out.1 x),by
       rw [wdL_len] at k5
       have h1:=FF.out.2
       have h2:=List.length_filter_le (cenB K l1 l2 u1 u2) F
       omega⟩)
      clear k1 k2 k3 k4 k5 k6 b3 WW
      go_wp2
      go_ret2
      exact ⟨⟨LL.out,cap_mk CC.out⟩,B3.out⟩
 · have B1:=hidd (belowT B0.out b1)
   have MM:=hidd (MA.out F f1 f2 f3)
   clear f1 f2 f3 b1 TO
   go_wp2
   go_ret2
   exact ⟨⟨.inr ⟨⟨_,_,rfl⟩,MM.out⟩,cap_mk (Nat.zero_le _)⟩,B1.out⟩
theorem p_centres (l1 l2 u1 u2:Int) (r K:Nat) (hK:K≤12) (hr:12 - (r:Int)=(K:Int)) (h1:0≤l1) (h2:0≤l2) (h3:u1 < 1073741824) (h4:u2 < 1073741824) (h5:l1≤u1) (h6:l2≤u2) (w:World) (hT:Cov3 w) :
 Calls Tryz.prog 15 #[.agg #[.int .i64 l1,.int .i64 l2],.agg #[.int .i64 u1,.int .i64 u2],.int .i64 (r:Int)] w fun e w'=>TellsCC K r l1 l2 u1 u2 e w'∧Below w.heap.size w w' :=
 (p_centres_cap l1 l2 u1 u2 r K hK hr h1 h2 h3 h4 h5 h6 w hT).mono fun _ _ h=>⟨h.1.1,h.2⟩
theorem box_own {K r:Nat} (hK:K≤12) (hr:12 - (r:Int)=(K:Int)) {a b:Int} (hok:Ok4 (r:Int) a b) (hw:InW (poX K a b) (poY K a b)) (w:World) (hT:Cov3 w) :
 Calls Tryz.prog 14 #[.agg #[.int .i64 (poX K a b),.int .i64 (poY K a b)],.agg #[.int .i64 (poX K a b),.int .i64 (poY K a b)],.int .i64 (r:Int)] w fun e w'=>(∃ s,e=.returned (.tuple #[s,.int .i64 0])∧RowAt 0 w' s [wordOf r a b])∧Below w.heap.size w w':=by
 obtain ⟨w1,w2,w3,w4⟩:=hw
 refine (p_box _ _ _ _ r K hK hr (by omega) (by omega) (by omega) (by omega) (Int.le_refl _) (Int.le_refl _) w hT).mono ?_
 rintro e w' ⟨h,hb⟩
 obtain ⟨s,L,rfl,h1,h2,h3,-⟩:=h.row (few_point hK _ _)
 have e:=rising_ext h2 (List.pairwise_singleton _ _) fun x=>(h3 x).trans (own_centre hK hok x).symm
 rw [e] at h1
 exact ⟨⟨s,rfl,h1⟩,hb⟩
theorem ok_unit:Ok4 ((12:Nat):Int) 1 0:=ok4_of (by decide +kernel)
theorem ok_nil:Ok4 ((12:Nat):Int) 0 0:=ok4_of (by decide +kernel)
theorem po_unit:poX 0 1 0=52∧poY 0 1 0=0:=by decide
theorem po_nil:poX 0 0 0=0∧poY 0 0 0=0:=by decide
set_option maxHeartbeats 4000000 in
set_option maxRecDepth 20000 in
theorem cawake10 (w:World) (hT:Cov3 w):Calls Tryz.prog 12 #[] w fun e w'=>e=.returned (.bool true)∧Below w.heap.size w w':=by
 have BX:=box_own (K:=0) (by omega) (by omega) ok_unit (by rw [po_unit.1,po_unit.2];exact ⟨by omega,by omega,by omega,by omega⟩) w hT
 rw [po_unit.1,po_unit.2,show ((12:Nat):Int)=12 from rfl] at BX
 have WE:=hidd fun w=>rword_yes 12 1 0 ok_unit w
 have BB:=hidd fun w=>p_box_bad 5 5 4 5 3 1 (.inr (.inr (.inl ⟨by omega,⟨⟨by omega,by omega,by omega,by omega⟩,by omega,by omega,by omega,by omega⟩,.inl (by omega),rfl⟩))) (by omega) w
 have TC:=hidd fun w=>p_touch 12 0 0 0 0 0 0 true ⟨fun _=>⟨ok_nil,by unfold FarT;omega,by unfold FarT;omega,⟨by omega,by omega⟩,by
  have:=tou_at (K:=0) (l1:=0) (u1:=0) (l2:=0) (u2:=0) (by rw [po_nil.1];omega) (by rw [po_nil.2];omega) (near_self (by omega) 0 0).1
  exact this⟩,fun _=>rfl⟩ (fun z hz=>by simp at hz;omega) w
 have SM:=hidd fun s t w' h1 h2=>rsame 0 0 s t [wordOf 12 1 0] (by simp) w' h1 h2
 replace BX:=hidd BX
 have HT:=hidd hT
 obtain ⟨W0,eW⟩:∃ W0,wordOf 12 1 0=W0:=⟨_,rfl⟩
 rw [eW] at BX WE SM
 clear eW hT
 go_enter Tryz.func12,Tryz.ntmps12
 go_wp2_with fail
 refine BX.out.mono ?_
 rintro e w1 ⟨⟨s,rfl,hS⟩,b1⟩
 have S1:=hidd hS
 have H1:=hidd (HT.out.below b1)
 have B1:=hidd b1
 clear BX hS b1 HT
 go_wp2_with fail
 refine (WE.out _).mono ?_
 rintro e w2 ⟨rfl,b2⟩
 have S2:=hidd (S1.out.keep b2)
 have H2:=hidd (H1.out.below b2)
 have B2:=hidd (belowT B1.out b2)
 clear WE S1 H1 B1 b2
 go_wp2_with fail
 refine (BB.out _).mono ?_
 rintro e w3 ⟨⟨p,c,rfl⟩,b3⟩
 have al:=allocB w3 (.cells #[.int .u64 W0] 31)
 have S3:=hidd ((S2.out.keep b3).keep al)
 have H3:=hidd ((H2.out.below b3).below al)
 have B3:=hidd (belowT (belowT B2.out b3) al)
 have T3:=hidd (row_own (w:=w3.alloc (.cells #[.int .u64 W0] 31)) (x:=W0) (g:=w3.heap.size) (c:=1) (by go_simp))
 clear BB S2 H2 B2 b3 al
 go_wp2_with fail
 refine (SM.out _ _ _ S3.out T3.out).mono ?_
 rintro e w4 ⟨rfl,b4⟩
 have H4:=hidd (H3.out.below b4)
 have B4:=hidd (belowT B3.out b4)
 clear SM S3 T3 H3 B3 b4
 go_wp2_with fail
 refine (TC.out _ H4.out).mono ?_
 rintro e w5 ⟨rfl,b5⟩
 go_wp2_with fail
 go_ret
 exact ⟨rfl,belowT B4.out b5⟩
end Go.Proofs.YtdklpgphmoaniaaGreatDoor
namespace Go.Proofs.YtdklpgphmoaniaaGreatDoor
open Go.ChangeShapes Go.WideShapes Go.RowKit
def LstK (k:IntKind) (w:World) (s:Value) (L:List Int):Prop :=
 ∃ p cap,s=.slice p L.length cap∧L.length≤cap∧∀ (j:Nat) (hj:j < L.length),∃ g o,p=some ⟨g,o,none⟩∧w.cell? ⟨g,o+j,none⟩=some (.int k L[j])
theorem LstK.u64 {w:World} {s:Value} {L:List Int} (h:LstK .u64 w s L):Lst w s L:=h
theorem LstK.keep {k:IntKind} {w w':World} {s:Value} {L:List Int} (h:LstK k w s L) (hb:Below w.heap.size w w'):LstK k w' s L:=by
 obtain ⟨p,cap,h1,h2,h3⟩:=h
 refine ⟨p,cap,h1,h2,fun j hj=>?_⟩
 obtain ⟨g,o,e,hc⟩:=h3 j hj
 exact ⟨g,o,e,keepCell hb hc⟩
theorem u64_wf {x:Int} (h:(Lit.int .u64 x).wf=true):U64 x:=by
 have e1:IntKind.u64.min=0:=rfl
 have e2:IntKind.u64.max=18446744073709551615:=rfl
 simp [Lit.wf,e1,e2] at h
 unfold U64
 omega
theorem i64_wf {x:Int} (h:(Lit.int .i64 x).wf=true): -9223372036854775808≤x∧x≤9223372036854775807:=by
 have e1:IntKind.i64.min= -9223372036854775808:=rfl
 have e2:IntKind.i64.max=9223372036854775807:=rfl
 simp [Lit.wf,e1,e2] at h
 omega
set_option maxHeartbeats 1000000 in
theorem open_list {P:Program} {b0:Nat} {H:Type} {enc:TypeId × Value→H} {W:World} {t e:TypeId} {k:IntKind} {v:Value} {d:DataW H} {p:List MemPlace} (ht:P.underlying t=some (.slice e)) (he:P.underlying e=some (.int k)) (hc:P.cellsOf e=1)
 (hval:Value.okWide P W .any b0 t v) (h:DataW.Trod enc P W 0 (fun _=>true) true t v d p) :
 ∃ L:List Int,(LstK k W v L∧(v=.slice none 0 0∨∃ a m c,v=.slice (some a) m c))∧(∀ x∈L,(Lit.int k x).wf=true)∧∀ W',Below W.heap.size W W'→∃ p',DataW.Trod enc P W' 0 (fun b=>decide (b < W.heap.size)) true t v d p':=by
 obtain ⟨a0,len,cap,rfl⟩:=okWide_slice ht hval
 obtain ⟨fuel,hf⟩:=h
 rcases open_ints ht he hc hf with ⟨hcs,hx⟩ | ⟨a,len',cap',zs,hcs,hb,hl,hm,hz,hx,hcell,hwz⟩
 · simp [Value.cells] at hcs
   obtain ⟨rfl,rfl,rfl⟩:=hcs
   simp only [Prod.mk.injEq] at hx
   obtain ⟨rfl,rfl⟩:=hx
   refine ⟨[],⟨⟨none,0,rfl,Nat.le_refl _,fun j hj=>absurd hj (Nat.not_lt_zero _)⟩,.inl rfl⟩,fun x hx=>by simp at hx,fun W' _=>⟨[],1,?_⟩⟩
   rw [DataW.trod_step]
   unfold DataW.trodStep
   simp [Value.cells,ht]
 · simp [Value.cells] at hcs
   obtain ⟨rfl,rfl,rfl⟩:=hcs
   simp only [Prod.mk.injEq] at hx
   obtain ⟨rfl,rfl⟩:=hx
   simp only [if_true] at hz
   have hlt:(zs.take len).length=len:=by simp;omega
   refine ⟨zs.take len,⟨?_,.inr ⟨a,len,cap,rfl⟩⟩,fun x hx=>hwz x (List.mem_of_mem_take hx),fun W' hB=>⟨MemPlace.row a zs.length,2,?_⟩⟩
   · by_cases hl0:len=0
     · refine ⟨some a,cap,by rw [hlt],by omega,fun j hj=>by omega⟩
     · obtain ⟨b,off,spot⟩:=a
       have hspot:spot=none:=by simpa [Addr.add] using World.cell?_spot (hcell 0 (by omega))
       subst hspot
       refine ⟨_,cap,by rw [hlt],by omega,fun j hj=>⟨b,off,rfl,?_⟩⟩
       rw [← add_plain,hcell j (by omega)]
       have hj2:j < zs.length:=by omega
       simp [List.getD,hj2]
   · have hz2:zs.length=(if decide (a.block < W.heap.size) then cap else len):=by
      by_cases h0:cap=0
      · have:len=0:=by omega
        rw [hz,h0,this]
        simp
      · have hlt2:=World.block_lt_of_cell? _ _ (hcell 0 (by omega))
        rw [block_add] at hlt2
        rw [decide_eq_true hlt2,hz]
        simp
     exact shut_ints 0 ht he hc (Nat.zero_le _) hl hm hz2 (fun i hi=>keepCell hB (hcell i hi)) hwz
section
variable {P:Program} {H:Type} {enc:TypeId × Value→H} {w:World} {base:Nat} {sp:Nat→Bool} {held:Bool} {fuel:Nat}
theorem open_cells {n:Nat} {t e:TypeId} {cs:List Value} {x:DataW H × List MemPlace} (ht:P.underlying t=some (.array n e)) (he:P.underlying e=some (.int .i64)) (hc:P.cellsOf e=1) (hct:P.cellsOf t=n)
 (h:DataW.trod enc P w base sp held fuel t cs=some x):cs.length=n∧∀ i,i < n→∃ z:Int,cs[i]?=some (.int .i64 z)∧(Lit.int .i64 z).wf=true:=by
 obtain ⟨xs,m,rfl,rfl,hl,hn,hi⟩:=DataW.trod_array ht h
 rw [hct] at hl
 refine ⟨hl,fun i hin=>?_⟩
 have h0:=hi i hin
 rw [hc,Nat.mul_one,List.getElem?_eq_getElem (by omega)] at h0
 obtain ⟨a,ea,-,wa⟩:=DataW.trod_int he h0
 refine ⟨a,?_,wa⟩
 have e2:=congrArg (fun l=>l[0]?) ea
 simpa [List.getElem?_take,List.getElem?_drop] using e2
theorem open_arr {n:Nat} {t e:TypeId} {v:Value} {d:DataW H} {ps:List MemPlace} (h2:2≤n) (ht:P.underlying t=some (.array n e)) (he:P.underlying e=some (.int .i64)) (hc:P.cellsOf e=1) (hct:P.cellsOf t=n)
 (h:DataW.Trod enc P w base sp held t v d ps):∃ cs:List Value,v=.agg cs.toArray∧cs.length=n∧∀ i,i < n→∃ z:Int,cs[i]?=some (.int .i64 z)∧(Lit.int .i64 z).wf=true:=by
 obtain ⟨fuel,hf⟩:=h
 obtain ⟨hl,hi⟩:=open_cells ht he hc hct hf
 cases v with
 | agg cs=>exact ⟨cs.toList,by simp,by simpa [Value.cells] using hl,fun i hin=>by simpa [Value.cells] using hi i hin⟩
 | _=>simp [Value.cells] at hl;omega
theorem open_two {t e:TypeId} {v:Value} {d:DataW H} {ps:List MemPlace} (ht:P.underlying t=some (.array 2 e)) (he:P.underlying e=some (.int .i64)) (hc:P.cellsOf e=1) (hct:P.cellsOf t=2)
 (h:DataW.Trod enc P w base sp held t v d ps):∃ x y:Int,v=.agg #[.int .i64 x,.int .i64 y]∧(Lit.int .i64 x).wf=true∧(Lit.int .i64 y).wf=true:=by
 obtain ⟨cs,rfl,hl,hi⟩:=open_arr (by omega) ht he hc hct h
 obtain ⟨x,ex,wx⟩:=hi 0 (by omega)
 obtain ⟨y,ey,wy⟩:=hi 1 (by omega)
 match cs,hl with
 | [c0,c1],_ =>
  simp only [List.getElem?_cons_zero,List.getElem?_cons_succ,Option.some.injEq] at ex ey
  exact ⟨x,y,by rw [ex,ey],wx,wy⟩
theorem open_four {t e:TypeId} {v:Value} {d:DataW H} {ps:List MemPlace} (ht:P.underlying t=some (.array 4 e)) (he:P.underlying e=some (.int .i64)) (hc:P.cellsOf e=1) (hct:P.cellsOf t=4)
 (h:DataW.Trod enc P w base sp held t v d ps):∃ x y z u:Int,v=.agg #[.int .i64 x,.int .i64 y,.int .i64 z,.int .i64 u]∧((Lit.int .i64 x).wf=true∧(Lit.int .i64 y).wf=true)∧(Lit.int .i64 z).wf=true∧(Lit.int .i64 u).wf=true:=by
 obtain ⟨cs,rfl,hl,hi⟩:=open_arr (by omega) ht he hc hct h
 obtain ⟨x,ex,wx⟩:=hi 0 (by omega)
 obtain ⟨y,ey,wy⟩:=hi 1 (by omega)
 obtain ⟨z,ez,wz⟩:=hi 2 (by omega)
 obtain ⟨u,eu,wu⟩:=hi 3 (by omega)
 match cs,hl with
 | [c0,c1,c2,c3],_ =>
  simp only [List.getElem?_cons_zero,List.getElem?_cons_succ,Option.some.injEq] at ex ey ez eu
  exact ⟨x,y,z,u,by rw [ex,ey,ez,eu],⟨wx,wy⟩,wz,wu⟩
end
end Go.Proofs.YtdklpgphmoaniaaGreatDoor
