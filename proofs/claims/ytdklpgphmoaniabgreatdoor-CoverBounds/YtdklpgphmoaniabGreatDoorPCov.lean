/-
  What package cover's Touches, Box and Centres tell, over the landed code; in whatever memory where the tables hold what their texts lay.
-/
import Derived.Test.YtdklpgphmoaniabGreatDoorQTouching
import Derived.Test.YtdklpgphmoaniabGreatDoorJn37
namespace Go.Proofs.YtdklpgphmoaniabGreatDoor
open Go.RowKit
theorem word_injQ {r:Nat} {p q:Int × Int} (h:Ok4 (r:Int) p.1 p.2) (k:Ok4 (r:Int) q.1 q.2) (e:wordOf r p.1 p.2=wordOf r q.1 q.2):p=q:=by
 have h1:=cell_word h
 have h2:=cell_word k
 rw [e] at h1
 exact Prod.ext (h1.1.symm.trans h2.1) (h1.2.symm.trans h2.2)
theorem wdL_nodup {r:Nat} {F:List (Int × Int)} (hF:F.Nodup) (hok:∀ p∈F,Ok4 (r:Int) p.1 p.2):(wdL r F).Nodup:=by
 unfold wdL List.Nodup
 rw [List.pairwise_map]
 exact List.Pairwise.imp_of_mem (fun {a b} ha hb hne e=>hne (word_injQ (hok a ha) (hok b hb) e)) hF
theorem many_ofQ {K r:Nat} (hK:K≤12) (hr:12 - (r:Int)=(K:Int)) {l1 l2 u1 u2:Int} (h1:0≤l1) (h2:0≤l2) (h3:u1 < 1073741824) (h4:u2 < 1073741824) {F:List (Int × Int)} (k1:F.Nodup) (k2:∀ p∈F,Tou K l1 l2 u1 u2 p.1 p.2) (k3:20000 < F.length):Many K l1 l2 u1 u2 r 20000 :=
 ⟨wdL r F,wdL_nodup k1 fun p hp=>tou_ok hK hr h1 h2 h3 h4 (k2 p hp),fun x hx=>by
   obtain ⟨p,hp,rfl⟩:=List.mem_map.1 hx
   exact tw_mk (tou_ok hK hr h1 h2 h3 h4 (k2 p hp)) (k2 p hp),by rw [wdL_len];exact k3⟩
theorem wdL_mem {K r:Nat} (hK:K≤12) (hr:12 - (r:Int)=(K:Int)) {l1 l2 u1 u2:Int} (h1:0≤l1) (h2:0≤l2) (h3:u1 < 1073741824) (h4:u2 < 1073741824) {F:List (Int × Int)} (hF:∀ x y,Tou K l1 l2 u1 u2 x y↔(x,y)∈F) (x:Int):x∈wdL r F↔TW K l1 l2 u1 u2 x r:=by
 constructor
 · intro hx
   obtain ⟨p,hp,rfl⟩:=List.mem_map.1 hx
   have ht:=(hF p.1 p.2).2 hp
   exact tw_mk (tou_ok hK hr h1 h2 h3 h4 ht) ht
 · rintro ⟨k1,k2,k3⟩
   have e:=word_cell k1
   rw [k2,Int.toNat_natCast] at e
   exact List.mem_map.2 ⟨_,(hF _ _).1 k3,e⟩
def cenB (K:Nat) (l1 l2 u1 u2:Int) (p:Int × Int):Bool:=inB l1 l2 u1 u2 (poX K p.1 p.2) (poY K p.1 p.2)
theorem wdL_cen {K r:Nat} (hK:K≤12) (hr:12 - (r:Int)=(K:Int)) {l1 l2 u1 u2:Int} (h1:0≤l1) (h2:0≤l2) (h3:u1 < 1073741824) (h4:u2 < 1073741824) {F:List (Int × Int)} (hF:∀ x y,Tou K l1 l2 u1 u2 x y↔(x,y)∈F) (x:Int):x∈wdL r (F.filter (cenB K l1 l2 u1 u2))↔TW K l1 l2 u1 u2 x r∧inCB K l1 l2 u1 u2 x=true:=by
 constructor
 · intro hx
   obtain ⟨p,hp,rfl⟩:=List.mem_map.1 hx
   obtain ⟨hp,hc⟩:=List.mem_filter.1 hp
   have ht:=(hF p.1 p.2).2 hp
   have hok:=tou_ok hK hr h1 h2 h3 h4 ht
   refine ⟨tw_mk hok ht,?_⟩
   have e:=cell_word hok
   unfold inCB
   rw [e.1,e.2]
   exact hc
 · rintro ⟨⟨k1,k2,k3⟩,hc⟩
   have e:=word_cell k1
   rw [k2,Int.toNat_natCast] at e
   exact List.mem_map.2 ⟨_,List.mem_filter.2 ⟨(hF _ _).1 k3,hc⟩,e⟩
def CapE (e:Ending):Prop:=∀ (p:Option Addr) (n c:Nat) (v:Value),e=.returned (.tuple #[.slice p n c,v])→n≤c
theorem cap_mk {p:Option Addr} {n c:Nat} {v:Value} (h:n≤c):CapE (.returned (.tuple #[.slice p n c,v])):=by
 intro p' n' c' v' e
 simp only [Ending.returned.injEq,Value.tuple.injEq,Array.mk.injEq,List.cons.injEq,Value.slice.injEq] at e
 omega
set_option maxHeartbeats 8000000 in
set_option maxRecDepth 100000 in
theorem p_box_cap (l1 l2 u1 u2:Int) (r K:Nat) (hK:K≤12) (hr:12 - (r:Int)=(K:Int)) (h1:0≤l1) (h2:0≤l2) (h3:u1 < 1073741824) (h4:u2 < 1073741824) (h5:l1≤u1) (h6:l2≤u2) (w:World) (hT:Cov3 w) :
 Calls Tryz.prog 8 #[.agg #[.int .i64 l1,.int .i64 l2],.agg #[.int .i64 u1,.int .i64 u2],.int .i64 (r:Int)] w fun e w'=>(TellsCB K r l1 l2 u1 u2 e w'∧CapE e)∧Below w.heap.size w w':=by
 have TO:=hidd fun w hT=>q_touching l1 l2 u1 u2 (r:Int) K hK hr h1 h2 h3 h4 h5 h6 w hT
 have WM:=hidd fun F hF x=>wdL_mem (l1:=l1) (l2:=l2) (u1:=u1) (u2:=u2) hK hr h1 h2 h3 h4 (F:=F) hF x
 have OKK:=hidd fun (F:List (Int × Int)) (hF:∀ x y,Tou K l1 l2 u1 u2 x y↔(x,y)∈F) p (hp:p∈F)=>tou_ok (r:=(r:Int)) hK hr h1 h2 h3 h4 ((hF p.1 p.2).2 hp)
 have MA:=hidd fun F k1 k2 k3=>many_ofQ (l1:=l1) (l2:=l2) (u1:=u1) (u2:=u2) hK hr h1 h2 h3 h4 (F:=F) k1 k2 k3
 have HT:=hidd hT
 have B0:=hidd (belowT (allocB w (.cells #[.int .i64 l1,.int .i64 l2] 22)) (allocB (w.alloc (.cells #[.int .i64 l1,.int .i64 l2] 22)) (.cells #[.int .i64 u1,.int .i64 u2] 22)))
 clear hT h1 h2 h3 h4 h5 h6 hK hr
 go_enter Tryz.func8,Tryz.ntmps8
 go_wp2_with fail
 generalize (w.alloc (.cells #[.int .i64 l1,.int .i64 l2] 22)).alloc (.cells #[.int .i64 u1,.int .i64 u2] 22)=w0 at *
 refine (TO.out _ (HT.out.below B0.out)).mono ?_
 rintro e w1 ⟨⟨v,F,rfl,f1,f2,f3,f4⟩ | ⟨⟨p,c,rfl⟩,F,f1,f2,f3⟩,b1⟩
 · have B1:=hidd (belowT B0.out b1)
   have WW:=hidd (q_words r _ v F (OKK.out F f3) (by omega) w1 (HT.out.below B1.out).1 f1)
   have FF:=hidd (And.intro f3 f4)
   clear f1 f2 f3 f4 b1 TO
   go_wp2_with fail
   refine WW.out.mono ?_
   rintro e w2 ⟨h2,b2⟩
   have B2:=hidd (belowT B1.out b2)
   obtain ⟨g,cap,L,rfl,k1,k2,k3,k4,k5,k6⟩:=h2
   have CC:=hidd k2
   have LL:=hidd (show TellsCB K r l1 l2 u1 u2 (.returned (.tuple #[.slice (some ⟨g,0,none⟩) L.length cap,.int .i64 0])) w2 from .inl ⟨_,L,rfl,.inr ⟨g,cap,rfl,Nat.zero_le _,fun j hj=>by have:=k6 j hj;rwa [Nat.zero_add] at this⟩,k3,fun x=>(k4 x).trans (WM.out F FF.out.1 x),by rw [wdL_len] at k5;have:=FF.out.2;omega⟩)
   clear k1 k2 k3 k4 k5 k6 b2 WW
   go_wp2
   go_ret2
   exact ⟨⟨LL.out,cap_mk CC.out⟩,B2.out⟩
 · have B1:=hidd (belowT B0.out b1)
   have MM:=hidd (MA.out F f1 f2 f3)
   clear f1 f2 f3 b1 TO
   go_wp2
   go_ret2
   exact ⟨⟨.inr ⟨⟨_,_,rfl⟩,MM.out⟩,cap_mk (Nat.zero_le _)⟩,B1.out⟩
theorem p_box (l1 l2 u1 u2:Int) (r K:Nat) (hK:K≤12) (hr:12 - (r:Int)=(K:Int)) (h1:0≤l1) (h2:0≤l2) (h3:u1 < 1073741824) (h4:u2 < 1073741824) (h5:l1≤u1) (h6:l2≤u2) (w:World) (hT:Cov3 w) :
 Calls Tryz.prog 8 #[.agg #[.int .i64 l1,.int .i64 l2],.agg #[.int .i64 u1,.int .i64 u2],.int .i64 (r:Int)] w fun e w'=>TellsCB K r l1 l2 u1 u2 e w'∧Below w.heap.size w w' :=
 (p_box_cap l1 l2 u1 u2 r K hK hr h1 h2 h3 h4 h5 h6 w hT).mono fun _ _ h=>⟨h.1.1,h.2⟩
set_option maxHeartbeats 8000000 in
set_option maxRecDepth 100000 in
theorem p_box_bad (l1 l2 u1 u2 r t:Int) (h:MayT l1 l2 u1 u2 r t) (ht:t≠0) (w:World) :
 Calls Tryz.prog 8 #[.agg #[.int .i64 l1,.int .i64 l2],.agg #[.int .i64 u1,.int .i64 u2],.int .i64 r] w fun e w'=>(∃ p c,e=.returned (.tuple #[.slice p 0 c,.int .i64 t]))∧Below w.heap.size w w':=by
 have TO:=hidd fun w=>q_touching_bad l1 l2 u1 u2 r t h ht w
 have ht':(t == 0)=false:=by simpa using ht
 have ht2:decide (t=0)=false:=by simpa using ht
 have B0:=hidd (belowT (allocB w (.cells #[.int .i64 l1,.int .i64 l2] 22)) (allocB (w.alloc (.cells #[.int .i64 l1,.int .i64 l2] 22)) (.cells #[.int .i64 u1,.int .i64 u2] 22)))
 clear h
 go_enter Tryz.func8,Tryz.ntmps8
 go_wp2_with fail
 generalize (w.alloc (.cells #[.int .i64 l1,.int .i64 l2] 22)).alloc (.cells #[.int .i64 u1,.int .i64 u2] 22)=w0 at *
 refine (TO.out _).mono ?_
 rintro e w1 ⟨rfl,b1⟩
 have B1:=hidd (belowT B0.out b1)
 clear b1 TO
 go_wp2
 go_ret2
 exact ⟨⟨_,_,rfl⟩,B1.out⟩
set_option maxHeartbeats 8000000 in
set_option maxRecDepth 100000 in
theorem p_centres_bad (l1 l2 u1 u2 r t:Int) (h:MayT l1 l2 u1 u2 r t) (ht:t≠0) (w:World) :
 Calls Tryz.prog 7 #[.agg #[.int .i64 l1,.int .i64 l2],.agg #[.int .i64 u1,.int .i64 u2],.int .i64 r] w fun e w'=>(∃ p c,e=.returned (.tuple #[.slice p 0 c,.int .i64 t]))∧Below w.heap.size w w':=by
 have TO:=hidd fun w=>q_touching_bad l1 l2 u1 u2 r t h ht w
 have ht':(t == 0)=false:=by simpa using ht
 have ht2:decide (t=0)=false:=by simpa using ht
 have B0:=hidd (belowT (belowT (allocB w (.cells #[.int .i64 l1,.int .i64 l2] 22)) (allocB (w.alloc (.cells #[.int .i64 l1,.int .i64 l2] 22)) (.cells #[.int .i64 u1,.int .i64 u2] 22))) (allocB _ (.cells #[.int .i64 l1,.int .i64 l2,.int .i64 u1,.int .i64 u2] 45)))
 clear h
 go_enter Tryz.func7,Tryz.ntmps7
 go_wp2_with fail
 generalize ((w.alloc (.cells #[.int .i64 l1,.int .i64 l2] 22)).alloc (.cells #[.int .i64 u1,.int .i64 u2] 22)).alloc (.cells #[.int .i64 l1,.int .i64 l2,.int .i64 u1,.int .i64 u2] 45)=w0 at *
 refine (TO.out _).mono ?_
 rintro e w1 ⟨rfl,b1⟩
 have B1:=hidd (belowT B0.out b1)
 clear b1 TO
 go_wp2
 go_ret2
 exact ⟨⟨_,_,rfl⟩,B1.out⟩
theorem fil_yes {α:Type} {f:α→Bool} {F:List α} {j:Nat} (hj:j < F.length) (h:f F[j]=true):(F.take (j+1)).filter f=(F.take j).filter f++[F[j]]:=by
 rw [List.take_add_one,List.getElem?_eq_getElem hj,List.filter_append]
 simp [h]
theorem fil_no {α:Type} {f:α→Bool} {F:List α} {j:Nat} (hj:j < F.length) (h:f F[j]=false):(F.take (j+1)).filter f=(F.take j).filter f:=by
 rw [List.take_add_one,List.getElem?_eq_getElem hj,List.filter_append]
 simp [h]
theorem fil_len {α:Type} (f:α→Bool) (F:List α) (j:Nat):((F.take j).filter f).length≤j:=Nat.le_trans (List.length_filter_le _ _) (List.length_take_le _ _)
set_option maxHeartbeats 8000000 in
set_option maxRecDepth 100000 in
theorem p_centres_cap (l1 l2 u1 u2:Int) (r K:Nat) (hK:K≤12) (hr:12 - (r:Int)=(K:Int)) (h1:0≤l1) (h2:0≤l2) (h3:u1 < 1073741824) (h4:u2 < 1073741824) (h5:l1≤u1) (h6:l2≤u2) (w:World) (hT:Cov3 w) :
 Calls Tryz.prog 7 #[.agg #[.int .i64 l1,.int .i64 l2],.agg #[.int .i64 u1,.int .i64 u2],.int .i64 (r:Int)] w fun e w'=>(TellsCC K r l1 l2 u1 u2 e w'∧CapE e)∧Below w.heap.size w w':=by
 have TO:=hidd fun w hT=>q_touching l1 l2 u1 u2 (r:Int) K hK hr h1 h2 h3 h4 h5 h6 w hT
 have WM:=hidd fun F hF x=>wdL_cen (l1:=l1) (l2:=l2) (u1:=u1) (u2:=u2) hK hr h1 h2 h3 h4 (F:=F) hF x
 have OKK:=hidd fun (F:List (Int × Int)) (hF:∀ x y,Tou K l1 l2 u1 u2 x y↔(x,y)∈F) p (hp:p∈F)=>tou_ok (r:=(r:Int)) hK hr h1 h2 h3 h4 ((hF p.1 p.2).2 hp)
 have MA:=hidd fun F k1 k2 k3=>many_ofQ (l1:=l1) (l2:=l2) (u1:=u1) (u2:=u2) hK hr h1 h2 h3 h4 (F:=F) k1 k2 k3
 have CE:=hidd fun (a b:Int) (hok:Ok4 (r:Int) a b) w=>q_centre a b (r:Int) K hK hr hok.2.2.1 hok.2.2.2.1 w
 have HT:=hidd hT
 have B0:=hidd (belowT (belowT (allocB w (.cells #[.int .i64 l1,.int .i64 l2] 22)) (allocB (w.alloc (.cells #[.int .i64 l1,.int .i64 l2] 22)) (.cells #[.int .i64 u1,.int .i64 u2] 22))) (allocB _ (.cells #[.int .i64 l1,.int .i64 l2,.int .i64 u1,.int .i64 u2] 45)))
 have X0:=hidd (show Box4 (w.heap.size+1+1) l1 l2 u1 u2 (((w.alloc (.cells #[.int .i64 l1,.int .i64 l2] 22)).alloc (.cells #[.int .i64 u1,.int .i64 u2] 22)).alloc (.cells #[.int .i64 l1,.int .i64 l2,.int .i64 u1,.int .i64 u2] 45)) from ⟨by go_simp,by go_simp,by go_simp,by go_simp⟩)
 clear hT h1 h2 h3 h4 h5 h6 hK hr
 obtain ⟨i0,hi,hz0,hz1,hz2⟩:=info_partsQ infoEQ
 go_enter Tryz.func7,Tryz.ntmps7
 go_wp2_with fail
 generalize ((w.alloc (.cells #[.int .i64 l1,.int .i64 l2] 22)).alloc (.cells #[.int .i64 u1,.int .i64 u2] 22)).alloc (.cells #[.int .i64 l1,.int .i64 l2,.int .i64 u1,.int .i64 u2] 45)=w0 at *
 refine (TO.out _ (HT.out.below B0.out)).mono ?_
 rintro e w1 ⟨⟨v,F,rfl,f1,f2,f3,f4⟩ | ⟨⟨p,c,rfl⟩,F,f1,f2,f3⟩,b1⟩
 · have B1:=hidd (belowT B0.out b1)
   have X1:=hidd (X0.out.keep b1)
   have OKF:=hidd (OKK.out F f3)
   have HO:=hidd f1
   obtain ⟨sp,sc,rfl⟩:=f1.any
   have FF:=hidd (And.intro f3 f4)
   obtain ⟨n,en⟩:∃ n,F.length=n:=⟨_,rfl⟩
   have EN:=hidd en
   rw [en] at HO ⊢
   have hn:n≤20000:=by rw [← en];exact f4
   clear f1 f2 f3 f4 b1 TO OKK MA B0 X0 en
   have hs1:=B1.out.size
   go_wp2_with fail
   go_loopw [11,28] (fun v11 v28 wr=>∃ j:Nat,j≤n∧v28=.int .i64 (j:Int)∧Hid (RowE w1.heap.size v11 ((F.take j).filter (cenB K l1 l2 u1 u2)) wr)∧Hid (Below w1.heap.size w1 wr)) (fun _ v28 _=>n - (intOf v28).toNat)
   case atStart=>exact ⟨0,by omega,rfl,hidd (World.ownsRow_nil _ _ _ _),hidd (Below.refl _ _)⟩
   case round =>
    obtain ⟨j,hj,rfl,OW,B⟩:=hrel
    obtain ⟨vp,vc,rfl⟩:=OW.out.any
    have hm:=fil_len (cenB K l1 l2 u1 u2) F j
    have RO:Hid (wr.ownsRow w1.heap.size 40 2 (.slice vp ((F.take j).filter (cenB K l1 l2 u1 u2)).length vc) ((F.take j).filter (cenB K l1 l2 u1 u2)).length (pairV ((F.take j).filter (cenB K l1 l2 u1 u2)))):=hidd OW.out
    obtain ⟨m,em⟩:∃ m,((F.take j).filter (cenB K l1 l2 u1 u2)).length=m:=⟨_,rfl⟩
    have ML:=hidd em
    rw [em] at RO hm ⊢
    clear em OW
    by_cases hjn:j < n
    · have hjn':(j:Int) < (n:Int):=by omega
      have hjL:j < F.length:=by rw [EN.out];exact hjn
      have hrow:RowE _ (.slice sp F.length sc) F wr:=RowE.keep (by have:=HO.out;rwa [← EN.out] at this) B.out
      obtain ⟨g,c2,e,-,y0,y1⟩:=hrow.at_ j hjL
      rw [EN.out] at e
      simp only [Value.slice.injEq] at e
      obtain ⟨rfl,-,rfl⟩:=e
      have C1:=hidd fun w=>CE.out F[j].1 F[j].2 (OKF.out _ (List.getElem_mem hjL)) w
      have SY:=hidd (show cenB K l1 l2 u1 u2 F[j]=true→(F.take (j+1)).filter (cenB K l1 l2 u1 u2)=(F.take j).filter (cenB K l1 l2 u1 u2)++[(F[j].1,F[j].2)] from fil_yes (f:=cenB K l1 l2 u1 u2) hjL)
      have SN:=hidd (fil_no (f:=cenB K l1 l2 u1 u2) hjL)
      have H1:=hidd fun w=>q_holds l1 l2 u1 u2 (poX K F[j].1 F[j].2) (poY K F[j].1 F[j].2) w
      obtain ⟨t,et⟩:∃ t,inB l1 l2 u1 u2 (poX K F[j].1 F[j].2) (poY K F[j].1 F[j].2)=t:=⟨_,rfl⟩
      have ET:=hidd (show cenB K l1 l2 u1 u2 F[j]=t from et)
      simp only [et] at H1
      have al:=allocB wr (.cells #[.int .i64 F[j].1,.int .i64 F[j].2] 40)
      have X2:=hidd ((X1.out.keep B.out).keep al)
      have BA:=hidd al
      clear hrow al et
      generalize poX K F[j].1 F[j].2=cx at *
      generalize poY K F[j].1 F[j].2=cy at *
      generalize F[j].1=a at *
      generalize F[j].2=b at *
      go_wp2_with fail
      have z0:(wr.alloc (.cells #[.int .i64 a,.int .i64 b] 40)).cell? ⟨wr.heap.size,0,none⟩=some (.int .i64 a):=by go_simp
      have z1:(wr.alloc (.cells #[.int .i64 a,.int .i64 b] 40)).cell? ⟨wr.heap.size,1,none⟩=some (.int .i64 b):=by go_simp
      obtain ⟨x0,x1,x2,x3⟩:=X2.out
      have hS0:=keepSixQ (drewB _) ⟨x0,x1,x2,x3,z0,z1,BA.out⟩
      generalize wr.alloc (.cells #[.int .i64 a,.int .i64 b] 40)=w2 at *
      clear y0 y1 X2 BA x0 x1 x2 x3 z0 z1
      go_region_held3 (fun w'=>w'.cell? ⟨w.heap.size+1+1,0,none⟩=some (.int .i64 l1)∧w'.cell? ⟨w.heap.size+1+1,1,none⟩=some (.int .i64 l2)∧w'.cell? ⟨w.heap.size+1+1,2,none⟩=some (.int .i64 u1)∧w'.cell? ⟨w.heap.size+1+1,3,none⟩=some (.int .i64 u2)∧w'.cell? ⟨wr.heap.size,0,none⟩=some (.int .i64 a)∧w'.cell? ⟨wr.heap.size,1,none⟩=some (.int .i64 b)∧Below wr.heap.size wr w') (first | exact hS0 | assumption | exact keepSixQ (by assumption) (by assumption))
       (first | (go_at_call 16;refine (C1.out _).mono ?_;rintro e w' ⟨rfl,hb⟩) | (go_at_call 15;refine (H1.out _).mono ?_;rintro e w' ⟨rfl,hb⟩))
      rename_i hS
      obtain ⟨-,-,-,-,z0,z1,bw⟩:=hS
      have O3:=hidd (own_keep bw RO.out)
      have B3:=hidd (belowT B.out bw)
      have hs3:=B3.out.size
      clear hS0 C1 H1 bw RO B
      cases t
      · have N1:=hidd (SN.out ET.out)
        have R3:=hidd (show RowE w1.heap.size (.slice vp m vc) ((F.take (j+1)).filter (cenB K l1 l2 u1 u2)) w' from by
         rw [N1.out]
         unfold RowE
         rw [ML.out]
         exact O3.out)
        clear O3 z0 z1
        go_wp2_with fail
        go_roundw
        case rel=>exact ⟨j+1,by omega,by go_num,R3,B3⟩
        case measure=>simp [intOf];omega
      · have N1:=hidd (SY.out ET.out)
        have hm63:m+1≤maxLen:=by unfold maxLen;omega
        go_wp2_with (at_builtin;refine wpList_append_lies _ rfl (.tmp 37) (.tmp 39) 46 rfl w1.heap.size 40 i0 (.agg #[.int .i64 0,.int .i64 0]) 2 16 Tryz.underlying46 hi hz0 hz1 hz2 rfl (by decide) (.slice vp m vc) _ _ rfl (own_keep (allocB _ _) O3.out) ⟨w'.heap.size,0,none⟩ 1 1 [.int .i64 a,.int .i64 b] rfl rfl (pair_lie _ _ _ _) (pair_one _ _) (by decide) hm63 (by omega) (by simp;omega) (w'.heap.size+1) (by simp) ?_;intro g6 q6 w6 hown hgrow hat hlt6)
        have R6:Hid (RowE w1.heap.size (.slice (some ⟨g6,0,none⟩) (m+1) q6) ((F.take (j+1)).filter (cenB K l1 l2 u1 u2)) w6):=hidd (by
         rw [N1.out]
         unfold RowE
         rw [List.length_append,ML.out,pairV_app,pairV_one,List.length_singleton]
         exact hown)
        have hne:∀ k,(Value.slice vp m vc).ownBlock=some k→w1.heap.size≤k:=fun k e=>(World.ownsRow.lt O3.out k e).1
        have B6:=hidd ((belowT B3.out (allocB _ _)).grown hgrow (by simp;omega) (fun k e=>by have:=hne k e;omega))
        clear hown hgrow hat B3 O3 hne
        go_roundw
        case rel=>exact ⟨j+1,by omega,by go_num,R6,B6⟩
        case measure=>simp [intOf];omega
    · obtain rfl:j=n:=by omega
      have hjn':decide ((j:Int) < (j:Int))=false:=by simp
      have B2:=hidd (belowT B1.out B.out)
      have TK:F.take j=F:=by rw [← EN.out,List.take_length]
      rw [TK] at RO ML
      have WW:=hidd (q_words r w1.heap.size (.slice vp m vc) (F.filter (cenB K l1 l2 u1 u2)) (fun p hp=>OKF.out p (List.mem_filter.1 hp).1) (by have:=ML.out;omega) wr (HT.out.below B2.out).1 (by unfold RowE;rw [ML.out];exact RO.out))
      clear RO B1 B hm TK ML
      go_wp2_with fail
      refine WW.out.mono ?_
      rintro e w3 ⟨h2,b3⟩
      have B3:=hidd (belowT B2.out b3)
      obtain ⟨g,cap,L,rfl,k1,k2,k3,k4,k5,k6⟩:=h2
      have CC:=hidd k2
      have LL:=hidd (show TellsCC K r l1 l2 u1 u2 (.returned (.tuple #[.slice (some ⟨g,0,none⟩) L.length cap,.int .i64 0])) w3 from .inl ⟨_,L,rfl,.inr ⟨g,cap,rfl,Nat.zero_le _,fun j hj=>by have:=k6 j hj;rwa [Nat.zero_add] at this⟩,k3,fun x=>(k4 x).trans (WM.out F FF.out.1 x),by
       rw [wdL_len] at k5
       have h1:=FF.out.2
       have h2:=List.length_filter_le (cenB K l1 l2 u1 u2) F
       omega⟩)
      clear k1 k2 k3 k4 k5 k6 b3 WW
      go_wp2
      go_ret2
      exact ⟨⟨LL.out,cap_mk CC.out⟩,B3.out⟩
 · have B1:=hidd (belowT B0.out b1)
   have MM:=hidd (MA.out F f1 f2 f3)
   clear f1 f2 f3 b1 TO
   go_wp2
   go_ret2
   exact ⟨⟨.inr ⟨⟨_,_,rfl⟩,MM.out⟩,cap_mk (Nat.zero_le _)⟩,B1.out⟩
theorem p_centres (l1 l2 u1 u2:Int) (r K:Nat) (hK:K≤12) (hr:12 - (r:Int)=(K:Int)) (h1:0≤l1) (h2:0≤l2) (h3:u1 < 1073741824) (h4:u2 < 1073741824) (h5:l1≤u1) (h6:l2≤u2) (w:World) (hT:Cov3 w) :
 Calls Tryz.prog 7 #[.agg #[.int .i64 l1,.int .i64 l2],.agg #[.int .i64 u1,.int .i64 u2],.int .i64 (r:Int)] w fun e w'=>TellsCC K r l1 l2 u1 u2 e w'∧Below w.heap.size w w' :=
 (p_centres_cap l1 l2 u1 u2 r K hK hr h1 h2 h3 h4 h5 h6 w hT).mono fun _ _ h=>⟨h.1.1,h.2⟩
end Go.Proofs.YtdklpgphmoaniabGreatDoor
