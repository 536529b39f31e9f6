/-
  What the texts QTouch, QTouching, QWords, PCov say, so far as this seat's proofs need it.
-/
import Derived.Test.YtbnlhdnnenahfaaGreatDoorQFromY
import Derived.Test.YtbnlhdnnenahfaaGreatDoorQ6Y
import Derived.Test.YtbnlhdnnenahfaaGreatDoorUSY
set_option maxHeartbeats 8000000
set_option maxRecDepth 100000
namespace Go.Proofs.YtbnlhdnnenahfaaGreatDoor
open Go.RowKit
def TchS (B:Nat)(r a b l1 l2 u1 u2:Int)(W:World):Prop:=(W.cell? ⟨B,0,none⟩=some (.int .i64 r)/\W.cell? ⟨B,1,none⟩=some (.int .i64 a)/\W.cell? ⟨B,2,none⟩=some (.int .i64 b)) /\
 W.cell? ⟨B+1+1+1,0,none⟩=some (.int .i64 l1)/\W.cell? ⟨B+1+1+1,1,none⟩=some (.int .i64 l2)/\W.cell? ⟨B+1+1+1,2,none⟩=some (.int .i64 u1)/\W.cell? ⟨B+1+1+1,3,none⟩=some (.int .i64 u2)
theorem TchS.keep {B:Nat}{r a b l1 l2 u1 u2:Int}{W W':World}(h:TchS B r a b l1 l2 u1 u2 W)(hb:Below W.heap.size W W'):TchS B r a b l1 l2 u1 u2 W' :=
 ⟨⟨aa hb h.1.1,aa hb h.1.2.1,aa hb h.1.2.2⟩,aa hb h.2.1,aa hb h.2.2.1,aa hb h.2.2.2.1,aa hb h.2.2.2.2⟩
theorem sC (w:World)(e1 e2 e3 e4:TypeId)(r a b l1 l2 u1 u2:Int):TchS w.heap.size r a b l1 l2 u1 u2 ((((w.alloc (.cells #[.int .i64 r,.int .i64 a,.int .i64 b] e1)).alloc (.cells #[.int .i64 l1,.int .i64 l2] e2)).alloc (.cells #[.int .i64 u1,.int .i64 u2] e3)).alloc (.cells #[.int .i64 l1,.int .i64 l2,.int .i64 u1,.int .i64 u2] e4)) /\
 Below w.heap.size w ((((w.alloc (.cells #[.int .i64 r,.int .i64 a,.int .i64 b] e1)).alloc (.cells #[.int .i64 l1,.int .i64 l2] e2)).alloc (.cells #[.int .i64 u1,.int .i64 u2] e3)).alloc (.cells #[.int .i64 l1,.int .i64 l2,.int .i64 u1,.int .i64 u2] e4)):=by
 refine⟨⟨⟨by go_simp,by go_simp,by go_simp⟩,by go_simp,by go_simp,by go_simp,by go_simp⟩,?_⟩;exact ae (ae (ae (ag _ _) (ag _ _)) (ag _ _)) (ag _ _)
theorem ft (r a b l1 l2 u1 u2:Int)(ok p q t:Bool)(h:ok=false∨(ok=true/\(p && q)=false)∨(ok=true/\(p && q)=true/\t=true))(w:World)(hT:Cov3 w)
 (OK:∀w,Cov3 w->Calls Tryz.prog 128 #[.agg #[.int .i64 r,.int .i64 a,.int .i64 b]] w fun e w'=>e=.returned (.bool ok)/\Below w.heap.size w w')
 (NR:∀w,Calls Tryz.prog 139 #[.agg #[.int .i64 l1,.int .i64 l2,.int .i64 u1,.int .i64 u2]] w fun e w'=>e=.returned (.bool (p && q))/\Below w.heap.size w w')
 (TU:∀w,Calls Tryz.prog 91 #[.agg #[.int .i64 l1,.int .i64 l2,.int .i64 u1,.int .i64 u2]] w fun e w'=>e=.returned (.bool t)/\Below w.heap.size w w') :
 Calls Tryz.prog 96 #[.agg #[.int .i64 r,.int .i64 a,.int .i64 b],.agg #[.int .i64 l1,.int .i64 l2],.agg #[.int .i64 u1,.int .i64 u2]] w fun e w'=>e=.returned (.bool false)/\Below w.heap.size w w':=by
 replace NR:Hid _:=NR;replace TU:Hid _:=TU;have S0:=ab (sC w 39 26 26 66 r a b l1 l2 u1 u2);have OK1:=ab (OK _ (hT.below S0.out.2));clear OK hT;generalize (p && q)=nr at *
 go_enter Tryz.func96,Tryz.ntmps96
 go_wp2_with fail;generalize (((w.alloc (.cells #[.int .i64 r,.int .i64 a,.int .i64 b] 39)).alloc (.cells #[.int .i64 l1,.int .i64 l2] 26)).alloc (.cells #[.int .i64 u1,.int .i64 u2] 26)).alloc (.cells #[.int .i64 l1,.int .i64 l2,.int .i64 u1,.int .i64 u2] 66)=w0 at *;refine OK1.out.mono ?_;rintro e w1 ⟨rfl,b1⟩;have B1:=ab (ae S0.out.2 b1);obtain⟨-,y0,y1,y2,y3⟩:=S0.out.1.keep b1;clear S0 OK1 b1;rcases h with rfl | ⟨rfl,rfl⟩ | ⟨rfl,rfl,rfl⟩
 · go_wp2_with fail;go_ret;exact⟨rfl,B1.out⟩
 · go_wp2_with fail;refine(NR.out _).mono ?_;rintro e w2 ⟨rfl,b2⟩;have B2:=ab (ae B1.out b2);clear y0 y1 y2 y3 b2 NR TU;go_wp2_with fail;go_ret;exact⟨rfl,B2.out⟩
 · go_wp2_with fail;refine(NR.out _).mono ?_;rintro e w2 ⟨rfl,b2⟩;have B2:=ab (ae B1.out b2);replace y0:=aa b2 y0;replace y1:=aa b2 y1;replace y2:=aa b2 y2;replace y3:=aa b2 y3;clear b2 NR;go_wp2_with fail;refine(TU.out _).mono ?_;rintro e w3 ⟨rfl,b3⟩;have B3:=ab (ae B2.out b3);clear y0 y1 y2 y3 b3 TU;go_wp2_with fail;go_ret;exact⟨rfl,B3.out⟩
theorem r7 (r a b l1 l2 u1 u2:Int)(M L:List Ed)(hM:∀e∈M,EdB e)(hL:∀e∈L,EdB e)(hm:M.length<=1000)(hl:L.length<=1000)(w:World)(hT:Cov3 w)
 (OK:∀w,Cov3 w->Calls Tryz.prog 128 #[.agg #[.int .i64 r,.int .i64 a,.int .i64 b]] w fun e w'=>e=.returned (.bool true)/\Below w.heap.size w w')
 (NR:∀w,Calls Tryz.prog 139 #[.agg #[.int .i64 l1,.int .i64 l2,.int .i64 u1,.int .i64 u2]] w fun e w'=>e=.returned (.bool true)/\Below w.heap.size w w')
 (TU:∀w,Calls Tryz.prog 91 #[.agg #[.int .i64 l1,.int .i64 l2,.int .i64 u1,.int .i64 u2]] w fun e w'=>e=.returned (.bool false)/\Below w.heap.size w w')
 (HX:∀w,Cov3 w->Calls Tryz.prog 140 #[.agg #[.int .i64 r,.int .i64 a,.int .i64 b]] w fun e w'=>(∃v,e=.returned v/\RowD w.heap.size v M w')/\Below w.heap.size w w')
 (SD:∀w,Calls Tryz.prog 141 #[.agg #[.int .i64 l1,.int .i64 l2,.int .i64 u1,.int .i64 u2]] w fun e w'=>(∃v,e=.returned v/\RowD w.heap.size v L w')/\Below w.heap.size w w') :
 Calls Tryz.prog 96 #[.agg #[.int .i64 r,.int .i64 a,.int .i64 b],.agg #[.int .i64 l1,.int .i64 l2],.agg #[.int .i64 u1,.int .i64 u2]] w fun e w'=>e=.returned (.bool (!eo M L && !eo L M))/\Below w.heap.size w w':=by
 replace NR:Hid _:=NR;replace TU:Hid _:=TU;replace SD:Hid _:=SD;replace HX:Hid _:=HX;have S0:=ab (sC w 39 26 26 66 r a b l1 l2 u1 u2);have OK1:=ab (OK _ (hT.below S0.out.2));have HT:=ab hT;have O1:=ab fun(p q:Value) (bp bq:Nat) (w:World) (hp:RowD bp p M w) (hq:RowD bq q L w)=>Eh bp bq p q M L hM hL hm hl w hp hq;have O2:=ab fun(p q:Value) (bp bq:Nat) (w:World) (hp:RowD bp p M w) (hq:RowD bq q L w)=>Eh bq bp q p L M hL hM hl hm w hq hp;clear OK hT hM hL hm hl
 go_enter Tryz.func96,Tryz.ntmps96
 go_wp2_with fail;generalize (((w.alloc (.cells #[.int .i64 r,.int .i64 a,.int .i64 b] 39)).alloc (.cells #[.int .i64 l1,.int .i64 l2] 26)).alloc (.cells #[.int .i64 u1,.int .i64 u2] 26)).alloc (.cells #[.int .i64 l1,.int .i64 l2,.int .i64 u1,.int .i64 u2] 66)=w0 at *;refine OK1.out.mono ?_;rintro e w1 ⟨rfl,b1⟩;have B1:=ab (ae S0.out.2 b1);have S1:=ab (S0.out.1.keep b1);obtain⟨-,y0,y1,y2,y3⟩:=S1.out;clear S0 OK1 b1;go_wp2_with fail;refine(NR.out _).mono ?_;rintro e w2 ⟨rfl,b2⟩;have B2:=ab (ae B1.out b2);have S2:=ab (S1.out.keep b2);clear y0 y1 y2 y3 b2 NR S1 B1;obtain⟨-,y0,y1,y2,y3⟩:=S2.out;go_wp2_with fail;refine(TU.out _).mono ?_;rintro e w3 ⟨rfl,b3⟩;have B3:=ab (ae B2.out b3);have S3:=ab (S2.out.keep b3);clear y0 y1 y2 y3 b3 TU S2 B2;obtain⟨⟨z0,z1,z2⟩,y0,y1,y2,y3⟩:=S3.out;go_wp2_with fail
 go_region_with (first
  | (go_at_call 140
     refine(HX.out _ (HT.out.below (by first | exact BX.out | exact ae B3.out (aK _)))).mono ?_;rintro e w4 ⟨⟨v1,rfl,hv1⟩,b4⟩;have BX1:=ab (show Below w.heap.size w w4 from(by first | exact ae BX.out b4 | exact ae (ae B3.out (aK _)) b4));have SX:=ab (show TchS w.heap.size r a b l1 l2 u1 u2 w4 from(by first | exact SX0.out.keep b4 | exact(S3.out.keep (aK _)).keep b4));have RX1:=ab hv1
     try have RX3:=ab (RX2.out.keep b4)
     clear z0 z1 z2 y0 y1 y2 y3;obtain⟨⟨z0,z1,z2⟩,y0,y1,y2,y3⟩:=SX.out;clear hv1 b4)
  | (go_at_call 141
     refine(SD.out _).mono ?_;rintro e w5 ⟨⟨v2,rfl,hv2⟩,b5⟩;have BX:=ab (show Below w.heap.size w w5 from(by first | exact ae BX1.out b5 | exact ae (ae B3.out (aK _)) b5));have SX0:=ab (show TchS w.heap.size r a b l1 l2 u1 u2 w5 from(by first | exact SX.out.keep b5 | exact(S3.out.keep (aK _)).keep b5));have RX2:=ab hv2
     try have RX4:=ab (RX1.out.keep b5)
     clear z0 z1 z2 y0 y1 y2 y3;obtain⟨⟨z0,z1,z2⟩,y0,y1,y2,y3⟩:=SX0.out;clear hv2 b5))
 all_goals
  have C1:=ab (O1.out _ _ _ _ _ RX4.out RX2.out);have C2:=ab fun(w6:World) b6=>O2.out _ _ _ _ w6 (RX4.out.keep b6) (RX2.out.keep b6);have BX9:=ab BX.out;clear RX1 RX2 RX4 BX1 BX SX SX0 S3 B3 HX SD O1 O2 HT z0 z1 z2 y0 y1 y2 y3;obtain⟨t1,e1⟩:∃t,eo M L=t:=⟨_,rfl⟩
  obtain⟨t2,e2⟩:∃t,eo L M=t:=⟨_,rfl⟩
  have E1:=ab e1;have E2:=ab e2;simp only[e1]at C1;simp only[e2]at C2;clear e1 e2;go_wp2_with fail;refine C1.out.mono ?_;rintro e w6 ⟨rfl,b6⟩;have B6:=ab (ae BX9.out b6);have C3:=ab (C2.out w6 b6);clear C1 C2 BX9 b6;cases t1
  · go_wp2_with fail;refine C3.out.mono ?_;rintro e w7 ⟨rfl,b7⟩;have B7:=ab (ae B6.out b7);clear C3 b7 B6;go_wp2;go_ret;exact⟨by rw[E1.out,E2.out];simp,B7.out⟩
  · go_wp2;go_ret;exact⟨by rw[E1.out,E2.out];simp,B6.out⟩
theorem nh (x y:Int):(inB (-2147483648) (-2147483648) 2147483648 2147483648 x y=true↔¬cD x y)/\(inB (-2147483648) (-2147483648) 2147483648 2147483648 x y=false↔cD x y):=by
 unfold inB cD;simp only[decide_eq_true_eq,decide_eq_false_iff_not];omega
theorem FS (r a b l1 l2 u1 u2:Int)(t:Bool)(ht:t=true↔qA r a b l1 l2 u1 u2)(_hB:∀z∈[r,a,b,l1,l2,u1,u2],-9223372036854775808<=z/\z<=9223372036854775807)(w:World)(hT:Cov3 w) :
 Calls Tryz.prog 96 #[.agg #[.int .i64 r,.int .i64 a,.int .i64 b],.agg #[.int .i64 l1,.int .i64 l2],.agg #[.int .i64 u1,.int .i64 u2]] w fun e w'=>e=.returned (.bool t)/\Below w.heap.size w w':=by
 have no:¬qA r a b l1 l2 u1 u2->t=false:=fun h=>by
  cases ee:t with
  | false=>rfl
  | true=>exact absurd (ht.1 ee) h
 have NR:=fun w=>C8 l1 l2 u1 u2 _ _ rfl rfl w;have tu:(u1<l1∨u2<l2)->∀w,Calls Tryz.prog 91 #[.agg #[.int .i64 l1,.int .i64 l2,.int .i64 u1,.int .i64 u2]] w fun e w'=>e=.returned (.bool true)/\Below w.heap.size w w':=fun h w=>by
  by_cases h1:u1<l1
  · exact f9 l1 l2 u1 u2 true (.inl ⟨h1,rfl⟩) w
  · exact f9 l1 l2 u1 u2 true (.inr (.inl ⟨by simp only[decide_eq_false_iff_not];exact h1,by omega,rfl⟩)) w
 by_cases hok:Ok4 r a b
 · have OK:=fun w (hT:Cov3 w)=>jd r a b hok w hT.1;by_cases hn:(inB (-2147483648) (-2147483648) 2147483648 2147483648 l1 l2 && inB (-2147483648) (-2147483648) 2147483648 2147483648 u1 u2)=true
   · have hf:=Bool.and_eq_true_iff.1 hn;have f1:=(nh l1 l2).1.1 hf.1;have f2:=(nh u1 u2).1.1 hf.2;by_cases h1:u1<l1∨u2<l2
     · rw[no fun h=>by have:=h.2.2.2.1;omega];exact ft r a b l1 l2 u1 u2 true _ _ true (.inr (.inr ⟨rfl,hn,rfl⟩)) w hT OK NR (tu h1)
     · have hK:(12-r).toNat<=12:=by have:=hok.1;omega
       have hr:12-r=((12-r).toNat:Int):=by have:=hok.2.1;omega
       have hp:=ce hok;have bx1:(-2147483648<=l1/\l1<=2147483648)/\(-2147483648<=l2/\l2<=2147483648):=by unfold cD at f1;omega
       have bx2:(-2147483648<=u1/\u1<=2147483648)/\(-2147483648<=u2/\u2<=2147483648):=by unfold cD at f2;omega
       have key:=DT (a:=a) (b:=b) hK (show l1<=u1 by omega) (show l2<=u2 by omega);have et:t=(!eo (exL (hv (12-r).toNat a b) 6) (sdL l1 l2 u1 u2) && !eo (sdL l1 l2 u1 u2) (exL (hv (12-r).toNat a b) 6)):=by
        rw[Bool.eq_iff_iff,ht,Bool.and_eq_true_iff,Bool.not_eq_true',Bool.not_eq_true',key];exact⟨fun h=>h.2.2.2.2,fun h=>⟨hok,f1,f2,⟨by omega,by omega⟩,h⟩⟩
       rw[et];exact r7 r a b l1 l2 u1 u2 _ _ (Hh hok) (Gs bx1.1 bx1.2 bx2.1 bx2.2) (by rw[oA];omega) (by simp[sdL]) w hT OK (fun w=>by have:=NR w;rwa [hn]at this)
        (fun w=>f9 l1 l2 u1 u2 false (.inr (.inr ⟨by simp only[decide_eq_false_iff_not];omega,by simp only[decide_eq_false_iff_not];omega,rfl⟩)) w)
        (fun w hC=>F7 r a b _ hK hr ⟨by omega,by omega⟩ ⟨by omega,by omega⟩ (fun j hj=>zd hok hj) w hC.2) (fun w=>Gc l1 l2 u1 u2 bx1.1 bx1.2 bx2.1 bx2.2 w)
   · have hn':=Bool.eq_false_iff.2 hn;rw[no fun h=>hn (Bool.and_eq_true_iff.2 ⟨(nh l1 l2).1.2 h.2.1,(nh u1 u2).1.2 h.2.2.1⟩)];by_cases h1:u1<l1∨u2<l2
     · exact ft r a b l1 l2 u1 u2 true _ _ true (.inr (.inl ⟨rfl,hn'⟩)) w hT OK NR (tu h1)
     · exact ft r a b l1 l2 u1 u2 true _ _ false (.inr (.inl ⟨rfl,hn'⟩)) w hT OK NR (fun w=>f9 l1 l2 u1 u2 false (.inr (.inr ⟨by simp only[decide_eq_false_iff_not];omega,by simp only[decide_eq_false_iff_not];omega,rfl⟩)) w)
 · have OK:=fun w (hT:Cov3 w)=>yH r a b hok w hT.1;rw[no fun h=>hok h.1];by_cases h1:u1<l1∨u2<l2
   · exact ft r a b l1 l2 u1 u2 false _ _ true (.inl rfl) w hT OK NR (tu h1)
   · exact ft r a b l1 l2 u1 u2 false _ _ false (.inl rfl) w hT OK NR (fun w=>f9 l1 l2 u1 u2 false (.inr (.inr ⟨by simp only[decide_eq_false_iff_not];omega,by simp only[decide_eq_false_iff_not];omega,rfl⟩)) w)
def NwS (S:Nat)(d K:Nat)(l1 l2 u1 u2 r:Int)(vo:Value)(W:World):Prop :=
 SweepM S l1 l2 u1 u2 r (d:Int) vo W/\(W.cell? ⟨S,7,none⟩=some (.slice none 0 0)/\W.frozen? ⟨S,7,none⟩=false)/\W.ownsRow (S+1) 3 1 vo (onw K d).length (jB (onw K d))
theorem NwS.keep {S d K:Nat}{l1 l2 u1 u2 r:Int}{vo:Value}{W W':World}(h:NwS S d K l1 l2 u1 u2 r vo W)(hb:Below W.heap.size W W'):NwS S d K l1 l2 u1 u2 r vo W' :=
 ⟨h.1.keep hb,⟨aa hb h.2.1.1,ac hb h.2.1.1 h.2.1.2⟩,ai hb h.2.2⟩
theorem NwS.lt {S d K:Nat}{l1 l2 u1 u2 r:Int}{vo:Value}{W:World}(h:NwS S d K l1 l2 u1 u2 r vo W):S<W.heap.size:=World.block_lt_of_cell? _ _ h.2.1.1
theorem LowT.le {B B':Nat}(h:LowT B)(hb:B<=B'):LowT B':=⟨⟨by have:=h.1.1;omega,by have:=h.1.2;omega⟩,by have:=h.2;omega⟩
def yi (K:Nat)(l1 l2 u1 u2:Int)(b:Nat)(e:Ending)(w':World):Prop :=
 (∃(v:Value) (F:List (Int×Int)),e=.returned (.tuple #[v,.int .i64 0])/\RowE b v F w'/\F.Nodup/\(∀x y,Tou K l1 l2 u1 u2 x y↔(x,y)∈F)/\F.length<=20000) ∨
 ((∃p c,e=.returned (.tuple #[.slice p 0 c,.int .i64 7]))/\∃F:List (Int×Int),F.Nodup/\(∀p∈F,Tou K l1 l2 u1 u2 p.1 p.2)/\20000<F.length)
theorem xT {K:Nat}(hK:K<=12){r l1 l2 u1 u2 p q:Int}(hr:12-r=(K:Int))(h1:0<=l1)(h2:0<=l2)(h3:u1<1073741824)(h4:u2<1073741824)(h5:l1<=u1)
 (hn:aU (dvK K) (nuA K l1 l2) (nuB K l1 l2) p q) {F1 F2:List (Int×Int)} (k1:F1.Nodup) (k2:∀z∈F1,Tou K l1 l2 l1 u2 z.1 z.2) (k3:F1.length<=20001) (k4:F1.length<=20000->Swp K 1 l1 l2 l1 u2 (arL p q 6) F1 [])
 (hl:F2.length<=20000) (hF:Swp K 0 l1 l2 u1 u2 F1 F2 []) (x y:Int):Tou K l1 l2 u1 u2 x y↔(x,y)∈F2:=by
 have sub:∀z∈F1,z∈F2:=fun z hz=>(hF.from_ z hz (DS (k2 z hz) (Int.le_refl _) (Int.le_refl _) h5 (Int.le_refl _))).elim id fun k=>absurd k (by simp);have len:=dJ k1 sub;have s1:=sz hK (by omega) hr h1 h2 (by omega) h4 (k4 (by omega)) (fun a b hs _=>vM hK hn hs);exact sz hK (by omega) hr h1 h2 h3 h4 hF (fun a b hs _=>(s1 a b).1 hs) x y
theorem oQ (l1 l2 u1 u2 r t:Int)(h:j7 l1 l2 u1 u2 r t)(ht:t≠0)(w:World) :
 Calls Tryz.prog 31 #[.agg #[.int .i64 l1,.int .i64 l2,.int .i64 u1,.int .i64 u2],.int .i64 r] w fun e w'=>e=.returned (.tuple #[.slice none 0 0,.int .i64 t])/\Below w.heap.size w w':=by
 have FA:=ab fun w=>vg l1 l2 u1 u2 r t h w;have ht':(t == 0)=false:=by simpa using ht
 have ht2:decide (t=0)=false:=by simpa using ht
 have S0:=ab (ix w 66 l1 l2 u1 u2);have B0:=ab (ag w (.cells #[.int .i64 l1,.int .i64 l2,.int .i64 u1,.int .i64 u2] 66));obtain⟨y0,y1,y2,y3⟩:=S0.out;clear h
 go_enter Tryz.func31,Tryz.ntmps31
 go_wp2_with fail;generalize w.alloc (.cells #[.int .i64 l1,.int .i64 l2,.int .i64 u1,.int .i64 u2] 66)=w0 at *;refine(FA.out _).mono ?_;rintro e w1 ⟨rfl,b1⟩;have B1:=ab (ae B0.out b1);clear y0 y1 y2 y3 S0 B0 b1 FA;go_wp2
 go_ret2
 exact⟨rfl,B1.out⟩
theorem oc (l1 l2 u1 u2 r:Int)(K:Nat)(A1:List (Int×Int))(w:World)(hT:Cov3 w)
 (FA:∀w,Calls Tryz.prog 58 #[.agg #[.int .i64 l1,.int .i64 l2,.int .i64 u1,.int .i64 u2],.int .i64 r] w fun e w'=>e=.returned (.int .i64 0)/\Below w.heap.size w w')
 (NS1:∀w,Uni w->Calls Tryz.prog 59 #[.agg #[.int .i64 l1,.int .i64 l2,.int .i64 l1,.int .i64 u2],.int .i64 r,.int .i64 1] w fun e w'=>∃(S:Nat) (vo:Value),e=.returned (.pointer (some ⟨S,0,none⟩))/\w.heap.size<=S/\NwS S 1 K l1 l2 l1 u2 r vo w'/\Below w.heap.size w w')
 (NS0:∀w,Uni w->Calls Tryz.prog 59 #[.agg #[.int .i64 l1,.int .i64 l2,.int .i64 u1,.int .i64 u2],.int .i64 r,.int .i64 0] w fun e w'=>∃(S:Nat) (vo:Value),e=.returned (.pointer (some ⟨S,0,none⟩))/\w.heap.size<=S/\NwS S 0 K l1 l2 u1 u2 r vo w'/\Below w.heap.size w w')
 (AR:∀w,Uni w->Calls Tryz.prog 61 #[.agg #[.int .i64 l1,.int .i64 l2],.int .i64 r] w fun e w'=>(∃v,e=.returned v/\RowE w.heap.size v A1 w')/\Below w.heap.size w w')
 (FR1:∀ (S:Nat) (vo sv:Value) (b0:Nat) (w:World),NwS S 1 K l1 l2 l1 u2 r vo w->RowE b0 sv A1 w->sv.ownBlock≠some S->Cov3 w->LowT S ->
   Calls Tryz.prog 60 #[.pointer (some ⟨S,0,none⟩),sv] w fun e w'=>mO K 1 l1 l2 l1 u2 A1 w.heap.size e w'/\ButQ S 7 none w w')
 (FR0:∀ (F1:List (Int × Int)) (S:Nat) (vo sv:Value) (b0:Nat) (w:World),F1.length<=20001->(∀ p∈F1,Tou K l1 l2 l1 u2 p.1 p.2)->NwS S 0 K l1 l2 u1 u2 r vo w->RowE b0 sv F1 w->sv.ownBlock≠some S->Cov3 w->LowT S ->
   Calls Tryz.prog 60 #[.pointer (some ⟨S,0,none⟩),sv] w fun e w'=>mO K 0 l1 l2 u1 u2 F1 w.heap.size e w'/\ButQ S 7 none w w')
 (TW2:∀F1 F2:List (Int×Int),F1.Nodup->(∀z∈F1,Tou K l1 l2 l1 u2 z.1 z.2)->F1.length<=20001->(F1.length<=20000->Swp K 1 l1 l2 l1 u2 A1 F1 [])->F2.length<=20000->Swp K 0 l1 l2 u1 u2 F1 F2 []->∀x y,Tou K l1 l2 u1 u2 x y↔(x,y)∈F2) :
 Calls Tryz.prog 31 #[.agg #[.int .i64 l1,.int .i64 l2,.int .i64 u1,.int .i64 u2],.int .i64 r] w fun e w'=>yi K l1 l2 u1 u2 w.heap.size e w'/\Below w.heap.size w w':=by
 replace FA:Hid _:=FA;replace NS1:Hid _:=NS1;replace NS0:Hid _:=NS0;replace AR:Hid _:=AR;replace FR1:Hid _:=FR1;replace FR0:Hid _:=FR0;replace TW2:Hid _:=TW2;have S0:=ab (ix w 66 l1 l2 u1 u2);have B0:=ab (ag w (.cells #[.int .i64 l1,.int .i64 l2,.int .i64 u1,.int .i64 u2] 66));have HT:=ab hT;obtain⟨y0,y1,y2,y3⟩:=S0.out;clear hT
 go_enter Tryz.func31,Tryz.ntmps31
 go_wp2_with fail;generalize w.alloc (.cells #[.int .i64 l1,.int .i64 l2,.int .i64 u1,.int .i64 u2] 66)=w0 at *;refine(FA.out _).mono ?_;rintro e w1 ⟨rfl,b1⟩;have B1:=ab (ae B0.out b1);have S1:=ab (S0.out.keep b1);clear y0 y1 y2 y3 S0 B0 b1 FA;obtain⟨y0,y1,y2,y3⟩:=S1.out;go_wp2_with fail;have S2:=ab (S1.out.keep (ag w1 (.cells #[.int .i64 l1,.int .i64 l2,.int .i64 l1,.int .i64 u2] 66)));have L2:=ab (ix w1 66 l1 l2 l1 u2);have B2:=ab (ae B1.out (ag w1 (.cells #[.int .i64 l1,.int .i64 l2,.int .i64 l1,.int .i64 u2] 66)));generalize w1.alloc (.cells #[.int .i64 l1,.int .i64 l2,.int .i64 l1,.int .i64 u2] 66)=W1 at *;clear y0 y1 y2 y3 S1 B1;obtain⟨y0,y1,y2,y3⟩:=S2.out;obtain⟨z0,z1,z2,z3⟩:=L2.out
 go_cut [8]from 26 to 34 (fun v8 wx=>∃(F1:List (Int×Int)),Hid (F1.Nodup/\(∀z∈F1,Tou K l1 l2 l1 u2 z.1 z.2)/\F1.length<=20001/\(F1.length<=20000->Swp K 1 l1 l2 l1 u2 A1 F1 []))/\Hid (RowE W1.heap.size v8 F1 wx)/\Hid (Below W1.heap.size W1 wx))
 case first =>
  go_region_with (first
   | (go_at_call 59
      refine(NS1.out _ (HT.out.below (ae B2.out (by first | exact BA.out | exact aK _))).1.2).mono ?_;rintro e w4 ⟨S,vo,rfl,hS,hM,b4⟩;have BS:=ab (show Below W1.heap.size W1 w4 from ae (by first | exact BA.out | exact aK _) b4);have NW:=ab hM;have GS:=ab (show W1.heap.size<=S from Nat.le_trans (Below.size (show Below W1.heap.size W1 _ from by first | exact BA.out | exact aK _)) hS)
      try have RE:=ab (RA.out.keep b4)
      try have NE:=ab (show v.ownBlock≠some S from fun e=>by have:=(World.ownsRow.lt RA.out _ e).2;omega)
      have X1:=ab (S2.out.keep BS.out);have X2:=ab (L2.out.keep BS.out);clear y0 y1 y2 y3 z0 z1 z2 z3;obtain⟨y0,y1,y2,y3⟩:=X1.out;obtain⟨z0,z1,z2,z3⟩:=X2.out;clear hS hM b4)
   | (go_at_call 61
      refine(AR.out _ (HT.out.below (ae B2.out (by first | exact BS.out | exact aK _))).1.2).mono ?_;rintro e w5 ⟨⟨v,rfl,hv⟩,b5⟩;have BA:=ab (show Below W1.heap.size W1 w5 from ae (by first | exact BS.out | exact aK _) b5);have RA:=ab hv
      try have NW2:=ab (NW.out.keep b5)
      try have NE:=ab (show v.ownBlock≠some S from fun e=>by have:=(World.ownsRow.lt RA.out _ e).1;have:=NW.out.lt;omega)
      have X3:=ab (S2.out.keep BA.out);have X4:=ab (L2.out.keep BA.out);clear y0 y1 y2 y3 z0 z1 z2 z3;obtain⟨y0,y1,y2,y3⟩:=X3.out;obtain⟨z0,z1,z2,z3⟩:=X4.out;clear hv b5)
   | (go_at_call 60
      refine(by first | exact FR1.out _ _ _ _ _ NW2.out RA.out NE.out (HT.out.below (ae B2.out BA.out)) ((HT.out.below B2.out).lt.le GS.out) | exact FR1.out _ _ _ _ _ NW.out RE.out NE.out (HT.out.below (ae B2.out BS.out)) ((HT.out.below B2.out).lt.le GS.out):Calls _ _ _ _ fun e w'=>mO K 1 l1 l2 l1 u2 A1 _ e w'/\ButQ S 7 none _ w').mono ?_;rintro e w6 ⟨⟨v2,F1,rfl,f1,f2,f3,f4,f5⟩,g6⟩;have RF:=ab (show RowE W1.heap.size v2 F1 w6 from bo f1 (by first | exact BA.out.size | exact BS.out.size));have FF:=ab (And.intro f2 (And.intro f3 (And.intro f4 f5)));have BF:=ab (show Below W1.heap.size W1 w6 from by first | exact BA.out.trans (g6.below GS.out (fun _ e=>by cases e) BA.out.size) | exact BS.out.trans (g6.below GS.out (fun _ e=>by cases e) BS.out.size));clear f1 f2 f3 f4 f5 g6))
  all_goals
   clear y0 y1 y2 y3 z0 z1 z2 z3;go_wp2_with fail;go_meet;exact⟨F1,FF,RF,BF⟩
 case rest =>
  obtain⟨F1,FF,RF,BF⟩:=hcut;have S4:=ab (S2.out.keep BF.out);have BW:=ab (ae B2.out BF.out);clear y0 y1 y2 y3 z0 z1 z2 z3 S2 L2 NS1 AR FR1;obtain⟨y0,y1,y2,y3⟩:=S4.out;go_wp2_with fail;refine(NS0.out _ (HT.out.below BW.out).1.2).mono ?_;rintro e w4 ⟨S,vo,rfl,hS,hM,b4⟩;have NW:=ab hM;have RE:=ab (RF.out.keep b4);have NE:=ab (show Value.ownBlock _≠some S from fun e=>by have:=(World.ownsRow.lt RF.out _ e).2;omega);have B4:=ab (ae BW.out b4);have GS:=ab (Nat.le_trans BW.out.size hS);clear y0 y1 y2 y3 S4 b4 hS hM RF;go_wp2_with fail;refine(FR0.out F1 S vo _ _ _ FF.out.2.2.1 FF.out.2.1 NW.out RE.out NE.out (HT.out.below B4.out) (HT.out.lt.le GS.out)).mono ?_;rintro e w6 ⟨⟨v2,F2,rfl,f1,f2,f3,f4,f5⟩,g6⟩;obtain⟨p2,c2,rfl⟩:=f1.any;have RF2:=ab (show RowE w.heap.size _ F2 w6 from bo f1 B4.out.size);have B6:=ab (show Below w.heap.size w w6 from B4.out.trans (g6.below GS.out (fun _ e=>by cases e) B4.out.size));have FF2:=ab (And.intro f2 (And.intro f3 (And.intro f4 f5)));obtain⟨n,en⟩:∃n,F2.length=n:=⟨_,rfl⟩
  have EN:=ab en;clear f1 f2 f3 f4 f5 g6 RE NE NW B4 GS BW BF;rw[en]at RF2 ⊢;clear en;by_cases hl:n<=20000
  · have hl':decide (20000<(n:Int))=false:=by simp only[decide_eq_false_iff_not];omega
    go_wp2
    go_ret2
    exact⟨.inl ⟨_,F2,rfl,by have:=RF2.out;rwa [←EN.out]at this,FF2.out.1,TW2.out F1 F2 FF.out.1 FF.out.2.1 FF.out.2.2.1 FF.out.2.2.2 (by rw[EN.out];exact hl) (FF2.out.2.2.2 (by rw[EN.out];exact hl)),by rw[EN.out];exact hl⟩,B6.out⟩
  · have hl':(20000:Int)<(n:Int):=by omega
    go_wp2
    go_ret2
    exact⟨.inr ⟨⟨_,_,rfl⟩,F2,FF2.out.1,FF2.out.2.1,by rw[EN.out];omega⟩,B6.out⟩
theorem xo (l1 l2 u1 u2 r:Int)(K:Nat)(hK:K<=12)(hr:12-r=(K:Int))(h1:0<=l1)(h2:0<=l2)(h3:u1<1073741824)(h4:u2<1073741824)(h5:l1<=u1)(h6:l2<=u2)(w:World)(hT:Cov3 w) :
 Calls Tryz.prog 31 #[.agg #[.int .i64 l1,.int .i64 l2,.int .i64 u1,.int .i64 u2],.int .i64 r] w fun e w'=>yi K l1 l2 u1 u2 w.heap.size e w'/\Below w.heap.size w w':=by
 have hw1:InW l1 l2:=⟨h1,by omega,h2,by omega⟩
 have hw2:InW u1 u2:=⟨by omega,h3,by omega,h4⟩
 obtain⟨p,q,hn⟩:=eh (d:=dvK K) (bX hK).1 (nuA K l1 l2) (nuB K l1 l2);have hp:=pC hK hw1 hn;have nr:∀z∈arL p q 6,bP z.1 z.2:=by
  intro z hz;unfold arL at hz;rcases List.mem_cons.1 hz with rfl | hz
  · unfold bP;simp only;omega
  · obtain⟨i,-,rfl⟩:=List.mem_map.1 hz;have:=xU i;unfold bP;simp only;omega
 have TCC:∀v1,v1<=u1->l1<=v1->∀a b t,bP a b->(t=true↔Tou K l1 l2 v1 u2 a b)->∀w,Cov3 w->Calls Tryz.prog 96 #[.agg #[.int .i64 r,.int .i64 a,.int .i64 b],.agg #[.int .i64 l1,.int .i64 l2],.agg #[.int .i64 v1,.int .i64 u2]] w fun e w'=>e=.returned (.bool t)/\Below w.heap.size w w':=by
  intro v1 hv hv' a b t hab ht w hC;have eK:(12-r).toNat=K:=by omega
  refine FS r a b l1 l2 v1 u2 t ?_ ?_ w hC
  · rw[ht];unfold qA cD;rw[eK];exact⟨fun h=>⟨fQ hK hr h1 h2 (by omega) h4 h,by omega,by omega,⟨by omega,by omega⟩,h⟩,fun h=>h.2.2.2.2⟩
  · unfold bP at hab;intro z hz;simp only[List.mem_cons,List.not_mem_nil,or_false]at hz;rcases hz with rfl | rfl | rfl | rfl | rfl | rfl | rfl <;>omega
 have ti1:Tight K l1 l2 l1 u2:=l8 hK hr h1 h2 (by omega) h4;have ti0:Tight K l1 l2 u1 u2:=l8 hK hr h1 h2 h3 h4;exact oc l1 l2 u1 u2 r K (arL p q 6) w hT
  (fun w=>vg l1 l2 u1 u2 r 0 (.inr (.inr (.inr ⟨by omega,⟨hw1,hw2⟩,⟨h5,h6⟩,rfl⟩))) w)
  (fun w hU=>(oa l1 l2 l1 u2 r 1 (by omega) K hK hr w hU).mono fun e w' ⟨S,vo,a1,a2,a3,a4,a5,a6⟩=>⟨S,vo,a1,a2,⟨a3,a4,a5⟩,a6⟩)
  (fun w hU=>(oa l1 l2 u1 u2 r 0 (by omega) K hK hr w hU).mono fun e w' ⟨S,vo,a1,a2,a3,a4,a5,a6⟩=>⟨S,vo,a1,a2,⟨a3,a4,a5⟩,a6⟩)
  (fun w hU=>C7 l1 l2 r p q K hK hr hw1 hn w hU)
  (fun S vo sv b0 w hN hR hsv hC hL=>zK S 1 (by omega) r K hK hr l1 l2 l1 u2 ti1 vo sv (arL p q 6) (by rw[ow];omega) nr (ab (TCC l1 h5 (Int.le_refl _))) w hN.1 hN.2.1.1 hN.2.1.2 hN.2.2 b0 hR hsv hC hL)
  (fun F1 S vo sv b0 w hl hF hN hR hsv hC hL=>zK S 0 (by omega) r K hK hr l1 l2 u1 u2 ti0 vo sv F1 hl (fun z hz=>ti1.near (hF z hz)) (ab (TCC u1 (Int.le_refl _) h5)) w hN.1 hN.2.1.1 hN.2.1.2 hN.2.2 b0 hR hsv hC hL)
  (fun F1 F2 k1 k2 k3 k4 hl hF=>xT hK hr h1 h2 h3 h4 h5 hn k1 k2 k3 k4 hl hF)
theorem Cp {w:World}{base:Nat}{v:Value}{L:List Int}{n:Nat}(hn:L.length=n)(h:w.ownsRow base 35 1 v n (aj L)):Lst w v L:=by
 subst hn;rcases h.2 with⟨e1,e2⟩ | ⟨g,cap,cur,e1,_,_,hl,_⟩
 · exact⟨none,0,by rw[e1,e2],by omega,fun j hj=>by omega⟩
 · subst e1;have hc:=bn h;exact⟨some ⟨g,0,none⟩,cap,rfl,hl,fun j hj=>⟨g,0,rfl,by rw[Nat.zero_add];exact hc.2.1 j hj⟩⟩
def wdL (r:Nat)(S:List (Int×Int)):List Int:=S.map fun p=>av r p.1 p.2
theorem lK (r:Nat)(S:List (Int×Int)):(wdL r S).length=S.length:=by simp[wdL]
theorem D4 (r:Nat)(S:List (Int×Int)){j:Nat}(hj:j<S.length):wdL r (S.take (j+1))=wdL r (S.take j)++[av r S[j].1 S[j].2]:=by
 unfold wdL;rw[List.take_add_one,List.getElem?_eq_getElem hj,List.map_append];rfl
theorem Gd (r:Nat)(b0:Nat)(sv:Value)(S0:List (Int×Int))(hok:∀p∈S0,Ok4 (r:Int) p.1 p.2)(hn:S0.length<=50000)(w:World)(hT:Tabs w)(hO:RowE b0 sv S0 w) :
 Calls Tryz.prog 34 #[sv,.int .i64 (r:Int)] w fun e w'=>qy w.heap.size (wdL r S0) e w'/\Below w.heap.size w w':=by
 have OF:=ab fun p (hp:p∈S0) w hT=>uO r p.1 p.2 (hok p hp) w hT;have HT:=ab hT;have HO:=ab hO;obtain⟨sp,sc,rfl⟩:=hO.any;have NN:=ab hn;obtain⟨n,en⟩:∃n,S0.length=n:=⟨_,rfl⟩
 rw[en]at HO hn ⊢;have EN:=ab en;clear hT hO hok en;obtain⟨i0,hi,hz0,hz1,hz2⟩:=de ca
 go_enter Tryz.func34,Tryz.ntmps34
 go_wp2;go_loopw [5,12] (fun v5 v12 wr=>∃j:Nat,j<=n/\v12=.int .i64 (j:Int)/\Hid (wr.ownsRow w.heap.size 35 1 v5 j (aj (wdL r (S0.take j))))/\Hid (Below w.heap.size w wr)) (fun _ v12 _=>n-(intOf v12).toNat)
 case atStart=>exact⟨0,by omega,rfl,ab (World.ownsRow_nil _ _ _ _),ab (Below.refl _ _)⟩
 case round =>
  obtain⟨j,hj,rfl,OW,B⟩:=hrel;obtain⟨vp,vc,rfl⟩:=jj OW.out;by_cases hjn:j<n
  · have hjn':(j:Int)<(n:Int):=by omega
    have hjL:j<S0.length:=by rw[EN.out];exact hjn
    have hrow:RowE b0 (.slice sp S0.length sc) S0 wr:=RowE.keep (by have:=HO.out;rwa [←EN.out]at this) B.out;obtain⟨g,c2,e,-,y0,y1⟩:=hrow.at_ j hjL;rw[EN.out]at e;simp only[Value.slice.injEq]at e;obtain⟨rfl,-,rfl⟩:=e;have al:=ag wr (.cells #[.int .i64 S0[j].1,.int .i64 S0[j].2] 37);have ST:=ab (D4 r S0 hjL);have B1:=ab (ae B.out al);have P1:=ab (OF.out S0[j] (List.getElem_mem hjL) _ (HT.out.below B1.out));have O1:=ab (ai al OW.out);clear hrow al OW B OF;generalize av r S0[j].1 S0[j].2=x at *;generalize S0[j].1=a at *;generalize S0[j].2=b at *;go_wp2_with fail;refine P1.out.mono ?_;rintro e w3 ⟨rfl,b3⟩;have B3:=ab (ae B1.out b3);have O3:=ab (ai b3 O1.out);have hs3:=B3.out.size;clear P1 O1 B1 b3 y0 y1;go_wp2_with (at_builtin;refine wpList_append_lies _ rfl (.tmp 23) (.tmp 25) 22 rfl w.heap.size 35 i0 (.int .u64 0) 1 8 Tryz.underlying22 hi hz0 hz1 hz2 rfl (by decide) (.slice vp j vc) _ _ rfl (ai (ag _ _) O3.out) ⟨w3.heap.size,0,none⟩ 1 1 [.int .u64 x] rfl rfl (bf _ _ rfl _ _) (bK _ _) (by decide) (by unfold maxLen;omega) (by omega) (by simp;omega) (w3.heap.size+1) (by simp) ?_;intro g6 q6 w6 hown hgrow hat hlt6)
    have R6:=ab (show w6.ownsRow w.heap.size 35 1 (.slice (some ⟨g6,0,none⟩) (j+1) q6) (j+1) (aj (wdL r (S0.take (j+1))))by
     rw[ST.out];unfold aj at hown ⊢;rw[List.map_append];exact hown)
    have hne:∀k,(Value.slice vp j vc).ownBlock=some k->w.heap.size<=k:=fun k e=>(World.ownsRow.lt O3.out k e).1;have B6:=ab ((ae B3.out (ag _ _)).grown hgrow (by simp;omega) (fun k e=>by have:=hne k e;omega));clear hown hgrow hat B3 O3 hne;go_roundw
    case rel=>exact⟨j+1,by omega,by go_num,R6,B6⟩
    case measure=>simp[intOf];omega
  · obtain rfl:j=n:=by omega
    have hjn':decide ((j:Int)<(j:Int))=false:=by simp
    have hX:wdL r (S0.take j)=wdL r S0:=by rw[←EN.out,List.take_length]
    rw[hX]at OW;have CS:=ab (qT _ (wdL r S0) (by rw[lK,EN.out];omega) _ (Cp (by rw[lK,EN.out]) OW.out));clear hX OW;go_wp2_with fail;refine CS.out.mono ?_;rintro e w3 ⟨h3,b3⟩;have hsz:=B.out.size;have B3:=ab (ae B.out b3);have H3:=ab h3.set;obtain⟨g,cap,L,rfl,-⟩:=h3;clear CS b3;go_wp2;go_ret;refine⟨?_,B3.out⟩;obtain⟨g',cap',L',e',k1,k2,k3,k4,k5,k6⟩:=H3.out;exact⟨g',cap',L',e',by omega,k2,k3,k4,k5,k6⟩
theorem AG {r:Nat}{p q:Int×Int}(h:Ok4 (r:Int) p.1 p.2)(k:Ok4 (r:Int) q.1 q.2)(e:av r p.1 p.2=av r q.1 q.2):p=q:=by
 have h1:=cg h;have h2:=cg k;rw[e]at h1;exact Prod.ext (h1.1.symm.trans h2.1) (h1.2.symm.trans h2.2)
theorem AE {r:Nat}{F:List (Int×Int)}(hF:F.Nodup)(hok:∀p∈F,Ok4 (r:Int) p.1 p.2):(wdL r F).Nodup:=by
 unfold wdL List.Nodup;rw[List.pairwise_map];exact List.Pairwise.imp_of_mem (fun {a b} ha hb hne e=>hne (AG (hok a ha) (hok b hb) e)) hF
theorem Cq {K r:Nat}(hK:K<=12)(hr:12-(r:Int)=(K:Int)){l1 l2 u1 u2:Int}(h1:0<=l1)(h2:0<=l2)(h3:u1<1073741824)(h4:u2<1073741824){F:List (Int×Int)}(k1:F.Nodup)(k2:∀p∈F,Tou K l1 l2 u1 u2 p.1 p.2)(k3:20000<F.length):Many K l1 l2 u1 u2 r 20000 :=
 ⟨wdL r F,AE k1 fun p hp=>fQ hK hr h1 h2 h3 h4 (k2 p hp),fun x hx=>by
   obtain⟨p,hp,rfl⟩:=List.mem_map.1 hx;exact qu (fQ hK hr h1 h2 h3 h4 (k2 p hp)) (k2 p hp),by rw[lK];exact k3⟩
def dU (K:Nat)(l1 l2 u1 u2:Int)(p:Int×Int):Bool:=inB l1 l2 u1 u2 (poX K p.1 p.2) (poY K p.1 p.2)
theorem GV {K r:Nat}(hK:K<=12)(hr:12-(r:Int)=(K:Int)){l1 l2 u1 u2:Int}(h1:0<=l1)(h2:0<=l2)(h3:u1<1073741824)(h4:u2<1073741824){F:List (Int×Int)}(hF:∀x y,Tou K l1 l2 u1 u2 x y↔(x,y)∈F)(x:Int):x∈wdL r (F.filter (dU K l1 l2 u1 u2))↔TW K l1 l2 u1 u2 x r/\bZ K l1 l2 u1 u2 x=true:=by
 constructor
 · intro hx;obtain⟨p,hp,rfl⟩:=List.mem_map.1 hx;obtain⟨hp,hc⟩:=List.mem_filter.1 hp;have ht:=(hF p.1 p.2).2 hp;have hok:=fQ hK hr h1 h2 h3 h4 ht;refine⟨qu hok ht,?_⟩;have e:=cg hok;unfold bZ;rw[e.1,e.2];exact hc
 · rintro⟨⟨k1,k2,k3⟩,hc⟩;have e:=da k1;rw[k2,Int.toNat_natCast]at e;exact List.mem_map.2 ⟨_,List.mem_filter.2 ⟨(hF _ _).1 k3,hc⟩,e⟩
def G7 (e:Ending):Prop:=∀(p:Option Addr) (n c:Nat) (v:Value),e=.returned (.tuple #[.slice p n c,v])->n<=c
theorem yz {p:Option Addr}{n c:Nat}{v:Value}(h:n<=c):G7 (.returned (.tuple #[.slice p n c,v])):=by
 intro p' n' c' v' e;simp only[Ending.returned.injEq,Value.tuple.injEq,Array.mk.injEq,List.cons.injEq,Value.slice.injEq]at e;omega
theorem qm (l1 l2 u1 u2 r t:Int)(h:j7 l1 l2 u1 u2 r t)(ht:t≠0)(w:World) :
 Calls Tryz.prog 9 #[.agg #[.int .i64 l1,.int .i64 l2],.agg #[.int .i64 u1,.int .i64 u2],.int .i64 r] w fun e w'=>(∃p c,e=.returned (.tuple #[.slice p 0 c,.int .i64 t]))/\Below w.heap.size w w':=by
 have TO:=ab fun w=>oQ l1 l2 u1 u2 r t h ht w;have ht':(t == 0)=false:=by simpa using ht
 have ht2:decide (t=0)=false:=by simpa using ht
 have B0:=ab (ae (ae (ag w (.cells #[.int .i64 l1,.int .i64 l2] 26)) (ag (w.alloc (.cells #[.int .i64 l1,.int .i64 l2] 26)) (.cells #[.int .i64 u1,.int .i64 u2] 26))) (ag _ (.cells #[.int .i64 l1,.int .i64 l2,.int .i64 u1,.int .i64 u2] 66)));clear h
 go_enter Tryz.func9,Tryz.ntmps9
 go_wp2_with fail;generalize ((w.alloc (.cells #[.int .i64 l1,.int .i64 l2] 26)).alloc (.cells #[.int .i64 u1,.int .i64 u2] 26)).alloc (.cells #[.int .i64 l1,.int .i64 l2,.int .i64 u1,.int .i64 u2] 66)=w0 at *;refine(TO.out _).mono ?_;rintro e w1 ⟨rfl,b1⟩;have B1:=ab (ae B0.out b1);clear b1 TO;go_wp2
 go_ret2
 exact⟨⟨_,_,rfl⟩,B1.out⟩
theorem Fb {α:Type}{f:α->Bool}{F:List α}{j:Nat}(hj:j<F.length)(h:f F[j]=true):(F.take (j+1)).filter f=(F.take j).filter f++[F[j]]:=by
 rw[List.take_add_one,List.getElem?_eq_getElem hj,List.filter_append];simp[h]
theorem Hs {α:Type}{f:α->Bool}{F:List α}{j:Nat}(hj:j<F.length)(h:f F[j]=false):(F.take (j+1)).filter f=(F.take j).filter f:=by
 rw[List.take_add_one,List.getElem?_eq_getElem hj,List.filter_append];simp[h]
theorem Fa {α:Type}(f:α->Bool)(F:List α)(j:Nat):((F.take j).filter f).length<=j:=Nat.le_trans (List.length_filter_le _ _) (List.length_take_le _ _)
theorem qn (l1 l2 u1 u2:Int)(r K:Nat)(hK:K<=12)(hr:12-(r:Int)=(K:Int))(h1:0<=l1)(h2:0<=l2)(h3:u1<1073741824)(h4:u2<1073741824)(h5:l1<=u1)(h6:l2<=u2)(w:World)(hT:Cov3 w) :
 Calls Tryz.prog 9 #[.agg #[.int .i64 l1,.int .i64 l2],.agg #[.int .i64 u1,.int .i64 u2],.int .i64 (r:Int)] w fun e w'=>(TellsCC K r l1 l2 u1 u2 e w'/\G7 e)/\Below w.heap.size w w':=by
 have TO:=ab fun w hT=>xo l1 l2 u1 u2 (r:Int) K hK hr h1 h2 h3 h4 h5 h6 w hT;have WM:=ab fun F hF x=>GV (l1:=l1) (l2:=l2) (u1:=u1) (u2:=u2) hK hr h1 h2 h3 h4 (F:=F) hF x;have OKK:=ab fun(F:List (Int×Int)) (hF:∀x y,Tou K l1 l2 u1 u2 x y↔(x,y)∈F) p (hp:p∈F)=>fQ (r:=(r:Int)) hK hr h1 h2 h3 h4 ((hF p.1 p.2).2 hp);have MA:=ab fun F k1 k2 k3=>Cq (l1:=l1) (l2:=l2) (u1:=u1) (u2:=u2) hK hr h1 h2 h3 h4 (F:=F) k1 k2 k3;have CE:=ab fun(a b:Int) (hok:Ok4 (r:Int) a b) w=>rW a b (r:Int) K hK hr hok.2.2.1 hok.2.2.2.1 w;have HT:=ab hT;have B0:=ab (ae (ae (ag w (.cells #[.int .i64 l1,.int .i64 l2] 26)) (ag (w.alloc (.cells #[.int .i64 l1,.int .i64 l2] 26)) (.cells #[.int .i64 u1,.int .i64 u2] 26))) (ag _ (.cells #[.int .i64 l1,.int .i64 l2,.int .i64 u1,.int .i64 u2] 66)));have X0:=ab (show Box4 (w.heap.size+1+1) l1 l2 u1 u2 (((w.alloc (.cells #[.int .i64 l1,.int .i64 l2] 26)).alloc (.cells #[.int .i64 u1,.int .i64 u2] 26)).alloc (.cells #[.int .i64 l1,.int .i64 l2,.int .i64 u1,.int .i64 u2] 66))from⟨by go_simp,by go_simp,by go_simp,by go_simp⟩);clear hT h1 h2 h3 h4 h5 h6 hK hr;obtain⟨i0,hi,hz0,hz1,hz2⟩:=de rj
 go_enter Tryz.func9,Tryz.ntmps9
 go_wp2_with fail;generalize ((w.alloc (.cells #[.int .i64 l1,.int .i64 l2] 26)).alloc (.cells #[.int .i64 u1,.int .i64 u2] 26)).alloc (.cells #[.int .i64 l1,.int .i64 l2,.int .i64 u1,.int .i64 u2] 66)=w0 at *;refine(TO.out _ (HT.out.below B0.out)).mono ?_;rintro e w1 ⟨⟨v,F,rfl,f1,f2,f3,f4⟩ | ⟨⟨p,c,rfl⟩,F,f1,f2,f3⟩,b1⟩
 · have B1:=ab (ae B0.out b1);have X1:=ab (X0.out.keep b1);have OKF:=ab (OKK.out F f3);have HO:=ab f1;obtain⟨sp,sc,rfl⟩:=f1.any;have FF:=ab (And.intro f3 f4);obtain⟨n,en⟩:∃n,F.length=n:=⟨_,rfl⟩
   have EN:=ab en;rw[en]at HO ⊢;have hn:n<=20000:=by rw[←en];exact f4
   clear f1 f2 f3 f4 b1 TO OKK MA B0 X0 en;have hs1:=B1.out.size;go_wp2_with fail;go_loopw [11,28] (fun v11 v28 wr=>∃j:Nat,j<=n/\v28=.int .i64 (j:Int)/\Hid (RowE w1.heap.size v11 ((F.take j).filter (dU K l1 l2 u1 u2)) wr)/\Hid (Below w1.heap.size w1 wr)) (fun _ v28 _=>n-(intOf v28).toNat)
   case atStart=>exact⟨0,by omega,rfl,ab (World.ownsRow_nil _ _ _ _),ab (Below.refl _ _)⟩
   case round =>
    obtain⟨j,hj,rfl,OW,B⟩:=hrel;obtain⟨vp,vc,rfl⟩:=OW.out.any;have hm:=Fa (dU K l1 l2 u1 u2) F j;have RO:Hid (wr.ownsRow w1.heap.size 37 2 (.slice vp ((F.take j).filter (dU K l1 l2 u1 u2)).length vc) ((F.take j).filter (dU K l1 l2 u1 u2)).length (cU ((F.take j).filter (dU K l1 l2 u1 u2)))):=ab OW.out;obtain⟨m,em⟩:∃m,((F.take j).filter (dU K l1 l2 u1 u2)).length=m:=⟨_,rfl⟩
    have ML:=ab em;rw[em]at RO hm ⊢;clear em OW;by_cases hjn:j<n
    · have hjn':(j:Int)<(n:Int):=by omega
      have hjL:j<F.length:=by rw[EN.out];exact hjn
      have hrow:RowE _ (.slice sp F.length sc) F wr:=RowE.keep (by have:=HO.out;rwa [←EN.out]at this) B.out;obtain⟨g,c2,e,-,y0,y1⟩:=hrow.at_ j hjL;rw[EN.out]at e;simp only[Value.slice.injEq]at e;obtain⟨rfl,-,rfl⟩:=e;have C1:=ab fun w=>CE.out F[j].1 F[j].2 (OKF.out _ (List.getElem_mem hjL)) w;have SY:=ab (show dU K l1 l2 u1 u2 F[j]=true->(F.take (j+1)).filter (dU K l1 l2 u1 u2)=(F.take j).filter (dU K l1 l2 u1 u2)++[(F[j].1,F[j].2)]from Fb (f:=dU K l1 l2 u1 u2) hjL);have SN:=ab (Hs (f:=dU K l1 l2 u1 u2) hjL);have H1:=ab fun w=>oP l1 l2 u1 u2 (poX K F[j].1 F[j].2) (poY K F[j].1 F[j].2) w;obtain⟨t,et⟩:∃t,inB l1 l2 u1 u2 (poX K F[j].1 F[j].2) (poY K F[j].1 F[j].2)=t:=⟨_,rfl⟩
      have ET:=ab (show dU K l1 l2 u1 u2 F[j]=t from et);simp only[et]at H1;have al:=ag wr (.cells #[.int .i64 F[j].1,.int .i64 F[j].2] 37);have X2:=ab ((X1.out.keep B.out).keep al);have BA:=ab al;clear hrow al et;generalize poX K F[j].1 F[j].2=cx at *;generalize poY K F[j].1 F[j].2=cy at *;generalize F[j].1=a at *;generalize F[j].2=b at *;go_wp2_with fail;have z0:(wr.alloc (.cells #[.int .i64 a,.int .i64 b] 37)).cell? ⟨wr.heap.size,0,none⟩=some (.int .i64 a):=by go_simp
      have z1:(wr.alloc (.cells #[.int .i64 a,.int .i64 b] 37)).cell? ⟨wr.heap.size,1,none⟩=some (.int .i64 b):=by go_simp
      obtain⟨x0,x1,x2,x3⟩:=X2.out;have hS0:=fV (aK _) ⟨x0,x1,x2,x3,z0,z1,BA.out⟩;generalize wr.alloc (.cells #[.int .i64 a,.int .i64 b] 37)=w2 at *;clear y0 y1 X2 BA x0 x1 x2 x3 z0 z1
      go_region_held3 (fun w'=>w'.cell? ⟨w.heap.size+1+1,0,none⟩=some (.int .i64 l1)/\w'.cell? ⟨w.heap.size+1+1,1,none⟩=some (.int .i64 l2)/\w'.cell? ⟨w.heap.size+1+1,2,none⟩=some (.int .i64 u1)/\w'.cell? ⟨w.heap.size+1+1,3,none⟩=some (.int .i64 u2)/\w'.cell? ⟨wr.heap.size,0,none⟩=some (.int .i64 a)/\w'.cell? ⟨wr.heap.size,1,none⟩=some (.int .i64 b)/\Below wr.heap.size wr w') (first | exact hS0 | assumption | exact fV (by assumption) (by assumption))
       (first | (go_at_call 33;refine(C1.out _).mono ?_;rintro e w' ⟨rfl,hb⟩) | (go_at_call 32;refine(H1.out _).mono ?_;rintro e w' ⟨rfl,hb⟩))
      rename_i hS;obtain⟨-,-,-,-,z0,z1,bw⟩:=hS;have O3:=ab (ai bw RO.out);have B3:=ab (ae B.out bw);have hs3:=B3.out.size;clear hS0 C1 H1 bw RO B;cases t
      · have N1:=ab (SN.out ET.out);have R3:=ab (show RowE w1.heap.size (.slice vp m vc) ((F.take (j+1)).filter (dU K l1 l2 u1 u2)) w' from by
         rw[N1.out];unfold RowE;rw[ML.out];exact O3.out)
        clear O3 z0 z1;go_wp2_with fail;go_roundw
        case rel=>exact⟨j+1,by omega,by go_num,R3,B3⟩
        case measure=>simp[intOf];omega
      · have N1:=ab (SY.out ET.out);have hm63:m+1<=maxLen:=by unfold maxLen;omega
        go_wp2_with (at_builtin;refine wpList_append_lies _ rfl (.tmp 37) (.tmp 39) 67 rfl w1.heap.size 37 i0 (.agg #[.int .i64 0,.int .i64 0]) 2 16 Tryz.underlying67 hi hz0 hz1 hz2 rfl (by decide) (.slice vp m vc) _ _ rfl (ai (ag _ _) O3.out) ⟨w'.heap.size,0,none⟩ 1 1 [.int .i64 a,.int .i64 b] rfl rfl (jG _ _ _ _) (jH _ _) (by decide) hm63 (by omega) (by simp;omega) (w'.heap.size+1) (by simp) ?_;intro g6 q6 w6 hown hgrow hat hlt6)
        have R6:Hid (RowE w1.heap.size (.slice (some ⟨g6,0,none⟩) (m+1) q6) ((F.take (j+1)).filter (dU K l1 l2 u1 u2)) w6):=ab (by
         rw[N1.out];unfold RowE;rw[List.length_append,ML.out,kw,kz,List.length_singleton];exact hown)
        have hne:∀k,(Value.slice vp m vc).ownBlock=some k->w1.heap.size<=k:=fun k e=>(World.ownsRow.lt O3.out k e).1;have B6:=ab ((ae B3.out (ag _ _)).grown hgrow (by simp;omega) (fun k e=>by have:=hne k e;omega));clear hown hgrow hat B3 O3 hne;go_roundw
        case rel=>exact⟨j+1,by omega,by go_num,R6,B6⟩
        case measure=>simp[intOf];omega
    · obtain rfl:j=n:=by omega
      have hjn':decide ((j:Int)<(j:Int))=false:=by simp
      have B2:=ab (ae B1.out B.out);have TK:F.take j=F:=by rw[←EN.out,List.take_length]
      rw[TK]at RO ML;have WW:=ab (Gd r w1.heap.size (.slice vp m vc) (F.filter (dU K l1 l2 u1 u2)) (fun p hp=>OKF.out p (List.mem_filter.1 hp).1) (by have:=ML.out;omega) wr (HT.out.below B2.out).1 (by unfold RowE;rw[ML.out];exact RO.out));clear RO B1 B hm TK ML;go_wp2_with fail;refine WW.out.mono ?_;rintro e w3 ⟨h2,b3⟩;have B3:=ab (ae B2.out b3);obtain⟨g,cap,L,rfl,k1,k2,k3,k4,k5,k6⟩:=h2;have CC:=ab k2;have LL:=ab (show TellsCC K r l1 l2 u1 u2 (.returned (.tuple #[.slice (some ⟨g,0,none⟩) L.length cap,.int .i64 0])) w3 from .inl ⟨_,L,rfl,.inr ⟨g,cap,rfl,Nat.zero_le _,fun j hj=>by have:=k6 j hj;rwa [Nat.zero_add]at this⟩,k3,fun x=>(k4 x).trans (WM.out F FF.out.1 x),by
       rw[lK]at k5;have h1:=FF.out.2;have h2:=List.length_filter_le (dU K l1 l2 u1 u2) F;omega⟩)
      clear k1 k2 k3 k4 k5 k6 b3 WW;go_wp2
      go_ret2
      exact⟨⟨LL.out,yz CC.out⟩,B3.out⟩
 · have B1:=ab (ae B0.out b1);have MM:=ab (MA.out F f1 f2 f3);clear f1 f2 f3 b1 TO;go_wp2
   go_ret2
   exact⟨⟨.inr ⟨⟨_,_,rfl⟩,MM.out⟩,yz (Nat.zero_le _)⟩,B1.out⟩
end Go.Proofs.YtbnlhdnnenahfaaGreatDoor
