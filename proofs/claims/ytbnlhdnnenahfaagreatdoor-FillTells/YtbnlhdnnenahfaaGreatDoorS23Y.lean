/-
  What the texts SPiv, SPins, SHeap say, so far as this seat's proofs need it.
-/
import Derived.Test.YtbnlhdnnenahfaaGreatDoorE1Y
import Derived.Test.YtbnlhdnnenahfaaGreatDoorS1Y
import Derived.Sort.WalkA6
import Derived.Sort.WalkB3
set_option maxHeartbeats 16000000
set_option maxRecDepth 100000
namespace Go.Proofs.YtbnlhdnnenahfaaGreatDoor
open Go.RowKit
def Sw (B:Nat)(w:World):Prop:=(∃s,w.cell? ⟨B,0,none⟩=some (.int .i64 s))/\w.frozen? ⟨B,0,none⟩=false
theorem cu {w w':World}{g off B:Nat}{d:Array Int}(h:Sort.Holds (Value.int .u64) w g off d)(hb:Below B w w')(hgB:g<B):Sort.Holds (Value.int .u64) w' g off d:=fun t ht=>by
 rw[hb.cell (by exact hgB),hb.frozen (by exact hgB)];exact h t ht
theorem ri {w:World}{g off:Nat}{d:Array Int}(h:Sort.Holds (Value.int .u64) w g off d):∃G:Nat->Int,(∀t,G t=d[t]!)/\(∀t,t<d.size->w.cell? ⟨g,off+t,none⟩=some (.int .u64 (G t)))/\∀t,t<d.size->w.frozen? ⟨g,off+t,none⟩=false :=
 ⟨fun t=>d[t]!,fun _=>rfl,fun t ht=>(h t ht).1,fun t ht=>(h t ht).2⟩
theorem DF {B:Nat}{w:World}{s:Int}(h:w.cell? ⟨B,0,none⟩=some (.int .i64 s))(hf:w.frozen? ⟨B,0,none⟩=false)(x:Int):Sw B (w.setCell ⟨B,0,none⟩ (.int .i64 x)) :=
 ⟨⟨x,World.cell?_setCell_same _ _ _ h⟩,by simp[hf]⟩
theorem mI (g off cap x y n B:Nat)(d:Array Int)(hn:d.size=n)(w:World)(hH:Sort.Holds (Value.int .u64) w g off d)(hS:Sw B w)(hx:x<n)(hy:y<n) :
 Calls Tryz.prog 224 #[.slice (some ⟨g,off,none⟩) n cap,.int .i64 x,.int .i64 y,.pointer (some ⟨B,0,none⟩)] w fun e w' =>
  (∃p q:Nat,e=.returned (.tuple #[.int .i64 p,.int .i64 q])/\(p=x/\q=y∨p=y/\q=x))/\Sw B w'/\Below B w w':=by
 obtain⟨G,hG,hcw,hfw⟩:=ri hH;rw[hn]at hcw hfw;obtain⟨⟨s,hs⟩,hf⟩:=hS;clear hG hH hn
 go_enter Tryz.func224,Tryz.ntmps224
 go_wp2_with fail
 go_big_quiet (first | (go_at_call 158;refine Calls.quiet_of_same (aL _ _ _)))
 go_wp2
 · go_ret2
   exact⟨⟨y,x,rfl,Or.inr ⟨rfl,rfl⟩⟩,DF (w:=w.drewN nq) hs hf _,Below.setCell (p:=⟨B,0,none⟩) (aB (Below.refl B w) nq) (Nat.le_refl B) _⟩
 · go_ret2
   exact⟨⟨x,y,rfl,Or.inl ⟨rfl,rfl⟩⟩,⟨⟨s,hs⟩,hf⟩,aB (Below.refl _ _) nq⟩
theorem mH (g off cap x y z n B:Nat)(d:Array Int)(hn:d.size=n)(w:World)(hH:Sort.Holds (Value.int .u64) w g off d)(hgB:g<B)(hS:Sw B w)(hx:x<n)(hy:y<n)(hz:z<n) :
 Calls Tryz.prog 222 #[.slice (some ⟨g,off,none⟩) n cap,.int .i64 x,.int .i64 y,.int .i64 z,.pointer (some ⟨B,0,none⟩)] w fun e w' =>
  (∃p:Nat,e=.returned (.int .i64 p)/\(p=x∨p=y∨p=z))/\Sw B w'/\Below B w w':=by
 have H0:Hid (Sort.Holds (Value.int .u64) w g off d):=hH;have S0:Hid (Sw B w):=hS;clear hH hS
 go_enter Tryz.func222,Tryz.ntmps222
 go_wp2_with fail;refine(mI g off cap x y n B d hn w H0.out S0.out hx hy).mono ?_;rintro e w1 ⟨⟨p1,q1,rfl,h1⟩,s1,b1⟩;have S1:Hid (Sw B w1):=s1;have H1:Hid (Sort.Holds (Value.int .u64) w1 g off d):=cu H0.out b1 hgB;have L1:p1<n/\q1<n:=by omega
 have C1:Hid (p1=x/\q1=y∨p1=y/\q1=x):=h1;clear s1 h1;go_wp2_with fail;refine(mI g off cap q1 z n B d hn w1 H1.out S1.out L1.2 hz).mono ?_;rintro e w2 ⟨⟨p2,q2,rfl,h2⟩,s2,b2⟩;have S2:Hid (Sw B w2):=s2;have H2:Hid (Sort.Holds (Value.int .u64) w2 g off d):=cu H1.out b2 hgB;have L2:p2<n/\q2<n:=by omega
 have C2:Hid (p2=q1/\q2=z∨p2=z/\q2=q1):=h2;clear s2 h2;go_wp2_with fail;refine(mI g off cap p1 p2 n B d hn w2 H2.out S2.out L1.1 L2.1).mono ?_;rintro e w3 ⟨⟨p3,q3,rfl,h3⟩,s3,b3⟩;have S3:Hid (Sw B w3):=s3;have C3:Hid (p3=p1/\q3=p2∨p3=p2/\q3=p1):=h3;clear s3 h3;go_wp2_with fail;go_ret;exact⟨⟨q3,rfl,by have:=C1.out;have:=C2.out;have:=C3.out;omega⟩,S3.out,(b1.trans b2).trans b3⟩
theorem kN (g off cap x n B:Nat)(d:Array Int)(hn:d.size=n)(w:World)(hH:Sort.Holds (Value.int .u64) w g off d)(hgB:g<B)(hS:Sw B w)(h1:1<=x)(hx:x+1<n)(hsz:n<4611686018427387904) :
 Calls Tryz.prog 221 #[.slice (some ⟨g,off,none⟩) n cap,.int .i64 x,.pointer (some ⟨B,0,none⟩)] w fun e w' =>
  (∃p:Nat,e=.returned (.int .i64 p)/\x<=p+1/\p<=x+1)/\Sw B w'/\Below B w w':=by
 have H0:Hid (Sort.Holds (Value.int .u64) w g off d):=hH;have S0:Hid (Sw B w):=hS;clear hH hS
 go_enter Tryz.func221,Tryz.ntmps221
 go_wp2_with fail;rw[show((x:Int)-1)=((x-1:Nat):Int)by omega,show((x:Int)+1)=((x+1:Nat):Int)by omega];refine(mH g off cap (x-1) x (x+1) n B d hn w H0.out hgB S0.out (by omega) (by omega) (by omega)).mono ?_;rintro e w1 ⟨⟨p1,rfl,C1⟩,s1,b1⟩;have S1:Hid (Sw B w1):=s1;replace C1:Hid _:=C1;clear s1;go_wp2_with fail;go_ret;exact⟨⟨p1,rfl,by have:=C1.out;omega,by have:=C1.out;omega⟩,S1.out,b1⟩
def yd (a b:Nat)(e:Ending):Prop:=∃(p:Nat) (h:Int),e=.returned (.tuple #[.int .i64 p,.int .i64 h])/\a<=p/\p<b/\0<=h/\h<=2
theorem GQ (g off cap a b n:Nat)(d:Array Int)(hn:d.size=n)(w:World)(hH:Sort.Holds (Value.int .u64) w g off d)(hg:g<w.heap.size)(hab:a<b)(hb:b<=n)(hsz:n<4611686018427387904) :
 Calls Tryz.prog 191 #[.slice (some ⟨g,off,none⟩) n cap,.int .i64 a,.int .i64 b] w fun e w'=>yd a b e/\Below w.heap.size w w':=by
 have H0:Hid (Sort.Holds (Value.int .u64) w g off d):=hH;clear hH;obtain⟨m,hm⟩:∃m,b-a=m:=⟨_,rfl⟩
 have EB:(b:Int)-(a:Int)=(m:Int):=by omega
 obtain⟨q,hq⟩:∃q,m / 4=q:=⟨_,rfl⟩
 have EQ:((m:Int)).tdiv 4=(q:Int):=by rw[←hq];rfl
 have HA:Sort.Holds (Value.int .u64) (w.alloc (.cells #[.int .i64 0] 3)) g off d:=cu H0.out (ag w _) hg;have SA:Sw w.heap.size (w.alloc (.cells #[.int .i64 0] 3)):=⟨⟨0,by go_simp⟩,by go_simp⟩
 obtain⟨I,hI⟩:∃I,a+q=I:=⟨_,rfl⟩
 obtain⟨J,hJ⟩:∃J,a+q*2=J:=⟨_,rfl⟩
 obtain⟨K,hK⟩:∃K,a+q*3=K:=⟨_,rfl⟩
 have eI:Hid ((a:Int)+(q:Int)=(I:Int)):=af (by omega);have eJ:Hid ((a:Int)+(q:Int)*2=(J:Int)):=af (by omega);have eK:Hid ((a:Int)+(q:Int)*3=(K:Int)):=af (by omega)
 go_enter Tryz.func191,Tryz.ntmps191
 go_wp2_with fail
 · have hm50:50<=m:=by omega
   rw[eI.out,eJ.out,eK.out];refine(kN g off cap I n w.heap.size d hn _ HA hg SA (by omega) (by omega) hsz).mono ?_;rintro e w1 ⟨⟨p1,rfl,l1⟩,s1,b1⟩;have S1:Hid (Sw w.heap.size w1):=s1;have H1:Hid (Sort.Holds (Value.int .u64) w1 g off d):=cu HA b1 hg;have L1:Hid _:=l1;have hB:Below w.heap.size w w1:=Below.trans (by go_grown) (b1.mono (by simp));clear s1 l1 b1;go_wp2_with fail;refine(kN g off cap J n w.heap.size d hn _ H1.out hg S1.out (by omega) (by omega) hsz).mono ?_;rintro e w2 ⟨⟨p2,rfl,l2⟩,s2,b2⟩;have S2:Hid (Sw w.heap.size w2):=s2;have H2:Hid (Sort.Holds (Value.int .u64) w2 g off d):=cu H1.out b2 hg;have L2:Hid _:=l2;replace hB:=hB.trans b2;clear s2 l2 b2;go_wp2_with fail;refine(kN g off cap K n w.heap.size d hn _ H2.out hg S2.out (by omega) (by omega) hsz).mono ?_;rintro e w3 ⟨⟨p3,rfl,l3⟩,s3,b3⟩;have S3:Hid (Sw w.heap.size w3):=s3;have H3:Hid (Sort.Holds (Value.int .u64) w3 g off d):=cu H2.out b3 hg;have L3:Hid _:=l3;replace hB:=hB.trans b3;clear s3 l3 b3;go_wp2_with fail;refine(mH g off cap p1 p2 p3 n w.heap.size d hn _ H3.out hg S3.out (by have:=L1.out;omega) (by have:=L2.out;omega) (by have:=L3.out;omega)).mono ?_;rintro e w4 ⟨⟨p4,rfl,l4⟩,s4,b4⟩;have S4:Hid (Sw w.heap.size w4):=s4;have H4:Hid (Sort.Holds (Value.int .u64) w4 g off d):=cu H3.out b4 hg;have L4:Hid (a<=p4/\p4<b):=by have:=L1.out;have:=L2.out;have:=L3.out;exact⟨by omega,by omega⟩
   replace hB:=hB.trans b4;clear s4 l4 b4;obtain⟨⟨s,hs⟩,-⟩:=S4.out;have hP:Hid (a<=p4/\p4<b):=by have:=L4.out;exact⟨by omega,by omega⟩
   clear L4;go_wp2
   all_goals
    go_ret2
    exact⟨⟨p4,_,rfl,hP.out.1,hP.out.2,by omega,by omega⟩,hB⟩
 · rw[eI.out,eJ.out,eK.out];refine(mH g off cap I J K n w.heap.size d hn _ HA hg SA (by omega) (by omega) (by omega)).mono ?_;rintro e w1 ⟨⟨p1,rfl,l1⟩,s1,b1⟩;have S1:Hid (Sw w.heap.size w1):=s1;have H1:Hid (Sort.Holds (Value.int .u64) w1 g off d):=cu HA b1 hg;have L1:Hid (a<=p1/\p1<b):=⟨by omega,by omega⟩
   have hB:Below w.heap.size w w1:=Below.trans (by go_grown) (b1.mono (by simp));clear s1 l1 b1;obtain⟨⟨s,hs⟩,-⟩:=S1.out;have hP:Hid (a<=p1/\p1<b):=by have:=L1.out;exact⟨by omega,by omega⟩
   clear L1;go_wp2
   all_goals
    go_ret2
    exact⟨⟨p1,_,rfl,hP.out.1,hP.out.2,by omega,by omega⟩,hB⟩
 · rw[eJ.out]
   go_ret2
   exact⟨⟨J,_,rfl,by omega,by omega,by omega,by omega⟩,by go_grown⟩
theorem JL (g off cap a b n:Nat)(d:Array Int)(hn:d.size=n)(w:World)(hH:Sort.Holds (Value.int .u64) w g off d)(hg:g<w.heap.size)(hab:a<=b)(hb:b<=n)(hsz:n<4611686018427387904) :
 Calls Tryz.prog 192 #[.slice (some ⟨g,off,none⟩) n cap,.int .i64 a,.int .i64 b] w fun e w' =>
  e=.returned (.tuple #[])/\∃d',Sort.PermIn a b d d'/\St w g off d d' w':=by
 have H0:Hid (Sort.Holds (Value.int .u64) w g off d):=hH;have HN:Hid (d.size=n):=hn;clear hH hn
 go_enter Tryz.func192,Tryz.ntmps192
 go_wp2;go_loopw [6,7] (fun vi vj wr=>∃(i:Nat) (j:Int) (dk:Array Int),vi=.int .i64 i/\vj=.int .i64 j/\a<=i/\i<=b∧-1<=j/\j<b/\Hid (St w g off d dk wr/\Sort.PermIn a b d dk)) (fun vi _ _=>b-(intOf vi).toNat)
 case atStart=>exact⟨a,(b:Int)-1,d,rfl,rfl,Nat.le_refl _,hab,by omega,by omega,St.refl H0.out,gy _ _ _⟩
 case round =>
  obtain⟨i,j,dk,rfl,rfl,hai,hib,hj1,hjb,hS⟩:=hrel;by_cases hlt:(i:Int)<j
  · obtain⟨k,rfl⟩:∃k:Nat,j=k:=⟨j.toNat,by omega⟩
    obtain⟨G,hG,hcw,hfw⟩:=hS.out.1.fam H0.out hg;rw[HN.out]at hcw hfw;have S2:Hid (St w g off d (Sort.swp dk i k) (((wr.setCell ⟨g,off+i,none⟩ (.int .u64 (G k))).setCell ⟨g,off+k,none⟩ (.int .u64 (G i))).drew)):=hS.out.1.swap H0.out hg hG (by rw[HN.out];omega) (by rw[HN.out];omega) 1;have P2:Hid (Sort.PermIn a b d (Sort.swp dk i k)):=bj hS.out.2 (cf _ _ _ _ _ (by omega) (by omega) (by omega) (by omega) (by rw[hS.out.1.1,HN.out];omega));obtain⟨y3,hy3⟩:=cell?_setCell_some (w:=wr) (p:=⟨g,off+i,none⟩) (x:=.int .u64 (G k)) (q:=⟨g,off+k,none⟩) (hcw _ (by omega));clear hG hS;go_wp2_with fail
    go_region
    go_wp2;go_roundw
    case rel=>exact⟨i+1,(k:Int)-1,_,by go_num,rfl,by omega,by omega,by omega,by omega,S2.out,P2.out⟩
    case measure=>simp[intOf];omega
  · go_wp2
    go_end0
    exact⟨rfl,dk,hS.out.2,hS.out.1⟩
theorem IR (g off cap a b n:Nat)(d:Array Int)(hn:d.size=n)(w:World)(hH:Sort.Holds (Value.int .u64) w g off d)(hg:g<w.heap.size)(hab:a<b)(hb:b<=n)(hsz:n<4611686018427387904) :
 Calls Tryz.prog 193 #[.slice (some ⟨g,off,none⟩) n cap,.int .i64 a,.int .i64 b] w fun e w' =>
  e=.returned (.bool (Sort.partialInsertionSort Sort.ltInt d a b).2)/\St w g off d (Sort.partialInsertionSort Sort.ltInt d a b).1 w':=by
 have H0:Hid (Sort.Holds (Value.int .u64) w g off d):=hH;have HN:Hid (d.size=n):=hn;obtain⟨R,hR⟩:∃R,Sort.partialInsertionSort Sort.ltInt d a b=R:=⟨_,rfl⟩
 have HR0:Hid (Sort.partialIns Sort.ltInt a b 5 (a+1) d=R):=hR;rw[hR];clear hH hn hR
 go_enter Tryz.func193,Tryz.ntmps193
 go_wp2;go_loopw [7,8] (fun vi vs wr=>∃(i s:Nat) (dk:Array Int),vi=.int .i64 i/\vs=.int .i64 s/\s<=5/\a<i/\i<=b/\Hid (St w g off d dk wr/\Sort.partialIns Sort.ltInt a b (5-s) i dk=Sort.partialIns Sort.ltInt a b 5 (a+1) d)) (fun _ vs _=>5-(intOf vs).toNat)
 case atStart=>exact⟨a+1,0,d,by go_num,rfl,by omega,by omega,by omega,St.refl H0.out,rfl⟩
 case round =>
  obtain⟨i,s,dk,rfl,rfl,hs5,hai,hib,hS⟩:=hrel;by_cases hs:s<5
  · go_wp2_with fail;go_loopw [7] (fun vi wr2=>∃(k:Nat),vi=.int .i64 k/\i<=k/\k<=b/\Hid (St w g off d dk wr2/\Sort.scanSorted Sort.ltInt dk b k=Sort.scanSorted Sort.ltInt dk b i)) (fun vi _=>b-(intOf vi).toNat)
    case atStart=>exact⟨i,rfl,Nat.le_refl _,hib,hS.out.1,rfl⟩
    case round =>
     obtain⟨k,rfl,hik,hkb,hK⟩:=hrel;have HO:Hid (Sort.partialIns Sort.ltInt a b (5-s) i dk=Sort.partialIns Sort.ltInt a b 5 (a+1) d):=hS.out.2;clear hS;by_cases hlt:k<b
     · obtain⟨G,hG,hcw,hfw⟩:=hK.out.1.fam H0.out hg;rw[HN.out]at hcw hfw;have HG:Hid (∀t,G t=dk[t]!):=hG;clear hG;go_wp2_with fail
       go_big_quiet (first | (go_at_call 158;refine Calls.quiet_of_same (aL _ _ _)))
       go_wp2_with fail
       · have hl:=cC (show(!Sort.ltInt (G k) (G (k-1)))=true by assumption);have S4:Hid (St w g off d dk (wr.drewN nq)/\Sort.scanSorted Sort.ltInt dk b (k+1)=Sort.scanSorted Sort.ltInt dk b i):=⟨hK.out.1.drawn nq,by rw[←hK.out.2,scanSorted_go Sort.ltInt dk b k hlt (by rw[←HG.out,←HG.out];exact hl)]⟩
         go_roundw
         case rel=>exact⟨k+1,by go_num,by omega,by omega,S4.out⟩
         case measure=>simp[intOf];omega
       · have hl:=dC (show(!Sort.ltInt (G k) (G (k-1)))=false by assumption);have HK:Hid (Sort.scanSorted Sort.ltInt dk b i=k):=af (by rw[←hK.out.2,scanSorted_stop Sort.ltInt dk b k (Or.inr (by rw[←HG.out,←HG.out];exact hl))]);have h50:b-a<50:=by omega
         have HR1:Hid (R=(dk,false)):=af (by rw[←HR0.out,←HO.out,pi_short Sort.ltInt a b s i dk hs (by rw[HK.out];omega) h50]);have S5:Hid (St w g off d dk (wr.drewN nq)):=hK.out.1.drawn nq;have hr1:=HR1.out;subst hr1;go_ret;exact⟨rfl,S5.out⟩
       · have hl:=dC (show(!Sort.ltInt (G k) (G (k-1)))=false by assumption);have HK:Hid (Sort.scanSorted Sort.ltInt dk b i=k):=af (by rw[←hK.out.2,scanSorted_stop Sort.ltInt dk b k (Or.inr (by rw[←HG.out,←HG.out];exact hl))]);have h50:¬b-a<50:=by omega
         have HO1:Hid (Sort.partialIns Sort.ltInt a b (5-(s+1)) k (Sort.fixUp Sort.ltInt b k (Sort.fixDown Sort.ltInt a k (Sort.swp dk k (k-1))))=Sort.partialIns Sort.ltInt a b 5 (a+1) d):=af (by rw[←HO.out,pi_go Sort.ltInt a b s i k dk hs HK.out (by omega) h50]);have S3:Hid (St w g off d (Sort.swp dk k (k-1)) ((((wr.drewN nq).setCell ⟨g,off+k,none⟩ (.int .u64 (G (k-1)))).setCell ⟨g,off+(k-1),none⟩ (.int .u64 (G k))).drew)):=hK.out.1.swap H0.out hg HG.out (by rw[HN.out];omega) (by rw[HN.out];omega) (nq+1);have hcw3:∀t,t<n->(wr.drewN nq).cell? ⟨g,off+t,none⟩=some (.int .u64 (G t)):=hcw;have hfw3:∀t,t<n->(wr.drewN nq).frozen? ⟨g,off+t,none⟩=false:=hfw;obtain⟨y3,hy3⟩:=cell?_setCell_some (w:=wr.drewN nq) (p:=⟨g,off+k,none⟩) (x:=.int .u64 (G (k-1))) (q:=⟨g,off+(k-1),none⟩) (hcw3 _ (by omega));clear hK HG hcw hfw HK HO hl;generalize wr.drewN nq=W7 at S3 hcw3 hfw3 hy3 ⊢
         go_region
         clear hy3 y3 hcw3 hfw3;generalize ((W7.setCell ⟨g,off+k,none⟩ _).setCell ⟨g,off+_,none⟩ _).drew=W6 at S3 ⊢;by_cases hbk:2<=b-k
         · have hbkz:decide (2<=(b:Int)-(k:Int))=true:=decide_eq_true (by omega);by_cases hka:2<=k-a
           · have hkaz:decide (2<=(k:Int)-(a:Int))=true:=decide_eq_true (by omega);go_wp2_with fail;go_loopw [9] (fun vj wr2=>∃(j:Nat) (dj:Array Int),vj=.int .i64 j/\j<=k-1/\Hid (St w g off d dj wr2/\Sort.shiftDown Sort.ltInt j dj=Sort.fixDown Sort.ltInt a k (Sort.swp dk k (k-1)))) (fun vj _=>(intOf vj).toNat)
             case atStart=>exact⟨k-1,Sort.swp dk k (k-1),by go_num,by omega,S3.out,by unfold Sort.fixDown;rw[if_pos hka]⟩
             case round =>
              clear S3;obtain⟨j,dj,rfl,hjk,hJ⟩:=hrel;by_cases hj1:1<=j
              · have hj1z:decide (1<=(j:Int))=true:=decide_eq_true (by omega);obtain⟨G1,hG1,hcw1,hfw1⟩:=hJ.out.1.fam H0.out hg;rw[HN.out]at hcw1 hfw1;have HG1:Hid (∀t,G1 t=dj[t]!):=hG1;clear hG1;go_wp2_with fail
                go_big_quiet (first | (go_at_call 158;refine Calls.quiet_of_same (aL _ _ _)))
                go_wp2_with fail
                · have hl:=cC (show(!Sort.ltInt (G1 j) (G1 (j-1)))=true by assumption);have HD:Hid (dj=Sort.fixDown Sort.ltInt a k (Sort.swp dk k (k-1))):=af (by rw[←hJ.out.2,shiftDown_stop Sort.ltInt j dj (Or.inr (by rw[←HG1.out,←HG1.out];exact hl))]);have SU:Hid (St w g off d dj (wr.drewN nq)):=hJ.out.1.drawn nq;generalize wr.drewN nq=W8 at SU ⊢;have HO2:Hid (Sort.partialIns Sort.ltInt a b (5-(s+1)) k (Sort.fixUp Sort.ltInt b k dj)=Sort.partialIns Sort.ltInt a b 5 (a+1) d):=af (by rw[HD.out];exact HO1.out);clear hJ HG1 hcw1 hfw1 HD HO1 hl
                  revert SU HO2
                  generalize dj=du;intro SU HO2;go_loopw [10] (fun vj wr2=>∃(j:Nat) (dj:Array Int),vj=.int .i64 j/\k+1<=j/\j<=b/\Hid (St w g off d dj wr2/\Sort.shiftUp Sort.ltInt b j dj=Sort.fixUp Sort.ltInt b k du)) (fun vj _=>b-(intOf vj).toNat)
                  case atStart=>exact⟨k+1,du,by go_num,Nat.le_refl _,by omega,SU.out,by unfold Sort.fixUp;rw[if_pos hbk]⟩
                  case round =>
                   clear SU;obtain⟨j,dj,rfl,hkj,hjb,hJ⟩:=hrel;by_cases hjl:j<b
                   · obtain⟨G2,hG2,hcw2,hfw2⟩:=hJ.out.1.fam H0.out hg;rw[HN.out]at hcw2 hfw2;have HG2:Hid (∀t,G2 t=dj[t]!):=hG2;clear hG2;go_wp2_with fail
                     go_big_quiet (first | (go_at_call 158;refine Calls.quiet_of_same (aL _ _ _)))
                     go_wp2_with fail
                     · have hl:=cC (show(!Sort.ltInt (G2 j) (G2 (j-1)))=true by assumption);have HR:Hid (St w g off d dj (wr.drewN nq)/\Sort.partialIns Sort.ltInt a b (5-(s+1)) k dj=Sort.partialIns Sort.ltInt a b 5 (a+1) d):=by
                        refine af ⟨hJ.out.1.drawn nq,?_⟩;rw[←HO2.out,←hJ.out.2,shiftUp_stop Sort.ltInt b j dj (Or.inr (by rw[←HG2.out,←HG2.out];exact hl))]
                       generalize wr.drewN nq=W9 at HR ⊢;clear hJ HG2 hcw2 hfw2;go_roundw
                       case rel=>exact⟨k,s+1,dj,rfl,by go_num,by omega,by omega,by omega,HR.out⟩
                       case measure=>simp[intOf];omega
                     · have hl:=dC (show(!Sort.ltInt (G2 j) (G2 (j-1)))=false by assumption);have S4:Hid (St w g off d (Sort.swp dj j (j-1)) ((((wr.drewN nq).setCell ⟨g,off+j,none⟩ (.int .u64 (G2 (j-1)))).setCell ⟨g,off+(j-1),none⟩ (.int .u64 (G2 j))).drew)/\Sort.shiftUp Sort.ltInt b (j+1) (Sort.swp dj j (j-1))=Sort.fixUp Sort.ltInt b k du) :=
                        ⟨hJ.out.1.swap H0.out hg HG2.out (by rw[HN.out];omega) (by rw[HN.out];omega) (nq+1),by rw[←hJ.out.2,shiftUp_go Sort.ltInt b j dj hjl (by rw[←HG2.out,←HG2.out];exact hl)]⟩
                       have hcw3:∀t,t<n->(wr.drewN nq).cell? ⟨g,off+t,none⟩=some (.int .u64 (G2 t)):=hcw2;have hfw3:∀t,t<n->(wr.drewN nq).frozen? ⟨g,off+t,none⟩=false:=hfw2;obtain⟨y3,hy3⟩:=cell?_setCell_some (w:=wr.drewN nq) (p:=⟨g,off+j,none⟩) (x:=.int .u64 (G2 (j-1))) (q:=⟨g,off+(j-1),none⟩) (hcw3 _ (by omega));clear hJ HG2 hcw2 hfw2;generalize wr.drewN nq=W9 at S4 hcw3 hfw3 hy3 ⊢
                       go_region
                       go_wp2_with fail;go_roundw
                       case rel=>exact⟨j+1,_,by go_num,by omega,by omega,S4.out⟩
                       case measure=>simp[intOf];omega
                   · have HR:Hid (St w g off d dj wr/\Sort.partialIns Sort.ltInt a b (5-(s+1)) k dj=Sort.partialIns Sort.ltInt a b 5 (a+1) d):=by
                      refine af ⟨hJ.out.1,?_⟩;rw[←HO2.out,←hJ.out.2,shiftUp_stop Sort.ltInt b j dj (Or.inl hjl)]
                     clear hJ;go_wp2_with fail;go_roundw
                     case rel=>exact⟨k,s+1,dj,rfl,by go_num,by omega,by omega,by omega,HR.out⟩
                     case measure=>simp[intOf];omega
                · have hl:=dC (show(!Sort.ltInt (G1 j) (G1 (j-1)))=false by assumption);have S4:Hid (St w g off d (Sort.swp dj j (j-1)) ((((wr.drewN nq).setCell ⟨g,off+j,none⟩ (.int .u64 (G1 (j-1)))).setCell ⟨g,off+(j-1),none⟩ (.int .u64 (G1 j))).drew)/\Sort.shiftDown Sort.ltInt (j-1) (Sort.swp dj j (j-1))=Sort.fixDown Sort.ltInt a k (Sort.swp dk k (k-1))) :=
                   ⟨hJ.out.1.swap H0.out hg HG1.out (by rw[HN.out];omega) (by rw[HN.out];omega) (nq+1),by rw[←hJ.out.2,shiftDown_go Sort.ltInt j dj hj1 (by rw[←HG1.out,←HG1.out];exact hl)]⟩
                  have hcw3:∀t,t<n->(wr.drewN nq).cell? ⟨g,off+t,none⟩=some (.int .u64 (G1 t)):=hcw1;have hfw3:∀t,t<n->(wr.drewN nq).frozen? ⟨g,off+t,none⟩=false:=hfw1;obtain⟨y3,hy3⟩:=cell?_setCell_some (w:=wr.drewN nq) (p:=⟨g,off+j,none⟩) (x:=.int .u64 (G1 (j-1))) (q:=⟨g,off+(j-1),none⟩) (hcw3 _ (by omega));clear hJ HG1 hcw1 hfw1;generalize wr.drewN nq=W9 at S4 hcw3 hfw3 hy3 ⊢
                  go_region
                  go_wp2_with fail;go_roundw
                  case rel=>exact⟨j-1,_,by go_num,by omega,S4.out⟩
                  case measure=>simp[intOf];omega
              · have hj1z:decide (1<=(j:Int))=false:=df (by omega);have HD:Hid (dj=Sort.fixDown Sort.ltInt a k (Sort.swp dk k (k-1))):=af (by rw[←hJ.out.2,shiftDown_stop Sort.ltInt j dj (Or.inl (by omega))]);have SU:Hid (St w g off d dj wr):=hJ.out.1;have HO2:Hid (Sort.partialIns Sort.ltInt a b (5-(s+1)) k (Sort.fixUp Sort.ltInt b k dj)=Sort.partialIns Sort.ltInt a b 5 (a+1) d):=af (by rw[HD.out];exact HO1.out);clear hJ HD HO1
                revert SU HO2
                generalize dj=du;intro SU HO2;go_wp2_with fail;go_loopw [10] (fun vj wr2=>∃(j:Nat) (dj:Array Int),vj=.int .i64 j/\k+1<=j/\j<=b/\Hid (St w g off d dj wr2/\Sort.shiftUp Sort.ltInt b j dj=Sort.fixUp Sort.ltInt b k du)) (fun vj _=>b-(intOf vj).toNat)
                case atStart=>exact⟨k+1,du,by go_num,Nat.le_refl _,by omega,SU.out,by unfold Sort.fixUp;rw[if_pos hbk]⟩
                case round =>
                 clear SU;obtain⟨j,dj,rfl,hkj,hjb,hJ⟩:=hrel;by_cases hjl:j<b
                 · obtain⟨G2,hG2,hcw2,hfw2⟩:=hJ.out.1.fam H0.out hg;rw[HN.out]at hcw2 hfw2;have HG2:Hid (∀t,G2 t=dj[t]!):=hG2;clear hG2;go_wp2_with fail
                   go_big_quiet (first | (go_at_call 158;refine Calls.quiet_of_same (aL _ _ _)))
                   go_wp2_with fail
                   · have hl:=cC (show(!Sort.ltInt (G2 j) (G2 (j-1)))=true by assumption);have HR:Hid (St w g off d dj (wr.drewN nq)/\Sort.partialIns Sort.ltInt a b (5-(s+1)) k dj=Sort.partialIns Sort.ltInt a b 5 (a+1) d):=by
                      refine af ⟨hJ.out.1.drawn nq,?_⟩;rw[←HO2.out,←hJ.out.2,shiftUp_stop Sort.ltInt b j dj (Or.inr (by rw[←HG2.out,←HG2.out];exact hl))]
                     generalize wr.drewN nq=W9 at HR ⊢;clear hJ HG2 hcw2 hfw2;go_roundw
                     case rel=>exact⟨k,s+1,dj,rfl,by go_num,by omega,by omega,by omega,HR.out⟩
                     case measure=>simp[intOf];omega
                   · have hl:=dC (show(!Sort.ltInt (G2 j) (G2 (j-1)))=false by assumption);have S4:Hid (St w g off d (Sort.swp dj j (j-1)) ((((wr.drewN nq).setCell ⟨g,off+j,none⟩ (.int .u64 (G2 (j-1)))).setCell ⟨g,off+(j-1),none⟩ (.int .u64 (G2 j))).drew)/\Sort.shiftUp Sort.ltInt b (j+1) (Sort.swp dj j (j-1))=Sort.fixUp Sort.ltInt b k du) :=
                      ⟨hJ.out.1.swap H0.out hg HG2.out (by rw[HN.out];omega) (by rw[HN.out];omega) (nq+1),by rw[←hJ.out.2,shiftUp_go Sort.ltInt b j dj hjl (by rw[←HG2.out,←HG2.out];exact hl)]⟩
                     have hcw3:∀t,t<n->(wr.drewN nq).cell? ⟨g,off+t,none⟩=some (.int .u64 (G2 t)):=hcw2;have hfw3:∀t,t<n->(wr.drewN nq).frozen? ⟨g,off+t,none⟩=false:=hfw2;obtain⟨y3,hy3⟩:=cell?_setCell_some (w:=wr.drewN nq) (p:=⟨g,off+j,none⟩) (x:=.int .u64 (G2 (j-1))) (q:=⟨g,off+(j-1),none⟩) (hcw3 _ (by omega));clear hJ HG2 hcw2 hfw2;generalize wr.drewN nq=W9 at S4 hcw3 hfw3 hy3 ⊢
                     go_region
                     go_wp2_with fail;go_roundw
                     case rel=>exact⟨j+1,_,by go_num,by omega,by omega,S4.out⟩
                     case measure=>simp[intOf];omega
                 · have HR:Hid (St w g off d dj wr/\Sort.partialIns Sort.ltInt a b (5-(s+1)) k dj=Sort.partialIns Sort.ltInt a b 5 (a+1) d):=by
                    refine af ⟨hJ.out.1,?_⟩;rw[←HO2.out,←hJ.out.2,shiftUp_stop Sort.ltInt b j dj (Or.inl hjl)]
                   clear hJ;go_wp2_with fail;go_roundw
                   case rel=>exact⟨k,s+1,dj,rfl,by go_num,by omega,by omega,by omega,HR.out⟩
                   case measure=>simp[intOf];omega
           · have hkaz:decide (2<=(k:Int)-(a:Int))=false:=df (by omega);have hfd:Sort.fixDown Sort.ltInt a k (Sort.swp dk k (k-1))=Sort.swp dk k (k-1):=by unfold Sort.fixDown;rw[if_neg hka]
             rw[hfd]at HO1;clear hfd;obtain⟨du,hdu⟩:∃z,Sort.swp dk k (k-1)=z:=⟨_,rfl⟩
             rw[hdu]at HO1 S3;clear hdu;have SU:=S3;have HO2:=HO1;clear S3 HO1;go_wp2_with fail;go_loopw [10] (fun vj wr2=>∃(j:Nat) (dj:Array Int),vj=.int .i64 j/\k+1<=j/\j<=b/\Hid (St w g off d dj wr2/\Sort.shiftUp Sort.ltInt b j dj=Sort.fixUp Sort.ltInt b k du)) (fun vj _=>b-(intOf vj).toNat)
             case atStart=>exact⟨k+1,du,by go_num,Nat.le_refl _,by omega,SU.out,by unfold Sort.fixUp;rw[if_pos hbk]⟩
             case round =>
              clear SU;obtain⟨j,dj,rfl,hkj,hjb,hJ⟩:=hrel;by_cases hjl:j<b
              · obtain⟨G2,hG2,hcw2,hfw2⟩:=hJ.out.1.fam H0.out hg;rw[HN.out]at hcw2 hfw2;have HG2:Hid (∀t,G2 t=dj[t]!):=hG2;clear hG2;go_wp2_with fail
                go_big_quiet (first | (go_at_call 158;refine Calls.quiet_of_same (aL _ _ _)))
                go_wp2_with fail
                · have hl:=cC (show(!Sort.ltInt (G2 j) (G2 (j-1)))=true by assumption);have HR:Hid (St w g off d dj (wr.drewN nq)/\Sort.partialIns Sort.ltInt a b (5-(s+1)) k dj=Sort.partialIns Sort.ltInt a b 5 (a+1) d):=by
                   refine af ⟨hJ.out.1.drawn nq,?_⟩;rw[←HO2.out,←hJ.out.2,shiftUp_stop Sort.ltInt b j dj (Or.inr (by rw[←HG2.out,←HG2.out];exact hl))]
                  generalize wr.drewN nq=W9 at HR ⊢;clear hJ HG2 hcw2 hfw2;go_roundw
                  case rel=>exact⟨k,s+1,dj,rfl,by go_num,by omega,by omega,by omega,HR.out⟩
                  case measure=>simp[intOf];omega
                · have hl:=dC (show(!Sort.ltInt (G2 j) (G2 (j-1)))=false by assumption);have S4:Hid (St w g off d (Sort.swp dj j (j-1)) ((((wr.drewN nq).setCell ⟨g,off+j,none⟩ (.int .u64 (G2 (j-1)))).setCell ⟨g,off+(j-1),none⟩ (.int .u64 (G2 j))).drew)/\Sort.shiftUp Sort.ltInt b (j+1) (Sort.swp dj j (j-1))=Sort.fixUp Sort.ltInt b k du) :=
                   ⟨hJ.out.1.swap H0.out hg HG2.out (by rw[HN.out];omega) (by rw[HN.out];omega) (nq+1),by rw[←hJ.out.2,shiftUp_go Sort.ltInt b j dj hjl (by rw[←HG2.out,←HG2.out];exact hl)]⟩
                  have hcw3:∀t,t<n->(wr.drewN nq).cell? ⟨g,off+t,none⟩=some (.int .u64 (G2 t)):=hcw2;have hfw3:∀t,t<n->(wr.drewN nq).frozen? ⟨g,off+t,none⟩=false:=hfw2;obtain⟨y3,hy3⟩:=cell?_setCell_some (w:=wr.drewN nq) (p:=⟨g,off+j,none⟩) (x:=.int .u64 (G2 (j-1))) (q:=⟨g,off+(j-1),none⟩) (hcw3 _ (by omega));clear hJ HG2 hcw2 hfw2;generalize wr.drewN nq=W9 at S4 hcw3 hfw3 hy3 ⊢
                  go_region
                  go_wp2_with fail;go_roundw
                  case rel=>exact⟨j+1,_,by go_num,by omega,by omega,S4.out⟩
                  case measure=>simp[intOf];omega
              · have HR:Hid (St w g off d dj wr/\Sort.partialIns Sort.ltInt a b (5-(s+1)) k dj=Sort.partialIns Sort.ltInt a b 5 (a+1) d):=by
                 refine af ⟨hJ.out.1,?_⟩;rw[←HO2.out,←hJ.out.2,shiftUp_stop Sort.ltInt b j dj (Or.inl hjl)]
                clear hJ;go_wp2_with fail;go_roundw
                case rel=>exact⟨k,s+1,dj,rfl,by go_num,by omega,by omega,by omega,HR.out⟩
                case measure=>simp[intOf];omega
         · have hbkz:decide (2<=(b:Int)-(k:Int))=false:=df (by omega);by_cases hka:2<=k-a
           · have hkaz:decide (2<=(k:Int)-(a:Int))=true:=decide_eq_true (by omega);go_wp2_with fail;go_loopw [9] (fun vj wr2=>∃(j:Nat) (dj:Array Int),vj=.int .i64 j/\j<=k-1/\Hid (St w g off d dj wr2/\Sort.shiftDown Sort.ltInt j dj=Sort.fixDown Sort.ltInt a k (Sort.swp dk k (k-1)))) (fun vj _=>(intOf vj).toNat)
             case atStart=>exact⟨k-1,Sort.swp dk k (k-1),by go_num,by omega,S3.out,by unfold Sort.fixDown;rw[if_pos hka]⟩
             case round =>
              clear S3;obtain⟨j,dj,rfl,hjk,hJ⟩:=hrel;by_cases hj1:1<=j
              · have hj1z:decide (1<=(j:Int))=true:=decide_eq_true (by omega);obtain⟨G1,hG1,hcw1,hfw1⟩:=hJ.out.1.fam H0.out hg;rw[HN.out]at hcw1 hfw1;have HG1:Hid (∀t,G1 t=dj[t]!):=hG1;clear hG1;go_wp2_with fail
                go_big_quiet (first | (go_at_call 158;refine Calls.quiet_of_same (aL _ _ _)))
                go_wp2_with fail
                · have hl:=cC (show(!Sort.ltInt (G1 j) (G1 (j-1)))=true by assumption);have HD:Hid (dj=Sort.fixDown Sort.ltInt a k (Sort.swp dk k (k-1))):=af (by rw[←hJ.out.2,shiftDown_stop Sort.ltInt j dj (Or.inr (by rw[←HG1.out,←HG1.out];exact hl))]);have SU:Hid (St w g off d dj (wr.drewN nq)):=hJ.out.1.drawn nq;generalize wr.drewN nq=W8 at SU ⊢;have HO2:Hid (Sort.partialIns Sort.ltInt a b (5-(s+1)) k (Sort.fixUp Sort.ltInt b k dj)=Sort.partialIns Sort.ltInt a b 5 (a+1) d):=af (by rw[HD.out];exact HO1.out);clear hJ HG1 hcw1 hfw1 HD HO1 hl
                  revert SU HO2
                  generalize dj=du;intro SU HO2;have hfu:Sort.fixUp Sort.ltInt b k du=du:=by unfold Sort.fixUp;rw[if_neg hbk]
                  rw[hfu]at HO2;clear hfu;go_roundw
                  case rel=>exact⟨k,s+1,du,rfl,by go_num,by omega,by omega,by omega,SU.out,HO2.out⟩
                  case measure=>simp[intOf];omega
                · have hl:=dC (show(!Sort.ltInt (G1 j) (G1 (j-1)))=false by assumption);have S4:Hid (St w g off d (Sort.swp dj j (j-1)) ((((wr.drewN nq).setCell ⟨g,off+j,none⟩ (.int .u64 (G1 (j-1)))).setCell ⟨g,off+(j-1),none⟩ (.int .u64 (G1 j))).drew)/\Sort.shiftDown Sort.ltInt (j-1) (Sort.swp dj j (j-1))=Sort.fixDown Sort.ltInt a k (Sort.swp dk k (k-1))) :=
                   ⟨hJ.out.1.swap H0.out hg HG1.out (by rw[HN.out];omega) (by rw[HN.out];omega) (nq+1),by rw[←hJ.out.2,shiftDown_go Sort.ltInt j dj hj1 (by rw[←HG1.out,←HG1.out];exact hl)]⟩
                  have hcw3:∀t,t<n->(wr.drewN nq).cell? ⟨g,off+t,none⟩=some (.int .u64 (G1 t)):=hcw1;have hfw3:∀t,t<n->(wr.drewN nq).frozen? ⟨g,off+t,none⟩=false:=hfw1;obtain⟨y3,hy3⟩:=cell?_setCell_some (w:=wr.drewN nq) (p:=⟨g,off+j,none⟩) (x:=.int .u64 (G1 (j-1))) (q:=⟨g,off+(j-1),none⟩) (hcw3 _ (by omega));clear hJ HG1 hcw1 hfw1;generalize wr.drewN nq=W9 at S4 hcw3 hfw3 hy3 ⊢
                  go_region
                  go_wp2_with fail;go_roundw
                  case rel=>exact⟨j-1,_,by go_num,by omega,S4.out⟩
                  case measure=>simp[intOf];omega
              · have hj1z:decide (1<=(j:Int))=false:=df (by omega);have HD:Hid (dj=Sort.fixDown Sort.ltInt a k (Sort.swp dk k (k-1))):=af (by rw[←hJ.out.2,shiftDown_stop Sort.ltInt j dj (Or.inl (by omega))]);have SU:Hid (St w g off d dj wr):=hJ.out.1;have HO2:Hid (Sort.partialIns Sort.ltInt a b (5-(s+1)) k (Sort.fixUp Sort.ltInt b k dj)=Sort.partialIns Sort.ltInt a b 5 (a+1) d):=af (by rw[HD.out];exact HO1.out);clear hJ HD HO1
                revert SU HO2
                generalize dj=du;intro SU HO2;have hfu:Sort.fixUp Sort.ltInt b k du=du:=by unfold Sort.fixUp;rw[if_neg hbk]
                rw[hfu]at HO2;clear hfu;go_wp2_with fail;go_roundw
                case rel=>exact⟨k,s+1,du,rfl,by go_num,by omega,by omega,by omega,SU.out,HO2.out⟩
                case measure=>simp[intOf];omega
           · have hkaz:decide (2<=(k:Int)-(a:Int))=false:=df (by omega);have hfd:Sort.fixDown Sort.ltInt a k (Sort.swp dk k (k-1))=Sort.swp dk k (k-1):=by unfold Sort.fixDown;rw[if_neg hka]
             rw[hfd]at HO1;clear hfd;obtain⟨du,hdu⟩:∃z,Sort.swp dk k (k-1)=z:=⟨_,rfl⟩
             rw[hdu]at HO1 S3;clear hdu;have SU:=S3;have HO2:=HO1;clear S3 HO1;have hfu:Sort.fixUp Sort.ltInt b k du=du:=by unfold Sort.fixUp;rw[if_neg hbk]
             rw[hfu]at HO2;clear hfu;go_wp2_with fail;go_roundw
             case rel=>exact⟨k,s+1,du,rfl,by go_num,by omega,by omega,by omega,SU.out,HO2.out⟩
             case measure=>simp[intOf];omega
     · obtain rfl:k=b:=by omega
       have HK:Hid (Sort.scanSorted Sort.ltInt dk k i=k):=af (by rw[←hK.out.2,scanSorted_stop Sort.ltInt dk k k (Or.inl hlt)]);have HR1:Hid (R=(dk,true)):=af (by rw[←HR0.out,←HO.out,pi_true Sort.ltInt a k s i dk hs HK.out]);have hltz:decide ((k:Int)<(k:Int))=false:=df (by omega);go_wp2_with fail
       go_big_quiet (first | (go_at_call 158;refine Calls.quiet_of_same (aL _ _ _)))
       have S5:Hid (St w g off d dk (wr.drewN nq)):=hK.out.1.drawn nq;have hr1:=HR1.out;subst hr1;go_wp2_with fail;go_ret;exact⟨rfl,S5.out⟩
  · have hs1:s=5:=by omega
    subst hs1;have HR1:Hid (R=(dk,false)):=af (by rw[←HR0.out,←hS.out.2,pi_end]);have S5:Hid (St w g off d dk wr):=hS.out.1;clear hS;have hr1:=HR1.out;subst hr1;go_wp2;go_ret;exact⟨rfl,S5.out⟩
theorem k8 {p:Prop}(h:p):Hid p:=h
theorem sH (g off cap lo hi first n:Nat)(d:Array Int)(hn:d.size=n)(w:World)(hH:Sort.Holds (Value.int .u64) w g off d)(hg:g<w.heap.size)(hlo:lo<=hi)(hb:first+hi<=n)(hsz:n<4611686018427387904) :
 Calls Tryz.prog 218 #[.slice (some ⟨g,off,none⟩) n cap,.int .i64 lo,.int .i64 hi,.int .i64 first] w fun e w' =>
  e=.returned (.tuple #[])/\St w g off d (Sort.siftDown Sort.ltInt hi first lo d) w':=by
 have H0:Hid (Sort.Holds (Value.int .u64) w g off d):=hH;have HN:Hid (d.size=n):=hn;clear hH hn
 go_enter Tryz.func218,Tryz.ntmps218
 go_wp2;go_loopw [8] (fun v8 wr=>∃(root:Nat) (dk:Array Int),v8=.int .i64 root/\root<=hi/\Hid (St w g off d dk wr/\Sort.siftDown Sort.ltInt hi first root dk=Sort.siftDown Sort.ltInt hi first lo d)) (fun v8 _=>hi-(intOf v8).toNat)
 case atStart=>exact⟨lo,d,rfl,hlo,St.refl H0.out,rfl⟩
 case round =>
  obtain⟨root,dk,rfl,hr,hS⟩:=hrel;by_cases h0:hi<=2*root+1
  · have h0z:(hi:Int)<=2*(root:Int)+1:=by omega
    have HR:Hid (St w g off d (Sort.siftDown Sort.ltInt hi first lo d) wr):=by
     refine af ?_;rw[←hS.out.2,Sort.sd_end _ _ h0];exact hS.out.1
    clear hS;go_wp2
    go_end0
    exact⟨rfl,HR.out⟩
  · have h0z:¬((hi:Int)<=2*(root:Int)+1):=by omega
    obtain⟨G,hG,hcw,hfw⟩:=hS.out.1.fam H0.out hg;rw[HN.out]at hcw hfw;have HG:Hid (∀t,G t=dk[t]!):=hG;have hds:Hid (dk.size=n):=by refine af ?_;rw[hS.out.1.1,HN.out]
    have stay:Hid (Sort.siftDown Sort.ltInt hi first root dk=dk->∀q q',St w g off d (Sort.siftDown Sort.ltInt hi first lo d) ((wr.drewN q).drewN q')):=fun e q q'=>by
     rw[←hS.out.2,e];exact(hS.out.1.drawn q).drawn q'
    have hop:Hid (∀c,c<hi->Sort.siftDown Sort.ltInt hi first root dk=Sort.siftDown Sort.ltInt hi first c (Sort.swp dk (first+root) (first+c))->∀q q',
     St w g off d (Sort.swp dk (first+root) (first+c)) (((((wr.drewN q).drewN q')).setCell ⟨g,off+(first+root),none⟩ (.int .u64 (G (first+c)))).setCell ⟨g,off+(first+c),none⟩ (.int .u64 (G (first+root)))).drew /\
     Sort.siftDown Sort.ltInt hi first c (Sort.swp dk (first+root) (first+c))=Sort.siftDown Sort.ltInt hi first lo d):=fun c hc e q q' =>
     ⟨(hS.out.1.drawn q).swap H0.out hg hG (by rw[HN.out];omega) (by rw[HN.out];omega) (q'+1),by rw[←e];exact hS.out.2⟩
    clear hG hS;by_cases h1:2*root+2<hi
    · have h1z:2*(root:Int)+1+1<(hi:Int):=by omega
      go_wp2_with fail
      go_big_quiet (first | (go_at_call 158;refine Calls.quiet_of_same (aL _ _ _)))
      go_wp2_with fail
      · have hL:Sort.ltInt (G (first+(2*root+1))) (G (first+(2*root+2)))=true:=by assumption
        revert nq;intro nq1
        have hcw2:∀t,t<n->(wr.drewN nq1).cell? ⟨g,off+t,none⟩=some (.int .u64 (G t)):=hcw;have hfw2:∀t,t<n->(wr.drewN nq1).frozen? ⟨g,off+t,none⟩=false:=hfw;have stay2:Hid _:=fun e=>stay.out e nq1;have hop2:Hid _:=fun c h e=>hop.out c h e nq1;clear hcw hfw stay hop;generalize wr.drewN nq1=wr2 at hcw2 hfw2 stay2 hop2 ⊢
        go_big_quiet (first | (go_at_call 158;refine Calls.quiet_of_same (aL _ _ _)))
        go_wp2_with fail
        · have hS:=cC (show(!Sort.ltInt (G (first+root)) (G (first+(2*root+2))))=true by assumption);have HR:=k8 (stay2.out (Sort.sd_right_stop _ _ h1 (by rw[←HG.out,←HG.out];exact hL) (by rw[←HG.out,←HG.out];exact hS)) nq);clear stay2 hop2
          (try simp only[Exit.inBlock,Exit.then]);refine bodyPost_ret (results_none rfl _ _ _) rfl ?_
          exact⟨rfl,HR.out⟩
        · have hS:=dC (show(!Sort.ltInt (G (first+root)) (G (first+(2*root+2))))=false by assumption);have HR:=k8 (hop2.out (2*root+2) (by omega) (Sort.sd_right_go _ _ h1 (by rw[←HG.out,←HG.out];exact hL) (by rw[←HG.out,←HG.out];exact hS)) nq);obtain⟨y3,hy3⟩:=cell?_setCell_some (w:=wr2.drewN nq) (p:=⟨g,off+(first+root),none⟩) (x:=.int .u64 (G (first+(2*root+2)))) (q:=⟨g,off+(first+(2*root+2)),none⟩) (hcw2 _ (by omega));have hcw3:∀t,t<n->(wr2.drewN nq).cell? ⟨g,off+t,none⟩=some (.int .u64 (G t)):=hcw2;have hfw3:∀t,t<n->(wr2.drewN nq).frozen? ⟨g,off+t,none⟩=false:=hfw2;clear stay2 hop2 hcw2 hfw2;generalize wr2.drewN nq=wr3 at HR hcw3 hfw3 hy3 ⊢
          go_region
          go_wp2_with fail;go_roundw
          case rel=>exact⟨2*root+2,_,by simp <;>omega,by omega,HR.out⟩
          case measure=>simp[intOf];omega
      · have hL:Sort.ltInt (G (first+(2*root+1))) (G (first+(2*root+2)))=false:=by assumption
        revert nq;intro nq1
        have hcw2:∀t,t<n->(wr.drewN nq1).cell? ⟨g,off+t,none⟩=some (.int .u64 (G t)):=hcw;have hfw2:∀t,t<n->(wr.drewN nq1).frozen? ⟨g,off+t,none⟩=false:=hfw;have stay2:Hid _:=fun e=>stay.out e nq1;have hop2:Hid _:=fun c h e=>hop.out c h e nq1;clear hcw hfw stay hop;generalize wr.drewN nq1=wr2 at hcw2 hfw2 stay2 hop2 ⊢
        go_big_quiet (first | (go_at_call 158;refine Calls.quiet_of_same (aL _ _ _)))
        go_wp2_with fail
        · have hS:=cC (show(!Sort.ltInt (G (first+root)) (G (first+(2*root+1))))=true by assumption);have HR:=k8 (stay2.out (Sort.sd_left_stop _ _ (by omega) (fun _=>(by rw[←HG.out,←HG.out];exact hL)) (by rw[←HG.out,←HG.out];exact hS)) nq);clear stay2 hop2
          (try simp only[Exit.inBlock,Exit.then]);refine bodyPost_ret (results_none rfl _ _ _) rfl ?_
          exact⟨rfl,HR.out⟩
        · have hS:=dC (show(!Sort.ltInt (G (first+root)) (G (first+(2*root+1))))=false by assumption);have HR:=k8 (hop2.out (2*root+1) (by omega) (Sort.sd_left_go _ _ (by omega) (fun _=>(by rw[←HG.out,←HG.out];exact hL)) (by rw[←HG.out,←HG.out];exact hS)) nq);obtain⟨y3,hy3⟩:=cell?_setCell_some (w:=wr2.drewN nq) (p:=⟨g,off+(first+root),none⟩) (x:=.int .u64 (G (first+(2*root+1)))) (q:=⟨g,off+(first+(2*root+1)),none⟩) (hcw2 _ (by omega));have hcw3:∀t,t<n->(wr2.drewN nq).cell? ⟨g,off+t,none⟩=some (.int .u64 (G t)):=hcw2;have hfw3:∀t,t<n->(wr2.drewN nq).frozen? ⟨g,off+t,none⟩=false:=hfw2;clear stay2 hop2 hcw2 hfw2;generalize wr2.drewN nq=wr3 at HR hcw3 hfw3 hy3 ⊢
          go_region
          go_wp2_with fail;go_roundw
          case rel=>exact⟨2*root+1,_,by simp <;>omega,by omega,HR.out⟩
          case measure=>simp[intOf];omega
    · have h1z:decide (2*(root:Int)+1+1<(hi:Int))=false:=df (by omega);go_wp2_with fail
      go_big_quiet (first | (go_at_call 158;refine Calls.quiet_of_same (aL _ _ _)))
      go_wp2_with fail
      revert nq;intro nq1
      have hcw2:∀t,t<n->(wr.drewN nq1).cell? ⟨g,off+t,none⟩=some (.int .u64 (G t)):=hcw;have hfw2:∀t,t<n->(wr.drewN nq1).frozen? ⟨g,off+t,none⟩=false:=hfw;have stay2:Hid _:=fun e=>stay.out e nq1;have hop2:Hid _:=fun c h e=>hop.out c h e nq1;clear hcw hfw stay hop;generalize wr.drewN nq1=wr2 at hcw2 hfw2 stay2 hop2 ⊢
      go_big_quiet (first | (go_at_call 158;refine Calls.quiet_of_same (aL _ _ _)))
      go_wp2_with fail
      · have hS:=cC (show(!Sort.ltInt (G (first+root)) (G (first+(2*root+1))))=true by assumption);have HR:=k8 (stay2.out (Sort.sd_left_stop _ _ (by omega) (fun h=>absurd h h1) (by rw[←HG.out,←HG.out];exact hS)) nq);clear stay2 hop2
        (try simp only[Exit.inBlock,Exit.then]);refine bodyPost_ret (results_none rfl _ _ _) rfl ?_
        exact⟨rfl,HR.out⟩
      · have hS:=dC (show(!Sort.ltInt (G (first+root)) (G (first+(2*root+1))))=false by assumption);have HR:=k8 (hop2.out (2*root+1) (by omega) (Sort.sd_left_go _ _ (by omega) (fun h=>absurd h h1) (by rw[←HG.out,←HG.out];exact hS)) nq);obtain⟨y3,hy3⟩:=cell?_setCell_some (w:=wr2.drewN nq) (p:=⟨g,off+(first+root),none⟩) (x:=.int .u64 (G (first+(2*root+1)))) (q:=⟨g,off+(first+(2*root+1)),none⟩) (hcw2 _ (by omega));have hcw3:∀t,t<n->(wr2.drewN nq).cell? ⟨g,off+t,none⟩=some (.int .u64 (G t)):=hcw2;have hfw3:∀t,t<n->(wr2.drewN nq).frozen? ⟨g,off+t,none⟩=false:=hfw2;clear stay2 hop2 hcw2 hfw2;generalize wr2.drewN nq=wr3 at HR hcw3 hfw3 hy3 ⊢
        go_region
        go_wp2_with fail;go_roundw
        case rel=>exact⟨2*root+1,_,by simp <;>omega,by omega,HR.out⟩
        case measure=>simp[intOf];omega
theorem II (g off cap a b n:Nat)(d:Array Int)(hn:d.size=n)(w:World)(hH:Sort.Holds (Value.int .u64) w g off d)(hg:g<w.heap.size)(hab:a<=b)(hb:b<=n)(hsz:n<4611686018427387904) :
 Calls Tryz.prog 189 #[.slice (some ⟨g,off,none⟩) n cap,.int .i64 a,.int .i64 b] w fun e w' =>
  e=.returned (.tuple #[])/\∃d',Sort.PermIn a b d d'/\Sort.SortedIn Sort.ltInt a b d'/\St w g off d d' w':=by
 have HZ:=Sort.heapSort_holds Sort.swo_ltInt d a b hab (by omega)
 suffices h:Calls Tryz.prog 189 #[.slice (some ⟨g,off,none⟩) n cap,.int .i64 a,.int .i64 b] w fun e w'=>e=.returned (.tuple #[])/\St w g off d (Sort.heapSort Sort.ltInt d a b) w' from
  h.mono fun e w' ⟨he,hs⟩=>⟨he,_,HZ.1,HZ.2,hs⟩
 clear HZ;have H0:Hid (Sort.Holds (Value.int .u64) w g off d):=hH;have HN:Hid (d.size=n):=hn;have S0:Hid (St w g off d d w):=St.refl hH;clear hH hn;have ecast:(b:Int)-(a:Int)=((b-a:Nat):Int):=by omega
 have est:((b:Int)-(a:Int)-1).tdiv 2=(((b-a-1) / 2+1:Nat):Int)-1:=half_start hab;obtain⟨m,hm⟩:∃m,b-a=m:=⟨_,rfl⟩
 obtain⟨hf,hhf⟩:∃hf,(b-a-1) / 2+1=hf:=⟨_,rfl⟩
 have hHS:Hid (Sort.heapSort Sort.ltInt d a b=Sort.heapPop Sort.ltInt a m (Sort.heapBuild Sort.ltInt m a hf d)):=by
  refine af ?_;unfold Sort.heapSort;rw[hm,←hhf,hm]
 rw[hm]at ecast;rw[hhf,ecast]at est;have hfm:hf<=m+1:=by omega
 have ham:a+m<=n:=by omega
 have hfm2:hf<=m∨m=0/\hf=1:=by omega
 have EC:Hid _:=ecast;have ES:Hid _:=est;clear hm hhf ecast est
 go_enter Tryz.func189,Tryz.ntmps189
 go_wp2_with fail;rw[EC.out,ES.out];go_loopw [9] (fun v9 wr=>∃(k:Nat) (dk:Array Int),v9=.int .i64 ((k:Int)-1)/\k<=hf/\Hid (St w g off d dk wr/\Sort.heapBuild Sort.ltInt m a k dk=Sort.heapBuild Sort.ltInt m a hf d)) (fun v9 _=>(intOf v9+1).toNat)
 case atStart=>exact⟨hf,d,rfl,Nat.le_refl _,S0.out,rfl⟩
 case round =>
  obtain⟨k,dk,rfl,hk,hS⟩:=hrel;cases k with
  | zero =>
   have hB:Hid (dk=Sort.heapBuild Sort.ltInt m a hf d):=hS.out.2;have S1:Hid (St w g off d dk wr):=hS.out.1;clear hS;rw[show(((0:Nat):Int)-1)= -1 from rfl];go_wp2_with fail;go_loopw [10] (fun v10 w2=>∃(k:Nat) (dj:Array Int),v10=.int .i64 ((k:Int)-1)/\k<=m/\Hid (St w g off d dj w2/\Sort.heapPop Sort.ltInt a k dj=Sort.heapPop Sort.ltInt a m dk)) (fun v10 _=>(intOf v10+1).toNat)
   case atStart=>exact⟨m,dk,rfl,Nat.le_refl _,S1.out,rfl⟩
   case round =>
    clear S1;obtain⟨k,dj,rfl,hk,hS⟩:=hrel;cases k with
    | zero =>
     have HR:Hid (St w g off d (Sort.heapSort Sort.ltInt d a b) wr):=by
      refine af ?_;rw[hHS.out,←hB.out,←hS.out.2];exact hS.out.1
     clear hS;go_wp2_with fail
     go_end0
     exact⟨rfl,HR.out⟩
    | succ k =>
     obtain⟨G,hG,hcw,hfw⟩:=hS.out.1.fam H0.out hg;rw[HN.out]at hcw hfw;have hds:Hid (dj.size=n):=by refine af ?_;rw[hS.out.1.1,HN.out]
     have S2:Hid (St w g off d (Sort.swp dj a (a+k)) (((wr.setCell ⟨g,off+a,none⟩ (.int .u64 (G (a+k)))).setCell ⟨g,off+(a+k),none⟩ (.int .u64 (G a)))).drew):=hS.out.1.swap H0.out hg hG (by rw[HN.out];omega) (by rw[HN.out];omega) 1;have hPop:Hid (Sort.heapPop Sort.ltInt a k (Sort.siftDown Sort.ltInt k a 0 (Sort.swp dj a (a+k)))=Sort.heapPop Sort.ltInt a m dk):=hS.out.2;obtain⟨y3,hy3⟩:=cell?_setCell_some (w:=wr) (p:=⟨g,off+a,none⟩) (x:=.int .u64 (G (a+k))) (q:=⟨g,off+(a+k),none⟩) (hcw _ (by omega));clear hG hS;rcases Nat.eq_zero_or_pos k with hk0 | hkp
     · subst hk0;go_wp2_with fail
       go_region
       go_wp2_with fail;have S3:=S2;generalize ((wr.setCell ⟨g,off+a,none⟩ _).setCell ⟨g,off+_,none⟩ _).drew=wr3 at S3 ⊢;refine(sH g off cap 0 0 a n (Sort.swp dj a (a+0)) (by rw[Sort.size_swp];exact hds.out) wr3 (S3.out.hold H0.out hg).1 (S3.out.hold H0.out hg).2 (Nat.zero_le _) (by omega) hsz).mono ?_;rintro e w1 ⟨rfl,h4⟩;have HR:Hid (St w g off d (Sort.siftDown Sort.ltInt 0 a 0 (Sort.swp dj a (a+0))) w1):=S3.out.trans hg h4;clear h4 S2 S3 hcw hfw hy3;go_wp2_with fail;go_roundw
       case rel=>exact⟨0,_,by simp,by omega,HR.out,hPop.out⟩
       case measure=>simp[intOf]
     · go_wp2_with fail
       go_region
       go_wp2_with fail;have S3:=S2;generalize ((wr.setCell ⟨g,off+a,none⟩ _).setCell ⟨g,off+_,none⟩ _).drew=wr3 at S3 ⊢;refine(sH g off cap 0 k a n (Sort.swp dj a (a+k)) (by rw[Sort.size_swp];exact hds.out) wr3 (S3.out.hold H0.out hg).1 (S3.out.hold H0.out hg).2 (Nat.zero_le _) (by omega) hsz).mono ?_;rintro e w1 ⟨rfl,h4⟩;have HR:Hid (St w g off d (Sort.siftDown Sort.ltInt k a 0 (Sort.swp dj a (a+k))) w1):=S3.out.trans hg h4;clear h4 S2 S3 hcw hfw hy3;go_wp2_with fail;go_roundw
       case rel=>exact⟨k,_,by simp,by omega,HR.out,hPop.out⟩
       case measure=>simp[intOf]
  | succ k =>
   go_wp2_with fail;refine(sH g off cap k m a n dk (by rw[hS.out.1.1,HN.out]) wr (hS.out.1.hold H0.out hg).1 (hS.out.1.hold H0.out hg).2 (by omega) (by omega) hsz).mono ?_;rintro e w1 ⟨rfl,h4⟩;have HR:Hid (St w g off d (Sort.siftDown Sort.ltInt m a k dk) w1):=hS.out.1.trans hg h4;have HB:Hid (Sort.heapBuild Sort.ltInt m a k (Sort.siftDown Sort.ltInt m a k dk)=Sort.heapBuild Sort.ltInt m a hf d):=hS.out.2;clear h4 hS;go_wp2_with fail;go_roundw
   case rel=>exact⟨k,_,by simp,by omega,HR.out,HB.out⟩
   case measure=>simp[intOf]
end Go.Proofs.YtbnlhdnnenahfaaGreatDoor
