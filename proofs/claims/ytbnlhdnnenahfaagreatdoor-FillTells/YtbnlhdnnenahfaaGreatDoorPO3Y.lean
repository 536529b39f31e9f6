/-
  What the texts PEdge, PPCheck say, so far as this seat's proofs need it.
-/
import Derived.Test.YtbnlhdnnenahfaaGreatDoorPO1Y
set_option maxHeartbeats 8000000
namespace Go.Proofs.YtbnlhdnnenahfaaGreatDoor
open Go.RowKit
theorem tY (a b lo hi:Int)(t:Bool)(h:(decide (lo<=a)=false/\t=false)∨(lo<=a/\decide (a<=hi)=false/\t=false)∨(lo<=a/\a<=hi/\decide (lo<=b)=false/\t=false)∨(lo<=a/\a<=hi/\lo<=b/\decide (b<=hi)=false/\t=false)∨(lo<=a/\a<=hi/\lo<=b/\b<=hi/\t=true))(w:World) :
 Calls Tryz.prog 79 #[.agg #[.int .i64 a,.int .i64 b],.int .i64 lo,.int .i64 hi] w fun e w'=>e=.returned (.bool t)/\Below w.heap.size w w':=by
 rcases h with⟨h1,rfl⟩ | ⟨h1,h2,rfl⟩ | ⟨h1,h2,h3,rfl⟩ | ⟨h1,h2,h3,h4,rfl⟩ | ⟨h1,h2,h3,h4,rfl⟩
 all_goals
  go_enter Tryz.func79,Tryz.ntmps79
  go_wp2;go_ret;exact⟨rfl,by go_grown⟩
theorem jF (a b lo hi:Int)(t:Bool)(ht:t=true↔lo<=a/\a<=hi/\lo<=b/\b<=hi)(w:World) :
 Calls Tryz.prog 79 #[.agg #[.int .i64 a,.int .i64 b],.int .i64 lo,.int .i64 hi] w fun e w'=>e=.returned (.bool t)/\Below w.heap.size w w':=by
 refine tY a b lo hi t ?_ w;cases t
 · simp only[decide_eq_false_iff_not,and_true,and_false,or_false,Bool.false_eq_true,false_iff]at ht ⊢;omega
 · simp only[decide_eq_false_iff_not,and_true,and_false,false_or,Bool.true_eq_false,true_iff]at ht ⊢;omega
theorem Az (p0 p1 q0 q1 x y A B:Int)(eA:(q0-p0)*(y-p1)=A)(eB:(q1-p1)*(x-p0)=B)(p01:0<=p0)(p02:p0<1073741824)(p11:0<=p1)(p12:p1<1073741824)(q01:0<=q0)(q02:q0<1073741824)(q11:0<=q1)(q12:q1<1073741824)(x1: -2147483648<=x)(x2:x<=2147483648)(y1: -2147483648<=y)(y2:y<=2147483648)
 (A1: -3458764513820540928<=A) (A2:A<=3458764513820540928) (B1: -3458764513820540928<=B) (B2:B<=3458764513820540928) (w:World) :
 Calls Tryz.prog 136 #[.agg #[.int .i64 p0,.int .i64 p1,.int .i64 q0,.int .i64 q1],.agg #[.int .i64 x,.int .i64 y]] w fun e w'=>e=.returned (.int .i64 (A-B))/\Below w.heap.size w w':=by
 go_enter Tryz.func136,Tryz.ntmps136
 go_wp2;go_ret;exact⟨rfl,by go_grown⟩
theorem rU {a b:Int}(a0: -1073741824<a)(a1:a<1073741824)(b0: -3221225472<=b)(b1:b<=3221225472): -3458764513820540928<=a*b/\a*b<=3458764513820540928:=by
 have h:(a*b).natAbs<=1073741824*3221225472:=by
  rw[Int.natAbs_mul];exact Nat.mul_le_mul (by omega) (by omega)
 omega
theorem rI {p q:Int×Int}{x y:Int}(hp:aW p)(hq:aW q)(hf:¬ct x y)(w:World) :
 Calls Tryz.prog 136 #[.agg #[.int .i64 p.1,.int .i64 p.2,.int .i64 q.1,.int .i64 q.2],.agg #[.int .i64 x,.int .i64 y]] w fun e w'=>e=.returned (.int .i64 (crs p q x y))/\Below w.heap.size w w':=by
 unfold aW at hp hq;unfold ct at hf;have h1:=rU (a:=q.1-p.1) (b:=y-p.2) (by omega) (by omega) (by omega) (by omega);have h2:=rU (a:=q.2-p.2) (b:=x-p.1) (by omega) (by omega) (by omega) (by omega);exact Az p.1 p.2 q.1 q.2 x y _ _ rfl rfl (by omega) (by omega) (by omega) (by omega) (by omega) (by omega) (by omega) (by omega) (by omega) (by omega) (by omega) (by omega) h1.1 h1.2 h2.1 h2.2 w
theorem xz (p0 p1 q0 q1 x y u v:Int)(t:Bool)
 (h:(decide (q1 < p1)=false/\((decide (p1<=y)=false/\t=false)∨(p1<=y/\decide (y < q1)=false/\t=false)∨(p1<=y/\y < q1/\decide (0 < u)=t))) ∨
   (q1<p1/\((decide (q1<=y)=false/\t=false)∨(q1<=y/\decide (y<p1)=false/\t=false)∨(q1<=y/\y<p1/\decide (0<v)=t))))
 (T1:∀w,Calls Tryz.prog 136 #[.agg #[.int .i64 p0,.int .i64 p1,.int .i64 q0,.int .i64 q1],.agg #[.int .i64 x,.int .i64 y]] w fun e w'=>e=.returned (.int .i64 u)/\Below w.heap.size w w')
 (T2:∀w,Calls Tryz.prog 136 #[.agg #[.int .i64 q0,.int .i64 q1,.int .i64 p0,.int .i64 p1],.agg #[.int .i64 x,.int .i64 y]] w fun e w'=>e=.returned (.int .i64 v)/\Below w.heap.size w w') (w:World) :
 Calls Tryz.prog 89 #[.agg #[.int .i64 p0,.int .i64 p1,.int .i64 q0,.int .i64 q1],.agg #[.int .i64 x,.int .i64 y]] w fun e w'=>e=.returned (.bool t)/\Below w.heap.size w w':=by
 replace T1:Hid _:=T1;replace T2:Hid _:=T2;rcases h with⟨h1,(⟨h2,rfl⟩ | ⟨h2,h3,rfl⟩ | ⟨h2,h3,rfl⟩)⟩ | ⟨h1,(⟨h2,rfl⟩ | ⟨h2,h3,rfl⟩ | ⟨h2,h3,rfl⟩)⟩
 all_goals
  go_enter Tryz.func89,Tryz.ntmps89
  go_wp2_with fail
 · go_ret;exact⟨rfl,by go_grown⟩
 · go_ret;exact⟨rfl,by go_grown⟩
 · refine(T1.out _).mono ?_;rintro e w1 ⟨rfl,b1⟩;go_wp2_with fail;go_ret;exact⟨rfl,Below.trans (by go_grown) (b1.mono (by simp;omega))⟩
 · go_ret;exact⟨rfl,by go_grown⟩
 · go_ret;exact⟨rfl,by go_grown⟩
 · refine(T2.out _).mono ?_;rintro e w1 ⟨rfl,b1⟩;go_wp2_with fail;go_ret;exact⟨rfl,Below.trans (by go_grown) (b1.mono (by simp;omega))⟩
theorem FQ {p q:Int×Int}{x y:Int}(hp:aW p)(hq:aW q)(hf:¬ct x y)(w:World) :
 Calls Tryz.prog 89 #[.agg #[.int .i64 p.1,.int .i64 p.2,.int .i64 q.1,.int .i64 q.2],.agg #[.int .i64 x,.int .i64 y]] w fun e w'=>e=.returned (.bool (crB p q x y))/\Below w.heap.size w w':=by
 refine xz p.1 p.2 q.1 q.2 x y (crs p q x y) (crs q p x y) (crB p q x y) ?_ (fun w=>rI hp hq hf w) (fun w=>rI hq hp hf w) w;have e1:crB p q x y=decide ((p.2<=y/\y<q.2/\0<crs p q x y)∨(y<p.2/\q.2<=y/\crs p q x y<0)):=qJ (by rw[dw,decide_eq_true_eq]);have e2:=mm p q x y;rw[e1,e2];generalize crs p q x y=c;simp only[decide_eq_false_iff_not,decide_eq_decide];omega
theorem rL (a b:Value)(w:World):(Instr.index 26 (.agg #[a,b]) (.int .i64 0)).run Tryz.prog w=.ok a w:=by kernel_rfl
theorem rM (a b:Value)(w:World):(Instr.index 26 (.agg #[a,b]) (.int .i64 1)).run Tryz.prog w=.ok b w:=by kernel_rfl
theorem wP (p0 p1 q0 q1 x y u:Int)(t:Bool)(ht:t=true↔min p0 q0<=x/\x<=max p0 q0/\min p1 q1<=y/\y<=max p1 q1/\u=0)
 (T1:∀w,Calls Tryz.prog 136 #[.agg #[.int .i64 p0,.int .i64 p1,.int .i64 q0,.int .i64 q1],.agg #[.int .i64 x,.int .i64 y]] w fun e w'=>e=.returned (.int .i64 u)/\Below w.heap.size w w') (w:World) :
 Calls Tryz.prog 88 #[.agg #[.int .i64 p0,.int .i64 p1,.int .i64 q0,.int .i64 q1],.agg #[.int .i64 x,.int .i64 y]] w fun e w'=>e=.returned (.bool t)/\Below w.heap.size w w':=by
 replace T1:Hid _:=T1;have ix0:=rL (.int .i64 x) (.int .i64 y);have ix1:=rM (.int .i64 x) (.int .i64 y);have HT:Hid (t=true↔min p0 q0<=x/\x<=max p0 q0/\min p1 q1<=y/\y<=max p1 q1/\u=0):=ab ht;clear ht;have B2:=ab (ae (ag w (.cells #[.int .i64 p0,.int .i64 p1,.int .i64 q0,.int .i64 q1] 136)) (ag _ (.cells #[.int .i64 x,.int .i64 y] 26)))
 go_enter Tryz.func88,Tryz.ntmps88
 go_wp2_with fail;have rc:((w.alloc (.cells #[.int .i64 p0,.int .i64 p1,.int .i64 q0,.int .i64 q1] 136)).alloc (.cells #[.int .i64 x,.int .i64 y] 26)).cell? ⟨w.heap.size,0,none⟩=some (.int .i64 p0) /\
  ((w.alloc (.cells #[.int .i64 p0,.int .i64 p1,.int .i64 q0,.int .i64 q1] 136)).alloc (.cells #[.int .i64 x,.int .i64 y] 26)).cell? ⟨w.heap.size,1,none⟩=some (.int .i64 p1) /\
  ((w.alloc (.cells #[.int .i64 p0,.int .i64 p1,.int .i64 q0,.int .i64 q1] 136)).alloc (.cells #[.int .i64 x,.int .i64 y] 26)).cell? ⟨w.heap.size,2,none⟩=some (.int .i64 q0) /\
  ((w.alloc (.cells #[.int .i64 p0,.int .i64 p1,.int .i64 q0,.int .i64 q1] 136)).alloc (.cells #[.int .i64 x,.int .i64 y] 26)).cell? ⟨w.heap.size,3,none⟩=some (.int .i64 q1) /\
  ((w.alloc (.cells #[.int .i64 p0,.int .i64 p1,.int .i64 q0,.int .i64 q1] 136)).alloc (.cells #[.int .i64 x,.int .i64 y] 26)).cell? ⟨w.heap.size+1,0,none⟩=some (.int .i64 x) /\
  ((w.alloc (.cells #[.int .i64 p0,.int .i64 p1,.int .i64 q0,.int .i64 q1] 136)).alloc (.cells #[.int .i64 x,.int .i64 y] 26)).cell? ⟨w.heap.size+1,1,none⟩=some (.int .i64 y):=⟨by go_simp,by go_simp,by go_simp,by go_simp,by go_simp,by go_simp⟩
 generalize (w.alloc (.cells #[.int .i64 p0,.int .i64 p1,.int .i64 q0,.int .i64 q1] 136)).alloc (.cells #[.int .i64 x,.int .i64 y] 26)=W at *;obtain⟨a0,a1,a2,a3,c0,c1⟩:=rc;go_loopw [8] (fun v8 wr=>∃k:Nat,k<=2/\v8=.int .i64 (k:Int)/\Hid (1<=k->min p0 q0<=x/\x<=max p0 q0)/\Hid (2<=k->min p1 q1<=y/\y<=max p1 q1)/\Below W.heap.size W wr) (fun v8 _=>2-(intOf v8).toNat)
 case atStart=>exact⟨0,by omega,rfl,ab (by omega),ab (by omega),Below.refl _ _⟩
 case round =>
  obtain⟨k,hk,rfl,HA,HC,hB⟩:=hrel;replace a0:=aa hB a0;replace a1:=aa hB a1;replace a2:=aa hB a2;replace a3:=aa hB a3;replace c0:=aa hB c0;replace c1:=aa hB c1;obtain rfl | rfl | rfl:k=0∨k=1∨k=2:=by omega
  · have hw:x<min p0 q0∨(decide (x<min p0 q0)=false/\max p0 q0<x)∨(decide (x<min p0 q0)=false/\decide (max p0 q0<x)=false):=by
     simp only[decide_eq_false_iff_not];omega
    rcases hw with h1 | ⟨h1,h2⟩ | ⟨h1,h2⟩
    · have e:t=false:=by
       cases ee:t with
       | false=>rfl
       | true=>have:=HT.out.1 ee;omega
      subst e;clear HT HA HC;go_wp2_with fail
      go_quiet (fail)
      go_wp2_with fail;go_ret;exact⟨rfl,ae B2.out (aB hB _)⟩
    · have e:t=false:=by
       cases ee:t with
       | false=>rfl
       | true=>have:=HT.out.1 ee;omega
      subst e;clear HT HA HC;go_wp2_with fail
      go_quiet (fail)
      go_wp2_with fail;go_ret;exact⟨rfl,ae B2.out (aB hB _)⟩
    · have HA2:Hid (1<=0+1->min p0 q0<=x/\x<=max p0 q0):=ab (by simp only[decide_eq_false_iff_not]at h1 h2;omega);clear HT HA HC;go_wp2_with fail
      go_quiet (fail)
      go_wp2_with fail;go_roundw
      case rel=>exact⟨1,by omega,by go_num,HA2,ab (by omega),aB hB _⟩
      case measure=>simp[intOf]
  · have hw:y<min p1 q1∨(decide (y<min p1 q1)=false/\max p1 q1<y)∨(decide (y<min p1 q1)=false/\decide (max p1 q1<y)=false):=by
     simp only[decide_eq_false_iff_not];omega
    rcases hw with h1 | ⟨h1,h2⟩ | ⟨h1,h2⟩
    · have e:t=false:=by
       cases ee:t with
       | false=>rfl
       | true=>have:=HT.out.1 ee;omega
      subst e;clear HT HA HC;go_wp2_with fail
      go_quiet (fail)
      go_wp2_with fail;go_ret;exact⟨rfl,ae B2.out (aB hB _)⟩
    · have e:t=false:=by
       cases ee:t with
       | false=>rfl
       | true=>have:=HT.out.1 ee;omega
      subst e;clear HT HA HC;go_wp2_with fail
      go_quiet (fail)
      go_wp2_with fail;go_ret;exact⟨rfl,ae B2.out (aB hB _)⟩
    · have HC2:Hid (2<=1+1->min p1 q1<=y/\y<=max p1 q1):=ab (by simp only[decide_eq_false_iff_not]at h1 h2;omega);have HA2:Hid (1<=2->min p0 q0<=x/\x<=max p0 q0):=ab fun _=>HA.out (by omega);clear HT HA HC;go_wp2_with fail
      go_quiet (fail)
      go_wp2_with fail;go_roundw
      case rel=>exact⟨2,by omega,by go_num,HA2,HC2,aB hB _⟩
      case measure=>simp[intOf]
  · have e:(u == 0)=t:=by
     have h1:=HA.out (by omega);have h2:=HC.out (by omega);have h3:=HT.out;cases t
     · simp only[Bool.false_eq_true,false_iff]at h3;simp;omega
     · simp only[true_iff]at h3;simp;omega
    clear HT HA HC;go_wp2_with fail;refine(T1.out _).mono ?_;rintro e w1 ⟨rfl,b1⟩;go_wp2_with fail;go_ret;exact⟨rfl,ae B2.out (ae hB b1)⟩
theorem FJ {p q:Int×Int}{x y:Int}(hp:aW p)(hq:aW q)(hf:¬ct x y)(w:World) :
 Calls Tryz.prog 88 #[.agg #[.int .i64 p.1,.int .i64 p.2,.int .i64 q.1,.int .i64 q.2],.agg #[.int .i64 x,.int .i64 y]] w fun e w'=>e=.returned (.bool (onB p q x y))/\Below w.heap.size w w' :=
 wP p.1 p.2 q.1 q.2 x y (crs p q x y) (onB p q x y) (by rw[ji];exact⟨fun⟨a,b,c,d,e⟩=>⟨b,c,d,e,a⟩,fun⟨b,c,d,e,a⟩=>⟨a,b,c,d,e⟩⟩) (fun w=>rI hp hq hf w) w
theorem Ij (s:Value)(G:List (List (Int×Int)))(t:Bool)(ht:t=true↔(20<G.length∨500<aH G))(hn:G.length<=1000000)(hl:∀L∈G,L.length<=140737488355328)(w:World)(hG:RingsL w s G) :
 Calls Tryz.prog 52 #[s] w fun e w'=>e=.returned (.bool t)/\Below w.heap.size w w':=by
 obtain⟨p,cap,hs,-,hc⟩:=hG;obtain⟨m,em⟩:∃m,G.length=m:=⟨_,rfl⟩
 have EM:=ab em;rw[em]at hs hn ht;subst hs;have HC:=ab hc;have HL:=ab hl;have HT:=ab ht;clear em hc hl ht;by_cases hm:20<m
 · obtain rfl:t=true:=HT.out.2 (.inl hm);have hm':(20:Int)<(m:Int):=by omega
   clear HT
   go_enter Tryz.func52,Tryz.ntmps52
   go_wp2_with fail;go_ret;exact⟨rfl,Below.refl _ _⟩
 · have hm':decide ((20:Int)<(m:Int))=false:=by simp;omega
   go_enter Tryz.func52,Tryz.ntmps52
   go_wp2_with fail;go_loopw [3,11] (fun v3 v11 wr=>∃i c:Nat,i<=m/\c<=140737488355328*i/\v11=.int .i64 (i:Int)/\v3=.int .i64 (c:Int)/\Hid (c=aH (G.take i))/\Below w.heap.size w wr) (fun _ v11 _=>m-(intOf v11).toNat)
   case atStart=>exact⟨0,0,by omega,by omega,rfl,rfl,ab rfl,Below.refl _ _⟩
   case round =>
    obtain⟨i,c,hi,hc1,rfl,rfl,hS,hB⟩:=hrel;by_cases him:i<m
    · have him':(i:Int)<(m:Int):=by omega
      have hiG:i<G.length:=by rw[EM.out];exact him
      obtain⟨g,o,s,rfl,x1,hR⟩:=HC.out i hiG;replace x1:=aa hB x1;obtain⟨p',c',rfl,-,-⟩:=hR;have hll:=HL.out _ (List.getElem_mem hiG);have NX:=ab (qN hiG);obtain⟨l,el⟩:∃l,G[i].length=l:=⟨_,rfl⟩
      rw[el]at x1 NX hll;have hS2:Hid (c+l=aH (G.take (i+1))):=ab (by rw[NX.out,←hS.out]);clear el hS NX;go_wp2_with fail;go_roundw
      case rel=>exact⟨i+1,c+l,by omega,by omega,by go_num,by go_num,hS2,hB⟩
      case measure=>simp[intOf];omega
    · obtain rfl:i=m:=by omega
      have him':decide ((i:Int)<(i:Int))=false:=by simp
      have e:c=aH G:=by rw[hS.out,List.take_of_length_le (by rw[EM.out];omega)]
      clear hS him;by_cases h5:(500:Int)<(c:Int)
      · obtain rfl:t=true:=HT.out.2 (by omega);clear HT e;go_wp2_with fail;go_ret;exact⟨rfl,hB⟩
      · have h6:decide ((500:Int)<(c:Int))=false:=by simp only[decide_eq_false_iff_not];exact h5
        have e2:t=false:=by
         cases ee:t with
         | false=>rfl
         | true=>have:=HT.out.1 ee;omega
        subst e2;clear HT e h5;go_wp2_with fail;go_ret;exact⟨rfl,hB⟩
theorem Js (s:Value)(G:List (List (Int×Int)))(t:Bool)(ht:t=true↔(G=[]∨∃L∈G,L.length<3))(hn:G.length<=1000000)(hl:∀L∈G,L.length<=140737488355328)(w:World)(hG:RingsL w s G) :
 Calls Tryz.prog 53 #[s] w fun e w'=>e=.returned (.bool t)/\Below w.heap.size w w':=by
 obtain⟨p,cap,hs,-,hc⟩:=hG;obtain⟨m,em⟩:∃m,G.length=m:=⟨_,rfl⟩
 have EM:=ab em;rw[em]at hs hn;subst hs;have HC:=ab hc;have HL:=ab hl;have HT:=ab ht;clear em hc hl ht
 go_enter Tryz.func53,Tryz.ntmps53
 go_wp2_with fail;go_loopw [7] (fun v7 wr=>∃i:Nat,i<=m/\v7=.int .i64 (i:Int)/\Hid (∀L∈G.take i,3<=L.length)/\Below w.heap.size w wr) (fun v7 _=>m-(intOf v7).toNat)
 case atStart=>exact⟨0,by omega,rfl,ab (by simp),Below.refl _ _⟩
 case round =>
  obtain⟨i,hi,rfl,hS,hB⟩:=hrel;by_cases him:i<m
  · have him':(i:Int)<(m:Int):=by omega
    have hiG:i<G.length:=by rw[EM.out];exact him
    obtain⟨g,o,s,rfl,x1,hR⟩:=HC.out i hiG;replace x1:=aa hB x1;obtain⟨p',c',rfl,-,-⟩:=hR;have hmem:=List.getElem_mem hiG;have hll:=HL.out _ hmem;have FEW:Hid (G[i].length<3->t=true):=ab fun h=>HT.out.2 (.inr ⟨_,hmem,h⟩);have NX:Hid (3<=G[i].length->∀L∈G.take (i+1),3<=L.length):=ab fun h L hL=>by
     rw[List.take_succ_eq_append_getElem hiG]at hL;rcases List.mem_append.1 hL with h1 | h1
     · exact hS.out L h1
     · rw[List.mem_singleton.1 h1];exact h
    obtain⟨l,el⟩:∃l,G[i].length=l:=⟨_,rfl⟩
    rw[el]at x1 NX FEW hll;clear el hS hmem;by_cases h3:l<3
    · obtain rfl:t=true:=FEW.out h3;have h3':(l:Int)<3:=by omega
      clear FEW NX HT;go_wp2_with fail;go_ret;exact⟨rfl,hB⟩
    · have hS2:=ab (NX.out (by omega));have h3':decide ((l:Int)<3)=false:=by simp;omega
      clear FEW NX HT;go_wp2_with fail;go_roundw
      case rel=>exact⟨i+1,by omega,by go_num,hS2,hB⟩
      case measure=>simp[intOf];omega
  · obtain rfl:i=m:=by omega
    have him':decide ((i:Int)<(i:Int))=false:=by simp
    have e:((i:Int) == 0)=t:=by
     have h1:∀L∈G,3<=L.length:=by
      have:=hS.out
      rwa [List.take_of_length_le (by rw[EM.out];omega)]at this
     have h2:G=[]↔i=0:=by rw[←List.length_eq_zero_iff,EM.out]
     have h3:=HT.out;cases t
     · simp only[Bool.false_eq_true,false_iff]at h3;have:¬i=0:=fun h=>h3 (.inl (h2.2 h));simp;omega
     · simp only[true_iff]at h3;rcases h3 with h3 | ⟨L,hL,h3⟩
       · have:=h2.1 h3;simp;omega
       · have:=h1 L hL;omega
    clear hS HT him;go_wp2_with fail;go_ret;exact⟨rfl,hB⟩
theorem FK (s:Value)(G:List (List (Int×Int)))(t:Bool)(ht:t=true↔∃L∈G,∃p∈L,¬aW p)(hn:G.length<=1000000)(hl:∀L∈G,L.length<=140737488355328)(w:World)(hG:RingsL w s G) :
 Calls Tryz.prog 54 #[s] w fun e w'=>e=.returned (.bool t)/\Below w.heap.size w w':=by
 obtain⟨p,cap,hs,-,hc⟩:=hG;obtain⟨m,em⟩:∃m,G.length=m:=⟨_,rfl⟩
 have EM:=ab em;rw[em]at hs hn;subst hs;have HC:=ab hc;have HL:=ab hl;have HT:=ab ht;clear em hc hl ht
 go_enter Tryz.func54,Tryz.ntmps54
 go_wp2_with fail;go_loopw [9] (fun v9 wr=>∃i:Nat,i<=m/\v9=.int .i64 (i:Int)/\Hid (∀L∈G.take i,∀p∈L,aW p)/\Hid (Below w.heap.size w wr)) (fun v9 _=>m-(intOf v9).toNat)
 case atStart=>exact⟨0,by omega,rfl,ab (by simp),ab (Below.refl _ _)⟩
 case round =>
  obtain⟨i,hi,rfl,hS,hB⟩:=hrel;by_cases him:i<m
  · have him':(i:Int)<(m:Int):=by omega
    have hiG:i<G.length:=by rw[EM.out];exact him
    obtain⟨g,o,s,rfl,x1,hR⟩:=HC.out i hiG;replace x1:=aa hB.out x1;replace hR:=hR.keep hB.out;obtain⟨pR,cR,rfl,-,hcR⟩:=hR;have HCR:=ab hcR;have hmem:=List.getElem_mem hiG;have hll:=HL.out _ hmem;have BAD:Hid (∀p∈G[i],¬aW p->t=true):=ab fun p hp h=>HT.out.2 ⟨_,hmem,p,hp,h⟩;have NX:Hid ((∀p∈G[i],aW p)->∀L∈G.take (i+1),∀p∈L,aW p):=ab fun h L hL=>by
     rw[List.take_succ_eq_append_getElem hiG]at hL;rcases List.mem_append.1 hL with h1 | h1
     · exact hS.out L h1
     · rw[List.mem_singleton.1 h1];exact h
    obtain⟨R,eR⟩:∃R,G[i]=R:=⟨_,rfl⟩
    rw[eR]at x1 HCR hll BAD NX;obtain⟨l,el⟩:∃l,R.length=l:=⟨_,rfl⟩
    have EL:=ab el;rw[el]at x1 hll;clear hcR hmem eR el hS;go_wp2_with fail;clear x1;obtain⟨wi,rfl⟩:∃z,z=wr:=⟨_,rfl⟩
    go_loopw [15] (fun v15 wr=>∃k:Nat,k<=l/\v15=.int .i64 (k:Int)/\Hid (∀p∈R.take k,aW p)/\Hid (Below wi.heap.size wi wr)) (fun v15 _=>l-(intOf v15).toNat)
    case atStart=>exact⟨0,by omega,rfl,ab (by simp),ab (Below.refl _ _)⟩
    case round =>
     obtain⟨k,hk,rfl,hP,hX⟩:=hrel;by_cases hkl:k<l
     · have hkl':(k:Int)<(l:Int):=by omega
       have hkR:k<R.length:=by rw[EL.out];exact hkl
       obtain⟨g',o',rfl,x0,x1⟩:=HCR.out k hkR;replace x0:=aa hX.out x0;replace x1:=aa hX.out x1;have hmk:=List.getElem_mem hkR;have hB3:=ab (ae hX.out (ag wr (.cells #[.int .i64 R[k].1,.int .i64 R[k].2] 26)));by_cases hin:aW R[k]
       · have WI:=ab fun w=>jF R[k].1 R[k].2 0 1073741823 true (by unfold aW at hin;simp only[true_iff];omega) w;have hP2:Hid (∀p∈R.take (k+1),aW p):=ab fun p hp=>by
          rw[List.take_succ_eq_append_getElem hkR]at hp;rcases List.mem_append.1 hp with h1 | h1
          · exact hP.out p h1
          · rw[List.mem_singleton.1 h1];exact hin
         clear hP hin hmk;generalize R[k].1=p0 at *;generalize R[k].2=p1 at *;go_wp2_with fail;refine(WI.out _).mono ?_;rintro e w3 ⟨rfl,b3⟩;have hB4:=ab (ae hB3.out b3);clear WI;go_wp2_with fail;go_roundw
         case rel=>exact⟨k+1,by omega,by go_num,hP2,hB4⟩
         case measure=>simp[intOf];omega
       · have WI:=ab fun w=>jF R[k].1 R[k].2 0 1073741823 false (by unfold aW at hin;simp only[Bool.false_eq_true,false_iff];omega) w;obtain rfl:t=true:=BAD.out _ hmk hin;clear hP hin hmk BAD NX HT;generalize R[k].1=p0 at *;generalize R[k].2=p1 at *;go_wp2_with fail;refine(WI.out _).mono ?_;rintro e w3 ⟨rfl,b3⟩;have hB4:=ab (ae hB3.out b3);clear WI;go_wp2_with fail;go_ret;exact⟨rfl,ae hB.out hB4.out⟩
     · obtain rfl:k=l:=by omega
       have hkl':decide ((k:Int)<(k:Int))=false:=by simp
       have hS2:=ab (NX.out (by have:=hP.out;rwa [List.take_of_length_le (by rw[EL.out];omega)]at this));have hB2:=ab (ae hB.out hX.out);clear hP hX hkl hB NX BAD;go_wp2_with fail;go_roundw
       case rel=>exact⟨i+1,by omega,by go_num,hS2,hB2⟩
       case measure=>simp[intOf];omega
  · obtain rfl:i=m:=by omega
    have him':decide ((i:Int)<(i:Int))=false:=by simp
    have e:t=false:=by
     cases ht:t with
     | false=>rfl
     | true =>
      obtain⟨L,hL,p,hp,hn⟩:=HT.out.1 ht;exact absurd (hS.out L (by rw[List.take_of_length_le (by rw[EM.out];omega)];exact hL) p hp) hn
    subst e;clear hS him HT;go_wp2_with fail;go_ret;exact⟨rfl,hB.out⟩
theorem rH (s:Value)(G:List (List (Int×Int)))(hn:G.length<=1000000)(hl:∀L∈G,L.length<=140737488355328)(w:World)(hG:RingsL w s G) :
 Calls Tryz.prog 27 #[s] w fun e w'=>(∃t,e=.returned (.int .i64 t)/\ChkG G t)/\Below w.heap.size w w':=by
 have HG:=ab hG;have PM:=ab fun t ht w h=>Ij s G t ht hn hl w h;have PF:=ab fun t ht w h=>Js s G t ht hn hl w h;have PL:=ab fun t ht w h=>FK s G t ht hn hl w h;clear hG;by_cases h1:20<G.length∨500<aH G
 · have PM1:=ab (PM.out true (by simp only[true_iff];exact h1) w HG.out);have H1:=ab h1;clear PM PF PL h1
   go_enter Tryz.func27,Tryz.ntmps27
   go_wp2_with fail;refine PM1.out.mono ?_;rintro e w1 ⟨rfl,b1⟩;go_wp2_with fail;go_ret;exact⟨⟨7,rfl,.inl ⟨H1.out,rfl⟩⟩,b1⟩
 · have PM1:=ab (PM.out false (by simp only[Bool.false_eq_true,false_iff];exact h1) w HG.out);by_cases h2:G=[]∨∃L∈G,L.length<3
   · have PF1:=ab fun w h=>PF.out true (by simp only[true_iff];exact h2) w h;have H1:=ab h1;have H2:=ab h2;clear PM PF PL h1 h2
     go_enter Tryz.func27,Tryz.ntmps27
     go_wp2_with fail;refine PM1.out.mono ?_;rintro e w1 ⟨rfl,b1⟩;go_wp2_with fail;refine(PF1.out _ (HG.out.keep b1)).mono ?_;rintro e w2 ⟨rfl,b2⟩;go_wp2_with fail;go_ret;exact⟨⟨1,rfl,.inr (.inl ⟨H1.out,H2.out,rfl⟩)⟩,ae b1 b2⟩
   · have PF1:=ab fun w h=>PF.out false (by simp only[Bool.false_eq_true,false_iff];exact h2) w h;have h3:G≠[]/\∀L∈G,3<=L.length:=⟨fun e=>h2 (.inl e),fun L hL=>by
      by_cases h:L.length<3
      · exact absurd (.inr ⟨L,hL,h⟩) h2
      · omega⟩
     by_cases h4:∃L∈G,∃p∈L,¬aW p
     · have PL1:=ab fun w h=>PL.out true (by simp only[true_iff];exact h4) w h;have HT:Hid (ChkG G 4):=ab (.inr (.inr (.inl ⟨h1,h3.1,h3.2,h4,rfl⟩)));clear PM PF PL h1 h2 h3 h4
       go_enter Tryz.func27,Tryz.ntmps27
       go_wp2_with fail;refine PM1.out.mono ?_;rintro e w1 ⟨rfl,b1⟩;go_wp2_with fail;refine(PF1.out _ (HG.out.keep b1)).mono ?_;rintro e w2 ⟨rfl,b2⟩;go_wp2_with fail;refine(PL1.out _ (HG.out.keep (ae b1 b2))).mono ?_;rintro e w3 ⟨rfl,b3⟩;go_wp2_with fail;go_ret;exact⟨⟨4,rfl,HT.out⟩,ae (ae b1 b2) b3⟩
     · have PL1:=ab fun w h=>PL.out false (by simp only[Bool.false_eq_true,false_iff];exact h4) w h;have HT:Hid (ChkG G 0):=ab (.inr (.inr (.inr ⟨h1,h3.1,h3.2,fun L hL p hp=>by
        by_cases h:aW p
        · exact h
        · exact absurd ⟨L,hL,p,hp,h⟩ h4,rfl⟩)))
       clear PM PF PL h1 h2 h3 h4
       go_enter Tryz.func27,Tryz.ntmps27
       go_wp2_with fail;refine PM1.out.mono ?_;rintro e w1 ⟨rfl,b1⟩;go_wp2_with fail;refine(PF1.out _ (HG.out.keep b1)).mono ?_;rintro e w2 ⟨rfl,b2⟩;go_wp2_with fail;refine(PL1.out _ (HG.out.keep (ae b1 b2))).mono ?_;rintro e w3 ⟨rfl,b3⟩;go_wp2_with fail;go_ret;exact⟨⟨0,rfl,HT.out⟩,ae (ae b1 b2) b3⟩
theorem lj (s:Value)(G:List (List (Int×Int)))(hn:G.length<=1000000)(hl:∀L∈G,L.length<=1000000)(w:World)(hG:RingsL w s G) :
 Calls Tryz.prog 27 #[s] w fun e w'=>(∃t,e=.returned (.int .i64 t)/\ChkG G t)/\Below w.heap.size w w' :=
 rH s G hn (fun L hL=>Nat.le_trans (hl L hL) (by omega)) w hG
theorem Jt (s:Value)(G:List (List (Int×Int)))(x y:Int)(t:Bool)(ht:t=true↔(bv G/\¬ct x y))(hn:G.length<=1000000)(hl:∀L∈G,L.length<=1000000)(w:World)(hG:RingsL w s G) :
 Calls Tryz.prog 86 #[s,.agg #[.int .i64 x,.int .i64 y]] w fun e w'=>e=.returned (.bool t)/\Below w.heap.size w w':=by
 have B1:=ab (ag w (.cells #[.int .i64 x,.int .i64 y] 26));have HG:=ab hG;have PC:=ab fun w h=>lj s G hn hl w h;clear hG;by_cases hf:ct x y
 · have WI:=ab fun w=>jF x y (-2147483648) 2147483648 false (by unfold ct at hf;simp only[Bool.false_eq_true,false_iff];omega) w;have e:t=false:=by
    cases ee:t with
    | false=>rfl
    | true=>exact absurd hf (ht.1 ee).2
   subst e;clear ht hf PC
   go_enter Tryz.func86,Tryz.ntmps86
   go_wp2_with fail;refine(WI.out _).mono ?_;rintro e w1 ⟨rfl,b1⟩;go_wp2_with fail;go_ret;exact⟨rfl,ae B1.out b1⟩
 · have WI:=ab fun w=>jF x y (-2147483648) 2147483648 true (by unfold ct at hf;simp only[true_iff];omega) w;have HT:Hid (t=true↔bv G):=ab (ht.trans ⟨fun h=>h.1,fun h=>⟨h,hf⟩⟩);clear ht hf
   go_enter Tryz.func86,Tryz.ntmps86
   go_wp2_with fail;refine(WI.out _).mono ?_;rintro e w1 ⟨rfl,b1⟩;have B2:=ab (ae B1.out b1);go_wp2_with fail;refine(PC.out _ (HG.out.keep B2.out)).mono ?_;rintro e w2 ⟨⟨n,rfl,hc⟩,b2⟩;have en:(n == 0)=t:=by
    have h1:=bV hc;have h2:=HT.out;cases t
    · simp only[Bool.false_eq_true,false_iff]at h2;simp only[beq_eq_false_iff_ne,ne_eq];exact fun h=>h2 (h1.1 h)
    · simp only[true_iff]at h2;simp only[beq_iff_eq];exact h1.2 h2
   clear HT hc;go_wp2_with fail;go_ret;exact⟨rfl,ae B2.out b2⟩
end Go.Proofs.YtbnlhdnnenahfaaGreatDoor
