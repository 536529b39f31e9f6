/-
  What the texts QEdge, QOut, QHexM, QHex say, so far as this seat's proofs need it.
-/
import Derived.Test.YtbnlhdnnenahfaaGreatDoorQ4Y
set_option maxHeartbeats 8000000
set_option maxRecDepth 100000
namespace Go.Proofs.YtbnlhdnnenahfaaGreatDoor
open Go.RowKit
abbrev Ed:=(Int×Int)×(Int×Int)
def edL (e:Ed):List Value:=[.int .i64 e.1.1,.int .i64 e.1.2,.int .i64 e.2.1,.int .i64 e.2.2]
def edV (L:List Ed):List Value:=L.flatMap edL
theorem qV (e:Ed)(L:List Ed):edV (e :: L)=.int .i64 e.1.1 :: .int .i64 e.1.2 :: .int .i64 e.2.1 :: .int .i64 e.2.2 :: edV L:=rfl
theorem EW (L M:List Ed):edV (L++M)=edV L++edV M:=by unfold edV;rw[List.flatMap_append]
theorem EZ (e:Ed):edV [e]=[.int .i64 e.1.1,.int .i64 e.1.2,.int .i64 e.2.1,.int .i64 e.2.2]:=by unfold edV;simp[edL]
theorem yR:∀(L:List Ed) (i:Nat) (h:i<L.length),(edV L)[i*4]?=some (.int .i64 L[i].1.1)/\(edV L)[i*4+1]?=some (.int .i64 L[i].1.2)/\(edV L)[i*4+2]?=some (.int .i64 L[i].2.1)/\(edV L)[i*4+3]?=some (.int .i64 L[i].2.2)
 | p :: L,0,_=>by rw[qV];exact⟨rfl,rfl,rfl,rfl⟩
 | p :: L,i+1,h=>by
  rw[qV,show(i+1)*4=i*4+1+1+1+1 by omega];have:=yR L i (by simpa using h);simp only[List.getElem?_cons_succ,List.getElem_cons_succ];exact this
def RowD (base:Nat)(v:Value)(L:List Ed)(w:World):Prop:=w.ownsRow base 228 4 v L.length (edV L)
theorem RowD.keep {base:Nat}{v:Value}{L:List Ed}{w w':World}(h:RowD base v L w)(hb:Below w.heap.size w w'):RowD base v L w':=ai hb h
theorem RowD.any {base:Nat}{v:Value}{L:List Ed}{w:World}(h:RowD base v L w):∃p c,v=.slice p L.length c:=jj h
theorem RowD.at_ {base:Nat}{v:Value}{L:List Ed}{w:World}(h:RowD base v L w)(i:Nat)(hi:i<L.length) :
 ∃g c,v=.slice (some ⟨g,0,none⟩) L.length c/\w.cell? ⟨g,i*4,none⟩=some (.int .i64 L[i].1.1)/\w.cell? ⟨g,i*4+1,none⟩=some (.int .i64 L[i].1.2)/\w.cell? ⟨g,i*4+2,none⟩=some (.int .i64 L[i].2.1)/\w.cell? ⟨g,i*4+3,none⟩=some (.int .i64 L[i].2.2):=by
 obtain⟨g,c,e,hb,-⟩:=World.ownsRow.form h (by omega);have hO:w.ownsRow base 228 4 (.slice (some ⟨g,0,none⟩) L.length c) L.length (edV L):=by rw[←e];exact h
 have f:=yR L i hi;have c:=fun j hj=>World.ownsRow.cellAt hO j hj;exact⟨g,_,e,(c _ (by omega)).trans f.1,(c _ (by omega)).trans f.2.1,(c _ (by omega)).trans f.2.2.1,(c _ (by omega)).trans f.2.2.2⟩
def EdB (e:Ed):Prop:=((-34359738368<=e.1.1/\e.1.1<=34359738368)/\(-34359738368<=e.1.2/\e.1.2<=34359738368))/\((-16777216<=e.2.1/\e.2.1<=16777216)/\(-16777216<=e.2.2/\e.2.2<=16777216))
def kpB (e f:Ed):Bool:=decide (e.2.2*(f.1.1-e.1.1)<=e.2.1*(f.1.2-e.1.2))
theorem rY (a b c d x y p q m n:Int)(t:Bool)(ha: -34359738368<=a/\a<=34359738368)(hb: -34359738368<=b/\b<=34359738368)(hx: -34359738368<=x/\x<=34359738368)(hy: -34359738368<=y/\y<=34359738368)
 (hm:c*(y-b)=m) (hn:d*(x-a)=n) (m1: -1152921504606846976<=m/\m<=1152921504606846976) (n1: -1152921504606846976<=n/\n<=1152921504606846976) (ht:decide (n<=m)=t) (w:World) :
 Calls Tryz.prog 182 #[.agg #[.int .i64 a,.int .i64 b,.int .i64 c,.int .i64 d],.agg #[.int .i64 x,.int .i64 y,.int .i64 p,.int .i64 q]] w fun e w'=>e=.returned (.bool t)/\Below w.heap.size w w':=by
 subst ht
 go_enter Tryz.func182,Tryz.ntmps182
 go_wp2;go_ret;exact⟨rfl,by go_grown⟩
theorem Gb (e f:Ed)(he:EdB e)(hf:EdB f)(w:World) :
 Calls Tryz.prog 182 #[.agg #[.int .i64 e.1.1,.int .i64 e.1.2,.int .i64 e.2.1,.int .i64 e.2.2],.agg #[.int .i64 f.1.1,.int .i64 f.1.2,.int .i64 f.2.1,.int .i64 f.2.2]] w fun r w'=>r=.returned (.bool (kpB e f))/\Below w.heap.size w w':=by
 obtain⟨⟨h1,h2⟩,h3,h4⟩:=he;obtain⟨⟨k1,k2⟩,-⟩:=hf;have m1:=aV (a:=e.2.1) (b:=f.1.2-e.1.2) (A:=16777216) (B:=68719476736) h3 (by omega);have m2:=aV (a:=e.2.2) (b:=f.1.1-e.1.1) (A:=16777216) (B:=68719476736) h4 (by omega);exact rY _ _ _ _ _ _ _ _ _ _ _ h1 h2 k1 k2 rfl rfl (by omega) (by omega) rfl w
def jx (e:Ed)(L:List Ed):Bool:=L.any (kpB e)
def eo (M L:List Ed):Bool:=M.any fun e=> !jx e L
theorem qD {α:Type}{f:α->Bool}{L:List α}{j:Nat}(hj:j<L.length)(h:(L.take j).any f=false):(f L[j]=true->L.any f=true)/\(f L[j]=false->(L.take (j+1)).any f=false):=by
 constructor
 · intro k;exact List.any_eq_true.2 ⟨_,List.getElem_mem hj,k⟩
 · intro k;rw[List.take_add_one,List.getElem?_eq_getElem hj,List.any_append,h]
   simpa using k
theorem t7 {α:Type}{f:α->Bool}{L:List α}{j:Nat}(hj:j=L.length)(h:(L.take j).any f=false):L.any f=false:=by rwa [hj,List.take_length]at h
theorem Ga (e:Ed)(he:EdB e)(base:Nat)(v:Value)(L:List Ed)(hL:∀f∈L,EdB f)(hn:L.length<=1000)(w:World)(hO:RowD base v L w) :
 Calls Tryz.prog 209 #[v,.func (.func 182) #[.agg #[.int .i64 e.1.1,.int .i64 e.1.2,.int .i64 e.2.1,.int .i64 e.2.2]] #[]] w fun r w'=>(∃n:Int,r=.returned (.int .i64 n)/\decide (0<=n)=jx e L)/\Below w.heap.size w w':=by
 have KE:=ab fun f (hf:f∈L) w=>Gb e f he (hL f hf) w;have HO:=ab hO;obtain⟨n,en⟩:∃n,L.length=n:=⟨_,rfl⟩
 obtain⟨p,c,rfl⟩:=hO.any;rw[en]at hn HO ⊢;have EN:=ab en;clear hO hL en he
 go_enter Tryz.func209,Tryz.ntmps209
 go_wp2;go_loopw [8] (fun v8 wr=>∃j:Nat,j<=n/\v8=.int .i64 (j:Int)/\Hid ((L.take j).any (kpB e)=false)/\Hid (Below w.heap.size w wr)) (fun v8 _=>n-(intOf v8).toNat)
 case atStart=>exact⟨0,by omega,rfl,ab (by simp),ab (Below.refl _ _)⟩
 case round =>
  obtain⟨j,hj,rfl,TK,B⟩:=hrel;by_cases hjn:j<n
  · have hj':(j:Int)<(n:Int):=by omega
    have hjL:j<L.length:=by rw[EN.out];exact hjn
    have O:=RowD.keep HO.out B.out;rw[←EN.out]at O;obtain⟨g,c',e0,y0,y1,y2,y3⟩:=O.at_ j hjL;simp only[Value.slice.injEq]at e0;obtain⟨rfl,-,rfl⟩:=e0;have K1:=ab fun w=>KE.out L[j] (List.getElem_mem hjL) w;have ST:=ab (qD (f:=kpB e) hjL TK.out);clear O KE;generalize kpB e L[j]=t at *;generalize L[j].1.1=f1 at *;generalize L[j].1.2=f2 at *;generalize L[j].2.1=f3 at *;generalize L[j].2.2=f4 at *;cases t
    · go_wp2_with fail;refine(K1.out _).mono ?_;rintro r w1 ⟨rfl,b1⟩;have B1:=ab (ae B.out b1);clear y0 y1 y2 y3 K1 b1;go_wp2;go_roundw
      case rel=>exact⟨j+1,by omega,by go_num,ab (ST.out.2 (by simp)),B1⟩
      case measure=>simp[intOf];omega
    · go_wp2_with fail;refine(K1.out _).mono ?_;rintro r w1 ⟨rfl,b1⟩;have B1:=ab (ae B.out b1);clear y0 y1 y2 y3 K1 b1;go_wp2;go_ret;exact⟨⟨_,rfl,by unfold jx;rw[ST.out.1 (by simp)];simp⟩,B1.out⟩
  · obtain rfl:j=n:=by omega
    have hj':decide ((j:Int)<(j:Int))=false:=by simp
    go_wp2;go_ret;exact⟨⟨_,rfl,by unfold jx;rw[t7 EN.out.symm TK.out];rfl⟩,B.out⟩
theorem Ju (e:Ed)(he:EdB e)(base:Nat)(v:Value)(L:List Ed)(hL:∀f∈L,EdB f)(hn:L.length<=1000)(w:World)(hO:RowD base v L w) :
 Calls Tryz.prog 181 #[v,.func (.func 182) #[.agg #[.int .i64 e.1.1,.int .i64 e.1.2,.int .i64 e.2.1,.int .i64 e.2.2]] #[]] w fun r w'=>r=.returned (.bool (jx e L))/\Below w.heap.size w w':=by
 have QI:=ab (Ga e he base v L hL hn w hO);obtain⟨p,c,rfl⟩:=hO.any;clear hO hL
 go_enter Tryz.func181,Tryz.ntmps181
 go_wp2_with fail;refine QI.out.mono ?_;rintro r w1 ⟨⟨n,rfl,hd⟩,b1⟩;have HD:=ab hd;clear hd QI;go_wp2;go_ret;exact⟨by rw[←HD.out];rfl,b1⟩
theorem Eh (base base2:Nat)(v v2:Value)(M L:List Ed)(hM:∀f∈M,EdB f)(hL:∀f∈L,EdB f)(hm:M.length<=1000)(hn:L.length<=1000)(w:World)(hO:RowD base v M w)(hO2:RowD base2 v2 L w) :
 Calls Tryz.prog 142 #[v,v2] w fun r w'=>r=.returned (.bool (eo M L))/\Below w.heap.size w w':=by
 have HO:=ab hO;obtain⟨n,en⟩:∃n,M.length=n:=⟨_,rfl⟩
 obtain⟨p,c,rfl⟩:=hO.any;have HQ:=ab fun f (hf:f∈M) w (h:RowD base2 v2 L w)=>Ju f (hM f hf) base2 v2 L hL hn w h;have HO2:=ab hO2;obtain⟨p2,c2,rfl⟩:=hO2.any;rw[en]at hm HO ⊢;have EN:=ab en;clear hO hL en hM hO2
 go_enter Tryz.func142,Tryz.ntmps142
 go_wp2;go_loopw [9] (fun v9 wr=>∃j:Nat,j<=n/\v9=.int .i64 (j:Int)/\Hid ((M.take j).any (fun e=> !jx e L)=false)/\Hid (Below w.heap.size w wr)) (fun v9 _=>n-(intOf v9).toNat)
 case atStart=>exact⟨0,by omega,rfl,ab (by simp),ab (Below.refl _ _)⟩
 case round =>
  obtain⟨j,hj,rfl,TK,B⟩:=hrel;by_cases hjn:j<n
  · have hj':(j:Int)<(n:Int):=by omega
    have hjL:j<M.length:=by rw[EN.out];exact hjn
    have O:=RowD.keep HO.out B.out;rw[←EN.out]at O;obtain⟨g,c',e0,y0,y1,y2,y3⟩:=O.at_ j hjL;simp only[Value.slice.injEq]at e0;obtain⟨rfl,-,rfl⟩:=e0;have B1:=ab (ae B.out (ag wr (.cells #[.int .i64 M[j].1.1,.int .i64 M[j].1.2,.int .i64 M[j].2.1,.int .i64 M[j].2.2] 228)));have K1:=ab (HQ.out M[j] (List.getElem_mem hjL) _ (HO2.out.keep B1.out));have ST:=ab (qD (f:=fun e=> !jx e L) hjL TK.out);clear O HQ;generalize jx M[j] L=t at *;generalize M[j].1.1=f1 at *;generalize M[j].1.2=f2 at *;generalize M[j].2.1=f3 at *;generalize M[j].2.2=f4 at *;cases t
    · go_wp2_with fail;refine K1.out.mono ?_;rintro r w1 ⟨rfl,b1⟩;have B2:=ab (ae B1.out b1);clear y0 y1 y2 y3 K1 b1;go_wp2;go_ret;exact⟨by unfold eo;rw[ST.out.1 (by simp)];rfl,B2.out⟩
    · go_wp2_with fail;refine K1.out.mono ?_;rintro r w1 ⟨rfl,b1⟩;have B2:=ab (ae B1.out b1);clear y0 y1 y2 y3 K1 b1;go_wp2;go_roundw
      case rel=>exact⟨j+1,by omega,by go_num,ab (ST.out.2 (by simp)),B2⟩
      case measure=>simp[intOf];omega
  · obtain rfl:j=n:=by omega
    have hj':decide ((j:Int)<(j:Int))=false:=by simp
    go_wp2;go_ret;exact⟨by unfold eo;rw[t7 EN.out.symm TK.out];rfl,B.out⟩
theorem EI (K:Nat)(a b:Int):aw (ctA K a b) (ctB K a b)=sev K*aw a b:=by unfold sev aw ctA ctB;grind
theorem Ff:∀i:Fin 13,decide (0<=sev (12-i.val)/\4*(sev (12-i.val)*((585*dnN i.val+12480) / 64))<3*(440509001*440509001))=true:=by decide +kernel
theorem Du:∀i:Fin 13,∀j:Fin 6,decide ((-436207616<=45*poX i.val (sA j.val) (sB j.val)/\45*poX i.val (sA j.val) (sB j.val)<=436207616)/\(-754974720<=78*poY i.val (sA j.val) (sB j.val)/\78*poY i.val (sA j.val) (sB j.val)<=754974720))=true:=by decide +kernel
theorem D3 (j:Nat)(hj:j<6):aw (bR j) (bS j)=3:=by
 obtain rfl | rfl | rfl | rfl | rfl | rfl:j=0∨j=1∨j=2∨j=3∨j=4∨j=5:=by omega
 all_goals rfl
theorem zd {r a b:Int}(h:Ok4 r a b){j:Nat}(hj:j<6):(-34359738368<=(hv (12-r).toNat a b j).1/\(hv (12-r).toNat a b j).1<=34359738368)/\(-34359738368<=(hv (12-r).toNat a b j).2/\(hv (12-r).toNat a b j).2<=34359738368):=by
 obtain⟨h0,h1,-,-,h2,h3⟩:=h;have hN:=lh (x:=(ups r.toNat a b).1) (y:=(ups r.toNat a b).2) (B:=512) (by unfold aG at h2 h3;exact⟨by omega,by omega,by omega,by omega⟩);have hd:=gG r.toNat (a:=a) (b:=b) (by omega);have hf:=of_decide_eq_true (Ff ⟨r.toNat,by omega⟩);have eK:12-r.toNat=(12-r).toNat:=by omega
 simp only[eK]at hf;have hw:=iR (3*a) (3*b) (bR j) (bS j);rw[D3 j hj]at hw;have e9:aw (3*a) (3*b)=9*aw a b:=by unfold aw;grind
 rw[e9]at hw;have hm:=Int.mul_le_mul_of_nonneg_left (show aw (3*a+bR j) (3*b+bS j)<=(585*dnN r.toNat+12480) / 64 by omega) hf.1;have hq:=oU (a:=ctA (12-r).toNat (3*a+bR j) (3*b+bS j)) (b:=ctB (12-r).toNat (3*a+bR j) (3*b+bS j)) (N:=sev (12-r).toNat*((585*dnN r.toNat+12480) / 64)) (B:=440509000) (by rw[EI];exact hm) (by omega) hf.2;unfold hv coX coY poX poY;simp only;omega
def exL (G:Nat->Int×Int)(n:Nat):List Ed:=(List.range n).map fun i=>(G i,((G (nx i)).1-(G i).1,(G (nx i)).2-(G i).2))
theorem oA (G:Nat->Int×Int)(n:Nat):(exL G n).length=n:=by simp[exL]
theorem Bt (G:Nat->Int×Int)(n:Nat):exL G (n+1)=exL G n++[(((G n).1,(G n).2),((G (nx n)).1-(G n).1,(G (nx n)).2-(G n).2))]:=by
 unfold exL;rw[List.range_succ,List.map_append];rfl
theorem Hh {r a b:Int}(h:Ok4 r a b):∀e∈exL (hv (12-r).toNat a b) 6,EdB e:=by
 intro e he;obtain⟨i,hi,rfl⟩:=List.mem_map.1 he;have hi6:i<6:=List.mem_range.1 hi;refine⟨zd h hi6,?_⟩;have hs:=mF (12-r).toNat a b hi6;have hK:(12-r).toNat<13:=by have:=h.1;omega
 have hf:=of_decide_eq_true (Du ⟨(12-r).toNat,hK⟩ ⟨i,hi6⟩);simp only at hf ⊢;omega
def sdL (l1 l2 u1 u2:Int):List Ed:=[((3*l1,3*l2),(1,0)),((3*u1,3*l2),(0,1)),((3*u1,3*u2),(-1,0)),((3*l1,3*u2),(0,-1))]
theorem Gs {l1 l2 u1 u2:Int}(h1: -2147483648<=l1/\l1<=2147483648)(h2: -2147483648<=l2/\l2<=2147483648)(h3: -2147483648<=u1/\u1<=2147483648)(h4: -2147483648<=u2/\u2<=2147483648):∀e∈sdL l1 l2 u1 u2,EdB e:=by
 intro e he;simp only[sdL,List.mem_cons,List.not_mem_nil,or_false]at he;rcases he with rfl | rfl | rfl | rfl <;>(unfold EdB;simp only;omega)
theorem uX {M L:List Ed}:eo M L=false↔∀e∈M,∃f∈L,kpB e f=true:=by
 unfold eo jx;rw[List.any_eq_false];constructor
 · intro h e he;have:=h e he;rw[Bool.not_eq_true,Bool.not_eq_false',List.any_eq_true]at this;exact this
 · intro h e he;have:=h e he;rw[Bool.not_eq_true,Bool.not_eq_false',List.any_eq_true];exact this
theorem kq (G:Nat->Int×Int)(i:Nat)(f:Ed):kpB (G i,((G (nx i)).1-(G i).1,(G (nx i)).2-(G i).2)) f=true↔0<=crs (G i) (G (nx i)) f.1.1 f.1.2:=by
 unfold kpB crs;simp only[decide_eq_true_eq];omega
theorem FH (G:Nat->Int×Int)(l1 l2 u1 u2:Int):eo (exL G 6) (sdL l1 l2 u1 u2)=false ↔
 ∀i,i<6->0<=crs (G i) (G (nx i)) (3*l1) (3*l2)∨0<=crs (G i) (G (nx i)) (3*u1) (3*l2)∨0<=crs (G i) (G (nx i)) (3*u1) (3*u2)∨0<=crs (G i) (G (nx i)) (3*l1) (3*u2):=by
 rw[uX];constructor
 · intro h i hi;obtain⟨f,hf,k⟩:=h _ (List.mem_map.2 ⟨i,List.mem_range.2 hi,rfl⟩);rw[kq]at k;simp only[sdL,List.mem_cons,List.not_mem_nil,or_false]at hf;rcases hf with rfl | rfl | rfl | rfl
   · exact .inl k
   · exact .inr (.inl k)
   · exact .inr (.inr (.inl k))
   · exact .inr (.inr (.inr k))
 · intro h e he;obtain⟨i,hi,rfl⟩:=List.mem_map.1 he;rcases h i (List.mem_range.1 hi)with k | k | k | k
   · exact⟨((3*l1,3*l2),(1,0)),by simp[sdL],(kq G i _).2 k⟩
   · exact⟨((3*u1,3*l2),(0,1)),by simp[sdL],(kq G i _).2 k⟩
   · exact⟨((3*u1,3*u2),(-1,0)),by simp[sdL],(kq G i _).2 k⟩
   · exact⟨((3*l1,3*u2),(0,-1)),by simp[sdL],(kq G i _).2 k⟩
theorem CQ (G:Nat->Int×Int)(l1 l2 u1 u2:Int):eo (sdL l1 l2 u1 u2) (exL G 6)=false ↔
 (∃i,i<6/\3*l2<=(G i).2)/\(∃i,i<6/\(G i).1<=3*u1)/\(∃i,i<6/\(G i).2<=3*u2)/\(∃i,i<6/\3*l1<=(G i).1):=by
 rw[uX];have key:∀e:Ed,(∃f∈exL G 6,kpB e f=true)↔∃i,i<6/\e.2.2*((G i).1-e.1.1)<=e.2.1*((G i).2-e.1.2):=fun e=>by
  constructor
  · rintro⟨f,hf,k⟩;obtain⟨i,hi,rfl⟩:=List.mem_map.1 hf;exact⟨i,List.mem_range.1 hi,of_decide_eq_true k⟩
  · rintro⟨i,hi,k⟩;exact⟨_,List.mem_map.2 ⟨i,List.mem_range.2 hi,rfl⟩,decide_eq_true k⟩
 simp only[key,sdL,List.forall_mem_cons,List.not_mem_nil,false_implies,implies_true,and_true];constructor
 · rintro⟨⟨i,hi,k⟩,⟨i2,hi2,k2⟩,⟨i3,hi3,k3⟩,i4,hi4,k4⟩;exact⟨⟨i,hi,by omega⟩,⟨i2,hi2,by omega⟩,⟨i3,hi3,by omega⟩,i4,hi4,by omega⟩
 · rintro⟨⟨i,hi,k⟩,⟨i2,hi2,k2⟩,⟨i3,hi3,k3⟩,i4,hi4,k4⟩;exact⟨⟨i,hi,by omega⟩,⟨i2,hi2,by omega⟩,⟨i3,hi3,by omega⟩,i4,hi4,by omega⟩
theorem CP (G:Nat->Int×Int)(l1 l2 u1 u2:Int):(eo (exL G 6) (sdL l1 l2 u1 u2)=false/\eo (sdL l1 l2 u1 u2) (exL G 6)=false)↔Unparted G (3*l1) (3*l2) (3*u1) (3*u2):=by
 rw[FH,CQ];unfold Unparted;constructor
 · rintro⟨h,k1,k2,k3,k4⟩;exact⟨⟨k4,k2⟩,⟨k1,k3⟩,h⟩
 · rintro⟨⟨k4,k2⟩,⟨k1,k3⟩,h⟩;exact⟨h,k1,k2,k3,k4⟩
theorem DT {K:Nat}(hK:K<=12){a b l1 l2 u1 u2:Int}(h1:l1<=u1)(h2:l2<=u2):(eo (exL (hv K a b) 6) (sdL l1 l2 u1 u2)=false/\eo (sdL l1 l2 u1 u2) (exL (hv K a b) 6)=false)↔Tou K l1 l2 u1 u2 a b:=by
 rw[CP];exact⟨fun h=>rz (k9 hK a b) (by omega) (by omega) h,fun h=>l9 (k9 hK a b) h⟩
theorem Gc (l1 l2 u1 u2:Int)(h1: -2147483648<=l1/\l1<=2147483648)(h2: -2147483648<=l2/\l2<=2147483648)(h3: -2147483648<=u1/\u1<=2147483648)(h4: -2147483648<=u2/\u2<=2147483648)(w:World) :
 Calls Tryz.prog 141 #[.agg #[.int .i64 l1,.int .i64 l2,.int .i64 u1,.int .i64 u2]] w fun e w'=>(∃v,e=.returned v/\RowD w.heap.size v (sdL l1 l2 u1 u2) w')/\Below w.heap.size w w':=by
 go_enter Tryz.func141,Tryz.ntmps141
 go_wp2_with fail
 go_quiet (fail)
 have hB:=ae (ag w (.cells #[.int .i64 l1,.int .i64 l2,.int .i64 u1,.int .i64 u2] 66)) (below_drewN _ nq);generalize (w.alloc (.cells #[.int .i64 l1,.int .i64 l2,.int .i64 u1,.int .i64 u2] 66)).drewN nq=w1 at *;have hs:=hB.size;go_wp2;go_ret;refine⟨⟨_,rfl,?_⟩,ae hB (ag _ _)⟩;have:=World.ownsRow_lit (base:=w.heap.size) (e:=228) (size:=4) w1 #[.int .i64 (3*l1),.int .i64 (3*l2),.int .i64 1,.int .i64 0,.int .i64 (3*u1),.int .i64 (3*l2),.int .i64 0,.int .i64 1,.int .i64 (3*u1),.int .i64 (3*u2),.int .i64 (-1),.int .i64 0,.int .i64 (3*l1),.int .i64 (3*u2),.int .i64 0,.int .i64 (-1)] 4 hs (by decide) rfl
 simpa[RowD,sdL,edV,edL]using this
theorem Jk:(Tryz.prog.info? 228).map (fun i=>(i.zero,i.size,i.bytes))=some (some (.agg #[.int .i64 0,.int .i64 0,.int .i64 0,.int .i64 0]),4,32):=by kernel_rfl
theorem BJ (w:World)(a b c d:Int)(e:TypeId):∀j u,([.int .i64 a,.int .i64 b,.int .i64 c,.int .i64 d]:List Value)[j]?=some u->(w.alloc (.cells #[.int .i64 a,.int .i64 b,.int .i64 c,.int .i64 d] e)).cell? ((⟨w.heap.size,0,none⟩:Addr).add j)=some u:=by
 intro j u hj
 match j,hj with
 | 0,hj=>simp at hj;subst hj;simp[Addr.add]
 | 1,hj=>simp at hj;subst hj;simp[Addr.add]
 | 2,hj=>simp at hj;subst hj;simp[Addr.add]
 | 3,hj=>simp at hj;subst hj;simp[Addr.add]
theorem BM (a b c d:Int):∀u∈([.int .i64 a,.int .i64 b,.int .i64 c,.int .i64 d]:List Value),u.oneCell'=true:=by
 intro u hu;simp at hu;rcases hu with rfl | rfl | rfl | rfl <;>rfl
theorem Fu (j:Nat):Int.tmod ((j:Int)+1) 6=((nx j:Nat):Int):=by
 rw[Int.tmod_eq_emod_of_nonneg (by omega)];unfold nx;omega
theorem rh {Bk:Nat}{K:Nat}{a b:Int}{w:World}(h:cr Bk (dY K a b) 6 w){j:Nat}(hj:j<6):w.cell? ⟨Bk,j*2,none⟩=some (.int .i64 (hv K a b j).1)/\w.cell? ⟨Bk,j*2+1,none⟩=some (.int .i64 (hv K a b j).2):=by
 have h0:=(h (2*j) (by omega)).1;have h1:=(h (2*j+1) (by omega)).1;have e0:cq (dY K a b) 6 (2*j)=(hv K a b j).1:=by unfold cq;rw[if_pos (by omega),iy];rfl
 have e1:cq (dY K a b) 6 (2*j+1)=(hv K a b j).2:=by unfold cq;rw[if_pos (by omega),jy];rfl
 rw[e0,Nat.mul_comm]at h0;rw[e1,Nat.mul_comm]at h1;exact⟨h0,h1⟩
theorem F7 (r a b:Int)(K:Nat)(hK:K<=12)(hr:12-r=(K:Int))(ha:dP a)(hb:dP b)(hbx:∀j,j<6->(-34359738368<=(hv K a b j).1/\(hv K a b j).1<=34359738368)/\(-34359738368<=(hv K a b j).2/\(hv K a b j).2<=34359738368))(w:World)(hW:Ways w) :
 Calls Tryz.prog 140 #[.agg #[.int .i64 r,.int .i64 a,.int .i64 b]] w fun e w'=>(∃v,e=.returned v/\RowD w.heap.size v (exL (hv K a b) 6) w')/\Below w.heap.size w w':=by
 have HBX:=ab hbx;have al:=ag w (.cells #[.int .i64 r,.int .i64 a,.int .i64 b] 39);have PH:=ab (CX a b r K hK hr ha hb _ (hW.below al));have AL:=ab al;clear al hbx ha hb hr hK hW;obtain⟨i0,hi,hz0,hz1,hz2⟩:=de Jk
 go_enter Tryz.func140,Tryz.ntmps140
 go_wp2_with fail;refine PH.out.mono ?_;rintro e w1 ⟨⟨Bk,hBk,rfl,hex⟩,b1⟩;have HX:=ab hex;have B1:=ab (ae AL.out b1);have hs1:=B1.out.size;clear PH AL b1 hex;go_wp2_with fail;go_loopw [5,19] (fun v5 v19 wr=>∃j:Nat,j<=6/\v19=.int .i64 (j:Int)/\Hid (RowD w1.heap.size v5 (exL (hv K a b) j) wr)/\Hid (Below w1.heap.size w1 wr)) (fun _ v19 _=>6-(intOf v19).toNat)
 case atStart=>exact⟨0,by omega,rfl,ab (World.ownsRow_nil _ _ _ _),ab (Below.refl _ _)⟩
 case round =>
  obtain⟨j,hj,rfl,OW,B⟩:=hrel;obtain⟨vp,vc,rfl⟩:=OW.out.any;have hl:=oA (hv K a b) j;rw[hl];by_cases hj6:j<6
  · have hj6':(j:Int)<6:=by omega
    have XR:=fz B.out HX.out;obtain⟨z0,z1⟩:=rh XR hj6;obtain⟨y0,y1⟩:=rh XR (nN j);have hk:=nN j;have bp:=HBX.out j hj6;have bq:=HBX.out (nx j) hk;have hm:=Fu j;have ST:=ab (Bt (hv K a b) j);clear XR;generalize nx j=k at *;generalize (hv K a b j).1=p1 at *;generalize (hv K a b j).2=p2 at *;generalize (hv K a b k).1=q1 at *;generalize (hv K a b k).2=q2 at *;obtain⟨⟨bp1,bp2⟩,bp3,bp4⟩:=bp;obtain⟨⟨bq1,bq2⟩,bq3,bq4⟩:=bq;have hk':(0:Int)<=(k:Int):=by omega
    have hk6:(k:Int)<6:=by omega
    have hlt:=World.block_lt_of_cell? _ _ z0;simp only at hlt;have al1:=ag wr (.cells #[.int .i64 p1,.int .i64 p2] 26);have al2:=ag (wr.alloc (.cells #[.int .i64 p1,.int .i64 p2] 26)) (.cells #[.int .i64 q1,.int .i64 q2] 26);have AL2:=ab (ae al1 al2);have O3:Hid (wr.ownsRow w1.heap.size 228 4 (.slice vp j vc) j (edV (exL (hv K a b) j))):=ab (by have:=OW.out;unfold RowD at this;rw[hl]at this;exact this);have hsr:=B.out.size;clear al1 al2 OW;go_wp2_with (at_builtin;refine wpList_append_lies _ rfl (.tmp 32) (.tmp 46) 189 rfl w1.heap.size 228 i0 (.agg #[.int .i64 0,.int .i64 0,.int .i64 0,.int .i64 0]) 4 32 Tryz.underlying189 hi hz0 hz1 hz2 rfl (by decide) (.slice vp j vc) _ _ rfl (ai (ag _ _) (ai AL2.out O3.out)) ⟨wr.heap.size+1+1,0,none⟩ 1 1 [.int .i64 p1,.int .i64 p2,.int .i64 (q1-p1),.int .i64 (q2-p2)] rfl rfl (by have:=BJ ((wr.alloc (.cells #[.int .i64 p1,.int .i64 p2] 26)).alloc (.cells #[.int .i64 q1,.int .i64 q2] 26)) p1 p2 (q1-p1) (q2-p2) 228;simpa using this) (BM _ _ _ _) (by decide) (by unfold maxLen;omega) (by omega) (by simp;omega) (wr.heap.size+1+1+1) (by simp) ?_;intro g6 q6 w6 hown hgrow hat hlt6)
    have R6:Hid (RowD w1.heap.size (.slice (some ⟨g6,0,none⟩) (j+1) q6) (exL (hv K a b) (j+1)) w6):=ab (by
     unfold RowD;rw[oA,ST.out,EW,EZ];exact hown)
    have hne:∀k,(Value.slice vp j vc).ownBlock=some k->w1.heap.size<=k:=fun k e=>(World.ownsRow.lt O3.out k e).1;have B6:=ab ((ae (ae B.out AL2.out) (ag _ _)).grown hgrow (by simp;omega) (fun k e=>by have:=hne k e;omega));clear hown hgrow hat B O3 hne AL2;go_roundw
    case rel=>exact⟨j+1,by omega,by go_num,R6,B6⟩
    case measure=>simp[intOf];omega
  · obtain rfl:j=6:=by omega
    have hj6':decide (((6:Nat):Int)<6)=false:=by decide
    go_wp2;go_ret;exact⟨⟨_,rfl,by have:=bo OW.out (show w.heap.size<=w1.heap.size by omega);rw[hl]at this;exact this⟩,ae B1.out B.out⟩
end Go.Proofs.YtbnlhdnnenahfaaGreatDoor
