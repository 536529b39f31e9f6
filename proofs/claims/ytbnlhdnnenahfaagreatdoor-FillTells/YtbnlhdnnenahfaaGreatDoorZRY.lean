/-
  What the texts FRings, FNear say, so far as this seat's proofs need it.
-/
import Derived.Test.YtbnlhdnnenahfaaGreatDoorLOY
import Derived.Test.YtbnlhdnnenahfaaGreatDoorFXY
set_option maxHeartbeats 16000000
set_option maxRecDepth 20000
namespace Go.Proofs.YtbnlhdnnenahfaaGreatDoor
open Go.RowKit
def iw (x y s:Int)(L:List (Int×Int)):Prop:=∀p∈L,(x<=p.1/\p.1<x+s/\p.1<1073741824)/\y<=p.2/\p.2<y+s/\p.2<1073741824
def t6 (C:Nat)(x y s:Int)(e:Ending)(w':World):Prop :=
 ∃(sl:Value) (G:List (List (Int×Int))) (S:List Value),e=.returned sl/\G.length<=2/\(∀L∈G,3<=L.length/\L.length<=6/\iw x y s L)/\RowsP w' C sl G S
theorem RowsP.down {w:World}{base C:Nat}{v:Value}{G:List (List (Int×Int))}{S:List Value}(h:RowsP w base v G S)(hC:C<=base):RowsP w C v G S :=
 ⟨h.1,bo h.2.1 hC,fun j hj hG=>bo (h.2.2 j hj hG) hC⟩
theorem xC (x0 y0 x y:Int)(hw:InW x y)(PT:Hid (∀w,Calls Tryz.prog 43 #[.int .i64 x0,.int .i64 y0] w fun e w'=>e=.returned (.tuple #[.int .i64 x,.int .i64 y])/\Below w.heap.size w w'))(sX:Value)(X:List Int)(r K:Nat)(hK:K<=12)(hr:12-(r:Int)=(K:Int))(w:World)(hX:LstK .i64 w sX X) :
 Calls Tryz.prog 22 #[.int .i64 x0,.int .i64 y0,sX,.int .i64 (r:Int)] w fun e w'=>t6 w.heap.size x y (7*szK K) e w'/\Below w.heap.size w w':=by
 obtain⟨x1',x2',y1',y2'⟩:=hw;obtain⟨pX,cX,rfl,-,cX0⟩:=hX;have HX:=ab cX0;obtain⟨n,en⟩:∃n,X.length=n:=⟨_,rfl⟩
 have EN:=ab en;obtain⟨i0,hi,hp0,hp1,hp2⟩:=info_parts Jl;obtain⟨i1,hj,hr0,hr1,hr2⟩:=info_parts Jm;rw[en];clear cX0 en
 go_enter Tryz.func22,Tryz.ntmps22
 go_wp2_with fail;refine(PT.out _).mono ?_;rintro e w1 ⟨rfl,b1⟩;have B1:=ab b1;have HX1:Hid (∀(j:Nat) (hj:j<X.length),∃g o,pX=some ⟨g,o,none⟩/\w1.cell? ⟨g,o+j,none⟩=some (.int .i64 X[j])):=ab fun j hj=>by
  obtain⟨g,o,e,h⟩:=HX.out j hj;exact⟨g,o,e,aa b1 h⟩
 have hs0:=b1.size;clear HX PT b1;have HX:=HX1;clear HX1;go_wp2_with fail;go_loopw [9,10] (fun v9 v10 wr=>∃(i:Nat) (S:Int),r<=i/\i<=12/\v9=.int .i64 S/\v10=.int .i64 (i:Int)/\Hid (S=szK (i-r))/\(52<=S/\S<=7000000)/\wr=w1) (fun _ v10 _=>12-(intOf v10).toNat)
 case atStart=>exact⟨r,52,Nat.le_refl _,by omega,rfl,rfl,ab (by rw[Nat.sub_self];rfl),by omega,rfl⟩
 case round =>
 obtain⟨i,S,q1,q2,rfl,rfl,eS,hS,rfl⟩:=hrel;rcases Nat.lt_or_ge i 12 with c | c
 · have et:(S*8).tdiv 3=S*8 / 3:=Int.tdiv_eq_ediv_of_nonneg (by omega);have eS':Hid (S*8 / 3=szK (i+1-r)):=ab (by rw[show i+1-r=(i-r)+1 by omega,eS.out];rfl);have hS':=El (K:=i+1-r) (by omega);rw[←eS'.out]at hS';clear eS;go_wp2_with fail;go_roundw
   case rel=>exact⟨i+1,S*8 / 3,by omega,by omega,rfl,by go_num,eS',hS',trivial⟩
   case measure=>simp[intOf];omega
 have hc:decide ((i:Int)<12)=false:=decide_eq_false (by omega);have hE:szK K=S:=by rw[eS.out];congr 1;omega
 have HE:=ab hE;clear eS hE;have ew7:IntKind.i64.wrap (7*S)=7*S:=by rw[IntKind.wrap_i64];omega
 have hz0:¬7*S=0:=by omega
 have hz00:(7*S == 0)=false:=by simp;omega
 obtain⟨w2,rfl⟩:∃z,z=wr:=⟨_,rfl⟩
 go_wp2_with fail;go_loopw [11,12] (fun v11 v12 wr=>∃(t c:Nat) (G:List (List (Int×Int))) (SS:List Value),t<=n/\t<=12*c/\c<=2/\v12=.int .i64 (t:Int)/\Hid (G.length=c)/\Hid (∀L∈G,3<=L.length/\L.length<=6/\iw x y (7*S) L)/\Hid (RowsP wr w2.heap.size v11 G SS)/\Hid (Below w2.heap.size w2 wr)) (fun _ v12 _=>n-(intOf v12).toNat)
 case atStart=>exact⟨0,0,[],[],by omega,by omega,by omega,rfl,ab rfl,ab (fun L hL=>by simp at hL),ab (RowsP.nil' _ _),ab (Below.refl _ _)⟩
 case round =>
  obtain⟨t,c,G,SS,ht,ht12,hc3,rfl,hGc,hGood,hR,hB⟩:=hrel;have hRo:=hR.out.2.1;rw[hGc.out]at hRo;obtain⟨p5,c5,rfl,-⟩:=aA hRo;have ew5:IntKind.i64.wrap ((t:Int)+5)=(t:Int)+5:=by rw[IntKind.wrap_i64];omega
  by_cases hgo:t+5<n/\c<2
  · obtain⟨h1,h2⟩:=hgo;have h1':(t:Int)+5<(n:Int):=by omega
    have h2':(c:Int)<2:=by omega
    have htn:(t:Int)<(n:Int):=by omega
    have htn':t<n:=by omega
    obtain⟨g,o,rfl,x0⟩:=HX.out t (by rw[EN.out];omega);replace x0:=aa hB.out x0;obtain⟨A,hA,eA⟩:∃A:Nat,A<=3/\bits .and .i64 (X[t]'(by rw[EN.out];omega)) 3=(A:Int):=by
     have h:=mp (X[t]'(by rw[EN.out];omega)) 2 (by omega);rw[show(((2^2-1:Nat)):Int)=3 by decide,show(((2^2:Nat)):Int)=4 by decide]at h;rw[h];exact⟨(X[t]'(by rw[EN.out];omega)%4).toNat,by omega,by omega⟩
    generalize X[t]'_=xt at *;obtain⟨N,eN⟩:∃N:Nat,(3:Int)+(A:Int)=(N:Int):=⟨3+A,by omega⟩
    have hN:3<=N/\N<=6:=by omega
    obtain⟨N3,N6⟩:=hN;go_wp2_with fail;clear x0 eA eN;obtain⟨wk,rfl⟩:∃z,z=wr:=⟨_,rfl⟩
    go_loopw [12,14,15] (fun v12 v14 v15 wr=>∃(i u:Nat) (L:List (Int×Int)),i<=N/\Hid (u=t+2*i)/\u<=n/\v15=.int .i64 (i:Int)/\v12=.int .i64 (u:Int)/\Hid (L.length=i)/\Hid (iw x y (7*S) L)/\Hid (wr.ownsRow wk.heap.size 26 2 v14 i (dS L))/\Hid (Below wk.heap.size wk wr)) (fun _ _ v15 _=>N-(intOf v15).toNat)
    case atStart=>exact⟨0,t,[],by omega,ab (by omega),by omega,rfl,rfl,ab rfl,ab (fun p hp=>by simp at hp),ab (World.ownsRow_nil _ _ _ _),ab (Below.refl _ _)⟩
    case round =>
     obtain⟨i,u,L,hiN,hu,hun,rfl,rfl,hLi,hNr,hO,hX2⟩:=hrel;obtain⟨p8,c8,rfl,-⟩:=aA hO.out;have hu48:u<=48:=by have:=hu.out;omega
     have ew1:IntKind.i64.wrap ((u:Int)+1)=(u:Int)+1:=by rw[IntKind.wrap_i64];omega
     have hsX:=hX2.out.size;by_cases hgo:i<N/\u+1<n
     · obtain⟨h3,h4⟩:=hgo;have h3':(i:Int)<(N:Int):=by omega
       have h4':(u:Int)+1<(n:Int):=by omega
       have hun':(u:Int)<(n:Int):=by omega
       have hun2:u<n:=by omega
       obtain⟨g2,o2,e2,y0⟩:=HX.out u (by rw[EN.out];omega);obtain⟨g3,o3,e3,y1⟩:=HX.out (u+1) (by rw[EN.out];omega);simp only[Option.some.injEq,Addr.mk.injEq,and_true]at e2 e3;obtain⟨rfl,rfl⟩:=e2;obtain⟨rfl,rfl⟩:=e3;have Bw:=ae hB.out hX2.out;replace y0:=aa Bw y0;replace y1:=aa Bw y1;have enu:((u:Int)+1).toNat=u+1:=by omega
       have hu01:(0:Int)<=(u:Int)+1:=by omega
       obtain⟨U1,a,m1,m2,m3,m4,m5,m6,m7⟩:=ry (X[u]'(by rw[EN.out];omega)) (7*S) (by omega);obtain⟨U2,b,k1,k2,k3,k4,k5,k6,k7⟩:=ry (X[u+1]'(by rw[EN.out];omega)) (7*S) (by omega);generalize X[u]'_=xu at *;generalize X[u+1]'_=xv at *;have wa:IntKind.i64.wrap (x+a)=x+a:=by rw[IntKind.wrap_i64];omega
       have wb:IntKind.i64.wrap (y+b)=y+b:=by rw[IntKind.wrap_i64];omega
       have HLi2:Hid ((L++[(min (x+a) 1073741823,min (y+b) 1073741823)]).length=i+1):=ab (by rw[List.length_append,hLi.out];rfl);have HN2:Hid (iw x y (7*S) (L++[(min (x+a) 1073741823,min (y+b) 1073741823)])):=ab fun p hp=>(List.mem_append.1 hp).elim (hNr.out p) (fun h=>by rw[List.mem_singleton.1 h];exact⟨⟨by dsimp only;omega,by dsimp only;omega,by dsimp only;omega⟩,by dsimp only;omega,by dsimp only;omega,by dsimp only;omega⟩);have XX:=ab hX2.out;clear hLi hNr Bw hX2;go_wp2_with fail
       go_region_law ((refine step_append_lies _ (by rfl) _ _ _ (by rfl) wk.heap.size 26 i0 (.agg #[.int .i64 0,.int .i64 0]) 2 16 Tryz.underlying27 hi hp0 hp1 hp2 rfl (by decide) _ i (dS L) (by rfl) (ai (ae (ag wr _) (aK _)) hO.out) ⟨wr.heap.size,0,none⟩ 1 1 [.int .i64 (min (x+a) 1073741823),.int .i64 (min (y+b) 1073741823)] (by rfl) rfl (DW wr (min (x+a) 1073741823) (min (y+b) 1073741823) 26) (DX _ _) (by decide) (by unfold maxLen;omega) (by omega) (by simp;omega) (wr.heap.size+1) (by simp) ?_;intro g6 c6 w6 hown hgrow hat hlt6))
       all_goals
        have B6:=ab (XX.out.trans (((ag wr (.cells #[.int .i64 (min (x+a) 1073741823),.int .i64 (min (y+b) 1073741823)] 26)).mono hsX)) |>.drew |>.grown hgrow (by simp;omega) (aM hO.out));have O6:Hid (w6.ownsRow wk.heap.size 26 2 (.slice (some ⟨g6,0,none⟩) (i+1) c6) (i+1) (dS (L++[(min (x+a) 1073741823,min (y+b) 1073741823)]))):=ab (by rw[po];exact hown);clear hown hgrow hat hlt6 hO XX y0 y1;go_wp2_with fail;go_roundw
        case rel=>exact⟨i+1,u+2,L++[(min (x+a) 1073741823,min (y+b) 1073741823)],by omega,ab (by have:=hu.out;omega),by omega,by go_num,by go_num,HLi2,HN2,O6,B6⟩
        case measure=>simp[intOf];omega
     · have hend:(i=N/\0=0)∨(i<N/\¬(u+1<n)):=by omega
       have i3:3<=i:=by have:=hu.out;omega
       have i6:i<=6:=by omega
       have i3':(3:Int)<=(i:Int):=by omega
       have htu:t<u:=by have:=hu.out;omega
       have hu12:u<=12*(c+1):=by have:=hu.out;omega
       have hR2:=ab (hR.out.keep hX2.out);have hR3:=hR2.out.2.1;rw[hGc.out]at hR3;have HG2:Hid ((G++[L]).length=c+1):=ab (by rw[List.length_append,hGc.out];rfl);have HGd:Hid (∀M∈G++[L],3<=M.length/\M.length<=6/\iw x y (7*S) M):=ab fun M hM=>(List.mem_append.1 hM).elim (hGood.out M) (fun h=>by rw[List.mem_singleton.1 h];exact⟨by rw[hLi.out];exact i3,by rw[hLi.out];exact i6,hNr.out⟩);have Bw:=ab (ae hB.out hX2.out);have OL:Hid (wr.ownsRow w2.heap.size 26 2 (.slice p8 i c8) L.length (dS L)):=ab (by rw[hLi.out];exact bo hO.out hB.out.size);have O3:=ab hR3;have hsW:=Bw.out.size;clear hR hB hO hX2 hNr hGood hR3 hgo hu;rcases hend with⟨rfl,-⟩ | ⟨h3,h4⟩
       all_goals
        first
         | (have h3':decide ((i:Int) < (i:Int))=false:=by simp
            have _t:=N3)
         | (have h3':(i:Int) < (N:Int):=by omega
            have h4':decide ((u:Int)+1<(n:Int))=false:=df (by omega))
        go_wp2_with (at_builtin;refine wpList_append_own _ rfl (.tmp 90) (.tmp 92) 28 rfl w2.heap.size 27 i1 (.slice none 0 0) 1 24 Tryz.underlying28 hj hr0 hr1 hr2 rfl (by decide) _ _ _ rfl (ai (ag _ _) O3.out) ⟨wr.heap.size,0,none⟩ 1 1 [.slice p8 i c8] rfl rfl (bf _ _ rfl _ _) (fun u hu=>by simp at hu;subst hu;rfl) (by unfold maxLen;omega) (by omega) (by simp;omega) ?_)
        intro v7 w7 hown hgrow _;have al:=ag wr (.cells #[.slice p8 i c8] 27);have R7:Hid (RowsP w7 w2.heap.size v7 (G++[L]) (SS++[.slice p8 i c8])):=ab ((hR2.out.keep al).push (ai al OL.out) (by rw[hGc.out];exact hown) hgrow);have B7:=ab ((Bw.out.alloc hsW (.cells #[.slice p8 i c8] 27)).grown hgrow (by simp;omega) (aM O3.out));clear hown hgrow al hR2 O3 OL Bw;go_wp2_with fail;go_roundw
        case rel=>exact⟨u,c+1,G++[L],SS++[.slice p8 i c8],by omega,hu12,by omega,rfl,HG2,HGd,R7,B7⟩
        case measure=>simp[intOf];omega
  · have hend:¬(t+5<n)∨(t+5<n/\¬(c<2)):=by omega
    have FN:=ab (And.intro hGc.out (And.intro hGood.out (And.intro hR.out hB.out)));clear hGc hGood hR hB hgo hRo;rcases hend with h1 | ⟨h1,h2⟩
    · have h1':decide ((t:Int)+5<(n:Int))=false:=df (by omega);go_wp2_with fail;go_ret;exact⟨⟨_,G,SS,rfl,by rw[FN.out.1];exact hc3,fun L hL=>by rw[HE.out];exact FN.out.2.1 L hL,FN.out.2.2.1.down hs0⟩,ae B1.out FN.out.2.2.2⟩
    · have h1':(t:Int)+5<(n:Int):=by omega
      have h2':decide ((c:Int)<2)=false:=df (by omega);go_wp2_with fail;go_ret;exact⟨⟨_,G,SS,rfl,by rw[FN.out.1];exact hc3,fun L hL=>by rw[HE.out];exact FN.out.2.1 L hL,FN.out.2.2.1.down hs0⟩,ae B1.out FN.out.2.2.2⟩
theorem Gh (x0 y0:Int)(sX:Value)(X:List Int)(r K:Nat)(hK:K<=12)(hr:12-(r:Int)=(K:Int))(w:World)(hX:LstK .i64 w sX X) :
 Calls Tryz.prog 22 #[.int .i64 x0,.int .i64 y0,sX,.int .i64 (r:Int)] w fun e w'=>t6 w.heap.size (x0%1073741824) (y0%1073741824) (7*szK K) e w'/\Below w.heap.size w w' :=
 xC x0 y0 _ _ ⟨by omega,by omega,by omega,by omega⟩ (ab (xm x0 y0 _ _ (zk x0) (zk y0))) sX X r K hK hr w hX
theorem ue:∀(D C:List (Int×Int)) (lo hi:Int×Int),Bx C lo hi->∃lo' hi',Bx (C++D) lo' hi'
 | [],C,lo,hi,h=>⟨lo,hi,by rwa [List.append_nil]⟩
 | p :: D,C,(a1,a2),(b1,b2),h=>by
  have k:=ue D (C++[p]) _ _ h.snoc
  rwa [List.append_assoc]at k
theorem uf {C:List (Int×Int)}(h:∃p,p∈C):∃lo hi,Bx C lo hi:=by
 cases C with
 | nil=>obtain⟨p,hp⟩:=h;simp at hp
 | cons p C=>exact ue C [p] _ _ (Bx.one' p)
theorem th {G:List (List (Int×Int))}{n:Nat}(h:∀L∈G,L.length<=n):aH G<=n*G.length:=by
 induction G with
 | nil=>exact Nat.zero_le _
 | cons M K ih =>
  have h1:=h M (List.mem_cons_self ..);have h2:=ih fun L hL=>h L (List.mem_cons_of_mem _ hL);show M.length+aH K<=n*(K.length+1)
  rw[Nat.mul_succ];omega
theorem zr {x y s:Int}{G:List (List (Int×Int))}(hw:0<=x/\0<=y)(h0:G≠[])(h2:G.length<=2)(h:∀L∈G,3<=L.length/\L.length<=6/\iw x y s L):bv G:=by
 have hc:=th fun L hL=>(h L hL).2.1;refine bI.2 ⟨by omega,by omega,h0,fun L hL=>(h L hL).1,fun L hL p hp=>?_⟩;have:=(h L hL).2.2 p hp;exact⟨by omega,by omega,by omega,by omega⟩
theorem Fo {x y s:Int}{G:List (List (Int×Int))}(h:∀L∈G,iw x y s L){lo hi:Int×Int}(hb:Bx G.flatten lo hi):(x<=lo.1/\hi.1<x+s/\hi.1<1073741824)/\y<=lo.2/\hi.2<y+s/\hi.2<1073741824:=by
 obtain⟨-,⟨p1,m1,e1⟩,⟨p2,m2,e2⟩,⟨p3,m3,e3⟩,⟨p4,m4,e4⟩⟩:=hb;have f:∀q∈G.flatten,(x<=q.1/\q.1<x+s/\q.1<1073741824)/\y<=q.2/\q.2<y+s/\q.2<1073741824:=fun q hq=>by
  obtain⟨L,hL,hq⟩:=List.mem_flatten.1 hq;exact h L hL q hq
 have f1:=f p1 m1;have f2:=f p2 m2;have f3:=f p3 m3;have f4:=f p4 m4;omega
theorem Ct {x y:Int}{K r:Nat}(hK:K<=12){G:List (List (Int×Int))}(hw:0<=x/\0<=y)(h0:G≠[])(h2:G.length<=2)(h:∀L∈G,3<=L.length/\L.length<=6/\iw x y (7*szK K) L) :
 bv G/\∃lo hi,Bx G.flatten lo hi/\¬Many K lo.1 lo.2 hi.1 hi.2 r 20000:=by
 have hok:=zr hw h0 h2 h;obtain⟨lo,hi,hb⟩:=uf (oI hok);have k:=Fo (fun L hL=>(h L hL).2.2) hb;have hz:=El hK;exact⟨hok,lo,hi,hb,uF hK (by omega) (by omega)⟩
end Go.Proofs.YtbnlhdnnenahfaaGreatDoor
