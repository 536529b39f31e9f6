/-
  What the document's own Compact tells of any list; in whatever memory.
-/
import Derived.Test.YtbnlhdnnenahfaaGreatDoorPK4Y
import Derived.Test.YtbnlhdnnenahfaaGreatDoorPK3Y
import Derived.Test.YtbnlhdnnenahfaaGreatDoorVLookY
set_option maxHeartbeats 16000000
set_option maxRecDepth 20000
namespace Go.Proofs.YtbnlhdnnenahfaaGreatDoor
open Go.RowKit
def LevIn (N D:List Int)(i:Nat)(U D2:List Int):Prop :=
 (∀x,x∈D2↔x∈D∨(x∈N.take i/\¬gD N (upW x)))/\∀p,p∈U↔∃x∈N.take i,gD N (upW x)/\p=upW x
theorem LevIn.start (N D:List Int):LevIn N D 0 [] D:=⟨fun x=>by simp,fun p=>by simp⟩
theorem LevIn.up {N D U D2:List Int}{i:Nat}(h:LevIn N D i U D2)(hi:i<N.length)(hf:gD N (upW N[i])):LevIn N D (i+1) (U++[upW N[i]]) D2:=by
 refine⟨fun x=>?_,fun p=>?_⟩
 · rw[h.1 x,fH hi];simp only[List.mem_append,List.mem_singleton];constructor
   · rintro(a | ⟨a,b⟩)
     · exact .inl a
     · exact .inr ⟨.inl a,b⟩
   · rintro(a | ⟨a | a,b⟩)
     · exact .inl a
     · exact .inr ⟨a,b⟩
     · exact absurd (a ▸ hf) b
 · rw[List.mem_append,h.2 p,List.mem_singleton,fH hi];constructor
   · rintro(⟨x,a,b,c⟩ | e)
     · exact⟨x,List.mem_append_left _ a,b,c⟩
     · exact⟨N[i],List.mem_append_right _ (List.mem_singleton.2 rfl),hf,e⟩
   · rintro⟨x,a,b,c⟩;rcases List.mem_append.1 a with a | a
     · exact .inl ⟨x,a,b,c⟩
     · rw[List.mem_singleton]at a;exact .inr (by rw[c,a])
theorem LevIn.keep {N D U D2:List Int}{i:Nat}(h:LevIn N D i U D2)(hi:i<N.length)(hf:¬gD N (upW N[i])):LevIn N D (i+1) U (D2++[N[i]]):=by
 refine⟨fun x=>?_,fun p=>?_⟩
 · rw[List.mem_append,h.1 x,List.mem_singleton,fH hi];simp only[List.mem_append,List.mem_singleton];constructor
   · rintro((a | ⟨a,b⟩) | e)
     · exact .inl a
     · exact .inr ⟨.inl a,b⟩
     · exact .inr ⟨.inr e,by rw[e];exact hf⟩
   · rintro(a | ⟨a | a,b⟩)
     · exact .inl (.inl a)
     · exact .inl (.inr ⟨a,b⟩)
     · exact .inr a
 · rw[h.2 p,fH hi];constructor
   · rintro⟨x,a,b,c⟩;exact⟨x,List.mem_append_left _ a,b,c⟩
   · rintro⟨x,a,b,c⟩;rcases List.mem_append.1 a with a | a
     · exact⟨x,a,b,c⟩
     · rw[List.mem_singleton]at a;exact absurd (a ▸ b) hf
theorem LevIn.done {r n:Nat}(hn:n+1<=r)(hr:r<=12){S D N U D2 N':List Int}(h:Lev r (n+1) S D N)(hi:LevIn N D N.length U D2)(hR:aq N')(hN':∀x,x∈N'↔x∈U):Lev r n S D2 N':=by
 have e:N.take N.length=N:=List.take_of_length_le (Nat.le_refl _);refine h.step hn hr (fun x=>?_) hR fun p=>?_
 · rw[hi.1 x,e]
 · rw[hN' p,hi.2 p,e]
def om (w:World):Value->Nat
 | .slice (some a) (_+1) _=>match w.cell? a with
  | some (.int .u64 x)=>(wR x).toNat+1
  | _=>0
 | _=>0
theorem qe {w:World}{base n:Nat}{v:Value}{N:List Int}(h:w.ownsRow base 35 1 v N.length (aj N))(h0:0<N.length)(hr:wR N[0]=(n:Int)):om w v=n+1:=by
 obtain⟨g,c,rfl⟩:=cA h h0;obtain⟨k,hk⟩:∃k,N.length=k+1:=⟨N.length-1,by omega⟩
 have h1:=(bn h).2.1 0 h0;rw[hk];unfold om;simp only[h1,hr];omega
theorem Aw {w:World}{base:Nat}{v:Value}(h:w.ownsRow base 35 1 v 0 []):om w v=0:=by
 obtain⟨p,c,rfl,_⟩:=aA h;cases p <;>rfl
theorem pr {x:Int}(h:Whole x):x / 72057594037927936=16+wR x:=by
 have:=h.1;unfold wR;omega
theorem CD {L:List Int}(hW:∀x∈L,Whole x)(h1:mb L):∃r:Nat,r<=12/\∀x∈L,Whole x/\wR x=(r:Int):=by
 cases L with
 | nil=>exact⟨0,by omega,fun x hx=>by simp at hx⟩
 | cons y M =>
  have hb:=aE y;have h12:=(hW y (List.mem_cons_self ..)).2.1;refine⟨(wR y).toNat,by omega,fun x hx=>⟨hW x hx,?_⟩⟩;have:=h1 x hx y (List.mem_cons_self ..);omega
theorem xi {r:Nat}{L P:List Int}(hr:r<=12)(hL:∀x∈L,Whole x/\wR x=(r:Int))(h:Packed r L P)(r':Nat)(hr':∀x∈L,wR x=(r':Int)):Packed r' L P:=by
 by_cases h0:L=[]
 · subst h0;have hP:=nW hr h;subst hP;refine⟨List.Pairwise.nil,fun x hx=>by simp at hx,fun x hx=>by simp at hx,fun v hv hr h=>by have:=h 0 (by omega);simp at this,fun x hx hr=>?_⟩;constructor
   · rintro⟨q,hq,_⟩;simp at hq
   · intro h;simp at h
 · obtain⟨x,hx⟩:=List.exists_mem_of_ne_nil L h0;have e1:=(hL x hx).2;have e2:=hr' x hx;have:r=r':=by omega
   exact this ▸ h
theorem zO (s:Value)(L:List Int)(hn:L.length<=50000)(uL:∀x∈L,U64 x)(w:World)(hl:Lst w s L) :
 Calls Tryz.prog 25 #[s] w fun e w'=>mc w.heap.size L e w'/\Below w.heap.size w w':=by
 have HL:=ab hl;obtain⟨p,cap,hs,-,hc⟩:=hl;obtain⟨n,en⟩:∃n,L.length=n:=⟨_,rfl⟩
 have EN:=ab en;rw[en]at hs hn;subst hs;have UL:=ab uL;have HC:=ab hc;clear uL en hc;by_cases hbig:20000<n
 · have hT:Hid (20000<L.length):=ab (by rw[EN.out];exact hbig);have hbig':(20000:Int)<(n:Int):=by omega
   clear HL HC
   go_enter Tryz.func25,Tryz.ntmps25
   go_wp2
   go_ret2
   exact⟨.inl ⟨hT.out,rfl⟩,Below.refl _ _⟩
 have hT:Hid (L.length<=20000):=ab (by rw[EN.out];omega);have hbig':decide ((20000:Int)<(n:Int))=false:=df (by omega);have hn2:n<=20000:=by omega
 clear hbig;obtain⟨i0,hi,hz0,hz1,hz2⟩:=info_parts ca
 go_enter Tryz.func25,Tryz.ntmps25
 go_wp2_with fail;go_loopw [4] (fun v4 wr=>∃i:Nat,i<=n/\v4=.int .i64 (i:Int)/\Hid (∀(j:Nat) (hj:j<L.length),j<i->Whole L[j])/\Below w.heap.size w wr) (fun v4 _=>n-(intOf v4).toNat)
 case atStart=>exact⟨0,by omega,rfl,ab fun j _ h=>absurd h (Nat.not_lt_zero _),Below.refl _ _⟩
 case round =>
  obtain⟨i,hi',rfl,hI,hB⟩:=hrel;by_cases hlt:i<n
  · have hlt':(i:Int)<(n:Int):=by omega
    have hiL:i<L.length:=by rw[EN.out];exact hlt
    obtain⟨g,o,rfl,x1⟩:=HC.out i hiL;replace x1:=aa hB x1;have hu:=UL.out _ (List.getElem_mem hiL);have hm:=ab (List.getElem_mem hiL);by_cases hW:Whole L[i]
    · have IK:=ab fun w=>tK L[i] hW w;have hI2:Hid (∀(j:Nat) (hj:j<L.length),j<i+1->Whole L[j]):=ab fun j hj h=>by
       rcases Nat.lt_or_ge j i with k | k
       · exact hI.out j hj k
       · obtain rfl:j=i:=by omega
         exact hW
      clear hW hI hm;generalize L[i]'_=x at *;go_wp2_with fail;refine(IK.out _).mono ?_;rintro e w1 ⟨rfl,b1⟩;have B1:=ae hB b1;go_wp2_with fail;go_roundw
      case rel=>exact⟨i+1,by omega,by go_num,hI2,B1⟩
      case measure=>simp[intOf];omega
    · have IK:=ab fun w=>xD L[i] hu hW w;have hT2:Hid (¬ ∀x∈L,Whole x):=ab fun h=>hW (h _ hm.out);clear hW hI hm;generalize L[i]'_=x at *;go_wp2_with fail;refine(IK.out _).mono ?_;rintro e w1 ⟨rfl,b1⟩;have B1:=ae hB b1;go_wp2_with fail
      go_ret2
      exact⟨.inr (.inl ⟨hT.out,hT2.out,rfl⟩),B1⟩
  · obtain rfl:i=n:=by omega
    have hlt':decide ((i:Int)<(i:Int))=false:=by simp
    have HW:Hid (∀x∈L,Whole x):=ab fun x hx=>by
     obtain⟨j,hj,rfl⟩:=List.mem_iff_getElem.1 hx;exact hI.out j hj (by rw[←EN.out];exact hj)
    clear hI hlt;obtain⟨R0,hR0⟩:∃R0:Int,∀h:0<L.length,wR L[0]=R0:=by
     by_cases h:0<L.length
     · exact⟨wR L[0],fun _=>rfl⟩
     · exact⟨0,fun h'=>absurd h' h⟩
    have HR0:=ab hR0;clear hR0;go_wp2_with fail;go_loopw [5] (fun v5 w2=>∃k:Nat,1<=k/\(k<=i∨k=1)/\v5=.int .i64 (k:Int)/\Hid (∀(j:Nat) (hj:j<L.length),j<k->wR L[j]=R0)/\Below w.heap.size w w2) (fun v5 _=>i+1-(intOf v5).toNat)
    case atStart=>exact⟨1,by omega,.inr rfl,rfl,ab (fun j hj h=>by
     have e:j=0:=(by omega)
     subst e;exact HR0.out hj),hB⟩
    case round =>
     clear hB;obtain⟨k,hk1,hk,rfl,hI,hB⟩:=hrel;by_cases hki:k<i
     · have hki':(k:Int)<(i:Int):=by omega
       have hkL:k<L.length:=by rw[EN.out];exact hki
       have h0L:0<L.length:=by rw[EN.out];omega
       have hi0:(0:Int)<(i:Int):=by omega
       have hi0n:0<i:=by omega
       obtain⟨g,o,rfl,x1⟩:=HC.out k hkL;obtain⟨g',o',e',x0⟩:=HC.out 0 h0L;simp only[Option.some.injEq,Addr.mk.injEq,and_true]at e';obtain⟨rfl,rfl⟩:=e';replace x1:=aa hB x1;replace x0:=aa hB x0;rw[Nat.add_zero]at x0;have q1:=pr (HW.out _ (List.getElem_mem hkL));have q0:=pr (HW.out _ (List.getElem_mem h0L));have u1:=UL.out _ (List.getElem_mem hkL);have u0:=UL.out _ (List.getElem_mem h0L);have hm1:=ab (List.getElem_mem hkL);have hm0:=ab (List.getElem_mem h0L);rw[HR0.out h0L]at q0;by_cases hr:wR L[k]=R0
       · have hI2:Hid (∀(j:Nat) (hj:j<L.length),j<k+1->wR L[j]=R0):=ab fun j hj h=>by
          rcases Nat.lt_or_ge j k with q | q
          · exact hI.out j hj q
          · obtain rfl:j=k:=by omega
            exact hr
         rw[hr]at q1;clear hI hm1 hm0 hr;generalize L[k]'_=x at *;generalize L[0]'_=y at *;obtain⟨X,eX⟩:∃X,x / 72057594037927936=X:=⟨_,rfl⟩
         obtain⟨Y,eY⟩:∃Y,y / 72057594037927936=Y:=⟨_,rfl⟩
         have hne:(X != Y)=false:=by simp;omega
         clear q1 q0;go_wp2_with fail
         go_quiet (fail)
         go_wp2_with fail;go_roundw
         case rel=>exact⟨k+1,by omega,.inl (by omega),by go_num,hI2,by first | exact hB | exact aB hB _⟩
         case measure=>simp[intOf];omega
       · have hT2:Hid (¬mb L):=ab fun h=>hr (by rw[←HR0.out h0L];exact h _ hm1.out _ hm0.out);clear hI hm1 hm0;generalize wR L[k]=R2 at *;generalize L[k]'_=x at *;generalize L[0]'_=y at *;obtain⟨X,eX⟩:∃X,x / 72057594037927936=X:=⟨_,rfl⟩
         obtain⟨Y,eY⟩:∃Y,y / 72057594037927936=Y:=⟨_,rfl⟩
         have hne:(X != Y)=true:=by simp;omega
         clear q1 q0 hr;go_wp2_with fail
         go_quiet (fail)
         go_wp2_with fail
         go_ret2
         exact⟨.inr (.inr (.inl ⟨hT.out,HW.out,hT2.out,rfl⟩)),by first | exact hB | exact aB hB _⟩
     · have hki':decide ((k:Int)<(i:Int))=false:=df (by omega);have h1:mb L:=fun x hx y hy=>by
        obtain⟨a,ha,rfl⟩:=List.mem_iff_getElem.1 hx;obtain⟨b,hb,rfl⟩:=List.mem_iff_getElem.1 hy;have e:=EN.out;rw[hI.out a ha (by omega),hI.out b hb (by omega)]
       have H1:=ab h1;obtain⟨r,hr12,hS⟩:=CD HW.out h1;have HS:=ab hS;have FIN:Hid (∀P,Packed r L P->∀r':Nat,(∀x∈L,wR x=(r':Int))->Packed r' L P):=ab fun P h r' hr'=>xi hr12 hS h r' hr';have SE:=ab (mu L i EN.out (by omega) UL.out p cap wr (fun j hj=>by
        obtain⟨g,o,e,hc⟩:=HC.out j hj;exact⟨g,o,e,aa hB hc⟩))
       have B0:=ab hB;clear hI hB h1 hS HC;go_wp2_with fail;refine SE.out.mono ?_;rintro e w3 ⟨⟨v6,N0,rfl,n1,n2,n3,n4⟩,b3⟩;have B3:=ab (ae B0.out b3);have LV0:=ab (Lev.start n1 n2 HS.out);have NL:Hid (([]:List Int).length+N0.length<=i):=ab (by simpa using n3);have O6:=ab (bo n4 B0.out.size);have O7:Hid (w3.ownsRow w.heap.size 35 1 (.slice none 0 0) ([]:List Int).length (aj [])):=ab (World.ownsRow_nil _ _ _ _);have A67:Hid (Apart v6 (.slice none 0 0)):=ab (.inr (.inl rfl));clear n1 n2 n3 n4 b3 B0 SE;obtain⟨v0,ev0⟩:∃v,v=v6:=⟨_,rfl⟩
       obtain⟨p6,c6,rfl,-⟩:=aA O6.out;go_wp2_with fail;go_loopw [6,7] (fun v6 v7 wr=>∃(t:Nat) (N D:List Int),t<=r/\Hid (Lev r t L D N)/\Hid (D.length+N.length<=i)/\Hid (wr.ownsRow w.heap.size 35 1 v6 N.length (aj N))/\Hid (wr.ownsRow w.heap.size 35 1 v7 D.length (aj D))/\Hid (Apart v6 v7)/\Hid (Below w.heap.size w wr)) (fun v6 _ wr=>om wr v6)
       case atStart=>exact⟨r,N0,[],by omega,LV0,NL,O6,O7,A67,B3⟩
       case round =>
        clear LV0 NL O6 O7 A67 B3 ev0;obtain⟨t,N,D,htr,hLV,hNL,h6,h7,hA,hB⟩:=hrel;have hsB:=hB.out.size;by_cases hgo:0<N.length/\0<t
        · obtain⟨hN0,ht0⟩:=hgo;obtain⟨t1,rfl⟩:∃t1,t=t1+1:=⟨t-1,by omega⟩
          have hw0:=hLV.out.2.2.1 _ (List.getElem_mem hN0);have TP:=ab (qe h6.out hN0 hw0.2);obtain⟨m,em⟩:∃m,N.length=m:=⟨_,rfl⟩
          have EM:=ab em;rw[em]at h6 hN0;obtain⟨dl,ed⟩:∃d,D.length=d:=⟨_,rfl⟩
          have ED:=ab ed;rw[ed]at h7;have hdm:dl+m<=i:=by have:=hNL.out;omega
          obtain⟨g6,c6',rfl⟩:=cA h6.out hN0;have c0:=(bn h6.out).2.1 0 (by omega);have X1:=pZ hw0.1;rw[hw0.2]at X1;have u0:=aC hw0.1;obtain⟨p7,c7,rfl,-⟩:=aA h7.out;have hm0:(0:Int)<(m:Int):=by omega
          have ht1:(0:Int)<((t1+1:Nat):Int):=by omega
          obtain⟨T,eT⟩:∃T:Int,((t1+1:Nat):Int)=T:=⟨_,rfl⟩
          rw[eT]at X1 ht1;clear hw0 em ed hNL eT;generalize N[0]'_=z at *;obtain⟨Z,eZ⟩:∃Z,z / 72057594037927936=Z:=⟨_,rfl⟩
          rw[eZ]at X1;go_wp2_with fail;clear c0 X1 u0 ht1;obtain⟨wk,rfl⟩:∃z,z=wr:=⟨_,rfl⟩
          go_loopw [8,7,9] (fun v8 v7 v9 wi=>∃(q u d:Nat) (U D2:List Int),q<=m/\v9=.int .i64 (q:Int)/\d+u=dl+q/\u<=q/\Hid (LevIn N D q U D2)/\Hid (wi.ownsRow w.heap.size 35 1 v8 u (aj U))/\Hid (wi.ownsRow w.heap.size 35 1 v7 d (aj D2))/\Hid (wi.ownsRow w.heap.size 35 1 (.slice (some ⟨g6,0,none⟩) m c6') m (aj N))/\Hid (Apart v8 v7/\Apart v8 (.slice (some ⟨g6,0,none⟩) m c6')/\Apart (.slice (some ⟨g6,0,none⟩) m c6') v7)/\Hid (Below w.heap.size w wi)) (fun _ _ v9 _=>m-(intOf v9).toNat)
          case atStart=>exact⟨0,0,dl,[],D,by omega,rfl,by omega,by omega,ab (LevIn.start N D),ab (World.ownsRow_nil _ _ _ _),h7,h6,ab ⟨.inl rfl,.inl rfl,hA.out⟩,hB⟩
          case round =>
           clear h6 h7 hA hB hsB;obtain⟨q,u,d,U,D2,hq,rfl,hdu,huq,hLI,h8,h7,h6,hA,hB⟩:=hrel;have hsB:=hB.out.size;obtain⟨p8,c8,rfl,-⟩:=aA h8.out;obtain⟨p7,c7,rfl,-⟩:=aA h7.out;by_cases hqm:q<m
           · have hqm':(q:Int)<(m:Int):=by omega
             have hqN:q<N.length:=by rw[EM.out];exact hqm
             have c0:=(bn h6.out).2.1 q hqN;have hx:=hLV.out.2.2.1 _ (List.getElem_mem hqN);have hup:=bh hx.1 (by omega);have UPx:=ab fun w=>Dk N[q] hx.1 (by omega) w;have KX:=ab fun w=>Ip (upW N[q]) hup.1 (by have:=hx.2;have:=hr12;omega) w;have upx:=aC hup.1;have CHU:Hid (∀y:Nat,y<=6->U64 (chW (upW N[q]) y)):=ab fun y hy=>by
              have:=aC (bJ hup.1 (by have:=hx.2;have:=hr12;omega) hy).1;exact⟨by omega,by omega⟩
             have ux:=aC hx.1;have YES:Hid (gD N (upW N[q])->LevIn N D (q+1) (U++[upW N[q]]) D2):=ab fun h=>hLI.out.up hqN h;have NOT:Hid (¬gD N (upW N[q])->LevIn N D (q+1) U (D2++[N[q]])):=ab fun h=>hLI.out.keep hqN h;clear hx hup hLI;generalize hpp:upW N[q]=pp at *;generalize N[q]'_=x at *;clear hpp;go_wp2_with fail;refine(UPx.out _).mono ?_;rintro e w4 ⟨rfl,b4⟩;have C0:=aa b4 c0;have B4:=ab (ae hB.out b4);have h8b:=ab (ai b4 h8.out);have h7b:=ab (ai b4 h7.out);have h6b:=ab (ai b4 h6.out);clear c0 b4 hB h8 h7 h6 UPx;go_wp2_with fail;refine(KX.out _).mono ?_;rintro e w5 ⟨⟨gk,ck,rfl,hck⟩,b5⟩;have c0:=ab (aa b5 C0);have B5:=ab (ae B4.out b5);have h8:=ab (ai b5 h8b.out);have h7:=ab (ai b5 h7b.out);have h6:=ab (ai b5 h6b.out);have HK:=ab hck;have hs5:=B5.out.size;clear C0 b5 B4 h8b h7b h6b KX hck;have LN:=ab (Lst.own h6.out);go_wp2_with fail;obtain⟨wj,rfl⟩:∃z,z=w5:=⟨_,rfl⟩
             go_loopw [13,14] (fun v13 v14 wx=>∃(j:Nat) (b:Bool),j<=7/\v14=.int .i64 (j:Int)/\v13=.bool b/\Hid (b=true↔∀y:Nat,y<j->chW pp y∈N)/\Hid (Below wj.heap.size wj wx)) (fun _ v14 _=>7-(intOf v14).toNat)
             case atStart=>exact⟨0,true,by omega,rfl,rfl,ab (by simp),ab (Below.refl _ _)⟩
             case round =>
              obtain⟨j,b,hj,rfl,rfl,hAll,hX⟩:=hrel;by_cases hj7:j<7
              · have hj7':(j:Int)<7:=by omega
                cases b with
                | true =>
                 have ck0:=aa hX.out (HK.out j hj7);have HS1:=ab (JT (.slice (some ⟨g6,0,none⟩) N.length c6') N (chW pp j) (CHU.out j (by omega)) hLV.out.2.1 (fun y hy=>by have:=aC (hLV.out.2.2.1 y hy).1;exact⟨by omega,by omega⟩) (by rw[EM.out];omega) wr (by rw[EM.out];exact LN.out.keep hX.out));rw[EM.out]at HS1;have hA2:Hid (decide (chW pp j∈N)=true↔∀y:Nat,y<j+1->chW pp y∈N):=ab (by
                  rw[decide_eq_true_iff];constructor
                  · intro h y hy;rcases Nat.lt_or_ge y j with c | c
                    · exact hAll.out.1 rfl y c
                    · obtain rfl:y=j:=by omega
                      exact h
                  · intro h;exact h j (by omega))
                 clear hAll;generalize decide (chW pp j∈N)=b2 at *;generalize chW pp j=y at *;go_wp2_with fail;refine HS1.out.mono ?_;rintro e w6 ⟨rfl,b6⟩;have X6:=ab (ae hX.out b6);go_wp2_with fail;go_roundw
                 case rel=>exact⟨j+1,b2,by omega,by go_num,rfl,hA2,X6⟩
                 case measure=>simp[intOf];omega
                | false =>
                 have hA2:Hid (false=true↔∀y:Nat,y<j+1->chW pp y∈N):=ab (by
                  constructor
                  · intro h;cases h
                  · intro h;exact hAll.out.2 fun y hy=>h y (by omega))
                 clear hAll;go_wp2_with fail;go_roundw
                 case rel=>exact⟨j+1,false,by omega,by go_num,rfl,hA2,hX⟩
                 case measure=>simp[intOf];omega
              · obtain rfl:j=7:=by omega
                have B6:=ab (ae B5.out hX.out);have h8b:=ab (ai hX.out h8.out);have h7b:=ab (ai hX.out h7.out);have h6b:=ab (ai hX.out h6.out);have C0:=aa hX.out c0.out;have hs6:=B6.out.size;clear B5 h8 h7 h6 c0 hX LN HK hj7;cases b with
                | true =>
                 have hLI2:=ab (YES.out fun y hy=>hAll.out.1 rfl y (by omega));clear hAll YES NOT;go_wp2_with (at_builtin;refine dQ rfl (.tmp 89) (.tmp 91) 22 rfl w.heap.size 35 i0 (.int .u64 0) 1 8 Tryz.underlying22 hi hz0 hz1 hz2 rfl (by decide) _ _ _ rfl (ai (ag _ _) h8b.out) ⟨wr.heap.size,0,none⟩ 1 1 (by decide) [.int .u64 pp] rfl rfl (bf _ _ rfl _ _) (bK _ _) (by unfold maxLen;omega) (by omega) (by simp;omega) ?_)
                 intro v' w7 hown hgrow hblk;have al:=ag wr (.cells #[.int .u64 pp] 35);have B7:=ab ((B6.out.alloc hs6 (.cells #[.int .u64 pp] 35)).grown hgrow (by simp;omega) (aM h8b.out));have h8c:Hid (w7.ownsRow w.heap.size 35 1 v' (u+1) (aj (U++[pp]))):=ab (by rw[show aj (U++[pp])=aj U++[.int .u64 pp]by simp[aj]];exact hown);have h7c:=ab ((ai al h7b.out).kept hgrow hA.out.1.symm.kept);have h6c:=ab ((ai al h6b.out).kept hgrow hA.out.2.1.symm.kept);have A7:=ab (And.intro (gg hA.out.1 (ai al h7b.out) (hblk.imp_right fun h=>h.trans (by simp))) (And.intro (gg hA.out.2.1 (ai al h6b.out) (hblk.imp_right fun h=>h.trans (by simp))) hA.out.2.2));clear hown hgrow hblk h8b h7b h6b hA B6 C0 al;go_wp2_with fail;go_roundw
                 case rel=>exact⟨q+1,u+1,d,U++[pp],D2,by omega,by go_num,by omega,by omega,hLI2,h8c,h7c,h6c,A7,B7⟩
                 case measure=>simp[intOf];omega
                | false =>
                 have hLI2:=ab (NOT.out fun h=>by
                  have:=hAll.out.2 fun y hy=>h y (by omega);cases this)
                 clear hAll YES NOT;go_wp2_with (at_builtin;refine dQ rfl (.tmp 93) (.tmp 98) 22 rfl w.heap.size 35 i0 (.int .u64 0) 1 8 Tryz.underlying22 hi hz0 hz1 hz2 rfl (by decide) _ _ _ rfl (ai (ag _ _) h7b.out) ⟨wr.heap.size,0,none⟩ 1 1 (by decide) [.int .u64 x] rfl rfl (bf _ _ rfl _ _) (bK _ _) (by unfold maxLen;omega) (by omega) (by simp;omega) ?_)
                 intro v' w7 hown hgrow hblk;have al:=ag wr (.cells #[.int .u64 x] 35);have B7:=ab ((B6.out.alloc hs6 (.cells #[.int .u64 x] 35)).grown hgrow (by simp;omega) (aM h7b.out));have h7c:Hid (w7.ownsRow w.heap.size 35 1 v' (d+1) (aj (D2++[x]))):=ab (by rw[show aj (D2++[x])=aj D2++[.int .u64 x]by simp[aj]];exact hown);have h8c:=ab ((ai al h8b.out).kept hgrow hA.out.1.kept);have h6c:=ab ((ai al h6b.out).kept hgrow hA.out.2.2.kept);have A7:=ab (And.intro (gg hA.out.1.symm (ai al h8b.out) (hblk.imp_right fun h=>h.trans (by simp))).symm (And.intro hA.out.2.1 (gg hA.out.2.2.symm (ai al h6b.out) (hblk.imp_right fun h=>h.trans (by simp))).symm));clear hown hgrow hblk h8b h7b h6b hA B6 C0 al;go_wp2_with fail;go_roundw
                 case rel=>exact⟨q+1,u,d+1,U,D2++[x],by omega,by go_num,by omega,by omega,hLI2,h8c,h7c,h6c,A7,B7⟩
                 case measure=>simp[intOf];omega
           · obtain rfl:q=m:=by omega
             have hqm':decide ((q:Int)<(q:Int))=false:=by simp
             have hLI2:Hid (LevIn N D N.length U D2):=ab (by rw[EM.out];exact hLI.out);have UU:Hid (∀x∈U,U64 x):=ab fun x hx=>by
              obtain⟨y,hy,-,rfl⟩:=(hLI.out.2 x).1 hx;have hyN:=hLV.out.2.2.1 y (List.mem_of_mem_take hy);have:=aC (bh hyN.1 (by have:=hyN.2;omega)).1;exact⟨by omega,by omega⟩
             have lU:U.length=u:=by have:=h8.out.1;rw[aD]at this;omega
             have lD:D2.length=d:=by have:=h7.out.1;rw[aD]at this;omega
             have SE:=ab (mu U u lU (by omega) UU.out p8 c8 wr (by
              obtain⟨p',c',e',-,hc'⟩:=Lst.own h8.out;simp only[Value.slice.injEq]at e';obtain⟨rfl,-,rfl⟩:=e';exact hc'))
             clear hLI h8 h6 hA hqm;go_wp2_with fail;refine SE.out.mono ?_;rintro e w7 ⟨⟨v6',N',rfl,k1,k2,k3,k4⟩,b7⟩;have LV2:=ab (hLI2.out.done htr hr12 hLV.out k1 k2);have h7b:Hid (w7.ownsRow w.heap.size 35 1 (.slice p7 d c7) D2.length (aj D2)):=ab (by rw[lD];exact ai b7 h7.out);have A2:=ab (yn h7.out k4).symm;have B7:=ab (ae hB.out b7);have h6b:=ab (bo k4 hsB);have NL2:Hid (D2.length+N'.length<=i):=ab (by omega);have MS:Hid (om w7 v6'<t1+1+1):=ab (by
              by_cases h0:0<N'.length
              · have hw:=LV2.out.2.2.1 _ (List.getElem_mem h0);rw[qe k4 h0 hw.2];omega
              · have e0:N'=[]:=List.length_eq_zero_iff.1 (by omega);subst e0;rw[Aw k4];omega)
             clear k1 k2 k3 k4 b7 SE h7 hB UU lU lD hLI2;go_wp2_with fail;go_roundw
             case rel=>exact⟨t1,N',D2,by omega,LV2,NL2,h6b,h7b,A2,B7⟩
             case measure=>rw[TP.out];exact MS.out
        · have hend:t=0∨N=[]:=by
           by_cases h0:N.length=0
           · exact .inr (List.length_eq_zero_iff.1 h0)
           · exact .inl (by omega)
          have LV:=hLV.out;have uu:Hid (∀x∈D++N,U64 x):=ab fun x hx=>by
           have hw:Whole x:=(List.mem_append.1 hx).elim (fun h=>(LV.1 x h).1) (fun h=>(LV.2.2.1 x h).1);have:=aC hw;exact⟨by omega,by omega⟩
          have DN:Hid (∀K,aq K->(∀x,x∈K↔x∈D++N)->Packed r L K):=ab fun K k1 k2=>LV.done htr hend k1 k2;have c58:N.length=0∨(0<N.length/\t=0):=by omega
          have LN:=ab (Lst.own h6.out);have AD:=ab (jE h6.out);have B6:=ab hB.out;have h7b:=ab h7.out;have NL:=hNL.out;obtain⟨p7,c7,rfl,-⟩:=aA h7.out;have RET:Hid (∀wc,Below w.heap.size w wc->∀(v9:Value),wc.ownsRow w.heap.size 35 1 v9 (D.length+N.length) (aj (D++N))->Calls Tryz.prog 12 #[v9] wc fun e w'=>(∃sl K,e=.returned sl/\Packed r L K/\K.length<=i/\w'.ownsRow w.heap.size 35 1 sl K.length (aj K))/\Below wc.heap.size wc w'):=ab fun wc hbc v9 h9=>by
           obtain⟨p9,c9,rfl,-⟩:=aA h9;refine(mu (D++N) (D.length+N.length) (by simp) (by omega) uu.out p9 c9 wc (by
            obtain⟨p',c',e',-,hc'⟩:=Lst.own h9;simp only[Value.slice.injEq]at e';obtain⟨rfl,-,rfl⟩:=e';exact hc')).mono ?_
           rintro e w' ⟨⟨v,K,rfl,k1,k2,k3,k4⟩,hb⟩;exact⟨⟨v,K,rfl,DN.out K k1 k2,by omega,bo k4 hbc.size⟩,hb⟩
          rcases c58 with h0 | ⟨h0,rfl⟩
          · have h0':decide ((0:Int)<(N.length:Int))=false:=df (by omega);have h0n:decide (0<N.length)=false:=df (by omega);obtain⟨p6,c6,rfl,-⟩:=aA h6.out;clear hLV hNL h6 h7 hA hB hgo DN uu LV h0;go_wp2_with (at_builtin;refine gH (by rfl) (.tmp 102) (.tmp 103) rfl w.heap.size _ D.length (aj D) rfl h7b.out _ N rfl LN.out AD.out (by omega) B6.out.size ?_)
            intro v9 w7 hown hgrow;rw[←sJ]at hown;have B7:=ab (B6.out.grown hgrow B6.out.size (aM h7b.out));have R7:=ab (RET.out w7 B7.out v9 hown);clear hown hgrow RET h7b LN AD;go_wp2_with fail;refine R7.out.mono ?_;rintro e w8 ⟨⟨sl,K,rfl,k1,k2,k3⟩,b8⟩;have FN:=ab (And.intro k1 (And.intro k2 k3));have B8:=ab (ae B7.out b8);obtain⟨pp,cc,rfl,-⟩:=aA k3;clear k1 k2 k3 b8 R7;go_wp2
            go_ret2
            exact⟨.inr (.inr (.inr ⟨hT.out,HW.out,H1.out,_,K,rfl,FIN.out K FN.out.1,by have:=FN.out.2.1;have:=EN.out;omega,Lst.own FN.out.2.2,jE FN.out.2.2,FN.out.2.2⟩)),B8.out⟩
          · have h0':(0:Int)<(N.length:Int):=by omega
            have h0n:0<N.length:=h0;obtain⟨g6,c6,rfl⟩:=cA h6.out h0;have c0:=(bn h6.out).2.1 0 h0;have hw0:=hLV.out.2.2.1 _ (List.getElem_mem h0);have X1:=pZ hw0.1;rw[hw0.2,show((0:Nat):Int)=0 from rfl]at X1;have u0:=aC hw0.1;clear hLV hNL h6 h7 hA hB hgo DN uu LV hw0;generalize N[0]'_=z at *;obtain⟨Z,eZ⟩:∃Z,z / 72057594037927936=Z:=⟨_,rfl⟩
            rw[eZ]at X1;go_wp2_with (at_builtin;refine gH (by rfl) (.tmp 102) (.tmp 103) rfl w.heap.size _ D.length (aj D) rfl h7b.out _ N rfl LN.out AD.out (by omega) B6.out.size ?_)
            intro v9 w7 hown hgrow;rw[←sJ]at hown;have B7:=ab (B6.out.grown hgrow B6.out.size (aM h7b.out));have R7:=ab (RET.out w7 B7.out v9 hown);clear hown hgrow RET h7b LN AD c0 X1;go_wp2_with fail;refine R7.out.mono ?_;rintro e w8 ⟨⟨sl,K,rfl,k1,k2,k3⟩,b8⟩;have FN:=ab (And.intro k1 (And.intro k2 k3));have B8:=ab (ae B7.out b8);obtain⟨pp,cc,rfl,-⟩:=aA k3;clear k1 k2 k3 b8 R7;go_wp2
            go_ret2
            exact⟨.inr (.inr (.inr ⟨hT.out,HW.out,H1.out,_,K,rfl,FIN.out K FN.out.1,by have:=FN.out.2.1;have:=EN.out;omega,Lst.own FN.out.2.2,jE FN.out.2.2,FN.out.2.2⟩)),B8.out⟩
end Go.Proofs.YtbnlhdnnenahfaaGreatDoor
