/-
  What the document's own Inside tells of any rings and any point; in whatever memory.
-/
import Derived.Test.YtbnlhdnnenahfaaGreatDoorPO1Y
set_option maxHeartbeats 16000000
set_option maxRecDepth 20000
namespace Go.Proofs.YtbnlhdnnenahfaaGreatDoor
open Go.RowKit
theorem zJ (P:Prop):∃b:Bool,b=true↔P:=by
 by_cases h:P
 · exact⟨true,by simp[h]⟩
 · exact⟨false,by simp[h]⟩
theorem EH {p q:Int×Int}{x y c:Int}(hc:c=sgn (crs p q x y)) :
 (p.2<=y/\q.2<=y/\bi (crB p q x y)=0) ∨
 (decide (p.2<=y)=false/\decide (q.2<=y)=false/\bi (crB p q x y)=0) ∨
 (p.2<=y/\decide (q.2<=y)=false/\decide (y<p.2)=false/\0<c/\bi (crB p q x y)=1) ∨
 (p.2<=y/\decide (q.2<=y)=false/\decide (y<p.2)=false/\decide (0<c)=false/\bi (crB p q x y)=0) ∨
 (decide (p.2<=y)=false/\q.2<=y/\y<p.2/\c<0/\bi (crB p q x y)=1) ∨
 (decide (p.2<=y)=false/\q.2<=y/\y<p.2/\decide (c<0)=false/\bi (crB p q x y)=0):=by
 subst hc;have hb:=fy _ _ (dw (p:=p) (q:=q) (x:=x) (y:=y));have hp:=Gx (n:=crs p q x y);have hn:=Gw (n:=crs p q x y);generalize bi (crB p q x y)=b at *;generalize sgn (crs p q x y)=s at *;generalize crs p q x y=d at *;simp only[decide_eq_false_iff_not];omega
theorem Da (s:Value)(G:List (List (Int×Int)))(x y:Int)(b:Bool)(hb:b=true↔InT G x y)(hn:G.length<=1000000)(hl:∀L∈G,L.length<=1000000)(w:World)(hG:RingsL w s G) :
 Calls Tryz.prog 75 #[s,.int .i64 x,.int .i64 y] w fun e w'=>e=.returned (.bool b)/\Below w.heap.size w w':=by
 have PC:=ab (mD s G hn hl w hG);have HG:=ab hG;obtain⟨ob,hob⟩:=zJ (OnT G x y);have ON:=ab fun w h=>JW s G x y ob hob hn hl w h;have HOB:=ab hob;obtain⟨p,cap,hs,-,-⟩:=hG;obtain⟨m,em⟩:∃m,G.length=m:=⟨_,rfl⟩
 have EM:=ab em;rw[em]at hs;subst hs;have HBb:=ab hb;clear em hb hob;by_cases hok:bv G
 · have PC2:Hid (Calls Tryz.prog 17 #[.slice p m cap] w fun e w'=>e=.returned (.int .i64 0)/\Below w.heap.size w w'):=ab (PC.out.mono fun e w' ⟨⟨t,he,ht⟩,hb⟩=>⟨by rw[he,(bV ht).2 hok],hb⟩);have OK:=ab (bI.1 hok);have hm20:m<=20:=by have:=OK.out.1;rw[EM.out]at this;exact this
   clear PC;by_cases hf:ct x y
   · have FA:=ab fun w=>uE hf w;have hbf:b=false:=by
      cases hb1:b with
      | false=>rfl
      | true=>exact absurd hf (HBb.out.1 hb1).2.1
     subst hbf;clear hf hok
     go_enter Tryz.func75,Tryz.ntmps75
     go_wp2_with fail;refine PC2.out.mono ?_;rintro e w1 ⟨rfl,b1⟩;go_wp2_with fail;refine(FA.out _).mono ?_;rintro e w2 ⟨rfl,rfl⟩;go_wp2_with fail;go_ret;exact⟨rfl,b1⟩
   · have FA:=ab fun w=>yX hf w;have HF:=ab hf;have xy: -2147483648<=x/\x<=2147483648∧-2147483648<=y/\y<=2147483648:=by unfold ct at hf;omega
     obtain⟨x1',x2',y1',y2'⟩:=xy;have HO2:Hid (ob=true↔0<onG G x y):=ab (HOB.out.trans ⟨fun h=>h.2.2,fun h=>⟨hok,hf,h⟩⟩);have HB2:Hid (b=true↔0<onG G x y∨crG G x y%2=1):=ab (HBb.out.trans ⟨fun h=>h.2.2,fun h=>⟨hok,hf,h⟩⟩);clear HBb HOB hf hok
     go_enter Tryz.func75,Tryz.ntmps75
     go_wp2_with fail;refine PC2.out.mono ?_;rintro e w1 ⟨rfl,b1⟩;have H1:=ab (HG.out.keep b1);have B1:=ab b1;clear b1 PC2 HG;go_wp2_with fail;refine(FA.out _).mono ?_;rintro e w2 ⟨rfl,rfl⟩;clear FA;cases ob with
     | true =>
      have hbt:b=true:=HB2.out.2 (.inl (HO2.out.1 rfl));subst hbt;go_wp2_with fail;refine(ON.out _ H1.out).mono ?_;rintro e w3 ⟨rfl,b3⟩;go_wp2_with fail;go_ret;exact⟨rfl,ae B1.out b3⟩
     | false =>
     have HB3:Hid (b=true↔crG G x y%2=1):=ab (by
      rw[HB2.out];constructor
      · rintro(h | h)
        · have:=HO2.out.2 h;cases this
        · exact h
      · exact .inr)
     clear HO2 HB2;go_wp2_with fail;refine(ON.out _ H1.out).mono ?_;rintro e w3 ⟨rfl,b3⟩;have H3:=H1.out.keep b3;have B3:=ab (ae B1.out b3);clear b3 B1 H1 ON;obtain⟨p',cap',e',-,hc⟩:=H3;simp only[Value.slice.injEq]at e';obtain⟨rfl,-,rfl⟩:=e';have HC:=ab hc;clear hc;obtain⟨wq,rfl⟩:∃z,z=w3:=⟨_,rfl⟩
     go_wp2_with fail;go_loopw [7,8] (fun v7 v8 wr=>∃(i:Nat) (t:Bool),i<=m/\v8=.int .i64 (i:Int)/\v7=.bool t/\Hid (t=true↔crG (G.take i) x y%2=1)/\Hid (Below wq.heap.size wq wr)) (fun _ v8 _=>m-(intOf v8).toNat)
     case atStart=>exact⟨0,false,by omega,rfl,rfl,ab (by show false=true↔(0:Int)%2=1;simp),ab (Below.refl _ _)⟩
     case round =>
      obtain⟨i,t,hi,rfl,rfl,hZ,hB⟩:=hrel;by_cases him:i<m
      · have him':(i:Int)<(m:Int):=by omega
        have hiG:i<G.length:=by rw[EM.out];exact him
        obtain⟨g,o,s,rfl,z0,hR⟩:=HC.out i hiG;replace z0:=aa hB.out z0;replace hR:=hR.keep hB.out;obtain⟨pR,cR,rfl,-,hcR⟩:=hR;have HCR:=ab hcR;have hmem:=List.getElem_mem hiG;have IW:=ab (OK.out.2.2.2.2 _ hmem);have hlen:=dO hmem;have h500:=OK.out.2.1;have NXT:=ab (Bc x y hiG);obtain⟨R,eR⟩:∃R,G[i]=R:=⟨_,rfl⟩
        rw[eR]at z0 HCR IW hlen NXT;obtain⟨l,el⟩:∃l,R.length=l:=⟨_,rfl⟩
        have EL:=ab el;rw[el]at z0 hlen;have hl500:l<=500:=by omega
        obtain⟨Z,eZ⟩:∃Z,crG (G.take i) x y=Z:=⟨_,rfl⟩
        rw[eZ]at hZ NXT;clear hcR hmem h500 hlen eR el eZ;go_wp2_with fail;clear z0;obtain⟨wi,rfl⟩:∃z,z=wr:=⟨_,rfl⟩
        go_loopw [7,10] (fun v7 v10 wr=>∃(k:Nat) (t:Bool),k<=l/\v10=.int .i64 (k:Int)/\v7=.bool t/\Hid (t=true↔(Z+fD (fun p q=>bi (crB p q x y)) R k)%2=1)/\Hid (Below wi.heap.size wi wr)) (fun _ v10 _=>l-(intOf v10).toNat)
        case atStart=>exact⟨0,t,by omega,rfl,rfl,ab (by rw[hZ.out];show _↔(Z+0)%2=1;rw[Int.add_zero]),ab (Below.refl _ _)⟩
        case round =>
         clear hZ;obtain⟨k,t,hk,rfl,rfl,hP,hX⟩:=hrel;by_cases hkl:k<l
         · have hkl':(k:Int)<(l:Int):=by omega
           have hl0:¬((l:Int)=0):=by omega
           have hl00:((l:Int) == 0)=false:=by simp;omega
           have hkR:k<R.length:=by rw[EL.out];exact hkl
           obtain⟨j,ej,hj,ej1,ej2⟩:=oH hkl;have hjR:j<R.length:=by rw[EL.out];exact hj
           have hj':(j:Int)<(l:Int):=by omega
           obtain⟨g',o',rfl,x0,x1⟩:=HCR.out k hkR;obtain⟨g2,o2,e',y0,y1⟩:=HCR.out j hjR;simp only[Option.some.injEq,Addr.mk.injEq,and_true]at e';obtain⟨rfl,rfl⟩:=e';replace x0:=aa hX.out x0;replace x1:=aa hX.out x1;replace y0:=aa hX.out y0;replace y1:=aa hX.out y1;have hg:=World.block_lt_of_cell? _ _ x0;have CR:=ab fun w=>qR (IW.out _ (List.getElem_mem hkR)) (IW.out _ (List.getElem_mem hjR)) HF.out w;have NX:Hid (fD (fun p q=>bi (crB p q x y)) R (k+1)=fD (fun p q=>bi (crB p q x y)) R k+bi (crB R[k] R[j] x y)):=ab (by
            rw[kB,gh hkR,EL.out,ej,gh hjR])
           obtain⟨c,ec⟩:∃c,c=sgn (crs R[k] R[j] x y):=⟨_,rfl⟩
           have hw:=EH ec;rw[←ec]at CR;clear ej ec;generalize bi (crB R[k] R[j] x y)=d at *;generalize R[k].1=p0 at *;generalize R[k].2=p1 at *;generalize R[j].1=q0 at *;generalize R[j].2=q1 at *;go_wp2_with fail
           go_cut [11,12]from 35 to 87 (fun v11 v12 wx=>∃P Q:Nat,v11=.pointer (some ⟨P,0,none⟩)/\v12=.pointer (some ⟨Q,0,none⟩)/\wx.cell? ⟨P,0,none⟩=some (.int .i64 p0)/\wx.cell? ⟨P,1,none⟩=some (.int .i64 p1)/\wx.cell? ⟨Q,0,none⟩=some (.int .i64 q0)/\wx.cell? ⟨Q,1,none⟩=some (.int .i64 q1)/\Below wr.heap.size wr wx)
           case first =>
            clear hw
            go_big_region
            all_goals
             go_wp2;go_meet
             first
              | exact⟨wr.heap.size,wr.heap.size+1,rfl,rfl,by go_simp,by go_simp,by go_simp,by go_simp,by go_grown⟩
              | exact⟨wr.heap.size+1,wr.heap.size,rfl,rfl,by go_simp,by go_simp,by go_simp,by go_simp,by go_grown⟩
           case rest =>
            clear x0 x1 y0 y1 hg;obtain⟨P,Q,rfl,rfl,m0,m1,n0,n1,hX2⟩:=hcut;have hX3:=ab (ae hX.out hX2);clear hX hX2;rcases hw with⟨h1,h2,rfl⟩ | ⟨h1,h2,rfl⟩ | ⟨h1,h2,h3,h4,rfl⟩ | ⟨h1,h2,h3,h4,rfl⟩ | ⟨h1,h2,h3,h4,rfl⟩ | ⟨h1,h2,h3,h4,rfl⟩
            · have hP2:Hid (t=true↔(Z+fD (fun p q=>bi (crB p q x y)) R (k+1))%2=1):=ab (by rw[hP.out,NX.out,Int.add_zero]);clear hP NX CR;go_wp2_with fail;go_roundw
              case rel=>exact⟨k+1,t,by omega,by go_num,rfl,hP2,hX3⟩
              case measure=>simp[intOf];omega
            · have hP2:Hid (t=true↔(Z+fD (fun p q=>bi (crB p q x y)) R (k+1))%2=1):=ab (by rw[hP.out,NX.out,Int.add_zero]);clear hP NX CR;go_wp2_with fail;go_roundw
              case rel=>exact⟨k+1,t,by omega,by go_num,rfl,hP2,hX3⟩
              case measure=>simp[intOf];omega
            · have hP2:Hid ((!t)=true↔(Z+fD (fun p q=>bi (crB p q x y)) R (k+1))%2=1):=ab (by
               rw[NX.out];have:=hP.out;cases t <;>simp only[Bool.not_true,Bool.not_false,Bool.false_eq_true,false_iff,true_iff]at this ⊢ <;>omega)
              clear hP NX;go_wp2_with fail;refine(CR.out _).mono ?_;rintro e w4 ⟨rfl,b4⟩;replace m0:=aa b4 m0;replace m1:=aa b4 m1;replace n0:=aa b4 n0;replace n1:=aa b4 n1;have hX4:=ab (ae hX3.out b4);clear hX3 b4 CR;go_wp2_with fail;go_roundw
              case rel=>exact⟨k+1, !t,by omega,by go_num,rfl,hP2,hX4⟩
              case measure=>simp[intOf];omega
            · have hP2:Hid (t=true↔(Z+fD (fun p q=>bi (crB p q x y)) R (k+1))%2=1):=ab (by rw[hP.out,NX.out,Int.add_zero]);clear hP NX;go_wp2_with fail;refine(CR.out _).mono ?_;rintro e w4 ⟨rfl,b4⟩;replace m0:=aa b4 m0;replace m1:=aa b4 m1;replace n0:=aa b4 n0;replace n1:=aa b4 n1;have hX4:=ab (ae hX3.out b4);clear hX3 b4 CR;go_wp2_with fail;go_roundw
              case rel=>exact⟨k+1,t,by omega,by go_num,rfl,hP2,hX4⟩
              case measure=>simp[intOf];omega
            · have hP2:Hid ((!t)=true↔(Z+fD (fun p q=>bi (crB p q x y)) R (k+1))%2=1):=ab (by
               rw[NX.out];have:=hP.out;cases t <;>simp only[Bool.not_true,Bool.not_false,Bool.false_eq_true,false_iff,true_iff]at this ⊢ <;>omega)
              clear hP NX;go_wp2_with fail;refine(CR.out _).mono ?_;rintro e w4 ⟨rfl,b4⟩;replace m0:=aa b4 m0;replace m1:=aa b4 m1;replace n0:=aa b4 n0;replace n1:=aa b4 n1;have hX4:=ab (ae hX3.out b4);clear hX3 b4 CR;go_wp2_with fail;go_roundw
              case rel=>exact⟨k+1, !t,by omega,by go_num,rfl,hP2,hX4⟩
              case measure=>simp[intOf];omega
            · have hP2:Hid (t=true↔(Z+fD (fun p q=>bi (crB p q x y)) R (k+1))%2=1):=ab (by rw[hP.out,NX.out,Int.add_zero]);clear hP NX;go_wp2_with fail;refine(CR.out _).mono ?_;rintro e w4 ⟨rfl,b4⟩;replace m0:=aa b4 m0;replace m1:=aa b4 m1;replace n0:=aa b4 n0;replace n1:=aa b4 n1;have hX4:=ab (ae hX3.out b4);clear hX3 b4 CR;go_wp2_with fail;go_roundw
              case rel=>exact⟨k+1,t,by omega,by go_num,rfl,hP2,hX4⟩
              case measure=>simp[intOf];omega
         · obtain rfl:k=l:=by omega
           have hkl':decide ((k:Int)<(k:Int))=false:=by simp
           have hZ2:Hid (t=true↔crG (G.take (i+1)) x y%2=1):=ab (by
            rw[hP.out,NXT.out,←EL.out];rfl)
           have hB2:=ab (ae hB.out hX.out);clear hP hX hkl hB;go_wp2_with fail;go_roundw
           case rel=>exact⟨i+1,t,by omega,by go_num,rfl,hZ2,hB2⟩
           case measure=>simp[intOf];omega
      · obtain rfl:i=m:=by omega
        have him':decide ((i:Int)<(i:Int))=false:=by simp
        have hbt:t=b:=by
         have e:G.take i=G:=List.take_of_length_le (by rw[EM.out];omega);have h2:=hZ.out;rw[e]at h2;exact qJ (h2.trans HB3.out.symm)
        subst hbt;clear hZ him;go_wp2_with fail;go_ret;exact⟨rfl,ae B3.out hB.out⟩
 · have hbf:b=false:=by
    cases hb1:b with
    | false=>rfl
    | true=>exact absurd (HBb.out.1 hb1).1 hok
   subst hbf;have PC2:Hid (Calls Tryz.prog 17 #[.slice p m cap] w fun e w'=>(∃t,e=.returned (.int .i64 t)/\(t != 0)=true)/\Below w.heap.size w w'):=ab (PC.out.mono fun e w' ⟨⟨t,he,ht⟩,hb⟩=>⟨⟨t,he,by simp;exact fun e=>hok ((bV ht).1 e)⟩,hb⟩);clear PC hok HG ON HOB
   go_enter Tryz.func75,Tryz.ntmps75
   go_wp2_with fail;refine PC2.out.mono ?_;rintro e w1 ⟨⟨t,rfl,ht⟩,b1⟩;go_wp2_with fail;go_ret;exact⟨rfl,b1⟩
end Go.Proofs.YtbnlhdnnenahfaaGreatDoor
