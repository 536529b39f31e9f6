/-
  What Compact of package pack tells of any list; in whatever memory.
-/
import Derived.Test.YtbnlhdnnenahfaaGreatDoorUSY
import Derived.Test.YtbnlhdnnenahfaaGreatDoorPK2Y
set_option maxHeartbeats 4000000
set_option maxRecDepth 20000
namespace Go.Proofs.YtbnlhdnnenahfaaGreatDoor
open Go.RowKit
theorem nV (s:Value)(L:List Int)(hn:L.length<=50000)(uL:∀x∈L,U64 x)(b:Bool)(hb:b=true↔∀x∈L,Whole x)(w:World)(hl:Lst w s L) :
 Calls Tryz.prog 69 #[s] w fun e w'=>e=.returned (.bool b)/\Below w.heap.size w w':=by
 obtain⟨p,cap,rfl,-,hc⟩:=hl;obtain⟨n,en⟩:∃n,L.length=n:=⟨_,rfl⟩
 have HC:=ab hc;have EN:=ab en;have UL:=ab uL;have HB:=ab hb;rw[en]at hn ⊢;clear hc en uL hb
 go_enter Tryz.func69,Tryz.ntmps69
 go_wp2_with fail;go_loopw [7] (fun v7 wr=>∃i:Nat,i<=n/\v7=.int .i64 (i:Int)/\Hid (∀(j:Nat) (hj:j<L.length),j<i->Whole L[j])/\Below w.heap.size w wr) (fun v7 _=>n-(intOf v7).toNat)
 case atStart=>exact⟨0,by omega,rfl,ab fun j _ h=>absurd h (Nat.not_lt_zero _),Below.refl _ _⟩
 case round =>
  obtain⟨i,hi,rfl,hI,hB⟩:=hrel;by_cases hlt:i<n
  · have hiL:i<L.length:=by rw[EN.out];exact hlt
    obtain⟨g,o,rfl,x1⟩:=HC.out i hiL;replace x1:=aa hB x1;have hu:=UL.out _ (List.getElem_mem hiL);have hm:=ab (List.getElem_mem hiL);by_cases hW:Whole L[i]
    · have IK:=ab fun w=>iok L[i] hu true (by simp[hW]) w;have hI2:Hid (∀(j:Nat) (hj:j<L.length),j<i+1->Whole L[j]):=ab fun j hj h=>by
       rcases Nat.lt_or_ge j i with k | k
       · exact hI.out j hj k
       · obtain rfl:j=i:=by omega
         exact hW
      clear hW hI hm;generalize L[i]'_=x at *;go_wp2_with fail;refine(IK.out _).mono ?_;rintro e w1 ⟨rfl,b1⟩;have B1:=ae hB b1;go_wp2_with fail;go_roundw
      case rel=>exact⟨i+1,by omega,by go_num,hI2,B1⟩
      case measure=>simp[intOf];omega
    · have IK:=ab fun w=>iok L[i] hu false (by simp[hW]) w;have hT:Hid (b=false):=ab (by
       cases hb:b with
       | false=>rfl
       | true=>exact absurd (HB.out.1 hb _ hm.out) hW)
      clear hW hI hm;generalize L[i]'_=x at *;go_wp2_with fail;refine(IK.out _).mono ?_;rintro e w1 ⟨rfl,b1⟩;have B1:=ae hB b1;go_wp2_with fail;go_ret;exact⟨by rw[hT.out];rfl,B1⟩
  · obtain rfl:i=n:=by omega
    have hT:Hid (b=true):=ab (HB.out.2 fun x hx=>by
     obtain⟨j,hj,rfl⟩:=List.mem_iff_getElem.1 hx;exact hI.out j hj (by rw[←EN.out];exact hj))
    clear hI;go_wp2_with fail;go_ret;exact⟨by rw[hT.out];rfl,hB⟩
def mb (L:List Int):Prop:=∀x∈L,∀y∈L,wR x=wR y
theorem rG (s:Value)(L:List Int)(hn:L.length<=50000)(hL:∀x∈L,Whole x)(b:Bool)(hb:b=true↔mb L)(w:World)(hl:Lst w s L) :
 Calls Tryz.prog 70 #[s] w fun e w'=>e=.returned (.bool b)/\Below w.heap.size w w':=by
 have HL:=ab hl;obtain⟨p,cap,rfl,-,hc⟩:=hl;obtain⟨n,en⟩:∃n,L.length=n:=⟨_,rfl⟩
 have uL:∀x∈L,U64 x:=fun x hx=>by have:=aC (hL x hx);exact⟨by omega,by omega⟩
 cases n with
 | zero =>
  have e:L=[]:=List.length_eq_zero_iff.1 en;have hb1:b=true:=hb.2 (by rw[e];intro x hx;simp at hx);subst hb1;clear HL hc hb hL uL hn;rw[en];clear en e
  go_enter Tryz.func70,Tryz.ntmps70
  go_wp2;go_ret;exact⟨rfl,Below.refl _ _⟩
 | succ n =>
  have h0:0<L.length:=by omega
  obtain⟨g,o,rfl,x0⟩:=hc 0 h0;rw[Nat.add_zero]at x0;have hn0:((n:Int)+1 == 0)=false:=by simp;omega
  have hm:L[0]∈L:=List.getElem_mem h0;have RS:=ab fun w=>rk L[0] (hL _ hm) w;have CK:=ab fun w h=>Hd (.slice (some ⟨g,o,none⟩) L.length cap) L (wR L[0]) hn uL w h;have HB:=ab hb;have HH:=ab hL;have HM:=ab hm;rw[en]at CK HL ⊢;clear hc hb hL uL hn en hm;obtain⟨x,ex⟩:∃x,L[0]=x:=⟨_,rfl⟩
  have EX:=ab ex;rw[ex]at x0 RS CK HM;clear ex;obtain⟨r,er⟩:∃r,wR x=r:=⟨_,rfl⟩
  rw[er]at RS CK;have ER:=ab er;clear er
  go_enter Tryz.func70,Tryz.ntmps70
  go_wp2_with fail;refine(RS.out _).mono ?_;rintro e w1 ⟨rfl,b1⟩;have B1:=ab b1;clear b1 x0;go_wp2_with fail;refine(CK.out _ (HL.out.keep B1.out)).mono ?_;rintro e w2 ⟨⟨t,rfl,hT⟩,b2⟩;have B2:=ab (ae B1.out b2);have hbt:(t == 0)=b:=by
   by_cases ht:t=0
   · subst ht;rcases hT with⟨_,h⟩ | ⟨i,hi,_,h⟩
     · have:b=true:=HB.out.2 fun y hy z hz=>by
        obtain⟨j,hj,rfl⟩:=List.mem_iff_getElem.1 hy;obtain⟨k,hk,rfl⟩:=List.mem_iff_getElem.1 hz;rw[(h j hj).2,(h k hk).2]
       rw[this];rfl
     · rcases h with⟨h,_⟩ | ⟨h,_⟩ <;>omega
   · have:b=false:=by
      cases hb:b with
      | false=>rfl
      | true =>
       rcases hT with⟨h,_⟩ | ⟨i,hi,_,h⟩
       · exact absurd h ht
       · rcases h with⟨_,h⟩ | ⟨_,_,h⟩
         · exact absurd (HH.out _ (List.getElem_mem hi)) h
         · exact absurd (HB.out.1 hb _ (List.getElem_mem hi) _ HM.out) (by rw[ER.out];exact h)
     rw[this];simp[ht]
  clear hT CK RS b2 HL;cases b
  all_goals
   go_wp2;go_ret;exact⟨rfl,B2.out⟩
theorem Packed.congr {r:Nat}{S T P:List Int}(h:Packed r S P)(e:∀x,x∈S↔x∈T):Packed r T P:=⟨h.1,h.2.1,h.2.2.1,h.2.2.2.1,fun x hx hr=>by rw[h.2.2.2.2 x hx hr,e x]⟩
def mc (C:Nat)(L:List Int)(e:Ending)(w':World):Prop :=
 (20000<L.length/\e=.returned (.tuple #[.slice none 0 0,.int .i64 7])) ∨
 (L.length<=20000/\(¬ ∀x∈L,Whole x)/\e=.returned (.tuple #[.slice none 0 0,.int .i64 5])) ∨
 (L.length<=20000/\(∀x∈L,Whole x)/\¬mb L/\e=.returned (.tuple #[.slice none 0 0,.int .i64 8])) ∨
 (L.length<=20000/\(∀x∈L,Whole x)/\mb L/\∃(sl:Value) (P:List Int),e=.returned (.tuple #[sl,.int .i64 0])/\(∀r:Nat,(∀x∈L,wR x=(r:Int))->Packed r L P)/\P.length<=L.length/\Lst w' sl P/\Addressed sl/\w'.ownsRow C 35 1 sl P.length (aj P))
theorem jE {w:World}{base:Nat}{e:TypeId}{size:Nat}{v:Value}{n:Nat}{xs:List Value}(h:w.ownsRow base e size v n xs):Addressed v:=by
 rcases h.2 with⟨rfl,_⟩ | ⟨g,c,cur,rfl,_⟩
 · exact .inl rfl
 · exact .inr ⟨_,_,_,rfl⟩
theorem nW {r:Nat}(hr:r<=12){P:List Int}(h:Packed r [] P):P=[]:=by
 cases P with
 | nil=>rfl
 | cons p P =>
  have hp:=h.2.1 p (List.mem_cons_self ..);have hb:=aE p;obtain⟨x,h1,h2,h3⟩:=qH (r-(wR p).toNat) hp.1 hr (by omega);have:=(h.2.2.2.2 x h1 h2).1 ⟨p,List.mem_cons_self ..,h3⟩;simp at this
theorem zB (s:Value)(L:List Int)(hn:L.length<=50000)(uL:∀x∈L,U64 x)(w:World)(hl:Lst w s L) :
 Calls Tryz.prog 42 #[s] w fun e w'=>mc w.heap.size L e w'/\Below w.heap.size w w':=by
 have HL:=ab hl;have HN:=ab hn;obtain⟨p,cap,hs,-,-⟩:=hl;obtain⟨n,en⟩:∃n,L.length=n:=⟨_,rfl⟩
 have EN:=ab en;rw[en]at hs hn;subst hs;have UL:=ab uL;clear uL en;by_cases hbig:20000<n
 · have hT:Hid (20000<L.length):=ab (by rw[EN.out];exact hbig);have hbig':(20000:Int)<(n:Int):=by omega
   clear HL
   go_enter Tryz.func42,Tryz.ntmps42
   go_wp2
   go_ret2
   exact⟨.inl ⟨hT.out,rfl⟩,Below.refl _ _⟩
 · have hT:Hid (L.length<=20000):=ab (by rw[EN.out];omega);have hbig':decide ((20000:Int)<(n:Int))=false:=df (by omega);by_cases hW:∀x∈L,Whole x
   · have AW:=ab fun w h=>nV (.slice p n cap) L HN.out UL.out true (by simp only[true_iff];exact hW) w h;have HW:=ab hW;by_cases h1:mb L
     · have A1:=ab fun w h=>rG (.slice p n cap) L HN.out hW true (by simp only[true_iff];exact h1) w h;have H1:=ab h1;have CS:=ab fun w h=>qT (.slice p n cap) L HN.out w h;clear hW h1
       go_enter Tryz.func42,Tryz.ntmps42
       go_wp2_with fail;refine(AW.out _ HL.out).mono ?_;rintro e w1 ⟨rfl,b1⟩;have L1:=ab (HL.out.keep b1);have B1:=ab b1;clear b1;go_wp2_with fail;refine(A1.out _ L1.out).mono ?_;rintro e w2 ⟨rfl,b2⟩;have L2:=ab (L1.out.keep b2);have B2:=ab (ae B1.out b2);clear b2 L1 B1;go_wp2_with fail;refine(CS.out _ L2.out).mono ?_;rintro e w3 ⟨⟨g,c3,K,rfl,k1,k2,k3,k4⟩,b3⟩;have hwK:∀x∈K,Whole x/\wR x=(((match L with | []=>(0:Int) | y :: _=>wR y).toNat:Nat):Int):=fun x hx=>by
        have hxL:=(k2 x).1 hx;refine⟨HW.out x hxL,?_⟩;cases L with
        | nil=>simp at hxL
        | cons y M =>
         have:=H1.out x hxL y (List.mem_cons_self ..);have hb:=aE y;simp only;omega
       obtain⟨r,er⟩:∃r,(match L with | []=>(0:Int) | y :: _=>wR y).toNat=r:=⟨_,rfl⟩
       rw[er]at hwK;have hs3:=b3.size;have PJ:=ab (Ii w2.heap.size g c3 r K k1 hwK (by have:=hT.out;omega) w3 k4 hs3);have KK:=ab (And.intro k2 k3);have B3:=ab b3;clear k1 k2 k3 k4 b3 hwK CS A1 AW;have ER:=ab er;clear er;go_wp2_with fail;refine PJ.out.mono ?_;rintro e w4 ⟨sl,P,rfl,p1,p2,p3,p4⟩;have FN:=ab (And.intro p1 (And.intro p2 p3));have B4:=ab (ae B2.out (B3.out.trans p4));clear p1 p2 p3 p4 PJ;obtain⟨pp,cc,rfl,-⟩:=aA FN.out.2.2;go_wp2
       go_ret2
       refine⟨.inr (.inr (.inr ⟨hT.out,HW.out,H1.out,_,P,rfl,fun r' hr'=>?_,by have:=KK.out.2;have:=FN.out.2.1;omega,Lst.own FN.out.2.2,jE FN.out.2.2,bo FN.out.2.2 B2.out.size⟩)),B4.out⟩;have pk:=FN.out.1.congr KK.out.1;by_cases hL:L=[]
       · subst hL;have hP:=nW (by rw[←ER.out];simp) pk;subst hP;refine⟨List.Pairwise.nil,fun x hx=>by simp at hx,fun x hx=>by simp at hx,fun v hv hr h=>by have:=h 0 (by omega);simp at this,fun x hx hr=>?_⟩;constructor
         · rintro⟨q,hq,_⟩;simp at hq
         · intro h;simp at h
       · have:r=r':=by
          cases L with
          | nil=>exact absurd rfl hL
          | cons y M =>
           have h1:=hr' y (List.mem_cons_self ..);have h2:=ER.out;simp only at h2;omega
         rw[←this];exact pk
     · have A1:=ab fun w h=>rG (.slice p n cap) L HN.out hW false (by simp[h1]) w h;have H1:=ab h1;clear hW h1
       go_enter Tryz.func42,Tryz.ntmps42
       go_wp2_with fail;refine(AW.out _ HL.out).mono ?_;rintro e w1 ⟨rfl,b1⟩;have L1:=ab (HL.out.keep b1);have B1:=ab b1;clear b1;go_wp2_with fail;refine(A1.out _ L1.out).mono ?_;rintro e w2 ⟨rfl,b2⟩;have B2:=ab (ae B1.out b2);clear b2 L1 B1;go_wp2
       go_ret2
       exact⟨.inr (.inr (.inl ⟨hT.out,HW.out,H1.out,rfl⟩)),B2.out⟩
   · have AW:=ab fun w h=>nV (.slice p n cap) L HN.out UL.out false (by simp only[Bool.false_eq_true,false_iff];exact hW) w h;have HW:=ab hW;clear hW
     go_enter Tryz.func42,Tryz.ntmps42
     go_wp2_with fail;refine(AW.out _ HL.out).mono ?_;rintro e w1 ⟨rfl,b1⟩;have B1:=ab b1;clear b1;go_wp2
     go_ret2
     exact⟨.inr (.inl ⟨hT.out,HW.out,rfl⟩),B1.out⟩
end Go.Proofs.YtbnlhdnnenahfaaGreatDoor
