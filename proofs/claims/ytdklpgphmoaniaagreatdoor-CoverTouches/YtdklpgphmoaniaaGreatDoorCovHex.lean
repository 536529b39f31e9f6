/-
  Plain facts on cells that touch a box: from any of them one gets, step by step, through others that touch it, to the cell of the box's first corner. No condition beyond those written.
-/
import Derived.Test.YtdklpgphmoaniaaGreatDoorMX
import Derived.Test.YtdklpgphmoaniaaGreatDoorJn18
namespace Go.Proofs.YtdklpgphmoaniaaGreatDoor
def hv (K:Nat) (a b:Int) (i:Nat):Int × Int:=(coX K a b (wayA i) (wayB i),coY K a b (wayA i) (wayB i))
def reA (K:Nat) (a:Int) (X Y M:Int):Int:=nuA K X Y - 3*(a*(M*dvK K))
def reB (K:Nat) (b:Int) (X Y M:Int):Int:=nuB K X Y - 3*(b*(M*dvK K))
theorem lin_way (K:Nat) (a b X Y M p q r s:Int) :
 lin (coX K a b p q,coY K a b p q) (coX K a b r s,coY K a b r s) X Y M=(r - p)*(reB K b X Y M - M*dvK K*q) - (s - q)*(reA K a X Y M - M*dvK K*p):=by
 unfold lin reA reB coX coY poX poY ctA ctB nuA nuB dvK sev normE cjA cjB
 grind
theorem lin_side (K:Nat) (a b X Y M:Int) :
 lin (hv K a b 0) (hv K a b 1) X Y M=3*(M*dvK K) - (reA K a X Y M+2*reB K b X Y M)∧lin (hv K a b 1) (hv K a b 2) X Y M=3*(M*dvK K) - (reB K b X Y M - reA K a X Y M) ∧
 lin (hv K a b 2) (hv K a b 3) X Y M=3*(M*dvK K)+(2*reA K a X Y M+reB K b X Y M)∧lin (hv K a b 3) (hv K a b 4) X Y M=3*(M*dvK K)+(reA K a X Y M+2*reB K b X Y M) ∧
 lin (hv K a b 4) (hv K a b 5) X Y M=3*(M*dvK K)+(reB K b X Y M - reA K a X Y M)∧lin (hv K a b 5) (hv K a b 0) X Y M=3*(M*dvK K) - (2*reA K a X Y M+reB K b X Y M):=by
 have f:=fun p q r s=>lin_way K a b X Y M p q r s
 refine ⟨(f 1 1 (-1) 2).trans ?_,(f (-1) 2 (-2) 1).trans ?_,(f (-2) 1 (-1) (-1)).trans ?_,(f (-1) (-1) 1 (-2)).trans ?_,(f 1 (-2) 2 (-1)).trans ?_,(f 2 (-1) 1 1).trans ?_⟩
 all_goals grind
theorem nx_six:nx 0=1∧nx 1=2∧nx 2=3∧nx 3=4∧nx 4=5∧nx 5=0:=⟨rfl,rfl,rfl,rfl,rfl,rfl⟩
theorem inK_hex (K:Nat) (a b X Y M:Int):InK (hv K a b) X Y M↔Hex (3*(M*dvK K)) (reA K a X Y M) (reB K b X Y M):=by
 obtain ⟨e0,e1,e2,e3,e4,e5⟩:=lin_side K a b X Y M
 constructor
 · intro h
   have h0:=h 0 (by omega)
   have h1:=h 1 (by omega)
   have h2:=h 2 (by omega)
   have h3:=h 3 (by omega)
   have h4:=h 4 (by omega)
   have h5:=h 5 (by omega)
   rw [nx_six.1,e0] at h0
   rw [nx_six.2.1,e1] at h1
   rw [nx_six.2.2.1,e2] at h2
   rw [nx_six.2.2.2.1,e3] at h3
   rw [nx_six.2.2.2.2.1,e4] at h4
   rw [nx_six.2.2.2.2.2,e5] at h5
   unfold Hex
   omega
 · intro h i hi
   unfold Hex at h
   obtain rfl | rfl | rfl | rfl | rfl | rfl:i=0∨i=1∨i=2∨i=3∨i=4∨i=5:=by omega
   · rw [nx_six.1,e0];omega
   · rw [nx_six.2.1,e1];omega
   · rw [nx_six.2.2.1,e2];omega
   · rw [nx_six.2.2.2.1,e3];omega
   · rw [nx_six.2.2.2.2.1,e4];omega
   · rw [nx_six.2.2.2.2.2,e5];omega
theorem re_corner (K:Nat) (a b p q:Int):reA K a (coX K a b p q) (coY K a b p q) 1=dvK K*p∧reB K b (coX K a b p q) (coY K a b p q) 1=dvK K*q:=by
 unfold reA reB coX coY poX poY ctA ctB nuA nuB dvK sev normE cjA cjB
 constructor <;>grind
theorem hv_bent {K:Nat} (hK:K≤12) (a b:Int):Bent (hv K a b):=by
 have hd:=(dvK_box hK).1
 refine ⟨fun i hi j hj=>?_,fun i hi=>?_⟩
 · rw [← lin_one]
   refine (inK_hex K a b _ _ 1).2 ?_ i hi
   have h:=re_corner K a b (wayA j) (wayB j)
   unfold hv
   dsimp only
   rw [h.1,h.2]
   obtain rfl | rfl | rfl | rfl | rfl | rfl:j=0∨j=1∨j=2∨j=3∨j=4∨j=5:=by omega
   all_goals
    simp only [wayA,wayB,Hex]
    omega
 · rw [← lin_one]
   have h:=fun p q=>re_corner K a b p q
   have f:=fun p q=>lin_side K a b (coX K a b p q) (coY K a b p q) 1
   obtain rfl | rfl | rfl | rfl | rfl | rfl:i=0∨i=1∨i=2∨i=3∨i=4∨i=5:=by omega
   · have k:=(f (-2) 1).1
     rw [(h (-2) 1).1,(h (-2) 1).2] at k
     show 0 < lin (hv K a b 0) (hv K a b 1) _ _ 1
     exact k.symm ▸ (by omega)
   · have k:=(f (-1) (-1)).2.1
     rw [(h (-1) (-1)).1,(h (-1) (-1)).2] at k
     show 0 < lin (hv K a b 1) (hv K a b 2) _ _ 1
     exact k.symm ▸ (by omega)
   · have k:=(f 1 (-2)).2.2.1
     rw [(h 1 (-2)).1,(h 1 (-2)).2] at k
     show 0 < lin (hv K a b 2) (hv K a b 3) _ _ 1
     exact k.symm ▸ (by omega)
   · have k:=(f 2 (-1)).2.2.2.1
     rw [(h 2 (-1)).1,(h 2 (-1)).2] at k
     show 0 < lin (hv K a b 3) (hv K a b 4) _ _ 1
     exact k.symm ▸ (by omega)
   · have k:=(f 1 1).2.2.2.2.1
     rw [(h 1 1).1,(h 1 1).2] at k
     show 0 < lin (hv K a b 4) (hv K a b 5) _ _ 1
     exact k.symm ▸ (by omega)
   · have k:=(f (-1) 2).2.2.2.2.2
     rw [(h (-1) 2).1,(h (-1) 2).2] at k
     show 0 < lin (hv K a b 5) (hv K a b 0) _ _ 1
     exact k.symm ▸ (by omega)
theorem first_side {u w:Nat→Int} (V:Nat→Prop) (hu:∀ i,0≤u i) (hw:∀ i,V i→0 < w i):∀ n,(∃ i,i < n∧V i)→∃ e,e < n∧V e∧∀ f,f < n→V f→u e*w f≤u f*w e
 | 0,h=>by obtain ⟨i,hi,_⟩:=h;omega
 | n+1,h=>by
  by_cases hb:∃ i,i < n∧V i
  · obtain ⟨e,he,ve,hm⟩:=first_side V hu hw n hb
    by_cases hn:V n
    · by_cases c:u e*w n≤u n*w e
      · exact ⟨e,by omega,ve,fun f hf vf=>by
         by_cases k:f=n
         · rw [k];exact c
         · exact hm f (by omega) vf⟩
      · refine ⟨n,by omega,hn,fun f hf vf=>?_⟩
        by_cases k:f=n
        · rw [k];omega
        · have h1:=hm f (by omega) vf
          have h2:=Int.mul_le_mul_of_nonneg_right (show u n*w e≤u e*w n by omega) (Int.le_of_lt (hw f vf))
          have h3:=Int.mul_le_mul_of_nonneg_right h1 (Int.le_of_lt (hw n hn))
          have e1:u n*w e*w f=w e*(u n*w f):=by grind
          have e2:u e*w n*w f=u e*w f*w n:=by grind
          have e3:u f*w e*w n=w e*(u f*w n):=by grind
          have h4:w e*(u n*w f)≤w e*(u f*w n):=by omega
          exact Int.le_of_mul_le_mul_left h4 (hw e ve)
    · exact ⟨e,by omega,ve,fun f hf vf=>by
       by_cases k:f=n
       · rw [k] at vf;exact absurd vf hn
       · exact hm f (by omega) vf⟩
  · obtain ⟨i,hi,vi⟩:=h
    have e:i=n:=by
     by_cases k:i=n
     · exact k
     · exact absurd ⟨i,by omega,vi⟩ hb
    subst e
    refine ⟨i,hi,vi,fun f hf vf=>?_⟩
    by_cases k:f=i
    · rw [k];omega
    · exact absurd ⟨f,by omega,vf⟩ hb
theorem leaves_at {h:Nat→Int × Int} {X Y M x y:Int} (hp:InK h X Y M) (ht:¬ InK h x y 1) :
 ∃ (e:Nat) (a b:Int),e < 6∧0 < a∧0≤b∧lin (h e) (h (nx e)) x y 1 < 0∧InK h (a*X+b*x) (a*Y+b*y) (a*M+b*1)∧lin (h e) (h (nx e)) (a*X+b*x) (a*Y+b*y) (a*M+b*1)=0:=by
 have hv:∃ i,i < 6∧lin (h i) (h (nx i)) x y 1 < 0:=by
  by_cases c:∃ i,i < 6∧lin (h i) (h (nx i)) x y 1 < 0
  · exact c
  · exact absurd (fun i hi=>by
     by_cases k:0≤lin (h i) (h (nx i)) x y 1
     · exact k
     · exact absurd ⟨i,hi,by omega⟩ c) ht
 obtain ⟨e,he,ve,hm⟩:=first_side (u:=fun i=>if i < 6 then lin (h i) (h (nx i)) X Y M else 0) (w:=fun i=> -lin (h i) (h (nx i)) x y 1) (fun i=>lin (h i) (h (nx i)) x y 1 < 0)
  (fun i=>by
    split
    · exact hp i (by assumption)
    · exact Int.le_refl 0) (fun i hi=>by omega) 6 hv
 have he0:=hp e he
 refine ⟨e,-lin (h e) (h (nx e)) x y 1,lin (h e) (h (nx e)) X Y M,he,by omega,he0,ve,fun f hf=>?_,?_⟩
 · rw [lin_comb]
   by_cases vf:lin (h f) (h (nx f)) x y 1 < 0
   · have h1:=hm f hf vf
     rw [if_pos he,if_pos hf] at h1
     have e1:lin (h e) (h (nx e)) X Y M*-lin (h f) (h (nx f)) x y 1= -(lin (h e) (h (nx e)) X Y M*lin (h f) (h (nx f)) x y 1):=Int.mul_neg _ _
     have e2:lin (h f) (h (nx f)) X Y M*-lin (h e) (h (nx e)) x y 1= -lin (h e) (h (nx e)) x y 1*lin (h f) (h (nx f)) X Y M:=Int.mul_comm _ _
     omega
   · have h1:=Int.mul_nonneg (show 0≤-lin (h e) (h (nx e)) x y 1 by omega) (hp f hf)
     have h2:=Int.mul_nonneg he0 (show 0≤lin (h f) (h (nx f)) x y 1 by omega)
     omega
 · rw [lin_comb]
   have: -lin (h e) (h (nx e)) x y 1*lin (h e) (h (nx e)) X Y M= -(lin (h e) (h (nx e)) X Y M*lin (h e) (h (nx e)) x y 1):=by grind
   omega
def sA (i:Nat):Int:=if i=0 then 0 else if i=1 then -1 else if i=2 then -1 else if i=3 then 0 else if i=4 then 1 else 1
def sB (i:Nat):Int:=if i=0 then 1 else if i=1 then 1 else if i=2 then 0 else if i=3 then -1 else if i=4 then -1 else 0
theorem s_one {i:Nat} (hi:i < 6):stp (sA i) (sB i)=1:=by
 obtain rfl | rfl | rfl | rfl | rfl | rfl:i=0∨i=1∨i=2∨i=3∨i=4∨i=5:=by omega
 all_goals decide
theorem re_step (K:Nat) (a b X Y M p q:Int):reA K (a+p) X Y M=reA K a X Y M - 3*(M*dvK K)*p∧reB K (b+q) X Y M=reB K b X Y M - 3*(M*dvK K)*q:=by
 unfold reA reB
 constructor <;>grind
theorem across {K:Nat} {a b X Y M:Int} {e:Nat} (he:e < 6) (hp:InK (hv K a b) X Y M) (h0:lin (hv K a b e) (hv K a b (nx e)) X Y M=0):InK (hv K (a+sA e) (b+sB e)) X Y M:=by
 rw [inK_hex] at hp ⊢
 obtain ⟨e0,e1,e2,e3,e4,e5⟩:=lin_side K a b X Y M
 rw [(re_step K a b X Y M (sA e) (sB e)).1,(re_step K a b X Y M (sA e) (sB e)).2]
 generalize reA K a X Y M=A at *
 generalize reB K b X Y M=B at *
 generalize 3*(M*dvK K)=H at *
 obtain rfl | rfl | rfl | rfl | rfl | rfl:e=0∨e=1∨e=2∨e=3∨e=4∨e=5:=by omega
 · rw [nx_six.1,e0] at h0
   unfold Hex sA sB at *
   simp only [if_true] at *
   omega
 · rw [nx_six.2.1,e1] at h0
   unfold Hex sA sB at *
   simp at *
   omega
 · rw [nx_six.2.2.1,e2] at h0
   unfold Hex sA sB at *
   simp at *
   omega
 · rw [nx_six.2.2.2.1,e3] at h0
   unfold Hex sA sB at *
   simp at *
   omega
 · rw [nx_six.2.2.2.2.1,e4] at h0
   unfold Hex sA sB at *
   simp at *
   omega
 · rw [nx_six.2.2.2.2.2,e5] at h0
   unfold Hex sA sB at *
   simp at *
   omega
theorem nearer {K:Nat} {a b x y:Int} {e:Nat} (hd:1≤dvK K) (he:e < 6) (h0:lin (hv K a b e) (hv K a b (nx e)) x y 1 < 0) :
 normE (reA K (a+sA e) x y 1) (reB K (b+sB e) x y 1) < normE (reA K a x y 1) (reB K b x y 1):=by
 obtain ⟨e0,e1,e2,e3,e4,e5⟩:=lin_side K a b x y 1
 rw [(re_step K a b x y 1 (sA e) (sB e)).1,(re_step K a b x y 1 (sA e) (sB e)).2]
 generalize reA K a x y 1=A at *
 generalize reB K b x y 1=B at *
 have hH:0 < 3*(1*dvK K):=by omega
 generalize 3*(1*dvK K)=H at *
 have key:∀ m n:Int,normE m n=1→H < m*(2*A+B)+n*(A+2*B)→normE (A - H*m) (B - H*n) < normE A B:=fun m n h1 h2=>by
  have h3:=norm_moved A B m n H
  rw [h1,Int.mul_comm m H,Int.mul_comm n H] at h3
  have h4:=Int.mul_lt_mul_of_pos_left h2 hH
  have h5:H*(1*H)=H*H:=by rw [Int.one_mul]
  omega
 obtain rfl | rfl | rfl | rfl | rfl | rfl:e=0∨e=1∨e=2∨e=3∨e=4∨e=5:=by omega
 · rw [nx_six.1,e0] at h0
   exact key 0 1 rfl (by omega)
 · rw [nx_six.2.1,e1] at h0
   exact key (-1) 1 rfl (by omega)
 · rw [nx_six.2.2.1,e2] at h0
   exact key (-1) 0 rfl (by omega)
 · rw [nx_six.2.2.2.1,e3] at h0
   exact key 0 (-1) rfl (by omega)
 · rw [nx_six.2.2.2.2.1,e4] at h0
   exact key 1 (-1) rfl (by omega)
 · rw [nx_six.2.2.2.2.2,e5] at h0
   exact key 1 0 rfl (by omega)
def Tou (K:Nat) (l1 l2 u1 u2 a b:Int):Prop:=Meets (hv K a b) (3*l1) (3*l2) (3*u1) (3*u2)
theorem nu_three (K:Nat) (x y:Int):nuA K (3*x) (3*y)=3*nuA K x y∧nuB K (3*x) (3*y)=3*nuB K x y:=by
 unfold nuA nuB
 constructor <;>grind
theorem at_point (K:Nat) (a b x y:Int):InK (hv K a b) (3*x) (3*y) 1↔HexAt (dvK K) (nuA K x y) (nuB K x y) a b:=by
 rw [inK_hex]
 unfold reA reB HexAt
 rw [(nu_three K x y).1,(nu_three K x y).2,Int.one_mul]
 unfold Hex
 omega
theorem form_steps {d s t p q:Int} (hd:0 < d) (h0: -(2*d) < 2*s+t∧2*s+t < 2*d) (h1: -(2*d) < s+2*t∧s+2*t < 2*d) (h2: -(2*d) < s - t∧s - t < 2*d) (h:Hex d (s - p*d) (t - q*d)):stp p q≤1:=by
 unfold Hex at h
 have key:∀ m:Int,-(3*d) < m*d→m*d < 3*d→-2≤m∧m≤2:=fun m h1 h2=>by
  constructor
  · by_cases c: -2≤m
    · exact c
    · have:=Int.mul_le_mul_of_nonneg_right (show m≤-3 by omega) (Int.le_of_lt hd);omega
  · by_cases c:m≤2
    · exact c
    · have:=Int.mul_le_mul_of_nonneg_right (show 3≤m by omega) (Int.le_of_lt hd);omega
 have e0:(2*p+q)*d=2*(p*d)+q*d:=by grind
 have e1:(p+2*q)*d=p*d+2*(q*d):=by grind
 have e2:(p - q)*d=p*d - q*d:=by grind
 have k0:=key (2*p+q) (by omega) (by omega)
 have k1:=key (p+2*q) (by omega) (by omega)
 have k2:=key (p - q) (by omega) (by omega)
 exact stp_le (by omega) (by omega) (by omega) (by omega)
theorem hex_steps {d u v a b a' b':Int} (hd:0 < d) (h:HexAt d u v a b) (h':HexAt d u v a' b'):stp (a' - a) (b' - b)≤1:=by
 have e1:a'*d=a*d+(a' - a)*d:=by grind
 have e2:b'*d=b*d+(b' - b)*d:=by grind
 refine form_steps (s:=u - a*d) (t:=v - b*d) hd ?_ ?_ ?_ ?_
 · unfold HexAt Hex at h;omega
 · unfold HexAt Hex at h;omega
 · unfold HexAt Hex at h;omega
 · unfold HexAt at h'
   rw [e1,e2] at h'
   rw [show u - a*d - (a' - a)*d=u - (a*d+(a' - a)*d) by omega,show v - b*d - (b' - b)*d=v - (b*d+(b' - b)*d) by omega]
   exact h'
theorem box_comb {l u a b X x M:Int} (ha:0≤a) (hb:0≤b) (h:M*l≤X∧X≤M*u) (h':l≤x∧x≤u):(a*M+b*1)*l≤a*X+b*x∧a*X+b*x≤(a*M+b*1)*u:=by
 have h1:=Int.mul_le_mul_of_nonneg_left h.1 ha
 have h2:=Int.mul_le_mul_of_nonneg_left h.2 ha
 have h3:=Int.mul_le_mul_of_nonneg_left h'.1 hb
 have h4:=Int.mul_le_mul_of_nonneg_left h'.2 hb
 have e1:(a*M+b*1)*l=a*(M*l)+b*l:=by grind
 have e2:(a*M+b*1)*u=a*(M*u)+b*u:=by grind
 omega
theorem tou_at {K:Nat} {l1 l2 u1 u2 a b x y:Int} (hx:l1≤x∧x≤u1) (hy:l2≤y∧y≤u2) (h:HexAt (dvK K) (nuA K x y) (nuB K x y) a b):Tou K l1 l2 u1 u2 a b :=
 ⟨3*x,3*y,1,by omega,(at_point K a b x y).2 h,by omega,by omega⟩
theorem tou_ind {K:Nat} (hK:K≤12) {l1 l2 u1 u2 x y sa sb:Int} (hx:l1≤x∧x≤u1) (hy:l2≤y∧y≤u2) (hs:HexAt (dvK K) (nuA K x y) (nuB K x y) sa sb) (P:Int→Int→Prop) (h0:P sa sb)
 (hstep:∀ a b a' b',stp (a - a') (b - b')=1→Tou K l1 l2 u1 u2 a' b'→P a' b'→Tou K l1 l2 u1 u2 a b→P a b):∀ a b,Tou K l1 l2 u1 u2 a b→P a b:=by
 have hd:=(dvK_box hK).1
 have key:∀ (n:Nat) a b,(normE (reA K a (3*x) (3*y) 1) (reB K b (3*x) (3*y) 1)).toNat < n→Tou K l1 l2 u1 u2 a b→P a b:=by
  intro n
  induction n with
  | zero=>intro a b h;omega
  | succ n ih =>
   intro a b hn hT
   by_cases ht:InK (hv K a b) (3*x) (3*y) 1
   · have h1:=hex_steps (by omega) ((at_point K a b x y).1 ht) hs
     by_cases e:sa - a=0∧sb - b=0
     · rw [show a=sa by omega,show b=sb by omega];exact h0
     · have h2:=stp_ge (sa - a) (sb - b)
       have h3:stp (sa - a) (sb - b)=1:=by omega
       rw [stp_back] at h3
       exact hstep a b sa sb h3 (tou_at hx hy hs) h0 hT
   · have hT0:=hT
     obtain ⟨X,Y,M,hM,hp,hX,hY⟩:=hT
     obtain ⟨e,p,q,he,hp0,hq0,hv,hr,hz⟩:=leaves_at hp ht
     have h1:=across he hr hz
     have hT2:Tou K l1 l2 u1 u2 (a+sA e) (b+sB e):=⟨_,_,_,by have:=Int.mul_pos hp0 hM;omega,h1,box_comb (by omega) hq0 hX (by omega),box_comb (by omega) hq0 hY (by omega)⟩
     have h2:=nearer hd he hv
     have h3:=norm_pos (reA K (a+sA e) (3*x) (3*y) 1) (reB K (b+sB e) (3*x) (3*y) 1)
     refine hstep a b _ _ ?_ hT2 (ih _ _ (by omega) hT2) hT0
     rw [stp_back,show a+sA e - a=sA e by omega,show b+sB e - b=sB e by omega]
     exact s_one he
 exact fun a b hT=>key _ a b (Nat.lt_succ_self _) hT
theorem tou_near {K:Nat} (hK:K≤12) {l1 l2 u1 u2 a b:Int} (h:Tou K l1 l2 u1 u2 a b) :
 ∃ x y,(l1≤x∧x≤u1)∧(l2≤y∧y≤u2)∧∀ a' b',HexAt (dvK K) (nuA K x y) (nuB K x y) a' b'→stp (a' - a) (b' - b)≤1:=by
 obtain ⟨X,Y,M,hM,hp,hX,hY⟩:=h
 have hM3:0 < 3*M:=by omega
 obtain ⟨x,ex⟩:∃ x,X / (3*M)=x:=⟨_,rfl⟩
 obtain ⟨y,ey⟩:∃ y,Y / (3*M)=y:=⟨_,rfl⟩
 have x1:=Int.mul_ediv_add_emod X (3*M)
 have y1:=Int.mul_ediv_add_emod Y (3*M)
 have x2:=Int.emod_nonneg X (show 3*M≠0 by omega)
 have x3:=Int.emod_lt_of_pos X hM3
 have y2:=Int.emod_nonneg Y (show 3*M≠0 by omega)
 have y3:=Int.emod_lt_of_pos Y hM3
 rw [ex] at x1
 rw [ey] at y1
 have floor:∀ {l u z Z:Int},M*(3*l)≤Z→Z≤M*(3*u)→Z / (3*M)=z→l≤z∧z≤u:=fun {l u z Z} h1 h2 e=>by
  constructor
  · rw [← e]
    exact (Int.le_ediv_iff_mul_le hM3).2 (by rw [show l*(3*M)=M*(3*l) by grind];exact h1)
  · rw [← e]
    have:=Int.ediv_le_ediv hM3 h2
    rw [show M*(3*u)=u*(3*M) by grind,Int.mul_ediv_cancel _ (by omega)] at this
    exact this
 refine ⟨x,y,floor hX.1 hX.2 ex,floor hY.1 hY.2 ey,fun a' b' h'=>?_⟩
 have hd:=(dvK_box hK).1
 have hsv:=(sev_box hK).1
 rw [inK_hex] at hp
 obtain ⟨r,er⟩:∃ r,X%(3*M)=r:=⟨_,rfl⟩
 obtain ⟨t,et⟩:∃ t,Y%(3*M)=t:=⟨_,rfl⟩
 rw [er] at x1 x2 x3
 rw [et] at y1 y2 y3
 have eA:reA K a X Y M=3*(M*(nuA K x y - a*dvK K))+nuA K r t:=by
  rw [← x1,← y1];unfold reA nuA;grind
 have eB:reB K b X Y M=3*(M*(nuB K x y - b*dvK K))+nuB K r t:=by
  rw [← x1,← y1];unfold reB nuB;grind
 obtain ⟨c1,c2,c3,c4,c5,c6,c7,c8⟩:=bet_sev hK
 have q1:=mul_in (a:=45*r - 26*t) (A:=135*M) (b:=cjA K) (B:=sev K) (by omega) (by omega)
 have q2:=mul_in (a:=52*t) (A:=156*M) (b:=cjB K) (B:=sev K) (by omega) (by omega)
 have q3:=mul_in (a:=45*r - 26*t) (A:=135*M) (b:=cjB K) (B:=sev K) (by omega) (by omega)
 have q4:=mul_in (a:=52*t) (A:=156*M) (b:=cjA K) (B:=sev K) (by omega) (by omega)
 have m1:135*M*sev K=135*(M*sev K):=by grind
 have m2:156*M*sev K=156*(M*sev K):=by grind
 rw [m1] at q1 q3
 rw [m2] at q2 q4
 have hMs:=Int.mul_pos hM hsv
 have nA:nuA K r t=(45*r - 26*t)*cjA K - 52*t*cjB K:=rfl
 have nB:nuB K r t=(45*r - 26*t)*cjB K+52*t*cjA K+52*t*cjB K:=rfl
 have hD:M*dvK K=2340*(M*sev K):=by unfold dvK;grind
 rw [eA,eB,hD] at hp
 obtain ⟨S,eS⟩:∃ S,nuA K x y - a*dvK K=S:=⟨_,rfl⟩
 obtain ⟨T,eT⟩:∃ T,nuB K x y - b*dvK K=T:=⟨_,rfl⟩
 rw [eS,eT] at hp
 have low:∀ m:Int,-(3*(M*m))≤3*(2340*(M*sev K))+1400*(M*sev K)→3*(M*m)≤3*(2340*(M*sev K))+1400*(M*sev K)→-(2*dvK K) < m∧m < 2*dvK K:=fun m h1 h2=>by
  have k2:M*(2*dvK K)=4680*(M*sev K):=by unfold dvK;grind
  constructor
  · by_cases c: -(2*dvK K) < m
    · exact c
    · have:=Int.mul_le_mul_of_nonneg_left (show m≤-(2*dvK K) by omega) (Int.le_of_lt hM)
      rw [Int.mul_neg] at this
      omega
  · by_cases c:m < 2*dvK K
    · exact c
    · have:=Int.mul_le_mul_of_nonneg_left (show 2*dvK K≤m by omega) (Int.le_of_lt hM)
      omega
 unfold Hex at hp
 have f0:M*(2*S+T)=2*(M*S)+M*T:=by grind
 have f1:M*(S+2*T)=M*S+2*(M*T):=by grind
 have f2:M*(S - T)=M*S - M*T:=by grind
 refine form_steps (d:=dvK K) (s:=S) (t:=T) (by omega) (low _ (by omega) (by omega)) (low _ (by omega) (by omega)) (low _ (by omega) (by omega)) ?_
 unfold HexAt at h'
 rw [show S - (a' - a)*dvK K=nuA K x y - a'*dvK K by rw [← eS];grind,show T - (b' - b)*dvK K=nuB K x y - b'*dvK K by rw [← eT];grind]
 exact h'
end Go.Proofs.YtdklpgphmoaniaaGreatDoor
