/-
  Plain facts on a ring of six corners that bends one way, and a box: they have a point in common just if no side of either parts them. A point is told by three numbers: (X/M, Y/M). No condition beyond those written.
-/
import Derived.Test.YtdklpgphmoaniabGreatDoorPolyMath
namespace Go.Proofs.YtdklpgphmoaniabGreatDoor
def lin (p q:Int × Int) (X Y M:Int):Int:=(q.1 - p.1)*(Y - M*p.2) - (q.2 - p.2)*(X - M*p.1)
theorem lin_one (p q:Int × Int) (x y:Int):lin p q x y 1=crs p q x y:=by unfold lin crs;rw [Int.one_mul,Int.one_mul]
theorem lin_comb (p q:Int × Int) (a b X Y M X' Y' M':Int):lin p q (a*X+b*X') (a*Y+b*Y') (a*M+b*M')=a*lin p q X Y M+b*lin p q X' Y' M':=by unfold lin;grind
def nx (i:Nat):Nat:=(i+1)%6
theorem nx_lt (i:Nat):nx i < 6:=Nat.mod_lt _ (by omega)
def InK (h:Nat→Int × Int) (X Y M:Int):Prop:=∀ i,i < 6→0≤lin (h i) (h (nx i)) X Y M
theorem InK.comb {h:Nat→Int × Int} {X Y M X' Y' M' a b:Int} (k:InK h X Y M) (k':InK h X' Y' M') (ha:0≤a) (hb:0≤b):InK h (a*X+b*X') (a*Y+b*Y') (a*M+b*M'):=fun i hi=>by
 rw [lin_comb]
 have h1:=Int.mul_nonneg ha (k i hi)
 have h2:=Int.mul_nonneg hb (k' i hi)
 omega
def Bent (h:Nat→Int × Int):Prop:=(∀ i,i < 6→∀ j,j < 6→0≤crs (h i) (h (nx i)) (h j).1 (h j).2)∧∀ i,i < 6→0 < crs (h i) (h (nx i)) (h (nx (nx i))).1 (h (nx (nx i))).2
theorem Bent.corner {h:Nat→Int × Int} (k:Bent h) {j:Nat} (hj:j < 6):InK h (h j).1 (h j).2 1:=fun i hi=>by rw [lin_one];exact k.1 i hi j hj
theorem turn_six {P:Nat→Prop} (h1:∃ i,i < 6∧P i) (h2:∃ j,j < 6∧¬ P j):∃ i,i < 6∧P i∧¬ P (nx i):=by
 by_cases h:∃ i,i < 6∧P i∧¬ P (nx i)
 · exact h
 · exfalso
   have s:∀ i,i < 6→P i→P (nx i):=fun i hi hp=>by
    by_cases c:P (nx i)
    · exact c
    · exact absurd ⟨i,hi,hp,c⟩ h
   have s0:P 0→P 1:=s 0 (by omega)
   have s1:P 1→P 2:=s 1 (by omega)
   have s2:P 2→P 3:=s 2 (by omega)
   have s3:P 3→P 4:=s 3 (by omega)
   have s4:P 4→P 5:=s 4 (by omega)
   have s5:P 5→P 0:=s 5 (by omega)
   obtain ⟨i,hi,hp⟩:=h1
   obtain ⟨j,hj,hn⟩:=h2
   have p0:P 0:=by
    obtain rfl | rfl | rfl | rfl | rfl | rfl:i=0∨i=1∨i=2∨i=3∨i=4∨i=5:=by omega
    · exact hp
    · exact s5 (s4 (s3 (s2 (s1 hp))))
    · exact s5 (s4 (s3 (s2 hp)))
    · exact s5 (s4 (s3 hp))
    · exact s5 (s4 hp)
    · exact s5 hp
   obtain rfl | rfl | rfl | rfl | rfl | rfl:j=0∨j=1∨j=2∨j=3∨j=4∨j=5:=by omega
   · exact hn p0
   · exact hn (s0 p0)
   · exact hn (s1 (s0 p0))
   · exact hn (s2 (s1 (s0 p0)))
   · exact hn (s3 (s2 (s1 (s0 p0))))
   · exact hn (s4 (s3 (s2 (s1 (s0 p0)))))
theorem quad {h:Nat→Int × Int} (hk:Bent h) {cx cy:Int} (hx:∃ i,i < 6∧cx≤(h i).1) (hy:∃ i,i < 6∧cy≤(h i).2)
 (he:∀ i,i < 6→∃ s t:Int,0≤s∧0≤t∧0≤crs (h i) (h (nx i)) (cx+s) (cy+t)):∃ X Y M:Int,0 < M∧InK h X Y M∧M*cx≤X∧M*cy≤Y:=by
 obtain ⟨k,hk6,hky⟩:=hy
 by_cases hkx:cx≤(h k).1
 · exact ⟨_,_,1,by omega,hk.corner hk6,by omega,by omega⟩
 · obtain ⟨i,hi,hp,hq⟩:=turn_six (P:=fun i=>cx≤(h i).1) hx ⟨k,hk6,hkx⟩
   have hv:=hk.1 i hi k hk6
   have hb:=hk.corner hi
   have hb':=hk.corner (nx_lt i)
   obtain ⟨s,t,hs,ht,hst⟩:=he i hi
   by_cases hpy:cy≤(h i).2
   · exact ⟨_,_,1,by omega,hb,by omega,by omega⟩
   · generalize h (nx i)=q at *
     generalize h i=p at *
     generalize h k=v at *
     by_cases hL:0≤crs p q cx cy
     · have hc:=hb.comb hb' (a:=cx - q.1) (b:=p.1 - cx) (by omega) (by omega)
       refine ⟨_,_,_,?_,hc,?_,?_⟩
       · omega
       · have e:(cx - q.1)*p.1+(p.1 - cx)*q.1=((cx - q.1)*1+(p.1 - cx)*1)*cx:=by grind
         omega
       · have e:(cx - q.1)*p.2+(p.1 - cx)*q.2 - ((cx - q.1)*1+(p.1 - cx)*1)*cy=crs p q cx cy:=by unfold crs;grind
         omega
     · exfalso
       by_cases hd:q.2 < p.2
       · have h1:=Int.mul_neg_of_neg_of_pos (a:=q.1 - p.1) (b:=v.2 - p.2) (by omega) (by omega)
         have h2:=Int.mul_pos_of_neg_of_neg (a:=q.2 - p.2) (b:=v.1 - p.1) (by omega) (by omega)
         unfold crs at hv
         omega
       · have e:crs p q (cx+s) (cy+t)=crs p q cx cy - (p.1 - q.1)*t - (q.2 - p.2)*s:=by unfold crs;grind
         have h1:=Int.mul_nonneg (a:=p.1 - q.1) (b:=t) (by omega) ht
         have h2:=Int.mul_nonneg (a:=q.2 - p.2) (b:=s) (by omega) hs
         omega
def rot (h:Nat→Int × Int):Nat→Int × Int:=fun i=>((h i).2,-(h i).1)
theorem rot_crs (h:Nat→Int × Int) (i j:Nat) (x y:Int):crs (rot h i) (rot h j) y (-x)=crs (h i) (h j) x y:=by unfold crs rot;grind
theorem rot_lin (h:Nat→Int × Int) (i j:Nat) (X Y M:Int):lin (rot h i) (rot h j) Y (-X) M=lin (h i) (h j) X Y M:=by unfold lin rot;grind
theorem rot_bent {h:Nat→Int × Int} (k:Bent h):Bent (rot h) :=
 ⟨fun i hi j hj=>by have:=k.1 i hi j hj;rw [← rot_crs] at this;exact this,fun i hi=>by have:=k.2 i hi;rw [← rot_crs] at this;exact this⟩
theorem rot_in {h:Nat→Int × Int} {X Y M:Int} (k:InK (rot h) Y (-X) M):InK h X Y M:=fun i hi=>by have:=k i hi;rwa [rot_lin] at this
theorem meet {C:Int→Int→Int→Prop} (F:Int→Int→Int→Int) (hF:∀ a b X Y M X' Y' M',F (a*X+b*X') (a*Y+b*Y') (a*M+b*M')=a*F X Y M+b*F X' Y' M')
 (hC:∀ a b X Y M X' Y' M',0≤a→0≤b→C X Y M→C X' Y' M'→C (a*X+b*X') (a*Y+b*Y') (a*M+b*M')) {lo hi:Int} (hlh:lo≤hi)
 (h1:∃ X Y M,0 < M∧C X Y M∧F X Y M≤M*hi) (h2:∃ X Y M,0 < M∧C X Y M∧M*lo≤F X Y M):∃ X Y M,0 < M∧C X Y M∧M*lo≤F X Y M∧F X Y M≤M*hi:=by
 obtain ⟨X,Y,M,hM,c1,f1⟩:=h1
 obtain ⟨X',Y',M',hM',c2,f2⟩:=h2
 by_cases k1:M*lo≤F X Y M
 · exact ⟨X,Y,M,hM,c1,k1,f1⟩
 · by_cases k2:F X' Y' M'≤M'*hi
   · exact ⟨X',Y',M',hM',c2,f2,k2⟩
   · have g1:M'*lo≤M'*hi:=Int.mul_le_mul_of_nonneg_left hlh (by omega)
     obtain ⟨a,ea⟩:∃ a,F X' Y' M' - M'*lo=a:=⟨_,rfl⟩
     obtain ⟨b,eb⟩:∃ b,M*lo - F X Y M=b:=⟨_,rfl⟩
     have ha:0 < a:=by omega
     have hb:0 < b:=by omega
     have hM2:0 < a*M+b*M':=by
      have h1:=Int.mul_pos ha hM
      have h2:=Int.mul_pos hb hM'
      omega
     have e:F (a*X+b*X') (a*Y+b*Y') (a*M+b*M')=(a*M+b*M')*lo:=by
      rw [hF,show F X' Y' M'=M'*lo+a by omega,show F X Y M=M*lo - b by omega]
      grind
     refine ⟨_,_,_,hM2,hC a b X Y M X' Y' M' (by omega) (by omega) c1 c2,by omega,?_⟩
     rw [e]
     exact Int.mul_le_mul_of_nonneg_left hlh (by omega)
theorem quad_box {h:Nat→Int × Int} (hk:Bent h) {l1 l2 u1 u2:Int} (h1:l1≤u1) (h2:l2≤u2) (hx:∃ i,i < 6∧l1≤(h i).1) (hy:∃ i,i < 6∧l2≤(h i).2)
 (he:∀ i,i < 6→0≤crs (h i) (h (nx i)) l1 l2∨0≤crs (h i) (h (nx i)) u1 l2∨0≤crs (h i) (h (nx i)) u1 u2∨0≤crs (h i) (h (nx i)) l1 u2):∃ X Y M:Int,0 < M∧InK h X Y M∧M*l1≤X∧M*l2≤Y :=
 quad hk hx hy fun i hi=>by
  rcases he i hi with k | k | k | k
  · exact ⟨0,0,by omega,by omega,by rw [Int.add_zero,Int.add_zero];exact k⟩
  · exact ⟨u1 - l1,0,by omega,by omega,by rw [show l1+(u1 - l1)=u1 by omega,Int.add_zero];exact k⟩
  · exact ⟨u1 - l1,u2 - l2,by omega,by omega,by rw [show l1+(u1 - l1)=u1 by omega,show l2+(u2 - l2)=u2 by omega];exact k⟩
  · exact ⟨0,u2 - l2,by omega,by omega,by rw [show l2+(u2 - l2)=u2 by omega,Int.add_zero];exact k⟩
def Unparted (h:Nat→Int × Int) (l1 l2 u1 u2:Int):Prop :=
 ((∃ i,i < 6∧l1≤(h i).1)∧(∃ i,i < 6∧(h i).1≤u1))∧((∃ i,i < 6∧l2≤(h i).2)∧(∃ i,i < 6∧(h i).2≤u2)) ∧
 ∀ i,i < 6→0≤crs (h i) (h (nx i)) l1 l2∨0≤crs (h i) (h (nx i)) u1 l2∨0≤crs (h i) (h (nx i)) u1 u2∨0≤crs (h i) (h (nx i)) l1 u2
theorem Unparted.rot {h:Nat→Int × Int} {l1 l2 u1 u2:Int} (k:Unparted h l1 l2 u1 u2):Unparted (rot h) l2 (-u1) u2 (-l1):=by
 obtain ⟨⟨⟨a,ha,a1⟩,b,hb,b1⟩,⟨⟨c,hc,c1⟩,d,hd,d1⟩,he⟩:=k
 refine ⟨⟨⟨c,hc,c1⟩,d,hd,d1⟩,⟨⟨b,hb,?_⟩,a,ha,?_⟩,fun i hi=>?_⟩
 · show -u1≤-(h b).1;omega
 · show -(h a).1≤-l1;omega
 · rw [rot_crs,rot_crs,rot_crs,rot_crs]
   rcases he i hi with k | k | k | k
   · exact .inr (.inr (.inr k))
   · exact .inl k
   · exact .inr (.inl k)
   · exact .inr (.inr (.inl k))
def Meets (h:Nat→Int × Int) (l1 l2 u1 u2:Int):Prop:=∃ X Y M:Int,0 < M∧InK h X Y M∧(M*l1≤X∧X≤M*u1)∧M*l2≤Y∧Y≤M*u2
theorem meets_of {h:Nat→Int × Int} {l1 l2 u1 u2:Int} (hk:Bent h) (h1:l1≤u1) (h2:l2≤u2) (hu:Unparted h l1 l2 u1 u2):Meets h l1 l2 u1 u2:=by
 have hk1:=rot_bent hk
 have hk2:=rot_bent hk1
 have hk3:=rot_bent hk2
 have hu1:=hu.rot
 have hu2:=hu1.rot
 have hu3:=hu2.rot
 obtain ⟨X1,Y1,M1,m1,i1,x1,y1⟩:=quad_box hk h1 h2 hu.1.1 hu.2.1.1 hu.2.2
 obtain ⟨X2,Y2,M2,m2,i2,x2,y2⟩:=quad_box hk1 h2 (by omega) hu1.1.1 hu1.2.1.1 hu1.2.2
 obtain ⟨X3,Y3,M3,m3,i3,x3,y3⟩:=quad_box hk2 (by omega) (by omega) hu2.1.1 hu2.2.1.1 hu2.2.2
 obtain ⟨X4,Y4,M4,m4,i4,x4,y4⟩:=quad_box hk3 (by omega) (by omega) hu3.1.1 hu3.2.1.1 hu3.2.2
 have j2:InK h (-Y2) X2 M2:=rot_in (by rw [Int.neg_neg];exact i2)
 have j3:InK h (-X3) (-Y3) M3:=rot_in (rot_in (by rw [Int.neg_neg,Int.neg_neg];exact i3))
 have j4:InK h Y4 (-X4) M4:=rot_in (rot_in (rot_in (by rw [Int.neg_neg,Int.neg_neg];exact i4)))
 have hC:=fun (a b X Y M X' Y' M':Int) (ha:0≤a) (hb:0≤b) (k:InK h X Y M) (k':InK h X' Y' M')=>k.comb k' ha hb
 obtain ⟨X5,Y5,M5,m5,i5,x5,z5⟩:=meet (C:=fun X Y M=>InK h X Y M∧M*l2≤Y) (fun X _ _=>X) (fun _ _ _ _ _ _ _ _=>rfl) (fun a b X Y M X' Y' M' ha hb k k'=>⟨hC a b X Y M X' Y' M' ha hb k.1 k'.1,by
  have g1:=Int.mul_le_mul_of_nonneg_left k.2 ha
  have g2:=Int.mul_le_mul_of_nonneg_left k'.2 hb
  have e:(a*M+b*M')*l2=a*(M*l2)+b*(M'*l2):=by grind
  omega⟩) h1 ⟨-Y2,X2,M2,m2,⟨j2,x2⟩,by have:M2*(-u1)= -(M2*u1):=Int.mul_neg _ _;omega⟩ ⟨X1,Y1,M1,m1,⟨i1,y1⟩,x1⟩
 obtain ⟨X6,Y6,M6,m6,i6,x6,z6⟩:=meet (C:=fun X Y M=>InK h X Y M∧Y≤M*u2) (fun X _ _=>X) (fun _ _ _ _ _ _ _ _=>rfl) (fun a b X Y M X' Y' M' ha hb k k'=>⟨hC a b X Y M X' Y' M' ha hb k.1 k'.1,by
  have g1:=Int.mul_le_mul_of_nonneg_left k.2 ha
  have g2:=Int.mul_le_mul_of_nonneg_left k'.2 hb
  have e:(a*M+b*M')*u2=a*(M*u2)+b*(M'*u2):=by grind
  omega⟩) h1 ⟨-X3,-Y3,M3,m3,⟨j3,by have:M3*(-u2)= -(M3*u2):=Int.mul_neg _ _;omega⟩,by have:M3*(-u1)= -(M3*u1):=Int.mul_neg _ _;omega⟩
  ⟨Y4,-X4,M4,m4,⟨j4,by have:M4*(-u2)= -(M4*u2):=Int.mul_neg _ _;omega⟩,by have:M4*(- -l1)=M4*l1:=by rw [Int.neg_neg]
                                                                          omega⟩
 obtain ⟨X7,Y7,M7,m7,i7,x7,z7⟩:=meet (C:=fun X Y M=>InK h X Y M∧M*l1≤X∧X≤M*u1) (fun _ Y _=>Y) (fun _ _ _ _ _ _ _ _=>rfl) (fun a b X Y M X' Y' M' ha hb k k'=>⟨hC a b X Y M X' Y' M' ha hb k.1 k'.1,by
  have g1:=Int.mul_le_mul_of_nonneg_left k.2.1 ha
  have g2:=Int.mul_le_mul_of_nonneg_left k'.2.1 hb
  have g3:=Int.mul_le_mul_of_nonneg_left k.2.2 ha
  have g4:=Int.mul_le_mul_of_nonneg_left k'.2.2 hb
  have e1:(a*M+b*M')*l1=a*(M*l1)+b*(M'*l1):=by grind
  have e2:(a*M+b*M')*u1=a*(M*u1)+b*(M'*u1):=by grind
  omega⟩) h2 ⟨X6,Y6,M6,m6,⟨i6.1,x6,z6⟩,i6.2⟩ ⟨X5,Y5,M5,m5,⟨i5.1,x5,z5⟩,i5.2⟩
 exact ⟨X7,Y7,M7,m7,i7.1,i7.2,x7,z7⟩
theorem greatest (f:Nat→Int):∀ n,0 < n→∃ j,j < n∧∀ i,i < n→f i≤f j
 | 0,h=>absurd h (Nat.lt_irrefl _)
 | 1,_=>⟨0,by omega,fun i hi=>by rw [show i=0 by omega];omega⟩
 | n+2,_=>by
  obtain ⟨j,hj,k⟩:=greatest f (n+1) (by omega)
  by_cases c:f j≤f (n+1)
  · exact ⟨n+1,by omega,fun i hi=>by
     by_cases e:i=n+1
     · rw [e];omega
     · have:=k i (by omega);omega⟩
  · exact ⟨j,by omega,fun i hi=>by
     by_cases e:i=n+1
     · rw [e];omega
     · exact k i (by omega)⟩
theorem right_most {h:Nat→Int × Int} (hk:Bent h) {X Y M c:Int} (hM:0 < M) (hi:InK h X Y M) (hX:M*c≤X):∃ i,i < 6∧c≤(h i).1:=by
 obtain ⟨j,hj,hm⟩:=greatest (fun i=>(h i).1) 6 (by omega)
 refine ⟨j,hj,?_⟩
 by_cases hc:c≤(h j).1
 · exact hc
 · exfalso
   obtain ⟨i,hi6,e⟩:∃ i,i < 6∧nx i=j:=⟨(j+5)%6,Nat.mod_lt _ (by omega),by unfold nx;omega⟩
   have k1:=hi i hi6
   have k2:=hi (nx i) (nx_lt i)
   have k3:=hk.2 i hi6
   have g1:=hm i hi6
   have g2:=hm (nx (nx i)) (nx_lt _)
   rw [← e] at g1 g2 hc
   generalize h (nx (nx i))=r at *
   generalize h (nx i)=q at *
   generalize h i=p at *
   have hw:0 < X - M*q.1:=by
    have:=Int.mul_lt_mul_of_pos_left (show q.1 < c by omega) hM
    omega
   have e1:(X - M*q.1)*crs p q r.1 r.2= -(lin q r X Y M*(q.1 - p.1)) - (lin p q X Y M*(q.1 - r.1)):=by unfold lin crs;grind
   have s1:=Int.mul_pos hw k3
   have s2:=Int.mul_nonneg k2 (show 0≤q.1 - p.1 by omega)
   have s3:=Int.mul_nonneg k1 (show 0≤q.1 - r.1 by omega)
   omega
theorem lin_most (p q:Int × Int) {l1 l2 u1 u2 X Y M:Int} (hM:0 < M) (h:(M*l1≤X∧X≤M*u1)∧M*l2≤Y∧Y≤M*u2) (k:0≤lin p q X Y M) :
 0≤crs p q l1 l2∨0≤crs p q u1 l2∨0≤crs p q u1 u2∨0≤crs p q l1 u2:=by
 have key:∀ x y:Int,(q.1 - p.1)*Y≤(q.1 - p.1)*(M*y)→-((q.2 - p.2)*X)≤-((q.2 - p.2)*(M*x))→0≤crs p q x y:=fun x y h1 h2=>by
  by_cases c:0≤crs p q x y
  · exact c
  · exfalso
    have e:M*crs p q x y=lin p q X Y M+((q.1 - p.1)*(M*y) - (q.1 - p.1)*Y)+((q.2 - p.2)*X - (q.2 - p.2)*(M*x)):=by unfold lin crs;grind
    have:=Int.mul_neg_of_pos_of_neg hM (show crs p q x y < 0 by omega)
    omega
 by_cases d1:0≤q.1 - p.1
 · have a1:=Int.mul_le_mul_of_nonneg_left h.2.2 d1
   by_cases d2:0≤q.2 - p.2
   · exact .inr (.inr (.inr (key _ _ a1 (by have:=Int.mul_le_mul_of_nonneg_left h.1.1 d2;omega))))
   · exact .inr (.inr (.inl (key _ _ a1 (by have:=Int.mul_le_mul_of_nonpos_left (show q.2 - p.2≤0 by omega) h.1.2;omega))))
 · have a1:=Int.mul_le_mul_of_nonpos_left (show q.1 - p.1≤0 by omega) h.2.1
   by_cases d2:0≤q.2 - p.2
   · exact .inl (key _ _ a1 (by have:=Int.mul_le_mul_of_nonneg_left h.1.1 d2;omega))
   · exact .inr (.inl (key _ _ a1 (by have:=Int.mul_le_mul_of_nonpos_left (show q.2 - p.2≤0 by omega) h.1.2;omega)))
theorem unparted_of {h:Nat→Int × Int} {l1 l2 u1 u2:Int} (hk:Bent h) (hm:Meets h l1 l2 u1 u2):Unparted h l1 l2 u1 u2:=by
 obtain ⟨X,Y,M,hM,hi,hb⟩:=hm
 have hk1:=rot_bent hk
 have hk2:=rot_bent hk1
 have hk3:=rot_bent hk2
 have i1:InK (rot h) Y (-X) M:=fun i k=>by rw [rot_lin];exact hi i k
 have i2:InK (rot (rot h)) (-X) (-Y) M:=fun i k=>by rw [rot_lin];exact i1 i k
 have i3:InK (rot (rot (rot h))) (-Y) (- -X) M:=fun i k=>by rw [rot_lin];exact i2 i k
 obtain ⟨b,hb6,b1⟩:=right_most hk2 (c:= -u1) hM i2 (by have:M*(-u1)= -(M*u1):=Int.mul_neg _ _;omega)
 obtain ⟨d,hd6,d1⟩:=right_most hk3 (c:= -u2) hM i3 (by have:M*(-u2)= -(M*u2):=Int.mul_neg _ _;omega)
 refine ⟨⟨right_most hk hM hi hb.1.1,b,hb6,?_⟩,⟨right_most hk1 hM i1 hb.2.1,d,hd6,?_⟩,fun i hi6=>lin_most _ _ hM hb (hi i hi6)⟩
 · have: -u1≤-(h b).1:=b1
   omega
 · have: -u2≤-(h d).2:=d1
   omega
end Go.Proofs.YtdklpgphmoaniabGreatDoor
