/-
  Plain facts on rings of corners: sums over a ring's edges, however it is begun or turned about; what is moved; what lies beside a ring; boxes and triangles. No condition beyond those written.
-/
import Derived.Test.YtdklpgphmoaniaaGreatDoorProg
import Derived.Handy
import Derived.WalkSpells
import Derived.WalkLawsBesides
import Derived.BigQuiet
import Derived.PlainAid
import Derived.Deep.RegionWith
namespace Go.Proofs.YtdklpgphmoaniaaGreatDoor
def sumN (h:Nat→Int):Nat→Int
 | 0=>0
 | n+1=>sumN h n+h n
theorem sumN_congr {h k:Nat→Int}:∀ {n:Nat},(∀ i,i < n→h i=k i)→sumN h n=sumN k n
 | 0,_=>rfl
 | n+1,e=>by
  show sumN h n+h n=sumN k n+k n
  rw [sumN_congr fun i hi=>e i (by omega),e n (by omega)]
theorem sumN_zero:∀ n:Nat,sumN (fun _=>0) n=0
 | 0=>rfl
 | n+1=>by show sumN _ n+0=0;rw [sumN_zero n];rfl
theorem sumN_add (h k:Nat→Int):∀ n:Nat,sumN (fun i=>h i+k i) n=sumN h n+sumN k n
 | 0=>rfl
 | n+1=>by
  show sumN (fun i=>h i+k i) n+(h n+k n)=sumN h n+h n+(sumN k n+k n)
  rw [sumN_add h k n];omega
theorem sumN_neg (h:Nat→Int):∀ n:Nat,sumN (fun i=> -h i) n= -sumN h n
 | 0=>rfl
 | n+1=>by
  show sumN (fun i=> -h i) n+-h n= -(sumN h n+h n)
  rw [sumN_neg h n];omega
theorem sumN_mul (c:Int) (h:Nat→Int):∀ n:Nat,sumN (fun i=>c*h i) n=c*sumN h n
 | 0=>by show (0:Int)=c*0;rw [Int.mul_zero]
 | n+1=>by
  show sumN (fun i=>c*h i) n+c*h n=c*(sumN h n+h n)
  rw [sumN_mul c h n,Int.mul_add]
theorem sumN_head (h:Nat→Int):∀ n:Nat,sumN h (n+1)=h 0+sumN (fun i=>h (i+1)) n
 | 0=>by show 0+h 0=h 0+0;omega
 | n+1=>by
  show sumN h (n+1)+h (n+1)=h 0+(sumN (fun i=>h (i+1)) n+h (n+1))
  rw [sumN_head h n];omega
theorem sumN_next (h:Nat→Int):∀ n:Nat,sumN (fun i=>h ((i+1)%n)) n=sumN h n
 | 0=>rfl
 | n+1=>by
  show sumN (fun i=>h ((i+1)%(n+1))) n+h ((n+1)%(n+1))=_
  rw [Nat.mod_self,sumN_head,sumN_congr (k:=fun i=>h (i+1)) fun i hi=>by rw [Nat.mod_eq_of_lt (by omega)]]
  omega
theorem sumN_turn (h:Nat→Int) (n:Nat):∀ s:Nat,sumN (fun i=>h ((i+s)%n)) n=sumN h n
 | 0=>sumN_congr fun i hi=>by rw [Nat.add_zero,Nat.mod_eq_of_lt hi]
 | s+1=>by
  rw [← sumN_turn h n s,← sumN_next (fun i=>h ((i+s)%n)) n]
  refine sumN_congr fun i hi=>?_
  show h ((i+(s+1))%n)=h (((i+1)%n+s)%n)
  rw [Nat.mod_add_mod,show i+(s+1)=i+1+s by omega]
theorem sumN_back (h:Nat→Int):∀ n:Nat,sumN (fun i=>h (n - 1 - i)) n=sumN h n
 | 0=>rfl
 | n+1=>by
  rw [sumN_head]
  show h (n+1 - 1 - 0)+_=sumN h n+h n
  rw [← sumN_back h n,show n+1 - 1 - 0=n by omega,sumN_congr (k:=fun i=>h (n - 1 - i)) fun i hi=>by
   show h (n+1 - 1 - (i+1))=h (n - 1 - i)
   rw [show n+1 - 1 - (i+1)=n - 1 - i by omega]]
  omega
theorem sumN_nonneg {h:Nat→Int}:∀ {n:Nat},(∀ i,i < n→0≤h i)→0≤sumN h n
 | 0,_=>Int.le_refl 0
 | n+1,e=>by
  have h1:=sumN_nonneg (n:=n) fun i hi=>e i (by omega)
  have h2:=e n (by omega)
  show 0≤sumN h n+h n
  omega
theorem sumN_pos {h:Nat→Int}:∀ {n:Nat},(∀ i,i < n→0≤h i)→(0 < sumN h n↔∃ i,i < n∧0 < h i)
 | 0,_=>⟨fun k=>absurd k (by show ¬ (0:Int) < 0;omega),fun ⟨i,hi,_⟩=>absurd hi (Nat.not_lt_zero _)⟩
 | n+1,e=>by
  have h1:=sumN_nonneg (n:=n) fun i hi=>e i (by omega)
  have ih:=sumN_pos (n:=n) fun i hi=>e i (by omega)
  have h2:=e n (by omega)
  show 0 < sumN h n+h n↔_
  constructor
  · intro k
    by_cases c:0 < h n
    · exact ⟨n,by omega,c⟩
    · obtain ⟨i,hi,hp⟩:=ih.1 (by omega)
      exact ⟨i,by omega,hp⟩
  · rintro ⟨i,hi,hp⟩
    by_cases c:i=n
    · subst c;omega
    · have:=ih.2 ⟨i,by omega,hp⟩;omega
def pt (L:List (Int × Int)) (k:Nat):Int × Int:=L.getD k (0,0)
theorem pt_at {L:List (Int × Int)} {k:Nat} (h:k < L.length):pt L k=L[k]:=by unfold pt;simp [h]
def cyc (f:Int × Int→Int × Int→Int) (L:List (Int × Int)):Int:=sumN (fun k=>f (pt L k) (pt L ((k+1)%L.length))) L.length
theorem cyc_congr {f g:Int × Int→Int × Int→Int} {L:List (Int × Int)} (h:∀ p∈L,∀ q∈L,f p q=g p q):cyc f L=cyc g L:=by
 unfold cyc
 refine sumN_congr fun k hk=>?_
 have h2:(k+1)%L.length < L.length:=Nat.mod_lt _ (by omega)
 rw [pt_at hk,pt_at h2]
 exact h _ (List.getElem_mem hk) _ (List.getElem_mem h2)
theorem cyc_add (f g:Int × Int→Int × Int→Int) (L:List (Int × Int)):cyc (fun p q=>f p q+g p q) L=cyc f L+cyc g L:=sumN_add _ _ _
theorem cyc_neg (f:Int × Int→Int × Int→Int) (L:List (Int × Int)):cyc (fun p q=> -f p q) L= -cyc f L:=sumN_neg _ _
theorem cyc_mul (c:Int) (f:Int × Int→Int × Int→Int) (L:List (Int × Int)):cyc (fun p q=>c*f p q) L=c*cyc f L:=sumN_mul _ _ _
theorem cyc_zero (L:List (Int × Int)):cyc (fun _ _=>0) L=0:=sumN_zero _
theorem cyc_ends (g:Int × Int→Int) (L:List (Int × Int)):cyc (fun _ q=>g q) L=cyc (fun p _=>g p) L:=sumN_next (fun k=>g (pt L k)) L.length
theorem cyc_nonneg {f:Int × Int→Int × Int→Int} (h:∀ p q,0≤f p q) (L:List (Int × Int)):0≤cyc f L:=sumN_nonneg fun _ _=>h _ _
theorem cyc_pos {f:Int × Int→Int × Int→Int} (h:∀ p q,0≤f p q) (L:List (Int × Int)):0 < cyc f L↔∃ k,k < L.length∧0 < f (pt L k) (pt L ((k+1)%L.length)):=sumN_pos fun _ _=>h _ _
theorem cyc_turn (f:Int × Int→Int × Int→Int) {L M:List (Int × Int)} {s:Nat} (hl:M.length=L.length) (h:∀ i,i < L.length→pt M i=pt L ((i+s)%L.length)):cyc f M=cyc f L:=by
 unfold cyc
 rw [hl,← sumN_turn (fun k=>f (pt L k) (pt L ((k+1)%L.length))) L.length s]
 refine sumN_congr fun k hk=>?_
 have h2:(k+1)%L.length < L.length:=Nat.mod_lt _ (by omega)
 rw [h k hk,h _ h2]
 show f _ (pt L (((k+1)%L.length+s)%L.length))=f _ (pt L (((k+s)%L.length+1)%L.length))
 rw [Nat.mod_add_mod,Nat.mod_add_mod,show k+1+s=k+s+1 by omega]
theorem cyc_back (f:Int × Int→Int × Int→Int) {L M:List (Int × Int)} (hl:M.length=L.length) (h:∀ i,i < L.length→pt M i=pt L (L.length - 1 - i)):cyc f M=cyc (fun p q=>f q p) L:=by
 unfold cyc
 rw [hl]
 obtain ⟨n,hn⟩:∃ n,L.length=n:=⟨_,rfl⟩
 rw [hn] at h ⊢
 rw [← sumN_back (fun k=>f (pt L ((k+1)%n)) (pt L k)) n,← sumN_next (fun i=>f (pt L ((n - 1 - i+1)%n)) (pt L (n - 1 - i))) n]
 refine sumN_congr fun k hk=>?_
 have h2:(k+1)%n < n:=Nat.mod_lt _ (by omega)
 rw [h k hk,h _ h2]
 show f _ _=f (pt L ((n - 1 - (k+1)%n+1)%n)) _
 congr 2
 by_cases c:k+1=n
 · rw [c,Nat.mod_self,show n - 1 - 0+1=n by omega,Nat.mod_self];omega
 · rw [Nat.mod_eq_of_lt (show k+1 < n by omega),Nat.mod_eq_of_lt (by omega)];omega
def sh (dx dy:Int) (p:Int × Int):Int × Int:=(p.1+dx,p.2+dy)
theorem cyc_sh (f:Int × Int→Int × Int→Int) (dx dy:Int) (L:List (Int × Int)):cyc f (L.map (sh dx dy))=cyc (fun p q=>f (sh dx dy p) (sh dx dy q)) L:=by
 unfold cyc
 rw [List.length_map]
 refine sumN_congr fun k hk=>?_
 have h2:(k+1)%L.length < L.length:=Nat.mod_lt _ (by omega)
 have e:∀ j,j < L.length→pt (L.map (sh dx dy)) j=sh dx dy (pt L j):=fun j hj=>by
  rw [pt_at (by rw [List.length_map];exact hj),pt_at hj,List.getElem_map]
 rw [e k hk,e _ h2]
def crs (p q:Int × Int) (x y:Int):Int:=(q.1 - p.1)*(y - p.2) - (q.2 - p.2)*(x - p.1)
theorem crs_swap (p q:Int × Int) (x y:Int):crs q p x y= -crs p q x y:=by unfold crs;grind
theorem crs_sh (p q:Int × Int) (x y dx dy:Int):crs (sh dx dy p) (sh dx dy q) (x+dx) (y+dy)=crs p q x y:=by
 unfold crs sh
 rw [show q.1+dx - (p.1+dx)=q.1 - p.1 by omega,show y+dy - (p.2+dy)=y - p.2 by omega,show q.2+dy - (p.2+dy)=q.2 - p.2 by omega,show x+dx - (p.1+dx)=x - p.1 by omega]
def onB (p q:Int × Int) (x y:Int):Bool:=decide (crs p q x y=0) && (decide (min p.1 q.1≤x) && (decide (x≤max p.1 q.1) && (decide (min p.2 q.2≤y) && decide (y≤max p.2 q.2))))
theorem onB_iff {p q:Int × Int} {x y:Int}:onB p q x y=true↔crs p q x y=0∧min p.1 q.1≤x∧x≤max p.1 q.1∧min p.2 q.2≤y∧y≤max p.2 q.2:=by
 unfold onB
 simp only [Bool.and_eq_true,decide_eq_true_eq]
def crB (p q:Int × Int) (x y:Int):Bool:=(decide (p.2≤y) && (decide (y < q.2) && decide (0 < crs p q x y))) || (decide (y < p.2) && (decide (q.2≤y) && decide (crs p q x y < 0)))
theorem crB_iff {p q:Int × Int} {x y:Int}:crB p q x y=true↔(p.2≤y∧y < q.2∧0 < crs p q x y)∨(y < p.2∧q.2≤y∧crs p q x y < 0):=by
 unfold crB
 simp only [Bool.or_eq_true,Bool.and_eq_true,decide_eq_true_eq]
theorem bool_iff {a b:Bool} (h:a=true↔b=true):a=b:=by cases a <;>cases b <;>simp_all
theorem onB_swap (p q:Int × Int) (x y:Int):onB q p x y=onB p q x y:=bool_iff (by rw [onB_iff,onB_iff,crs_swap p q];omega)
theorem crB_swap (p q:Int × Int) (x y:Int):crB q p x y=crB p q x y:=bool_iff (by rw [crB_iff,crB_iff,crs_swap p q];omega)
theorem onB_sh (p q:Int × Int) (x y dx dy:Int):onB (sh dx dy p) (sh dx dy q) (x+dx) (y+dy)=onB p q x y:=bool_iff (by
 rw [onB_iff,onB_iff,crs_sh]
 unfold sh
 omega)
theorem crB_sh (p q:Int × Int) (x y dx dy:Int):crB (sh dx dy p) (sh dx dy q) (x+dx) (y+dy)=crB p q x y:=bool_iff (by
 rw [crB_iff,crB_iff,crs_sh]
 unfold sh
 omega)
def bi (b:Bool):Int:=if b then 1 else 0
theorem bi_box (b:Bool):0≤bi b∧bi b≤1:=by cases b <;>decide
theorem bi_pos (b:Bool):0 < bi b↔b=true:=by cases b <;>decide
def onN (L:List (Int × Int)) (x y:Int):Int:=cyc (fun p q=>bi (onB p q x y)) L
def crN (L:List (Int × Int)) (x y:Int):Int:=cyc (fun p q=>bi (crB p q x y)) L
def ar2 (p q:Int × Int):Int:=p.1*q.2 - q.1*p.2
def area (L:List (Int × Int)):Int:=cyc ar2 L
theorem onN_nonneg (L:List (Int × Int)) (x y:Int):0≤onN L x y:=cyc_nonneg (fun _ _=>(bi_box _).1) L
theorem crN_nonneg (L:List (Int × Int)) (x y:Int):0≤crN L x y:=cyc_nonneg (fun _ _=>(bi_box _).1) L
theorem onN_pos {L:List (Int × Int)} {x y:Int}:0 < onN L x y↔∃ k,k < L.length∧onB (pt L k) (pt L ((k+1)%L.length)) x y=true:=by
 unfold onN
 rw [cyc_pos fun _ _=>(bi_box _).1]
 simp only [bi_pos]
theorem onN_turn {L M:List (Int × Int)} {s:Nat} (x y:Int) (hl:M.length=L.length) (h:∀ i,i < L.length→pt M i=pt L ((i+s)%L.length)):onN M x y=onN L x y:=cyc_turn _ hl h
theorem crN_turn {L M:List (Int × Int)} {s:Nat} (x y:Int) (hl:M.length=L.length) (h:∀ i,i < L.length→pt M i=pt L ((i+s)%L.length)):crN M x y=crN L x y:=cyc_turn _ hl h
theorem area_turn {L M:List (Int × Int)} {s:Nat} (hl:M.length=L.length) (h:∀ i,i < L.length→pt M i=pt L ((i+s)%L.length)):area M=area L:=cyc_turn _ hl h
theorem onN_back {L M:List (Int × Int)} (x y:Int) (hl:M.length=L.length) (h:∀ i,i < L.length→pt M i=pt L (L.length - 1 - i)):onN M x y=onN L x y:=by
 unfold onN
 rw [cyc_back _ hl h]
 simp only [onB_swap]
theorem crN_back {L M:List (Int × Int)} (x y:Int) (hl:M.length=L.length) (h:∀ i,i < L.length→pt M i=pt L (L.length - 1 - i)):crN M x y=crN L x y:=by
 unfold crN
 rw [cyc_back _ hl h]
 simp only [crB_swap]
theorem area_back {L M:List (Int × Int)} (hl:M.length=L.length) (h:∀ i,i < L.length→pt M i=pt L (L.length - 1 - i)):area M= -area L:=by
 unfold area
 rw [cyc_back _ hl h,← cyc_neg]
 exact cyc_congr fun p _ q _=>by unfold ar2;omega
theorem onN_sh (L:List (Int × Int)) (x y dx dy:Int):onN (L.map (sh dx dy)) (x+dx) (y+dy)=onN L x y:=by
 unfold onN
 rw [cyc_sh]
 simp only [onB_sh]
theorem crN_sh (L:List (Int × Int)) (x y dx dy:Int):crN (L.map (sh dx dy)) (x+dx) (y+dy)=crN L x y:=by
 unfold crN
 rw [cyc_sh]
 simp only [crB_sh]
theorem area_sh (L:List (Int × Int)) (dx dy:Int):area (L.map (sh dx dy))=area L:=by
 unfold area
 rw [cyc_sh]
 have e:cyc (fun p q=>ar2 (sh dx dy p) (sh dx dy q)) L=cyc (fun p q=>ar2 p q+(dy*p.1+-(dx*p.2)+-(dy*q.1+-(dx*q.2)))) L:=cyc_congr fun p _ q _=>by
  unfold ar2 sh
  grind
 rw [e,cyc_add,cyc_add,cyc_neg (fun _ q=>dy*q.1+-(dx*q.2)),cyc_ends (fun q=>dy*q.1+-(dx*q.2))]
 omega
def lin (p q:Int × Int) (X Y M:Int):Int:=(q.1 - p.1)*(Y - M*p.2) - (q.2 - p.2)*(X - M*p.1)
theorem lin_one (p q:Int × Int) (x y:Int):lin p q x y 1=crs p q x y:=by unfold lin crs;rw [Int.one_mul,Int.one_mul]
theorem lin_comb (p q:Int × Int) (a b X Y M X' Y' M':Int):lin p q (a*X+b*X') (a*Y+b*Y') (a*M+b*M')=a*lin p q X Y M+b*lin p q X' Y' M':=by unfold lin;grind
def nx (i:Nat):Nat:=(i+1)%6
theorem nx_lt (i:Nat):nx i < 6:=Nat.mod_lt _ (by omega)
def InK (h:Nat→Int × Int) (X Y M:Int):Prop:=∀ i,i < 6→0≤lin (h i) (h (nx i)) X Y M
theorem InK.comb {h:Nat→Int × Int} {X Y M X' Y' M' a b:Int} (k:InK h X Y M) (k':InK h X' Y' M') (ha:0≤a) (hb:0≤b):InK h (a*X+b*X') (a*Y+b*Y') (a*M+b*M'):=fun i hi=>by
 rw [lin_comb]
 have h1:=Int.mul_nonneg ha (k i hi)
 have h2:=Int.mul_nonneg hb (k' i hi)
 omega
def Bent (h:Nat→Int × Int):Prop:=(∀ i,i < 6→∀ j,j < 6→0≤crs (h i) (h (nx i)) (h j).1 (h j).2)∧∀ i,i < 6→0 < crs (h i) (h (nx i)) (h (nx (nx i))).1 (h (nx (nx i))).2
theorem Bent.corner {h:Nat→Int × Int} (k:Bent h) {j:Nat} (hj:j < 6):InK h (h j).1 (h j).2 1:=fun i hi=>by rw [lin_one];exact k.1 i hi j hj
theorem turn_six {P:Nat→Prop} (h1:∃ i,i < 6∧P i) (h2:∃ j,j < 6∧¬ P j):∃ i,i < 6∧P i∧¬ P (nx i):=by
 by_cases h:∃ i,i < 6∧P i∧¬ P (nx i)
 · exact h
 · exfalso
   have s:∀ i,i < 6→P i→P (nx i):=fun i hi hp=>by
    by_cases c:P (nx i)
    · exact c
    · exact absurd ⟨i,hi,hp,c⟩ h
   have s0:P 0→P 1:=s 0 (by omega)
   have s1:P 1→P 2:=s 1 (by omega)
   have s2:P 2→P 3:=s 2 (by omega)
   have s3:P 3→P 4:=s 3 (by omega)
   have s4:P 4→P 5:=s 4 (by omega)
   have s5:P 5→P 0:=s 5 (by omega)
   obtain ⟨i,hi,hp⟩:=h1
   obtain ⟨j,hj,hn⟩:=h2
   have p0:P 0:=by
    obtain rfl | rfl | rfl | rfl | rfl | rfl:i=0∨i=1∨i=2∨i=3∨i=4∨i=5:=by omega
    · exact hp
    · exact s5 (s4 (s3 (s2 (s1 hp))))
    · exact s5 (s4 (s3 (s2 hp)))
    · exact s5 (s4 (s3 hp))
    · exact s5 (s4 hp)
    · exact s5 hp
   obtain rfl | rfl | rfl | rfl | rfl | rfl:j=0∨j=1∨j=2∨j=3∨j=4∨j=5:=by omega
   · exact hn p0
   · exact hn (s0 p0)
   · exact hn (s1 (s0 p0))
   · exact hn (s2 (s1 (s0 p0)))
   · exact hn (s3 (s2 (s1 (s0 p0))))
   · exact hn (s4 (s3 (s2 (s1 (s0 p0)))))
theorem quad {h:Nat→Int × Int} (hk:Bent h) {cx cy:Int} (hx:∃ i,i < 6∧cx≤(h i).1) (hy:∃ i,i < 6∧cy≤(h i).2)
 (he:∀ i,i < 6→∃ s t:Int,0≤s∧0≤t∧0≤crs (h i) (h (nx i)) (cx+s) (cy+t)):∃ X Y M:Int,0 < M∧InK h X Y M∧M*cx≤X∧M*cy≤Y:=by
 obtain ⟨k,hk6,hky⟩:=hy
 by_cases hkx:cx≤(h k).1
 · exact ⟨_,_,1,by omega,hk.corner hk6,by omega,by omega⟩
 · obtain ⟨i,hi,hp,hq⟩:=turn_six (P:=fun i=>cx≤(h i).1) hx ⟨k,hk6,hkx⟩
   have hv:=hk.1 i hi k hk6
   have hb:=hk.corner hi
   have hb':=hk.corner (nx_lt i)
   obtain ⟨s,t,hs,ht,hst⟩:=he i hi
   by_cases hpy:cy≤(h i).2
   · exact ⟨_,_,1,by omega,hb,by omega,by omega⟩
   · generalize h (nx i)=q at *
     generalize h i=p at *
     generalize h k=v at *
     by_cases hL:0≤crs p q cx cy
     · have hc:=hb.comb hb' (a:=cx - q.1) (b:=p.1 - cx) (by omega) (by omega)
       refine ⟨_,_,_,?_,hc,?_,?_⟩
       · omega
       · have e:(cx - q.1)*p.1+(p.1 - cx)*q.1=((cx - q.1)*1+(p.1 - cx)*1)*cx:=by grind
         omega
       · have e:(cx - q.1)*p.2+(p.1 - cx)*q.2 - ((cx - q.1)*1+(p.1 - cx)*1)*cy=crs p q cx cy:=by unfold crs;grind
         omega
     · exfalso
       by_cases hd:q.2 < p.2
       · have h1:=Int.mul_neg_of_neg_of_pos (a:=q.1 - p.1) (b:=v.2 - p.2) (by omega) (by omega)
         have h2:=Int.mul_pos_of_neg_of_neg (a:=q.2 - p.2) (b:=v.1 - p.1) (by omega) (by omega)
         unfold crs at hv
         omega
       · have e:crs p q (cx+s) (cy+t)=crs p q cx cy - (p.1 - q.1)*t - (q.2 - p.2)*s:=by unfold crs;grind
         have h1:=Int.mul_nonneg (a:=p.1 - q.1) (b:=t) (by omega) ht
         have h2:=Int.mul_nonneg (a:=q.2 - p.2) (b:=s) (by omega) hs
         omega
def rot (h:Nat→Int × Int):Nat→Int × Int:=fun i=>((h i).2,-(h i).1)
theorem rot_crs (h:Nat→Int × Int) (i j:Nat) (x y:Int):crs (rot h i) (rot h j) y (-x)=crs (h i) (h j) x y:=by unfold crs rot;grind
theorem rot_lin (h:Nat→Int × Int) (i j:Nat) (X Y M:Int):lin (rot h i) (rot h j) Y (-X) M=lin (h i) (h j) X Y M:=by unfold lin rot;grind
theorem rot_bent {h:Nat→Int × Int} (k:Bent h):Bent (rot h) :=
 ⟨fun i hi j hj=>by have:=k.1 i hi j hj;rw [← rot_crs] at this;exact this,fun i hi=>by have:=k.2 i hi;rw [← rot_crs] at this;exact this⟩
theorem rot_in {h:Nat→Int × Int} {X Y M:Int} (k:InK (rot h) Y (-X) M):InK h X Y M:=fun i hi=>by have:=k i hi;rwa [rot_lin] at this
theorem meet {C:Int→Int→Int→Prop} (F:Int→Int→Int→Int) (hF:∀ a b X Y M X' Y' M',F (a*X+b*X') (a*Y+b*Y') (a*M+b*M')=a*F X Y M+b*F X' Y' M')
 (hC:∀ a b X Y M X' Y' M',0≤a→0≤b→C X Y M→C X' Y' M'→C (a*X+b*X') (a*Y+b*Y') (a*M+b*M')) {lo hi:Int} (hlh:lo≤hi)
 (h1:∃ X Y M,0 < M∧C X Y M∧F X Y M≤M*hi) (h2:∃ X Y M,0 < M∧C X Y M∧M*lo≤F X Y M):∃ X Y M,0 < M∧C X Y M∧M*lo≤F X Y M∧F X Y M≤M*hi:=by
 obtain ⟨X,Y,M,hM,c1,f1⟩:=h1
 obtain ⟨X',Y',M',hM',c2,f2⟩:=h2
 by_cases k1:M*lo≤F X Y M
 · exact ⟨X,Y,M,hM,c1,k1,f1⟩
 · by_cases k2:F X' Y' M'≤M'*hi
   · exact ⟨X',Y',M',hM',c2,f2,k2⟩
   · have g1:M'*lo≤M'*hi:=Int.mul_le_mul_of_nonneg_left hlh (by omega)
     obtain ⟨a,ea⟩:∃ a,F X' Y' M' - M'*lo=a:=⟨_,rfl⟩
     obtain ⟨b,eb⟩:∃ b,M*lo - F X Y M=b:=⟨_,rfl⟩
     have ha:0 < a:=by omega
     have hb:0 < b:=by omega
     have hM2:0 < a*M+b*M':=by
      have h1:=Int.mul_pos ha hM
      have h2:=Int.mul_pos hb hM'
      omega
     have e:F (a*X+b*X') (a*Y+b*Y') (a*M+b*M')=(a*M+b*M')*lo:=by
      rw [hF,show F X' Y' M'=M'*lo+a by omega,show F X Y M=M*lo - b by omega]
      grind
     refine ⟨_,_,_,hM2,hC a b X Y M X' Y' M' (by omega) (by omega) c1 c2,by omega,?_⟩
     rw [e]
     exact Int.mul_le_mul_of_nonneg_left hlh (by omega)
theorem quad_box {h:Nat→Int × Int} (hk:Bent h) {l1 l2 u1 u2:Int} (h1:l1≤u1) (h2:l2≤u2) (hx:∃ i,i < 6∧l1≤(h i).1) (hy:∃ i,i < 6∧l2≤(h i).2)
 (he:∀ i,i < 6→0≤crs (h i) (h (nx i)) l1 l2∨0≤crs (h i) (h (nx i)) u1 l2∨0≤crs (h i) (h (nx i)) u1 u2∨0≤crs (h i) (h (nx i)) l1 u2):∃ X Y M:Int,0 < M∧InK h X Y M∧M*l1≤X∧M*l2≤Y :=
 quad hk hx hy fun i hi=>by
  rcases he i hi with k | k | k | k
  · exact ⟨0,0,by omega,by omega,by rw [Int.add_zero,Int.add_zero];exact k⟩
  · exact ⟨u1 - l1,0,by omega,by omega,by rw [show l1+(u1 - l1)=u1 by omega,Int.add_zero];exact k⟩
  · exact ⟨u1 - l1,u2 - l2,by omega,by omega,by rw [show l1+(u1 - l1)=u1 by omega,show l2+(u2 - l2)=u2 by omega];exact k⟩
  · exact ⟨0,u2 - l2,by omega,by omega,by rw [show l2+(u2 - l2)=u2 by omega,Int.add_zero];exact k⟩
def Unparted (h:Nat→Int × Int) (l1 l2 u1 u2:Int):Prop :=
 ((∃ i,i < 6∧l1≤(h i).1)∧(∃ i,i < 6∧(h i).1≤u1))∧((∃ i,i < 6∧l2≤(h i).2)∧(∃ i,i < 6∧(h i).2≤u2)) ∧
 ∀ i,i < 6→0≤crs (h i) (h (nx i)) l1 l2∨0≤crs (h i) (h (nx i)) u1 l2∨0≤crs (h i) (h (nx i)) u1 u2∨0≤crs (h i) (h (nx i)) l1 u2
theorem Unparted.rot {h:Nat→Int × Int} {l1 l2 u1 u2:Int} (k:Unparted h l1 l2 u1 u2):Unparted (rot h) l2 (-u1) u2 (-l1):=by
 obtain ⟨⟨⟨a,ha,a1⟩,b,hb,b1⟩,⟨⟨c,hc,c1⟩,d,hd,d1⟩,he⟩:=k
 refine ⟨⟨⟨c,hc,c1⟩,d,hd,d1⟩,⟨⟨b,hb,?_⟩,a,ha,?_⟩,fun i hi=>?_⟩
 · show -u1≤-(h b).1;omega
 · show -(h a).1≤-l1;omega
 · rw [rot_crs,rot_crs,rot_crs,rot_crs]
   rcases he i hi with k | k | k | k
   · exact .inr (.inr (.inr k))
   · exact .inl k
   · exact .inr (.inl k)
   · exact .inr (.inr (.inl k))
def Meets (h:Nat→Int × Int) (l1 l2 u1 u2:Int):Prop:=∃ X Y M:Int,0 < M∧InK h X Y M∧(M*l1≤X∧X≤M*u1)∧M*l2≤Y∧Y≤M*u2
theorem meets_of {h:Nat→Int × Int} {l1 l2 u1 u2:Int} (hk:Bent h) (h1:l1≤u1) (h2:l2≤u2) (hu:Unparted h l1 l2 u1 u2):Meets h l1 l2 u1 u2:=by
 have hk1:=rot_bent hk
 have hk2:=rot_bent hk1
 have hk3:=rot_bent hk2
 have hu1:=hu.rot
 have hu2:=hu1.rot
 have hu3:=hu2.rot
 obtain ⟨X1,Y1,M1,m1,i1,x1,y1⟩:=quad_box hk h1 h2 hu.1.1 hu.2.1.1 hu.2.2
 obtain ⟨X2,Y2,M2,m2,i2,x2,y2⟩:=quad_box hk1 h2 (by omega) hu1.1.1 hu1.2.1.1 hu1.2.2
 obtain ⟨X3,Y3,M3,m3,i3,x3,y3⟩:=quad_box hk2 (by omega) (by omega) hu2.1.1 hu2.2.1.1 hu2.2.2
 obtain ⟨X4,Y4,M4,m4,i4,x4,y4⟩:=quad_box hk3 (by omega) (by omega) hu3.1.1 hu3.2.1.1 hu3.2.2
 have j2:InK h (-Y2) X2 M2:=rot_in (by rw [Int.neg_neg];exact i2)
 have j3:InK h (-X3) (-Y3) M3:=rot_in (rot_in (by rw [Int.neg_neg,Int.neg_neg];exact i3))
 have j4:InK h Y4 (-X4) M4:=rot_in (rot_in (rot_in (by rw [Int.neg_neg,Int.neg_neg];exact i4)))
 have hC:=fun (a b X Y M X' Y' M':Int) (ha:0≤a) (hb:0≤b) (k:InK h X Y M) (k':InK h X' Y' M')=>k.comb k' ha hb
 obtain ⟨X5,Y5,M5,m5,i5,x5,z5⟩:=meet (C:=fun X Y M=>InK h X Y M∧M*l2≤Y) (fun X _ _=>X) (fun _ _ _ _ _ _ _ _=>rfl) (fun a b X Y M X' Y' M' ha hb k k'=>⟨hC a b X Y M X' Y' M' ha hb k.1 k'.1,by
  have g1:=Int.mul_le_mul_of_nonneg_left k.2 ha
  have g2:=Int.mul_le_mul_of_nonneg_left k'.2 hb
  have e:(a*M+b*M')*l2=a*(M*l2)+b*(M'*l2):=by grind
  omega⟩) h1 ⟨-Y2,X2,M2,m2,⟨j2,x2⟩,by have:M2*(-u1)= -(M2*u1):=Int.mul_neg _ _;omega⟩ ⟨X1,Y1,M1,m1,⟨i1,y1⟩,x1⟩
 obtain ⟨X6,Y6,M6,m6,i6,x6,z6⟩:=meet (C:=fun X Y M=>InK h X Y M∧Y≤M*u2) (fun X _ _=>X) (fun _ _ _ _ _ _ _ _=>rfl) (fun a b X Y M X' Y' M' ha hb k k'=>⟨hC a b X Y M X' Y' M' ha hb k.1 k'.1,by
  have g1:=Int.mul_le_mul_of_nonneg_left k.2 ha
  have g2:=Int.mul_le_mul_of_nonneg_left k'.2 hb
  have e:(a*M+b*M')*u2=a*(M*u2)+b*(M'*u2):=by grind
  omega⟩) h1 ⟨-X3,-Y3,M3,m3,⟨j3,by have:M3*(-u2)= -(M3*u2):=Int.mul_neg _ _;omega⟩,by have:M3*(-u1)= -(M3*u1):=Int.mul_neg _ _;omega⟩
  ⟨Y4,-X4,M4,m4,⟨j4,by have:M4*(-u2)= -(M4*u2):=Int.mul_neg _ _;omega⟩,by have:M4*(- -l1)=M4*l1:=by rw [Int.neg_neg]
                                                                          omega⟩
 obtain ⟨X7,Y7,M7,m7,i7,x7,z7⟩:=meet (C:=fun X Y M=>InK h X Y M∧M*l1≤X∧X≤M*u1) (fun _ Y _=>Y) (fun _ _ _ _ _ _ _ _=>rfl) (fun a b X Y M X' Y' M' ha hb k k'=>⟨hC a b X Y M X' Y' M' ha hb k.1 k'.1,by
  have g1:=Int.mul_le_mul_of_nonneg_left k.2.1 ha
  have g2:=Int.mul_le_mul_of_nonneg_left k'.2.1 hb
  have g3:=Int.mul_le_mul_of_nonneg_left k.2.2 ha
  have g4:=Int.mul_le_mul_of_nonneg_left k'.2.2 hb
  have e1:(a*M+b*M')*l1=a*(M*l1)+b*(M'*l1):=by grind
  have e2:(a*M+b*M')*u1=a*(M*u1)+b*(M'*u1):=by grind
  omega⟩) h2 ⟨X6,Y6,M6,m6,⟨i6.1,x6,z6⟩,i6.2⟩ ⟨X5,Y5,M5,m5,⟨i5.1,x5,z5⟩,i5.2⟩
 exact ⟨X7,Y7,M7,m7,i7.1,i7.2,x7,z7⟩
theorem greatest (f:Nat→Int):∀ n,0 < n→∃ j,j < n∧∀ i,i < n→f i≤f j
 | 0,h=>absurd h (Nat.lt_irrefl _)
 | 1,_=>⟨0,by omega,fun i hi=>by rw [show i=0 by omega];omega⟩
 | n+2,_=>by
  obtain ⟨j,hj,k⟩:=greatest f (n+1) (by omega)
  by_cases c:f j≤f (n+1)
  · exact ⟨n+1,by omega,fun i hi=>by
     by_cases e:i=n+1
     · rw [e];omega
     · have:=k i (by omega);omega⟩
  · exact ⟨j,by omega,fun i hi=>by
     by_cases e:i=n+1
     · rw [e];omega
     · exact k i (by omega)⟩
theorem right_most {h:Nat→Int × Int} (hk:Bent h) {X Y M c:Int} (hM:0 < M) (hi:InK h X Y M) (hX:M*c≤X):∃ i,i < 6∧c≤(h i).1:=by
 obtain ⟨j,hj,hm⟩:=greatest (fun i=>(h i).1) 6 (by omega)
 refine ⟨j,hj,?_⟩
 by_cases hc:c≤(h j).1
 · exact hc
 · exfalso
   obtain ⟨i,hi6,e⟩:∃ i,i < 6∧nx i=j:=⟨(j+5)%6,Nat.mod_lt _ (by omega),by unfold nx;omega⟩
   have k1:=hi i hi6
   have k2:=hi (nx i) (nx_lt i)
   have k3:=hk.2 i hi6
   have g1:=hm i hi6
   have g2:=hm (nx (nx i)) (nx_lt _)
   rw [← e] at g1 g2 hc
   generalize h (nx (nx i))=r at *
   generalize h (nx i)=q at *
   generalize h i=p at *
   have hw:0 < X - M*q.1:=by
    have:=Int.mul_lt_mul_of_pos_left (show q.1 < c by omega) hM
    omega
   have e1:(X - M*q.1)*crs p q r.1 r.2= -(lin q r X Y M*(q.1 - p.1)) - (lin p q X Y M*(q.1 - r.1)):=by unfold lin crs;grind
   have s1:=Int.mul_pos hw k3
   have s2:=Int.mul_nonneg k2 (show 0≤q.1 - p.1 by omega)
   have s3:=Int.mul_nonneg k1 (show 0≤q.1 - r.1 by omega)
   omega
theorem lin_most (p q:Int × Int) {l1 l2 u1 u2 X Y M:Int} (hM:0 < M) (h:(M*l1≤X∧X≤M*u1)∧M*l2≤Y∧Y≤M*u2) (k:0≤lin p q X Y M) :
 0≤crs p q l1 l2∨0≤crs p q u1 l2∨0≤crs p q u1 u2∨0≤crs p q l1 u2:=by
 have key:∀ x y:Int,(q.1 - p.1)*Y≤(q.1 - p.1)*(M*y)→-((q.2 - p.2)*X)≤-((q.2 - p.2)*(M*x))→0≤crs p q x y:=fun x y h1 h2=>by
  by_cases c:0≤crs p q x y
  · exact c
  · exfalso
    have e:M*crs p q x y=lin p q X Y M+((q.1 - p.1)*(M*y) - (q.1 - p.1)*Y)+((q.2 - p.2)*X - (q.2 - p.2)*(M*x)):=by unfold lin crs;grind
    have:=Int.mul_neg_of_pos_of_neg hM (show crs p q x y < 0 by omega)
    omega
 by_cases d1:0≤q.1 - p.1
 · have a1:=Int.mul_le_mul_of_nonneg_left h.2.2 d1
   by_cases d2:0≤q.2 - p.2
   · exact .inr (.inr (.inr (key _ _ a1 (by have:=Int.mul_le_mul_of_nonneg_left h.1.1 d2;omega))))
   · exact .inr (.inr (.inl (key _ _ a1 (by have:=Int.mul_le_mul_of_nonpos_left (show q.2 - p.2≤0 by omega) h.1.2;omega))))
 · have a1:=Int.mul_le_mul_of_nonpos_left (show q.1 - p.1≤0 by omega) h.2.1
   by_cases d2:0≤q.2 - p.2
   · exact .inl (key _ _ a1 (by have:=Int.mul_le_mul_of_nonneg_left h.1.1 d2;omega))
   · exact .inr (.inl (key _ _ a1 (by have:=Int.mul_le_mul_of_nonpos_left (show q.2 - p.2≤0 by omega) h.1.2;omega)))
theorem unparted_of {h:Nat→Int × Int} {l1 l2 u1 u2:Int} (hk:Bent h) (hm:Meets h l1 l2 u1 u2):Unparted h l1 l2 u1 u2:=by
 obtain ⟨X,Y,M,hM,hi,hb⟩:=hm
 have hk1:=rot_bent hk
 have hk2:=rot_bent hk1
 have hk3:=rot_bent hk2
 have i1:InK (rot h) Y (-X) M:=fun i k=>by rw [rot_lin];exact hi i k
 have i2:InK (rot (rot h)) (-X) (-Y) M:=fun i k=>by rw [rot_lin];exact i1 i k
 have i3:InK (rot (rot (rot h))) (-Y) (- -X) M:=fun i k=>by rw [rot_lin];exact i2 i k
 obtain ⟨b,hb6,b1⟩:=right_most hk2 (c:= -u1) hM i2 (by have:M*(-u1)= -(M*u1):=Int.mul_neg _ _;omega)
 obtain ⟨d,hd6,d1⟩:=right_most hk3 (c:= -u2) hM i3 (by have:M*(-u2)= -(M*u2):=Int.mul_neg _ _;omega)
 refine ⟨⟨right_most hk hM hi hb.1.1,b,hb6,?_⟩,⟨right_most hk1 hM i1 hb.2.1,d,hd6,?_⟩,fun i hi6=>lin_most _ _ hM hb (hi i hi6)⟩
 · have: -u1≤-(h b).1:=b1
   omega
 · have: -u2≤-(h d).2:=d1
   omega
end Go.Proofs.YtdklpgphmoaniaaGreatDoor
