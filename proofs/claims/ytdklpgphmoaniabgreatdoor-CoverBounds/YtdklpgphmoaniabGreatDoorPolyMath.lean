/-
  Plain facts on rings of corners: sums over a ring's edges, however it is begun or turned about; what is moved; what lies beside a ring; boxes and triangles. No condition beyond those written.
-/
import Derived.Test.YtdklpgphmoaniabGreatDoorProg
import Derived.Handy
import Derived.WalkSpells
import Derived.WalkLawsBesides
import Derived.BigQuiet
import Derived.PlainAid
import Derived.Deep.RegionWith
namespace Go.Proofs.YtdklpgphmoaniabGreatDoor
def sumN (h:Nat→Int):Nat→Int
 | 0=>0
 | n+1=>sumN h n+h n
theorem sumN_congr {h k:Nat→Int}:∀ {n:Nat},(∀ i,i < n→h i=k i)→sumN h n=sumN k n
 | 0,_=>rfl
 | n+1,e=>by
  show sumN h n+h n=sumN k n+k n
  rw [sumN_congr fun i hi=>e i (by omega),e n (by omega)]
theorem sumN_zero:∀ n:Nat,sumN (fun _=>0) n=0
 | 0=>rfl
 | n+1=>by show sumN _ n+0=0;rw [sumN_zero n];rfl
theorem sumN_add (h k:Nat→Int):∀ n:Nat,sumN (fun i=>h i+k i) n=sumN h n+sumN k n
 | 0=>rfl
 | n+1=>by
  show sumN (fun i=>h i+k i) n+(h n+k n)=sumN h n+h n+(sumN k n+k n)
  rw [sumN_add h k n];omega
theorem sumN_neg (h:Nat→Int):∀ n:Nat,sumN (fun i=> -h i) n= -sumN h n
 | 0=>rfl
 | n+1=>by
  show sumN (fun i=> -h i) n+-h n= -(sumN h n+h n)
  rw [sumN_neg h n];omega
theorem sumN_mul (c:Int) (h:Nat→Int):∀ n:Nat,sumN (fun i=>c*h i) n=c*sumN h n
 | 0=>by show (0:Int)=c*0;rw [Int.mul_zero]
 | n+1=>by
  show sumN (fun i=>c*h i) n+c*h n=c*(sumN h n+h n)
  rw [sumN_mul c h n,Int.mul_add]
theorem sumN_head (h:Nat→Int):∀ n:Nat,sumN h (n+1)=h 0+sumN (fun i=>h (i+1)) n
 | 0=>by show 0+h 0=h 0+0;omega
 | n+1=>by
  show sumN h (n+1)+h (n+1)=h 0+(sumN (fun i=>h (i+1)) n+h (n+1))
  rw [sumN_head h n];omega
theorem sumN_next (h:Nat→Int):∀ n:Nat,sumN (fun i=>h ((i+1)%n)) n=sumN h n
 | 0=>rfl
 | n+1=>by
  show sumN (fun i=>h ((i+1)%(n+1))) n+h ((n+1)%(n+1))=_
  rw [Nat.mod_self,sumN_head,sumN_congr (k:=fun i=>h (i+1)) fun i hi=>by rw [Nat.mod_eq_of_lt (by omega)]]
  omega
theorem sumN_turn (h:Nat→Int) (n:Nat):∀ s:Nat,sumN (fun i=>h ((i+s)%n)) n=sumN h n
 | 0=>sumN_congr fun i hi=>by rw [Nat.add_zero,Nat.mod_eq_of_lt hi]
 | s+1=>by
  rw [← sumN_turn h n s,← sumN_next (fun i=>h ((i+s)%n)) n]
  refine sumN_congr fun i hi=>?_
  show h ((i+(s+1))%n)=h (((i+1)%n+s)%n)
  rw [Nat.mod_add_mod,show i+(s+1)=i+1+s by omega]
theorem sumN_back (h:Nat→Int):∀ n:Nat,sumN (fun i=>h (n - 1 - i)) n=sumN h n
 | 0=>rfl
 | n+1=>by
  rw [sumN_head]
  show h (n+1 - 1 - 0)+_=sumN h n+h n
  rw [← sumN_back h n,show n+1 - 1 - 0=n by omega,sumN_congr (k:=fun i=>h (n - 1 - i)) fun i hi=>by
   show h (n+1 - 1 - (i+1))=h (n - 1 - i)
   rw [show n+1 - 1 - (i+1)=n - 1 - i by omega]]
  omega
theorem sumN_nonneg {h:Nat→Int}:∀ {n:Nat},(∀ i,i < n→0≤h i)→0≤sumN h n
 | 0,_=>Int.le_refl 0
 | n+1,e=>by
  have h1:=sumN_nonneg (n:=n) fun i hi=>e i (by omega)
  have h2:=e n (by omega)
  show 0≤sumN h n+h n
  omega
theorem sumN_pos {h:Nat→Int}:∀ {n:Nat},(∀ i,i < n→0≤h i)→(0 < sumN h n↔∃ i,i < n∧0 < h i)
 | 0,_=>⟨fun k=>absurd k (by show ¬ (0:Int) < 0;omega),fun ⟨i,hi,_⟩=>absurd hi (Nat.not_lt_zero _)⟩
 | n+1,e=>by
  have h1:=sumN_nonneg (n:=n) fun i hi=>e i (by omega)
  have ih:=sumN_pos (n:=n) fun i hi=>e i (by omega)
  have h2:=e n (by omega)
  show 0 < sumN h n+h n↔_
  constructor
  · intro k
    by_cases c:0 < h n
    · exact ⟨n,by omega,c⟩
    · obtain ⟨i,hi,hp⟩:=ih.1 (by omega)
      exact ⟨i,by omega,hp⟩
  · rintro ⟨i,hi,hp⟩
    by_cases c:i=n
    · subst c;omega
    · have:=ih.2 ⟨i,by omega,hp⟩;omega
def pt (L:List (Int × Int)) (k:Nat):Int × Int:=L.getD k (0,0)
theorem pt_at {L:List (Int × Int)} {k:Nat} (h:k < L.length):pt L k=L[k]:=by unfold pt;simp [h]
def cyc (f:Int × Int→Int × Int→Int) (L:List (Int × Int)):Int:=sumN (fun k=>f (pt L k) (pt L ((k+1)%L.length))) L.length
theorem cyc_congr {f g:Int × Int→Int × Int→Int} {L:List (Int × Int)} (h:∀ p∈L,∀ q∈L,f p q=g p q):cyc f L=cyc g L:=by
 unfold cyc
 refine sumN_congr fun k hk=>?_
 have h2:(k+1)%L.length < L.length:=Nat.mod_lt _ (by omega)
 rw [pt_at hk,pt_at h2]
 exact h _ (List.getElem_mem hk) _ (List.getElem_mem h2)
theorem cyc_add (f g:Int × Int→Int × Int→Int) (L:List (Int × Int)):cyc (fun p q=>f p q+g p q) L=cyc f L+cyc g L:=sumN_add _ _ _
theorem cyc_neg (f:Int × Int→Int × Int→Int) (L:List (Int × Int)):cyc (fun p q=> -f p q) L= -cyc f L:=sumN_neg _ _
theorem cyc_mul (c:Int) (f:Int × Int→Int × Int→Int) (L:List (Int × Int)):cyc (fun p q=>c*f p q) L=c*cyc f L:=sumN_mul _ _ _
theorem cyc_zero (L:List (Int × Int)):cyc (fun _ _=>0) L=0:=sumN_zero _
theorem cyc_ends (g:Int × Int→Int) (L:List (Int × Int)):cyc (fun _ q=>g q) L=cyc (fun p _=>g p) L:=sumN_next (fun k=>g (pt L k)) L.length
theorem cyc_nonneg {f:Int × Int→Int × Int→Int} (h:∀ p q,0≤f p q) (L:List (Int × Int)):0≤cyc f L:=sumN_nonneg fun _ _=>h _ _
theorem cyc_pos {f:Int × Int→Int × Int→Int} (h:∀ p q,0≤f p q) (L:List (Int × Int)):0 < cyc f L↔∃ k,k < L.length∧0 < f (pt L k) (pt L ((k+1)%L.length)):=sumN_pos fun _ _=>h _ _
theorem cyc_turn (f:Int × Int→Int × Int→Int) {L M:List (Int × Int)} {s:Nat} (hl:M.length=L.length) (h:∀ i,i < L.length→pt M i=pt L ((i+s)%L.length)):cyc f M=cyc f L:=by
 unfold cyc
 rw [hl,← sumN_turn (fun k=>f (pt L k) (pt L ((k+1)%L.length))) L.length s]
 refine sumN_congr fun k hk=>?_
 have h2:(k+1)%L.length < L.length:=Nat.mod_lt _ (by omega)
 rw [h k hk,h _ h2]
 show f _ (pt L (((k+1)%L.length+s)%L.length))=f _ (pt L (((k+s)%L.length+1)%L.length))
 rw [Nat.mod_add_mod,Nat.mod_add_mod,show k+1+s=k+s+1 by omega]
theorem cyc_back (f:Int × Int→Int × Int→Int) {L M:List (Int × Int)} (hl:M.length=L.length) (h:∀ i,i < L.length→pt M i=pt L (L.length - 1 - i)):cyc f M=cyc (fun p q=>f q p) L:=by
 unfold cyc
 rw [hl]
 obtain ⟨n,hn⟩:∃ n,L.length=n:=⟨_,rfl⟩
 rw [hn] at h ⊢
 rw [← sumN_back (fun k=>f (pt L ((k+1)%n)) (pt L k)) n,← sumN_next (fun i=>f (pt L ((n - 1 - i+1)%n)) (pt L (n - 1 - i))) n]
 refine sumN_congr fun k hk=>?_
 have h2:(k+1)%n < n:=Nat.mod_lt _ (by omega)
 rw [h k hk,h _ h2]
 show f _ _=f (pt L ((n - 1 - (k+1)%n+1)%n)) _
 congr 2
 by_cases c:k+1=n
 · rw [c,Nat.mod_self,show n - 1 - 0+1=n by omega,Nat.mod_self];omega
 · rw [Nat.mod_eq_of_lt (show k+1 < n by omega),Nat.mod_eq_of_lt (by omega)];omega
def sh (dx dy:Int) (p:Int × Int):Int × Int:=(p.1+dx,p.2+dy)
theorem cyc_sh (f:Int × Int→Int × Int→Int) (dx dy:Int) (L:List (Int × Int)):cyc f (L.map (sh dx dy))=cyc (fun p q=>f (sh dx dy p) (sh dx dy q)) L:=by
 unfold cyc
 rw [List.length_map]
 refine sumN_congr fun k hk=>?_
 have h2:(k+1)%L.length < L.length:=Nat.mod_lt _ (by omega)
 have e:∀ j,j < L.length→pt (L.map (sh dx dy)) j=sh dx dy (pt L j):=fun j hj=>by
  rw [pt_at (by rw [List.length_map];exact hj),pt_at hj,List.getElem_map]
 rw [e k hk,e _ h2]
def crs (p q:Int × Int) (x y:Int):Int:=(q.1 - p.1)*(y - p.2) - (q.2 - p.2)*(x - p.1)
theorem crs_swap (p q:Int × Int) (x y:Int):crs q p x y= -crs p q x y:=by unfold crs;grind
theorem crs_sh (p q:Int × Int) (x y dx dy:Int):crs (sh dx dy p) (sh dx dy q) (x+dx) (y+dy)=crs p q x y:=by
 unfold crs sh
 rw [show q.1+dx - (p.1+dx)=q.1 - p.1 by omega,show y+dy - (p.2+dy)=y - p.2 by omega,show q.2+dy - (p.2+dy)=q.2 - p.2 by omega,show x+dx - (p.1+dx)=x - p.1 by omega]
def onB (p q:Int × Int) (x y:Int):Bool:=decide (crs p q x y=0) && (decide (min p.1 q.1≤x) && (decide (x≤max p.1 q.1) && (decide (min p.2 q.2≤y) && decide (y≤max p.2 q.2))))
theorem onB_iff {p q:Int × Int} {x y:Int}:onB p q x y=true↔crs p q x y=0∧min p.1 q.1≤x∧x≤max p.1 q.1∧min p.2 q.2≤y∧y≤max p.2 q.2:=by
 unfold onB
 simp only [Bool.and_eq_true,decide_eq_true_eq]
def crB (p q:Int × Int) (x y:Int):Bool:=(decide (p.2≤y) && (decide (y < q.2) && decide (0 < crs p q x y))) || (decide (y < p.2) && (decide (q.2≤y) && decide (crs p q x y < 0)))
theorem crB_iff {p q:Int × Int} {x y:Int}:crB p q x y=true↔(p.2≤y∧y < q.2∧0 < crs p q x y)∨(y < p.2∧q.2≤y∧crs p q x y < 0):=by
 unfold crB
 simp only [Bool.or_eq_true,Bool.and_eq_true,decide_eq_true_eq]
theorem bool_iff {a b:Bool} (h:a=true↔b=true):a=b:=by cases a <;>cases b <;>simp_all
theorem onB_swap (p q:Int × Int) (x y:Int):onB q p x y=onB p q x y:=bool_iff (by rw [onB_iff,onB_iff,crs_swap p q];omega)
theorem crB_swap (p q:Int × Int) (x y:Int):crB q p x y=crB p q x y:=bool_iff (by rw [crB_iff,crB_iff,crs_swap p q];omega)
theorem onB_sh (p q:Int × Int) (x y dx dy:Int):onB (sh dx dy p) (sh dx dy q) (x+dx) (y+dy)=onB p q x y:=bool_iff (by
 rw [onB_iff,onB_iff,crs_sh]
 unfold sh
 omega)
theorem crB_sh (p q:Int × Int) (x y dx dy:Int):crB (sh dx dy p) (sh dx dy q) (x+dx) (y+dy)=crB p q x y:=bool_iff (by
 rw [crB_iff,crB_iff,crs_sh]
 unfold sh
 omega)
def bi (b:Bool):Int:=if b then 1 else 0
theorem bi_box (b:Bool):0≤bi b∧bi b≤1:=by cases b <;>decide
theorem bi_pos (b:Bool):0 < bi b↔b=true:=by cases b <;>decide
def onN (L:List (Int × Int)) (x y:Int):Int:=cyc (fun p q=>bi (onB p q x y)) L
def crN (L:List (Int × Int)) (x y:Int):Int:=cyc (fun p q=>bi (crB p q x y)) L
def ar2 (p q:Int × Int):Int:=p.1*q.2 - q.1*p.2
def area (L:List (Int × Int)):Int:=cyc ar2 L
theorem onN_nonneg (L:List (Int × Int)) (x y:Int):0≤onN L x y:=cyc_nonneg (fun _ _=>(bi_box _).1) L
theorem crN_nonneg (L:List (Int × Int)) (x y:Int):0≤crN L x y:=cyc_nonneg (fun _ _=>(bi_box _).1) L
theorem onN_pos {L:List (Int × Int)} {x y:Int}:0 < onN L x y↔∃ k,k < L.length∧onB (pt L k) (pt L ((k+1)%L.length)) x y=true:=by
 unfold onN
 rw [cyc_pos fun _ _=>(bi_box _).1]
 simp only [bi_pos]
theorem onN_turn {L M:List (Int × Int)} {s:Nat} (x y:Int) (hl:M.length=L.length) (h:∀ i,i < L.length→pt M i=pt L ((i+s)%L.length)):onN M x y=onN L x y:=cyc_turn _ hl h
theorem crN_turn {L M:List (Int × Int)} {s:Nat} (x y:Int) (hl:M.length=L.length) (h:∀ i,i < L.length→pt M i=pt L ((i+s)%L.length)):crN M x y=crN L x y:=cyc_turn _ hl h
theorem area_turn {L M:List (Int × Int)} {s:Nat} (hl:M.length=L.length) (h:∀ i,i < L.length→pt M i=pt L ((i+s)%L.length)):area M=area L:=cyc_turn _ hl h
theorem onN_back {L M:List (Int × Int)} (x y:Int) (hl:M.length=L.length) (h:∀ i,i < L.length→pt M i=pt L (L.length - 1 - i)):onN M x y=onN L x y:=by
 unfold onN
 rw [cyc_back _ hl h]
 simp only [onB_swap]
theorem crN_back {L M:List (Int × Int)} (x y:Int) (hl:M.length=L.length) (h:∀ i,i < L.length→pt M i=pt L (L.length - 1 - i)):crN M x y=crN L x y:=by
 unfold crN
 rw [cyc_back _ hl h]
 simp only [crB_swap]
theorem area_back {L M:List (Int × Int)} (hl:M.length=L.length) (h:∀ i,i < L.length→pt M i=pt L (L.length - 1 - i)):area M= -area L:=by
 unfold area
 rw [cyc_back _ hl h,← cyc_neg]
 exact cyc_congr fun p _ q _=>by unfold ar2;omega
theorem onN_sh (L:List (Int × Int)) (x y dx dy:Int):onN (L.map (sh dx dy)) (x+dx) (y+dy)=onN L x y:=by
 unfold onN
 rw [cyc_sh]
 simp only [onB_sh]
theorem crN_sh (L:List (Int × Int)) (x y dx dy:Int):crN (L.map (sh dx dy)) (x+dx) (y+dy)=crN L x y:=by
 unfold crN
 rw [cyc_sh]
 simp only [crB_sh]
theorem area_sh (L:List (Int × Int)) (dx dy:Int):area (L.map (sh dx dy))=area L:=by
 unfold area
 rw [cyc_sh]
 have e:cyc (fun p q=>ar2 (sh dx dy p) (sh dx dy q)) L=cyc (fun p q=>ar2 p q+(dy*p.1+-(dx*p.2)+-(dy*q.1+-(dx*q.2)))) L:=cyc_congr fun p _ q _=>by
  unfold ar2 sh
  grind
 rw [e,cyc_add,cyc_add,cyc_neg (fun _ q=>dy*q.1+-(dx*q.2)),cyc_ends (fun q=>dy*q.1+-(dx*q.2))]
 omega
end Go.Proofs.YtdklpgphmoaniabGreatDoor
