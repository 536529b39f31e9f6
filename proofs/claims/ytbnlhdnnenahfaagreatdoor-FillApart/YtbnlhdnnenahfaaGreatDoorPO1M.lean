/-
  What the texts PolyGeo, PRings, RPArea, RPBox, FillMath, TTame, PLit say, so far as this seat's proofs need it.
-/
import Derived.Test.YtbnlhdnnenahfaaGreatDoorE1M
import Derived.Test.YtbnlhdnnenahfaaGreatDoorCV1M
import Derived.Lib.MinMax
import Derived.Laws.AppendOwnNone
import Derived.Deep.AppendLies
import Derived.RangeFuncFrom
import Derived.RangeFuncCalls
import Derived.OwnWalkIn
import Derived.TacticsInMore
import Derived.LoopNIn
import Derived.LoopIn
import Derived.Stop.RegionWithIn
namespace Go.Proofs.YtbnlhdnnenahfaaGreatDoor
theorem sgn_right {A B D E:Int} (hA:0≤A) (hAB:A < B) (hE:0 < E) (hDE:D < E):D*A - B*E < 0:=by
 have h1:D*A≤E*A:=Int.mul_le_mul_of_nonneg_right (by omega) hA
 have h2:E*A < E*B:=Int.mul_lt_mul_of_pos_left hAB hE
 rw [Int.mul_comm B E]
 omega
theorem sgn_left {A B D E:Int} (hA:0≤A) (hAB:A < B) (hE:E < 0) (hDE:E < D):0 < D*A - B*E:=by
 have h:=sgn_right (A:=A) (B:=B) (D:= -D) (E:= -E) hA hAB (by omega) (by omega)
 rw [Int.neg_mul,Int.mul_neg] at h
 omega
theorem crs_right {p q:Int × Int} {x y:Int} (hp:p.1 < x) (hq:q.1 < x) (h1:p.2≤y) (h2:y < q.2):crs p q x y < 0:=by
 unfold crs
 exact sgn_right (by omega) (by omega) (by omega) (by omega)
theorem crs_left {p q:Int × Int} {x y:Int} (hp:x < p.1) (hq:x < q.1) (h1:p.2≤y) (h2:y < q.2):0 < crs p q x y:=by
 unfold crs
 exact sgn_left (by omega) (by omega) (by omega) (by omega)
theorem crB_right {p q:Int × Int} {x y:Int} (hp:p.1 < x) (hq:q.1 < x):crB p q x y=false:=by
 refine Bool.eq_false_iff.2 fun h=>?_
 rcases crB_iff.1 h with ⟨h1,h2,h3⟩ | ⟨h1,h2,h3⟩
 · have:=crs_right hp hq h1 h2;omega
 · have:=crs_right hq hp h2 h1
   rw [crs_swap p q] at this
   omega
theorem crB_left {p q:Int × Int} {x y:Int} (hp:x < p.1) (hq:x < q.1):bi (crB p q x y)=bi (decide (p.2≤y))+bi (decide (q.2≤y))+-(2*(bi (decide (p.2≤y))*bi (decide (q.2≤y)))):=by
 by_cases h1:p.2≤y <;>by_cases h2:q.2≤y
 · have e:crB p q x y=false:=Bool.eq_false_iff.2 fun h=>by rcases crB_iff.1 h with h | h <;>omega
   rw [e];simp [h1,h2,bi]
 · have e:crB p q x y=true:=crB_iff.2 (.inl ⟨h1,by omega,crs_left hp hq h1 (by omega)⟩)
   rw [e];simp [h1,h2,bi]
 · have e:crB p q x y=true:=crB_iff.2 (.inr ⟨by omega,h2,by
    have:=crs_left hq hp h2 (by omega)
    rw [crs_swap p q] at this
    omega⟩)
   rw [e];simp [h1,h2,bi]
 · have e:crB p q x y=false:=Bool.eq_false_iff.2 fun h=>by rcases crB_iff.1 h with h | h <;>omega
   rw [e];simp [h1,h2,bi]
theorem crN_left {L:List (Int × Int)} {x y:Int} (h:∀ p∈L,x < p.1):crN L x y%2=0:=by
 unfold crN
 rw [cyc_congr (g:=fun p q=>bi (decide (p.2≤y))+bi (decide (q.2≤y))+-(2*(bi (decide (p.2≤y))*bi (decide (q.2≤y))))) fun p hp q hq=>crB_left (h p hp) (h q hq),
  cyc_add (fun p q=>bi (decide (p.2≤y))+bi (decide (q.2≤y))),cyc_add (fun p q=>bi (decide (p.2≤y))),cyc_ends (fun q=>bi (decide (q.2≤y))),cyc_neg,cyc_mul]
 omega
theorem crN_right {L:List (Int × Int)} {x y:Int} (h:∀ p∈L,p.1 < x):crN L x y=0:=by
 unfold crN
 rw [cyc_congr (g:=fun _ _=>0) fun p hp q hq=>by rw [crB_right (h p hp) (h q hq)];rfl,cyc_zero]
theorem crN_over {L:List (Int × Int)} {x y:Int} (h:∀ p∈L,p.2≤y):crN L x y=0:=by
 unfold crN
 rw [cyc_congr (g:=fun _ _=>0) fun p hp q hq=>by
  have e:crB p q x y=false:=Bool.eq_false_iff.2 fun k=>by
   have h1:=h p hp
   have h2:=h q hq
   rcases crB_iff.1 k with k | k <;>omega
  rw [e];rfl,cyc_zero]
theorem crN_under {L:List (Int × Int)} {x y:Int} (h:∀ p∈L,y < p.2):crN L x y=0:=by
 unfold crN
 rw [cyc_congr (g:=fun _ _=>0) fun p hp q hq=>by
  have e:crB p q x y=false:=Bool.eq_false_iff.2 fun k=>by
   have h1:=h p hp
   have h2:=h q hq
   rcases crB_iff.1 k with k | k <;>omega
  rw [e];rfl,cyc_zero]
theorem onN_beside {L:List (Int × Int)} {x y:Int} (h:(∀ p∈L,x < p.1)∨(∀ p∈L,p.1 < x)∨(∀ p∈L,p.2 < y)∨(∀ p∈L,y < p.2)):onN L x y=0:=by
 unfold onN
 rw [cyc_congr (g:=fun _ _=>0) fun p hp q hq=>by
  have e:onB p q x y=false:=Bool.eq_false_iff.2 fun k=>by
   have k:=onB_iff.1 k
   rcases h with h | h | h | h
   all_goals
    have h1:=h p hp
    have h2:=h q hq
    omega
  rw [e];rfl,cyc_zero]
theorem cyc4 (f:Int × Int→Int × Int→Int) (p q s t:Int × Int):cyc f [p,q,s,t]=f p q+f q s+f s t+f t p:=by
 simp [cyc,sumN,pt]
theorem onB_hor {a c b x y:Int}:onB (a,b) (c,b) x y=true↔y=b∧min a c≤x∧x≤max a c:=by
 rw [onB_iff]
 unfold crs
 simp only
 constructor
 · intro h;omega
 · rintro ⟨rfl,h1,h2⟩
   refine ⟨by rw [Int.sub_self,Int.mul_zero,Int.zero_mul];rfl,h1,h2,by omega,by omega⟩
theorem onB_ver {a b d x y:Int}:onB (a,b) (a,d) x y=true↔x=a∧min b d≤y∧y≤max b d:=by
 rw [onB_iff]
 unfold crs
 simp only
 constructor
 · intro h;omega
 · rintro ⟨rfl,h1,h2⟩
   refine ⟨by rw [Int.sub_self,Int.mul_zero,Int.zero_mul];rfl,by omega,by omega,h1,h2⟩
theorem crB_hor {a c b x y:Int}:crB (a,b) (c,b) x y=false:=Bool.eq_false_iff.2 fun h=>by
 rcases crB_iff.1 h with h | h <;>simp only at h <;>omega
theorem crB_ver {a b d x y:Int}:crB (a,b) (a,d) x y=true↔((b≤y∧y < d)∨(y < b∧d≤y))∧x < a:=by
 rw [crB_iff]
 unfold crs
 simp only [Int.sub_self,Int.zero_mul,Int.zero_sub]
 constructor
 · rintro (⟨h1,h2,h3⟩ | ⟨h1,h2,h3⟩)
   · refine ⟨.inl ⟨h1,h2⟩,?_⟩
     by_cases c:x < a
     · exact c
     · have:=Int.mul_nonneg (show 0≤d - b by omega) (show 0≤x - a by omega)
       omega
   · refine ⟨.inr ⟨h1,h2⟩,?_⟩
     by_cases c:x < a
     · exact c
     · have:=Int.mul_nonneg (show 0≤b - d by omega) (show 0≤x - a by omega)
       rw [show b - d= -(d - b) by omega,Int.neg_mul] at this
       omega
 · rintro ⟨h1 | h1,h2⟩
   · refine .inl ⟨h1.1,h1.2,?_⟩
     have:=Int.mul_pos (show 0 < d - b by omega) (show 0 < a - x by omega)
     rw [show a - x= -(x - a) by omega,Int.mul_neg] at this
     exact this
   · refine .inr ⟨h1.1,h1.2,?_⟩
     have:=Int.mul_pos (show 0 < b - d by omega) (show 0 < a - x by omega)
     rw [show a - x= -(x - a) by omega,show b - d= -(d - b) by omega,Int.mul_neg,Int.neg_mul] at this
     omega
def box4 (a b c d:Int):List (Int × Int):=[(a,b),(c,b),(c,d),(a,d)]
theorem bi_cases (b:Bool) (P:Prop) (h:b=true↔P):(bi b=1∧P)∨(bi b=0∧¬ P):=by
 cases b with
 | true=>exact .inl ⟨rfl,h.1 rfl⟩
 | false=>exact .inr ⟨rfl,fun k=>by have:=h.2 k;cases this⟩
theorem box_on {a b c d x y:Int}:0 < onN (box4 a b c d) x y↔(min a c≤x∧x≤max a c∧min b d≤y∧y≤max b d)∧(y=b∨y=d∨x=a∨x=c):=by
 unfold onN box4
 rw [cyc4]
 have h1:=bi_cases _ _ (onB_hor (a:=a) (c:=c) (b:=b) (x:=x) (y:=y))
 have h2:=bi_cases _ _ (onB_ver (a:=c) (b:=b) (d:=d) (x:=x) (y:=y))
 have h3:=bi_cases _ _ (onB_hor (a:=c) (c:=a) (b:=d) (x:=x) (y:=y))
 have h4:=bi_cases _ _ (onB_ver (a:=a) (b:=d) (d:=b) (x:=x) (y:=y))
 generalize bi (onB (a,b) (c,b) x y)=u1 at *
 generalize bi (onB (c,b) (c,d) x y)=u2 at *
 generalize bi (onB (c,d) (a,d) x y)=u3 at *
 generalize bi (onB (a,d) (a,b) x y)=u4 at *
 omega
theorem box_cr {a b c d x y:Int}:crN (box4 a b c d) x y%2=1↔(min a c≤x∧x < max a c)∧(min b d≤y∧y < max b d):=by
 unfold crN box4
 rw [cyc4,crB_hor,crB_hor]
 have h2:=bi_cases _ _ (crB_ver (a:=c) (b:=b) (d:=d) (x:=x) (y:=y))
 have h4:=bi_cases _ _ (crB_ver (a:=a) (b:=d) (d:=b) (x:=x) (y:=y))
 have e0:bi false=0:=rfl
 rw [e0]
 generalize bi (crB (c,b) (c,d) x y)=u2 at *
 generalize bi (crB (a,d) (a,b) x y)=u4 at *
 omega
theorem box_in {a b c d x y:Int} (_:a≠c) (_:b≠d):(0 < onN (box4 a b c d) x y∨crN (box4 a b c d) x y%2=1)↔min a c≤x∧x≤max a c∧min b d≤y∧y≤max b d:=by
 rw [box_on,box_cr]
 omega
theorem box_flat {a b c d x y:Int} (_:a=c∨b=d):(0 < onN (box4 a b c d) x y∨crN (box4 a b c d) x y%2=1)↔(min a c≤x∧x≤max a c∧min b d≤y∧y≤max b d)∧0 < onN (box4 a b c d) x y:=by
 rw [box_on,box_cr]
 omega
end Go.Proofs.YtbnlhdnnenahfaaGreatDoor
namespace Go.Proofs.YtbnlhdnnenahfaaGreatDoor
open Go.RowKit
def RingL (w:World) (v:Value) (L:List (Int × Int)):Prop:=∃ (p:Option Addr) (cap:Nat),v=.slice p L.length cap∧L.length≤cap∧∀ (j:Nat) (hj:j < L.length),∃ g o,p=some ⟨g,o,none⟩∧w.cell? ⟨g,o+j*2,none⟩=some (.int .i64 L[j].1)∧w.cell? ⟨g,o+j*2+1,none⟩=some (.int .i64 L[j].2)
theorem RingL.keep {w w':World} {v:Value} {L:List (Int × Int)} (h:RingL w v L) (hb:Below w.heap.size w w'):RingL w' v L:=by
 obtain ⟨p,c,e,h1,h2⟩:=h
 refine ⟨p,c,e,h1,fun j hj=>?_⟩
 obtain ⟨g,o,h3,h4,h5⟩:=h2 j hj
 exact ⟨g,o,h3,keepCell hb h4,keepCell hb h5⟩
def RingsL (w:World) (v:Value) (G:List (List (Int × Int))):Prop:=∃ (p:Option Addr) (cap:Nat),v=.slice p G.length cap∧G.length≤cap∧∀ (j:Nat) (hj:j < G.length),∃ g o s,p=some ⟨g,o,none⟩∧w.cell? ⟨g,o+j,none⟩=some s∧RingL w s G[j]
theorem RingsL.keep {w w':World} {v:Value} {G:List (List (Int × Int))} (h:RingsL w v G) (hb:Below w.heap.size w w'):RingsL w' v G:=by
 obtain ⟨p,c,e,h1,h2⟩:=h
 refine ⟨p,c,e,h1,fun j hj=>?_⟩
 obtain ⟨g,o,s,h3,h4,h5⟩:=h2 j hj
 exact ⟨g,o,s,h3,keepCell hb h4,h5.keep hb⟩
def corners:List (List (Int × Int))→Nat
 | []=>0
 | L :: G=>L.length+corners G
theorem corners_snoc (L:List (Int × Int)):∀ G:List (List (Int × Int)),corners (G++[L])=corners G+L.length
 | []=>by show L.length+0=0+L.length;omega
 | M :: G=>by show M.length+corners (G++[L])=M.length+corners G+L.length;rw [corners_snoc L G];omega
theorem corners_mem:∀ {G:List (List (Int × Int))} {L:List (Int × Int)},L∈G→L.length≤corners G
 | M :: G,L,h=>by
  rcases List.mem_cons.1 h with rfl | h
  · show L.length≤L.length+corners G;omega
  · have:=corners_mem h
    show L.length≤M.length+corners G;omega
def InWo (p:Int × Int):Prop:=0≤p.1∧p.1 < 1073741824∧0≤p.2∧p.2 < 1073741824
def ChkG (G:List (List (Int × Int))) (t:Int):Prop :=
 ((20 < G.length∨500 < corners G)∧t=7) ∨
 ((¬ (20 < G.length∨500 < corners G))∧(G=[]∨∃ L∈G,L.length < 3)∧t=1) ∨
 ((¬ (20 < G.length∨500 < corners G))∧G≠[]∧(∀ L∈G,3≤L.length)∧(∃ L∈G,∃ p∈L,¬ InWo p)∧t=4) ∨
 ((¬ (20 < G.length∨500 < corners G))∧G≠[]∧(∀ L∈G,3≤L.length)∧(∀ L∈G,∀ p∈L,InWo p)∧t=0)
theorem ChkG.one {G:List (List (Int × Int))} {t t':Int} (h:ChkG G t) (h':ChkG G t'):t=t':=by
 rcases h with ⟨a,rfl⟩ | ⟨a,b,rfl⟩ | ⟨a,b,c,d,rfl⟩ | ⟨a,b,c,d,rfl⟩ <;>rcases h' with ⟨a',rfl⟩ | ⟨a',b',rfl⟩ | ⟨a',b',c',d',rfl⟩ | ⟨a',b',c',d',rfl⟩
 all_goals first
  | rfl
  | exact absurd a a'
  | exact absurd a' a
  | (exfalso;rcases b with b | ⟨L,hL,h3⟩
     · exact b' b
     · have:=c' L hL;omega)
  | (exfalso;rcases b' with b' | ⟨L,hL,h3⟩
     · exact b b'
     · have:=c L hL;omega)
  | (exfalso;obtain ⟨L,hL,p,hp,hn⟩:=d;exact hn (d' L hL p hp))
  | (exfalso;obtain ⟨L,hL,p,hp,hn⟩:=d';exact hn (d L hL p hp))
def Okay (G:List (List (Int × Int))):Prop:=ChkG G 0
theorem okay_iff {G:List (List (Int × Int))}:Okay G↔G.length≤20∧corners G≤500∧G≠[]∧(∀ L∈G,3≤L.length)∧(∀ L∈G,∀ p∈L,InWo p):=by
 unfold Okay ChkG
 constructor
 · rintro (⟨_,h⟩ | ⟨_,_,h⟩ | ⟨_,_,_,_,h⟩ | ⟨a,b,c,d,_⟩)
   · omega
   · omega
   · omega
   · exact ⟨by omega,by omega,b,c,d⟩
 · rintro ⟨a,b,c,d,e⟩
   exact .inr (.inr (.inr ⟨by omega,c,d,e,rfl⟩))
theorem chk_zero {G:List (List (Int × Int))} {t:Int} (h:ChkG G t):t=0↔Okay G:=⟨fun e=>by unfold Okay;rw [← e];exact h,fun k=>h.one k⟩
def FarG (x y:Int):Prop:=x < -2147483648∨2147483648 < x∨y < -2147483648∨2147483648 < y
def onG:List (List (Int × Int))→Int→Int→Int
 | [],_,_=>0
 | L :: G,x,y=>onN L x y+onG G x y
def crG:List (List (Int × Int))→Int→Int→Int
 | [],_,_=>0
 | L :: G,x,y=>crN L x y+crG G x y
theorem corners_next {G:List (List (Int × Int))} {i:Nat} (h:i < G.length):corners (G.take (i+1))=corners (G.take i)+G[i].length:=by
 rw [List.take_succ_eq_append_getElem h,corners_snoc]
def InT (G:List (List (Int × Int))) (x y:Int):Prop:=Okay G∧(¬ FarG x y)∧(0 < onG G x y∨crG G x y%2=1)
def Bx (C:List (Int × Int)) (lo hi:Int × Int):Prop :=
 (∀ p∈C,lo.1≤p.1∧p.1≤hi.1∧lo.2≤p.2∧p.2≤hi.2)∧(∃ p∈C,p.1=lo.1)∧(∃ p∈C,p.2=lo.2)∧(∃ p∈C,p.1=hi.1)∧∃ p∈C,p.2=hi.2
theorem Bx.one {C:List (Int × Int)} {lo hi lo' hi':Int × Int} (h:Bx C lo hi) (h':Bx C lo' hi'):lo=lo'∧hi=hi':=by
 obtain ⟨a,⟨p1,m1,e1⟩,⟨p2,m2,e2⟩,⟨p3,m3,e3⟩,p4,m4,e4⟩:=h
 obtain ⟨a',⟨q1,n1,f1⟩,⟨q2,n2,f2⟩,⟨q3,n3,f3⟩,q4,n4,f4⟩:=h'
 have k1:=a' p1 m1
 have k2:=a' p2 m2
 have k3:=a' p3 m3
 have k4:=a' p4 m4
 have l1:=a q1 n1
 have l2:=a q2 n2
 have l3:=a q3 n3
 have l4:=a q4 n4
 exact ⟨Prod.ext (by omega) (by omega),Prod.ext (by omega) (by omega)⟩
def BoxT (G:List (List (Int × Int))) (lo hi:Int × Int):Prop:=(Okay G∧Bx G.flatten lo hi)∨((¬ Okay G)∧lo=(0,0)∧hi=(0,0))
theorem BoxT.one {G:List (List (Int × Int))} {lo hi lo' hi':Int × Int} (h:BoxT G lo hi) (h':BoxT G lo' hi'):lo=lo'∧hi=hi':=by
 rcases h with ⟨a,b⟩ | ⟨a,rfl,rfl⟩ <;>rcases h' with ⟨a',b'⟩ | ⟨a',rfl,rfl⟩
 · exact b.one b'
 · exact absurd a a'
 · exact absurd a' a
 · exact ⟨rfl,rfl⟩
theorem okay_one {R:List (Int × Int)}:Okay [R]↔3≤R.length∧R.length≤500∧∀ p∈R,InWo p:=by
 rw [okay_iff]
 have e:corners [R]=R.length:=by show R.length+0=_;omega
 rw [e]
 constructor
 · rintro ⟨_,a,_,b,c⟩;exact ⟨b R (List.mem_singleton.2 rfl),a,c R (List.mem_singleton.2 rfl)⟩
 · rintro ⟨a,b,c⟩
   exact ⟨by simp,b,by simp,fun L hL=>by rw [List.mem_singleton.1 hL];exact a,fun L hL=>by rw [List.mem_singleton.1 hL];exact c⟩
theorem onG_one (R:List (Int × Int)) (x y:Int):onG [R] x y=onN R x y:=by show onN R x y+0=_;omega
theorem crG_one (R:List (Int × Int)) (x y:Int):crG [R] x y=crN R x y:=by show crN R x y+0=_;omega
def part (f:Int × Int→Int × Int→Int) (L:List (Int × Int)) (k:Nat):Int:=sumN (fun k=>f (pt L k) (pt L ((k+1)%L.length))) k
theorem part_next (f:Int × Int→Int × Int→Int) (L:List (Int × Int)) (k:Nat):part f L (k+1)=part f L k+f (pt L k) (pt L ((k+1)%L.length)):=rfl
theorem next_ix {k l:Nat} (h:k < l):∃ j:Nat,(k+1)%l=j∧j < l∧((k:Int)+1)%(l:Int)=(j:Int)∧((k:Int)+1).tmod (l:Int)=(j:Int):=by
 have h1:=Nat.mod_lt (k+1) (show 0 < l by omega)
 have e:(((k+1)%l:Nat):Int)=((k:Int)+1)%(l:Int):=by push_cast;rfl
 exact ⟨_,rfl,h1,e.symm,by rw [Int.tmod_eq_emod_of_nonneg (by omega)];exact e.symm⟩
theorem Bx.snoc {C:List (Int × Int)} {a1 a2 b1 b2:Int} {p:Int × Int} (h:Bx C (a1,a2) (b1,b2)):Bx (C++[p]) (min a1 p.1,min a2 p.2) (max b1 p.1,max b2 p.2):=by
 obtain ⟨h0,⟨q1,m1,e1⟩,⟨q2,m2,e2⟩,⟨q3,m3,e3⟩,q4,m4,e4⟩:=h
 have hp:p∈C++[p]:=List.mem_append.2 (.inr (List.mem_singleton.2 rfl))
 have hm:∀ {q},q∈C→q∈C++[p]:=fun h=>List.mem_append.2 (.inl h)
 dsimp only at *
 refine ⟨fun q hq=>?_,?_,?_,?_,?_⟩
 · rcases List.mem_append.1 hq with h | h
   · have:=h0 q h
     dsimp only
     omega
   · rw [List.mem_singleton.1 h]
     dsimp only
     omega
 · by_cases h:a1≤p.1
   · exact ⟨q1,hm m1,by dsimp only;omega⟩
   · exact ⟨p,hp,by dsimp only;omega⟩
 · by_cases h:a2≤p.2
   · exact ⟨q2,hm m2,by dsimp only;omega⟩
   · exact ⟨p,hp,by dsimp only;omega⟩
 · by_cases h:p.1≤b1
   · exact ⟨q3,hm m3,by dsimp only;omega⟩
   · exact ⟨p,hp,by dsimp only;omega⟩
 · by_cases h:p.2≤b2
   · exact ⟨q4,hm m4,by dsimp only;omega⟩
   · exact ⟨p,hp,by dsimp only;omega⟩
theorem Bx.same {C D:List (Int × Int)} {lo hi:Int × Int} (h:Bx C lo hi) (e:∀ p,p∈C↔p∈D):Bx D lo hi:=by
 obtain ⟨h0,⟨q1,m1,e1⟩,⟨q2,m2,e2⟩,⟨q3,m3,e3⟩,q4,m4,e4⟩:=h
 exact ⟨fun p hp=>h0 p ((e p).2 hp),⟨q1,(e _).1 m1,e1⟩,⟨q2,(e _).1 m2,e2⟩,⟨q3,(e _).1 m3,e3⟩,q4,(e _).1 m4,e4⟩
theorem Bx.one' (p:Int × Int):Bx [p] (p.1,p.2) (p.1,p.2) :=
 ⟨fun q hq=>by rw [List.mem_singleton.1 hq];exact ⟨Int.le_refl _,Int.le_refl _,Int.le_refl _,Int.le_refl _⟩,⟨p,List.mem_singleton.2 rfl,rfl⟩,⟨p,List.mem_singleton.2 rfl,rfl⟩,⟨p,List.mem_singleton.2 rfl,rfl⟩,p,List.mem_singleton.2 rfl,rfl⟩
end Go.Proofs.YtbnlhdnnenahfaaGreatDoor
namespace Go.Proofs.YtbnlhdnnenahfaaGreatDoor
def inR (L:List (Int × Int)) (x y:Int):Prop:=0 < onN L x y∨crN L x y%2=1
theorem box_all {a b c d x y:Int}:inR (box4 a b c d) x y↔min a c≤x∧x≤max a c∧min b d≤y∧y≤max b d:=by
 unfold inR
 by_cases h:a=c∨b=d
 · rw [box_flat h]
   constructor
   · exact fun k=>k.1
   · intro k
     refine ⟨k,box_on.2 ⟨k,?_⟩⟩
     omega
 · exact box_in (by omega) (by omega)
end Go.Proofs.YtbnlhdnnenahfaaGreatDoor
namespace Go.Proofs.YtbnlhdnnenahfaaGreatDoor
open Go.RowKit
def flatG:List (Int × Int)→List Value
 | []=>[]
 | p :: L=>.int .i64 p.1 :: .int .i64 p.2 :: flatG L
theorem flatG_at:∀ (L:List (Int × Int)) (j:Nat) (hj:j < L.length),(flatG L)[j*2]?=some (.int .i64 L[j].1)∧(flatG L)[j*2+1]?=some (.int .i64 L[j].2)
 | p :: L,0,_=>⟨rfl,rfl⟩
 | p :: L,j+1,hj=>by
  have ih:=flatG_at L j (by simpa using hj)
  rw [show (j+1)*2=j*2+1+1 by omega]
  exact ih
theorem cell_row9 (w:World) (j:Nat) (xs:Array Value) (e:TypeId):(w.alloc (.cells xs e)).cell? ⟨w.heap.size,j,none⟩=xs[j]? :=
 cell_of_row _ w.heap.size j xs e (0,0) (by show (w.heap.push _)[w.heap.size]?=_;simp)
theorem lit_ring (w:World) (L:List (Int × Int)) (e:TypeId):RingL (w.alloc (.cells (flatG L).toArray e)) (.slice (some ⟨w.heap.size,0,none⟩) L.length L.length) L:=by
 refine ⟨_,_,rfl,Nat.le_refl _,fun j hj=>⟨w.heap.size,0,rfl,?_,?_⟩⟩
 · rw [Nat.zero_add,cell_row9,List.getElem?_toArray,(flatG_at L j hj).1]
 · rw [Nat.zero_add,cell_row9,List.getElem?_toArray,(flatG_at L j hj).2]
theorem lit_rings (w:World) (G:List (List (Int × Int))) (S:List Value) (e:TypeId) (hs:S.length=G.length) (h:∀ (j:Nat) (hj:j < S.length) (hG:j < G.length),RingL w S[j] G[j]):RingsL (w.alloc (.cells S.toArray e)) (.slice (some ⟨w.heap.size,0,none⟩) G.length G.length) G:=by
 refine ⟨_,_,rfl,Nat.le_refl _,fun j hj=>⟨w.heap.size,0,S[j]'(by omega),rfl,?_,?_⟩⟩
 · rw [Nat.zero_add,cell_row9,List.getElem?_toArray,List.getElem?_eq_getElem (by omega)]
 · exact (h j (by omega) hj).keep (allocB w _)
theorem lit_rings1 (w:World) (L:List (Int × Int)) (s:Value) (e:TypeId) (h:RingL w s L):RingsL (w.alloc (.cells #[s] e)) (.slice (some ⟨w.heap.size,0,none⟩) 1 1) [L] :=
 lit_rings w [L] [s] e rfl fun j hj _=>by
  have:j=0:=by simp at hj;exact hj
  subst this
  exact h
theorem size_one (w:World) (o:Obj):(w.alloc o).heap.size=w.heap.size+1:=by simp
theorem lit_rings1_next (w:World) (o:Obj) (L:List (Int × Int)) (s:Value) (e:TypeId) (h:RingL (w.alloc o) s L):RingsL ((w.alloc o).alloc (.cells #[s] e)) (.slice (some ⟨w.heap.size+1,0,none⟩) 1 1) [L]:=by
 have k:=lit_rings1 (w.alloc o) L s e h
 rwa [size_one] at k
theorem rings_nil (w:World):RingsL w (.slice none 0 0) []:=⟨none,0,rfl,Nat.le_refl _,fun _ hj=>absurd hj (Nat.not_lt_zero _)⟩
theorem in_beside {x y:Int}:∀ {G:List (List (Int × Int))},((∀ L∈G,∀ p∈L,x < p.1)∨(∀ L∈G,∀ p∈L,p.1 < x)∨(∀ L∈G,∀ p∈L,p.2 < y)∨(∀ L∈G,∀ p∈L,y < p.2))→onG G x y=0∧crG G x y%2=0
 | [],_=>⟨rfl,rfl⟩
 | L :: G,h=>by
  have hG:onG G x y=0∧crG G x y%2=0:=in_beside (by
   rcases h with h | h | h | h
   · exact .inl fun M hM=>h M (List.mem_cons_of_mem _ hM)
   · exact .inr (.inl fun M hM=>h M (List.mem_cons_of_mem _ hM))
   · exact .inr (.inr (.inl fun M hM=>h M (List.mem_cons_of_mem _ hM)))
   · exact .inr (.inr (.inr fun M hM=>h M (List.mem_cons_of_mem _ hM))))
  have hL:onN L x y=0∧crN L x y%2=0:=by
   have m:L∈L :: G:=List.mem_cons_self ..
   rcases h with h | h | h | h
   · exact ⟨onN_beside (.inl (h L m)),crN_left (h L m)⟩
   · exact ⟨onN_beside (.inr (.inl (h L m))),by rw [crN_right (h L m)];rfl⟩
   · exact ⟨onN_beside (.inr (.inr (.inl (h L m)))),by rw [crN_over fun p hp=>by have:=h L m p hp;omega];rfl⟩
   · exact ⟨onN_beside (.inr (.inr (.inr (h L m)))),by rw [crN_under (h L m)];rfl⟩
  show onN L x y+onG G x y=0∧(crN L x y+crG G x y)%2=0
  omega
theorem wo_box {a b c d:Int} (ha:0≤a∧a < 1073741824) (hb:0≤b∧b < 1073741824) (hc:0≤c∧c < 1073741824) (hd:0≤d∧d < 1073741824):∀ p∈box4 a b c d,InWo p:=fun p hp=>by
 unfold box4 at hp
 simp only [List.mem_cons,List.not_mem_nil,or_false] at hp
 unfold InWo
 rcases hp with rfl | rfl | rfl | rfl <;>exact ⟨by omega,by omega,by omega,by omega⟩
end Go.Proofs.YtbnlhdnnenahfaaGreatDoor
