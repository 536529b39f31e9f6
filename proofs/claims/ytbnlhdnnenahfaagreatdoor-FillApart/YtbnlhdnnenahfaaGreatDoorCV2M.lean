/-
  What the texts SetMath, CovOk, CovWord, CovMany, CovSize, CovSweep, PackHeap, CovSpot, CovFlat, VLawBox say, so far as this seat's proofs need it.
-/
import Derived.Test.YtbnlhdnnenahfaaGreatDoorCV1M
import Derived.Sort.LotB
import Derived.RangeFuncFrom
import Derived.RangeFuncCalls
import Derived.OwnWalkIn
import Derived.TacticsInMore
import Derived.LoopNIn
import Derived.LoopIn
import Derived.Stop.RegionWithIn
import Derived.Sort.WalkA6
import Derived.Sort.Walk13a
import Derived.Sort.WalkB3
namespace Go.Proofs.YtbnlhdnnenahfaaGreatDoor
open Go.RowKit
theorem rising_snoc {K:List Int} {w:Int} (h:Rising K) (hw:∀ x∈K,x < w):Rising (K++[w]) :=
 List.pairwise_append.2 ⟨h,List.pairwise_singleton _ _,fun x hx y hy=>by rw [List.mem_singleton] at hy;subst hy;exact hw x hx⟩
end Go.Proofs.YtbnlhdnnenahfaaGreatDoor
namespace Go.Proofs.YtbnlhdnnenahfaaGreatDoor
theorem tou_ok {K:Nat} {r l1 l2 u1 u2 a b:Int} (hK:K≤12) (hr:12 - r=(K:Int)) (h1:0≤l1) (h2:0≤l2) (h3:u1 < 1073741824) (h4:u2 < 1073741824) (h:Tou K l1 l2 u1 u2 a b):Ok4 r a b:=by
 obtain ⟨x,y,hx,hy,hn⟩:=tou_near hK h
 obtain ⟨p,q,hpq⟩:=nearest_some (d:=dvK K) (dvK_box hK).1 (nuA K x y) (nuB K x y)
 have hs:=hn p q hpq.1
 have hM:Mid (12 - K) p q:=⟨by omega,near_norm0 hK ⟨by omega,by omega,by omega,by omega⟩ hpq⟩
 have:=hM.ok (p:=a - p) (q:=b - q) (by rw [stp_back];omega)
 rw [show p+(a - p)=a by omega,show q+(b - q)=b by omega] at this
 rwa [show ((12 - K:Nat):Int)=r by omega] at this
def szK:Nat→Int
 | 0=>52
 | k+1=>szK k*8 / 3
def fXp (K:Nat):Int:=45*(2*cjA K+cjB K)
def fXq (K:Nat):Int:= -26*(2*cjA K+cjB K)+52*(cjA K - cjB K)
def fYp (K:Nat):Int:=45*(cjA K+2*cjB K)
def fYq (K:Nat):Int:= -26*(cjA K+2*cjB K)+52*(2*cjA K+cjB K)
def fZp (K:Nat):Int:=45*(cjA K - cjB K)
def fZq (K:Nat):Int:= -26*(cjA K - cjB K) - 52*(cjA K+2*cjB K)
theorem nu_forms (K:Nat) (x y:Int):2*nuA K x y+nuB K x y=x*fXp K+y*fXq K∧nuA K x y+2*nuB K x y=x*fYp K+y*fYq K∧nuA K x y - nuB K x y=x*fZp K+y*fZq K:=by
 unfold nuA nuB fXp fXq fYp fYq fZp fZq
 refine ⟨?_,?_,?_⟩ <;>grind
theorem sz_fin:∀ i:Fin 13,(decide (8*szK i.val*(max (fXp i.val) (-fXp i.val)+max (fXq i.val) (-fXq i.val))≤84*dvK i.val) && decide (8*szK i.val*(max (fYp i.val) (-fYp i.val)+max (fYq i.val) (-fYq i.val))≤84*dvK i.val) && decide (8*szK i.val*(max (fZp i.val) (-fZp i.val)+max (fZq i.val) (-fZq i.val))≤84*dvK i.val) && decide (0≤szK i.val))=true:=by decide +kernel
theorem form_box {p q u v W F:Int} (hu: -W≤u∧u≤W) (hv: -W≤v∧v≤W) (h:W*(max p (-p)+max q (-q))≤F): -F≤u*p+v*q∧u*p+v*q≤F:=by
 obtain ⟨P,eP⟩:∃ P,max p (-p)=P:=⟨_,rfl⟩
 obtain ⟨Q,eQ⟩:∃ Q,max q (-q)=Q:=⟨_,rfl⟩
 rw [eP,eQ] at h
 have h1:=mul_in (a:=u) (b:=p) hu (show -P≤p∧p≤P by omega)
 have h2:=mul_in (a:=v) (b:=q) hv (show -Q≤q∧q≤Q by omega)
 have e:W*(P+Q)=W*P+W*Q:=by grind
 omega
theorem apart_steps {K:Nat} (hK:K≤12) {x y x' y' a b a' b' F W:Int} (h:HexAt (dvK K) (nuA K x y) (nuB K x y) a b) (h':HexAt (dvK K) (nuA K x' y') (nuB K x' y') a' b') (hx: -W≤x' - x∧x' - x≤W) (hy: -W≤y' - y∧y' - y≤W)
 (h0:W*(max (fXp K) (-fXp K)+max (fXq K) (-fXq K))≤F*dvK K) (h1:W*(max (fYp K) (-fYp K)+max (fYq K) (-fYq K))≤F*dvK K) (h2:W*(max (fZp K) (-fZp K)+max (fZq K) (-fZq K))≤F*dvK K) (hF:0≤F):3*stp (a' - a) (b' - b)≤2*F+4:=by
 have hd:=(dvK_box hK).1
 have k0:=form_box hx hy h0
 have k1:=form_box hx hy h1
 have k2:=form_box hx hy h2
 have e:=nu_forms K (x' - x) (y' - y)
 have eA:nuA K (x' - x) (y' - y)=nuA K x' y' - nuA K x y:=by unfold nuA;grind
 have eB:nuB K (x' - x) (y' - y)=nuB K x' y' - nuB K x y:=by unfold nuB;grind
 rw [eA,eB] at e
 rw [← e.1] at k0
 rw [← e.2.1] at k1
 rw [← e.2.2] at k2
 clear e eA eB h0 h1 h2
 unfold HexAt Hex at h h'
 obtain ⟨p,ep⟩:∃ p,a' - a=p:=⟨_,rfl⟩
 obtain ⟨q,eq⟩:∃ q,b' - b=q:=⟨_,rfl⟩
 rw [ep,eq]
 have e1:a'*dvK K=a*dvK K+p*dvK K:=by rw [← ep];grind
 have e2:b'*dvK K=b*dvK K+q*dvK K:=by rw [← eq];grind
 rw [e1,e2] at h'
 have key:∀ m:Int,-(F*dvK K+2*dvK K)≤m*dvK K→m*dvK K≤F*dvK K+2*dvK K→-(F+2)≤m∧m≤F+2:=fun m h1 h2=>by
  have e3:(F+3)*dvK K=F*dvK K+3*dvK K:=by grind
  constructor
  · by_cases c: -(F+2)≤m
    · exact c
    · have:=Int.mul_le_mul_of_nonneg_right (show m≤-(F+3) by omega) (show 0≤dvK K by omega)
      rw [Int.neg_mul] at this
      omega
  · by_cases c:m≤F+2
    · exact c
    · have:=Int.mul_le_mul_of_nonneg_right (show F+3≤m by omega) (show 0≤dvK K by omega)
      omega
 have f0:(2*p+q)*dvK K=2*(p*dvK K)+q*dvK K:=by grind
 have f1:(p+2*q)*dvK K=p*dvK K+2*(q*dvK K):=by grind
 have f2:(p - q)*dvK K=p*dvK K - q*dvK K:=by grind
 have g0:=key (2*p+q) (by omega) (by omega)
 have g1:=key (p+2*q) (by omega) (by omega)
 have g2:=key (p - q) (by omega) (by omega)
 have hs:=stp_le (a:=p) (b:=q) (n:=(2*F+4) / 3) (by omega) (by omega) (by omega) (by omega)
 omega
theorem box_steps {K:Nat} (hK:K≤12) {l1 l2 u1 u2 a b sa sb:Int} (hx:u1 - l1≤8*szK K) (hy:u2 - l2≤8*szK K) (hs:HexAt (dvK K) (nuA K l1 l2) (nuB K l1 l2) sa sb) (h:Tou K l1 l2 u1 u2 a b):stp (a - sa) (b - sb)≤58:=by
 obtain ⟨x,y,hx',hy',hn⟩:=tou_near hK h
 obtain ⟨p,q,hpq⟩:=nearest_some (d:=dvK K) (dvK_box hK).1 (nuA K x y) (nuB K x y)
 have h1:=hn p q hpq.1
 have hf:=sz_fin ⟨K,by omega⟩
 simp only [Bool.and_eq_true,decide_eq_true_eq] at hf
 have h2:=apart_steps hK hs hpq.1 (W:=8*szK K) (F:=84) (by omega) (by omega) hf.1.1.1 hf.1.1.2 hf.1.2 (by omega)
 have h3:=stp_sub a b p q sa sb
 rw [stp_back a b p q] at h3
 omega
theorem nodup_len {α:Type} [DecidableEq α]:∀ {K L:List α},K.Nodup→(∀ x∈K,x∈L)→K.length≤L.length
 | [],_,_,_=>Nat.zero_le _
 | x :: K,L,hn,h=>by
  have hn':=List.nodup_cons.1 hn
  have hx:=h x (List.mem_cons_self ..)
  have ih:=nodup_len (L:=L.erase x) hn'.2 fun y hy=>(List.mem_erase_of_ne (fun e=>hn'.1 (by rw [← e];exact hy))).2 (h y (List.mem_cons_of_mem _ hy))
  have hl:=List.length_erase_of_mem hx
  have hp:=List.length_pos_of_mem hx
  rw [List.length_cons]
  omega
theorem few_near {N:Nat} {sa sb:Int} {L:List (Int × Int)} (hn:L.Nodup) (h:∀ p∈L,stp (p.1 - sa) (p.2 - sb)≤N):L.length≤3*N*(N+1)+1:=by
 have hnd:(L.map fun p=>(p.1 - sa,p.2 - sb)).Nodup:=by
  refine (List.pairwise_map).2 (hn.imp fun {a b} hne he=>hne ?_)
  have h1:=congrArg Prod.fst he
  have h2:=congrArg Prod.snd he
  dsimp only at h1 h2
  exact Prod.ext (by omega) (by omega)
 have hs:∀ x∈(L.map fun p=>(p.1 - sa,p.2 - sb)),x∈diskP (N+1):=fun x hx=>by
  obtain ⟨p,hp,rfl⟩:=List.mem_map.1 hx
  have:=h p hp
  exact mem_diskP.2 (by dsimp only;omega)
 have:=nodup_len hnd hs
 rwa [List.length_map,diskP_len] at this
def TW (K:Nat) (l1 l2 u1 u2 x:Int) (r:Nat):Prop:=Whole x∧wR x=(r:Int)∧Tou K l1 l2 u1 u2 (cellA x) (cellB x)
theorem tw_mk {K:Nat} {l1 l2 u1 u2 a b:Int} {r:Nat} (h:Ok4 (r:Int) a b) (ht:Tou K l1 l2 u1 u2 a b):TW K l1 l2 u1 u2 (wordOf r a b) r:=by
 have hp:=word_parts h
 have hc:=cell_word h
 refine ⟨hp.1,hp.2.1,?_⟩
 rw [hc.1,hc.2]
 exact ht
def Many (K:Nat) (l1 l2 u1 u2:Int) (r n:Nat):Prop:=∃ L:List Int,L.Nodup∧(∀ x∈L,TW K l1 l2 u1 u2 x r)∧n < L.length
theorem Many.all {K r n:Nat} {l1 l2 u1 u2:Int} (h:Many K l1 l2 u1 u2 r n) {L:List Int} (hL:∀ x,x∈L↔TW K l1 l2 u1 u2 x r):n < L.length:=by
 obtain ⟨M,h1,h2,h3⟩:=h
 exact Nat.lt_of_lt_of_le h3 (nodup_len h1 fun x hx=>(hL x).2 (h2 x hx))
theorem tou_point {K:Nat} {x y a b:Int} (h:Tou K x y x y a b):HexAt (dvK K) (nuA K x y) (nuB K x y) a b:=by
 obtain ⟨X,Y,M,hM,hi,⟨h1,h2⟩,h3,h4⟩:=h
 have hX:X=M*(3*x):=by omega
 have hY:Y=M*(3*y):=by omega
 subst hX hY
 refine (at_point K a b x y).1 fun i hi6=>?_
 have k:=hi i hi6
 have e:lin (hv K a b i) (hv K a b (nx i)) (M*(3*x)) (M*(3*y)) M=M*lin (hv K a b i) (hv K a b (nx i)) (3*x) (3*y) 1:=by unfold lin;grind
 rw [e] at k
 exact Int.le_of_mul_le_mul_left (by rw [Int.mul_zero];exact k) hM
theorem cells_nodup {K r:Nat} {l1 l2 u1 u2:Int} {L:List Int} (hn:L.Nodup) (h:∀ x∈L,TW K l1 l2 u1 u2 x r):(L.map fun x=>(cellA x,cellB x)).Nodup:=by
 refine (List.pairwise_map).2 (hn.imp_of_mem fun {x y} hx hy hne he=>hne ?_)
 have e1:=congrArg Prod.fst he
 have e2:=congrArg Prod.snd he
 dsimp only at e1 e2
 have w1:=word_cell (h x hx).1
 have w2:=word_cell (h y hy).1
 rw [(h x hx).2.1,e1,e2] at w1
 rw [(h y hy).2.1] at w2
 exact w1.symm.trans w2
theorem box_few {K r:Nat} (hK:K≤12) {l1 l2 u1 u2:Int} (hx:u1 - l1≤8*szK K) (hy:u2 - l2≤8*szK K) {L:List Int} (hn:L.Nodup) (h:∀ z∈L,TW K l1 l2 u1 u2 z r):L.length≤10267:=by
 obtain ⟨sa,sb,hs⟩:=nearest_some (d:=dvK K) (dvK_box hK).1 (nuA K l1 l2) (nuB K l1 l2)
 have:=few_near (N:=58) (sa:=sa) (sb:=sb) (cells_nodup hn h) fun p hp=>by
  obtain ⟨z,hz,rfl⟩:=List.mem_map.1 hp
  exact box_steps hK hx hy hs.1 (h z hz).2.2
 rw [List.length_map] at this
 omega
theorem tou_mono {K:Nat} {l1 l2 u1 u2 l1' l2' u1' u2' a b:Int} (h:Tou K l1 l2 u1 u2 a b) (h1:l1'≤l1) (h2:l2'≤l2) (h3:u1≤u1') (h4:u2≤u2'):Tou K l1' l2' u1' u2' a b:=by
 obtain ⟨X,Y,M,hM,hi,⟨k1,k2⟩,k3,k4⟩:=h
 have f:∀ p q:Int,p≤q→M*(3*p)≤M*(3*q):=fun p q hpq=>Int.mul_le_mul_of_nonneg_left (by omega) (by omega)
 exact ⟨X,Y,M,hM,hi,⟨Int.le_trans (f _ _ h1) k1,Int.le_trans k2 (f _ _ h3)⟩,Int.le_trans (f _ _ h2) k3,Int.le_trans k4 (f _ _ h4)⟩
theorem lin_move (p q:Int × Int) (X Y M s t dx dy:Int):lin p q (s*X - t*dx) (s*Y - t*dy) (s*M)=s*lin p q X Y M - t*((q.1 - p.1)*dy - (q.2 - p.2)*dx):=by unfold lin;grind
def crD (h:Nat→Int × Int) (dx dy:Int) (i:Nat):Int:=((h (nx i)).1 - (h i).1)*dy - ((h (nx i)).2 - (h i).2)*dx
theorem leaves_dir {h:Nat→Int × Int} {X Y M dx dy T:Int} (hp:InK h X Y M) (hT:0≤T) :
 InK h (X - T*dx) (Y - T*dy) M∨∃ (e:Nat) (s t:Int),e < 6∧0 < s∧0≤t∧t≤T*s∧0 < crD h dx dy e∧InK h (s*X - t*dx) (s*Y - t*dy) (s*M)∧lin (h e) (h (nx e)) (s*X - t*dx) (s*Y - t*dy) (s*M)=0:=by
 have e1:∀ i,lin (h i) (h (nx i)) (X - T*dx) (Y - T*dy) M=lin (h i) (h (nx i)) X Y M - T*crD h dx dy i:=fun i=>by
  have:=lin_move (h i) (h (nx i)) X Y M 1 T dx dy
  rw [Int.one_mul,Int.one_mul,Int.one_mul,Int.one_mul] at this
  exact this
 by_cases hv:∃ i,i < 6∧lin (h i) (h (nx i)) X Y M < T*crD h dx dy i
 · refine .inr ?_
   have pos:∀ i,i < 6→lin (h i) (h (nx i)) X Y M < T*crD h dx dy i→0 < crD h dx dy i:=fun i hi k=>by
    by_cases c:0 < crD h dx dy i
    · exact c
    · have:=hp i hi
      have:=Int.mul_nonneg hT (show 0≤-crD h dx dy i by omega)
      rw [Int.mul_neg] at this
      omega
   obtain ⟨e,he,ve,hm⟩:=first_side (u:=fun i=>if i < 6 then lin (h i) (h (nx i)) X Y M else 0) (w:=fun i=>crD h dx dy i) (fun i=>i < 6∧lin (h i) (h (nx i)) X Y M < T*crD h dx dy i)
    (fun i=>by
      split
      · exact hp i (by assumption)
      · exact Int.le_refl 0) (fun i hi=>pos i hi.1 hi.2) 6 (by obtain ⟨i,hi,k⟩:=hv;exact ⟨i,hi,hi,k⟩)
   have he0:=hp e he
   have hs:=pos e he ve.2
   have ht:lin (h e) (h (nx e)) X Y M≤T*crD h dx dy e:=Int.le_of_lt ve.2
   refine ⟨e,crD h dx dy e,lin (h e) (h (nx e)) X Y M,he,hs,he0,ht,hs,fun f hf=>?_,?_⟩
   · rw [lin_move]
     show 0≤crD h dx dy e*lin (h f) (h (nx f)) X Y M - lin (h e) (h (nx e)) X Y M*crD h dx dy f
     have hf0:=hp f hf
     by_cases vf:lin (h f) (h (nx f)) X Y M < T*crD h dx dy f
     · have h1:=hm f hf ⟨hf,vf⟩
       rw [if_pos he,if_pos hf] at h1
       have e2:=Int.mul_comm (lin (h f) (h (nx f)) X Y M) (crD h dx dy e)
       omega
     · by_cases c:0 < crD h dx dy f
       · have k1:=Int.mul_le_mul_of_nonneg_left (show T*crD h dx dy f≤lin (h f) (h (nx f)) X Y M by omega) (Int.le_of_lt hs)
         have k2:=Int.mul_le_mul_of_nonneg_right ht (Int.le_of_lt c)
         have e2:crD h dx dy e*(T*crD h dx dy f)=T*crD h dx dy e*crD h dx dy f:=by grind
         omega
       · have k1:=Int.mul_nonneg (Int.le_of_lt hs) hf0
         have k2:=Int.mul_nonneg he0 (show 0≤-crD h dx dy f by omega)
         rw [Int.mul_neg] at k2
         omega
   · rw [lin_move]
     show crD h dx dy e*lin (h e) (h (nx e)) X Y M - lin (h e) (h (nx e)) X Y M*crD h dx dy e=0
     rw [Int.mul_comm]
     omega
 · refine .inl fun i hi=>?_
   rw [e1]
   by_cases c:lin (h i) (h (nx i)) X Y M < T*crD h dx dy i
   · exact absurd ⟨i,hi,c⟩ hv
   · omega
theorem side_way (K:Nat) (a b:Int) {e:Nat} (he:e < 6) :
 26*((hv K a b (nx e)).2 - (hv K a b e).2)=45*poX K (sA e) (sB e)∧45*((hv K a b (nx e)).1 - (hv K a b e).1)= -(78*poY K (sA e) (sB e)):=by
 obtain rfl | rfl | rfl | rfl | rfl | rfl:e=0∨e=1∨e=2∨e=3∨e=4∨e=5:=by omega
 · rw [nx_six.1]
   unfold hv coX coY poX poY ctA ctB sA sB wayA wayB
   constructor <;>grind
 · rw [nx_six.2.1]
   unfold hv coX coY poX poY ctA ctB sA sB wayA wayB
   constructor <;>grind
 · rw [nx_six.2.2.1]
   unfold hv coX coY poX poY ctA ctB sA sB wayA wayB
   constructor <;>grind
 · rw [nx_six.2.2.2.1]
   unfold hv coX coY poX poY ctA ctB sA sB wayA wayB
   constructor <;>grind
 · rw [nx_six.2.2.2.2.1]
   unfold hv coX coY poX poY ctA ctB sA sB wayA wayB
   constructor <;>grind
 · rw [nx_six.2.2.2.2.2]
   unfold hv coX coY poX poY ctA ctB sA sB wayA wayB
   constructor <;>grind
def plc (K d:Nat) (a b:Int):Int:=if d=0 then poX K a b else poY K a b
theorem po_add (K:Nat) (a b p q:Int):poX K (a+p) (b+q)=poX K a b+poX K p q∧poY K (a+p) (b+q)=poY K a b+poY K p q:=by
 unfold poX poY ctA ctB
 constructor <;>grind
theorem plc_add (K d:Nat) (a b p q:Int):plc K d (a+p) (b+q)=plc K d a b+plc K d p q:=by
 unfold plc
 split
 · exact (po_add K a b p q).1
 · exact (po_add K a b p q).2
theorem tou_left {K:Nat} {l1 l2 u1 u2 a b:Int} (h:Tou K l1 l2 u1 u2 a b) :
 Tou K l1 l2 l1 u2 a b∨∃ e,e < 6∧poX K (sA e) (sB e) < 0∧Tou K l1 l2 u1 u2 (a+sA e) (b+sB e):=by
 obtain ⟨X,Y,M,hM,hp,hX,hY⟩:=h
 rcases leaves_dir (dx:=1) (dy:=0) (T:=X - M*(3*l1)) hp (by omega) with k | ⟨e,s,t,he,hs,ht,htT,hc,hq,hz⟩
 · refine .inl ⟨_,_,M,hM,k,⟨by omega,by omega⟩,by omega,by omega⟩
 · refine .inr ⟨e,he,?_,?_⟩
   · have:=(side_way K a b he).1
     unfold crD at hc
     omega
   · have hqa:=across he hq hz
     rw [Int.mul_one,Int.mul_zero,Int.sub_zero] at hqa
     have k1:s*(M*(3*l1))=s*M*(3*l1):=(Int.mul_assoc ..).symm
     have k2:=Int.mul_le_mul_of_nonneg_left hX.2 (Int.le_of_lt hs)
     have k3:=Int.mul_le_mul_of_nonneg_left hY.1 (Int.le_of_lt hs)
     have k4:=Int.mul_le_mul_of_nonneg_left hY.2 (Int.le_of_lt hs)
     rw [← Int.mul_assoc] at k2 k3 k4
     have k5:(X - M*(3*l1))*s=s*X - s*M*(3*l1):=by grind
     exact ⟨s*X - t,s*Y,s*M,Int.mul_pos hs hM,hqa,⟨by omega,by omega⟩,k3,k4⟩
theorem tou_low {K:Nat} {l1 l2 u1 u2 a b:Int} (h:Tou K l1 l2 u1 u2 a b) :
 Tou K l1 l2 u1 l2 a b∨∃ e,e < 6∧poY K (sA e) (sB e) < 0∧Tou K l1 l2 u1 u2 (a+sA e) (b+sB e):=by
 obtain ⟨X,Y,M,hM,hp,hX,hY⟩:=h
 rcases leaves_dir (dx:=0) (dy:=1) (T:=Y - M*(3*l2)) hp (by omega) with k | ⟨e,s,t,he,hs,ht,htT,hc,hq,hz⟩
 · refine .inl ⟨_,_,M,hM,k,by omega,⟨by omega,by omega⟩⟩
 · refine .inr ⟨e,he,?_,?_⟩
   · have:=(side_way K a b he).2
     unfold crD at hc
     omega
   · have hqa:=across he hq hz
     rw [Int.mul_one,Int.mul_zero,Int.sub_zero] at hqa
     have k2:=Int.mul_le_mul_of_nonneg_left hY.2 (Int.le_of_lt hs)
     have k3:=Int.mul_le_mul_of_nonneg_left hX.1 (Int.le_of_lt hs)
     have k4:=Int.mul_le_mul_of_nonneg_left hX.2 (Int.le_of_lt hs)
     rw [← Int.mul_assoc] at k2 k3 k4
     have k5:(Y - M*(3*l2))*s=s*Y - s*M*(3*l2):=by grind
     exact ⟨s*X,s*Y - t,s*M,Int.mul_pos hs hM,hqa,⟨k3,k4⟩,by omega,by omega⟩
def sdX (d:Nat) (l u:Int):Int:=if d=0 then l else u
theorem tou_back {K d:Nat} (hd:d≤1) {l1 l2 u1 u2 a b:Int} (h:Tou K l1 l2 u1 u2 a b) :
 Tou K l1 l2 (sdX d l1 u1) (sdX (1 - d) l2 u2) a b∨∃ e,e < 6∧plc K d (sA e) (sB e) < 0∧Tou K l1 l2 u1 u2 (a+sA e) (b+sB e):=by
 obtain rfl | rfl:d=0∨d=1:=by omega
 · exact tou_left h
 · exact tou_low h
theorem plc_box {K d:Nat} (hK:K≤12) {r a b:Int} (h:Ok4 r a b): -1000000000000000000≤plc K d a b∧plc K d a b≤1000000000000000000:=by
 have h1:=ok4_part h
 have h2:=ct_box hK (a:=a) (b:=b) (by omega) (by omega)
 unfold plc poX poY
 split <;>omega
theorem u_of_s {e:Nat} (he:e < 6):∃ i,i < 6∧uA i= -sA e∧uB i= -sB e:=by
 obtain rfl | rfl | rfl | rfl | rfl | rfl:e=0∨e=1∨e=2∨e=3∨e=4∨e=5:=by omega
 · exact ⟨4,by omega,rfl,rfl⟩
 · exact ⟨5,by omega,rfl,rfl⟩
 · exact ⟨0,by omega,rfl,rfl⟩
 · exact ⟨1,by omega,rfl,rfl⟩
 · exact ⟨2,by omega,rfl,rfl⟩
 · exact ⟨3,by omega,rfl,rfl⟩
theorem sweep_all {K d:Nat} (hK:K≤12) (hd:d≤1) {r l1 l2 u1 u2:Int} (hr:12 - r=(K:Int)) (h1:0≤l1) (h2:0≤l2) (h3:u1 < 1073741824) (h4:u2 < 1073741824) (P:Int→Int→Prop)
 (h0:∀ a b,Tou K l1 l2 (sdX d l1 u1) (sdX (1 - d) l2 u2) a b→Tou K l1 l2 u1 u2 a b→P a b)
 (hstep:∀ a b i,i < 6→0 < plc K d (uA i) (uB i)→Tou K l1 l2 u1 u2 a b→P a b→Tou K l1 l2 u1 u2 (a+uA i) (b+uB i)→P (a+uA i) (b+uB i)) :
 ∀ a b,Tou K l1 l2 u1 u2 a b→P a b:=by
 have key:∀ (n:Nat) a b,(plc K d a b+1000000000000000000).toNat < n→Tou K l1 l2 u1 u2 a b→P a b:=by
  intro n
  induction n with
  | zero=>intro a b h;omega
  | succ n ih =>
   intro a b hn hT
   rcases tou_back hd hT with k | ⟨e,he,hc,hT2⟩
   · exact h0 a b k hT
   · have hb:=plc_box (d:=d) hK (tou_ok hK hr h1 h2 h3 h4 hT2)
     have ea:=plc_add K d a b (sA e) (sB e)
     have hp:=ih _ _ (by omega) hT2
     obtain ⟨i,hi,e1,e2⟩:=u_of_s he
     have e3:a+sA e+uA i=a:=by omega
     have e4:b+sB e+uB i=b:=by omega
     have e5:=plc_add K d (a+sA e) (b+sB e) (uA i) (uB i)
     rw [e3,e4] at e5
     have:=hstep (a+sA e) (b+sB e) i hi (by omega) hT2 hp (by rw [e3,e4];exact hT)
     rwa [e3,e4] at this
 exact fun a b hT=>key _ a b (Nat.lt_succ_self _) hT
theorem point_around {K:Nat} (hK:K≤12) {x y p q a b:Int} (hn:Nearest (dvK K) (nuA K x y) (nuB K x y) p q) (h:Tou K x y x y a b):(a=p∧b=q)∨∃ i,i < 6∧a=p+uA i∧b=q+uB i:=by
 have hd:=(dvK_box hK).1
 have h1:=hex_steps (by omega) hn.1 (tou_point h)
 by_cases e:a - p=0∧b - q=0
 · exact .inl ⟨by omega,by omega⟩
 · have h2:=stp_ge (a - p) (b - q)
   have h3:stp (a - p) (b - q)=1:=by omega
   refine .inr ?_
   have h4:=stp_at (a - p) (b - q)
   rw [h3] at h2
   obtain k | k | k | k | k | k:(a=p+1∧b=q)∨(a=p∧b=q+1)∨(a=p - 1∧b=q+1)∨(a=p - 1∧b=q)∨(a=p∧b=q - 1)∨(a=p+1∧b=q - 1):=by omega
   · exact ⟨0,by omega,by rw [k.1];rfl,by rw [k.2];simp [uB]⟩
   · exact ⟨1,by omega,by rw [k.1];simp [uA],by rw [k.2];rfl⟩
   · exact ⟨2,by omega,by rw [k.1];rfl,by rw [k.2];rfl⟩
   · exact ⟨3,by omega,by rw [k.1];rfl,by rw [k.2];simp [uB]⟩
   · exact ⟨4,by omega,by rw [k.1];simp [uA],by rw [k.2];rfl⟩
   · exact ⟨5,by omega,by rw [k.1];rfl,by rw [k.2];rfl⟩
end Go.Proofs.YtbnlhdnnenahfaaGreatDoor
namespace Go.Proofs.YtbnlhdnnenahfaaGreatDoor
open Go.RowKit
def Hp (n:Nat) (d:Array Int):Prop:=∀ i,i < n→Sort.Ok Sort.ltInt 0 n d i
theorem perm_size {a b:Nat} {d d':Array Int} (h:Sort.PermIn a b d d'):d'.size=d.size:=h.1
theorem perm_list {n:Nat} {d d':Array Int} (hn:d.size=n) (h:Sort.PermIn 0 n d d'):d'.toList.Perm d.toList:=by
 have hp:=h.2.2
 have hs:=h.1
 have e1:(d'.extract 0 n).toList=d'.toList:=by simp [← hn,← hs]
 have e2:(d.extract 0 n).toList=d.toList:=by simp [← hn]
 rwa [e1,e2] at hp
theorem hp_max {n:Nat} {d:Array Int} (h:Hp n d) (hn:d.size=n):∀ x∈d.toList,x≤d[0]! :=by
 intro x hx
 obtain ⟨i,hi,rfl⟩:=List.mem_iff_getElem.1 hx
 have hi':i < n:=by rw [← hn];simpa using hi
 have:=Sort.root_max Sort.swo_ltInt h i i (Nat.le_refl _) hi'
 simp only [Nat.zero_add,Sort.ltInt,decide_eq_false_iff_not] at this
 have e:d[i]! =d[i]'(by omega):=getElem!_pos d i (by omega)
 rw [e] at this
 simpa using this
def popD (n:Nat) (d:Array Int):Array Int:=Sort.siftDown Sort.ltInt n 0 0 (Sort.swp d 0 n)
theorem hp_pop {n:Nat} {d:Array Int} (h:Hp (n+1) d) (hn:d.size=n+1) :
 (popD n d).size=n+1∧(popD n d)[n]! =d[0]!∧Hp n ((popD n d).toList.take n).toArray∧d.toList.Perm (d[0]! :: (popD n d).toList.take n)∧((popD n d).toList.take n).length=n:=by
 have hs:=Sort.swo_ltInt
 have g1n:(Sort.swp d 0 n)[n]! =d[0]! :=Sort.swp_right d _ _ (by omega)
 have g1o:∀ j,j≠0→j≠n→(Sort.swp d 0 n)[j]! =d[j]! :=fun j h1 h2=>Sort.swp_other d _ _ _ h1 h2
 obtain ⟨R1,R2⟩:=Sort.sift hs n 0 0 n 0 (Sort.swp d 0 n) (by omega) (by rw [Sort.size_swp];omega) (Nat.le_refl _)
  (fun i _ h2 h3 kk hkk hkkh=>by rw [Nat.zero_add,Nat.zero_add,g1o i h3 (by omega),g1o kk (by omega) (by omega)];have:=h i (by omega) kk hkk (by omega);simpa using this)
  (fun p _ hp=>by omega)
 rw [Nat.zero_add] at R2
 have hsz:(popD n d).size=n+1:=by rw [show (popD n d).size=_ from R2.1,Sort.size_swp,hn]
 have hlast:(popD n d)[n]! =d[0]! :=by rw [show (popD n d)[n]! =(Sort.swp d 0 n)[n]! from R2.2.1 n (Or.inr (Nat.le_refl _)),g1n]
 have hlen:((popD n d).toList.take n).length=n:=by rw [List.length_take];simp [hsz]
 refine ⟨hsz,hlast,fun i hi k hk hkn=>?_,?_,hlen⟩
 · have e:∀ j,j < n→((popD n d).toList.take n).toArray[j]! =(popD n d)[j]! :=fun j hj=>by
    rw [getElem!_pos _ j (by simpa [hsz] using by omega),getElem!_pos (popD n d) j (by omega)]
    simp
   have:=R1 i (Nat.zero_le _) hi k hk hkn
   rw [Nat.zero_add,Nat.zero_add] at this ⊢
   rw [e i hi,e k hkn]
   exact this
 · have hp:(popD n d).toList.Perm d.toList:=by
    have p1:Sort.PermIn 0 (n+1) d (Sort.swp d 0 n):=Sort.swp_permIn d 0 (n+1) 0 n (Nat.le_refl _) (by omega) (by omega) (by omega) (by omega)
    have p2:Sort.PermIn 0 (n+1) (Sort.swp d 0 n) (popD n d):=Sort.permIn_mono _ _ 0 n 0 (n+1) (Nat.le_refl _) (by omega) (by rw [Sort.size_swp];omega) R2
    exact perm_list hn (Sort.permIn_trans _ _ _ _ _ p1 p2)
   have e:(popD n d).toList=(popD n d).toList.take n++[d[0]!]:=by
    have h1:n < (popD n d).toList.length:=by simp [hsz]
    have h2:=List.take_append_drop n (popD n d).toList
    rw [List.drop_eq_getElem_cons h1,List.drop_eq_nil_of_le (by simp [hsz])] at h2
    rw [← hlast,getElem!_pos (popD n d) n (by omega)]
    simpa using h2.symm
   refine hp.symm.trans ?_
   rw [e,List.take_left' (by simp [hsz])]
   exact List.perm_append_singleton _ _
def siftUp (j:Nat) (d:Array Int):Array Int :=
 if _h:j=0 then d else if Sort.ltInt d[(j - 1) / 2]! d[j]! =true then siftUp ((j - 1) / 2) (Sort.swp d ((j - 1) / 2) j) else d
termination_by j
decreasing_by omega
theorem siftUp_zero (d:Array Int):siftUp 0 d=d:=by rw [siftUp,dif_pos rfl]
theorem siftUp_stop {j:Nat} {d:Array Int} (h:Sort.ltInt d[(j - 1) / 2]! d[j]! =false):siftUp j d=d:=by
 rw [siftUp]
 split
 · rfl
 · rw [if_neg (by rw [h];exact Bool.false_ne_true)]
theorem siftUp_go {j:Nat} {d:Array Int} (hj:0 < j) (h:Sort.ltInt d[(j - 1) / 2]! d[j]! =true):siftUp j d=siftUp ((j - 1) / 2) (Sort.swp d ((j - 1) / 2) j):=by
 rw [siftUp,dif_neg (by omega),if_pos h]
theorem siftUp_hp (n:Nat):∀ (m j:Nat) (d:Array Int),j≤m→d.size=n→j < n→(∀ p k,(k=2*p+1∨k=2*p+2)→k < n→k≠j→d[k]!≤d[p]!) →
 (0 < j→∀ c,(c=2*j+1∨c=2*j+2)→c < n→d[c]!≤d[(j - 1) / 2]!)→Hp n (siftUp j d)∧Sort.PermIn 0 n d (siftUp j d):=by
 intro m
 induction m with
 | zero =>
  intro j d hj hn hjn h1 h2
  obtain rfl:j=0:=by omega
  rw [siftUp_zero]
  refine ⟨fun i hi k hk hkn=>?_,Sort.permIn_refl d _ _⟩
  have:=h1 i k hk hkn (by omega)
  rw [Nat.zero_add,Nat.zero_add]
  simp only [Sort.ltInt,decide_eq_false_iff_not]
  omega
 | succ m ih =>
  intro j d hj hn hjn h1 h2
  by_cases h0:j=0
  · exact ih j d (by omega) hn hjn h1 h2
  · cases hlt:Sort.ltInt d[(j - 1) / 2]! d[j]! with
    | false =>
     rw [siftUp_stop hlt]
     refine ⟨fun i hi k hk hkn=>?_,Sort.permIn_refl d _ _⟩
     rw [Nat.zero_add,Nat.zero_add]
     by_cases hkj:k=j
     · subst hkj
       rw [show i=(k - 1) / 2 by omega]
       exact hlt
     · have:=h1 i k hk hkn hkj
       simp only [Sort.ltInt,decide_eq_false_iff_not]
       omega
    | true =>
     rw [siftUp_go (by omega) hlt]
     simp only [Sort.ltInt,decide_eq_true_eq] at hlt
     obtain ⟨i,hi⟩:∃ i,(j - 1) / 2=i:=⟨_,rfl⟩
     rw [hi] at hlt ⊢
     have hij:i≠j:=by omega
     have gi:(Sort.swp d i j)[i]! =d[j]! :=Sort.swp_left d i j (by omega) hij
     have gj:(Sort.swp d i j)[j]! =d[i]! :=Sort.swp_right d i j (by omega)
     have go:∀ k,k≠i→k≠j→(Sort.swp d i j)[k]! =d[k]! :=fun k a b=>Sort.swp_other d i j k a b
     have hpi:∀ c,(c=2*i+1∨c=2*i+2)→c < n→c≠j→d[c]!≤d[i]! :=fun c hc hcn hcj=>h1 i c hc hcn hcj
     have hgr:∀ c,(c=2*j+1∨c=2*j+2)→c < n→d[c]!≤d[i]! :=fun c hc hcn=>by have:=h2 (by omega) c hc hcn;rwa [hi] at this
     have hres:=ih i (Sort.swp d i j) (by omega) (by rw [Sort.size_swp];exact hn) (by omega) (fun p k hk hkn hki=>?_) (fun h0i c hc hcn=>?_)
     · exact ⟨hres.1,Sort.permIn_trans _ _ _ _ _ (Sort.swp_permIn d 0 n i j (Nat.zero_le _) (by omega) (Nat.zero_le _) hjn (by omega)) hres.2⟩
     · by_cases hkj:k=j
       · obtain rfl:p=i:=by omega
         rw [hkj,gj,gi];omega
       · rw [go k hki hkj]
         by_cases hpi2:p=i
         · rw [hpi2,gi]
           have:=hpi k (by rw [← hpi2];exact hk) hkn hkj
           omega
         · by_cases hpj:p=j
           · rw [hpj,gj];exact hgr k (by rw [← hpj];exact hk) hkn
           · rw [go p hpi2 hpj];exact h1 p k hk hkn hkj
     · have hup:d[i]!≤d[(i - 1) / 2]! :=h1 ((i - 1) / 2) i (by omega) (by omega) hij
       rw [go ((i - 1) / 2) (by omega) (by omega)]
       by_cases hcj:c=j
       · rw [hcj,gj];exact hup
       · rw [go c (by omega) hcj]
         have:=hpi c hc hcn hcj
         omega
theorem hp_push {n:Nat} {d:Array Int} (h:Hp n d) (hn:d.size=n) (x:Int):Hp (n+1) (siftUp n (d.push x))∧(siftUp n (d.push x)).toList.Perm (x :: d.toList)∧(siftUp n (d.push x)).size=n+1:=by
 have hs:(d.push x).size=n+1:=by simp [hn]
 have e:∀ k,k < n→(d.push x)[k]! =d[k]! :=fun k hk=>by
  rw [getElem!_pos _ k (by omega),getElem!_pos d k (by omega),Array.getElem_push_lt]
 have hr:=siftUp_hp (n+1) n n (d.push x) (Nat.le_refl _) hs (by omega) (fun p k hk hkn hki=>by
  rw [e k (by omega),e p (by omega)]
  have:=h p (by omega) k hk (by omega)
  rw [Nat.zero_add,Nat.zero_add] at this
  simp only [Sort.ltInt,decide_eq_false_iff_not] at this
  omega) (fun _ c hc hcn=>by omega)
 refine ⟨hr.1,?_,by rw [perm_size hr.2,hs]⟩
 have:=perm_list hs hr.2
 rw [Array.toList_push] at this
 exact this.trans (List.perm_append_singleton _ _)
end Go.Proofs.YtbnlhdnnenahfaaGreatDoor
namespace Go.Proofs.YtbnlhdnnenahfaaGreatDoor
def spC (t a b:Int):Int:= -((t*1099511627776+(a+549755813888))*1099511627776+(b+549755813888))
def sp0 (x:Int):Int:=(-x) / 1099511627776 / 1099511627776
def sp1 (x:Int):Int:=(-x) / 1099511627776%1099511627776 - 549755813888
def sp2 (x:Int):Int:=(-x)%1099511627776 - 549755813888
theorem sp_of (t:Int) {a b:Int} (ha: -549755813888≤a∧a < 549755813888) (hb: -549755813888≤b∧b < 549755813888):sp0 (spC t a b)=t∧sp1 (spC t a b)=a∧sp2 (spC t a b)=b:=by
 unfold sp0 sp1 sp2 spC
 omega
theorem sp_back (x:Int):spC (sp0 x) (sp1 x) (sp2 x)=x:=by
 unfold sp0 sp1 sp2 spC
 omega
theorem sp_box (x:Int):(-549755813888≤sp1 x∧sp1 x < 549755813888)∧(-549755813888≤sp2 x∧sp2 x < 549755813888):=by
 unfold sp1 sp2
 omega
theorem sp_ext {x y:Int} (h0:sp0 x=sp0 y) (h1:sp1 x=sp1 y) (h2:sp2 x=sp2 y):x=y:=by
 rw [← sp_back x,← sp_back y,h0,h1,h2]
def cmpI (a b:Int):Int:=if a < b then -1 else if b < a then 1 else 0
def cmpS (x y:Int):Int:=if cmpI (sp0 x) (sp0 y)≠0 then cmpI (sp0 x) (sp0 y) else if cmpI (sp1 x) (sp1 y)≠0 then cmpI (sp1 x) (sp1 y) else cmpI (sp2 x) (sp2 y)
theorem cmpI_neg (a b:Int):cmpI a b < 0↔a < b:=by unfold cmpI;split <;>(try split) <;>omega
theorem cmpI_zero (a b:Int):cmpI a b=0↔a=b:=by unfold cmpI;split <;>(try split) <;>omega
theorem cmpS_lt (x y:Int):decide (cmpS x y < 0)=Sort.ltInt y x:=by
 unfold Sort.ltInt
 have bx:=sp_box x
 have by':=sp_box y
 have ex:=sp_back x
 have ey:=sp_back y
 unfold spC at ex ey
 have k0:=cmpI_neg (sp0 x) (sp0 y)
 have k1:=cmpI_neg (sp1 x) (sp1 y)
 have k2:=cmpI_neg (sp2 x) (sp2 y)
 have z0:=cmpI_zero (sp0 x) (sp0 y)
 have z1:=cmpI_zero (sp1 x) (sp1 y)
 unfold cmpS
 rw [decide_eq_decide]
 by_cases h0:cmpI (sp0 x) (sp0 y)=0
 · rw [if_neg (by omega)]
   by_cases h1:cmpI (sp1 x) (sp1 y)=0
   · rw [if_neg (by omega)]
     omega
   · rw [if_pos h1]
     omega
 · rw [if_pos h0]
   omega
def spot (K d:Nat) (a b:Int):Int:=spC (plc K d a b) a b
def Near9 (a b:Int):Prop:=(-500000000≤a∧a≤500000000)∧(-500000000≤b∧b≤500000000)
theorem spot_of {K d:Nat} {a b:Int} (h:Near9 a b):sp0 (spot K d a b)=plc K d a b∧sp1 (spot K d a b)=a∧sp2 (spot K d a b)=b:=by
 unfold Near9 at h
 exact sp_of _ (by omega) (by omega)
theorem spot_on {K d:Nat} {a b a' b':Int} (h:Near9 a b) (h':Near9 a' b') (hp:plc K d a b < plc K d a' b'):spot K d a' b' < spot K d a b:=by
 unfold Near9 at h h'
 unfold spot spC
 omega
structure Swp (K d:Nat) (l1 l2 u1 u2:Int) (S F:List (Int × Int)) (H:List Int):Prop where
 near:∀ x∈H,Near9 (sp1 x) (sp2 x)∧sp0 x=plc K d (sp1 x) (sp2 x)
 tou:∀ p∈F,Tou K l1 l2 u1 u2 p.1 p.2
 one:F.Nodup
 past:∀ p∈F,∀ x∈H,x < spot K d p.1 p.2
 from_:∀ p∈S,Tou K l1 l2 u1 u2 p.1 p.2→p∈F∨spot K d p.1 p.2∈H
 on:∀ p∈F,∀ i,i < 6→0 < plc K d (uA i) (uB i)→Tou K l1 l2 u1 u2 (p.1+uA i) (p.2+uB i)→(p.1+uA i,p.2+uB i)∈F∨spot K d (p.1+uA i) (p.2+uB i)∈H
def Tight (K:Nat) (l1 l2 u1 u2:Int):Prop:=∀ a b,Tou K l1 l2 u1 u2 a b→(-400000000≤a∧a≤400000000)∧(-400000000≤b∧b≤400000000)
theorem Tight.near {K:Nat} {l1 l2 u1 u2 a b:Int} (h:Tight K l1 l2 u1 u2) (ht:Tou K l1 l2 u1 u2 a b):Near9 a b:=by
 have:=h a b ht
 unfold Near9
 omega
theorem u_box (i:Nat):(-1≤uA i∧uA i≤1)∧(-1≤uB i∧uB i≤1):=by
 unfold uA uB
 constructor <;>(split <;>(try split) <;>(try split) <;>(try split) <;>(try split) <;>omega)
theorem Tight.beside {K:Nat} {l1 l2 u1 u2 a b:Int} (h:Tight K l1 l2 u1 u2) (ht:Tou K l1 l2 u1 u2 a b) (i:Nat):Near9 (a+uA i) (b+uB i):=by
 have:=h a b ht
 have:=u_box i
 unfold Near9
 omega
theorem tight_world {K:Nat} {r l1 l2 u1 u2:Int} (hK:K≤12) (hr:12 - r=(K:Int)) (h1:0≤l1) (h2:0≤l2) (h3:u1 < 1073741824) (h4:u2 < 1073741824):Tight K l1 l2 u1 u2:=fun _ _ h=>ok4_part (tou_ok hK hr h1 h2 h3 h4 h)
theorem Swp.at_spot {K d:Nat} {l1 l2 u1 u2:Int} {S F:List (Int × Int)} {H:List Int} (h:Swp K d l1 l2 u1 u2 S F H) {x:Int} (hx:x∈H):spot K d (sp1 x) (sp2 x)=x:=by
 have:=(h.near x hx).2
 unfold spot
 rw [← this]
 exact sp_back x
theorem spot_cell {K d:Nat} {a b x:Int} (h:Near9 a b) (e:spot K d a b=x):sp1 x=a∧sp2 x=b:=by
 rw [← e]
 exact (spot_of h).2
theorem swp_start {K d:Nat} {l1 l2 u1 u2:Int} {S:List (Int × Int)} {H:List Int} (hS:∀ p∈S,Near9 p.1 p.2) (hH:H.Perm (S.map fun p=>spot K d p.1 p.2)):Swp K d l1 l2 u1 u2 S [] H:=by
 refine ⟨fun x hx=>?_,fun p hp=>by simp at hp,List.nodup_nil,fun p hp=>by simp at hp,fun p hp _=>.inr ?_,fun p hp=>by simp at hp⟩
 · obtain ⟨p,hp,rfl⟩:=List.mem_map.1 (hH.mem_iff.1 hx)
   have e:=spot_of (K:=K) (d:=d) (hS p hp)
   rw [e.1,e.2.1,e.2.2]
   exact ⟨hS p hp,rfl⟩
 · exact hH.mem_iff.2 (List.mem_map.2 ⟨p,hp,rfl⟩)
theorem swp_skip {K d:Nat} {l1 l2 u1 u2:Int} {S F:List (Int × Int)} {H H':List Int} {x:Int} (hT:Tight K l1 l2 u1 u2) (h:Swp K d l1 l2 u1 u2 S F H) (hH:∀ y,y∈H'→y∈H) (hH2:∀ y∈H,y=x∨y∈H') (hn:¬ Tou K l1 l2 u1 u2 (sp1 x) (sp2 x)):Swp K d l1 l2 u1 u2 S F H':=by
 have key:∀ a b,Tou K l1 l2 u1 u2 a b→spot K d a b∈H→spot K d a b∈H':=fun a b ht hm=>by
  rcases hH2 _ hm with e | e
  · have k:=spot_cell (hT.near ht) e
    rw [k.1,k.2] at hn
    exact absurd ht hn
  · exact e
 exact ⟨fun y hy=>h.near y (hH y hy),h.tou,h.one,fun p hp y hy=>h.past p hp y (hH y hy),fun p hp ht=>(h.from_ p hp ht).imp id (key _ _ ht),fun p hp i hi hc ht=>(h.on p hp i hi hc ht).imp id (key _ _ ht)⟩
def onw (K d:Nat):List Nat:=(List.range 6).filter fun i=>decide (0 < plc K d (uA i) (uB i))
theorem mem_onw {K d i:Nat}:i∈onw K d↔i < 6∧0 < plc K d (uA i) (uB i):=by
 unfold onw
 rw [List.mem_filter,List.mem_range,decide_eq_true_eq]
theorem onw_len (K d:Nat):(onw K d).length≤6:=by
 unfold onw
 exact Nat.le_trans (List.length_filter_le _ _) (by simp)
theorem swp_take {K d:Nat} {l1 l2 u1 u2:Int} {S F:List (Int × Int)} {H H' G:List Int} {x:Int} (hT:Tight K l1 l2 u1 u2) (h:Swp K d l1 l2 u1 u2 S F H) (hx:x∈H) (hH:∀ y,y∈H'→y∈H∧y < x) (hH2:∀ y∈H,y=x∨y∈H') (ht:Tou K l1 l2 u1 u2 (sp1 x) (sp2 x))
 (hG:G.Perm ((onw K d).map (fun i=>spot K d (sp1 x+uA i) (sp2 x+uB i))++H')):Swp K d l1 l2 u1 u2 S (F++[(sp1 x,sp2 x)]) G:=by
 have ex:=h.at_spot hx
 have inG:∀ y,y∈G↔(∃ i,i < 6∧0 < plc K d (uA i) (uB i)∧y=spot K d (sp1 x+uA i) (sp2 x+uB i))∨y∈H':=fun y=>by
  rw [hG.mem_iff,List.mem_append,List.mem_map]
  constructor
  · rintro (⟨i,hi,rfl⟩ | k)
    · have:=mem_onw.1 hi
      exact .inl ⟨i,this.1,this.2,rfl⟩
    · exact .inr k
  · rintro (⟨i,hi,hc,rfl⟩ | k)
    · exact .inl ⟨i,mem_onw.2 ⟨hi,hc⟩,rfl⟩
    · exact .inr k
 have less:∀ y∈G,y < x:=fun y hy=>by
  rcases (inG y).1 hy with ⟨i,hi,hc,rfl⟩ | k
  · have:=spot_on (K:=K) (d:=d) (hT.near ht) (hT.beside ht i) (by rw [plc_add];omega)
    omega
  · exact (hH y k).2
 have key:∀ a b,Tou K l1 l2 u1 u2 a b→spot K d a b∈H→(a,b)∈F++[(sp1 x,sp2 x)]∨spot K d a b∈G:=fun a b htt hm=>by
  rcases hH2 _ hm with e | e
  · have k:=spot_cell (hT.near htt) e
    rw [← k.1,← k.2]
    exact .inl (by simp)
  · exact .inr ((inG _).2 (.inr e))
 refine ⟨fun y hy=>?_,fun p hp=>?_,?_,fun p hp y hy=>?_,fun p hp htt=>?_,fun p hp i hi hc htt=>?_⟩
 · rcases (inG y).1 hy with ⟨i,hi,hc,rfl⟩ | k
   · have e:=spot_of (K:=K) (d:=d) (hT.beside ht i)
     rw [e.1,e.2.1,e.2.2]
     exact ⟨hT.beside ht i,rfl⟩
   · exact h.near y (hH y k).1
 · rcases List.mem_append.1 hp with k | k
   · exact h.tou p k
   · rw [List.mem_singleton.1 k];exact ht
 · refine List.nodup_append.2 ⟨h.one,by simp,fun p hp q hq=>?_⟩
   rw [List.mem_singleton.1 hq]
   intro e
   have:=h.past p hp x hx
   rw [e] at this
   rw [ex] at this
   exact Int.lt_irrefl _ this
 · rcases List.mem_append.1 hp with k | k
   · exact Int.lt_trans (less y hy) (h.past p k x hx)
   · rw [List.mem_singleton.1 k,ex];exact less y hy
 · rcases h.from_ p hp htt with k | k
   · exact .inl (List.mem_append.2 (.inl k))
   · exact key _ _ htt k
 · rcases List.mem_append.1 hp with k | k
   · rcases h.on p k i hi hc htt with k | k
     · exact .inl (List.mem_append.2 (.inl k))
     · exact key _ _ htt k
   · rw [List.mem_singleton.1 k]
     exact .inr ((inG _).2 (.inl ⟨i,hi,hc,rfl⟩))
theorem swp_done {K d:Nat} (hK:K≤12) (hd:d≤1) {r l1 l2 u1 u2:Int} (hr:12 - r=(K:Int)) (h1:0≤l1) (h2:0≤l2) (h3:u1 < 1073741824) (h4:u2 < 1073741824) {S F:List (Int × Int)} (h:Swp K d l1 l2 u1 u2 S F [])
 (hS:∀ a b,Tou K l1 l2 (sdX d l1 u1) (sdX (1 - d) l2 u2) a b→Tou K l1 l2 u1 u2 a b→(a,b)∈S) (a b:Int):Tou K l1 l2 u1 u2 a b↔(a,b)∈F :=
 ⟨sweep_all hK hd hr h1 h2 h3 h4 (fun a b=>(a,b)∈F) (fun a b hs ht=>(h.from_ (a,b) (hS a b hs ht) ht).elim id fun k=>absurd k (by simp))
   (fun a b i hi hc _ hp ht'=>(h.on (a,b) hp i hi hc ht').elim id fun k=>absurd k (by simp)) a b,fun hp=>h.tou (a,b) hp⟩
end Go.Proofs.YtbnlhdnnenahfaaGreatDoor
namespace Go.Proofs.YtbnlhdnnenahfaaGreatDoor
open Go.RowKit
def spcV (x:Int):List Value:=[.int .i64 (sp0 x),.int .i64 (sp1 x),.int .i64 (sp2 x)]
def flat (L:List Int):List Value:=L.flatMap spcV
theorem flat_cons (x:Int) (L:List Int):flat (x :: L)=.int .i64 (sp0 x) :: .int .i64 (sp1 x) :: .int .i64 (sp2 x) :: flat L:=rfl
theorem flat_nil:flat []=[]:=rfl
theorem flat_app (L M:List Int):flat (L++M)=flat L++flat M:=by unfold flat;rw [List.flatMap_append]
theorem flat_one (x:Int):flat [x]=[.int .i64 (sp0 x),.int .i64 (sp1 x),.int .i64 (sp2 x)]:=by unfold flat;simp [spcV]
theorem flat_len:∀ L:List Int,(flat L).length=L.length*3
 | []=>rfl
 | x :: L=>by rw [flat_cons];simp only [List.length_cons,flat_len L];omega
theorem flat_at:∀ (L:List Int) (i:Nat) (h:i < L.length),(flat L)[i*3]?=some (.int .i64 (sp0 L[i]))∧(flat L)[i*3+1]?=some (.int .i64 (sp1 L[i]))∧(flat L)[i*3+2]?=some (.int .i64 (sp2 L[i]))
 | x :: L,0,_=>by rw [flat_cons];exact ⟨rfl,rfl,rfl⟩
 | x :: L,i+1,h=>by
  rw [flat_cons,show (i+1)*3=i*3+1+1+1 by omega]
  have:=flat_at L i (by simpa using h)
  simp only [List.getElem?_cons_succ,List.getElem_cons_succ]
  exact this
theorem flat_set:∀ (L:List Int) (i:Nat) (x:Int),(((flat L).set (i*3) (.int .i64 (sp0 x))).set (i*3+1) (.int .i64 (sp1 x))).set (i*3+2) (.int .i64 (sp2 x))=flat (L.set i x)
 | [],_,_=>by simp [flat_nil]
 | y :: L,0,x=>rfl
 | y :: L,i+1,x=>by
  rw [flat_cons,show (i+1)*3=i*3+1+1+1 by omega]
  simp only [List.set_cons_succ]
  rw [flat_set L i x,flat_cons]
theorem flat_take (L:List Int) (m:Nat):(flat L).take (m*3)=flat (L.take m):=by
 induction L generalizing m with
 | nil=>simp [flat_nil]
 | cons x L ih =>
  cases m with
  | zero=>simp [flat_nil]
  | succ m =>
   rw [flat_cons,show (m+1)*3=m*3+1+1+1 by omega]
   simp only [List.take_succ_cons]
   rw [ih m,flat_cons]
theorem swp_list (d:Array Int) (i j:Nat):(Sort.swp d i j).toList=(d.toList.set i d[j]!).set j d[i]! :=by
 unfold Sort.swp
 rw [Array.toList_setIfInBounds,Array.toList_setIfInBounds]
theorem sz_box:∀ i:Fin 13,(decide (52≤szK i.val) && decide (szK i.val≤7000000))=true:=by decide
theorem sz_in {K:Nat} (hK:K≤12):52≤szK K∧szK K≤7000000:=by
 have:=sz_box ⟨K,by omega⟩
 simpa [Bool.and_eq_true,decide_eq_true_eq] using this
theorem mask32 (n:Int):bits .and .i64 n 4294967295=n%4294967296:=by
 have:=i64_mask n 32 (by omega)
 simpa using this
end Go.Proofs.YtbnlhdnnenahfaaGreatDoor
