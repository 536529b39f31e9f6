/-
  Plain facts: the cells that touch one point; a cell's centre and its points; a cell's centre and its parent; neighbours and the box from centre to centre. No condition beyond those written.
-/
import Derived.Test.YtdklpgphmoaniaaGreatDoorJn21
namespace Go.Proofs.YtdklpgphmoaniaaGreatDoor
theorem tou_point {K:Nat} {x y a b:Int} (h:Tou K x y x y a b):HexAt (dvK K) (nuA K x y) (nuB K x y) a b:=by
 obtain ⟨X,Y,M,hM,hi,⟨h1,h2⟩,h3,h4⟩:=h
 have hX:X=M*(3*x):=by omega
 have hY:Y=M*(3*y):=by omega
 subst hX hY
 refine (at_point K a b x y).1 fun i hi6=>?_
 have k:=hi i hi6
 have e:lin (hv K a b i) (hv K a b (nx i)) (M*(3*x)) (M*(3*y)) M=M*lin (hv K a b i) (hv K a b (nx i)) (3*x) (3*y) 1:=by unfold lin;grind
 rw [e] at k
 exact Int.le_of_mul_le_mul_left (by rw [Int.mul_zero];exact k) hM
theorem cells_nodup {K r:Nat} {l1 l2 u1 u2:Int} {L:List Int} (hn:L.Nodup) (h:∀ x∈L,TW K l1 l2 u1 u2 x r):(L.map fun x=>(cellA x,cellB x)).Nodup:=by
 refine (List.pairwise_map).2 (hn.imp_of_mem fun {x y} hx hy hne he=>hne ?_)
 have e1:=congrArg Prod.fst he
 have e2:=congrArg Prod.snd he
 dsimp only at e1 e2
 have w1:=word_cell (h x hx).1
 have w2:=word_cell (h y hy).1
 rw [(h x hx).2.1,e1,e2] at w1
 rw [(h y hy).2.1] at w2
 exact w1.symm.trans w2
theorem point_few {K r:Nat} (hK:K≤12) {x y:Int} {L:List Int} (hn:L.Nodup) (h:∀ z∈L,TW K x y x y z r):L.length≤3:=by
 have hd:=cells_nodup hn h
 have:=clique hd fun p hp q hq=>by
  obtain ⟨z,hz,rfl⟩:=List.mem_map.1 hp
  obtain ⟨z',hz',rfl⟩:=List.mem_map.1 hq
  exact hex_steps (dvK_box hK).1 (tou_point (h z' hz').2.2) (tou_point (h z hz).2.2)
 rwa [List.length_map] at this
theorem box_few {K r:Nat} (hK:K≤12) {l1 l2 u1 u2:Int} (hx:u1 - l1≤8*szK K) (hy:u2 - l2≤8*szK K) {L:List Int} (hn:L.Nodup) (h:∀ z∈L,TW K l1 l2 u1 u2 z r):L.length≤10267:=by
 obtain ⟨sa,sb,hs⟩:=nearest_some (d:=dvK K) (dvK_box hK).1 (nuA K l1 l2) (nuB K l1 l2)
 have:=few_near (N:=58) (sa:=sa) (sb:=sb) (cells_nodup hn h) fun p hp=>by
  obtain ⟨z,hz,rfl⟩:=List.mem_map.1 hp
  exact box_steps hK hx hy hs.1 (h z hz).2.2
 rw [List.length_map] at this
 omega
theorem sz_two:∀ i:Fin 13,(decide (7300800*7^i.val < 2025*((2*szK i.val+1)*(2*szK i.val+1))) && decide (0≤szK i.val))=true:=by decide
theorem centre_near {K:Nat} (hK:K≤12) {x y a b:Int} (h:HexAt (dvK K) (nuA K x y) (nuB K x y) a b) :
 (x - 2*szK K≤poX K a b∧poX K a b≤x+2*szK K)∧y - 2*szK K≤poY K a b∧poY K a b≤y+2*szK K:=by
 have k:=one_cell hK h (near_self hK a b).1
 rw [sev_pow hK] at k
 have hz:=sz_two ⟨K,by omega⟩
 simp only [Bool.and_eq_true,decide_eq_true_eq] at hz
 have p1:=sq_pos (poX K a b - x)
 have p2:=sq_pos (poY K a b - y)
 have f:∀ m:Int,2025*(m*m)≤7300800*7^K→-(2*szK K)≤m∧m≤2*szK K:=fun m hm=>by
  by_cases c:m≤-(2*szK K+1)∨2*szK K+1≤m
  · have:=far_sq (a:=m) (m:=2*szK K+1) (by omega) c
    omega
  · omega
 have f1:=f (poX K a b - x) (by omega)
 have f2:=f (poY K a b - y) (by omega)
 omega
theorem centre_parent {K:Nat} (hK:K≤12) (a b:Int):HexAt (dvK (K+1)) (nuA (K+1) (poX K a b) (poY K a b)) (nuB (K+1) (poX K a b) (poY K a b)) (parA a b) (parB a b):=by
 have hd:=(dvK_box hK).1
 have h:=(par_nearest a b).1
 have n:=nu_down K (poX K a b) (poY K a b)
 have e1:nuA K (poX K a b) (poY K a b)=dvK K*a:=by unfold nuA dvK sev normE poX poY ctA ctB cjA cjB;grind
 have e2:nuB K (poX K a b) (poY K a b)=dvK K*b:=by unfold nuB dvK sev normE poX poY ctA ctB cjA cjB;grind
 rw [n.1,n.2,e1,e2,dv_down]
 unfold HexAt Hex at h ⊢
 generalize parA a b=P at *
 generalize parB a b=Q at *
 obtain ⟨d,ed⟩:∃ d,dvK K=d:=⟨_,rfl⟩
 rw [ed] at hd ⊢
 have m1:=Int.mul_nonneg (show 0≤d by omega) (show 0≤2*(3*a+b - P*7)+(2*b - a - Q*7)+7 by omega)
 have m2:=Int.mul_nonneg (show 0≤d by omega) (show 0≤7 - (2*(3*a+b - P*7)+(2*b - a - Q*7)) by omega)
 have m3:=Int.mul_nonneg (show 0≤d by omega) (show 0≤(3*a+b - P*7)+2*(2*b - a - Q*7)+7 by omega)
 have m4:=Int.mul_nonneg (show 0≤d by omega) (show 0≤7 - ((3*a+b - P*7)+2*(2*b - a - Q*7)) by omega)
 have m5:=Int.mul_nonneg (show 0≤d by omega) (show 0≤(3*a+b - P*7) - (2*b - a - Q*7)+7 by omega)
 have m6:=Int.mul_nonneg (show 0≤d by omega) (show 0≤7 - ((3*a+b - P*7) - (2*b - a - Q*7)) by omega)
 refine ⟨⟨?_,?_⟩,⟨?_,?_⟩,?_,?_⟩ <;>grind
theorem parent_touch {K:Nat} (hK:K≤12) {x y a b:Int} (h:HexAt (dvK K) (nuA K x y) (nuB K x y) a b) :
 Tou (K+1) (x - 2*szK K) (y - 2*szK K) (x+2*szK K) (y+2*szK K) (parA a b) (parB a b):=by
 have k:=centre_near hK h
 exact tou_at k.1 k.2 (centre_parent hK a b)
theorem centre_own {K:Nat} (hK:K≤12) {a b p q:Int} (h:Tou K (poX K a b) (poY K a b) (poX K a b) (poY K a b) p q):p=a∧q=b:=by
 have hd:=(dvK_box hK).1
 have k:=tou_point h
 have e1:nuA K (poX K a b) (poY K a b)=dvK K*a:=by unfold nuA dvK sev normE poX poY ctA ctB cjA cjB;grind
 have e2:nuB K (poX K a b) (poY K a b)=dvK K*b:=by unfold nuB dvK sev normE poX poY ctA ctB cjA cjB;grind
 rw [e1,e2] at k
 unfold HexAt at k
 have z:=near_hex_zero (x:=p - a) (y:=q - b) (d:=dvK K) (by omega) (by
  have f1:dvK K*a - p*dvK K= -((p - a)*dvK K):=by grind
  have f2:dvK K*b - q*dvK K= -((q - b)*dvK K):=by grind
  rw [f1,f2] at k
  exact k)
 omega
theorem has_neighbour {K r:Nat} (hK:K≤12) (hr:12 - (r:Int)=(K:Int)) {x y a b:Int} (hw:InW x y) (h:HexAt (dvK K) (nuA K x y) (nuB K x y) a b):∃ p q,stp p q=1∧Ok4 (r:Int) (a+p) (b+q):=by
 obtain ⟨w1,w2,w3,w4⟩:=hw
 by_cases c:∃ p q,stp p q=1∧Ok4 (r:Int) (a+p) (b+q)
 · exact c
 · exfalso
   have key:=tou_ind hK (l1:=0) (u1:=1073741823) (l2:=0) (u2:=1073741823) (x:=x) (y:=y) (by omega) (by omega) h (fun a' b'=>a'=a∧b'=b) ⟨rfl,rfl⟩ fun a1 b1 a2 b2 hst _ hp ht=>by
    have ho:=tou_ok (r:=(r:Int)) hK hr (by omega) (by omega) (by omega) (by omega) ht
    rw [hp.1,hp.2] at hst
    exact absurd ⟨a1 - a,b1 - b,hst,by rw [show a+(a1 - a)=a1 by omega,show b+(b1 - b)=b1 by omega];exact ho⟩ c
   have at':∀ x',0≤x'→x'≤1073741823→HexAt (dvK K) (nuA K x' 0) (nuB K x' 0) a b:=fun x' h1 h2=>by
    obtain ⟨p,q,hn⟩:=nearest_some (d:=dvK K) (dvK_box hK).1 (nuA K x' 0) (nuB K x' 0)
    have:=key p q (tou_at (x:=x') (y:=0) ⟨h1,h2⟩ ⟨by omega,by omega⟩ hn.1)
    rw [← this.1,← this.2]
    exact hn.1
   have k:=one_cell hK (at' 0 (by omega) (by omega)) (at' 1073741823 (by omega) (by omega))
   have hs:sev K≤13841287201:=by
    have:=sev_fin ⟨K,by omega⟩
    simp only [Bool.and_eq_true,decide_eq_true_eq] at this
    omega
   omega
theorem tou_mono {K:Nat} {l1 l2 u1 u2 l1' l2' u1' u2' a b:Int} (h:Tou K l1 l2 u1 u2 a b) (h1:l1'≤l1) (h2:l2'≤l2) (h3:u1≤u1') (h4:u2≤u2'):Tou K l1' l2' u1' u2' a b:=by
 obtain ⟨X,Y,M,hM,hi,⟨k1,k2⟩,k3,k4⟩:=h
 have f:∀ p q:Int,p≤q→M*(3*p)≤M*(3*q):=fun p q hpq=>Int.mul_le_mul_of_nonneg_left (by omega) (by omega)
 exact ⟨X,Y,M,hM,hi,⟨Int.le_trans (f _ _ h1) k1,Int.le_trans k2 (f _ _ h3)⟩,Int.le_trans (f _ _ h2) k3,Int.le_trans k4 (f _ _ h4)⟩
theorem tou_cut {K:Nat} {l1 l2 u1 u2 m a b:Int} (h1:l1≤m) (h2:m≤u1):Tou K l1 l2 u1 u2 a b↔Tou K l1 l2 m u2 a b∨Tou K m l2 u1 u2 a b:=by
 constructor
 · rintro ⟨X,Y,M,hM,hi,⟨k1,k2⟩,k3⟩
   rcases Int.lt_or_le (M*(3*m)) X with c | c
   · exact .inr ⟨X,Y,M,hM,hi,⟨by omega,k2⟩,k3⟩
   · exact .inl ⟨X,Y,M,hM,hi,⟨k1,c⟩,k3⟩
 · rintro (h | h)
   · exact tou_mono h (Int.le_refl _) (Int.le_refl _) h2 (Int.le_refl _)
   · exact tou_mono h h1 (Int.le_refl _) (Int.le_refl _) (Int.le_refl _)
theorem len_two {A B L:List Int} (hA:Rising A) (hB:Rising B) (hL:Rising L) (h:∀ x,x∈L↔x∈A∨x∈B) (hd:∀ x∈A,x ∉ B):A.length+B.length=L.length:=by
 have n1:(A++B).Nodup:=List.nodup_append.2 ⟨rising_nodup hA,rising_nodup hB,fun x hx y hy e=>hd x hx (by rw [e];exact hy)⟩
 have a1:=nodup_len n1 fun x hx=>(h x).2 (List.mem_append.1 hx)
 have a2:=nodup_len (rising_nodup hL) fun x hx=>List.mem_append.2 ((h x).1 hx)
 rw [List.length_append] at a1 a2
 omega
end Go.Proofs.YtdklpgphmoaniaaGreatDoor
namespace Go.Proofs.YtdklpgphmoaniaaGreatDoor
open Go.RowKit
def TellsCB (K r:Nat) (l1 l2 u1 u2:Int) (e:Ending) (w':World):Prop :=
 (∃ s L,e=.returned (.tuple #[s,.int .i64 0])∧RowAt 0 w' s L∧Rising L∧(∀ x,x∈L↔TW K l1 l2 u1 u2 x r)∧L.length≤20000) ∨
 ((∃ p c,e=.returned (.tuple #[.slice p 0 c,.int .i64 7]))∧Many K l1 l2 u1 u2 r 20000)
def TellsCC (K r:Nat) (l1 l2 u1 u2:Int) (e:Ending) (w':World):Prop :=
 (∃ s L,e=.returned (.tuple #[s,.int .i64 0])∧RowAt 0 w' s L∧Rising L∧(∀ x,x∈L↔TW K l1 l2 u1 u2 x r∧inCB K l1 l2 u1 u2 x=true)∧L.length≤20000) ∨
 ((∃ p c,e=.returned (.tuple #[.slice p 0 c,.int .i64 7]))∧Many K l1 l2 u1 u2 r 20000)
theorem TellsCB.row {K r:Nat} {l1 l2 u1 u2:Int} {e:Ending} {w:World} (h:TellsCB K r l1 l2 u1 u2 e w) (hn:¬ Many K l1 l2 u1 u2 r 20000) :
 ∃ s L,e=.returned (.tuple #[s,.int .i64 0])∧RowAt 0 w s L∧Rising L∧(∀ x,x∈L↔TW K l1 l2 u1 u2 x r)∧L.length≤20000:=h.elim id fun k=>absurd k.2 hn
theorem TellsCC.row {K r:Nat} {l1 l2 u1 u2:Int} {e:Ending} {w:World} (h:TellsCC K r l1 l2 u1 u2 e w) (hn:¬ Many K l1 l2 u1 u2 r 20000) :
 ∃ s L,e=.returned (.tuple #[s,.int .i64 0])∧RowAt 0 w s L∧Rising L∧(∀ x,x∈L↔TW K l1 l2 u1 u2 x r∧inCB K l1 l2 u1 u2 x=true)∧L.length≤20000:=h.elim id fun k=>absurd k.2 hn
theorem TellsCB.many {K r:Nat} {l1 l2 u1 u2:Int} {e:Ending} {w:World} (h:TellsCB K r l1 l2 u1 u2 e w) (hm:Many K l1 l2 u1 u2 r 20000):∃ p c,e=.returned (.tuple #[.slice p 0 c,.int .i64 7]) :=
 h.elim (fun ⟨_,L,_,_,_,h1,h2⟩=>absurd (hm.all h1) (by omega)) fun k=>k.1
theorem TellsCC.many {K r:Nat} {l1 l2 u1 u2:Int} {e:Ending} {w:World} (h:TellsCC K r l1 l2 u1 u2 e w) (hm:∀ L:List Int,(∀ x,x∈L↔TW K l1 l2 u1 u2 x r∧inCB K l1 l2 u1 u2 x=true)→20000 < L.length):∃ p c,e=.returned (.tuple #[.slice p 0 c,.int .i64 7]) :=
 h.elim (fun ⟨_,L,_,_,_,h1,h2⟩=>absurd (hm L h1) (by omega)) fun k=>k.1
theorem few_box {K r:Nat} (hK:K≤12) {l1 l2 u1 u2:Int} (hx:u1 - l1≤8*szK K) (hy:u2 - l2≤8*szK K):¬ Many K l1 l2 u1 u2 r 20000:=fun ⟨L,h1,h2,h3⟩=>by
 have:=box_few hK hx hy h1 h2
 omega
theorem few_point {K r:Nat} (hK:K≤12) (x y:Int):¬ Many K x y x y r 20000:=fun ⟨L,h1,h2,h3⟩=>by
 have:=point_few hK h1 h2
 omega
theorem own_centre {K r:Nat} (hK:K≤12) {a b:Int} (hok:Ok4 (r:Int) a b) (x:Int):x∈[wordOf r a b]↔TW K (poX K a b) (poY K a b) (poX K a b) (poY K a b) x r:=by
 rw [List.mem_singleton]
 constructor
 · rintro rfl
   exact tw_mk hok (tou_at ⟨Int.le_refl _,Int.le_refl _⟩ ⟨Int.le_refl _,Int.le_refl _⟩ (near_self hK a b).1)
 · rintro ⟨h1,h2,h3⟩
   have e:=centre_own hK h3
   have w:=word_cell h1
   rw [h2,e.1,e.2,Int.toNat_natCast] at w
   exact w.symm
theorem row_own {w:World} {x:Int} {g c:Nat} (h:w.cell? ⟨g,0,none⟩=some (.int .u64 x)):RowAt 0 w (.slice (some ⟨g,0,none⟩) 1 c) [x] :=
 .inr ⟨g,c,rfl,Nat.zero_le _,fun j hj=>by
  obtain rfl:j=0:=by simp at hj;omega
  exact h⟩
def inB (l1 l2 u1 u2 x y:Int):Bool:=decide (l1≤x∧x≤u1∧l2≤y∧y≤u2)
theorem inB_ways (l1 l2 u1 u2 x y:Int):(decide (l1≤x)=false∧inB l1 l2 u1 u2 x y=false)∨(l1≤x∧decide (x≤u1)=false∧inB l1 l2 u1 u2 x y=false)∨(l1≤x∧x≤u1∧decide (l2≤y)=false∧inB l1 l2 u1 u2 x y=false) ∨
 (l1≤x∧x≤u1∧l2≤y∧decide (y≤u2)=false∧inB l1 l2 u1 u2 x y=false)∨(l1≤x∧x≤u1∧l2≤y∧y≤u2∧inB l1 l2 u1 u2 x y=true):=by
 unfold inB
 simp only [decide_eq_false_iff_not,decide_eq_true_eq]
 omega
set_option maxHeartbeats 2000000 in
set_option maxRecDepth 20000 in
theorem q_holds (l1 l2 u1 u2 x y:Int) (w:World):Calls Tryz.prog 38 #[.agg #[.int .i64 l1,.int .i64 l2,.int .i64 u1,.int .i64 u2],.agg #[.int .i64 x,.int .i64 y]] w fun e w'=>e=.returned (.bool (inB l1 l2 u1 u2 x y))∧Below w.heap.size w w':=by
 have hw:=inB_ways l1 l2 u1 u2 x y
 generalize inB l1 l2 u1 u2 x y=b at *
 rcases hw with ⟨h1,rfl⟩ | ⟨h1,h2,rfl⟩ | ⟨h1,h2,h3,rfl⟩ | ⟨h1,h2,h3,h4,rfl⟩ | ⟨h1,h2,h3,h4,rfl⟩
 all_goals
  go_enter Tryz.func38,Tryz.ntmps38
  go_wp2
  go_ret
  exact ⟨rfl,by go_grown⟩
set_option maxHeartbeats 2000000 in
set_option maxRecDepth 20000 in
theorem q_turned (l1 l2 u1 u2:Int) (b:Bool) (h:(u1 < l1∧b=true)∨(decide (u1 < l1)=false∧u2 < l2∧b=true)∨(decide (u1 < l1)=false∧decide (u2 < l2)=false∧b=false)) (w:World) :
 Calls Tryz.prog 44 #[.agg #[.int .i64 l1,.int .i64 l2,.int .i64 u1,.int .i64 u2]] w fun e w'=>e=.returned (.bool b)∧Below w.heap.size w w':=by
 rcases h with ⟨h1,rfl⟩ | ⟨h1,h2,rfl⟩ | ⟨h1,h2,rfl⟩
 all_goals
  go_enter Tryz.func44,Tryz.ntmps44
  go_wp2
  go_ret
  exact ⟨rfl,by go_grown⟩
set_option maxHeartbeats 4000000 in
set_option maxRecDepth 20000 in
theorem q_isNear (l1 l2 u1 u2:Int) (p q:Bool) (hp:inB (-2147483648) (-2147483648) 2147483648 2147483648 l1 l2=p) (hq:inB (-2147483648) (-2147483648) 2147483648 2147483648 u1 u2=q) (w:World) :
 Calls Tryz.prog 43 #[.agg #[.int .i64 l1,.int .i64 l2,.int .i64 u1,.int .i64 u2]] w fun e w'=>e=.returned (.bool (p && q))∧Below w.heap.size w w':=by
 have H1:=hidd fun w=>(by have:=q_holds (-2147483648) (-2147483648) 2147483648 2147483648 l1 l2 w;rwa [hp] at this:Calls Tryz.prog 38 #[.agg #[.int .i64 (-2147483648),.int .i64 (-2147483648),.int .i64 2147483648,.int .i64 2147483648],.agg #[.int .i64 l1,.int .i64 l2]] w fun e w'=>e=.returned (.bool p)∧Below w.heap.size w w')
 have H2:=hidd fun w=>(by have:=q_holds (-2147483648) (-2147483648) 2147483648 2147483648 u1 u2 w;rwa [hq] at this:Calls Tryz.prog 38 #[.agg #[.int .i64 (-2147483648),.int .i64 (-2147483648),.int .i64 2147483648,.int .i64 2147483648],.agg #[.int .i64 u1,.int .i64 u2]] w fun e w'=>e=.returned (.bool q)∧Below w.heap.size w w')
 clear hp hq
 cases p
 ·
  go_enter Tryz.func43,Tryz.ntmps43
  go_wp2_with fail
  refine (H1.out _).mono ?_
  rintro e w1 ⟨rfl,d1⟩
  have c1:Below w.heap.size w w1:=Below.trans (by go_grown) (d1.mono (by simp;try omega))
  have hB:=c1
  clear c1 d1
  go_wp2
  go_ret
  exact ⟨by simp,hB⟩
 ·
  go_enter Tryz.func43,Tryz.ntmps43
  go_wp2_with fail
  refine (H1.out _).mono ?_
  rintro e w1 ⟨rfl,d1⟩
  have c1:Below w.heap.size w w1:=Below.trans (by go_grown) (d1.mono (by simp;try omega))
  have s0:w1.cell? ⟨w.heap.size,0,none⟩=some (.int .i64 l1):=keepCell d1 (by go_simp)
  have qs0:=World.block_lt_of_cell? _ _ s0
  have s1:w1.cell? ⟨w.heap.size,1,none⟩=some (.int .i64 l2):=keepCell d1 (by go_simp)
  have s2:w1.cell? ⟨w.heap.size,2,none⟩=some (.int .i64 u1):=keepCell d1 (by go_simp)
  have s3:w1.cell? ⟨w.heap.size,3,none⟩=some (.int .i64 u2):=keepCell d1 (by go_simp)
  have t0:w1.cell? ⟨w.heap.size+1,0,none⟩=some (.int .i64 (-2147483648)):=keepCell d1 (by go_simp)
  have qt0:=World.block_lt_of_cell? _ _ t0
  have t1:w1.cell? ⟨w.heap.size+1,1,none⟩=some (.int .i64 (-2147483648)):=keepCell d1 (by go_simp)
  have t2:w1.cell? ⟨w.heap.size+1,2,none⟩=some (.int .i64 2147483648):=keepCell d1 (by go_simp)
  have t3:w1.cell? ⟨w.heap.size+1,3,none⟩=some (.int .i64 2147483648):=keepCell d1 (by go_simp)
  have hB:=c1
  clear c1 d1
  go_wp2_with fail
  refine (H2.out _).mono ?_
  rintro e w2 ⟨rfl,d2⟩
  have c2:Below w1.heap.size w1 w2:=Below.trans (by go_grown) (d2.mono (by simp;try omega))
  replace s0:=keepCell c2 s0
  replace qs0:=World.block_lt_of_cell? _ _ s0
  replace s1:=keepCell c2 s1
  replace s2:=keepCell c2 s2
  replace s3:=keepCell c2 s3
  replace t0:=keepCell c2 t0
  replace qt0:=World.block_lt_of_cell? _ _ t0
  replace t1:=keepCell c2 t1
  replace t2:=keepCell c2 t2
  replace t3:=keepCell c2 t3
  replace hB:=belowT hB c2
  clear c2 d2
  go_wp2
  go_ret
  exact ⟨by simp,hB⟩
end Go.Proofs.YtdklpgphmoaniaaGreatDoor
