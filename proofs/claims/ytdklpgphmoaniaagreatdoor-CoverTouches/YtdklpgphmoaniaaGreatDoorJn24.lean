/-
  Plain facts on spots of a sweep: three numbers told as one, so that the spot that comes first is the greatest; what a sweep has found, and what waits. No condition beyond those written.
-/
import Derived.Test.YtdklpgphmoaniaaGreatDoorJn23
namespace Go.Proofs.YtdklpgphmoaniaaGreatDoor
def spC (t a b:Int):Int:= -((t*1099511627776+(a+549755813888))*1099511627776+(b+549755813888))
def sp0 (x:Int):Int:=(-x) / 1099511627776 / 1099511627776
def sp1 (x:Int):Int:=(-x) / 1099511627776%1099511627776 - 549755813888
def sp2 (x:Int):Int:=(-x)%1099511627776 - 549755813888
theorem sp_of (t:Int) {a b:Int} (ha: -549755813888≤a∧a < 549755813888) (hb: -549755813888≤b∧b < 549755813888):sp0 (spC t a b)=t∧sp1 (spC t a b)=a∧sp2 (spC t a b)=b:=by
 unfold sp0 sp1 sp2 spC
 omega
theorem sp_back (x:Int):spC (sp0 x) (sp1 x) (sp2 x)=x:=by
 unfold sp0 sp1 sp2 spC
 omega
theorem sp_box (x:Int):(-549755813888≤sp1 x∧sp1 x < 549755813888)∧(-549755813888≤sp2 x∧sp2 x < 549755813888):=by
 unfold sp1 sp2
 omega
theorem sp_ext {x y:Int} (h0:sp0 x=sp0 y) (h1:sp1 x=sp1 y) (h2:sp2 x=sp2 y):x=y:=by
 rw [← sp_back x,← sp_back y,h0,h1,h2]
def cmpI (a b:Int):Int:=if a < b then -1 else if b < a then 1 else 0
def cmpS (x y:Int):Int:=if cmpI (sp0 x) (sp0 y)≠0 then cmpI (sp0 x) (sp0 y) else if cmpI (sp1 x) (sp1 y)≠0 then cmpI (sp1 x) (sp1 y) else cmpI (sp2 x) (sp2 y)
theorem cmpI_box (a b:Int): -1≤cmpI a b∧cmpI a b≤1:=by unfold cmpI;split <;>(try split) <;>omega
theorem cmpI_neg (a b:Int):cmpI a b < 0↔a < b:=by unfold cmpI;split <;>(try split) <;>omega
theorem cmpI_zero (a b:Int):cmpI a b=0↔a=b:=by unfold cmpI;split <;>(try split) <;>omega
theorem cmpS_lt (x y:Int):decide (cmpS x y < 0)=Sort.ltInt y x:=by
 unfold Sort.ltInt
 have bx:=sp_box x
 have by':=sp_box y
 have ex:=sp_back x
 have ey:=sp_back y
 unfold spC at ex ey
 have k0:=cmpI_neg (sp0 x) (sp0 y)
 have k1:=cmpI_neg (sp1 x) (sp1 y)
 have k2:=cmpI_neg (sp2 x) (sp2 y)
 have z0:=cmpI_zero (sp0 x) (sp0 y)
 have z1:=cmpI_zero (sp1 x) (sp1 y)
 unfold cmpS
 rw [decide_eq_decide]
 by_cases h0:cmpI (sp0 x) (sp0 y)=0
 · rw [if_neg (by omega)]
   by_cases h1:cmpI (sp1 x) (sp1 y)=0
   · rw [if_neg (by omega)]
     omega
   · rw [if_pos h1]
     omega
 · rw [if_pos h0]
   omega
def spot (K d:Nat) (a b:Int):Int:=spC (plc K d a b) a b
def Near9 (a b:Int):Prop:=(-500000000≤a∧a≤500000000)∧(-500000000≤b∧b≤500000000)
theorem spot_of {K d:Nat} {a b:Int} (h:Near9 a b):sp0 (spot K d a b)=plc K d a b∧sp1 (spot K d a b)=a∧sp2 (spot K d a b)=b:=by
 unfold Near9 at h
 exact sp_of _ (by omega) (by omega)
theorem spot_on {K d:Nat} {a b a' b':Int} (h:Near9 a b) (h':Near9 a' b') (hp:plc K d a b < plc K d a' b'):spot K d a' b' < spot K d a b:=by
 unfold Near9 at h h'
 unfold spot spC
 omega
structure Swp (K d:Nat) (l1 l2 u1 u2:Int) (S F:List (Int × Int)) (H:List Int):Prop where
 near:∀ x∈H,Near9 (sp1 x) (sp2 x)∧sp0 x=plc K d (sp1 x) (sp2 x)
 tou:∀ p∈F,Tou K l1 l2 u1 u2 p.1 p.2
 one:F.Nodup
 past:∀ p∈F,∀ x∈H,x < spot K d p.1 p.2
 from_:∀ p∈S,Tou K l1 l2 u1 u2 p.1 p.2→p∈F∨spot K d p.1 p.2∈H
 on:∀ p∈F,∀ i,i < 6→0 < plc K d (uA i) (uB i)→Tou K l1 l2 u1 u2 (p.1+uA i) (p.2+uB i)→(p.1+uA i,p.2+uB i)∈F∨spot K d (p.1+uA i) (p.2+uB i)∈H
def Tight (K:Nat) (l1 l2 u1 u2:Int):Prop:=∀ a b,Tou K l1 l2 u1 u2 a b→(-400000000≤a∧a≤400000000)∧(-400000000≤b∧b≤400000000)
theorem Tight.near {K:Nat} {l1 l2 u1 u2 a b:Int} (h:Tight K l1 l2 u1 u2) (ht:Tou K l1 l2 u1 u2 a b):Near9 a b:=by
 have:=h a b ht
 unfold Near9
 omega
theorem u_box (i:Nat):(-1≤uA i∧uA i≤1)∧(-1≤uB i∧uB i≤1):=by
 unfold uA uB
 constructor <;>(split <;>(try split) <;>(try split) <;>(try split) <;>(try split) <;>omega)
theorem Tight.beside {K:Nat} {l1 l2 u1 u2 a b:Int} (h:Tight K l1 l2 u1 u2) (ht:Tou K l1 l2 u1 u2 a b) (i:Nat):Near9 (a+uA i) (b+uB i):=by
 have:=h a b ht
 have:=u_box i
 unfold Near9
 omega
theorem tight_world {K:Nat} {r l1 l2 u1 u2:Int} (hK:K≤12) (hr:12 - r=(K:Int)) (h1:0≤l1) (h2:0≤l2) (h3:u1 < 1073741824) (h4:u2 < 1073741824):Tight K l1 l2 u1 u2:=fun _ _ h=>ok4_part (tou_ok hK hr h1 h2 h3 h4 h)
theorem Swp.at_spot {K d:Nat} {l1 l2 u1 u2:Int} {S F:List (Int × Int)} {H:List Int} (h:Swp K d l1 l2 u1 u2 S F H) {x:Int} (hx:x∈H):spot K d (sp1 x) (sp2 x)=x:=by
 have:=(h.near x hx).2
 unfold spot
 rw [← this]
 exact sp_back x
theorem spot_cell {K d:Nat} {a b x:Int} (h:Near9 a b) (e:spot K d a b=x):sp1 x=a∧sp2 x=b:=by
 rw [← e]
 exact (spot_of h).2
theorem swp_start {K d:Nat} {l1 l2 u1 u2:Int} {S:List (Int × Int)} {H:List Int} (hS:∀ p∈S,Near9 p.1 p.2) (hH:H.Perm (S.map fun p=>spot K d p.1 p.2)):Swp K d l1 l2 u1 u2 S [] H:=by
 refine ⟨fun x hx=>?_,fun p hp=>by simp at hp,List.nodup_nil,fun p hp=>by simp at hp,fun p hp _=>.inr ?_,fun p hp=>by simp at hp⟩
 · obtain ⟨p,hp,rfl⟩:=List.mem_map.1 (hH.mem_iff.1 hx)
   have e:=spot_of (K:=K) (d:=d) (hS p hp)
   rw [e.1,e.2.1,e.2.2]
   exact ⟨hS p hp,rfl⟩
 · exact hH.mem_iff.2 (List.mem_map.2 ⟨p,hp,rfl⟩)
theorem swp_skip {K d:Nat} {l1 l2 u1 u2:Int} {S F:List (Int × Int)} {H H':List Int} {x:Int} (hT:Tight K l1 l2 u1 u2) (h:Swp K d l1 l2 u1 u2 S F H) (hH:∀ y,y∈H'→y∈H) (hH2:∀ y∈H,y=x∨y∈H') (hn:¬ Tou K l1 l2 u1 u2 (sp1 x) (sp2 x)):Swp K d l1 l2 u1 u2 S F H':=by
 have key:∀ a b,Tou K l1 l2 u1 u2 a b→spot K d a b∈H→spot K d a b∈H':=fun a b ht hm=>by
  rcases hH2 _ hm with e | e
  · have k:=spot_cell (hT.near ht) e
    rw [k.1,k.2] at hn
    exact absurd ht hn
  · exact e
 exact ⟨fun y hy=>h.near y (hH y hy),h.tou,h.one,fun p hp y hy=>h.past p hp y (hH y hy),fun p hp ht=>(h.from_ p hp ht).imp id (key _ _ ht),fun p hp i hi hc ht=>(h.on p hp i hi hc ht).imp id (key _ _ ht)⟩
def onw (K d:Nat):List Nat:=(List.range 6).filter fun i=>decide (0 < plc K d (uA i) (uB i))
theorem mem_onw {K d i:Nat}:i∈onw K d↔i < 6∧0 < plc K d (uA i) (uB i):=by
 unfold onw
 rw [List.mem_filter,List.mem_range,decide_eq_true_eq]
theorem onw_len (K d:Nat):(onw K d).length≤6:=by
 unfold onw
 exact Nat.le_trans (List.length_filter_le _ _) (by simp)
theorem swp_take {K d:Nat} {l1 l2 u1 u2:Int} {S F:List (Int × Int)} {H H' G:List Int} {x:Int} (hT:Tight K l1 l2 u1 u2) (h:Swp K d l1 l2 u1 u2 S F H) (hx:x∈H) (hH:∀ y,y∈H'→y∈H∧y < x) (hH2:∀ y∈H,y=x∨y∈H') (ht:Tou K l1 l2 u1 u2 (sp1 x) (sp2 x))
 (hG:G.Perm ((onw K d).map (fun i=>spot K d (sp1 x+uA i) (sp2 x+uB i))++H')):Swp K d l1 l2 u1 u2 S (F++[(sp1 x,sp2 x)]) G:=by
 have ex:=h.at_spot hx
 have inG:∀ y,y∈G↔(∃ i,i < 6∧0 < plc K d (uA i) (uB i)∧y=spot K d (sp1 x+uA i) (sp2 x+uB i))∨y∈H':=fun y=>by
  rw [hG.mem_iff,List.mem_append,List.mem_map]
  constructor
  · rintro (⟨i,hi,rfl⟩ | k)
    · have:=mem_onw.1 hi
      exact .inl ⟨i,this.1,this.2,rfl⟩
    · exact .inr k
  · rintro (⟨i,hi,hc,rfl⟩ | k)
    · exact .inl ⟨i,mem_onw.2 ⟨hi,hc⟩,rfl⟩
    · exact .inr k
 have less:∀ y∈G,y < x:=fun y hy=>by
  rcases (inG y).1 hy with ⟨i,hi,hc,rfl⟩ | k
  · have:=spot_on (K:=K) (d:=d) (hT.near ht) (hT.beside ht i) (by rw [plc_add];omega)
    omega
  · exact (hH y k).2
 have key:∀ a b,Tou K l1 l2 u1 u2 a b→spot K d a b∈H→(a,b)∈F++[(sp1 x,sp2 x)]∨spot K d a b∈G:=fun a b htt hm=>by
  rcases hH2 _ hm with e | e
  · have k:=spot_cell (hT.near htt) e
    rw [← k.1,← k.2]
    exact .inl (by simp)
  · exact .inr ((inG _).2 (.inr e))
 refine ⟨fun y hy=>?_,fun p hp=>?_,?_,fun p hp y hy=>?_,fun p hp htt=>?_,fun p hp i hi hc htt=>?_⟩
 · rcases (inG y).1 hy with ⟨i,hi,hc,rfl⟩ | k
   · have e:=spot_of (K:=K) (d:=d) (hT.beside ht i)
     rw [e.1,e.2.1,e.2.2]
     exact ⟨hT.beside ht i,rfl⟩
   · exact h.near y (hH y k).1
 · rcases List.mem_append.1 hp with k | k
   · exact h.tou p k
   · rw [List.mem_singleton.1 k];exact ht
 · refine List.nodup_append.2 ⟨h.one,by simp,fun p hp q hq=>?_⟩
   rw [List.mem_singleton.1 hq]
   intro e
   have:=h.past p hp x hx
   rw [e] at this
   rw [ex] at this
   exact Int.lt_irrefl _ this
 · rcases List.mem_append.1 hp with k | k
   · exact Int.lt_trans (less y hy) (h.past p k x hx)
   · rw [List.mem_singleton.1 k,ex];exact less y hy
 · rcases h.from_ p hp htt with k | k
   · exact .inl (List.mem_append.2 (.inl k))
   · exact key _ _ htt k
 · rcases List.mem_append.1 hp with k | k
   · rcases h.on p k i hi hc htt with k | k
     · exact .inl (List.mem_append.2 (.inl k))
     · exact key _ _ htt k
   · rw [List.mem_singleton.1 k]
     exact .inr ((inG _).2 (.inl ⟨i,hi,hc,rfl⟩))
theorem swp_done {K d:Nat} (hK:K≤12) (hd:d≤1) {r l1 l2 u1 u2:Int} (hr:12 - r=(K:Int)) (h1:0≤l1) (h2:0≤l2) (h3:u1 < 1073741824) (h4:u2 < 1073741824) {S F:List (Int × Int)} (h:Swp K d l1 l2 u1 u2 S F [])
 (hS:∀ a b,Tou K l1 l2 (sdX d l1 u1) (sdX (1 - d) l2 u2) a b→Tou K l1 l2 u1 u2 a b→(a,b)∈S) (a b:Int):Tou K l1 l2 u1 u2 a b↔(a,b)∈F :=
 ⟨sweep_all hK hd hr h1 h2 h3 h4 (fun a b=>(a,b)∈F) (fun a b hs ht=>(h.from_ (a,b) (hS a b hs ht) ht).elim id fun k=>absurd k (by simp))
   (fun a b i hi hc _ hp ht'=>(h.on (a,b) hp i hi hc ht').elim id fun k=>absurd k (by simp)) a b,fun hp=>h.tou (a,b) hp⟩
end Go.Proofs.YtdklpgphmoaniaaGreatDoor
namespace Go.Proofs.YtdklpgphmoaniaaGreatDoor
open Go.RowKit
def spcV (x:Int):List Value:=[.int .i64 (sp0 x),.int .i64 (sp1 x),.int .i64 (sp2 x)]
def flat (L:List Int):List Value:=L.flatMap spcV
theorem flat_cons (x:Int) (L:List Int):flat (x :: L)=.int .i64 (sp0 x) :: .int .i64 (sp1 x) :: .int .i64 (sp2 x) :: flat L:=rfl
theorem flat_nil:flat []=[]:=rfl
theorem flat_app (L M:List Int):flat (L++M)=flat L++flat M:=by unfold flat;rw [List.flatMap_append]
theorem flat_one (x:Int):flat [x]=[.int .i64 (sp0 x),.int .i64 (sp1 x),.int .i64 (sp2 x)]:=by unfold flat;simp [spcV]
theorem flat_len:∀ L:List Int,(flat L).length=L.length*3
 | []=>rfl
 | x :: L=>by rw [flat_cons];simp only [List.length_cons,flat_len L];omega
theorem flat_at:∀ (L:List Int) (i:Nat) (h:i < L.length),(flat L)[i*3]?=some (.int .i64 (sp0 L[i]))∧(flat L)[i*3+1]?=some (.int .i64 (sp1 L[i]))∧(flat L)[i*3+2]?=some (.int .i64 (sp2 L[i]))
 | x :: L,0,_=>by rw [flat_cons];exact ⟨rfl,rfl,rfl⟩
 | x :: L,i+1,h=>by
  rw [flat_cons,show (i+1)*3=i*3+1+1+1 by omega]
  have:=flat_at L i (by simpa using h)
  simp only [List.getElem?_cons_succ,List.getElem_cons_succ]
  exact this
theorem flat_set:∀ (L:List Int) (i:Nat) (x:Int),(((flat L).set (i*3) (.int .i64 (sp0 x))).set (i*3+1) (.int .i64 (sp1 x))).set (i*3+2) (.int .i64 (sp2 x))=flat (L.set i x)
 | [],_,_=>by simp [flat_nil]
 | y :: L,0,x=>rfl
 | y :: L,i+1,x=>by
  rw [flat_cons,show (i+1)*3=i*3+1+1+1 by omega]
  simp only [List.set_cons_succ]
  rw [flat_set L i x,flat_cons]
theorem flat_take (L:List Int) (m:Nat):(flat L).take (m*3)=flat (L.take m):=by
 induction L generalizing m with
 | nil=>simp [flat_nil]
 | cons x L ih =>
  cases m with
  | zero=>simp [flat_nil]
  | succ m =>
   rw [flat_cons,show (m+1)*3=m*3+1+1+1 by omega]
   simp only [List.take_succ_cons]
   rw [ih m,flat_cons]
theorem swp_list (d:Array Int) (i j:Nat):(Sort.swp d i j).toList=(d.toList.set i d[j]!).set j d[i]! :=by
 unfold Sort.swp
 rw [Array.toList_setIfInBounds,Array.toList_setIfInBounds]
theorem c_isnan (x:Int) (w:World):Calls Tryz.prog 203 #[.int .i64 x] w fun e w'=>e=.returned (.bool false)∧w'=w:=by
 go_enter Tryz.func203,Tryz.ntmps203
 go_wp2
 go_ret
 exact ⟨by simp,rfl⟩
set_option maxHeartbeats 1000000 in
theorem c_cmp (x y:Int) (w:World):Calls Tryz.prog 202 #[.int .i64 x,.int .i64 y] w fun e w'=>e=.returned (.int .i64 (cmpI x y))∧w'=w:=by
 by_cases h:x < y
 · have e1:cmpI x y= -1:=by unfold cmpI;rw [if_pos h]
   rw [e1]
   go_enter Tryz.func202,Tryz.ntmps202
   go_wp2_with fail
   refine (c_isnan _ _).mono ?_
   rintro e w1 ⟨rfl,rfl⟩
   go_wp2_with fail
   refine (c_isnan _ _).mono ?_
   rintro e w1 ⟨rfl,rfl⟩
   go_wp2
   go_ret
   exact ⟨rfl,rfl⟩
 · by_cases h2:y < x
   · have e1:cmpI x y=1:=by unfold cmpI;rw [if_neg h,if_pos h2]
     have h0:decide (x < y)=false:=df (by omega)
     clear h
     rw [e1]
     go_enter Tryz.func202,Tryz.ntmps202
     go_wp2_with fail
     refine (c_isnan _ _).mono ?_
     rintro e w1 ⟨rfl,rfl⟩
     go_wp2_with fail
     refine (c_isnan _ _).mono ?_
     rintro e w1 ⟨rfl,rfl⟩
     go_wp2
     go_ret
     exact ⟨rfl,rfl⟩
   · have e1:cmpI x y=0:=by unfold cmpI;rw [if_neg h,if_neg h2]
     have h0:decide (x < y)=false:=df (by omega)
     have h3:decide (y < x)=false:=df (by omega)
     clear h h2
     rw [e1]
     go_enter Tryz.func202,Tryz.ntmps202
     go_wp2_with fail
     refine (c_isnan _ _).mono ?_
     rintro e w1 ⟨rfl,rfl⟩
     go_wp2_with fail
     refine (c_isnan _ _).mono ?_
     rintro e w1 ⟨rfl,rfl⟩
     go_wp2
     go_ret
     exact ⟨rfl,rfl⟩
def orG (G:Nat→Int):Int:=if G 0≠0 then G 0 else if G 1≠0 then G 1 else G 2
theorem orG_at {G:Nat→Int} {k:Nat} (hk:k < 3) (h:∀ j,j < k→G j=0) (hn:G k≠0):orG G=G k:=by
 unfold orG
 obtain rfl | rfl | rfl:k=0∨k=1∨k=2:=by omega
 · rw [if_pos hn]
 · rw [if_neg (by rw [h 0 (by omega)];simp),if_pos hn]
 · rw [if_neg (by rw [h 0 (by omega)];simp),if_neg (by rw [h 1 (by omega)];simp)]
theorem orG_none {G:Nat→Int} (h:∀ j,j < 3→G j=0):orG G=0:=by
 unfold orG
 rw [if_neg (by rw [h 0 (by omega)];simp),if_neg (by rw [h 1 (by omega)];simp),h 2 (by omega)]
set_option maxHeartbeats 1000000 in
theorem c_or (g c:Nat) (G:Nat→Int) (Z:Int) (hZ:orG G=Z) (w:World) (hc:∀ i,i < 3→w.cell? ⟨g,i,none⟩=some (.int .i64 (G i))) :
 Calls Tryz.prog 201 #[.slice (some ⟨g,0,none⟩) 3 c] w fun e w'=>e=.returned (.int .i64 Z)∧w'=w:=by
 have HC:=hidd hc
 have HZ:=hidd hZ
 clear hc hZ
 go_enter Tryz.func201,Tryz.ntmps201
 go_wp2_with fail
 go_loopw [8] (fun v8 wr=>∃ k:Nat,k≤3∧v8=.int .i64 (k:Int)∧Hid (∀ j,j < k→G j=0)∧wr=w) (fun v8 _=>3 - (intOf v8).toNat)
 case atStart=>exact ⟨0,by omega,rfl,hidd (fun j hj=>by omega),rfl⟩
 case round =>
  obtain ⟨k,hk,rfl,hz,rfl⟩:=hrel
  by_cases h3:k < 3
  · have h3':(k:Int) < 3:=by omega
    have hx:=HC.out k h3
    by_cases hn:G k=0
    · have hz2:Hid (∀ j,j < k+1→G j=0):=hidd fun j hj=>by
       by_cases e:j=k
       · rw [e];exact hn
       · exact hz.out j (by omega)
      rw [hn] at hx
      clear hz hn
      go_wp2_with fail
      go_roundw
      case rel=>exact ⟨k+1,by omega,by go_num,hz2,trivial⟩
      case measure=>simp [intOf];omega
    · have hn2:(G k == 0)=false:=by simpa using hn
      have e:=(orG_at h3 hz.out hn).symm.trans HZ.out
      rw [e] at hx hn2
      clear hz e hn
      go_wp2
      go_ret
      exact ⟨rfl,rfl⟩
  · have h3':decide ((k:Int) < 3)=false:=df (by omega)
    have e:=hidd ((orG_none fun j hj=>hz.out j (by omega)).symm.trans HZ.out)
    clear hz h3
    go_wp2
    go_ret
    exact ⟨by rw [← e.out];rfl,rfl⟩
theorem cmpS_or (x y:Int):orG (fun i=>if i=0 then cmpI (sp0 x) (sp0 y) else if i=1 then cmpI (sp1 x) (sp1 y) else cmpI (sp2 x) (sp2 y))=cmpS x y:=rfl
def threeG (p q r:Int) (i:Nat):Int:=if i=0 then p else if i=1 then q else r
theorem c_or3 (g c:Nat) (p q r Z:Int) (hZ:orG (threeG p q r)=Z) (w:World) (h0:w.cell? ⟨g,0,none⟩=some (.int .i64 p)) (h1:w.cell? ⟨g,1,none⟩=some (.int .i64 q)) (h2:w.cell? ⟨g,2,none⟩=some (.int .i64 r)) :
 Calls Tryz.prog 201 #[.slice (some ⟨g,0,none⟩) 3 c] w fun e w'=>e=.returned (.int .i64 Z)∧w'=w :=
 c_or g c _ Z hZ w fun i hi=>by
  obtain rfl | rfl | rfl:i=0∨i=1∨i=2:=by omega
  · exact h0
  · exact h1
  · exact h2
theorem keepSixQ {w0 a b:World} {p0 p1 p2 p3 p4 p5:Addr} {v0 v1 v2 v3 v4 v5:Value} (hb:Below a.heap.size a b) (h:a.cell? p0=some v0∧a.cell? p1=some v1∧a.cell? p2=some v2∧a.cell? p3=some v3∧a.cell? p4=some v4∧a.cell? p5=some v5∧Below w0.heap.size w0 a) :
 b.cell? p0=some v0∧b.cell? p1=some v1∧b.cell? p2=some v2∧b.cell? p3=some v3∧b.cell? p4=some v4∧b.cell? p5=some v5∧Below w0.heap.size w0 b :=
 ⟨keepCell hb h.1,keepCell hb h.2.1,keepCell hb h.2.2.1,keepCell hb h.2.2.2.1,keepCell hb h.2.2.2.2.1,keepCell hb h.2.2.2.2.2.1,belowT h.2.2.2.2.2.2 hb⟩
end Go.Proofs.YtdklpgphmoaniaaGreatDoor
