/-
  The numbers of the cells about a point, as package cover lists them; rows of numbers of the lattice; in whatever memory where the table of Units holds what its text lays.
-/
import Derived.Test.YtdklpgphmoaniaaGreatDoorRBox10
import Derived.Test.YtdklpgphmoaniaaGreatDoorJn31
namespace Go.Proofs.YtdklpgphmoaniaaGreatDoor
open Go.RowKit
def pairV (L:List (Int × Int)):List Value:=L.flatMap fun p=>[.int .i64 p.1,.int .i64 p.2]
theorem pairV_cons (p:Int × Int) (L:List (Int × Int)):pairV (p :: L)=.int .i64 p.1 :: .int .i64 p.2 :: pairV L:=rfl
theorem pairV_app (L M:List (Int × Int)):pairV (L++M)=pairV L++pairV M:=by unfold pairV;rw [List.flatMap_append]
theorem pairV_one (p:Int × Int):pairV [p]=[.int .i64 p.1,.int .i64 p.2]:=by unfold pairV;simp
theorem pairV_len:∀ L:List (Int × Int),(pairV L).length=L.length*2
 | []=>rfl
 | p :: L=>by rw [pairV_cons];simp only [List.length_cons,pairV_len L];omega
theorem pairV_at:∀ (L:List (Int × Int)) (i:Nat) (h:i < L.length),(pairV L)[i*2]?=some (.int .i64 L[i].1)∧(pairV L)[i*2+1]?=some (.int .i64 L[i].2)
 | p :: L,0,_=>by rw [pairV_cons];exact ⟨rfl,rfl⟩
 | p :: L,i+1,h=>by
  rw [pairV_cons,show (i+1)*2=i*2+1+1 by omega]
  have:=pairV_at L i (by simpa using h)
  simp only [List.getElem?_cons_succ,List.getElem_cons_succ]
  exact this
def RowE (base:Nat) (v:Value) (L:List (Int × Int)) (w:World):Prop:=w.ownsRow base 23 2 v L.length (pairV L)
theorem RowE.keep {base:Nat} {v:Value} {L:List (Int × Int)} {w w':World} (h:RowE base v L w) (hb:Below w.heap.size w w'):RowE base v L w':=own_keep hb h
theorem RowE.any {base:Nat} {v:Value} {L:List (Int × Int)} {w:World} (h:RowE base v L w):∃ p c,v=.slice p L.length c:=own_any h
theorem RowE.at_ {base:Nat} {v:Value} {L:List (Int × Int)} {w:World} (h:RowE base v L w) (i:Nat) (hi:i < L.length) :
 ∃ g c,v=.slice (some ⟨g,0,none⟩) L.length c∧base≤g∧w.cell? ⟨g,i*2,none⟩=some (.int .i64 L[i].1)∧w.cell? ⟨g,i*2+1,none⟩=some (.int .i64 L[i].2):=by
 obtain ⟨g,c,e,hb,-⟩:=World.ownsRow.form h (by omega)
 have hO:w.ownsRow base 23 2 (.slice (some ⟨g,0,none⟩) L.length c) L.length (pairV L):=by rw [← e];exact h
 have f:=pairV_at L i hi
 exact ⟨g,c,e,hb,(World.ownsRow.cellAt hO _ (by omega)).trans f.1,(World.ownsRow.cellAt hO _ (by omega)).trans f.2⟩
theorem RowE.grown {base:Nat} {v:Value} {L:List (Int × Int)} {w w':World} {r:Option Nat} (h:RowE base v L w) (hg:w.grownBy w' r) (hr:v.ownBlock≠r):RowE base v L w':=World.ownsRow.kept h hg (.inr hr)
theorem infoEQ:(Tryz.prog.info? 23).map (fun i=>(i.zero,i.size,i.bytes))=some (some (.agg #[.int .i64 0,.int .i64 0]),2,16):=by kernel_rfl
theorem pair_lie (w:World) (x y:Int) (e:TypeId):∀ j u,([.int .i64 x,.int .i64 y]:List Value)[j]?=some u→(w.alloc (.cells #[.int .i64 x,.int .i64 y] e)).cell? ((⟨w.heap.size,0,none⟩:Addr).add j)=some u:=by
 intro j u hj
 match j,hj with
 | 0,hj=>simp at hj;subst hj;simp [Addr.add]
 | 1,hj=>simp at hj;subst hj;simp [Addr.add]
theorem pair_one (x y:Int):∀ u∈([.int .i64 x,.int .i64 y]:List Value),u.oneCell'=true:=by
 intro u hu
 simp at hu
 rcases hu with rfl | rfl <;>rfl
def arL (p q:Int) (j:Nat):List (Int × Int):=(p,q) :: (List.range j).map fun i=>(p+uA i,q+uB i)
theorem arL_len (p q:Int) (j:Nat):(arL p q j).length=j+1:=by simp [arL]
theorem arL_step (p q:Int) (j:Nat):arL p q (j+1)=arL p q j++[(p+uA j,q+uB j)]:=by
 unfold arL
 rw [List.range_succ,List.map_append]
 rfl
theorem arL_around {K:Nat} (hK:K≤12) {x y p q a b:Int} (hn:Nearest (dvK K) (nuA K x y) (nuB K x y) p q) (h:Tou K x y x y a b):(a,b)∈arL p q 6:=by
 unfold arL
 rcases point_around hK hn h with ⟨rfl,rfl⟩ | ⟨i,hi,rfl,rfl⟩
 · exact List.mem_cons_self ..
 · exact List.mem_cons_of_mem _ (List.mem_map.2 ⟨i,List.mem_range.2 hi,rfl⟩)
set_option maxHeartbeats 8000000 in
set_option maxRecDepth 100000 in
theorem q_around (x y r p q:Int) (K:Nat) (hK:K≤12) (hr:12 - r=(K:Int)) (hw:InW x y) (hn:Nearest (dvK K) (nuA K x y) (nuB K x y) p q) (w:World) (hU:Uni w) :
 Calls Tryz.prog 69 #[.agg #[.int .i64 x,.int .i64 y],.int .i64 r] w fun e w'=>(∃ v,e=.returned v∧RowE w.heap.size v (arL p q 6) w')∧Below w.heap.size w w':=by
 have hp:=near_tame hK hw hn
 have NE:=hidd fun w=>pnear_at x y r K hK hr hw p q hn w
 have NB:=hidd fun (j:Nat) (hj:j < 6) w hU=>q_neigh p q j hj (by omega) (by omega) w hU
 have HU:=hidd hU
 clear hU hn hw hr
 obtain ⟨i0,hi,hz0,hz1,hz2⟩:=info_partsQ infoEQ
 go_enter Tryz.func69,Tryz.ntmps69
 go_wp2_with fail
 refine (NE.out _).mono ?_
 rintro e w1 ⟨rfl,b1⟩
 have B1:=hidd (belowT (allocB w (.cells #[.int .i64 x,.int .i64 y] 38)) b1)
 clear NE b1
 go_wp2_with fail
 have al1:=allocB w1 (.cells #[.int .i64 p,.int .i64 q] 23)
 have al2:=allocB (w1.alloc (.cells #[.int .i64 p,.int .i64 q] 23)) (.cells #[.int .i64 p,.int .i64 q] 23)
 have z0:((w1.alloc (.cells #[.int .i64 p,.int .i64 q] 23)).alloc (.cells #[.int .i64 p,.int .i64 q] 23)).cell? ⟨w1.heap.size,0,none⟩=some (.int .i64 p):=by go_simp
 have z1:((w1.alloc (.cells #[.int .i64 p,.int .i64 q] 23)).alloc (.cells #[.int .i64 p,.int .i64 q] 23)).cell? ⟨w1.heap.size,1,none⟩=some (.int .i64 q):=by go_simp
 have B2:=hidd (belowT (belowT B1.out al1) al2)
 have hs1:=B1.out.size
 have O2:RowE (w1.heap.size+1) (.slice (some ⟨w1.heap.size+1,0,none⟩) 1 1) (arL p q 0) ((w1.alloc (.cells #[.int .i64 p,.int .i64 q] 23)).alloc (.cells #[.int .i64 p,.int .i64 q] 23)):=by
  have:=World.ownsRow_lit (base:=w1.heap.size+1) (e:=23) (size:=2) (w1.alloc (.cells #[.int .i64 p,.int .i64 q] 23)) #[.int .i64 p,.int .i64 q] 1 (by simp) (by decide) rfl
  simpa [RowE,arL,pairV] using this
 have O2:=hidd O2
 clear al1 al2 B1
 generalize (w1.alloc (.cells #[.int .i64 p,.int .i64 q] 23)).alloc (.cells #[.int .i64 p,.int .i64 q] 23)=w2 at *
 go_loopw [7,20] (fun v7 v20 wr=>∃ j:Nat,j≤6∧v20=.int .i64 (j:Int)∧Hid (RowE (w1.heap.size+1) v7 (arL p q j) wr)∧(wr.cell? ⟨w1.heap.size,0,none⟩=some (.int .i64 p)∧wr.cell? ⟨w1.heap.size,1,none⟩=some (.int .i64 q))∧Hid (Below w.heap.size w wr)) (fun _ v20 _=>6 - (intOf v20).toNat)
 case atStart=>exact ⟨0,by omega,rfl,O2,⟨z0,z1⟩,B2⟩
 case round =>
  clear z0 z1 O2 B2
  obtain ⟨j,hj,rfl,OW,⟨z0,z1⟩,B⟩:=hrel
  obtain ⟨vp,vc,rfl⟩:=OW.out.any
  have hl:=arL_len p q j
  rw [hl]
  by_cases hj6:j < 6
  · have hj6':(j:Int) < 6:=by omega
    have N1:=hidd (NB.out j hj6 wr (HU.out.below B.out))
    have ST:=hidd (arL_step p q j)
    generalize p+uA j=a at *
    generalize q+uB j=b at *
    go_wp2_with fail
    refine N1.out.mono ?_
    rintro e w3 ⟨rfl,b3⟩
    replace z0:=keepCell b3 z0
    replace z1:=keepCell b3 z1
    replace OW:=hidd (OW.out.keep b3)
    replace B:=hidd (belowT B.out b3)
    have hs3:=B.out.size
    have lz:=World.block_lt_of_cell? _ _ z0
    simp only at lz
    have al:=allocB w3 (.cells #[.int .i64 a,.int .i64 b] 23)
    have O3:Hid (w3.ownsRow (w1.heap.size+1) 23 2 (.slice vp (j+1) vc) (j+1) (pairV (arL p q j))):=hidd (by have:=OW.out;unfold RowE at this;rw [hl] at this;exact this)
    clear N1 b3 OW
    go_wp2_with (at_builtin;refine wpList_append_lies _ rfl (.tmp 23) (.tmp 27) 76 rfl (w1.heap.size+1) 23 i0 (.agg #[.int .i64 0,.int .i64 0]) 2 16 Tryz.underlying76 hi hz0 hz1 hz2 rfl (by decide) (.slice vp (j+1) vc) _ _ rfl (own_keep (allocB _ _) O3.out) ⟨w3.heap.size,0,none⟩ 1 1 [.int .i64 a,.int .i64 b] rfl rfl (pair_lie _ _ _ _) (pair_one _ _) (by decide) (by unfold maxLen;omega) (by omega) (by simp;omega) (w3.heap.size+1) (by simp) ?_;intro g6 q6 w6 hown hgrow hat hlt6)
    have R6:Hid (RowE (w1.heap.size+1) (.slice (some ⟨g6,0,none⟩) (j+1+1) q6) (arL p q (j+1)) w6):=hidd (by
     unfold RowE
     rw [arL_len,ST.out,pairV_app,pairV_one]
     exact hown)
    have hne:∀ k,(Value.slice vp (j+1) vc).ownBlock=some k→w1.heap.size+1≤k:=fun k e=>(World.ownsRow.lt O3.out k e).1
    have nz:some w1.heap.size≠(Value.slice vp (j+1) vc).ownBlock:=fun e=>by have:=hne _ e.symm;omega
    replace z0:=hgrow.cell (a:=⟨w1.heap.size,0,none⟩) (keepCell al z0) nz
    replace z1:=hgrow.cell (a:=⟨w1.heap.size,1,none⟩) (keepCell al z1) nz
    have B6:=hidd ((belowT B.out al).grown hgrow (by simp;omega) (fun k e=>by have:=hne k e;omega))
    clear hown hgrow hat al B O3 hne nz
    go_roundw
    case rel=>exact ⟨j+1,by omega,by go_num,R6,⟨z0,z1⟩,B6⟩
    case measure=>simp [intOf];omega
  · obtain rfl:j=6:=by omega
    have hj6':decide (((6:Nat):Int) < 6)=false:=by decide
    go_wp2
    go_ret
    exact ⟨⟨_,rfl,by have:=own_mono OW.out (show w.heap.size≤w1.heap.size+1 by omega);rw [hl] at this;exact this⟩,B.out⟩
end Go.Proofs.YtdklpgphmoaniaaGreatDoor
namespace Go.Proofs.YtdklpgphmoaniaaGreatDoor
open Go.RowKit Go
def LowT (B:Nat):Prop:=(2 < B∧0 < B)∧1 < B
theorem Cov3.low {B:Nat} {w w':World} (h:Cov3 w) (hl:LowT B) (hb:Below B w w'):Cov3 w' :=
 ⟨Tabs.low h.1 hl.1.1 hl.1.2 hb,var?_below hb gWays hl.2 h.2⟩
theorem Cov3.lt {w:World} (h:Cov3 w):LowT w.heap.size :=
 ⟨Tabs.lt h.1,World.block_lt_of_cell? _ _ (show w.cell? ⟨1,0,none⟩=some (.int .i64 1) from (h.2.cell 0).trans rfl)⟩
structure FromI (S X FB k:Nat) (l1 l2 u1 u2 r d:Int) (vo:Value) (O:List Nat) (w:World) (F:List (Int × Int)) (H:List Int) (v fv:Value) (W:World):Prop where
 hat:HatQ W (X+1) S 7 v H
 heap:Hp H.length H.toArray
 swm:SweepM S l1 l2 u1 u2 r d vo W
 onw:W.ownsRow (S+1) 3 1 vo O.length (natV O)
 ptr:W.cell? ⟨X,0,none⟩=some (.pointer (some ⟨S,0,none⟩))
 fnd:W.cell? ⟨FB,0,none⟩=some fv
 ffz:W.frozen? ⟨FB,0,none⟩=false
 row:RowE (k+2) fv F W
 cov:Cov3 W
 frm:ButQ S 7 none w W
 vsep:∀ z,v.ownBlock=some z→z≠FB∧z≠k∧z≠k+1∧fv.ownBlock≠some z
structure FromO (S X FB k:Nat) (vo:Value) (w:World):Prop where
 s:S < X
 x:w.heap.size=X
 fb:X < FB
 k:FB < k
 low:LowT S
 vo:∀ z,vo.ownBlock=some z→S < z∧z < X
theorem FromI.below {S X FB k:Nat} {l1 l2 u1 u2 r d:Int} {vo:Value} {O:List Nat} {w:World} {F:List (Int × Int)} {H:List Int} {v fv:Value} {W W':World} (h:FromI S X FB k l1 l2 u1 u2 r d vo O w F H v fv W) (hb:Below W.heap.size W W'):FromI S X FB k l1 l2 u1 u2 r d vo O w F H v fv W' :=
 ⟨h.hat.keep hb,h.heap,h.swm.keep hb,own_keep hb h.onw,keepCell hb h.ptr,keepCell hb h.fnd,keepFrozen hb h.fnd h.ffz,h.row.keep hb,h.cov.below hb,h.frm.trans (ButQ.of_below (r:=none) hb h.hat.lt) (.inl rfl),h.vsep⟩
theorem HatQ.grownR {w w':World} {base B o:Nat} {v:Value} {L:List Int} {r:Option Nat} (h:HatQ w base B o v L) (hg:w.grownBy w' r) (h1:some B≠r) (h2:v.ownBlock≠r):HatQ w' base B o v L :=
 ⟨hg.cell h.cell h1,by rw [World.frozen?_of_block (hg.block B h.lt h1)];exact h.frz,h.ne,World.ownsRow.kept h.own hg (.inr h2)⟩
theorem FromI.grown {S X FB k:Nat} {l1 l2 u1 u2 r d:Int} {vo:Value} {O:List Nat} {w:World} {F:List (Int × Int)} {H:List Int} {v fv:Value} {W W':World} (h:FromI S X FB k l1 l2 u1 u2 r d vo O w F H v fv W) (o:FromO S X FB k vo w) (hg:W.grownBy W' (some (k+1))):FromI S X FB k l1 l2 u1 u2 r d vo O w F H v fv W':=by
 obtain ⟨o1,o2,o3,o4,o5,o6⟩:=o
 have nv:v.ownBlock≠some (k+1):=fun e=>(h.vsep _ e).2.2.1 rfl
 have nf:fv.ownBlock≠some (k+1):=fun e=>by have:=(World.ownsRow.lt h.row _ e).1;omega
 refine ⟨h.hat.grownR hg (by simp;omega) nv,h.heap,h.swm.far hg (by simp;omega),World.ownsRow.kept h.onw hg (.inr fun e=>by have:=o6 _ e;omega),hg.cell h.ptr (by simp;omega),hg.cell h.fnd (by simp;omega),?_,h.row.grown hg nf,h.cov.low o5 ?_,h.frm.trans (ButQ.grown (r:=some (k+1)) hg h.hat.lt (by simp;omega)) (.inr fun z hz=>by have:=Option.some.inj hz;omega),h.vsep⟩
 · rw [World.frozen?_of_block (hg.block FB (World.block_lt_of_cell? _ _ h.fnd) (by simp;omega))];exact h.ffz
 · exact (Below.refl S W).grown hg (by have:=h.hat.lt;omega) (fun z hz=>by have:=Option.some.inj hz;omega)
theorem FromI.but {S X FB k:Nat} {l1 l2 u1 u2 r d:Int} {vo:Value} {O:List Nat} {w:World} {F:List (Int × Int)} {H H':List Int} {v v' fv:Value} {W W':World} (h:FromI S X FB k l1 l2 u1 u2 r d vo O w F H v fv W) (o:FromO S X FB k vo w) (hb:ButQ S 7 v.ownBlock W W') (hat':HatQ W' (X+1) S 7 v' H') (hp':Hp H'.length H'.toArray) (hv:∀ z,v'.ownBlock=some z→v.ownBlock=some z∨W.heap.size≤z) (hk:k+2≤W.heap.size):FromI S X FB k l1 l2 u1 u2 r d vo O w F H' v' fv W':=by
 obtain ⟨o1,o2,o3,o4,o5,o6⟩:=o
 have hvX:∀ z,v.ownBlock=some z→X+1≤z:=fun z e=>(World.ownsRow.lt h.hat.own z e).1
 have nX:v.ownBlock≠some X:=fun e=>by have:=hvX _ e;omega
 have nF:v.ownBlock≠some FB:=fun e=>(h.vsep _ e).1 rfl
 refine ⟨hat',hp',h.swm.but hb,hb.own h.onw (fun e=>by have:=o6 _ e;omega) (fun z e e'=>by have:=o6 _ e';have:=hvX _ e;omega),hb.cellK h.ptr (by simp;omega) nX,hb.cellK h.fnd (by simp;omega) nF,?_,hb.own h.row (fun e=>by have:=(World.ownsRow.lt h.row _ e).1;omega) (fun z e e'=>(h.vsep _ e).2.2.2 e'),h.cov.low o5 (hb.below (Nat.le_refl _) (fun z e=>by have:=hvX _ e;omega) (by have:=h.hat.lt;omega)),h.frm.trans hb (.inr fun z e=>by have:=hvX _ e;omega),fun z e=>?_⟩
 · rw [hb.frozK (p:=⟨FB,0,none⟩) (World.block_lt_of_cell? _ _ h.fnd) (by simp;omega) nF];exact h.ffz
 · rcases hv z e with e1 | e1
   · exact h.vsep z e1
   · have lF:=World.block_lt_of_cell? _ _ h.fnd
     simp only at lF
     exact ⟨by omega,by omega,by omega,fun e'=>by have:=(World.ownsRow.lt h.row _ e').2;omega⟩
theorem FromI.found {S X FB k:Nat} {l1 l2 u1 u2 r d:Int} {vo:Value} {O:List Nat} {w:World} {F F':List (Int × Int)} {H:List Int} {v fv fv':Value} {W W1:World} (h:FromI S X FB k l1 l2 u1 u2 r d vo O w F H v fv W) (o:FromO S X FB k vo w) (hg:W.grownBy W1 fv.ownBlock) (hr:RowE (k+2) fv' F' W1) (hv:∀ z,fv'.ownBlock=some z→fv.ownBlock=some z∨W.heap.size≤z):FromI S X FB k l1 l2 u1 u2 r d vo O w F' H v fv' (W1.setCell ⟨FB,0,none⟩ fv'):=by
 obtain ⟨o1,o2,o3,o4,o5,o6⟩:=o
 have hfz:∀ z,fv.ownBlock=some z→k+2≤z:=fun z e=>(World.ownsRow.lt h.row z e).1
 have g2:=grown_set W1 FB 0 fv'
 have nS:some S≠fv.ownBlock:=fun e=>by have:=hfz _ e.symm;omega
 have nX:some X≠fv.ownBlock:=fun e=>by have:=hfz _ e.symm;omega
 have nF:some FB≠fv.ownBlock:=fun e=>by have:=hfz _ e.symm;omega
 have nv:v.ownBlock≠fv.ownBlock∨v.ownBlock=none:=by
  cases e:v.ownBlock with
  | none=>exact .inr rfl
  | some z=>exact .inl fun e'=>(h.vsep z e).2.2.2 e'.symm
 have nvF:v.ownBlock≠some FB:=fun e=>(h.vsep _ e).1 rfl
 have hsz:=h.hat.lt
 have HA:HatQ W1 (X+1) S 7 v H:=⟨hg.cell h.hat.cell nS,by rw [World.frozen?_of_block (hg.block S hsz nS)];exact h.hat.frz,h.hat.ne,World.ownsRow.kept h.hat.own hg (nv.elim .inr .inl)⟩
 have hBW:Below S W W1:=(Below.refl S W).grown hg (by omega) (fun z e=>by have:=hfz z e;omega)
 have hB2:Below S W1 (W1.setCell ⟨FB,0,none⟩ fv'):=(Below.refl S W1).setCell (by simp;omega) _
 refine ⟨HA.grownR g2 (by simp;omega) nvF,h.heap,(h.swm.far hg nS).far g2 (by simp;omega),World.ownsRow.kept (World.ownsRow.kept h.onw hg ?_) g2 (.inr fun e=>by have:=o6 _ e;omega),store_keep (hg.cell h.ptr nX) (by simp;try omega),store_new (hg.cell h.fnd nF),?_,hr.grown g2 ?_,h.cov.low o5 (hBW.trans hB2),?_,fun z e=>⟨(h.vsep z e).1,(h.vsep z e).2.1,(h.vsep z e).2.2.1,fun e'=>?_⟩⟩
 · cases e:vo.ownBlock with
   | none=>exact .inl rfl
   | some z=>exact .inr fun e'=>by have:=o6 _ e;have:=hfz _ e'.symm;omega
 · rw [World.frozen?_setCell,World.frozen?_of_block (hg.block FB (World.block_lt_of_cell? _ _ h.fnd) nF)];exact h.ffz
 · intro e
   have:=(World.ownsRow.lt hr _ e).1
   omega
 · have hSW1:S < W1.heap.size:=Nat.lt_of_lt_of_le hsz hg.size
   exact (h.frm.trans (ButQ.grown (r:=fv.ownBlock) hg hsz (fun e=>nS e.symm)) (.inr fun z e=>by have:=hfz z e;omega)).trans (ButQ.grown (r:=some FB) g2 hSW1 (by simp;omega)) (.inr fun z e=>by have:=Option.some.inj e;omega)
 · rcases hv z e' with e1 | e1
   · exact (h.vsep z e).2.2.2 e1
   · have:=(World.ownsRow.lt h.hat.own z e).2
     omega
end Go.Proofs.YtdklpgphmoaniaaGreatDoor
namespace Go.Proofs.YtdklpgphmoaniaaGreatDoor
section
open Go.RowKit Go
variable {P:Program} {Q:Exit→Act→World→Prop} {md:Region.Mode} {S:World→Prop}
theorem take_atQ (i:Nat) {l rest:List Oper} {oi:Oper} {v:Value} {fuel:Nat} {listed:Array Bool} {a:Act} {w:World} (hd:l.drop i=oi :: rest)
 (hs:Region.noSelect l.toArray=true) (hf:Region.free md l.toArray listed i=true) (hr:(Region.ready md l.toArray listed).contains i=true)
 (hQ:∀ c a w,Q (.panic c) (a.put oi.dst v) w→Q (.panic c) a w) (hy:YieldsIf P l.toArray S oi v a) (hS:S w)
 (h:wpAnyH P md l.toArray Q S fuel (listed.setIfInBounds i true) (a.put oi.dst v) w):wpAnyH P md l.toArray Q S (fuel+1) listed a w:=by
 have e:l.toArray[i]?=some oi:=by
  rw [List.getElem?_toArray,← List.head?_drop,hd]
  rfl
 exact wpAnyH_take e hs hf hr hQ hy hS h
theorem ready_atQ {i:Nat} {l rest:List Oper} {o:Oper} {fuel:Nat} {listed:Array Bool} {a:Act} {w:World} (hd:l.drop i=o :: rest)
 (h:∀ K':Act→World→Prop,Shut (∀ a w,S w→(S w→wpAnyH P md l.toArray Q S fuel (listed.setIfInBounds i true) a w)→K' a w)→if Region.wanted o (yielded l.toArray a.tmps)=true then Oper.wp P o a w K' Q else K' (a.put o.dst undef) w) :
 AllReadyH P md l.toArray Q S fuel listed a w [i]:=by
 have e:l.toArray[i]?=some o:=by
  rw [List.getElem?_toArray,← List.head?_drop,hd]
  rfl
 exact AllReadyH.cons e h AllReadyH.nil
def noDefer (ops:Array Oper):Bool:=ops.toList.all fun o=>match o.op with
 | .defer _=>false
 | _=>true
theorem noDefer_at {ops:Array Oper} (h:noDefer ops=true) {i:Nat} {o:Oper} (ho:ops[i]?=some o) (c:Call):o.op≠.defer c:=fun e=>by
 have hm:o∈ops.toList:=by
  rw [← Array.getElem?_toList] at ho
  exact List.mem_of_getElem? ho
 have:=List.all_eq_true.1 h o hm
 rw [e] at this
 cases this
theorem operIn_of {l n:Nat} {o:Oper} {a:Act} {w:World} {K:Act→World→Prop} (hd:∀ c,o.op≠.defer c) (h:Oper.wp P o a w K Q):Oper.wpIn (Fence.wide.inRound l) n P o a w K Q:=by
 refine ⟨fun _ _=>trivial,?_⟩
 rw [Oper.semAt_eq _ _ _ hd]
 unfold Oper.wp at h
 generalize (execOp a.eval o).run P w=r at *
 cases r with
 | ok x w' =>
  cases x with
  | value v=>exact h
  | skip=>exact h
  | defer d=>exact h
  | enter f args=>exact ⟨fun e=>by simp [Fence.wide,Fence.inRound] at e,CallsIn.inRound l (callsIn_wide.2 h)⟩
  | row row args =>
   refine ⟨fun e=>by simp [Fence.wide,Fence.inRound] at e,fun c cs _=>?_⟩
   obtain ⟨v,w'',h1,h2⟩:=h c cs
   exact ⟨v,w'',h1,stepsIn_wide.2 h2⟩
  | _=>exact h.elim
 | halt x w'=>cases x <;>exact h
theorem wpOpIn_of {ops:Array Oper} {l n i:Nat} {a:Act} {w:World} {K:Act→World→Prop} (hd:noDefer ops=true) (hL:¬ LetsOut Q) (h:wpOp P ops Q i K a w):wpOpIn (Fence.wide.inRound l) n P ops Q i K a w:=by
 unfold wpOp at h
 unfold wpOpIn
 cases ho:ops[i]? with
 | none=>rw [ho] at h;exact h
 | some o =>
  rw [ho] at h
  dsimp only at h ⊢
  split
  · rename_i hw
    rw [if_pos hw] at h
    rcases h with h | h
    · exact operIn_of (noDefer_at hd ho) h
    · exact absurd h.2 hL
  · rename_i hw
    rw [if_neg hw] at h
    exact ⟨fun _ _=>trivial,h⟩
theorem wpAnyIn_of_held {ops:Array Oper} {l n:Nat} (hd:noDefer ops=true) (hL:¬ LetsOut Q):∀ (fuel:Nat) (listed:Array Bool) (a:Act) (w:World),wpAnyH P md ops Q S fuel listed a w→wpAnyIn (Fence.wide.inRound l) n P md ops Q fuel listed a w
 | 0,_,_,_,h=>h
 | fuel+1,_,_,_,h=>⟨h.1,fun i hi=>wpOpIn_of hd hL (wpOp_mono (fun a' w' h'=>wpAnyIn_of_held hd hL fuel _ a' w' h'.2) (h.2 i hi))⟩
theorem region_round_held {id l n:Nat} {ops:Array Oper} {a:Act} {w:World} (hm:P.follows .mixedOrders=true) (hd:noDefer ops=true) (hL:¬ LetsOut Q) (hS:S w.drew)
 (h:S w.drew→wpAnyH P .any ops Q S ops.size (Array.replicate ops.size false) a w.drew):(Code.region id ops true).wpIn (Fence.wide.inRound l) n P Q a w :=
 wpIn_region_any hm (wpAnyIn_of_held hd hL _ _ _ _ (h hS))
theorem wpListIn_append_liesQ {F:Fence} {nF:Nat} (w:World) {ops:Array Oper} {rest:List Oper} {o:Oper} {a:Act} (hgd:o.guard=none) (s x:Operand) (t:TypeId)
 (ho:o.op=.call { callee:=.builtin .append,args:=#[s,x],argTypes:=#[t,t] })
 (base:Nat) (e:TypeId) (i:TypeInfo) (z:Value) (size bytes:Nat) (ht:P.underlying t=some (.slice e)) (hi:P.info? e=some i) (hz:i.zero=some z)
 (hsize:i.size=size) (hby:i.bytes=bytes) (hzs:z.cells.size=size) (hsz:0 < size)
 (v:Value) (n:Nat) (xs:List Value) (hs:a.eval s=v) (hown:w.ownsRow base e size v n xs)
 (ad:Addr) (m c:Nat) (news:List Value) (hx:a.eval x=.slice (some ad) m c) (hl:news.length=m*size) (hnews:∀ j u,news[j]?=some u→w.cell? (ad.add j)=some u) (h1:∀ u∈news,u.oneCell'=true)
 (hm:0 < m) (h63:n+m≤maxLen) (hbytes:(n+m)*bytes≤140737488355328) (hbase:base≤w.heap.size) (H:Nat) (hH:w.heap.size=H)
 (h:∀ g cap w',w'.ownsRow base e size (.slice (some ⟨g,0,none⟩) (n+m) cap) (n+m) (xs++news)→w.grownBy w' v.ownBlock→(v.ownBlock=some g∨g=H)→g < w'.heap.size→wpListIn F nF P ops Q rest (a.put o.dst (.slice (some ⟨g,0,none⟩) (n+m) cap)) w') :
 wpListIn F nF P ops Q (o :: rest) a w:=by
 refine wpListIn_plain hgd fun K hK=>?_
 obtain ⟨g,cap,w',hr,h2,h3,h4,h5⟩:=run_append_lies (P:=P) w t o.type base e i z size bytes ht hi hz hsize hby hzs hsz v n xs hown ad m c news hl hnews h1 hm h63 hbytes hbase H hH
 unfold Oper.wpIn
 refine ⟨by simp [Oper.about,ho,resolve,Target.leads,Sem.run_pure],?_⟩
 rw [Oper.semAt_plain F _ _ (by rw [ho];intro c hc';cases hc')]
 simp [execOp,ho,resolve,invoke,builtin,hs,hx,hr,Result.andThen]
 exact hK _ _ (h g cap w' h2 h3 h4 h5)
end
end Go.Proofs.YtdklpgphmoaniaaGreatDoor
