/-
  What the texts PPoint, PolyMath, CovSize, FillMath, VRows, TTame, PLit say, so far as this seat's proofs need it.
-/
import Derived.Test.YtbnlhdnnenahfaaGreatDoorPO1M
import Derived.Test.YtbnlhdnnenahfaaGreatDoorCV2M
namespace Go.Proofs.YtbnlhdnnenahfaaGreatDoor
open Go.RowKit
set_option maxHeartbeats 400000 in
theorem point_core (x0 y0 x y:Int) (hx:bits .and .i64 x0 1073741823=x) (hy:bits .and .i64 y0 1073741823=y) (w:World) :
 Calls Tryz.prog 43 #[.int .i64 x0,.int .i64 y0] w fun e w'=>e=.returned (.tuple #[.int .i64 x,.int .i64 y])∧Below w.heap.size w w':=by
 go_enter Tryz.func43,Tryz.ntmps43
 go_wp2
 go_ret2
 exact ⟨rfl,by go_grown⟩
end Go.Proofs.YtbnlhdnnenahfaaGreatDoor
namespace Go.Proofs.YtbnlhdnnenahfaaGreatDoor
theorem sumN_nonneg {h:Nat→Int}:∀ {n:Nat},(∀ i,i < n→0≤h i)→0≤sumN h n
 | 0,_=>Int.le_refl 0
 | n+1,e=>by
  have h1:=sumN_nonneg (n:=n) fun i hi=>e i (by omega)
  have h2:=e n (by omega)
  show 0≤sumN h n+h n
  omega
theorem cyc_nonneg {f:Int × Int→Int × Int→Int} (h:∀ p q,0≤f p q) (L:List (Int × Int)):0≤cyc f L:=sumN_nonneg fun _ _=>h _ _
theorem onN_nonneg (L:List (Int × Int)) (x y:Int):0≤onN L x y:=cyc_nonneg (fun _ _=>(bi_box _).1) L
theorem crN_nonneg (L:List (Int × Int)) (x y:Int):0≤crN L x y:=cyc_nonneg (fun _ _=>(bi_box _).1) L
theorem len_two {A B L:List Int} (hA:Rising A) (hB:Rising B) (hL:Rising L) (h:∀ x,x∈L↔x∈A∨x∈B) (hd:∀ x∈A,x ∉ B):A.length+B.length=L.length:=by
 have n1:(A++B).Nodup:=List.nodup_append.2 ⟨rising_nodup hA,rising_nodup hB,fun x hx y hy e=>hd x hx (by rw [e];exact hy)⟩
 have a1:=nodup_len n1 fun x hx=>(h x).2 (List.mem_append.1 hx)
 have a2:=nodup_len (rising_nodup hL) fun x hx=>List.mem_append.2 ((h x).1 hx)
 rw [List.length_append] at a1 a2
 omega
theorem sz_wide:∀ i:Fin 5,(decide (28*szK i.val*(max (fXp i.val) (-fXp i.val)+max (fXq i.val) (-fXq i.val))≤84*dvK i.val) && decide (28*szK i.val*(max (fYp i.val) (-fYp i.val)+max (fYq i.val) (-fYq i.val))≤84*dvK i.val) && decide (28*szK i.val*(max (fZp i.val) (-fZp i.val)+max (fZq i.val) (-fZq i.val))≤84*dvK i.val) && decide (0≤szK i.val))=true:=by decide +kernel
theorem wide_steps {K:Nat} (hK:K≤4) {l1 l2 u1 u2 a b sa sb:Int} (hx:u1 - l1≤28*szK K) (hy:u2 - l2≤28*szK K) (hs:HexAt (dvK K) (nuA K l1 l2) (nuB K l1 l2) sa sb) (h:Tou K l1 l2 u1 u2 a b):stp (a - sa) (b - sb)≤58:=by
 obtain ⟨x,y,hx',hy',hn⟩:=tou_near (by omega) h
 obtain ⟨p,q,hpq⟩:=nearest_some (d:=dvK K) (dvK_box (by omega)).1 (nuA K x y) (nuB K x y)
 have h1:=hn p q hpq.1
 have hf:=sz_wide ⟨K,by omega⟩
 simp only [Bool.and_eq_true,decide_eq_true_eq] at hf
 have h2:=apart_steps (K:=K) (by omega) hs hpq.1 (W:=28*szK K) (F:=84) (by omega) (by omega) hf.1.1.1 hf.1.1.2 hf.1.2 (by omega)
 have h3:=stp_sub a b p q sa sb
 rw [stp_back a b p q] at h3
 omega
theorem wide_few {K r:Nat} (hK:K≤4) {l1 l2 u1 u2:Int} (hx:u1 - l1≤28*szK K) (hy:u2 - l2≤28*szK K):¬ Many K l1 l2 u1 u2 r 20000:=fun ⟨L,h1,h2,h3⟩=>by
 obtain ⟨sa,sb,hs⟩:=nearest_some (d:=dvK K) (dvK_box (by omega)).1 (nuA K l1 l2) (nuB K l1 l2)
 have:=few_near (N:=58) (sa:=sa) (sb:=sb) (cells_nodup h1 h2) fun p hp=>by
  obtain ⟨z,hz,rfl⟩:=List.mem_map.1 hp
  exact wide_steps hK hx hy hs.1 (h2 z hz).2.2
 rw [List.length_map] at this
 omega
end Go.Proofs.YtbnlhdnnenahfaaGreatDoor
namespace Go.Proofs.YtbnlhdnnenahfaaGreatDoor
open Go.RowKit
def Apart (a b:Value):Prop:=a.ownBlock=none∨b.ownBlock=none∨a.ownBlock≠b.ownBlock
theorem Apart.symm {a b:Value} (h:Apart a b):Apart b a:=by
 rcases h with h | h | h
 · exact .inr (.inl h)
 · exact .inl h
 · exact .inr (.inr fun e=>h e.symm)
theorem Apart.kept {a b:Value} (h:Apart a b):a.ownBlock=none∨a.ownBlock≠b.ownBlock:=by
 rcases h with h | h | h
 · exact .inl h
 · by_cases h2:a.ownBlock=none
   · exact .inl h2
   · exact .inr (by rw [h];exact h2)
 · exact .inr h
theorem own_unlike {w:World} {B B' size size' n n':Nat} {e e':TypeId} {v v':Value} {xs xs':List Value} (h:w.ownsRow B e size v n xs) (h':w.ownsRow B' e' size' v' n' xs') (hne:e≠e'):Apart v v':=by
 rcases h.2 with ⟨rfl,_⟩ | ⟨g,c,cur,rfl,_,hg,_⟩
 · exact .inl rfl
 · rcases h'.2 with ⟨rfl,_⟩ | ⟨g',c',cur',rfl,_,hg',_⟩
   · exact .inr (.inl rfl)
   · refine .inr (.inr fun e1=>hne ?_)
     simp only [Value.ownBlock,Option.some.injEq] at e1
     subst e1
     rw [hg] at hg'
     injection hg' with h1
     injection h1
theorem flat_snoc (a b:Int):∀ L:List (Int × Int),flatG (L++[(a,b)])=flatG L++[.int .i64 a,.int .i64 b]
 | []=>rfl
 | p :: L=>by show _ :: _ :: flatG (L++[(a,b)])=_;rw [flat_snoc a b L];rfl
theorem ring_own {w:World} {base n:Nat} {v:Value} {L:List (Int × Int)} (h:w.ownsRow base 26 2 v n (flatG L)) (hn:L.length=n):RingL w v L:=by
 rcases h.2 with ⟨rfl,h0⟩ | ⟨g,cap,cur,rfl,hb,hg,hnc,_⟩
 · exact ⟨none,0,by rw [hn,h0],by omega,fun j hj=>by omega⟩
 · refine ⟨_,cap,by rw [hn],by omega,fun j hj=>⟨g,0,rfl,?_,?_⟩⟩
   · rw [Nat.zero_add,h.cellAt (j*2) (by omega),(flatG_at L j hj).1]
   · rw [Nat.zero_add,h.cellAt (j*2+1) (by omega),(flatG_at L j hj).2]
theorem infoP:(Tryz.prog.info? 26).map (fun i=>(i.zero,i.size,i.bytes))=some (some (.agg #[.int .i64 0,.int .i64 0]),2,16):=by kernel_rfl
theorem infoR:(Tryz.prog.info? 27).map (fun i=>(i.zero,i.size,i.bytes))=some (some (.slice none 0 0),1,24):=by kernel_rfl
def RowsP (w:World) (base:Nat) (v:Value) (G:List (List (Int × Int))) (S:List Value):Prop :=
 S.length=G.length∧w.ownsRow base 27 1 v G.length S∧∀ (j:Nat) (hj:j < S.length) (hG:j < G.length),w.ownsRow base 26 2 S[j] G[j].length (flatG G[j])
theorem RowsP.nil' (w:World) (base:Nat):RowsP w base (.slice none 0 0) [] []:=⟨rfl,World.ownsRow_nil _ _ _ _,fun _ hj=>absurd hj (Nat.not_lt_zero _)⟩
theorem RowsP.keep {w w':World} {base:Nat} {v:Value} {G:List (List (Int × Int))} {S:List Value} (h:RowsP w base v G S) (hb:Below w.heap.size w w'):RowsP w' base v G S :=
 ⟨h.1,own_keep hb h.2.1,fun j hj hG=>own_keep hb (h.2.2 j hj hG)⟩
theorem pairs_unlike:(26:TypeId)≠27:=by decide
theorem RowsP.push {w w':World} {base:Nat} {v v' x:Value} {G:List (List (Int × Int))} {S:List Value} {g:List (Int × Int)} (h:RowsP w base v G S) (hx:w.ownsRow base 26 2 x g.length (flatG g))
 (ho:w'.ownsRow base 27 1 v' (G.length+1) (S++[x])) (hg:w.grownBy w' v.ownBlock):RowsP w' base v' (G++[g]) (S++[x]):=by
 refine ⟨by simp [h.1],by rw [List.length_append];exact ho,fun j hj hG=>?_⟩
 have kx:=hx.kept hg (own_unlike hx h.2.1 pairs_unlike).kept
 by_cases hj2:j < S.length
 · have hj3:j < G.length:=by rw [← h.1];exact hj2
   have:=h.2.2 j hj2 hj3
   have k:=this.kept hg (own_unlike this h.2.1 pairs_unlike).kept
   simpa [List.getElem_append_left,hj2,hj3] using k
 · have e:j=S.length:=by simp at hj;omega
   subst e
   have e2:S.length=G.length:=h.1
   simpa [e2] using kx
theorem RowsP.rings {w:World} {base:Nat} {v:Value} {G:List (List (Int × Int))} {S:List Value} (h:RowsP w base v G S):RingsL w v G:=by
 obtain ⟨h1,h2,h3⟩:=h
 rcases h2.2 with ⟨rfl,h0⟩ | ⟨g,cap,cur,rfl,_,_,hnc,_⟩
 · exact ⟨none,0,by rw [h0],by omega,fun j hj=>by omega⟩
 · refine ⟨_,cap,rfl,hnc,fun j hj=>?_⟩
   have hj2:j < S.length:=by omega
   refine ⟨g,0,S[j],rfl,?_,ring_own (h3 j hj2 hj) rfl⟩
   rw [Nat.zero_add,h2.cellAt j (by omega),List.getElem?_eq_getElem hj2]
theorem two_lie9 (w:World) (x y:Int) (e:TypeId):∀ j u,([.int .i64 x,.int .i64 y]:List Value)[j]?=some u→(w.alloc (.cells #[.int .i64 x,.int .i64 y] e)).cell? ((⟨w.heap.size,0,none⟩:Addr).add j)=some u:=by
 intro j u hj
 match j,hj with
 | 0,hj=>simp at hj;subst hj;go_simp
 | 1,hj=>simp at hj;subst hj;go_simp
theorem two_one9 (x y:Int):∀ u∈([.int .i64 x,.int .i64 y]:List Value),u.oneCell'=true:=by
 intro u hu
 simp at hu
 rcases hu with rfl | rfl <;>rfl
theorem mask_num (x z:Int) (hz:0 < z):∃ U u:Int,bits .and .i64 x 4294967295=U∧0≤U∧U < 4294967296∧U%z=u∧U.tmod z=u∧0≤u∧u < z:=by
 have h:=i64_mask x 32 (by omega)
 rw [show (((2^32 - 1:Nat)):Int)=4294967295 by decide,show (((2^32:Nat)):Int)=4294967296 by decide] at h
 rw [h]
 refine ⟨_,_,rfl,by omega,by omega,rfl,Int.tmod_eq_emod_of_nonneg (by omega),Int.emod_nonneg _ (by omega),Int.emod_lt_of_pos _ hz⟩
theorem lit_rings2 (w:World) (L M:List (Int × Int)) (s t:Value) (e:TypeId) (h:RingL w s L) (k:RingL w t M):RingsL (w.alloc (.cells #[s,t] e)) (.slice (some ⟨w.heap.size,0,none⟩) 2 2) [L,M] :=
 lit_rings w [L,M] [s,t] e rfl fun j hj _=>by
  have:j=0∨j=1:=by simp at hj;omega
  rcases this with rfl | rfl
  · exact h
  · exact k
end Go.Proofs.YtbnlhdnnenahfaaGreatDoor
