/-
  What the texts PPoint, VRows, TTame say, so far as this seat's proofs need it.
-/
import Derived.Test.YtbnlhdnnenahfaaGreatDoorPO1M
namespace Go.Proofs.YtbnlhdnnenahfaaGreatDoor
open Go.RowKit
set_option maxHeartbeats 400000 in
theorem point_core (x0 y0 x y:Int) (hx:bits .and .i64 x0 1073741823=x) (hy:bits .and .i64 y0 1073741823=y) (w:World) :
 Calls Tryz.prog 43 #[.int .i64 x0,.int .i64 y0] w fun e w'=>e=.returned (.tuple #[.int .i64 x,.int .i64 y])∧Below w.heap.size w w':=by
 go_enter Tryz.func43,Tryz.ntmps43
 go_wp2
 go_ret2
 exact ⟨rfl,by go_grown⟩
def Apart (a b:Value):Prop:=a.ownBlock=none∨b.ownBlock=none∨a.ownBlock≠b.ownBlock
theorem Apart.symm {a b:Value} (h:Apart a b):Apart b a:=by
 rcases h with h | h | h
 · exact .inr (.inl h)
 · exact .inl h
 · exact .inr (.inr fun e=>h e.symm)
theorem Apart.kept {a b:Value} (h:Apart a b):a.ownBlock=none∨a.ownBlock≠b.ownBlock:=by
 rcases h with h | h | h
 · exact .inl h
 · by_cases h2:a.ownBlock=none
   · exact .inl h2
   · exact .inr (by rw [h];exact h2)
 · exact .inr h
theorem own_unlike {w:World} {B B' size size' n n':Nat} {e e':TypeId} {v v':Value} {xs xs':List Value} (h:w.ownsRow B e size v n xs) (h':w.ownsRow B' e' size' v' n' xs') (hne:e≠e'):Apart v v':=by
 rcases h.2 with ⟨rfl,_⟩ | ⟨g,c,cur,rfl,_,hg,_⟩
 · exact .inl rfl
 · rcases h'.2 with ⟨rfl,_⟩ | ⟨g',c',cur',rfl,_,hg',_⟩
   · exact .inr (.inl rfl)
   · refine .inr (.inr fun e1=>hne ?_)
     simp only [Value.ownBlock,Option.some.injEq] at e1
     subst e1
     rw [hg] at hg'
     injection hg' with h1
     injection h1
theorem flat_snoc (a b:Int):∀ L:List (Int × Int),flatG (L++[(a,b)])=flatG L++[.int .i64 a,.int .i64 b]
 | []=>rfl
 | p :: L=>by show _ :: _ :: flatG (L++[(a,b)])=_;rw [flat_snoc a b L];rfl
theorem infoP:(Tryz.prog.info? 26).map (fun i=>(i.zero,i.size,i.bytes))=some (some (.agg #[.int .i64 0,.int .i64 0]),2,16):=by kernel_rfl
theorem infoR:(Tryz.prog.info? 27).map (fun i=>(i.zero,i.size,i.bytes))=some (some (.slice none 0 0),1,24):=by kernel_rfl
def RowsP (w:World) (base:Nat) (v:Value) (G:List (List (Int × Int))) (S:List Value):Prop :=
 S.length=G.length∧w.ownsRow base 27 1 v G.length S∧∀ (j:Nat) (hj:j < S.length) (hG:j < G.length),w.ownsRow base 26 2 S[j] G[j].length (flatG G[j])
theorem RowsP.nil' (w:World) (base:Nat):RowsP w base (.slice none 0 0) [] []:=⟨rfl,World.ownsRow_nil _ _ _ _,fun _ hj=>absurd hj (Nat.not_lt_zero _)⟩
theorem RowsP.keep {w w':World} {base:Nat} {v:Value} {G:List (List (Int × Int))} {S:List Value} (h:RowsP w base v G S) (hb:Below w.heap.size w w'):RowsP w' base v G S :=
 ⟨h.1,own_keep hb h.2.1,fun j hj hG=>own_keep hb (h.2.2 j hj hG)⟩
theorem pairs_unlike:(26:TypeId)≠27:=by decide
theorem RowsP.push {w w':World} {base:Nat} {v v' x:Value} {G:List (List (Int × Int))} {S:List Value} {g:List (Int × Int)} (h:RowsP w base v G S) (hx:w.ownsRow base 26 2 x g.length (flatG g))
 (ho:w'.ownsRow base 27 1 v' (G.length+1) (S++[x])) (hg:w.grownBy w' v.ownBlock):RowsP w' base v' (G++[g]) (S++[x]):=by
 refine ⟨by simp [h.1],by rw [List.length_append];exact ho,fun j hj hG=>?_⟩
 have kx:=hx.kept hg (own_unlike hx h.2.1 pairs_unlike).kept
 by_cases hj2:j < S.length
 · have hj3:j < G.length:=by rw [← h.1];exact hj2
   have:=h.2.2 j hj2 hj3
   have k:=this.kept hg (own_unlike this h.2.1 pairs_unlike).kept
   simpa [List.getElem_append_left,hj2,hj3] using k
 · have e:j=S.length:=by simp at hj;omega
   subst e
   have e2:S.length=G.length:=h.1
   simpa [e2] using kx
theorem two_lie9 (w:World) (x y:Int) (e:TypeId):∀ j u,([.int .i64 x,.int .i64 y]:List Value)[j]?=some u→(w.alloc (.cells #[.int .i64 x,.int .i64 y] e)).cell? ((⟨w.heap.size,0,none⟩:Addr).add j)=some u:=by
 intro j u hj
 match j,hj with
 | 0,hj=>simp at hj;subst hj;go_simp
 | 1,hj=>simp at hj;subst hj;go_simp
theorem two_one9 (x y:Int):∀ u∈([.int .i64 x,.int .i64 y]:List Value),u.oneCell'=true:=by
 intro u hu
 simp at hu
 rcases hu with rfl | rfl <;>rfl
theorem mask_num (x z:Int) (hz:0 < z):∃ U u:Int,bits .and .i64 x 4294967295=U∧0≤U∧U < 4294967296∧U%z=u∧U.tmod z=u∧0≤u∧u < z:=by
 have h:=i64_mask x 32 (by omega)
 rw [show (((2^32 - 1:Nat)):Int)=4294967295 by decide,show (((2^32:Nat)):Int)=4294967296 by decide] at h
 rw [h]
 refine ⟨_,_,rfl,by omega,by omega,rfl,Int.tmod_eq_emod_of_nonneg (by omega),Int.emod_nonneg _ (by omega),Int.emod_lt_of_pos _ hz⟩
end Go.Proofs.YtbnlhdnnenahfaaGreatDoor
