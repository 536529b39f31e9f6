/-
  What the texts VRows, KSpr, PackOne, PWords say, so far as this seat's proofs need it.
-/
import Derived.Test.YtbnlhdnnenahfaaGreatDoorKCmpY
namespace Go.Proofs.YtbnlhdnnenahfaaGreatDoor
open Go.RowKit
def Apart (a b:Value):Prop:=a.ownBlock=none∨b.ownBlock=none∨a.ownBlock≠b.ownBlock
theorem Apart.symm {a b:Value}(h:Apart a b):Apart b a:=by
 rcases h with h | h | h
 · exact .inr (.inl h)
 · exact .inl h
 · exact .inr (.inr fun e=>h e.symm)
theorem Apart.kept {a b:Value}(h:Apart a b):a.ownBlock=none∨a.ownBlock≠b.ownBlock:=by
 rcases h with h | h | h
 · exact .inl h
 · by_cases h2:a.ownBlock=none
   · exact .inl h2
   · exact .inr (by rw[h];exact h2)
 · exact .inr h
theorem nU {w:World}{B B' size size' n n':Nat}{e e':TypeId}{v v':Value}{xs xs':List Value}(h:w.ownsRow B e size v n xs)(h':w.ownsRow B' e' size' v' n' xs')(hne:e≠e'):Apart v v':=by
 rcases h.2 with⟨rfl,_⟩ | ⟨g,c,cur,rfl,_,hg,_⟩
 · exact .inl rfl
 · rcases h'.2 with⟨rfl,_⟩ | ⟨g',c',cur',rfl,_,hg',_⟩
   · exact .inr (.inl rfl)
   · refine .inr (.inr fun e1=>hne ?_);simp only[Value.ownBlock,Option.some.injEq]at e1;subst e1;rw[hg]at hg'
     injection hg' with h1
     injection h1
theorem sJ (L M:List Int):aj (L++M)=aj L++aj M:=by simp[aj]
theorem uh {C:Nat}{L:List Int}{r:Nat}(hL:∀x∈L,Whole x/\wR x=(r:Int))(hn:L.length<=20000){e:Ending}{w':World}(h:mc C L e w') :
 ∃(sl:Value) (P:List Int),e=.returned (.tuple #[sl,.int .i64 0])/\Packed r L P/\P.length<=L.length/\Lst w' sl P/\Addressed sl/\w'.ownsRow C 35 1 sl P.length (aj P):=by
 have h1:∀x∈L,Whole x:=fun x hx=>(hL x hx).1;rcases h with⟨h,_⟩ | ⟨_,h,_⟩ | ⟨_,_,h,_⟩ | ⟨_,_,_,sl,P,h2,h3,h4⟩
 · omega
 · exact absurd h1 h
 · exact absurd (fun x hx y hy=>by rw[(hL x hx).2,(hL y hy).2]) h
 · exact⟨sl,P,h2,h3 r fun x hx=>(hL x hx).2,h4⟩
theorem gg {w:World}{base n:Nat}{xs:List Value}{a a' b:Value}(hab:Apart a b)(hb:w.ownsRow base 35 1 b n xs)(e:a'.ownBlock=a.ownBlock∨a'.ownBlock=some w.heap.size):Apart a' b:=by
 rcases e with e | e
 · unfold Apart at hab ⊢;rw[e];exact hab
 · by_cases hn:b.ownBlock=none
   · exact .inr (.inl hn)
   · refine .inr (.inr fun e2=>?_);rw[e]at e2;have:=(Ih hb _ e2.symm).2;omega
theorem yn {w w':World}{base n m:Nat}{xs ys:List Value}{a b:Value}(ha:w.ownsRow base 35 1 a n xs)(hb:w'.ownsRow w.heap.size 35 1 b m ys):Apart a b:=by
 rcases ha.2 with⟨rfl,_⟩ | ⟨g,c,cur,rfl,_,hg,_⟩
 · exact .inl rfl
 · rcases hb.2 with⟨rfl,_⟩ | ⟨g',c',cur',rfl,hb',_⟩
   · exact .inr (.inl rfl)
   · refine .inr (.inr fun e=>?_);have e':g=g':=by simpa[Value.ownBlock]using e
     have:=(Array.getElem?_eq_some_iff.1 hg).1;omega
end Go.Proofs.YtbnlhdnnenahfaaGreatDoor
