/-
  An append to a row of the call's own, for a call that has more than one: the row behind it lies where it lay, or in a new block; so the other rows stay. No condition beyond those written.
-/
import Derived.Test.YtdklpgphmoaniabGreatDoorJn05
import Derived.Laws.AppendOwnNone
namespace Go.Proofs.YtdklpgphmoaniabGreatDoor
open Go.RowKit
theorem append_place {P:Program} (w:World) (base:Nat) (t ty e:TypeId) (i:TypeInfo) (z:Value) (size bytes:Nat) (ht:P.underlying t=some (.slice e)) (hi:P.info? e=some i) (hz:i.zero=some z)
 (hsize:i.size=size) (hby:i.bytes=bytes) (hzs:z.cells.size=size) (hsz:0 < size) (v:Value) (n:Nat) (xs:List Value) (hown:w.ownsRow base e size v n xs)
 (a:Addr) (m c:Nat) (hm:0 < m) (news:List Value) (hl:news.length=m*size) (hnews:∀ j u,news[j]?=some u→w.cell? (a.add j)=some u) (h1:∀ u∈news,u.oneCell'=true)
 (h63:n+m≤maxLen) (hbytes:(n+m)*bytes≤140737488355328) (hbase:base≤w.heap.size) :
 ∃ v' w',(Builtin.append_ #[t,t] ty #[v,.slice (some a) m c]).run P w=.ok v' w'∧w'.ownsRow base e size v' (n+m) (xs++news)∧w.grownBy w' v.ownBlock∧(v'.ownBlock=v.ownBlock∨v'.ownBlock=some w.heap.size):=by
 obtain ⟨v',w',hr,h2,h3,-⟩:=run_append_own (P:=P) w base t ty e i z size bytes ht hi hz hsize hby hzs hsz v n xs hown a m c news hl hnews h1 h63 hbytes hbase
 refine ⟨v',w',hr,h2,h3,?_⟩
 have hk:n+m≤9223372036854775807:=by simp only [maxLen] at h63;omega
 subst hsize hby
 have key:∀ {x:Value} {y:World},(Builtin.append_ #[t,t] ty #[v,.slice (some a) m c]).run P w=.ok x y→v'=x:=fun h=>by
  rw [hr] at h
  injection h
 rcases hown.2 with ⟨rfl,rfl⟩ | ⟨g,cap,cur,rfl,hbg,hg,hnc,hcm,hcs,htake⟩
 · have hb:m*i.bytes≤281474976710656:=by have h:=hbytes;rw [Nat.zero_add] at h;omega
   rw [key (run_append_nil (P:=P) w t ty e i z ht hi hz a m c news hl hnews hm (by omega) hb)]
   exact .inr rfl
 · by_cases hroom:n+m≤cap
   · have hfit:n*i.size+news.length≤cur.size:=by rw [hl,hcs,← Nat.add_mul];exact Nat.mul_le_mul_right _ hroom
     rw [key (run_append_room (P:=P) w t ty e i ht hi g n cap cur hg a m c news hl hnews h1 hroom hfit)]
     exact .inl rfl
   · rw [key (run_append_grow (P:=P) w t ty e i z ht hi hz ⟨g,0,none⟩ n cap xs hown.1 (hown.cells (g:=g) rfl) a m c news hl hnews (by omega) (by omega) (growslice_fits (by omega) hbytes))]
     exact .inr rfl
theorem wpList_append_apart {P:Program} {w:World} {ops:Array Oper} {rest:List Oper} {o:Oper} {a:Act} {Q:Exit→Act→World→Prop} (hgd:o.guard=none) (s x:Operand) (t:TypeId)
 (ho:o.op=.call { callee:=.builtin .append,args:=#[s,x],argTypes:=#[t,t] })
 (base:Nat) (e:TypeId) (i:TypeInfo) (z:Value) (size bytes:Nat) (ht:P.underlying t=some (.slice e)) (hi:P.info? e=some i) (hz:i.zero=some z)
 (hsize:i.size=size) (hby:i.bytes=bytes) (hzs:z.cells.size=size) (hsz:0 < size)
 (v:Value) (n:Nat) (xs:List Value) (hs:a.eval s=v) (hown:w.ownsRow base e size v n xs)
 (ad:Addr) (m c:Nat) (hm:0 < m) (news:List Value) (hx:a.eval x=.slice (some ad) m c) (hl:news.length=m*size) (hnews:∀ j u,news[j]?=some u→w.cell? (ad.add j)=some u) (h1:∀ u∈news,u.oneCell'=true)
 (h63:n+m≤maxLen) (hbytes:(n+m)*bytes≤140737488355328) (hbase:base≤w.heap.size)
 (h:∀ v' w',w'.ownsRow base e size v' (n+m) (xs++news)→w.grownBy w' v.ownBlock→(v'.ownBlock=v.ownBlock∨v'.ownBlock=some w.heap.size)→wpList P ops Q rest (a.put o.dst v') w'):wpList P ops Q (o :: rest) a w:=by
 refine wpList_plain hgd fun K hK=>?_
 obtain ⟨v',w',hr,h2,h3,h4⟩:=append_place (P:=P) w base t o.type e i z size bytes ht hi hz hsize hby hzs hsz v n xs hown ad m c hm news hl hnews h1 h63 hbytes hbase
 unfold Oper.wp
 simp [execOp,ho,resolve,invoke,builtin,hs,hx,hr,Result.andThen]
 exact hK _ _ (h v' w' h2 h3 h4)
def Addressed (s:Value):Prop:=s=.slice none 0 0∨∃ a m c,s=.slice (some a) m c
set_option maxRecDepth 20000 in
theorem append_lst {w:World} (base:Nat) (ty:TypeId) (v:Value) (n:Nat) (xs:List Value) (hown:w.ownsRow base 36 1 v n xs) (sA:Value) (A:List Int) (hA:Lst w sA A) (hs0:Addressed sA) (h63:n+A.length≤1000000) (hbase:base≤w.heap.size) :
 ∃ v' w',(Builtin.append_ #[26,26] ty #[v,sA]).run Tryz.prog w=.ok v' w'∧w'.ownsRow base 36 1 v' (n+A.length) (xs++vals A)∧w.grownBy w' v.ownBlock:=by
 obtain ⟨i0,hi,hz0,hz1,hz2⟩:=info_parts infoU64
 rcases hs0 with rfl | ⟨ad,m,c,rfl⟩
 · have h0:A=[]:=by
    obtain ⟨p,cap,e,h1,-⟩:=hA
    simp only [Value.slice.injEq] at e
    exact List.length_eq_zero_iff.1 (by omega)
   subst h0
   exact ⟨v,w,run_append_owned_none (P:=Tryz.prog) w base 26 ty 36 i0 1 Tryz.underlying26 hi v n xs hown,by simpa [vals] using hown,⟨rfl,rfl,rfl,Nat.le_refl _,fun _ _ _=>rfl⟩⟩
 · obtain ⟨p,cap,e,h1,hc⟩:=hA
   simp only [Value.slice.injEq] at e
   obtain ⟨rfl,rfl,rfl⟩:=e
   obtain ⟨v',w',hr,h2,h3,-⟩:=run_append_own (P:=Tryz.prog) w base 26 ty 36 i0 (.int .u64 0) 1 8 Tryz.underlying26 hi hz0 hz1 hz2 rfl (by decide) v n xs hown ad A.length c (vals A) (by rw [vals_len];omega) (fun j u hj=>by
    have hj':j < A.length:=by rw [List.getElem?_eq_some_iff] at hj;rw [← vals_len];exact hj.1
    obtain ⟨g,o',e,hcj⟩:=hc j hj'
    simp only [Option.some.injEq] at e
    subst e
    rw [vals_at A j hj'] at hj
    rw [Go.WideShapes.add_plain,hcj,hj]) (vals_one A) (by unfold maxLen;omega) (by omega) hbase
   exact ⟨v',w',hr,h2,h3⟩
theorem wpList_append_lst {w:World} {ops:Array Oper} {rest:List Oper} {o:Oper} {a:Act} {Q:Exit→Act→World→Prop} (hw:Region.wanted o (yielded ops a.tmps)=true) (s x:Operand)
 (ho:o.op=.call { callee:=.builtin .append,args:=#[s,x],argTypes:=#[26,26] })
 (base:Nat) (v:Value) (n:Nat) (xs:List Value) (hs:a.eval s=v) (hown:w.ownsRow base 36 1 v n xs)
 (sA:Value) (A:List Int) (hx:a.eval x=sA) (hA:Lst w sA A) (hs0:Addressed sA) (h63:n+A.length≤1000000) (hbase:base≤w.heap.size)
 (h:∀ v' w',w'.ownsRow base 36 1 v' (n+A.length) (xs++vals A)→w.grownBy w' v.ownBlock→wpList Tryz.prog ops Q rest (a.put o.dst v') w'):wpList Tryz.prog ops Q (o :: rest) a w:=by
 refine BigFrame.wpList_want hw fun K hK=>?_
 obtain ⟨v',w',hr,h2,h3⟩:=append_lst base o.type v n xs hown sA A hA hs0 h63 hbase
 unfold Oper.wp
 simp [execOp,ho,resolve,invoke,builtin,hs,hx,hr,Result.andThen]
 exact hK _ _ (h v' w' h2 h3)
theorem own_fresh (w:World):(w.alloc (.cells #[] 36)).ownsRow w.heap.size 36 1 (.slice (some ⟨w.heap.size,0,none⟩) 0 0) 0 [] :=
 ⟨rfl,.inr ⟨w.heap.size,0,#[],rfl,Nat.le_refl _,by show (w.heap.push _)[w.heap.size]?=_;simp,Nat.le_refl _,by unfold maxLen;omega,rfl,rfl⟩⟩
end Go.Proofs.YtdklpgphmoaniabGreatDoor
