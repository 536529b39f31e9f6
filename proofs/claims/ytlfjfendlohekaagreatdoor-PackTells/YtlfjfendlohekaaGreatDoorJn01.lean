/-
  What the texts URow, ULst say, so far as this seat's proofs need it.
-/
import Derived.Test.YtlfjfendlohekaaGreatDoorPC
import Derived.Deep.RegionHeld3
import Derived.Deep.CutRange
import Derived.Laws.CopyOwn
import Derived.Sort.Row
namespace Go.Proofs.YtlfjfendlohekaaGreatDoor
open Go.RowKit
theorem infoU64:(Tryz.prog.info? 30).map (fun i=>(i.zero,i.size,i.bytes))=some (some (.int .u64 0),1,8):=by kernel_rfl
theorem one_lies (w:World) (B:Nat) (h:w.heap.size=B) (x:Value) (e:TypeId):∀ j u,([x]:List Value)[j]?=some u→(w.alloc (.cells #[x] e)).cell? ((⟨B,0,none⟩:Addr).add j)=some u:=by
 subst h
 intro j u hj
 match j,hj with
 | 0,hj=>simp at hj;subst hj;simp [Addr.add]
theorem one_int (k:IntKind) (x:Int):∀ u∈([.int k x]:List Value),u.oneCell'=true:=by
 intro u hu;simp at hu;subst hu;rfl
def vals (L:List Int):List Value:=L.map (Value.int .u64)
theorem vals_len (L:List Int):(vals L).length=L.length:=by simp [vals]
theorem vals_at (L:List Int) (j:Nat) (h:j < L.length):(vals L)[j]?=some (.int .u64 L[j]):=by simp [vals,h]
theorem own_slice {w:World} {base:Nat} {e:TypeId} {size:Nat} {v:Value} {n:Nat} {xs:List Value} (h:w.ownsRow base e size v n xs):∃ p c,v=.slice p n c∧(p=none∧n=0∨∃ g,p=some ⟨g,0,none⟩):=by
 rcases h.2 with ⟨rfl,rfl⟩ | ⟨g,c,cur,rfl,_⟩
 · exact ⟨none,0,rfl,.inl ⟨rfl,rfl⟩⟩
 · exact ⟨_,c,rfl,.inr ⟨g,rfl⟩⟩
theorem hidd {p:Prop} (h:p):Hid p:=h
theorem own_some {p:Option Addr} {m:Nat} (h:p=none∧m=0∨∃ g,p=some ⟨g,0,none⟩) (hm:0 < m):∃ g,p=some ⟨g,0,none⟩:=by
 rcases h with ⟨_,h⟩ | h
 · omega
 · exact h
theorem set_row {cur:List Value} {L:List Int} {m lo:Nat} (hL:L.length=m) (hlo:lo≤m) (htake:cur.take (m+1)=vals L++[.int .u64 0]) (x:Int) :
 ((splice cur (lo+1) ((vals L).drop lo)).take (m+1)).set lo (.int .u64 x)=vals (L.take lo++(x :: L.drop lo)):=by
 have h1:cur.take (lo+1)=(vals L).take lo++[(vals L++[Value.int .u64 0])[lo]'(by simp [vals_len];omega)]:=by
  rw [show cur.take (lo+1)=(vals L++[Value.int .u64 0]).take (lo+1) by rw [← htake,List.take_take,Nat.min_eq_left (by omega)]]
  rw [List.take_succ_eq_append_getElem (by simp [vals_len];omega),List.take_append_of_le_length (by rw [vals_len];omega)]
 unfold splice
 rw [h1,← List.append_assoc]
 generalize (vals L++[Value.int .u64 0])[lo]'_=z
 have hl1:((vals L).take lo).length=lo:=by rw [List.length_take,vals_len];omega
 rw [List.take_left' (by simp [vals_len];omega),List.append_assoc,List.set_append_right _ _ (by omega),hl1,Nat.sub_self]
 simp [vals,List.map_take,List.map_drop]
theorem vals_one (L:List Int):∀ v∈vals L,v.oneCell'=true:=by
 intro v hv
 obtain ⟨y,_,rfl⟩:=List.mem_map.1 hv
 rfl
theorem own_mono {w:World} {base base':Nat} {e:TypeId} {size:Nat} {v:Value} {n:Nat} {xs:List Value} (h:w.ownsRow base e size v n xs) (hb:base'≤base):w.ownsRow base' e size v n xs :=
 ⟨h.1,h.2.imp id fun ⟨g,c,cur,e1,e2,r⟩=>⟨g,c,cur,e1,Nat.le_trans hb e2,r⟩⟩
theorem own_lies {w:World} {base g c m:Nat} {e:TypeId} {xs:List Value} (h:w.ownsRow base e 1 (.slice (some ⟨g,0,none⟩) m c) m xs):∀ j u,xs[j]?=some u→w.cell? ((⟨g,0,none⟩:Addr).add j)=some u:=by
 intro j u hj
 have hl:j < m:=by rw [List.getElem?_eq_some_iff] at hj;have:=hj.1;rw [h.1] at this;omega
 rw [show (⟨g,0,none⟩:Addr).add j=⟨g,j,none⟩ by simp [Addr.add] <;>(intro h;omega),h.cellAt j (by omega),hj]
theorem own_nil {w:World} {base:Nat}:w.ownsRow base 30 1 (.slice none 0 0) 0 (vals []):=World.ownsRow_nil _ _ _ _
theorem own_lt {w:World} {base:Nat} {e:TypeId} {size:Nat} {v:Value} {n:Nat} {xs:List Value} (h:w.ownsRow base e size v n xs):∀ k,v.ownBlock=some k→base≤k∧k < w.heap.size:=h.lt
def Lies (w:World) (v:Value) (n:Nat) (L:List Int):Prop:=L.length=n∧(n=0∨∃ g cap,v=.slice (some ⟨g,0,none⟩) n cap∧∀ (j:Nat) (hj:j < L.length),w.cell? ⟨g,j,none⟩=some (.int .u64 L[j]))
theorem own_cells {w:World} {base g c m:Nat} {L:List Int} (h:w.ownsRow base 30 1 (.slice (some ⟨g,0,none⟩) m c) m (vals L)):L.length=m∧(∀ (j:Nat) (hj:j < L.length),w.cell? ⟨g,j,none⟩=some (.int .u64 L[j]))∧base≤g∧g < w.heap.size:=by
 have hl:L.length=m:=by have:=h.1;rw [vals_len] at this;omega
 have hb:=h.lt g rfl
 refine ⟨hl,fun j hj=>?_,hb.1,hb.2⟩
 rw [h.cellAt j (by omega),vals_at L j hj]
theorem own_holds {w:World} {base g c m:Nat} {L:List Int} (h:w.ownsRow base 30 1 (.slice (some ⟨g,0,none⟩) m c) m (vals L)):Sort.Holds (Value.int .u64) w g 0 L.toArray:=fun j hj=>by
 have hj':j < L.length:=by simpa using hj
 have hc:=own_cells h
 rw [Nat.zero_add,hc.2.1 j hj',h.frozenAt j]
 simp [hj']
def Lst (w:World) (s:Value) (L:List Int):Prop :=
 ∃ p cap,s=.slice p L.length cap∧L.length≤cap∧∀ (j:Nat) (hj:j < L.length),∃ g o,p=some ⟨g,o,none⟩∧w.cell? ⟨g,o+j,none⟩=some (.int .u64 L[j])
theorem Lst.keep {w w':World} {s:Value} {L:List Int} (h:Lst w s L) (hb:Below w.heap.size w w'):Lst w' s L:=by
 obtain ⟨p,cap,h1,h2,h3⟩:=h
 refine ⟨p,cap,h1,h2,fun j hj=>?_⟩
 obtain ⟨g,o,e,hc⟩:=h3 j hj
 exact ⟨g,o,e,keepCell hb hc⟩
theorem Lst.row {w:World} {g o cap:Nat} {L:List Int} (hc:L.length≤cap) (h:∀ (j:Nat) (hj:j < L.length),w.cell? ⟨g,o+j,none⟩=some (.int .u64 L[j])):Lst w (.slice (some ⟨g,o,none⟩) L.length cap) L :=
 ⟨_,cap,rfl,hc,fun j hj=>⟨g,o,rfl,h j hj⟩⟩
theorem Lst.none' (w:World) (p:Option Addr) (cap:Nat):Lst w (.slice p 0 cap) []:=⟨p,cap,rfl,Nat.zero_le _,fun _ hj=>absurd hj (Nat.not_lt_zero _)⟩
theorem Lst.own {w:World} {base n:Nat} {v:Value} {L:List Int} (h:w.ownsRow base 30 1 v n (vals L)):Lst w v L:=by
 have hl:L.length=n:=by have:=h.1;rw [vals_len] at this;omega
 subst hl
 rcases h.2 with ⟨rfl,h0⟩ | ⟨g,c,cur,rfl,_⟩
 · have:L=[]:=List.length_eq_zero_iff.1 h0
   subst this
   exact Lst.none' w none 0
 · have hc:=own_cells h
   refine Lst.row ?_ fun j hj=>by rw [Nat.zero_add];exact hc.2.1 j hj
   rcases h.2 with ⟨h1,_⟩ | ⟨g2,c2,cur2,h1,_,_,h4,_⟩
   · cases h1
   · simp only [Value.slice.injEq,Option.some.injEq,Addr.mk.injEq,and_true,true_and] at h1
     rw [h1.2];exact h4
set_option maxHeartbeats 2000000 in
theorem index_any (s:Value) (L:List Int) (x:Int) (hn:L.length≤50000) (w:World) (hl:Lst w s L) :
 Calls Tryz.prog 84 #[s,.int .u64 x] w fun e w'=>(∃ k:Int,e=.returned (.int .i64 k)∧(0≤k↔x∈L))∧w'=w:=by
 obtain ⟨p,cap,rfl,-,hc⟩:=hl
 obtain ⟨n,en⟩:∃ n,L.length=n:=⟨_,rfl⟩
 have HC:=hidd hc
 have EN:=hidd en
 rw [en] at hn ⊢
 clear hc en
 go_enter Tryz.func84,Tryz.ntmps84
 go_wp2_with fail
 go_loopw [8] (fun v8 wr=>∃ i:Nat,i≤n∧v8=.int .i64 (i:Int)∧wr=w∧Hid (∀ (j:Nat) (hj:j < L.length),j < i→L[j]≠x)) (fun v8 _=>n - (intOf v8).toNat)
 case atStart=>exact ⟨0,by omega,rfl,rfl,hidd fun j _ h=>absurd h (Nat.not_lt_zero _)⟩
 case round =>
  obtain ⟨i,hi,rfl,rfl,hI⟩:=hrel
  by_cases hlt:i < n
  · have hiL:i < L.length:=by rw [EN.out];exact hlt
    obtain ⟨g,o,rfl,x1⟩:=HC.out i hiL
    by_cases hx:L[i]=x
    · have hm:Hid (x∈L):=hidd (hx ▸ List.getElem_mem hiL)
      rw [hx] at x1
      clear HC EN hI
      go_wp2_with fail
      go_ret
      exact ⟨⟨(i:Int),rfl,⟨fun _=>hm.out,fun _=>by omega⟩⟩,rfl⟩
    · have hne:(x == L[i])=false:=by simpa using fun e=>hx e.symm
      have hI2:Hid (∀ (j:Nat) (hj:j < L.length),j < i+1→L[j]≠x):=hidd fun j hj h=>by
       rcases Nat.lt_or_ge j i with k | k
       · exact hI.out j hj k
       · obtain rfl:j=i:=by omega
         exact hx
      generalize L[i]'_=y at *
      clear HC EN hI hx
      go_wp2_with fail
      go_roundw
      case rel=>exact ⟨i+1,by omega,by go_num,by trivial,hI2⟩
      case measure=>simp [intOf];omega
  · obtain rfl:i=n:=by omega
    have hno:Hid (x ∉ L):=hidd fun hm=>by
     obtain ⟨j,hj,e⟩:=List.mem_iff_getElem.1 hm
     exact hI.out j hj (by rw [← EN.out];exact hj) e
    clear HC EN hI
    go_wp2_with fail
    go_ret
    exact ⟨⟨-1,by trivial,⟨fun h=>by omega,fun h=>absurd h hno.out⟩⟩,by trivial⟩
set_option maxHeartbeats 1000000 in
theorem contains_any (s:Value) (L:List Int) (x:Int) (hn:L.length≤50000) (w:World) (hl:Lst w s L) :
 Calls Tryz.prog 59 #[s,.int .u64 x] w fun e w'=>e=.returned (.bool (decide (x∈L)))∧w'=w:=by
 have IX:=hidd (index_any s L x hn w hl)
 clear hl
 go_enter Tryz.func59,Tryz.ntmps59
 go_wp2_with fail
 refine IX.out.mono ?_
 rintro e w1 ⟨⟨k,rfl,hk⟩,rfl⟩
 have hd:Hid (decide (0≤k)=decide (x∈L)):=hidd (decide_eq_decide.2 hk)
 clear hk IX
 go_wp2_with fail
 go_ret
 exact ⟨by rw [← hd.out];rfl,rfl⟩
set_option maxHeartbeats 1000000 in
theorem chas (s:Value) (L:List Int) (x:Int) (hn:L.length≤50000) (w:World) (hl:Lst w s L) :
 Calls Tryz.prog 33 #[s,.int .u64 x] w fun e w'=>e=.returned (.bool (decide (x∈L)))∧w'=w:=by
 have IX:=hidd (contains_any s L x hn w hl)
 clear hl
 go_enter Tryz.func33,Tryz.ntmps33
 go_wp2_with fail
 refine IX.out.mono ?_
 rintro e w1 ⟨rfl,rfl⟩
 go_wp2_with fail
 go_ret
 exact ⟨rfl,rfl⟩
end Go.Proofs.YtlfjfendlohekaaGreatDoor
