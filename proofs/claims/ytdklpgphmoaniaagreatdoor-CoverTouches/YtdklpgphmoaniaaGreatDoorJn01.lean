/-
  What the texts URow, ULst say, so far as this seat's proofs need it.
-/
import Derived.Test.YtdklpgphmoaniaaGreatDoorPX
import Derived.Deep.RegionHeld3
import Derived.Deep.CutRange
import Derived.Laws.CopyOwn
import Derived.Sort.Walk13a
import Derived.Sort.LotA
import Derived.Sort.LotB
import Derived.CellFam
namespace Go.Proofs.YtdklpgphmoaniaaGreatDoor
open Go.RowKit
theorem infoU64:(Tryz.prog.info? 31).map (fun i=>(i.zero,i.size,i.bytes))=some (some (.int .u64 0),1,8):=by kernel_rfl
theorem one_lies (w:World) (B:Nat) (h:w.heap.size=B) (x:Value) (e:TypeId):∀ j u,([x]:List Value)[j]?=some u→(w.alloc (.cells #[x] e)).cell? ((⟨B,0,none⟩:Addr).add j)=some u:=by
 subst h
 intro j u hj
 match j,hj with
 | 0,hj=>simp at hj;subst hj;simp [Addr.add]
theorem one_int (k:IntKind) (x:Int):∀ u∈([.int k x]:List Value),u.oneCell'=true:=by
 intro u hu;simp at hu;subst hu;rfl
def vals (L:List Int):List Value:=L.map (Value.int .u64)
theorem vals_len (L:List Int):(vals L).length=L.length:=by simp [vals]
theorem vals_at (L:List Int) (j:Nat) (h:j < L.length):(vals L)[j]?=some (.int .u64 L[j]):=by simp [vals,h]
theorem own_slice {w:World} {base:Nat} {e:TypeId} {size:Nat} {v:Value} {n:Nat} {xs:List Value} (h:w.ownsRow base e size v n xs):∃ p c,v=.slice p n c∧(p=none∧n=0∨∃ g,p=some ⟨g,0,none⟩):=by
 rcases h.2 with ⟨rfl,rfl⟩ | ⟨g,c,cur,rfl,_⟩
 · exact ⟨none,0,rfl,.inl ⟨rfl,rfl⟩⟩
 · exact ⟨_,c,rfl,.inr ⟨g,rfl⟩⟩
theorem hidd {p:Prop} (h:p):Hid p:=h
theorem own_some {p:Option Addr} {m:Nat} (h:p=none∧m=0∨∃ g,p=some ⟨g,0,none⟩) (hm:0 < m):∃ g,p=some ⟨g,0,none⟩:=by
 rcases h with ⟨_,h⟩ | h
 · omega
 · exact h
theorem set_row {cur:List Value} {L:List Int} {m lo:Nat} (hL:L.length=m) (hlo:lo≤m) (htake:cur.take (m+1)=vals L++[.int .u64 0]) (x:Int) :
 ((splice cur (lo+1) ((vals L).drop lo)).take (m+1)).set lo (.int .u64 x)=vals (L.take lo++(x :: L.drop lo)):=by
 have h1:cur.take (lo+1)=(vals L).take lo++[(vals L++[Value.int .u64 0])[lo]'(by simp [vals_len];omega)]:=by
  rw [show cur.take (lo+1)=(vals L++[Value.int .u64 0]).take (lo+1) by rw [← htake,List.take_take,Nat.min_eq_left (by omega)]]
  rw [List.take_succ_eq_append_getElem (by simp [vals_len];omega),List.take_append_of_le_length (by rw [vals_len];omega)]
 unfold splice
 rw [h1,← List.append_assoc]
 generalize (vals L++[Value.int .u64 0])[lo]'_=z
 have hl1:((vals L).take lo).length=lo:=by rw [List.length_take,vals_len];omega
 rw [List.take_left' (by simp [vals_len];omega),List.append_assoc,List.set_append_right _ _ (by omega),hl1,Nat.sub_self]
 simp [vals,List.map_take,List.map_drop]
theorem vals_one (L:List Int):∀ v∈vals L,v.oneCell'=true:=by
 intro v hv
 obtain ⟨y,_,rfl⟩:=List.mem_map.1 hv
 rfl
theorem own_mono {w:World} {base base':Nat} {e:TypeId} {size:Nat} {v:Value} {n:Nat} {xs:List Value} (h:w.ownsRow base e size v n xs) (hb:base'≤base):w.ownsRow base' e size v n xs :=
 ⟨h.1,h.2.imp id fun ⟨g,c,cur,e1,e2,r⟩=>⟨g,c,cur,e1,Nat.le_trans hb e2,r⟩⟩
theorem own_lies {w:World} {base g c m:Nat} {e:TypeId} {xs:List Value} (h:w.ownsRow base e 1 (.slice (some ⟨g,0,none⟩) m c) m xs):∀ j u,xs[j]?=some u→w.cell? ((⟨g,0,none⟩:Addr).add j)=some u:=by
 intro j u hj
 have hl:j < m:=by rw [List.getElem?_eq_some_iff] at hj;have:=hj.1;rw [h.1] at this;omega
 rw [show (⟨g,0,none⟩:Addr).add j=⟨g,j,none⟩ by simp [Addr.add] <;>(intro h;omega),h.cellAt j (by omega),hj]
theorem own_nil {w:World} {base:Nat}:w.ownsRow base 31 1 (.slice none 0 0) 0 (vals []):=World.ownsRow_nil _ _ _ _
theorem own_lt {w:World} {base:Nat} {e:TypeId} {size:Nat} {v:Value} {n:Nat} {xs:List Value} (h:w.ownsRow base e size v n xs):∀ k,v.ownBlock=some k→base≤k∧k < w.heap.size:=h.lt
def Lies (w:World) (v:Value) (n:Nat) (L:List Int):Prop:=L.length=n∧(n=0∨∃ g cap,v=.slice (some ⟨g,0,none⟩) n cap∧∀ (j:Nat) (hj:j < L.length),w.cell? ⟨g,j,none⟩=some (.int .u64 L[j]))
theorem own_cells {w:World} {base g c m:Nat} {L:List Int} (h:w.ownsRow base 31 1 (.slice (some ⟨g,0,none⟩) m c) m (vals L)):L.length=m∧(∀ (j:Nat) (hj:j < L.length),w.cell? ⟨g,j,none⟩=some (.int .u64 L[j]))∧base≤g∧g < w.heap.size:=by
 have hl:L.length=m:=by have:=h.1;rw [vals_len] at this;omega
 have hb:=h.lt g rfl
 refine ⟨hl,fun j hj=>?_,hb.1,hb.2⟩
 rw [h.cellAt j (by omega),vals_at L j hj]
theorem own_holds {w:World} {base g c m:Nat} {L:List Int} (h:w.ownsRow base 31 1 (.slice (some ⟨g,0,none⟩) m c) m (vals L)):Sort.Holds (Value.int .u64) w g 0 L.toArray:=fun j hj=>by
 have hj':j < L.length:=by simpa using hj
 have hc:=own_cells h
 rw [Nat.zero_add,hc.2.1 j hj',h.frozenAt j]
 simp [hj']
def Lst (w:World) (s:Value) (L:List Int):Prop :=
 ∃ p cap,s=.slice p L.length cap∧L.length≤cap∧∀ (j:Nat) (hj:j < L.length),∃ g o,p=some ⟨g,o,none⟩∧w.cell? ⟨g,o+j,none⟩=some (.int .u64 L[j])
theorem Lst.keep {w w':World} {s:Value} {L:List Int} (h:Lst w s L) (hb:Below w.heap.size w w'):Lst w' s L:=by
 obtain ⟨p,cap,h1,h2,h3⟩:=h
 refine ⟨p,cap,h1,h2,fun j hj=>?_⟩
 obtain ⟨g,o,e,hc⟩:=h3 j hj
 exact ⟨g,o,e,keepCell hb hc⟩
theorem Lst.row {w:World} {g o cap:Nat} {L:List Int} (hc:L.length≤cap) (h:∀ (j:Nat) (hj:j < L.length),w.cell? ⟨g,o+j,none⟩=some (.int .u64 L[j])):Lst w (.slice (some ⟨g,o,none⟩) L.length cap) L :=
 ⟨_,cap,rfl,hc,fun j hj=>⟨g,o,rfl,h j hj⟩⟩
theorem Lst.none' (w:World) (p:Option Addr) (cap:Nat):Lst w (.slice p 0 cap) []:=⟨p,cap,rfl,Nat.zero_le _,fun _ hj=>absurd hj (Nat.not_lt_zero _)⟩
theorem Lst.own {w:World} {base n:Nat} {v:Value} {L:List Int} (h:w.ownsRow base 31 1 v n (vals L)):Lst w v L:=by
 have hl:L.length=n:=by have:=h.1;rw [vals_len] at this;omega
 subst hl
 rcases h.2 with ⟨rfl,h0⟩ | ⟨g,c,cur,rfl,_⟩
 · have:L=[]:=List.length_eq_zero_iff.1 h0
   subst this
   exact Lst.none' w none 0
 · have hc:=own_cells h
   refine Lst.row ?_ fun j hj=>by rw [Nat.zero_add];exact hc.2.1 j hj
   rcases h.2 with ⟨h1,_⟩ | ⟨g2,c2,cur2,h1,_,_,h4,_⟩
   · cases h1
   · simp only [Value.slice.injEq,Option.some.injEq,Addr.mk.injEq,and_true,true_and] at h1
     rw [h1.2];exact h4
end Go.Proofs.YtdklpgphmoaniaaGreatDoor
namespace Go.Proofs.YtdklpgphmoaniaaGreatDoor
def St (w:World) (g off:Nat) (d0 d:Array Int) (w':World):Prop:=d.size=d0.size∧Sort.At (Value.int .u64) w g off d w'
section
variable {w w' w2:World} {g off:Nat} {d0 d d2:Array Int}
theorem St.refl (h:Sort.Holds (Value.int .u64) w g off d):St w g off d d w:=⟨rfl,Sort.At.refl h⟩
theorem St.hold (h0:Sort.Holds (Value.int .u64) w g off d0) (hg:g < w.heap.size) (h:St w g off d0 d w'):Sort.Holds (Value.int .u64) w' g off d∧g < w'.heap.size:=h.2.holds h0 h.1 hg
theorem St.fam (h0:Sort.Holds (Value.int .u64) w g off d0) (hg:g < w.heap.size) (h:St w g off d0 d w') :
 ∃ G:Nat→Int,(∀ t,G t=d[t]!)∧(∀ t,t < d0.size→w'.cell? ⟨g,off+t,none⟩=some (.int .u64 (G t)))∧∀ t,t < d0.size→w'.frozen? ⟨g,off+t,none⟩=false :=
 ⟨fun t=>d[t]!,fun _=>rfl,fun t ht=>((h.hold h0 hg).1 t (by rw [h.1];exact ht)).1,fun t ht=>((h.hold h0 hg).1 t (by rw [h.1];exact ht)).2⟩
theorem St.drawn (h:St w g off d0 d w') (q:Nat):St w g off d0 d (w'.drewN q):=⟨h.1,h.2.ahead q⟩
theorem St.trans (hg:g < w.heap.size) (h:St w g off d0 d w') (h2:St w' g off d d2 w2):St w g off d0 d2 w2:=by
 refine ⟨h2.1.trans h.1,?_⟩
 obtain ⟨n,os,e⟩:=h2.2
 exact h.2.stepG hg h2.1 ⟨n,os,e⟩
theorem St.swap (h0:Sort.Holds (Value.int .u64) w g off d0) (hg:g < w.heap.size) (h:St w g off d0 d w') {G:Nat→Int} (hG:∀ t,G t=d[t]!) {j k:Nat} (hj:j < d0.size) (hk:k < d0.size) (q:Nat) :
 St w g off d0 (Sort.swp d j k) (((w'.drewN q).setCell ⟨g,off+j,none⟩ (.int .u64 (G k))).setCell ⟨g,off+k,none⟩ (.int .u64 (G j))):=by
 have hH:=(h.hold h0 hg).1
 have e:=Sort.putRow_swp (Value.int .u64) (Sort.ahead w' q) g off d j k (by rw [h.1];exact hj) (by rw [h.1];exact hk)
 rw [Sort.putRow_self _ _ _ _ _ (Sort.holds_ahead _ _ q _ _ _ hH)] at e
 refine ⟨by rw [Sort.size_swp];exact h.1,h.2.step hg (Sort.size_swp _ _ _) ⟨q,?_⟩⟩
 rw [hG,hG]
 exact e
end
abbrev lt:Int→Int→Bool:=Sort.ltInt
theorem swp_perm (d:Array Int) (a b i j:Nat) (h1:a≤i) (h2:i < b) (h3:a≤j) (h4:j < b) (h5:b≤d.size):Sort.PermIn a b d (Sort.swp d i j):=Sort.swp_permIn d a b i j h1 h2 h3 h4 h5
theorem perm_trans {d d' d'':Array Int} {a b:Nat} (h:Sort.PermIn a b d d') (h2:Sort.PermIn a b d' d''):Sort.PermIn a b d d'':=Sort.permIn_trans d d' d'' a b h h2
theorem perm_refl (d:Array Int) (a b:Nat):Sort.PermIn a b d d:=Sort.permIn_refl d a b
theorem perm_all {d d':Array Int} {a b:Nat} (p:Int→Prop) (hb:b≤d.size) (h:Sort.PermIn a b d d') (hp:∀ i,a≤i→i < b→p d[i]!):∀ i,a≤i→i < b→p d'[i]! :=Sort.permIn_all d d' a b p hb h hp
theorem lt_no {x y:Int} (h:¬ x < y):Sort.ltInt x y=false:=by simp [Sort.ltInt];omega
theorem ge_of {x y:Int} (h:Sort.ltInt x y=false):y≤x:=by simp [Sort.ltInt] at h;omega
structure Part (a b i j:Nat) (p:Int) (d:Array Int):Prop where
 at':d[a]! =p
 lo:∀ t,a < t→t < i→d[t]! < p
 hi:∀ t,j < t→t < b→p≤d[t]!
theorem Part.swap {a b i j:Nat} {p:Int} {d:Array Int} (h:Part a b i j p d) (hb:b≤d.size) (hai:a < i) (hij:i < j) (hjb:j < b) (h1:p≤d[i]!) (h2:d[j]! < p):Part a b (i+1) (j - 1) p (Sort.swp d i j):=by
 have gL:=Sort.swp_left d i j (by omega) (by omega)
 have gR:=Sort.swp_right d i j (by omega)
 have go:=fun k hk hk'=>Sort.swp_other d i j k hk hk'
 refine ⟨by rw [go a (by omega) (by omega)];exact h.at',fun t h3 h4=>?_,fun t h3 h4=>?_⟩
 · by_cases e:t=i
   · subst e;rw [gL];exact h2
   · rw [go t e (by omega)];exact h.lo t h3 (by omega)
 · by_cases e:t=j
   · subst e;rw [gR];exact h1
   · rw [go t (by omega) e];exact h.hi t (by omega) h4
def Parted (a b m:Nat) (d:Array Int):Prop:=a≤m∧m < b∧(∀ t,a≤t→t < m→d[t]! < d[m]!)∧∀ t,m < t→t < b→d[m]!≤d[t]!
theorem Part.done {a b i j:Nat} {p:Int} {d:Array Int} (h:Part a b i j p d) (hb:b≤d.size) (hai:a < i) (hij:i=j+1) (hjb:j < b):Parted a b j (Sort.swp d j a):=by
 by_cases e:j=a
 · subst e
   have hj:j < d.size:=by omega
   have hs:Sort.swp d j j=d:=by
    unfold Sort.swp
    simp [hj,Array.setIfInBounds]
   rw [hs]
   refine ⟨Nat.le_refl _,hjb,fun t h1 h2=>by omega,fun t h1 h2=>?_⟩
   rw [h.at'];exact h.hi t h1 h2
 · have gL:=Sort.swp_left d j a (by omega) e
   have gR:=Sort.swp_right d j a (by omega)
   have go:=fun k hk hk'=>Sort.swp_other d j a k hk hk'
   refine ⟨by omega,hjb,fun t h1 h2=>?_,fun t h1 h2=>?_⟩
   · rw [gL,h.at']
     by_cases e2:t=a
     · subst e2;rw [gR];exact h.lo j (by omega) (by omega)
     · rw [go t (by omega) e2];exact h.lo t (by omega) (by omega)
   · rw [gL,h.at',go t (by omega) (by omega)];exact h.hi t h1 h2
structure PartE (a b i j:Nat) (p:Int) (d:Array Int):Prop where
 at':d[a]! =p
 lo:∀ t,a < t→t < i→d[t]!≤p
 hi:∀ t,j < t→t < b→p < d[t]!
theorem PartE.swap {a b i j:Nat} {p:Int} {d:Array Int} (h:PartE a b i j p d) (hb:b≤d.size) (hai:a < i) (hij:i < j) (hjb:j < b) (h1:p < d[i]!) (h2:d[j]!≤p):PartE a b (i+1) (j - 1) p (Sort.swp d i j):=by
 have gL:=Sort.swp_left d i j (by omega) (by omega)
 have gR:=Sort.swp_right d i j (by omega)
 have go:=fun k hk hk'=>Sort.swp_other d i j k hk hk'
 refine ⟨by rw [go a (by omega) (by omega)];exact h.at',fun t h3 h4=>?_,fun t h3 h4=>?_⟩
 · by_cases e:t=i
   · subst e;rw [gL];exact h2
   · rw [go t e (by omega)];exact h.lo t h3 (by omega)
 · by_cases e:t=j
   · subst e;rw [gR];exact h1
   · rw [go t (by omega) e];exact h.hi t (by omega) h4
end Go.Proofs.YtdklpgphmoaniaaGreatDoor
namespace Go.Proofs.YtdklpgphmoaniaaGreatDoor
open Go.RowKit
theorem u_nan (x:Int) (w:World):Calls Tryz.prog 175 #[.int .u64 x] w fun e w'=>e=.returned (.bool false)∧w'=w:=by
 go_enter Tryz.func175,Tryz.ntmps175
 go_wp2
 go_ret
 exact ⟨by simp,rfl⟩
theorem u_less (x y:Int) (w:World):Calls Tryz.prog 150 #[.int .u64 x,.int .u64 y] w fun e w'=>e=.returned (.bool (Sort.ltInt x y))∧w'=w:=by
 go_enter Tryz.func150,Tryz.ntmps150
 go_wp2_with (go_at_call 175;refine (u_nan _ _).mono ?_;rintro e w' ⟨rfl,rfl⟩)
 go_ret
 exact ⟨rfl,rfl⟩
set_option maxHeartbeats 4000000 in
set_option maxRecDepth 100000 in
theorem u_ins (g off cap a b n:Nat) (d:Array Int) (hn:d.size=n) (w:World) (hH:Sort.Holds (Value.int .u64) w g off d) (hg:g < w.heap.size) (hab:a≤b) (hb:b≤n) (hsz:n < 4611686018427387904) :
 Calls Tryz.prog 144 #[.slice (some ⟨g,off,none⟩) n cap,.int .i64 a,.int .i64 b] w fun e w' =>
  e=.returned (.tuple #[])∧∃ d',Sort.PermIn a b d d'∧Sort.SortedIn Sort.ltInt a b d'∧St w g off d d' w':=by
 have H0:Hid (Sort.Holds (Value.int .u64) w g off d):=hH
 have HN:Hid (d.size=n):=hn
 clear hH hn
 go_enter Tryz.func144,Tryz.ntmps144
 go_wp2
 go_loopw [6] (fun vi wr=>∃ (i:Nat) (dk:Array Int),vi=.int .i64 i∧a < i∧i≤b+1∧Hid (St w g off d dk wr∧Sort.PermIn a b d dk∧Sort.SortedIn Sort.ltInt a i dk)) (fun vi _=>b+1 - (intOf vi).toNat)
 case atStart=>exact ⟨a+1,d,by go_num,by omega,by omega,St.refl H0.out,perm_refl _ _ _,fun i j h1 h2 h3=>by omega⟩
 case round =>
  obtain ⟨i,dk,rfl,hai,hib,hS⟩:=hrel
  by_cases hlt:i < b
  · go_wp2
    go_loopw [7] (fun vj wr2=>∃ (j:Nat) (dj:Array Int),vj=.int .i64 j∧a≤j∧j≤i∧Hid (St w g off d dj wr2∧Sort.PermIn a b d dj∧Sort.Ins Sort.ltInt a j i dj)) (fun vj _=>(intOf vj).toNat)
    case atStart=>exact ⟨i,dk,rfl,by omega,Nat.le_refl _,hS.out.1,hS.out.2.1,⟨fun p q hap hpq hqi _ hq=>hS.out.2.2 p q hap hpq (by omega),fun q h1 h2=>by omega⟩⟩
    case round =>
     clear hS
     obtain ⟨j,dj,rfl,haj,hji,hS⟩:=hrel
     obtain ⟨G,hG,hcw,hfw⟩:=hS.out.1.fam H0.out hg
     rw [HN.out] at hcw hfw
     have HG:Hid (∀ t,G t=dj[t]!):=hG
     clear hG
     have out:(j≤a∨Sort.ltInt dj[j]! dj[j - 1]! =false)→∀ q,∃ (i':Nat) (dk':Array Int),Value.int .i64 ((i:Int)+1)=.int .i64 (i':Nat)∧a < i'∧i'≤b+1∧Hid (St w g off d dk' (wr.drewN q)∧Sort.PermIn a b d dk'∧Sort.SortedIn Sort.ltInt a i' dk'):=fun hs q =>
      ⟨i+1,dj,by go_num,by omega,by omega,hS.out.1.drawn q,hS.out.2.1,hS.out.2.2.stop Sort.swo_ltInt hs⟩
     have OUT:Hid _:=out
     clear out
     go_wp2
     by_cases hja:a < j
     · go_quiet (first | (go_at_call 150;refine Calls.quiet_of_same (u_less _ _ _)))
       go_wp2
       · have hl:Sort.ltInt (G j) (G (j - 1))=true:=by assumption
         go_region
         all_goals go_wp2
         go_roundw
         case rel =>
          refine ⟨j - 1,Sort.swp dj j (j - 1),by congr 1;omega,by omega,by omega,hS.out.1.swap H0.out hg HG.out (by rw [HN.out];omega) (by rw [HN.out];omega) (nq+1),perm_trans hS.out.2.1 (swp_perm _ _ _ _ _ (by omega) (by omega) (by omega) (by omega) (by rw [hS.out.1.1,HN.out];omega)),?_⟩
          obtain ⟨j',rfl⟩:∃ j',j=j'+1:=⟨j - 1,by omega⟩
          exact hS.out.2.2.step (by rw [← HG.out,← HG.out];exact hl) (by omega) (by rw [hS.out.1.1,HN.out];omega)
         case measure=>simp [intOf];omega
       · have hl:Sort.ltInt (G j) (G (j - 1))=false:=by assumption
         go_roundw
         case rel=>exact OUT.out (Or.inr (by rw [← HG.out,← HG.out];exact hl)) nq
         case measure=>simp [intOf];omega
     · go_quiet (first | (go_at_call 150;refine Calls.quiet_of_same (u_less _ _ _)))
       go_wp2
       go_roundw
       case rel=>exact OUT.out (Or.inl (by omega)) nq
       case measure=>simp [intOf];omega
  · go_wp2
    go_end0
    exact ⟨rfl,dk,hS.out.2.1,fun p q h1 h2 h3=>hS.out.2.2 p q h1 h2 (by omega),hS.out.1⟩
end Go.Proofs.YtdklpgphmoaniaaGreatDoor
