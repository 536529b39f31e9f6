/-
  A row of words that the library's sort turns: which world has the row as d' has it, and all else as it was; what a swap makes of it.
-/
import Derived.Test.YtdklpgphmoaniabGreatDoorProg
import Derived.Sort.Walk13a
import Derived.Sort.LotA
import Derived.Sort.LotB
import Derived.Handy
import Derived.CellFam
import Derived.BigQuiet
namespace Go.Proofs.YtdklpgphmoaniabGreatDoor
def St (w:World) (g off:Nat) (d0 d:Array Int) (w':World):Prop:=d.size=d0.size∧Sort.At (Value.int .u64) w g off d w'
section
variable {w w' w2:World} {g off:Nat} {d0 d d2:Array Int}
theorem St.refl (h:Sort.Holds (Value.int .u64) w g off d):St w g off d d w:=⟨rfl,Sort.At.refl h⟩
theorem St.hold (h0:Sort.Holds (Value.int .u64) w g off d0) (hg:g < w.heap.size) (h:St w g off d0 d w'):Sort.Holds (Value.int .u64) w' g off d∧g < w'.heap.size:=h.2.holds h0 h.1 hg
theorem St.fam (h0:Sort.Holds (Value.int .u64) w g off d0) (hg:g < w.heap.size) (h:St w g off d0 d w') :
 ∃ G:Nat→Int,(∀ t,G t=d[t]!)∧(∀ t,t < d0.size→w'.cell? ⟨g,off+t,none⟩=some (.int .u64 (G t)))∧∀ t,t < d0.size→w'.frozen? ⟨g,off+t,none⟩=false :=
 ⟨fun t=>d[t]!,fun _=>rfl,fun t ht=>((h.hold h0 hg).1 t (by rw [h.1];exact ht)).1,fun t ht=>((h.hold h0 hg).1 t (by rw [h.1];exact ht)).2⟩
theorem St.drawn (h:St w g off d0 d w') (q:Nat):St w g off d0 d (w'.drewN q):=⟨h.1,h.2.ahead q⟩
theorem St.trans (hg:g < w.heap.size) (h:St w g off d0 d w') (h2:St w' g off d d2 w2):St w g off d0 d2 w2:=by
 refine ⟨h2.1.trans h.1,?_⟩
 obtain ⟨n,os,e⟩:=h2.2
 exact h.2.stepG hg h2.1 ⟨n,os,e⟩
theorem St.swap (h0:Sort.Holds (Value.int .u64) w g off d0) (hg:g < w.heap.size) (h:St w g off d0 d w') {G:Nat→Int} (hG:∀ t,G t=d[t]!) {j k:Nat} (hj:j < d0.size) (hk:k < d0.size) (q:Nat) :
 St w g off d0 (Sort.swp d j k) (((w'.drewN q).setCell ⟨g,off+j,none⟩ (.int .u64 (G k))).setCell ⟨g,off+k,none⟩ (.int .u64 (G j))):=by
 have hH:=(h.hold h0 hg).1
 have e:=Sort.putRow_swp (Value.int .u64) (Sort.ahead w' q) g off d j k (by rw [h.1];exact hj) (by rw [h.1];exact hk)
 rw [Sort.putRow_self _ _ _ _ _ (Sort.holds_ahead _ _ q _ _ _ hH)] at e
 refine ⟨by rw [Sort.size_swp];exact h.1,h.2.step hg (Sort.size_swp _ _ _) ⟨q,?_⟩⟩
 rw [hG,hG]
 exact e
end
abbrev lt:Int→Int→Bool:=Sort.ltInt
theorem swp_perm (d:Array Int) (a b i j:Nat) (h1:a≤i) (h2:i < b) (h3:a≤j) (h4:j < b) (h5:b≤d.size):Sort.PermIn a b d (Sort.swp d i j):=Sort.swp_permIn d a b i j h1 h2 h3 h4 h5
theorem perm_trans {d d' d'':Array Int} {a b:Nat} (h:Sort.PermIn a b d d') (h2:Sort.PermIn a b d' d''):Sort.PermIn a b d d'':=Sort.permIn_trans d d' d'' a b h h2
theorem perm_refl (d:Array Int) (a b:Nat):Sort.PermIn a b d d:=Sort.permIn_refl d a b
theorem perm_all {d d':Array Int} {a b:Nat} (p:Int→Prop) (hb:b≤d.size) (h:Sort.PermIn a b d d') (hp:∀ i,a≤i→i < b→p d[i]!):∀ i,a≤i→i < b→p d'[i]! :=Sort.permIn_all d d' a b p hb h hp
theorem lt_no {x y:Int} (h:¬ x < y):Sort.ltInt x y=false:=by simp [Sort.ltInt];omega
theorem ge_of {x y:Int} (h:Sort.ltInt x y=false):y≤x:=by simp [Sort.ltInt] at h;omega
structure Part (a b i j:Nat) (p:Int) (d:Array Int):Prop where
 at':d[a]! =p
 lo:∀ t,a < t→t < i→d[t]! < p
 hi:∀ t,j < t→t < b→p≤d[t]!
theorem Part.swap {a b i j:Nat} {p:Int} {d:Array Int} (h:Part a b i j p d) (hb:b≤d.size) (hai:a < i) (hij:i < j) (hjb:j < b) (h1:p≤d[i]!) (h2:d[j]! < p):Part a b (i+1) (j - 1) p (Sort.swp d i j):=by
 have gL:=Sort.swp_left d i j (by omega) (by omega)
 have gR:=Sort.swp_right d i j (by omega)
 have go:=fun k hk hk'=>Sort.swp_other d i j k hk hk'
 refine ⟨by rw [go a (by omega) (by omega)];exact h.at',fun t h3 h4=>?_,fun t h3 h4=>?_⟩
 · by_cases e:t=i
   · subst e;rw [gL];exact h2
   · rw [go t e (by omega)];exact h.lo t h3 (by omega)
 · by_cases e:t=j
   · subst e;rw [gR];exact h1
   · rw [go t (by omega) e];exact h.hi t (by omega) h4
def Parted (a b m:Nat) (d:Array Int):Prop:=a≤m∧m < b∧(∀ t,a≤t→t < m→d[t]! < d[m]!)∧∀ t,m < t→t < b→d[m]!≤d[t]!
theorem Part.done {a b i j:Nat} {p:Int} {d:Array Int} (h:Part a b i j p d) (hb:b≤d.size) (hai:a < i) (hij:i=j+1) (hjb:j < b):Parted a b j (Sort.swp d j a):=by
 by_cases e:j=a
 · subst e
   have hj:j < d.size:=by omega
   have hs:Sort.swp d j j=d:=by
    unfold Sort.swp
    simp [hj,Array.setIfInBounds]
   rw [hs]
   refine ⟨Nat.le_refl _,hjb,fun t h1 h2=>by omega,fun t h1 h2=>?_⟩
   rw [h.at'];exact h.hi t h1 h2
 · have gL:=Sort.swp_left d j a (by omega) e
   have gR:=Sort.swp_right d j a (by omega)
   have go:=fun k hk hk'=>Sort.swp_other d j a k hk hk'
   refine ⟨by omega,hjb,fun t h1 h2=>?_,fun t h1 h2=>?_⟩
   · rw [gL,h.at']
     by_cases e2:t=a
     · subst e2;rw [gR];exact h.lo j (by omega) (by omega)
     · rw [go t (by omega) e2];exact h.lo t (by omega) (by omega)
   · rw [gL,h.at',go t (by omega) (by omega)];exact h.hi t h1 h2
structure PartE (a b i j:Nat) (p:Int) (d:Array Int):Prop where
 at':d[a]! =p
 lo:∀ t,a < t→t < i→d[t]!≤p
 hi:∀ t,j < t→t < b→p < d[t]!
theorem PartE.swap {a b i j:Nat} {p:Int} {d:Array Int} (h:PartE a b i j p d) (hb:b≤d.size) (hai:a < i) (hij:i < j) (hjb:j < b) (h1:p < d[i]!) (h2:d[j]!≤p):PartE a b (i+1) (j - 1) p (Sort.swp d i j):=by
 have gL:=Sort.swp_left d i j (by omega) (by omega)
 have gR:=Sort.swp_right d i j (by omega)
 have go:=fun k hk hk'=>Sort.swp_other d i j k hk hk'
 refine ⟨by rw [go a (by omega) (by omega)];exact h.at',fun t h3 h4=>?_,fun t h3 h4=>?_⟩
 · by_cases e:t=i
   · subst e;rw [gL];exact h2
   · rw [go t e (by omega)];exact h.lo t h3 (by omega)
 · by_cases e:t=j
   · subst e;rw [gR];exact h1
   · rw [go t (by omega) e];exact h.hi t (by omega) h4
end Go.Proofs.YtdklpgphmoaniabGreatDoor
namespace Go.Proofs.YtdklpgphmoaniabGreatDoor
open Go.RowKit
theorem u_nan (x:Int) (w:World):Calls Tryz.prog 132 #[.int .u64 x] w fun e w'=>e=.returned (.bool false)∧w'=w:=by
 go_enter Tryz.func132,Tryz.ntmps132
 go_wp2
 go_ret
 exact ⟨by simp,rfl⟩
theorem u_less (x y:Int) (w:World):Calls Tryz.prog 110 #[.int .u64 x,.int .u64 y] w fun e w'=>e=.returned (.bool (Sort.ltInt x y))∧w'=w:=by
 go_enter Tryz.func110,Tryz.ntmps110
 go_wp2_with (go_at_call 132;refine (u_nan _ _).mono ?_;rintro e w' ⟨rfl,rfl⟩)
 go_ret
 exact ⟨rfl,rfl⟩
set_option maxHeartbeats 4000000 in
set_option maxRecDepth 100000 in
theorem u_ins (g off cap a b n:Nat) (d:Array Int) (hn:d.size=n) (w:World) (hH:Sort.Holds (Value.int .u64) w g off d) (hg:g < w.heap.size) (hab:a≤b) (hb:b≤n) (hsz:n < 4611686018427387904) :
 Calls Tryz.prog 104 #[.slice (some ⟨g,off,none⟩) n cap,.int .i64 a,.int .i64 b] w fun e w' =>
  e=.returned (.tuple #[])∧∃ d',Sort.PermIn a b d d'∧Sort.SortedIn Sort.ltInt a b d'∧St w g off d d' w':=by
 have H0:Hid (Sort.Holds (Value.int .u64) w g off d):=hH
 have HN:Hid (d.size=n):=hn
 clear hH hn
 go_enter Tryz.func104,Tryz.ntmps104
 go_wp2
 go_loopw [6] (fun vi wr=>∃ (i:Nat) (dk:Array Int),vi=.int .i64 i∧a < i∧i≤b+1∧Hid (St w g off d dk wr∧Sort.PermIn a b d dk∧Sort.SortedIn Sort.ltInt a i dk)) (fun vi _=>b+1 - (intOf vi).toNat)
 case atStart=>exact ⟨a+1,d,by go_num,by omega,by omega,St.refl H0.out,perm_refl _ _ _,fun i j h1 h2 h3=>by omega⟩
 case round =>
  obtain ⟨i,dk,rfl,hai,hib,hS⟩:=hrel
  by_cases hlt:i < b
  · go_wp2
    go_loopw [7] (fun vj wr2=>∃ (j:Nat) (dj:Array Int),vj=.int .i64 j∧a≤j∧j≤i∧Hid (St w g off d dj wr2∧Sort.PermIn a b d dj∧Sort.Ins Sort.ltInt a j i dj)) (fun vj _=>(intOf vj).toNat)
    case atStart=>exact ⟨i,dk,rfl,by omega,Nat.le_refl _,hS.out.1,hS.out.2.1,⟨fun p q hap hpq hqi _ hq=>hS.out.2.2 p q hap hpq (by omega),fun q h1 h2=>by omega⟩⟩
    case round =>
     clear hS
     obtain ⟨j,dj,rfl,haj,hji,hS⟩:=hrel
     obtain ⟨G,hG,hcw,hfw⟩:=hS.out.1.fam H0.out hg
     rw [HN.out] at hcw hfw
     have HG:Hid (∀ t,G t=dj[t]!):=hG
     clear hG
     have out:(j≤a∨Sort.ltInt dj[j]! dj[j - 1]! =false)→∀ q,∃ (i':Nat) (dk':Array Int),Value.int .i64 ((i:Int)+1)=.int .i64 (i':Nat)∧a < i'∧i'≤b+1∧Hid (St w g off d dk' (wr.drewN q)∧Sort.PermIn a b d dk'∧Sort.SortedIn Sort.ltInt a i' dk'):=fun hs q =>
      ⟨i+1,dj,by go_num,by omega,by omega,hS.out.1.drawn q,hS.out.2.1,hS.out.2.2.stop Sort.swo_ltInt hs⟩
     have OUT:Hid _:=out
     clear out
     go_wp2
     by_cases hja:a < j
     · go_quiet (first | (go_at_call 110;refine Calls.quiet_of_same (u_less _ _ _)))
       go_wp2
       · have hl:Sort.ltInt (G j) (G (j - 1))=true:=by assumption
         go_region
         all_goals go_wp2
         go_roundw
         case rel =>
          refine ⟨j - 1,Sort.swp dj j (j - 1),by congr 1;omega,by omega,by omega,hS.out.1.swap H0.out hg HG.out (by rw [HN.out];omega) (by rw [HN.out];omega) (nq+1),perm_trans hS.out.2.1 (swp_perm _ _ _ _ _ (by omega) (by omega) (by omega) (by omega) (by rw [hS.out.1.1,HN.out];omega)),?_⟩
          obtain ⟨j',rfl⟩:∃ j',j=j'+1:=⟨j - 1,by omega⟩
          exact hS.out.2.2.step (by rw [← HG.out,← HG.out];exact hl) (by omega) (by rw [hS.out.1.1,HN.out];omega)
         case measure=>simp [intOf];omega
       · have hl:Sort.ltInt (G j) (G (j - 1))=false:=by assumption
         go_roundw
         case rel=>exact OUT.out (Or.inr (by rw [← HG.out,← HG.out];exact hl)) nq
         case measure=>simp [intOf];omega
     · go_quiet (first | (go_at_call 110;refine Calls.quiet_of_same (u_less _ _ _)))
       go_wp2
       go_roundw
       case rel=>exact OUT.out (Or.inl (by omega)) nq
       case measure=>simp [intOf];omega
  · go_wp2
    go_end0
    exact ⟨rfl,dk,hS.out.2.1,fun p q h1 h2 h3=>hS.out.2.2 p q h1 h2 (by omega),hS.out.1⟩
end Go.Proofs.YtdklpgphmoaniabGreatDoor
