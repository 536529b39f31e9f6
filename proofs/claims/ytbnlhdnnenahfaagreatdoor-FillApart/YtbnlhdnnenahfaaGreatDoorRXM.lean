/-
  What the texts RLook, RBeside, RTouch, RCov, RBox10 say, so far as this seat's proofs need it.
-/
import Derived.Test.YtbnlhdnnenahfaaGreatDoorSPM
import Derived.Test.YtbnlhdnnenahfaaGreatDoorCV1M
import Derived.RangeFuncFrom
import Derived.RangeFuncCalls
import Derived.OwnWalkIn
import Derived.TacticsInMore
import Derived.LoopNIn
import Derived.LoopIn
import Derived.Stop.RegionWithIn
namespace Go.Proofs.YtbnlhdnnenahfaaGreatDoor
open Go.RowKit
theorem RowAt.form {C:Nat} {w:World} {s:Value} {L:List Int} (h:RowAt C w s L):∃ p cap,s=.slice p L.length cap∧∀ (j:Nat) (hj:j < L.length),∃ g,p=some ⟨g,0,none⟩∧w.cell? ⟨g,j,none⟩=some (.int .u64 L[j]):=by
 rcases h with ⟨rfl,rfl⟩ | ⟨g,cap,h1,h2,h3⟩
 · exact ⟨none,0,rfl,fun j hj=>absurd hj (Nat.not_lt_zero _)⟩
 · exact ⟨_,cap,h1,fun j hj=>⟨g,rfl,h3 j hj⟩⟩
set_option maxHeartbeats 4000000 in
theorem rsame (C D:Nat) (s t:Value) (L:List Int) (hn:L.length≤40000) (w:World) (h1:RowAt C w s L) (h2:RowAt D w t L) :
 Calls Tryz.prog 10 #[s,t] w fun e w'=>e=.returned (.bool true)∧Below w.heap.size w w':=by
 obtain ⟨p,c,rfl,hp⟩:=h1.form
 obtain ⟨q,c2,rfl,hq⟩:=h2.form
 obtain ⟨n,en⟩:∃ n,L.length=n:=⟨_,rfl⟩
 have HP:=hidd hp
 have HQ:=hidd hq
 have EN:=hidd en
 rw [en] at hn ⊢
 clear hp hq h1 h2 en
 go_enter Tryz.func10,Tryz.ntmps10
 go_wp2_with fail
 go_loopw [5] (fun v5 wr=>∃ i:Nat,i≤n∧v5=.int .i64 (i:Int)∧Below w.heap.size w wr) (fun v5 _=>n - (intOf v5).toNat)
 case atStart=>exact ⟨0,by omega,rfl,Below.refl _ _⟩
 case round =>
  obtain ⟨i,hi,rfl,hB⟩:=hrel
  by_cases hlt:i < n
  · obtain ⟨g,rfl,x1⟩:=HP.out i (by rw [EN.out];exact hlt)
    obtain ⟨g2,rfl,x2⟩:=HQ.out i (by rw [EN.out];exact hlt)
    replace x1:=keepCell hB x1
    replace x2:=keepCell hB x2
    generalize L[i]'_=x at *
    clear HP HQ EN
    go_wp2_with fail
    go_quiet (fail)
    go_wp2
    go_roundw
    case rel=>exact ⟨i+1,by omega,by go_num,belowN hB _⟩
    case measure=>simp [intOf];omega
  · obtain rfl:i=n:=by omega
    go_wp2
    go_ret
    exact ⟨rfl,hB⟩
theorem own_row {w:World} {base:Nat} {v:Value} {L:List Int} (h:w.ownsRow base 35 1 v L.length (vals L)):RowAt base w v L:=by
 rcases h.2 with ⟨hv,h0⟩ | ⟨g,cap,cur,hv,_⟩
 · exact Or.inl ⟨List.length_eq_zero_iff.1 h0,hv⟩
 · subst hv
   have hc:=own_cells h
   exact Or.inr ⟨g,cap,rfl,hc.2.2.1,hc.2.1⟩
def FarT (x y:Int):Prop:=x < -2147483648∨2147483648 < x∨y < -2147483648∨2147483648 < y
def TouP (r a b l1 l2 u1 u2:Int):Prop:=Ok4 r a b∧(¬ FarT l1 l2)∧(¬ FarT u1 u2)∧(l1≤u1∧l2≤u2)∧Tou (12 - r).toNat l1 l2 u1 u2 a b
def MayT (l1 l2 u1 u2 r t:Int):Prop :=
 ((r < 0∨12 < r)∧t=1)∨((0≤r∧r≤12)∧¬ (InW l1 l2∧InW u1 u2)∧t=4)∨((0≤r∧r≤12)∧(InW l1 l2∧InW u1 u2)∧(u1 < l1∨u2 < l2)∧t=1)∨((0≤r∧r≤12)∧(InW l1 l2∧InW u1 u2)∧(l1≤u1∧l2≤u2)∧t=0)
def inCB (K:Nat) (l1 l2 u1 u2 x:Int):Bool:=decide (l1≤poX K (cellA x) (cellB x)∧poX K (cellA x) (cellB x)≤u1∧l2≤poY K (cellA x) (cellB x)∧poY K (cellA x) (cellB x)≤u2)
def NB (x y:Int):Prop:=∃ p q,stp p q=1∧Ok4 (wR x) (cellA x+p) (cellB x+q)∧y=wordOf (wR x).toNat (cellA x+p) (cellB x+q)
end Go.Proofs.YtbnlhdnnenahfaaGreatDoor
