/-
  Plain facts on a cell and its neighbour, and the box from centre to centre. No condition beyond those written.
-/
import Derived.Test.YtdklpgphmoaniaaGreatDoorJn22
namespace Go.Proofs.YtdklpgphmoaniaaGreatDoor
theorem po_sum (K:Nat) (a b p q:Int):poX K (a+p) (b+q)=poX K a b+poX K p q∧poY K (a+p) (b+q)=poY K a b+poY K p q:=by
 unfold poX poY ctA ctB
 constructor <;>grind
theorem po_one_fin:∀ i:Fin 13,([((1:Int),(0:Int)),(0,1),(-1,1),(-1,0),(0,-1),(1,-1)].all fun x=>decide (-20000000≤poX i.val x.1 x.2) && decide (poX i.val x.1 x.2≤20000000) && decide (-20000000≤poY i.val x.1 x.2) && decide (poY i.val x.1 x.2≤20000000))=true:=by decide +kernel
theorem one_ways {p q:Int} (h:stp p q=1):(p,q)∈[((1:Int),(0:Int)),(0,1),(-1,1),(-1,0),(0,-1),(1,-1)]:=by
 unfold stp at h
 have:(p=1∧q=0)∨(p=0∧q=1)∨(p= -1∧q=1)∨(p= -1∧q=0)∨(p=0∧q= -1)∨(p=1∧q= -1):=by omega
 rcases this with ⟨rfl,rfl⟩ | ⟨rfl,rfl⟩ | ⟨rfl,rfl⟩ | ⟨rfl,rfl⟩ | ⟨rfl,rfl⟩ | ⟨rfl,rfl⟩ <;>simp
theorem next_box {K:Nat} (hK:K≤12) {a b p q:Int} (hw:InW (poX K a b) (poY K a b)) (h:stp p q=1):(-20000000≤poX K (a+p) (b+q)∧poX K (a+p) (b+q)≤1100000000)∧-20000000≤poY K (a+p) (b+q)∧poY K (a+p) (b+q)≤1100000000:=by
 obtain ⟨w1,w2,w3,w4⟩:=hw
 have e:=po_sum K a b p q
 have f:=List.all_eq_true.1 (po_one_fin ⟨K,by omega⟩) _ (one_ways h)
 simp only [Bool.and_eq_true,decide_eq_true_eq] at f
 omega
theorem next_tou {K r:Nat} (hK:K≤12) (hr:12 - (r:Int)=(K:Int)) {a b p q:Int} (hw:InW (poX K a b) (poY K a b)) (h:stp p q=1) (hok:Ok4 (r:Int) a b) (hok':Ok4 (r:Int) (a+p) (b+q)) :
 TouP (r:Int) (a+p) (b+q) (min (poX K a b) (poX K (a+p) (b+q))) (min (poY K a b) (poY K (a+p) (b+q))) (max (poX K a b) (poX K (a+p) (b+q))) (max (poY K a b) (poY K (a+p) (b+q))) ∧
 TouP (r:Int) a b (min (poX K a b) (poX K (a+p) (b+q))) (min (poY K a b) (poY K (a+p) (b+q))) (max (poX K a b) (poX K (a+p) (b+q))) (max (poY K a b) (poY K (a+p) (b+q))) ∧
 ¬ TouP (r:Int) a b (poX K (a+p) (b+q)) (poY K (a+p) (b+q)) (poX K (a+p) (b+q)) (poY K (a+p) (b+q)):=by
 have bx:=next_box hK hw h
 have n1:=(near_self hK a b).1
 have n2:=(near_self hK (a+p) (b+q)).1
 obtain ⟨w1,w2,w3,w4⟩:=hw
 have hrK:(12 - (r:Int)).toNat=K:=by omega
 generalize eu:poX K a b=u at *
 generalize ev:poY K a b=v at *
 refine ⟨?_,?_,fun k=>?_⟩
 · generalize poX K (a+p) (b+q)=s at *
   generalize poY K (a+p) (b+q)=t at *
   exact ⟨hok',by unfold FarT;omega,by unfold FarT;omega,⟨by omega,by omega⟩,by rw [hrK];exact tou_at ⟨by omega,by omega⟩ ⟨by omega,by omega⟩ n2⟩
 · generalize poX K (a+p) (b+q)=s at *
   generalize poY K (a+p) (b+q)=t at *
   exact ⟨hok,by unfold FarT;omega,by unfold FarT;omega,⟨by omega,by omega⟩,by rw [hrK];exact tou_at ⟨by omega,by omega⟩ ⟨by omega,by omega⟩ n1⟩
 · have k5:=k.2.2.2.2
   rw [hrK] at k5
   have e:=centre_own hK k5
   obtain rfl:p=0:=by omega
   obtain rfl:q=0:=by omega
   revert h
   decide
end Go.Proofs.YtdklpgphmoaniaaGreatDoor
