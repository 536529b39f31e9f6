/-
  Package cover's boxes: what lies in one, which are far off, which are turned about; in whatever memory.
-/
import Derived.Test.YtdklpgphmoaniabGreatDoorR1X
import Derived.Test.YtdklpgphmoaniabGreatDoorJn13
namespace Go.Proofs.YtdklpgphmoaniabGreatDoor
open Go.RowKit
def inB (l1 l2 u1 u2 x y:Int):Bool:=decide (l1≤x∧x≤u1∧l2≤y∧y≤u2)
theorem inB_ways (l1 l2 u1 u2 x y:Int):(decide (l1≤x)=false∧inB l1 l2 u1 u2 x y=false)∨(l1≤x∧decide (x≤u1)=false∧inB l1 l2 u1 u2 x y=false)∨(l1≤x∧x≤u1∧decide (l2≤y)=false∧inB l1 l2 u1 u2 x y=false) ∨
 (l1≤x∧x≤u1∧l2≤y∧decide (y≤u2)=false∧inB l1 l2 u1 u2 x y=false)∨(l1≤x∧x≤u1∧l2≤y∧y≤u2∧inB l1 l2 u1 u2 x y=true):=by
 unfold inB
 simp only [decide_eq_false_iff_not,decide_eq_true_eq]
 omega
set_option maxHeartbeats 2000000 in
set_option maxRecDepth 20000 in
theorem q_holds (l1 l2 u1 u2 x y:Int) (w:World):Calls Tryz.prog 15 #[.agg #[.int .i64 l1,.int .i64 l2,.int .i64 u1,.int .i64 u2],.agg #[.int .i64 x,.int .i64 y]] w fun e w'=>e=.returned (.bool (inB l1 l2 u1 u2 x y))∧Below w.heap.size w w':=by
 have hw:=inB_ways l1 l2 u1 u2 x y
 generalize inB l1 l2 u1 u2 x y=b at *
 rcases hw with ⟨h1,rfl⟩ | ⟨h1,h2,rfl⟩ | ⟨h1,h2,h3,rfl⟩ | ⟨h1,h2,h3,h4,rfl⟩ | ⟨h1,h2,h3,h4,rfl⟩
 all_goals
  go_enter Tryz.func15,Tryz.ntmps15
  go_wp2
  go_ret
  exact ⟨rfl,by go_grown⟩
set_option maxHeartbeats 2000000 in
set_option maxRecDepth 20000 in
theorem q_turned (l1 l2 u1 u2:Int) (b:Bool) (h:(u1 < l1∧b=true)∨(decide (u1 < l1)=false∧u2 < l2∧b=true)∨(decide (u1 < l1)=false∧decide (u2 < l2)=false∧b=false)) (w:World) :
 Calls Tryz.prog 22 #[.agg #[.int .i64 l1,.int .i64 l2,.int .i64 u1,.int .i64 u2]] w fun e w'=>e=.returned (.bool b)∧Below w.heap.size w w':=by
 rcases h with ⟨h1,rfl⟩ | ⟨h1,h2,rfl⟩ | ⟨h1,h2,rfl⟩
 all_goals
  go_enter Tryz.func22,Tryz.ntmps22
  go_wp2
  go_ret
  exact ⟨rfl,by go_grown⟩
set_option maxHeartbeats 4000000 in
set_option maxRecDepth 20000 in
theorem q_isNear (l1 l2 u1 u2:Int) (p q:Bool) (hp:inB (-2147483648) (-2147483648) 2147483648 2147483648 l1 l2=p) (hq:inB (-2147483648) (-2147483648) 2147483648 2147483648 u1 u2=q) (w:World) :
 Calls Tryz.prog 21 #[.agg #[.int .i64 l1,.int .i64 l2,.int .i64 u1,.int .i64 u2]] w fun e w'=>e=.returned (.bool (p && q))∧Below w.heap.size w w':=by
 have H1:=hidd fun w=>(by have:=q_holds (-2147483648) (-2147483648) 2147483648 2147483648 l1 l2 w;rwa [hp] at this:Calls Tryz.prog 15 #[.agg #[.int .i64 (-2147483648),.int .i64 (-2147483648),.int .i64 2147483648,.int .i64 2147483648],.agg #[.int .i64 l1,.int .i64 l2]] w fun e w'=>e=.returned (.bool p)∧Below w.heap.size w w')
 have H2:=hidd fun w=>(by have:=q_holds (-2147483648) (-2147483648) 2147483648 2147483648 u1 u2 w;rwa [hq] at this:Calls Tryz.prog 15 #[.agg #[.int .i64 (-2147483648),.int .i64 (-2147483648),.int .i64 2147483648,.int .i64 2147483648],.agg #[.int .i64 u1,.int .i64 u2]] w fun e w'=>e=.returned (.bool q)∧Below w.heap.size w w')
 clear hp hq
 cases p
 ·
  go_enter Tryz.func21,Tryz.ntmps21
  go_wp2_with fail
  refine (H1.out _).mono ?_
  rintro e w1 ⟨rfl,d1⟩
  have c1:Below w.heap.size w w1:=Below.trans (by go_grown) (d1.mono (by simp;try omega))
  have hB:=c1
  clear c1 d1
  go_wp2
  go_ret
  exact ⟨by simp,hB⟩
 ·
  go_enter Tryz.func21,Tryz.ntmps21
  go_wp2_with fail
  refine (H1.out _).mono ?_
  rintro e w1 ⟨rfl,d1⟩
  have c1:Below w.heap.size w w1:=Below.trans (by go_grown) (d1.mono (by simp;try omega))
  have s0:w1.cell? ⟨w.heap.size,0,none⟩=some (.int .i64 l1):=keepCell d1 (by go_simp)
  have qs0:=World.block_lt_of_cell? _ _ s0
  have s1:w1.cell? ⟨w.heap.size,1,none⟩=some (.int .i64 l2):=keepCell d1 (by go_simp)
  have s2:w1.cell? ⟨w.heap.size,2,none⟩=some (.int .i64 u1):=keepCell d1 (by go_simp)
  have s3:w1.cell? ⟨w.heap.size,3,none⟩=some (.int .i64 u2):=keepCell d1 (by go_simp)
  have t0:w1.cell? ⟨w.heap.size+1,0,none⟩=some (.int .i64 (-2147483648)):=keepCell d1 (by go_simp)
  have qt0:=World.block_lt_of_cell? _ _ t0
  have t1:w1.cell? ⟨w.heap.size+1,1,none⟩=some (.int .i64 (-2147483648)):=keepCell d1 (by go_simp)
  have t2:w1.cell? ⟨w.heap.size+1,2,none⟩=some (.int .i64 2147483648):=keepCell d1 (by go_simp)
  have t3:w1.cell? ⟨w.heap.size+1,3,none⟩=some (.int .i64 2147483648):=keepCell d1 (by go_simp)
  have hB:=c1
  clear c1 d1
  go_wp2_with fail
  refine (H2.out _).mono ?_
  rintro e w2 ⟨rfl,d2⟩
  have c2:Below w1.heap.size w1 w2:=Below.trans (by go_grown) (d2.mono (by simp;try omega))
  replace s0:=keepCell c2 s0
  replace qs0:=World.block_lt_of_cell? _ _ s0
  replace s1:=keepCell c2 s1
  replace s2:=keepCell c2 s2
  replace s3:=keepCell c2 s3
  replace t0:=keepCell c2 t0
  replace qt0:=World.block_lt_of_cell? _ _ t0
  replace t1:=keepCell c2 t1
  replace t2:=keepCell c2 t2
  replace t3:=keepCell c2 t3
  replace hB:=belowT hB c2
  clear c2 d2
  go_wp2
  go_ret
  exact ⟨by simp,hB⟩
def Box4 (B:Nat) (l1 l2 u1 u2:Int) (W:World):Prop:=W.cell? ⟨B,0,none⟩=some (.int .i64 l1)∧W.cell? ⟨B,1,none⟩=some (.int .i64 l2)∧W.cell? ⟨B,2,none⟩=some (.int .i64 u1)∧W.cell? ⟨B,3,none⟩=some (.int .i64 u2)
theorem Box4.keep {B:Nat} {l1 l2 u1 u2:Int} {W W':World} (h:Box4 B l1 l2 u1 u2 W) (hb:Below W.heap.size W W'):Box4 B l1 l2 u1 u2 W':=⟨keepCell hb h.1,keepCell hb h.2.1,keepCell hb h.2.2.1,keepCell hb h.2.2.2⟩
theorem box4_made (w:World) (e:TypeId) (l1 l2 u1 u2:Int):Box4 w.heap.size l1 l2 u1 u2 (w.alloc (.cells #[.int .i64 l1,.int .i64 l2,.int .i64 u1,.int .i64 u2] e)):=⟨by go_simp,by go_simp,by go_simp,by go_simp⟩
set_option maxHeartbeats 8000000 in
set_option maxRecDepth 100000 in
theorem q_fault_core (l1 l2 u1 u2 r t:Int) (p q:Bool) (tb:Bool)
 (h:(r < 0∧t=1)∨(decide (r < 0)=false∧12 < r∧t=1)∨(decide (r < 0)=false∧decide (12 < r)=false∧((p=false∧t=4)∨(p=true∧q=false∧t=4)∨(p=true∧q=true∧tb=true∧t=1)∨(p=true∧q=true∧tb=false∧t=0))))
 (W1:∀ w,Calls Tryz.prog 43 #[.int .i64 l1,.int .i64 l2] w fun e w'=>e=.returned (.bool p)∧Below w.heap.size w w')
 (W2:∀ w,Calls Tryz.prog 43 #[.int .i64 u1,.int .i64 u2] w fun e w'=>e=.returned (.bool q)∧Below w.heap.size w w')
 (TU:∀ w,Calls Tryz.prog 22 #[.agg #[.int .i64 l1,.int .i64 l2,.int .i64 u1,.int .i64 u2]] w fun e w'=>e=.returned (.bool tb)∧Below w.heap.size w w') (w:World) :
 Calls Tryz.prog 26 #[.agg #[.int .i64 l1,.int .i64 l2,.int .i64 u1,.int .i64 u2],.int .i64 r] w fun e w'=>e=.returned (.int .i64 t)∧Below w.heap.size w w':=by
 replace W1:Hid _:=W1
 replace W2:Hid _:=W2
 replace TU:Hid _:=TU
 have S0:=hidd (box4_made w 45 l1 l2 u1 u2)
 have B0:=hidd (allocB w (.cells #[.int .i64 l1,.int .i64 l2,.int .i64 u1,.int .i64 u2] 45))
 obtain ⟨y0,y1,y2,y3⟩:=S0.out
 rcases h with ⟨h1,rfl⟩ | ⟨h1,h2,rfl⟩ | ⟨h1,h2,h3⟩
 ·
  go_enter Tryz.func26,Tryz.ntmps26
  go_wp2_with fail
  go_ret
  exact ⟨rfl,B0.out⟩
 ·
  go_enter Tryz.func26,Tryz.ntmps26
  go_wp2_with fail
  go_ret
  exact ⟨rfl,B0.out⟩
 ·
  go_enter Tryz.func26,Tryz.ntmps26
  go_wp2_with fail
  generalize w.alloc (.cells #[.int .i64 l1,.int .i64 l2,.int .i64 u1,.int .i64 u2] 45)=w0 at *
  refine (W1.out _).mono ?_
  rintro e w1 ⟨rfl,b1⟩
  have B1:=hidd (belowT B0.out b1)
  have S1:=hidd (S0.out.keep b1)
  clear y0 y1 y2 y3 S0 B0 b1 W1
  obtain ⟨y0,y1,y2,y3⟩:=S1.out
  rcases h3 with ⟨rfl,rfl⟩ | ⟨rfl,h3⟩ | ⟨rfl,h3⟩ | ⟨rfl,h3⟩
  · go_wp2_with fail
    go_ret
    exact ⟨rfl,B1.out⟩
  all_goals
   go_wp2_with fail
   refine (W2.out _).mono ?_
   rintro e w2 ⟨rfl,b2⟩
   have B2:=hidd (belowT B1.out b2)
   have S2:=hidd (S1.out.keep b2)
   clear y0 y1 y2 y3 S1 B1 b2 W2
   obtain ⟨y0,y1,y2,y3⟩:=S2.out
  · obtain ⟨rfl,rfl⟩:=h3
    go_wp2_with fail
    go_ret
    exact ⟨rfl,B2.out⟩
  · obtain ⟨rfl,rfl,rfl⟩:=h3
    go_wp2_with fail
    refine (TU.out _).mono ?_
    rintro e w3 ⟨rfl,b3⟩
    have B3:=hidd (belowT B2.out b3)
    clear y0 y1 y2 y3 b3
    go_wp2_with fail
    go_ret
    exact ⟨rfl,B3.out⟩
  · obtain ⟨rfl,rfl,rfl⟩:=h3
    go_wp2_with fail
    refine (TU.out _).mono ?_
    rintro e w3 ⟨rfl,b3⟩
    have B3:=hidd (belowT B2.out b3)
    clear y0 y1 y2 y3 b3
    go_wp2_with fail
    go_ret
    exact ⟨rfl,B3.out⟩
theorem q_fault (l1 l2 u1 u2 r t:Int) (h:MayT l1 l2 u1 u2 r t) (w:World) :
 Calls Tryz.prog 26 #[.agg #[.int .i64 l1,.int .i64 l2,.int .i64 u1,.int .i64 u2],.int .i64 r] w fun e w'=>e=.returned (.int .i64 t)∧Below w.heap.size w w':=by
 have TU:∀ w,Calls Tryz.prog 22 #[.agg #[.int .i64 l1,.int .i64 l2,.int .i64 u1,.int .i64 u2]] w fun e w'=>e=.returned (.bool (decide (u1 < l1∨u2 < l2)))∧Below w.heap.size w w':=fun w=>by
  refine q_turned l1 l2 u1 u2 _ ?_ w
  simp only [decide_eq_false_iff_not,decide_eq_true_eq]
  omega
 refine q_fault_core l1 l2 u1 u2 r t (inWB l1 l2) (inWB u1 u2) _ ?_ (fun w=>pok_at l1 l2 _ rfl w) (fun w=>pok_at u1 u2 _ rfl w) TU w
 unfold MayT at h
 have e1:inWB l1 l2=true↔InW l1 l2:=⟨inWB_yes,inWB_mk⟩
 have e2:inWB u1 u2=true↔InW u1 u2:=⟨inWB_yes,inWB_mk⟩
 cases p:inWB l1 l2 <;>cases q:inWB u1 u2 <;>rw [p] at e1 <;>rw [q] at e2 <;>simp only [Bool.false_eq_true,false_iff,true_iff] at e1 e2
 all_goals
  simp only [decide_eq_false_iff_not,decide_eq_true_eq,true_and,false_and,or_false,false_or,Bool.false_eq_true,Bool.true_eq_false]
  simp only [e1,e2,and_self,and_true,true_and,and_false,false_and,not_false_eq_true,not_true_eq_false,or_false,false_or] at h
  omega
end Go.Proofs.YtdklpgphmoaniabGreatDoor
