/-
  Where too many cells touch a box, package cover tells so; in whatever memory where the tables hold what their texts lay.
-/
import Derived.Test.YtdklpgphmoaniabGreatDoorPCov
namespace Go.Proofs.YtdklpgphmoaniabGreatDoor
open Go.RowKit
theorem q_touching_many (l1 l2 u1 u2:Int) (r K:Nat) (hK:K≤12) (hr:12 - (r:Int)=(K:Int)) (h1:0≤l1) (h2:0≤l2) (h3:u1 < 1073741824) (h4:u2 < 1073741824) (h5:l1≤u1) (h6:l2≤u2) (hM:Many K l1 l2 u1 u2 r 20000) (w:World) (hT:Cov3 w) :
 Calls Tryz.prog 14 #[.agg #[.int .i64 l1,.int .i64 l2,.int .i64 u1,.int .i64 u2],.int .i64 (r:Int)] w fun e w'=>(∃ p c,e=.returned (.tuple #[.slice p 0 c,.int .i64 7]))∧Below w.heap.size w w' :=
 (q_touching l1 l2 u1 u2 (r:Int) K hK hr h1 h2 h3 h4 h5 h6 w hT).mono fun e w' ⟨h,hb⟩=>⟨by
   rcases h with ⟨v,F,-,-,-,f3,f4⟩ | ⟨k,-⟩
   · obtain ⟨L,m1,m2,m3⟩:=hM
     have:=nodup_len m1 fun x hx=>(wdL_mem hK hr h1 h2 h3 h4 f3 x).2 (m2 x hx)
     rw [wdL_len] at this
     omega
   · exact k,hb⟩
set_option maxHeartbeats 8000000 in
set_option maxRecDepth 100000 in
theorem p_centres_many (l1 l2 u1 u2:Int) (r K:Nat) (hK:K≤12) (hr:12 - (r:Int)=(K:Int)) (h1:0≤l1) (h2:0≤l2) (h3:u1 < 1073741824) (h4:u2 < 1073741824) (h5:l1≤u1) (h6:l2≤u2) (hM:Many K l1 l2 u1 u2 r 20000) (w:World) (hT:Cov3 w) :
 Calls Tryz.prog 7 #[.agg #[.int .i64 l1,.int .i64 l2],.agg #[.int .i64 u1,.int .i64 u2],.int .i64 (r:Int)] w fun e w'=>(∃ p c,e=.returned (.tuple #[.slice p 0 c,.int .i64 7]))∧Below w.heap.size w w':=by
 have TO:=hidd fun w hT=>q_touching_many l1 l2 u1 u2 r K hK hr h1 h2 h3 h4 h5 h6 hM w hT
 have HT:=hidd hT
 have B0:=hidd (belowT (belowT (allocB w (.cells #[.int .i64 l1,.int .i64 l2] 22)) (allocB (w.alloc (.cells #[.int .i64 l1,.int .i64 l2] 22)) (.cells #[.int .i64 u1,.int .i64 u2] 22))) (allocB _ (.cells #[.int .i64 l1,.int .i64 l2,.int .i64 u1,.int .i64 u2] 45)))
 clear hM hT h1 h2 h3 h4 h5 h6 hK hr
 go_enter Tryz.func7,Tryz.ntmps7
 go_wp2_with fail
 generalize ((w.alloc (.cells #[.int .i64 l1,.int .i64 l2] 22)).alloc (.cells #[.int .i64 u1,.int .i64 u2] 22)).alloc (.cells #[.int .i64 l1,.int .i64 l2,.int .i64 u1,.int .i64 u2] 45)=w0 at *
 refine (TO.out _ (HT.out.below B0.out)).mono ?_
 rintro e w1 ⟨⟨p,c,rfl⟩,b1⟩
 have B1:=hidd (belowT B0.out b1)
 clear b1 TO
 go_wp2
 go_ret2
 exact ⟨⟨_,_,rfl⟩,B1.out⟩
end Go.Proofs.YtdklpgphmoaniabGreatDoor
