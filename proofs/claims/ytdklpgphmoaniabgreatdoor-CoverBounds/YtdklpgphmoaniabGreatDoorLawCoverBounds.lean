/-
  The law CoverBounds holds: whatever numbers come in; in whatever memory where the three tables hold what their texts lay. Over the contracts of package cover.
-/
import Derived.Test.YtdklpgphmoaniabGreatDoorCovQuarter
import Derived.Test.YtdklpgphmoaniabGreatDoorJn39
import Derived.Test.YtdklpgphmoaniabGreatDoorQMany
namespace Go.Proofs.YtdklpgphmoaniabGreatDoor
open Go.RowKit
theorem maskB29 (n:Int):bits .and .i64 n 536870911=n%536870912:=by
 have:=i64_mask n 29 (by omega)
 simpa using this
theorem maskB8 (n:Int):bits .and .i64 n 255=n%256:=by
 have:=i64_mask n 8 (by omega)
 simpa using this
set_option maxHeartbeats 16000000 in
set_option maxRecDepth 20000 in
theorem coverBounds_walk (x0 y0 r0:Int) (W:World) (hT:Cov3 W) :
 Calls Tryz.prog 4 #[.int .i64 x0,.int .i64 y0,.int .i64 r0] W fun e w'=>e=.returned (.bool true)∧Below W.heap.size W w':=by
 have m1:=maskB29 x0
 have m2:=maskB29 y0
 have m3:=maskB8 r0
 obtain ⟨x,hx⟩:∃ x,x0%536870912=x:=⟨_,rfl⟩
 obtain ⟨y,hy⟩:∃ y,y0%536870912=y:=⟨_,rfl⟩
 have bx:0≤x∧x < 536870912:=by omega
 have bx2:0≤y∧y < 536870912:=by omega
 rw [hx] at m1
 rw [hy] at m2
 clear hx hy
 obtain ⟨n,hn⟩:∃ n,r0%256=n:=⟨_,rfl⟩
 have bn:0≤n∧n < 256:=by omega
 rw [hn] at m3
 clear hn
 obtain ⟨t,ht⟩:∃ t,n.tmod 4=t:=⟨_,rfl⟩
 have bt:0≤t∧t < 4:=by
  have h:=ht
  rw [Int.tmod_eq_emod_of_nonneg (by omega)] at h
  omega
 obtain ⟨r,hr⟩:∃ r:Nat,t+9=(r:Int):=⟨(t+9).toNat,by omega⟩
 obtain ⟨K,hs⟩:∃ K:Nat,12 - (r:Int)=(K:Int):=⟨(12 - (r:Int)).toNat,by omega⟩
 have hK:K≤3:=by omega
 have hM:=many_fine hK hs bx bx2
 have BA:Hid (∀ w,Cov3 w→Calls Tryz.prog 8 #[.agg #[.int .i64 x,.int .i64 y],.agg #[.int .i64 (x+268435456),.int .i64 (y+268435456)],.int .i64 (r:Int)] w fun e w'=>(∃ p c,e=.returned (.tuple #[.slice p 0 c,.int .i64 7]))∧Below w.heap.size w w') :=
  hidd fun w hT=>(p_box x y (x+268435456) (y+268435456) r K (by omega) hs bx.1 bx2.1 (by omega) (by omega) (by omega) (by omega) w hT).mono fun e w' h=>⟨h.1.many hM,h.2⟩
 have CA:=hidd fun w hT=>p_centres_many x y (x+268435456) (y+268435456) r K (by omega) hs bx.1 bx2.1 (by omega) (by omega) (by omega) (by omega) hM w hT
 have BQ:Hid (∀ w,Cov3 w→Calls Tryz.prog 8 #[.agg #[.int .i64 0,.int .i64 0],.agg #[.int .i64 536870911,.int .i64 536870911],.int .i64 0] w fun e w'=>(∃ (p:Option Addr) (n c:Nat),e=.returned (.tuple #[.slice p n c,.int .i64 0])∧(8000:Int) < (n:Int)∧(n:Int) < 10000)∧Below w.heap.size w w') :=
  hidd fun w hT=>(p_box 0 0 536870911 536870911 0 12 (by omega) (by omega) (by omega) (by omega) (by omega) (by omega) (by omega) (by omega) w hT).mono fun e w' h=>⟨by
   obtain ⟨s,L,rfl,g1,g2,g3,g4⟩:=h.1.row fun ⟨L,k1,k2,k3⟩=>by
    have:=few_quarter k1 k2
    omega
   have h1:=many_quarter.all g3
   have h2:=few_quarter (rising_nodup g2) fun z hz=>(g3 z).1 hz
   obtain ⟨p,c,rfl,-⟩:=g1.form
   exact ⟨p,L.length,c,rfl,by omega,by omega⟩,h.2⟩
 have BW:Hid (∀ w,Cov3 w→Calls Tryz.prog 8 #[.agg #[.int .i64 0,.int .i64 0],.agg #[.int .i64 1073741823,.int .i64 1073741823],.int .i64 0] w fun e w'=>(∃ p c,e=.returned (.tuple #[.slice p 0 c,.int .i64 7]))∧Below w.heap.size w w') :=
  hidd fun w hT=>(p_box 0 0 1073741823 1073741823 0 12 (by omega) (by omega) (by omega) (by omega) (by omega) (by omega) (by omega) (by omega) w hT).mono fun e w' h=>⟨h.1.many many_world,h.2⟩
 have HT:=hidd hT
 have AW:=hidd fun w hT=>cawake10 w hT
 have r12:(r:Int)≤12∧9≤(r:Int):=by omega
 clear hM hs hK hT
 go_enter Tryz.func4,Tryz.ntmps4
 go_wp2_with fail
 refine (BA.out _ HT.out).mono ?_
 rintro e w1 ⟨⟨p1,c1,rfl⟩,b1⟩
 have H1:=hidd (HT.out.below b1)
 have B1:=hidd b1
 clear BA b1 HT
 go_wp2_with fail
 refine (CA.out _ H1.out).mono ?_
 rintro e w2 ⟨⟨p2,c2,rfl⟩,b2⟩
 have H2:=hidd (H1.out.below b2)
 have B2:=hidd (belowT B1.out b2)
 clear CA b2 H1 B1
 go_wp2_with fail
 refine (BQ.out _ H2.out).mono ?_
 rintro e w3 ⟨⟨p3,n3,c3,rfl,k1,k2⟩,b3⟩
 have H3:=hidd (H2.out.below b3)
 have B3:=hidd (belowT B2.out b3)
 clear BQ b3 H2 B2
 go_wp2_with fail
 refine (BW.out _ H3.out).mono ?_
 rintro e w4 ⟨⟨p4,c4,rfl⟩,b4⟩
 have H4:=hidd (H3.out.below b4)
 have B4:=hidd (belowT B3.out b4)
 clear BW b4 H3 B3
 go_wp2_with fail
 refine (AW.out _ H4.out).mono ?_
 rintro e w5 ⟨rfl,b5⟩
 go_wp2_with fail
 go_ret
 exact ⟨rfl,belowT B4.out b5⟩
end Go.Proofs.YtdklpgphmoaniabGreatDoor
