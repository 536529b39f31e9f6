/-
  What the document's own Less of two wide numbers tells, and on which side of a way a point lies, for any numbers within the bounds written, in whatever memory.
-/
import Derived.Test.YtdklpgphmoaniaaGreatDoorR1X
namespace Go.Proofs.YtdklpgphmoaniaaGreatDoor
open Go.RowKit
set_option maxHeartbeats 400000 in
theorem below_raw (a b s:Int) (hs:a / 9223372036854775808=s) (w:World) :
 Calls Tryz.prog 122 #[.agg #[.int .u64 a,.int .u64 b]] w fun e w'=>e=.returned (.bool (s == 1))∧Below w.heap.size w w':=by
 go_enter Tryz.func122,Tryz.ntmps122
 go_wp2
 go_ret
 exact ⟨rfl,by go_grown⟩
theorem below_any (z:Int) (v:Bool) (hv:decide (z < 0)=v) (z1: -170141183460469231731687303715884105728≤z) (z2:z≤170141183460469231731687303715884105727) (w:World) :
 Calls Tryz.prog 122 #[.agg #[.int .u64 (high64 z),.int .u64 (low64 z)]] w fun e w'=>e=.returned (.bool v)∧Below w.heap.size w w':=by
 have h:=below_raw (high64 z) (low64 z) _ rfl w
 have e:(high64 z / 9223372036854775808 == 1)=v:=by
  rw [← hv]
  by_cases hz:z < 0
  · rw [decide_eq_true hz,beq_iff_eq];unfold high64;omega
  · rw [decide_eq_false hz]
    have:¬ high64 z / 9223372036854775808=1:=by unfold high64;omega
    simpa using this
 rw [e] at h
 exact h
theorem keepFour {w0 a b:World} {p0 p1 p2 p3:Addr} {v0 v1 v2 v3:Value} (hb:Below a.heap.size a b) (h:a.cell? p0=some v0∧a.cell? p1=some v1∧a.cell? p2=some v2∧a.cell? p3=some v3∧Below w0.heap.size w0 a) :
 b.cell? p0=some v0∧b.cell? p1=some v1∧b.cell? p2=some v2∧b.cell? p3=some v3∧Below w0.heap.size w0 b:=⟨keepCell hb h.1,keepCell hb h.2.1,keepCell hb h.2.2.1,keepCell hb h.2.2.2.1,belowT h.2.2.2.2 hb⟩
set_option maxHeartbeats 1000000 in
theorem less_any (l r:Int) (v:Bool) (hv:decide (l < r)=v) (l1: -85070591730234615865843651857942052864≤l) (l2:l≤85070591730234615865843651857942052863) (r1: -85070591730234615865843651857942052864≤r) (r2:r≤85070591730234615865843651857942052863) (w:World) :
 Calls Tryz.prog 87 #[.agg #[.int .u64 (high64 l),.int .u64 (low64 l)],.agg #[.int .u64 (high64 r),.int .u64 (low64 r)]] w fun e w'=>e=.returned (.bool v)∧Below w.heap.size w w':=by
 have BE:Hid (∀ w,Calls Tryz.prog 122 #[.agg #[.int .u64 (high64 (l+-r)),.int .u64 (low64 (l+-r))]] w fun e w'=>e=.returned (.bool v)∧Below w.heap.size w w') :=
  below_any (l+-r) v (by rw [← hv];congr 1;apply propext;omega) (by omega) (by omega)
 have TU:Hid (∀ w,Calls Tryz.prog 65 #[.agg #[.int .u64 (high64 r),.int .u64 (low64 r)]] w fun e w'=>e=.returned (.agg #[.int .u64 (high64 (-r)),.int .u64 (low64 (-r))])∧Below w.heap.size w w'):=turned_any r
 have PU:Hid (∀ w,Calls Tryz.prog 64 #[.agg #[.int .u64 (high64 l),.int .u64 (low64 l)],.agg #[.int .u64 (high64 (-r)),.int .u64 (low64 (-r))]] w fun e w'=>e=.returned (.agg #[.int .u64 (high64 (l+-r)),.int .u64 (low64 (l+-r))])∧Below w.heap.size w w'):=plus_any l (-r)
 clear hv l1 l2 r1 r2
 generalize high64 (l+-r)=A at *
 generalize low64 (l+-r)=B at *
 generalize high64 (-r)=C at *
 generalize low64 (-r)=D at *
 generalize high64 l=E at *
 generalize low64 l=F at *
 generalize high64 r=G at *
 generalize low64 r=H at *
 have s0:((w.alloc (.cells #[.int .u64 E,.int .u64 F] 107)).alloc (.cells #[.int .u64 G,.int .u64 H] 107)).drew.cell? ⟨w.heap.size,0,none⟩=some (.int .u64 E):=by go_simp
 have s1:((w.alloc (.cells #[.int .u64 E,.int .u64 F] 107)).alloc (.cells #[.int .u64 G,.int .u64 H] 107)).drew.cell? ⟨w.heap.size,1,none⟩=some (.int .u64 F):=by go_simp
 have s2:((w.alloc (.cells #[.int .u64 E,.int .u64 F] 107)).alloc (.cells #[.int .u64 G,.int .u64 H] 107)).drew.cell? ⟨w.heap.size+1,0,none⟩=some (.int .u64 G):=by go_simp
 have s3:((w.alloc (.cells #[.int .u64 E,.int .u64 F] 107)).alloc (.cells #[.int .u64 G,.int .u64 H] 107)).drew.cell? ⟨w.heap.size+1,1,none⟩=some (.int .u64 H):=by go_simp
 have hbw:Below w.heap.size w ((w.alloc (.cells #[.int .u64 E,.int .u64 F] 107)).alloc (.cells #[.int .u64 G,.int .u64 H] 107)).drew:=(((Below.refl _ _).alloc (Nat.le_refl _) _).alloc (by simp) _).drew
 go_enter Tryz.func87,Tryz.ntmps87
 go_wp2_with fail
 go_region_held3 (fun w'=>w'.cell? ⟨w.heap.size,0,none⟩=some (.int .u64 E)∧w'.cell? ⟨w.heap.size,1,none⟩=some (.int .u64 F)∧w'.cell? ⟨w.heap.size+1,0,none⟩=some (.int .u64 G)∧w'.cell? ⟨w.heap.size+1,1,none⟩=some (.int .u64 H)∧Below w.heap.size w w') (first | exact ⟨s0,s1,s2,s3,hbw⟩ | exact keepFour hb (by assumption))
  (first | (go_at_call 65;refine (TU.out _).mono ?_;rintro e w' ⟨rfl,hb⟩) | (go_at_call 64;refine (PU.out _).mono ?_;rintro e w' ⟨rfl,hb⟩) | (go_at_call 122;refine (BE.out _).mono ?_;rintro e w' ⟨rfl,hb⟩))
 rename_i hS
 go_wp2
 go_ret
 exact ⟨rfl,hS.2.2.2.2⟩
theorem prod_side {a b:Int} (a1: -4611686018427387904≤a) (a2:a≤4611686018427387904) (b1: -4611686018427387904≤b) (b2:b≤4611686018427387904) :
 -85070591730234615865843651857942052864≤a*b∧a*b≤85070591730234615865843651857942052863:=by
 have h:(a*b).natAbs≤4611686018427387904*4611686018427387904:=by
  rw [Int.natAbs_mul];exact Nat.mul_le_mul (by omega) (by omega)
 omega
set_option maxHeartbeats 2000000 in
theorem cross_core (p0 p1 q0 q1 x y A B C D:Int) (n:Int) (u v:Bool) (hn:n=if u=true then -1 else if v=true then 1 else 0) (p01: -1152921504606846976≤p0) (p02:p0≤1152921504606846976) (p11: -1152921504606846976≤p1) (p12:p1≤1152921504606846976) (q01: -1152921504606846976≤q0) (q02:q0≤1152921504606846976) (q11: -1152921504606846976≤q1) (q12:q1≤1152921504606846976) (x1: -1152921504606846976≤x) (x2:x≤1152921504606846976) (y1: -1152921504606846976≤y) (y2:y≤1152921504606846976)
 (T1:∀ w,Calls Tryz.prog 62 #[.int .i64 (q0 - p0),.int .i64 (y - p1)] w fun e w'=>e=.returned (.agg #[.int .u64 A,.int .u64 B])∧Below w.heap.size w w')
 (T2:∀ w,Calls Tryz.prog 62 #[.int .i64 (q1 - p1),.int .i64 (x - p0)] w fun e w'=>e=.returned (.agg #[.int .u64 C,.int .u64 D])∧Below w.heap.size w w')
 (L1:∀ w,Calls Tryz.prog 87 #[.agg #[.int .u64 A,.int .u64 B],.agg #[.int .u64 C,.int .u64 D]] w fun e w'=>e=.returned (.bool u)∧Below w.heap.size w w')
 (L2:∀ w,Calls Tryz.prog 87 #[.agg #[.int .u64 C,.int .u64 D],.agg #[.int .u64 A,.int .u64 B]] w fun e w'=>e=.returned (.bool v)∧Below w.heap.size w w') (w:World) :
 Calls Tryz.prog 53 #[.agg #[.int .i64 p0,.int .i64 p1],.agg #[.int .i64 q0,.int .i64 q1],.int .i64 x,.int .i64 y] w fun e w'=>e=.returned (.int .i64 n)∧Below w.heap.size w w':=by
 replace T1:Hid _:=T1
 replace T2:Hid _:=T2
 replace L1:Hid _:=L1
 replace L2:Hid _:=L2
 cases u with
 | true =>
  obtain rfl:n= -1:=hn
  go_enter Tryz.func53,Tryz.ntmps53
  go_wp2_with fail
  refine (T1.out _).mono ?_
  rintro e w1 ⟨rfl,d1⟩
  have c1:Below w.heap.size w w1:=Below.trans (by go_grown) (d1.mono (by simp;try omega))
  have k0:w1.cell? ⟨w.heap.size,0,none⟩=some (.int .i64 p0):=keepCell d1 (by go_simp)
  have qk0:=World.block_lt_of_cell? _ _ k0
  have k1:w1.cell? ⟨w.heap.size,1,none⟩=some (.int .i64 p1):=keepCell d1 (by go_simp)
  have m0:w1.cell? ⟨w.heap.size+1,0,none⟩=some (.int .i64 q0):=keepCell d1 (by go_simp)
  have qm0:=World.block_lt_of_cell? _ _ m0
  have m1:w1.cell? ⟨w.heap.size+1,1,none⟩=some (.int .i64 q1):=keepCell d1 (by go_simp)
  have hB:=c1
  clear c1 d1
  go_wp2_with fail
  refine (T2.out _).mono ?_
  rintro e w2 ⟨rfl,d2⟩
  have c2:Below w1.heap.size w1 w2:=Below.trans (by go_grown) (d2.mono (by simp;try omega))
  replace k0:=keepCell c2 k0
  replace qk0:=World.block_lt_of_cell? _ _ k0
  replace k1:=keepCell c2 k1
  replace m0:=keepCell c2 m0
  replace qm0:=World.block_lt_of_cell? _ _ m0
  replace m1:=keepCell c2 m1
  have s0:w2.cell? ⟨w1.heap.size,0,none⟩=some (.int .u64 A):=keepCell d2 (by go_simp)
  have qs0:=World.block_lt_of_cell? _ _ s0
  have s1:w2.cell? ⟨w1.heap.size,1,none⟩=some (.int .u64 B):=keepCell d2 (by go_simp)
  replace hB:=belowT hB c2
  clear c2 d2
  go_wp2_with fail
  refine (L1.out _).mono ?_
  rintro e w3 ⟨rfl,d3⟩
  have c3:Below w2.heap.size w2 w3:=Below.trans (by go_grown) (d3.mono (by simp;try omega))
  replace k0:=keepCell c3 k0
  replace qk0:=World.block_lt_of_cell? _ _ k0
  replace k1:=keepCell c3 k1
  replace m0:=keepCell c3 m0
  replace qm0:=World.block_lt_of_cell? _ _ m0
  replace m1:=keepCell c3 m1
  replace s0:=keepCell c3 s0
  replace qs0:=World.block_lt_of_cell? _ _ s0
  replace s1:=keepCell c3 s1
  have t0:w3.cell? ⟨w2.heap.size,0,none⟩=some (.int .u64 C):=keepCell d3 (by go_simp)
  have qt0:=World.block_lt_of_cell? _ _ t0
  have t1:w3.cell? ⟨w2.heap.size,1,none⟩=some (.int .u64 D):=keepCell d3 (by go_simp)
  replace hB:=belowT hB c3
  clear c3 d3
  go_wp2
  go_ret
  exact ⟨rfl,hB⟩
 | false =>
  cases v with
  | true =>
   obtain rfl:n=1:=hn
   go_enter Tryz.func53,Tryz.ntmps53
   go_wp2_with fail
   refine (T1.out _).mono ?_
   rintro e w1 ⟨rfl,d1⟩
   have c1:Below w.heap.size w w1:=Below.trans (by go_grown) (d1.mono (by simp;try omega))
   have k0:w1.cell? ⟨w.heap.size,0,none⟩=some (.int .i64 p0):=keepCell d1 (by go_simp)
   have qk0:=World.block_lt_of_cell? _ _ k0
   have k1:w1.cell? ⟨w.heap.size,1,none⟩=some (.int .i64 p1):=keepCell d1 (by go_simp)
   have m0:w1.cell? ⟨w.heap.size+1,0,none⟩=some (.int .i64 q0):=keepCell d1 (by go_simp)
   have qm0:=World.block_lt_of_cell? _ _ m0
   have m1:w1.cell? ⟨w.heap.size+1,1,none⟩=some (.int .i64 q1):=keepCell d1 (by go_simp)
   have hB:=c1
   clear c1 d1
   go_wp2_with fail
   refine (T2.out _).mono ?_
   rintro e w2 ⟨rfl,d2⟩
   have c2:Below w1.heap.size w1 w2:=Below.trans (by go_grown) (d2.mono (by simp;try omega))
   replace k0:=keepCell c2 k0
   replace qk0:=World.block_lt_of_cell? _ _ k0
   replace k1:=keepCell c2 k1
   replace m0:=keepCell c2 m0
   replace qm0:=World.block_lt_of_cell? _ _ m0
   replace m1:=keepCell c2 m1
   have s0:w2.cell? ⟨w1.heap.size,0,none⟩=some (.int .u64 A):=keepCell d2 (by go_simp)
   have qs0:=World.block_lt_of_cell? _ _ s0
   have s1:w2.cell? ⟨w1.heap.size,1,none⟩=some (.int .u64 B):=keepCell d2 (by go_simp)
   replace hB:=belowT hB c2
   clear c2 d2
   go_wp2_with fail
   refine (L1.out _).mono ?_
   rintro e w3 ⟨rfl,d3⟩
   have c3:Below w2.heap.size w2 w3:=Below.trans (by go_grown) (d3.mono (by simp;try omega))
   replace k0:=keepCell c3 k0
   replace qk0:=World.block_lt_of_cell? _ _ k0
   replace k1:=keepCell c3 k1
   replace m0:=keepCell c3 m0
   replace qm0:=World.block_lt_of_cell? _ _ m0
   replace m1:=keepCell c3 m1
   replace s0:=keepCell c3 s0
   replace qs0:=World.block_lt_of_cell? _ _ s0
   replace s1:=keepCell c3 s1
   have t0:w3.cell? ⟨w2.heap.size,0,none⟩=some (.int .u64 C):=keepCell d3 (by go_simp)
   have qt0:=World.block_lt_of_cell? _ _ t0
   have t1:w3.cell? ⟨w2.heap.size,1,none⟩=some (.int .u64 D):=keepCell d3 (by go_simp)
   replace hB:=belowT hB c3
   clear c3 d3
   go_wp2_with fail
   refine (L2.out _).mono ?_
   rintro e w4 ⟨rfl,d4⟩
   have c4:Below w3.heap.size w3 w4:=Below.trans (by go_grown) (d4.mono (by simp;try omega))
   replace k0:=keepCell c4 k0
   replace qk0:=World.block_lt_of_cell? _ _ k0
   replace k1:=keepCell c4 k1
   replace m0:=keepCell c4 m0
   replace qm0:=World.block_lt_of_cell? _ _ m0
   replace m1:=keepCell c4 m1
   replace s0:=keepCell c4 s0
   replace qs0:=World.block_lt_of_cell? _ _ s0
   replace s1:=keepCell c4 s1
   replace t0:=keepCell c4 t0
   replace qt0:=World.block_lt_of_cell? _ _ t0
   replace t1:=keepCell c4 t1
   replace hB:=belowT hB c4
   clear c4 d4
   go_wp2
   go_ret
   exact ⟨rfl,hB⟩
  | false =>
   obtain rfl:n=0:=hn
   go_enter Tryz.func53,Tryz.ntmps53
   go_wp2_with fail
   refine (T1.out _).mono ?_
   rintro e w1 ⟨rfl,d1⟩
   have c1:Below w.heap.size w w1:=Below.trans (by go_grown) (d1.mono (by simp;try omega))
   have k0:w1.cell? ⟨w.heap.size,0,none⟩=some (.int .i64 p0):=keepCell d1 (by go_simp)
   have qk0:=World.block_lt_of_cell? _ _ k0
   have k1:w1.cell? ⟨w.heap.size,1,none⟩=some (.int .i64 p1):=keepCell d1 (by go_simp)
   have m0:w1.cell? ⟨w.heap.size+1,0,none⟩=some (.int .i64 q0):=keepCell d1 (by go_simp)
   have qm0:=World.block_lt_of_cell? _ _ m0
   have m1:w1.cell? ⟨w.heap.size+1,1,none⟩=some (.int .i64 q1):=keepCell d1 (by go_simp)
   have hB:=c1
   clear c1 d1
   go_wp2_with fail
   refine (T2.out _).mono ?_
   rintro e w2 ⟨rfl,d2⟩
   have c2:Below w1.heap.size w1 w2:=Below.trans (by go_grown) (d2.mono (by simp;try omega))
   replace k0:=keepCell c2 k0
   replace qk0:=World.block_lt_of_cell? _ _ k0
   replace k1:=keepCell c2 k1
   replace m0:=keepCell c2 m0
   replace qm0:=World.block_lt_of_cell? _ _ m0
   replace m1:=keepCell c2 m1
   have s0:w2.cell? ⟨w1.heap.size,0,none⟩=some (.int .u64 A):=keepCell d2 (by go_simp)
   have qs0:=World.block_lt_of_cell? _ _ s0
   have s1:w2.cell? ⟨w1.heap.size,1,none⟩=some (.int .u64 B):=keepCell d2 (by go_simp)
   replace hB:=belowT hB c2
   clear c2 d2
   go_wp2_with fail
   refine (L1.out _).mono ?_
   rintro e w3 ⟨rfl,d3⟩
   have c3:Below w2.heap.size w2 w3:=Below.trans (by go_grown) (d3.mono (by simp;try omega))
   replace k0:=keepCell c3 k0
   replace qk0:=World.block_lt_of_cell? _ _ k0
   replace k1:=keepCell c3 k1
   replace m0:=keepCell c3 m0
   replace qm0:=World.block_lt_of_cell? _ _ m0
   replace m1:=keepCell c3 m1
   replace s0:=keepCell c3 s0
   replace qs0:=World.block_lt_of_cell? _ _ s0
   replace s1:=keepCell c3 s1
   have t0:w3.cell? ⟨w2.heap.size,0,none⟩=some (.int .u64 C):=keepCell d3 (by go_simp)
   have qt0:=World.block_lt_of_cell? _ _ t0
   have t1:w3.cell? ⟨w2.heap.size,1,none⟩=some (.int .u64 D):=keepCell d3 (by go_simp)
   replace hB:=belowT hB c3
   clear c3 d3
   go_wp2_with fail
   refine (L2.out _).mono ?_
   rintro e w4 ⟨rfl,d4⟩
   have c4:Below w3.heap.size w3 w4:=Below.trans (by go_grown) (d4.mono (by simp;try omega))
   replace k0:=keepCell c4 k0
   replace qk0:=World.block_lt_of_cell? _ _ k0
   replace k1:=keepCell c4 k1
   replace m0:=keepCell c4 m0
   replace qm0:=World.block_lt_of_cell? _ _ m0
   replace m1:=keepCell c4 m1
   replace s0:=keepCell c4 s0
   replace qs0:=World.block_lt_of_cell? _ _ s0
   replace s1:=keepCell c4 s1
   replace t0:=keepCell c4 t0
   replace qt0:=World.block_lt_of_cell? _ _ t0
   replace t1:=keepCell c4 t1
   replace hB:=belowT hB c4
   clear c4 d4
   go_wp2
   go_ret
   exact ⟨rfl,hB⟩
theorem cross_any (p0 p1 q0 q1 x y n:Int) (hn:n=if decide ((q0 - p0)*(y - p1) < (q1 - p1)*(x - p0))=true then -1 else if decide ((q1 - p1)*(x - p0) < (q0 - p0)*(y - p1))=true then 1 else 0) (p01: -1152921504606846976≤p0) (p02:p0≤1152921504606846976) (p11: -1152921504606846976≤p1) (p12:p1≤1152921504606846976) (q01: -1152921504606846976≤q0) (q02:q0≤1152921504606846976) (q11: -1152921504606846976≤q1) (q12:q1≤1152921504606846976) (x1: -1152921504606846976≤x) (x2:x≤1152921504606846976) (y1: -1152921504606846976≤y) (y2:y≤1152921504606846976) (w:World) :
 Calls Tryz.prog 53 #[.agg #[.int .i64 p0,.int .i64 p1],.agg #[.int .i64 q0,.int .i64 q1],.int .i64 x,.int .i64 y] w fun e w'=>e=.returned (.int .i64 n)∧Below w.heap.size w w':=by
 have h1:=prod_side (a:=q0 - p0) (b:=y - p1) (by omega) (by omega) (by omega) (by omega)
 have h2:=prod_side (a:=q1 - p1) (b:=x - p0) (by omega) (by omega) (by omega) (by omega)
 exact cross_core p0 p1 q0 q1 x y _ _ _ _ n _ _ hn p01 p02 p11 p12 q01 q02 q11 q12 x1 x2 y1 y2 (times_any _ _ (by omega) (by omega) (by omega) (by omega)) (times_any _ _ (by omega) (by omega) (by omega) (by omega))
  (less_any _ _ _ rfl h1.1 h1.2 h2.1 h2.2) (less_any _ _ _ rfl h2.1 h2.2 h1.1 h1.2) w
end Go.Proofs.YtdklpgphmoaniaaGreatDoor
