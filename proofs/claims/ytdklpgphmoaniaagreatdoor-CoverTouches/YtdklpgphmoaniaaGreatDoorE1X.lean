/-
  What the texts Mul64, EWide, NumPairs, NumFloor, NumAny, ERing, ENorm, ESmall say, so far as this seat's proofs need it.
-/
import Derived.Test.YtdklpgphmoaniaaGreatDoorPX
import Derived.Shelf.Bits.Mul64
import Derived.Deep.RegionHeld3
namespace Go.Proofs.YtdklpgphmoaniaaGreatDoor
open Go.RowKit Go.Shelf
def Tryz.lays264_ren:Go.Shelf.Ren:=⟨fun | 264=>99 | n=>n,fun | 53=>31 | 46=>67 | n=>n,fun | n=>n⟩
theorem Tryz.lays264:Go.Proofs.Lays.n264 Tryz.prog Tryz.lays264_ren:={
 mixed:=by kernel_rfl,
 f264:=Tryz.func99.trans (congrArg some (by kernel_rfl)),
 t46:=Tryz.underlying67,
 a46:=Tryz.isAgg67,
 z46:=Tryz.sizeOf67,
 v46:=Tryz.zeroValue67,
 t53:=Tryz.underlying31,
 a53:=Tryz.isAgg31,
 z53:=Tryz.sizeOf31,
 v53:=Tryz.zeroValue31 }
theorem mul64_any (p q:Int) (p0:0≤p) (p1:p≤18446744073709551615) (q0:0≤q) (q1:q≤18446744073709551615) (w:World) :
 Calls Tryz.prog 99 #[.int .u64 p,.int .u64 q] w fun e w'=>e=.returned (.tuple #[.int .u64 (high64 (p*q)),.int .u64 (low64 (p*q))])∧w'=w:=by
 obtain ⟨P,rfl⟩:=Int.eq_ofNat_of_zero_le p0
 obtain ⟨Q,rfl⟩:=Int.eq_ofNat_of_zero_le q0
 have h:=Any.bits_Mul64 Tryz.lays264 P Q (by omega) (by omega) w
 have hlt:P*Q < 18446744073709551616*18446744073709551616:=Nat.mul_lt_mul'' (by omega) (by omega)
 have e1:((P*Q / 18446744073709551616:Nat):Int)=high64 ((P:Int)*(Q:Int)):=by
  rw [← Int.natCast_mul];unfold high64;omega
 have e2:((P*Q%18446744073709551616:Nat):Int)=low64 ((P:Int)*(Q:Int)):=by
  rw [← Int.natCast_mul];unfold low64;omega
 rw [e1,e2] at h
 exact h
set_option maxHeartbeats 400000 in
theorem eplus_raw (a b c d s cy t u:Int) (a1:0≤a) (b1:0≤b) (c1:0≤c) (d1:0≤d) (hs:(b+d+0)%18446744073709551616=s) (hcy:(b+d+0) / 18446744073709551616=cy) (cy0:0≤cy) (cy1:cy≤1)
 (ht:(a+c+cy)%18446744073709551616=t) (hu:(a+c+cy) / 18446744073709551616=u) (w:World) :
 Calls Tryz.prog 130 #[.agg #[.int .u64 a,.int .u64 b],.agg #[.int .u64 c,.int .u64 d]] w fun e w'=>e=.returned (.agg #[.int .u64 t,.int .u64 s])∧Below w.heap.size w w':=by
 have f1:=fun w=>callAdd b d 0 b1 d1 (by omega) (by omega) w
 rw [hs,hcy] at f1
 have f2:=fun w=>callAdd a c cy a1 c1 cy0 cy1 w
 rw [ht,hu] at f2
 clear hs hcy ht hu
 go_enter Tryz.func130,Tryz.ntmps130
 go_wp2
 go_returns
 exact ⟨rfl,by go_grown⟩
theorem eplus_any (x y:Int) (w:World) :
 Calls Tryz.prog 130 #[.agg #[.int .u64 (high64 x),.int .u64 (low64 x)],.agg #[.int .u64 (high64 y),.int .u64 (low64 y)]] w fun e w'=>e=.returned (.agg #[.int .u64 (high64 (x+y)),.int .u64 (low64 (x+y))])∧Below w.heap.size w w':=by
 have hx:=low64_bd x;have hy:=low64_bd y;have kx:=high64_bd x;have ky:=high64_bd y
 refine eplus_raw (high64 x) (low64 x) (high64 y) (low64 y) (low64 (x+y)) ((low64 x+low64 y+0) / 18446744073709551616) (high64 (x+y)) _ kx.1 hx.1 ky.1 hy.1 ?_ rfl (by omega) (by omega) ?_ rfl w
 · unfold low64;omega
 · unfold high64 low64;omega
set_option maxHeartbeats 400000 in
theorem eminus_raw (a b c d s cy t u:Int) (a1:0≤a) (b1:0≤b) (c1:0≤c) (c2:c < 18446744073709551616) (d1:0≤d) (d2:d < 18446744073709551616) (hs:(b - d - 0)%18446744073709551616=s) (hcy:(if b < d+0 then (1:Int) else 0)=cy) (cy0:0≤cy) (cy1:cy≤1)
 (ht:(a - c - cy)%18446744073709551616=t) (hu:(if a < c+cy then (1:Int) else 0)=u) (w:World) :
 Calls Tryz.prog 128 #[.agg #[.int .u64 a,.int .u64 b],.agg #[.int .u64 c,.int .u64 d]] w fun e w'=>e=.returned (.agg #[.int .u64 t,.int .u64 s])∧Below w.heap.size w w':=by
 have f1:=fun w=>callSub b d 0 b1 d1 d2 (by omega) (by omega) w
 rw [hs,hcy] at f1
 have f2:=fun w=>callSub a c cy a1 c1 c2 cy0 cy1 w
 rw [ht,hu] at f2
 clear hs hcy ht hu
 go_enter Tryz.func128,Tryz.ntmps128
 go_wp2
 go_returns
 exact ⟨rfl,by go_grown⟩
theorem eminus_any (x y:Int) (w:World) :
 Calls Tryz.prog 128 #[.agg #[.int .u64 (high64 x),.int .u64 (low64 x)],.agg #[.int .u64 (high64 y),.int .u64 (low64 y)]] w fun e w'=>e=.returned (.agg #[.int .u64 (high64 (x - y)),.int .u64 (low64 (x - y))])∧Below w.heap.size w w':=by
 have hx:=low64_bd x;have hy:=low64_bd y;have kx:=high64_bd x;have ky:=high64_bd y
 have hc:∃ cy:Int,(if low64 x < low64 y+0 then (1:Int) else 0)=cy∧0≤cy∧cy≤1∧(low64 x < low64 y→cy=1)∧(¬ low64 x < low64 y→cy=0):=by
  by_cases h:low64 x < low64 y
  · exact ⟨1,if_pos (by omega),by omega,by omega,fun _=>rfl,fun k=>absurd h k⟩
  · exact ⟨0,if_neg (by omega),by omega,by omega,fun k=>absurd k h,fun _=>rfl⟩
 obtain ⟨cy,h1,h2,h3,h4,h5⟩:=hc
 refine eminus_raw (high64 x) (low64 x) (high64 y) (low64 y) (low64 (x - y)) cy (high64 (x - y)) _ kx.1 hx.1 ky.1 (by omega) hy.1 (by omega) ?_ h1 h2 h3 ?_ rfl w
 · unfold low64;omega
 · clear h1
   by_cases h:low64 x < low64 y
   · rw [h4 h];clear h4 h5;unfold high64 low64 at *;omega
   · rw [h5 h];clear h4 h5;unfold high64 low64 at *;omega
set_option maxHeartbeats 400000 in
theorem eprod_pp (a b s t:Int) (ha:¬ a < 0) (hb:¬ b < 0) (a2:a≤9223372036854775807) (b2:b≤9223372036854775807)
 (M:∀ w,Calls Tryz.prog 99 #[.int .u64 a,.int .u64 b] w fun e w'=>e=.returned (.tuple #[.int .u64 s,.int .u64 t])∧w'=w) (w:World) :
 Calls Tryz.prog 127 #[.int .i64 a,.int .i64 b] w fun e w'=>e=.returned (.agg #[.int .u64 s,.int .u64 t])∧Below w.heap.size w w':=by
 have ha':=df ha
 have hb':=df hb
 replace M:Hid _:=M
 go_enter Tryz.func127,Tryz.ntmps127
 go_wp2_with fail
 refine (M.out _).mono ?_
 rintro e w1 ⟨rfl,rfl⟩
 go_wp2
 go_returns
 exact ⟨rfl,by go_grown⟩
set_option maxHeartbeats 400000 in
theorem eprod_nn (a b x y s t r q:Int) (ha:a < 0) (hb:b < 0) (hx:IntKind.u64.wrap a=x) (hy:IntKind.u64.wrap b=y) (hr:IntKind.u64.wrap (s - y)=r) (hq:IntKind.u64.wrap (r - x)=q)
 (M:∀ w,Calls Tryz.prog 99 #[.int .u64 x,.int .u64 y] w fun e w'=>e=.returned (.tuple #[.int .u64 s,.int .u64 t])∧w'=w) (w:World) :
 Calls Tryz.prog 127 #[.int .i64 a,.int .i64 b] w fun e w'=>e=.returned (.agg #[.int .u64 q,.int .u64 t])∧Below w.heap.size w w':=by
 replace M:Hid _:=M
 go_enter Tryz.func127,Tryz.ntmps127
 go_wp2_with fail
 refine (M.out _).mono ?_
 rintro e w1 ⟨rfl,rfl⟩
 go_wp2
 go_returns
 exact ⟨rfl,by go_grown⟩
set_option maxHeartbeats 400000 in
theorem eprod_pn (a b y s t q:Int) (ha:¬ a < 0) (hb:b < 0) (a2:a≤9223372036854775807) (hy:IntKind.u64.wrap b=y) (hq:IntKind.u64.wrap (s - a)=q)
 (M:∀ w,Calls Tryz.prog 99 #[.int .u64 a,.int .u64 y] w fun e w'=>e=.returned (.tuple #[.int .u64 s,.int .u64 t])∧w'=w) (w:World) :
 Calls Tryz.prog 127 #[.int .i64 a,.int .i64 b] w fun e w'=>e=.returned (.agg #[.int .u64 q,.int .u64 t])∧Below w.heap.size w w':=by
 have ha':=df ha
 replace M:Hid _:=M
 go_enter Tryz.func127,Tryz.ntmps127
 go_wp2_with fail
 refine (M.out _).mono ?_
 rintro e w1 ⟨rfl,rfl⟩
 go_wp2
 go_returns
 exact ⟨rfl,by go_grown⟩
set_option maxHeartbeats 400000 in
theorem eprod_np (a b x s t q:Int) (ha:a < 0) (hb:¬ b < 0) (b2:b≤9223372036854775807) (hx:IntKind.u64.wrap a=x) (hq:IntKind.u64.wrap (s - b)=q)
 (M:∀ w,Calls Tryz.prog 99 #[.int .u64 x,.int .u64 b] w fun e w'=>e=.returned (.tuple #[.int .u64 s,.int .u64 t])∧w'=w) (w:World) :
 Calls Tryz.prog 127 #[.int .i64 a,.int .i64 b] w fun e w'=>e=.returned (.agg #[.int .u64 q,.int .u64 t])∧Below w.heap.size w w':=by
 have hb':=df hb
 replace M:Hid _:=M
 go_enter Tryz.func127,Tryz.ntmps127
 go_wp2_with fail
 refine (M.out _).mono ?_
 rintro e w1 ⟨rfl,rfl⟩
 go_wp2
 go_returns
 exact ⟨rfl,by go_grown⟩
theorem prod_shift (a b:Int):(a+18446744073709551616)*b=a*b+18446744073709551616*b:=by rw [Int.add_mul]
theorem prod_shift2 (a b:Int):a*(b+18446744073709551616)=a*b+18446744073709551616*a:=by rw [Int.mul_add,Int.mul_comm a 18446744073709551616]
theorem eproduct_any (a b:Int) (a1: -9223372036854775808≤a) (a2:a≤9223372036854775807) (b1: -9223372036854775808≤b) (b2:b≤9223372036854775807) (w:World) :
 Calls Tryz.prog 127 #[.int .i64 a,.int .i64 b] w fun e w'=>e=.returned (.agg #[.int .u64 (high64 (a*b)),.int .u64 (low64 (a*b))])∧Below w.heap.size w w':=by
 by_cases ha:a < 0
 · have ex:IntKind.u64.wrap a=a+18446744073709551616:=by rw [IntKind.wrap_u64];omega
   by_cases hb:b < 0
   · have ey:IntKind.u64.wrap b=b+18446744073709551616:=by rw [IntKind.wrap_u64];omega
     have M:=mul64_any (a+18446744073709551616) (b+18446744073709551616) (by omega) (by omega) (by omega) (by omega)
     have e:(a+18446744073709551616)*(b+18446744073709551616)=a*b+18446744073709551616*b+18446744073709551616*(a+18446744073709551616):=by rw [prod_shift2,prod_shift]
     have el:low64 (a*b)=low64 ((a+18446744073709551616)*(b+18446744073709551616)):=by rw [e];unfold low64;omega
     rw [el]
     refine eprod_nn a b _ _ _ _ _ _ ha hb ex ey rfl ?_ M w
     rw [IntKind.wrap_u64,IntKind.wrap_u64,e];unfold high64;omega
   · have M:=mul64_any (a+18446744073709551616) b (by omega) (by omega) (by omega) (by omega)
     have e:=prod_shift a b
     have el:low64 (a*b)=low64 ((a+18446744073709551616)*b):=by rw [e];unfold low64;omega
     rw [el]
     refine eprod_np a b _ _ _ _ ha hb b2 ex ?_ M w
     rw [IntKind.wrap_u64,e];unfold high64;omega
 · by_cases hb:b < 0
   · have ey:IntKind.u64.wrap b=b+18446744073709551616:=by rw [IntKind.wrap_u64];omega
     have M:=mul64_any a (b+18446744073709551616) (by omega) (by omega) (by omega) (by omega)
     have e:=prod_shift2 a b
     have el:low64 (a*b)=low64 (a*(b+18446744073709551616)):=by rw [e];unfold low64;omega
     rw [el]
     refine eprod_pn a b _ _ _ _ ha hb a2 ey ?_ M w
     rw [IntKind.wrap_u64,e];unfold high64;omega
   · exact eprod_pp a b _ _ ha hb a2 b2 (mul64_any a b (by omega) (by omega) (by omega) (by omega)) w
set_option maxHeartbeats 400000 in
theorem enarrow_yes (a b m p:Int) (hm:wrap64 b=m) (m1: -9223372036854775808≤m) (m2:m≤9223372036854775807) (hp:IntKind.u64.wrap (m / 9223372036854775808)=p) (h:(a == p)=true) (w:World) :
 Calls Tryz.prog 129 #[.agg #[.int .u64 a,.int .u64 b]] w fun e w'=>e=.returned (.tuple #[.int .i64 m,.bool true])∧Below w.heap.size w w':=by
 subst hm
 go_enter Tryz.func129,Tryz.ntmps129
 go_wp2
 go_ret2
 exact ⟨rfl,by go_grown⟩
set_option maxHeartbeats 400000 in
theorem enarrow_no (a b m p:Int) (hm:wrap64 b=m) (hp:IntKind.u64.wrap (m / 9223372036854775808)=p) (h:(a == p)=false) (w:World) :
 Calls Tryz.prog 129 #[.agg #[.int .u64 a,.int .u64 b]] w fun e w'=>e=.returned (.tuple #[.int .i64 0,.bool false])∧Below w.heap.size w w':=by
 go_enter Tryz.func129,Tryz.ntmps129
 go_wp2
 go_ret2
 exact ⟨rfl,by go_grown⟩
theorem enarrow_any (z:Int) (z1: -255211775190703847597530955573826158592≤z) (z2:z≤255211775190703847597530955573826158592) (w:World) :
 Calls Tryz.prog 129 #[.agg #[.int .u64 (high64 z),.int .u64 (low64 z)]] w fun e w'=>e=.returned (.tuple #[.int .i64 (kept z),.bool (fits z)])∧Below w.heap.size w w':=by
 have hw:wrap64 (low64 z)=wrap64 z:=by unfold wrap64 low64;omega
 have hb:=wrap_bd z
 by_cases h: -9223372036854775808≤z∧z≤9223372036854775807
 · rw [kept_mk (fits_mk h),fits_mk h]
   have e:=wrap_fits h
   rw [e] at hw hb
   refine enarrow_yes _ _ z _ hw hb.1 hb.2 rfl ?_ w
   rw [IntKind.wrap_u64,beq_iff_eq];unfold high64;omega
 · rw [kept_no (fits_no h),fits_no h]
   refine enarrow_no _ _ (wrap64 z) _ hw rfl ?_ w
   have:¬ high64 z=IntKind.u64.wrap (wrap64 z / 9223372036854775808):=by
    rw [IntKind.wrap_u64];unfold high64 wrap64;omega
   simpa using this
end Go.Proofs.YtdklpgphmoaniaaGreatDoor
namespace Go.Proofs.YtdklpgphmoaniaaGreatDoor
open Go.RowKit
theorem hmf:∀ (fn:Fn) (first cap:Array Value) (w:World),(Instr.makeFunc fn first cap).run Tryz.prog w=.ok (.func fn first cap) w:=fun _ _ _ _=>rfl
set_option maxHeartbeats 400000 in
theorem add_fits (a b:Int) (_ha: -9223372036854775808≤a) (_ha':a≤9223372036854775807) (h: -9223372036854775808≤a+b) (h':a+b≤9223372036854775807) (w:World) :
 Calls Tryz.prog 124 #[.int .i64 a,.int .i64 b] w fun e w'=>e=.returned (.tuple #[.int .i64 (a+b),.bool true])∧Below w.heap.size w w':=by
 have hmf:=hmf
 by_cases hp:0 < b
 · have hq:a < a+b:=by omega
   go_enter Tryz.func124,Tryz.ntmps124
   go_wp2
   go_quiet (fail)
   go_wp2
   go_ret2
   exact ⟨rfl,belowN (by go_grown) _⟩
 · have hq:=df (show ¬ a < a+b by omega)
   have hr:=df hp
   go_enter Tryz.func124,Tryz.ntmps124
   go_wp2
   go_quiet (fail)
   go_wp2
   go_ret2
   exact ⟨rfl,belowN (by go_grown) _⟩
set_option maxHeartbeats 400000 in
theorem add_over (a b:Int) (ha: -9223372036854775808≤a) (ha':a≤9223372036854775807) (hb: -9223372036854775808≤b) (hb':b≤9223372036854775807)
 (h:a+b < -9223372036854775808∨9223372036854775807 < a+b) (w:World) :
 Calls Tryz.prog 124 #[.int .i64 a,.int .i64 b] w fun e w'=>e=.returned (.tuple #[.int .i64 0,.bool false])∧Below w.heap.size w w':=by
 have hmf:=hmf
 by_cases hp:0 < b
 · obtain ⟨n,hn,hq⟩:∃ n,wrap64 (a+b)=n∧decide (a < n)=false:=⟨_,rfl,by unfold wrap64;exact df (by omega)⟩
   clear h
   go_enter Tryz.func124,Tryz.ntmps124
   go_wp2
   go_quiet (fail)
   go_wp2
   go_ret2
   exact ⟨rfl,belowN (by go_grown) _⟩
 · obtain ⟨n,hn,hq⟩:∃ n,wrap64 (a+b)=n∧a < n:=⟨_,rfl,by unfold wrap64;omega⟩
   have hr:=df hp
   clear h
   go_enter Tryz.func124,Tryz.ntmps124
   go_wp2
   go_quiet (fail)
   go_wp2
   go_ret2
   exact ⟨rfl,belowN (by go_grown) _⟩
set_option maxHeartbeats 400000 in
theorem sub_fits (a b:Int) (_ha: -9223372036854775808≤a) (_ha':a≤9223372036854775807) (h: -9223372036854775808≤a - b) (h':a - b≤9223372036854775807) (w:World) :
 Calls Tryz.prog 176 #[.int .i64 a,.int .i64 b] w fun e w'=>e=.returned (.tuple #[.int .i64 (a - b),.bool true])∧Below w.heap.size w w':=by
 have hmf:=hmf
 by_cases hp:0 < b
 · have hq:a - b < a:=by omega
   go_enter Tryz.func176,Tryz.ntmps176
   go_wp2
   go_quiet (fail)
   go_wp2
   go_ret2
   exact ⟨rfl,belowN (by go_grown) _⟩
 · have hq:=df (show ¬ a - b < a by omega)
   have hr:=df hp
   go_enter Tryz.func176,Tryz.ntmps176
   go_wp2
   go_quiet (fail)
   go_wp2
   go_ret2
   exact ⟨rfl,belowN (by go_grown) _⟩
set_option maxHeartbeats 400000 in
theorem sub_over (a b:Int) (ha: -9223372036854775808≤a) (ha':a≤9223372036854775807) (hb: -9223372036854775808≤b) (hb':b≤9223372036854775807)
 (h:a - b < -9223372036854775808∨9223372036854775807 < a - b) (w:World) :
 Calls Tryz.prog 176 #[.int .i64 a,.int .i64 b] w fun e w'=>e=.returned (.tuple #[.int .i64 0,.bool false])∧Below w.heap.size w w':=by
 have hmf:=hmf
 by_cases hp:0 < b
 · obtain ⟨n,hn,hq⟩:∃ n,wrap64 (a - b)=n∧decide (n < a)=false:=⟨_,rfl,by unfold wrap64;exact df (by omega)⟩
   clear h
   go_enter Tryz.func176,Tryz.ntmps176
   go_wp2
   go_quiet (fail)
   go_wp2
   go_ret2
   exact ⟨rfl,belowN (by go_grown) _⟩
 · obtain ⟨n,hn,hq⟩:∃ n,wrap64 (a - b)=n∧n < a:=⟨_,rfl,by unfold wrap64;omega⟩
   have hr:=df hp
   clear h
   go_enter Tryz.func176,Tryz.ntmps176
   go_wp2
   go_quiet (fail)
   go_wp2
   go_ret2
   exact ⟨rfl,belowN (by go_grown) _⟩
set_option maxHeartbeats 400000 in
theorem neg_fits (b:Int) (h: -9223372036854775808 < b) (h':b≤9223372036854775807) (w:World) :
 Calls Tryz.prog 125 #[.int .i64 b] w fun e w'=>e=.returned (.tuple #[.int .i64 (-b),.bool true])∧Below w.heap.size w w':=by
 have hmf:=hmf
 by_cases hp:0 < b
 · have hq: -b < 0:=by omega
   go_enter Tryz.func125,Tryz.ntmps125
   go_wp2
   go_quiet (fail)
   go_wp2
   go_ret2
   exact ⟨rfl,belowN (by go_grown) _⟩
 · have hq:=df (show ¬ -b < 0 by omega)
   have hr:=df hp
   go_enter Tryz.func125,Tryz.ntmps125
   go_wp2
   go_quiet (fail)
   go_wp2
   go_ret2
   exact ⟨rfl,belowN (by go_grown) _⟩
set_option maxHeartbeats 400000 in
theorem neg_low (w:World) :
 Calls Tryz.prog 125 #[.int .i64 (-9223372036854775808)] w fun e w'=>e=.returned (.tuple #[.int .i64 0,.bool false])∧Below w.heap.size w w':=by
 have hmf:=hmf
 obtain ⟨m,hm,hq⟩:∃ m,wrap64 9223372036854775808=m∧m < 0:=⟨_,rfl,by unfold wrap64;omega⟩
 go_enter Tryz.func125,Tryz.ntmps125
 go_wp2
 go_quiet (fail)
 go_wp2
 go_ret2
 exact ⟨rfl,belowN (by go_grown) _⟩
set_option maxHeartbeats 400000 in
theorem floor_up (a b:Int) (hb:0 < b) (hz:¬ b=0) (h:0≤a) (h2:a≤9223372036854775807) (w:World) :
 Calls Tryz.prog 132 #[.int .i64 a,.int .i64 b] w fun e w'=>e=.returned (.tuple #[.int .i64 (a / b),.int .i64 (a%b),.bool true])∧Below w.heap.size w w':=by
 have hr:0≤a%b:=Int.emod_nonneg _ hz
 go_enter Tryz.func132,Tryz.ntmps132
 go_wp2
 go_quiet (fail)
 go_wp2
 go_ret3
 exact ⟨rfl,belowN (Below.refl _ _) _⟩
set_option maxHeartbeats 400000 in
theorem floor_even (a b q r:Int) (hb:0 < b) (hz:¬ b=0) (_h:a < 0) (hq:a.tdiv b=q) (hr:a.tmod b=r) (q1: -9223372036854775808≤q) (q2:q≤9223372036854775807) (r1: -9223372036854775808≤r) (r2:r≤9223372036854775807) (h0:0≤r) (w:World) :
 Calls Tryz.prog 132 #[.int .i64 a,.int .i64 b] w fun e w'=>e=.returned (.tuple #[.int .i64 q,.int .i64 r,.bool true])∧Below w.heap.size w w':=by
 go_enter Tryz.func132,Tryz.ntmps132
 go_wp2
 go_quiet (fail)
 go_wp2
 go_ret3
 exact ⟨rfl,belowN (Below.refl _ _) _⟩
set_option maxHeartbeats 400000 in
theorem floor_odd (a b q r:Int) (hb:0 < b) (hz:¬ b=0) (_h:a < 0) (hq:a.tdiv b=q) (hr:a.tmod b=r) (q1: -9223372036854775807≤q) (q2:q≤9223372036854775807) (r1: -9223372036854775808≤r) (r2:r+b≤9223372036854775807) (h0:r < 0) (w:World) :
 Calls Tryz.prog 132 #[.int .i64 a,.int .i64 b] w fun e w'=>e=.returned (.tuple #[.int .i64 (q - 1),.int .i64 (r+b),.bool true])∧Below w.heap.size w w':=by
 go_enter Tryz.func132,Tryz.ntmps132
 go_wp2
 go_quiet (fail)
 go_wp2
 go_ret3
 exact ⟨rfl,belowN (Below.refl _ _) _⟩
theorem floor_any (a b:Int) (a1: -9223372036854775808≤a) (a2:a≤9223372036854775807) (hb:0 < b) (b2:b≤9223372036854775807) (w:World) :
 Calls Tryz.prog 132 #[.int .i64 a,.int .i64 b] w fun e w'=>e=.returned (.tuple #[.int .i64 (a / b),.int .i64 (a%b),.bool true])∧Below w.heap.size w w':=by
 by_cases h:0≤a
 · exact floor_up a b hb (by omega) h a2 w
 · have e:=Int.mul_tdiv_add_tmod a b
   have q:=tdiv_bd (a:=b) a1 a2 (by omega)
   have r1:a.tmod b= -((-a)%b):=by
    have:=Int.neg_tmod (-a) b
    rw [Int.neg_neg] at this
    rw [this,Int.tmod_eq_emod_of_nonneg (by omega)]
   have r2:=Int.emod_nonneg (-a) (b:=b) (by omega)
   have r3:=Int.emod_lt_of_pos (-a) hb
   by_cases h0:0≤a.tmod b
   · have u:=(Int.ediv_emod_unique (a:=a) (r:=a.tmod b) (q:=a.tdiv b) hb).2 ⟨by omega,h0,by omega⟩
     rw [u.1,u.2]
     exact floor_even a b _ _ hb (by omega) (by omega) rfl rfl q.1 q.2 (by omega) (by omega) h0 w
   · have u:=(Int.ediv_emod_unique (a:=a) (r:=a.tmod b+b) (q:=a.tdiv b - 1) hb).2 ⟨by rw [Int.mul_sub];omega,by omega,by omega⟩
     rw [u.1,u.2]
     have q1: -9223372036854775807≤a.tdiv b:=by
      by_cases hm:a.tdiv b= -9223372036854775808
      · exfalso
        rw [hm] at e
        omega
      · omega
     exact floor_odd a b _ _ hb (by omega) (by omega) rfl rfl q1 q.2 (by omega) (by omega) (by omega) w
theorem add_any (a b:Int) (a1: -9223372036854775808≤a) (a2:a≤9223372036854775807) (b1: -9223372036854775808≤b) (b2:b≤9223372036854775807) (w:World) :
 Calls Tryz.prog 124 #[.int .i64 a,.int .i64 b] w fun e w'=>e=.returned (.tuple #[.int .i64 (kept (a+b)),.bool (fits (a+b))])∧Below w.heap.size w w':=by
 by_cases h: -9223372036854775808≤a+b∧a+b≤9223372036854775807
 · rw [kept_mk (fits_mk h),fits_mk h];exact add_fits a b a1 a2 h.1 h.2 w
 · rw [kept_no (fits_no h),fits_no h];exact add_over a b a1 a2 b1 b2 (by omega) w
theorem sub_any (a b:Int) (a1: -9223372036854775808≤a) (a2:a≤9223372036854775807) (b1: -9223372036854775808≤b) (b2:b≤9223372036854775807) (w:World) :
 Calls Tryz.prog 176 #[.int .i64 a,.int .i64 b] w fun e w'=>e=.returned (.tuple #[.int .i64 (kept (a - b)),.bool (fits (a - b))])∧Below w.heap.size w w':=by
 by_cases h: -9223372036854775808≤a - b∧a - b≤9223372036854775807
 · rw [kept_mk (fits_mk h),fits_mk h];exact sub_fits a b a1 a2 h.1 h.2 w
 · rw [kept_no (fits_no h),fits_no h];exact sub_over a b a1 a2 b1 b2 (by omega) w
theorem neg_any (b:Int) (b1: -9223372036854775808≤b) (b2:b≤9223372036854775807) (w:World) :
 Calls Tryz.prog 125 #[.int .i64 b] w fun e w'=>e=.returned (.tuple #[.int .i64 (kept (-b)),.bool (fits (-b))])∧Below w.heap.size w w':=by
 by_cases h: -9223372036854775808≤-b∧-b≤9223372036854775807
 · rw [kept_mk (fits_mk h),fits_mk h];exact neg_fits b (by omega) b2 w
 · obtain rfl:b= -9223372036854775808:=by omega
   rw [kept_no (fits_no h),fits_no h];exact neg_low w
def both (x y:Int):Bool:=fits x && fits y
def keptA (x y:Int):Int:=if both x y=true then x else 0
def keptB (x y:Int):Int:=if both x y=true then y else 0
theorem both_mk {x y:Int} (h:fits x=true) (k:fits y=true):both x y=true:=by unfold both;rw [h,k];rfl
theorem keptA_mk {x y:Int} (h:both x y=true):keptA x y=x:=if_pos h
theorem keptB_mk {x y:Int} (h:both x y=true):keptB x y=y:=if_pos h
theorem keptA_no {x y:Int} (h:both x y=false):keptA x y=0:=by unfold keptA;rw [h];rfl
theorem keptB_no {x y:Int} (h:both x y=false):keptB x y=0:=by unfold keptB;rw [h];rfl
set_option maxHeartbeats 400000 in
theorem joined_yes (x y:Int) (w:World) :
 Calls Tryz.prog 126 #[.int .i64 x,.bool true,.int .i64 y,.bool true] w fun e w'=>e=.returned (.tuple #[.agg #[.int .i64 x,.int .i64 y],.bool true])∧Below w.heap.size w w':=by
 go_enter Tryz.func126,Tryz.ntmps126
 go_wp2
 exact bodyPost_ret (v:=.tuple #[.agg #[.int .i64 x,.int .i64 y],.bool true]) (by simp [results,Tryz.results126,go_sem]) rfl ⟨rfl,by go_grown⟩
set_option maxHeartbeats 400000 in
theorem joined_first (x y:Int) (b:Bool) (w:World) :
 Calls Tryz.prog 126 #[.int .i64 x,.bool false,.int .i64 y,.bool b] w fun e w'=>e=.returned (.tuple #[.agg #[.int .i64 0,.int .i64 0],.bool false])∧Below w.heap.size w w':=by
 go_enter Tryz.func126,Tryz.ntmps126
 go_wp2
 exact bodyPost_ret (v:=.tuple #[.agg #[.int .i64 0,.int .i64 0],.bool false]) (by simp [results,Tryz.results126,go_sem]) rfl ⟨rfl,by go_grown⟩
set_option maxHeartbeats 400000 in
theorem joined_other (x y:Int) (w:World) :
 Calls Tryz.prog 126 #[.int .i64 x,.bool true,.int .i64 y,.bool false] w fun e w'=>e=.returned (.tuple #[.agg #[.int .i64 0,.int .i64 0],.bool false])∧Below w.heap.size w w':=by
 go_enter Tryz.func126,Tryz.ntmps126
 go_wp2
 exact bodyPost_ret (v:=.tuple #[.agg #[.int .i64 0,.int .i64 0],.bool false]) (by simp [results,Tryz.results126,go_sem]) rfl ⟨rfl,by go_grown⟩
theorem joined_any (x y:Int) (w:World) :
 Calls Tryz.prog 126 #[.int .i64 (kept x),.bool (fits x),.int .i64 (kept y),.bool (fits y)] w fun e w'=>e=.returned (.tuple #[.agg #[.int .i64 (keptA x y),.int .i64 (keptB x y)],.bool (both x y)])∧Below w.heap.size w w':=by
 cases hx:fits x with
 | false =>
  have hb:both x y=false:=by unfold both;rw [hx];rfl
  rw [hb,keptA_no hb,keptB_no hb];exact joined_first _ _ _ w
 | true =>
  cases hy:fits y with
  | false =>
   have hb:both x y=false:=by unfold both;rw [hx,hy];rfl
   rw [hb,keptA_no hb,keptB_no hb];exact joined_other _ _ w
  | true =>
   have hb:=both_mk hx hy
   rw [hb,keptA_mk hb,keptB_mk hb,kept_mk hx,kept_mk hy];exact joined_yes _ _ w
set_option maxHeartbeats 400000 in
theorem eadd_any (a b c d:Int) (a1: -9223372036854775808≤a) (a2:a≤9223372036854775807) (b1: -9223372036854775808≤b) (b2:b≤9223372036854775807) (k1: -9223372036854775808≤c) (k2:c≤9223372036854775807) (d1: -9223372036854775808≤d) (d2:d≤9223372036854775807) (w:World) :
 Calls Tryz.prog 111 #[.agg #[.int .i64 a,.int .i64 b],.agg #[.int .i64 c,.int .i64 d]] w fun e w'=>e=.returned (.tuple #[.agg #[.int .i64 (keptA (a+c) (b+d)),.int .i64 (keptB (a+c) (b+d))],.bool (both (a+c) (b+d))])∧Below w.heap.size w w':=by
 go_enter Tryz.func111,Tryz.ntmps111
 go_wp2_with fail
 refine (add_any a c a1 a2 k1 k2 _).mono ?_
 rintro e w1 ⟨rfl,c1⟩
 obtain ⟨hc,hf⟩:=bcell c1
 go_wp2_with fail
 refine (add_any b d b1 b2 d1 d2 _).mono ?_
 rintro e w2 ⟨rfl,c2⟩
 replace c2:=belowT c1 c2
 clear c1 hc hf
 obtain ⟨hc,hf⟩:=bcell c2
 go_wp2_with fail
 refine (joined_any (a+c) (b+d) _).mono ?_
 rintro e w3 ⟨rfl,c3⟩
 replace c3:=belowT c2 c3
 clear c2 hc hf
 obtain ⟨hc,hf⟩:=bcell c3
 have e0:w3.cell? ⟨w.heap.size+1+1,0,none⟩=some (.int .i64 0):=by rw [hc _ _ (by simp)];go_simp
 have e1:w3.cell? ⟨w.heap.size+1+1,1,none⟩=some (.int .i64 0):=by rw [hc _ _ (by simp)];go_simp
 obtain ⟨g0,g1⟩:=two_stores (u:=.int .i64 (keptA (a+c) (b+d))) (v:=.int .i64 (keptB (a+c) (b+d))) e0 e1
 have hB:Below w.heap.size w w3:=Below.trans (by go_grown) (c3.mono (by simp;try omega))
 go_wp2
 exact bodyPost_ret (v:=.tuple #[.agg #[.int .i64 (keptA (a+c) (b+d)),.int .i64 (keptB (a+c) (b+d))],.bool (both (a+c) (b+d))]) (by simp [results,Tryz.results111,go_sem,g0,g1]) rfl ⟨rfl,(hB.setCell (by simp;try omega) _).setCell (by simp;try omega) _⟩
set_option maxHeartbeats 400000 in
theorem esub_any (a b c d:Int) (a1: -9223372036854775808≤a) (a2:a≤9223372036854775807) (b1: -9223372036854775808≤b) (b2:b≤9223372036854775807) (k1: -9223372036854775808≤c) (k2:c≤9223372036854775807) (d1: -9223372036854775808≤d) (d2:d≤9223372036854775807) (w:World) :
 Calls Tryz.prog 163 #[.agg #[.int .i64 a,.int .i64 b],.agg #[.int .i64 c,.int .i64 d]] w fun e w'=>e=.returned (.tuple #[.agg #[.int .i64 (keptA (a - c) (b - d)),.int .i64 (keptB (a - c) (b - d))],.bool (both (a - c) (b - d))])∧Below w.heap.size w w':=by
 go_enter Tryz.func163,Tryz.ntmps163
 go_wp2_with fail
 refine (sub_any a c a1 a2 k1 k2 _).mono ?_
 rintro e w1 ⟨rfl,c1⟩
 obtain ⟨hc,hf⟩:=bcell c1
 go_wp2_with fail
 refine (sub_any b d b1 b2 d1 d2 _).mono ?_
 rintro e w2 ⟨rfl,c2⟩
 replace c2:=belowT c1 c2
 clear c1 hc hf
 obtain ⟨hc,hf⟩:=bcell c2
 go_wp2_with fail
 refine (joined_any (a - c) (b - d) _).mono ?_
 rintro e w3 ⟨rfl,c3⟩
 replace c3:=belowT c2 c3
 clear c2 hc hf
 obtain ⟨hc,hf⟩:=bcell c3
 have e0:w3.cell? ⟨w.heap.size+1+1,0,none⟩=some (.int .i64 0):=by rw [hc _ _ (by simp)];go_simp
 have e1:w3.cell? ⟨w.heap.size+1+1,1,none⟩=some (.int .i64 0):=by rw [hc _ _ (by simp)];go_simp
 obtain ⟨g0,g1⟩:=two_stores (u:=.int .i64 (keptA (a - c) (b - d))) (v:=.int .i64 (keptB (a - c) (b - d))) e0 e1
 have hB:Below w.heap.size w w3:=Below.trans (by go_grown) (c3.mono (by simp;try omega))
 go_wp2
 exact bodyPost_ret (v:=.tuple #[.agg #[.int .i64 (keptA (a - c) (b - d)),.int .i64 (keptB (a - c) (b - d))],.bool (both (a - c) (b - d))]) (by simp [results,Tryz.results163,go_sem,g0,g1]) rfl ⟨rfl,(hB.setCell (by simp;try omega) _).setCell (by simp;try omega) _⟩
set_option maxHeartbeats 400000 in
theorem econj_any (a b:Int) (a1: -9223372036854775808≤a) (a2:a≤9223372036854775807) (b1: -9223372036854775808≤b) (b2:b≤9223372036854775807) (w:World) :
 Calls Tryz.prog 91 #[.agg #[.int .i64 a,.int .i64 b]] w fun e w'=>e=.returned (.tuple #[.agg #[.int .i64 (keptA (a+b) (-b)),.int .i64 (keptB (a+b) (-b))],.bool (both (a+b) (-b))])∧Below w.heap.size w w':=by
 go_enter Tryz.func91,Tryz.ntmps91
 go_wp2_with fail
 refine (add_any a b a1 a2 b1 b2 _).mono ?_
 rintro e w1 ⟨rfl,c1⟩
 obtain ⟨hc,hf⟩:=bcell c1
 go_wp2_with fail
 refine (neg_any b b1 b2 _).mono ?_
 rintro e w2 ⟨rfl,c2⟩
 replace c2:=belowT c1 c2
 clear c1 hc hf
 obtain ⟨hc,hf⟩:=bcell c2
 go_wp2_with fail
 refine (joined_any (a+b) (-b) _).mono ?_
 rintro e w3 ⟨rfl,c3⟩
 replace c3:=belowT c2 c3
 clear c2 hc hf
 obtain ⟨hc,hf⟩:=bcell c3
 have e0:w3.cell? ⟨w.heap.size+1,0,none⟩=some (.int .i64 0):=by rw [hc _ _ (by simp)];go_simp
 have e1:w3.cell? ⟨w.heap.size+1,1,none⟩=some (.int .i64 0):=by rw [hc _ _ (by simp)];go_simp
 obtain ⟨g0,g1⟩:=two_stores (u:=.int .i64 (keptA (a+b) (-b))) (v:=.int .i64 (keptB (a+b) (-b))) e0 e1
 have hB:Below w.heap.size w w3:=Below.trans (by go_grown) (c3.mono (by simp;try omega))
 go_wp2
 exact bodyPost_ret (v:=.tuple #[.agg #[.int .i64 (keptA (a+b) (-b)),.int .i64 (keptB (a+b) (-b))],.bool (both (a+b) (-b))]) (by simp [results,Tryz.results91,go_sem,g0,g1]) rfl ⟨rfl,(hB.setCell (by simp;try omega) _).setCell (by simp;try omega) _⟩
theorem prod126 {a b:Int} (a1: -9223372036854775808≤a) (a2:a≤9223372036854775807) (b1: -9223372036854775808≤b) (b2:b≤9223372036854775807) :
 -85070591730234615865843651857942052864≤a*b∧a*b≤85070591730234615865843651857942052864:=by
 have h:(a*b).natAbs≤9223372036854775808*9223372036854775808:=by
  rw [Int.natAbs_mul];exact Nat.mul_le_mul (by omega) (by omega)
 omega
theorem drewB (w:World):Below w.heap.size w w.drew:=(Below.refl _ _).drew
theorem keepEight {w0 a b:World} {p0 p1 p2 p3 p4 p5 p6 p7:Addr} {v0 v1 v2 v3 v4 v5 v6 v7:Value} (hb:Below a.heap.size a b)
 (h:a.cell? p0=some v0∧a.cell? p1=some v1∧a.cell? p2=some v2∧a.cell? p3=some v3∧a.cell? p4=some v4∧a.cell? p5=some v5∧a.cell? p6=some v6∧a.cell? p7=some v7∧a.frozen? p4=false∧a.frozen? p5=false∧Below w0.heap.size w0 a) :
 b.cell? p0=some v0∧b.cell? p1=some v1∧b.cell? p2=some v2∧b.cell? p3=some v3∧b.cell? p4=some v4∧b.cell? p5=some v5∧b.cell? p6=some v6∧b.cell? p7=some v7∧b.frozen? p4=false∧b.frozen? p5=false∧Below w0.heap.size w0 b:=by
 obtain ⟨h0,h1,h2,h3,h4,h5,h6,h7,f4,f5,hw⟩:=h
 exact ⟨keepCell hb h0,keepCell hb h1,keepCell hb h2,keepCell hb h3,keepCell hb h4,keepCell hb h5,keepCell hb h6,keepCell hb h7,keepFrozen hb h4 f4,keepFrozen hb h5 f5,belowT hw hb⟩
set_option maxHeartbeats 4000000 in
theorem emul_any (a b c d:Int) (a1: -9223372036854775808≤a) (a2:a≤9223372036854775807) (b1: -9223372036854775808≤b) (b2:b≤9223372036854775807) (k1: -9223372036854775808≤c) (k2:c≤9223372036854775807) (d1: -9223372036854775808≤d) (d2:d≤9223372036854775807) (w:World) :
 Calls Tryz.prog 92 #[.agg #[.int .i64 a,.int .i64 b],.agg #[.int .i64 c,.int .i64 d]] w fun e w'=>e=.returned (.tuple #[.agg #[.int .i64 (keptA (a*c - b*d) (a*d+b*c+b*d)),.int .i64 (keptB (a*c - b*d) (a*d+b*c+b*d))],.bool (both (a*c - b*d) (a*d+b*c+b*d))])∧Below w.heap.size w w':=by
 have p1:=prod126 a1 a2 k1 k2
 have p2:=prod126 b1 b2 d1 d2
 have p3:=prod126 a1 a2 d1 d2
 have p4:=prod126 b1 b2 k1 k2
 have N1:Hid (∀ w,Calls Tryz.prog 129 #[.agg #[.int .u64 (high64 (a*c - b*d)),.int .u64 (low64 (a*c - b*d))]] w fun e w'=>e=.returned (.tuple #[.int .i64 (kept (a*c - b*d)),.bool (fits (a*c - b*d))])∧Below w.heap.size w w'):=fun w=>enarrow_any _ (by omega) (by omega) w
 have N2:Hid (∀ w,Calls Tryz.prog 129 #[.agg #[.int .u64 (high64 (a*d+b*c+b*d)),.int .u64 (low64 (a*d+b*c+b*d))]] w fun e w'=>e=.returned (.tuple #[.int .i64 (kept (a*d+b*c+b*d)),.bool (fits (a*d+b*c+b*d))])∧Below w.heap.size w w'):=fun w=>enarrow_any _ (by omega) (by omega) w
 clear p1 p2 p3 p4
 go_enter Tryz.func92,Tryz.ntmps92
 go_wp2_with fail
 refine (eproduct_any b d b1 b2 d1 d2 _).mono ?_
 rintro e w1 ⟨rfl,c1⟩
 obtain ⟨hc,hf⟩:=bcell c1
 have z1:w.heap.size+1+1 < w1.heap.size:=by have:=c1.size;simp at this;omega
 have hbw:Below w.heap.size w (w1.alloc (.cells #[.int .u64 (high64 (b*d)),.int .u64 (low64 (b*d))] 179)).drew:=((Below.trans (by go_grown) (c1.mono (by simp;omega))).alloc (by omega) _).drew
 have hx:Below w1.heap.size w1 (w1.alloc (.cells #[.int .u64 (high64 (b*d)),.int .u64 (low64 (b*d))] 179)).drew:=((Below.refl _ _).alloc (Nat.le_refl _) _).drew
 have k0':w1.cell? ⟨w.heap.size,0,none⟩=some (.int .i64 a):=by rw [hc _ _ (by simp;try omega)];go_simp
 have s0:(w1.alloc (.cells #[.int .u64 (high64 (b*d)),.int .u64 (low64 (b*d))] 179)).drew.cell? ⟨w.heap.size,0,none⟩=some (.int .i64 a):=keepCell hx k0'
 have k1':w1.cell? ⟨w.heap.size,1,none⟩=some (.int .i64 b):=by rw [hc _ _ (by simp;try omega)];go_simp
 have s1:(w1.alloc (.cells #[.int .u64 (high64 (b*d)),.int .u64 (low64 (b*d))] 179)).drew.cell? ⟨w.heap.size,1,none⟩=some (.int .i64 b):=keepCell hx k1'
 have k2':w1.cell? ⟨w.heap.size+1,0,none⟩=some (.int .i64 c):=by rw [hc _ _ (by simp;try omega)];go_simp
 have s2:(w1.alloc (.cells #[.int .u64 (high64 (b*d)),.int .u64 (low64 (b*d))] 179)).drew.cell? ⟨w.heap.size+1,0,none⟩=some (.int .i64 c):=keepCell hx k2'
 have k3':w1.cell? ⟨w.heap.size+1,1,none⟩=some (.int .i64 d):=by rw [hc _ _ (by simp;try omega)];go_simp
 have s3:(w1.alloc (.cells #[.int .u64 (high64 (b*d)),.int .u64 (low64 (b*d))] 179)).drew.cell? ⟨w.heap.size+1,1,none⟩=some (.int .i64 d):=keepCell hx k3'
 have k4':w1.cell? ⟨w.heap.size+1+1,0,none⟩=some (.int .i64 0):=by rw [hc _ _ (by simp;try omega)];go_simp
 have s4:(w1.alloc (.cells #[.int .u64 (high64 (b*d)),.int .u64 (low64 (b*d))] 179)).drew.cell? ⟨w.heap.size+1+1,0,none⟩=some (.int .i64 0):=keepCell hx k4'
 have k5':w1.cell? ⟨w.heap.size+1+1,1,none⟩=some (.int .i64 0):=by rw [hc _ _ (by simp;try omega)];go_simp
 have s5:(w1.alloc (.cells #[.int .u64 (high64 (b*d)),.int .u64 (low64 (b*d))] 179)).drew.cell? ⟨w.heap.size+1+1,1,none⟩=some (.int .i64 0):=keepCell hx k5'
 have f4':w1.frozen? ⟨w.heap.size+1+1,0,none⟩=false:=by rw [hf _ _ (by simp;try omega)];go_simp
 have f4:(w1.alloc (.cells #[.int .u64 (high64 (b*d)),.int .u64 (low64 (b*d))] 179)).drew.frozen? ⟨w.heap.size+1+1,0,none⟩=false:=keepFrozen hx k4' f4'
 have f5':w1.frozen? ⟨w.heap.size+1+1,1,none⟩=false:=by rw [hf _ _ (by simp;try omega)];go_simp
 have f5:(w1.alloc (.cells #[.int .u64 (high64 (b*d)),.int .u64 (low64 (b*d))] 179)).drew.frozen? ⟨w.heap.size+1+1,1,none⟩=false:=keepFrozen hx k5' f5'
 have s6:(w1.alloc (.cells #[.int .u64 (high64 (b*d)),.int .u64 (low64 (b*d))] 179)).drew.cell? ⟨w1.heap.size,0,none⟩=some (.int .u64 (high64 (b*d))):=by go_simp
 have s7:(w1.alloc (.cells #[.int .u64 (high64 (b*d)),.int .u64 (low64 (b*d))] 179)).drew.cell? ⟨w1.heap.size,1,none⟩=some (.int .u64 (low64 (b*d))):=by go_simp
 clear k0' k1' k2' k3' k4' k5' f4' f5' hc hf hx
 go_wp2_with fail
 go_region_held3 (fun w'=>w'.cell? ⟨w.heap.size,0,none⟩=some (.int .i64 a)∧w'.cell? ⟨w.heap.size,1,none⟩=some (.int .i64 b)∧w'.cell? ⟨w.heap.size+1,0,none⟩=some (.int .i64 c)∧w'.cell? ⟨w.heap.size+1,1,none⟩=some (.int .i64 d)∧w'.cell? ⟨w.heap.size+1+1,0,none⟩=some (.int .i64 0)∧w'.cell? ⟨w.heap.size+1+1,1,none⟩=some (.int .i64 0)∧w'.cell? ⟨w1.heap.size,0,none⟩=some (.int .u64 (high64 (b*d)))∧w'.cell? ⟨w1.heap.size,1,none⟩=some (.int .u64 (low64 (b*d)))∧w'.frozen? ⟨w.heap.size+1+1,0,none⟩=false∧w'.frozen? ⟨w.heap.size+1+1,1,none⟩=false∧Below w.heap.size w w') (first | exact ⟨s0,s1,s2,s3,s4,s5,s6,s7,f4,f5,hbw⟩ | exact keepEight hb (by assumption))
  (first | (go_at_call 127;refine (eproduct_any _ _ (by assumption) (by assumption) (by assumption) (by assumption) _).mono ?_;rintro e w' ⟨rfl,hb⟩) | (go_at_call 128;refine (eminus_any _ _ _).mono ?_;rintro e w' ⟨rfl,hb⟩) | (go_at_call 129;refine (N1.out _).mono ?_;rintro e w' ⟨rfl,hb⟩))
 rename_i hH
 clear s0 s1 s2 s3 s4 s5 s6 s7 f4 f5 hbw N1
 go_wp2_with fail
 go_region_held3 (fun w'=>w'.cell? ⟨w.heap.size,0,none⟩=some (.int .i64 a)∧w'.cell? ⟨w.heap.size,1,none⟩=some (.int .i64 b)∧w'.cell? ⟨w.heap.size+1,0,none⟩=some (.int .i64 c)∧w'.cell? ⟨w.heap.size+1,1,none⟩=some (.int .i64 d)∧w'.cell? ⟨w.heap.size+1+1,0,none⟩=some (.int .i64 0)∧w'.cell? ⟨w.heap.size+1+1,1,none⟩=some (.int .i64 0)∧w'.cell? ⟨w1.heap.size,0,none⟩=some (.int .u64 (high64 (b*d)))∧w'.cell? ⟨w1.heap.size,1,none⟩=some (.int .u64 (low64 (b*d)))∧w'.frozen? ⟨w.heap.size+1+1,0,none⟩=false∧w'.frozen? ⟨w.heap.size+1+1,1,none⟩=false∧Below w.heap.size w w') (first | exact keepEight hb (by assumption) | exact keepEight (drewB _) (by assumption))
  (first | (go_at_call 127;refine (eproduct_any _ _ (by assumption) (by assumption) (by assumption) (by assumption) _).mono ?_;rintro e w' ⟨rfl,hb⟩) | (go_at_call 130;refine (eplus_any _ _ _).mono ?_;rintro e w' ⟨rfl,hb⟩) | (go_at_call 129;refine (N2.out _).mono ?_;rintro e w' ⟨rfl,hb⟩))
 rename_i hH
 go_wp2_with fail
 refine (joined_any (a*c - b*d) (a*d+b*c+b*d) _).mono ?_
 rintro e w9 ⟨rfl,c9⟩
 obtain ⟨-,-,-,-,e0,e1,-,-,f0,f1,hB⟩:=keepEight c9 hH
 obtain ⟨g0,g1⟩:=two_stores (u:=.int .i64 (keptA (a*c - b*d) (a*d+b*c+b*d))) (v:=.int .i64 (keptB (a*c - b*d) (a*d+b*c+b*d))) e0 e1
 go_wp2
 exact bodyPost_ret (v:=.tuple #[.agg #[.int .i64 (keptA (a*c - b*d) (a*d+b*c+b*d)),.int .i64 (keptB (a*c - b*d) (a*d+b*c+b*d))],.bool (both (a*c - b*d) (a*d+b*c+b*d))]) (by simp [results,Tryz.results92,go_sem,g0,g1]) rfl ⟨rfl,(hB.setCell (by simp;try omega) _).setCell (by simp;try omega) _⟩
theorem keepTwo {w0 a b:World} {p0 p1:Addr} {v0 v1:Value} (hb:Below a.heap.size a b) (h:a.cell? p0=some v0∧a.cell? p1=some v1∧Below w0.heap.size w0 a) :
 b.cell? p0=some v0∧b.cell? p1=some v1∧Below w0.heap.size w0 b:=⟨keepCell hb h.1,keepCell hb h.2.1,belowT h.2.2 hb⟩
set_option maxHeartbeats 4000000 in
theorem enorm_any (a b:Int) (a1: -9223372036854775808≤a) (a2:a≤9223372036854775807) (b1: -9223372036854775808≤b) (b2:b≤9223372036854775807) (w:World) :
 Calls Tryz.prog 93 #[.agg #[.int .i64 a,.int .i64 b]] w fun e w'=>e=.returned (.tuple #[.int .i64 (kept (a*a+a*b+b*b)),.bool (fits (a*a+a*b+b*b))])∧Below w.heap.size w w':=by
 have p1:=prod126 a1 a2 a1 a2
 have p2:=prod126 b1 b2 b1 b2
 have p3:=prod126 a1 a2 b1 b2
 have N1:Hid (∀ w,Calls Tryz.prog 129 #[.agg #[.int .u64 (high64 (a*a+a*b+b*b)),.int .u64 (low64 (a*a+a*b+b*b))]] w fun e w'=>e=.returned (.tuple #[.int .i64 (kept (a*a+a*b+b*b)),.bool (fits (a*a+a*b+b*b))])∧Below w.heap.size w w'):=fun w=>enarrow_any _ (by omega) (by omega) w
 clear p1 p2 p3
 have s0:(w.alloc (.cells #[.int .i64 a,.int .i64 b] 23)).drew.cell? ⟨w.heap.size,0,none⟩=some (.int .i64 a):=by go_simp
 have s1:(w.alloc (.cells #[.int .i64 a,.int .i64 b] 23)).drew.cell? ⟨w.heap.size,1,none⟩=some (.int .i64 b):=by go_simp
 have hbw:Below w.heap.size w (w.alloc (.cells #[.int .i64 a,.int .i64 b] 23)).drew:=((Below.refl _ _).alloc (Nat.le_refl _) _).drew
 go_enter Tryz.func93,Tryz.ntmps93
 go_wp2_with fail
 go_region_held3 (fun w'=>w'.cell? ⟨w.heap.size,0,none⟩=some (.int .i64 a)∧w'.cell? ⟨w.heap.size,1,none⟩=some (.int .i64 b)∧Below w.heap.size w w') (first | exact ⟨s0,s1,hbw⟩ | exact keepTwo hb (by assumption))
  (first | (go_at_call 127;refine (eproduct_any _ _ (by assumption) (by assumption) (by assumption) (by assumption) _).mono ?_;rintro e w' ⟨rfl,hb⟩) | (go_at_call 130;refine (eplus_any _ _ _).mono ?_;rintro e w' ⟨rfl,hb⟩) | (go_at_call 129;refine (N1.out _).mono ?_;rintro e w' ⟨rfl,hb⟩))
 rename_i hS
 go_wp2
 go_ret2
 exact ⟨rfl,hS.2.2⟩
theorem store_keep {w:World} {p q:Addr} {v u:Value} (h:w.cell? p=some v) (ne:q≠p):(w.setCell q u).cell? p=some v:=(World.cell?_setCell_other _ _ _ _ ne).trans h
theorem store_new {w:World} {p:Addr} {x u:Value} (h:w.cell? p=some x):(w.setCell p u).cell? p=some u:=World.cell?_setCell_same _ _ _ h
def NewE (B:Nat) (w:World):Prop:=w.cell? ⟨B,0,none⟩=some (.int .i64 0)∧w.cell? ⟨B,1,none⟩=some (.int .i64 0)∧w.frozen? ⟨B,0,none⟩=false∧w.frozen? ⟨B,1,none⟩=false
theorem new_alloc (w:World):NewE w.heap.size (w.alloc (.cells #[.int .i64 0,.int .i64 0] 23)):=⟨by go_simp,by go_simp,by go_simp,by go_simp⟩
theorem keepNew {B:Nat} {a b:World} (hb:Below a.heap.size a b) (h:NewE B a):NewE B b:=⟨keepCell hb h.1,keepCell hb h.2.1,keepFrozen hb h.1 h.2.2.1,keepFrozen hb h.2.1 h.2.2.2⟩
theorem allocB (w:World) (o:Obj):Below w.heap.size w (w.alloc o):=(Below.refl _ _).alloc (Nat.le_refl _) _
theorem keepTwoStore {w0 a:World} {p0 p1:Addr} {B:Nat} {v0 v1 x y:Value} (n0:B≠p0.block) (n1:B≠p1.block) (hB:w0.heap.size≤B) (h:a.cell? p0=some v0∧a.cell? p1=some v1∧Below w0.heap.size w0 a) :
 ((a.setCell ⟨B,0,none⟩ x).setCell ⟨B,1,none⟩ y).cell? p0=some v0∧((a.setCell ⟨B,0,none⟩ x).setCell ⟨B,1,none⟩ y).cell? p1=some v1∧Below w0.heap.size w0 ((a.setCell ⟨B,0,none⟩ x).setCell ⟨B,1,none⟩ y):=by
 have f:∀ (p:Addr) (o:Nat),B≠p.block→(⟨B,o,none⟩:Addr)≠p:=fun p o h e=>h (by rw [← e])
 exact ⟨store_keep (store_keep h.1 (f _ _ n0)) (f _ _ n0),store_keep (store_keep h.2.1 (f _ _ n1)) (f _ _ n1),(h.2.2.setCell hB _).setCell hB _⟩
theorem swapB {w0 a:World} {o o':Obj} (hs:w0.heap.size≤a.heap.size) (h:Below w0.heap.size w0 (a.alloc o)):Below w0.heap.size w0 (a.alloc o'):=by
 have h1:=allocB a o
 have h2:=allocB a o'
 obtain ⟨e1,e2,e3,e4,e5⟩:=h
 refine ⟨e1,e2,e3,by have:=h2.size;omega,fun i hi=>?_⟩
 have k1:=h1.block i (by omega)
 have k2:=h2.block i (by omega)
 exact (k2.trans k1.symm).trans (e5 i hi)
theorem keepTwoSwap {w0 a:World} {o o':Obj} {p0 p1:Addr} {v0 v1:Value} (q0:p0.block < a.heap.size) (q1:p1.block < a.heap.size) (hs:w0.heap.size≤a.heap.size) (h:(a.alloc o).cell? p0=some v0∧(a.alloc o).cell? p1=some v1∧Below w0.heap.size w0 (a.alloc o)) :
 (a.alloc o').cell? p0=some v0∧(a.alloc o').cell? p1=some v1∧Below w0.heap.size w0 (a.alloc o') :=
 ⟨((allocB a o').cell q0).trans (((allocB a o).cell q0).symm.trans h.1),((allocB a o').cell q1).trans (((allocB a o).cell q1).symm.trans h.2.1),swapB hs h.2.2⟩
theorem keepSix {w0 a b:World} {p0 p1 p2 p3 p4 p5:Addr} {v0 v1 v2 v3 v4 v5:Value} (hb:Below a.heap.size a b) (h:a.cell? p0=some v0∧a.cell? p1=some v1∧a.cell? p2=some v2∧a.cell? p3=some v3∧a.cell? p4=some v4∧a.cell? p5=some v5∧Below w0.heap.size w0 a):b.cell? p0=some v0∧b.cell? p1=some v1∧b.cell? p2=some v2∧b.cell? p3=some v3∧b.cell? p4=some v4∧b.cell? p5=some v5∧Below w0.heap.size w0 b :=
 ⟨keepCell hb h.1,keepCell hb h.2.1,keepCell hb h.2.2.1,keepCell hb h.2.2.2.1,keepCell hb h.2.2.2.2.1,keepCell hb h.2.2.2.2.2.1,belowT h.2.2.2.2.2.2 hb⟩
theorem emul_small (a b c d X Y:Int) (hX:a*c - b*d=X) (hY:a*d+b*c+b*d=Y) (a1: -4611686018427387903≤a) (a2:a≤4611686018427387903) (b1: -4611686018427387903≤b) (b2:b≤4611686018427387903) (k1: -4611686018427387903≤c) (k2:c≤4611686018427387903) (d1: -4611686018427387903≤d) (d2:d≤4611686018427387903) (X1: -9223372036854775808≤X) (X2:X≤9223372036854775807) (Y1: -9223372036854775808≤Y) (Y2:Y≤9223372036854775807) (w:World) :
 Calls Tryz.prog 92 #[.agg #[.int .i64 a,.int .i64 b],.agg #[.int .i64 c,.int .i64 d]] w fun e w'=>e=.returned (.tuple #[.agg #[.int .i64 X,.int .i64 Y],.bool true])∧Below w.heap.size w w':=by
 have h:=emul_any a b c d (by omega) (by omega) (by omega) (by omega) (by omega) (by omega) (by omega) (by omega) w
 rw [hX,hY] at h
 have hb:=both_mk (fits_mk ⟨X1,X2⟩) (fits_mk ⟨Y1,Y2⟩)
 rw [hb,keptA_mk hb,keptB_mk hb] at h
 exact h
theorem eadd_small (a b c d X Y:Int) (hX:a+c=X) (hY:b+d=Y) (a1: -4611686018427387903≤a) (a2:a≤4611686018427387903) (b1: -4611686018427387903≤b) (b2:b≤4611686018427387903) (k1: -4611686018427387903≤c) (k2:c≤4611686018427387903) (d1: -4611686018427387903≤d) (d2:d≤4611686018427387903) (w:World) :
 Calls Tryz.prog 111 #[.agg #[.int .i64 a,.int .i64 b],.agg #[.int .i64 c,.int .i64 d]] w fun e w'=>e=.returned (.tuple #[.agg #[.int .i64 X,.int .i64 Y],.bool true])∧Below w.heap.size w w':=by
 have h:=eadd_any a b c d (by omega) (by omega) (by omega) (by omega) (by omega) (by omega) (by omega) (by omega) w
 have hb:=both_mk (x:=a+c) (y:=b+d) (fits_mk ⟨by omega,by omega⟩) (fits_mk ⟨by omega,by omega⟩)
 rw [hb,keptA_mk hb,keptB_mk hb,hX,hY] at h
 exact h
theorem esub_small (a b c d X Y:Int) (hX:a - c=X) (hY:b - d=Y) (a1: -4611686018427387903≤a) (a2:a≤4611686018427387903) (b1: -4611686018427387903≤b) (b2:b≤4611686018427387903) (k1: -4611686018427387903≤c) (k2:c≤4611686018427387903) (d1: -4611686018427387903≤d) (d2:d≤4611686018427387903) (w:World) :
 Calls Tryz.prog 163 #[.agg #[.int .i64 a,.int .i64 b],.agg #[.int .i64 c,.int .i64 d]] w fun e w'=>e=.returned (.tuple #[.agg #[.int .i64 X,.int .i64 Y],.bool true])∧Below w.heap.size w w':=by
 have h:=esub_any a b c d (by omega) (by omega) (by omega) (by omega) (by omega) (by omega) (by omega) (by omega) w
 have hb:=both_mk (x:=a - c) (y:=b - d) (fits_mk ⟨by omega,by omega⟩) (fits_mk ⟨by omega,by omega⟩)
 rw [hb,keptA_mk hb,keptB_mk hb,hX,hY] at h
 exact h
theorem econj_small (a b X Y:Int) (hX:a+b=X) (hY: -b=Y) (a1: -4611686018427387903≤a) (a2:a≤4611686018427387903) (b1: -4611686018427387903≤b) (b2:b≤4611686018427387903) (w:World) :
 Calls Tryz.prog 91 #[.agg #[.int .i64 a,.int .i64 b]] w fun e w'=>e=.returned (.tuple #[.agg #[.int .i64 X,.int .i64 Y],.bool true])∧Below w.heap.size w w':=by
 have h:=econj_any a b (by omega) (by omega) (by omega) (by omega) w
 have hb:=both_mk (x:=a+b) (y:= -b) (fits_mk ⟨by omega,by omega⟩) (fits_mk ⟨by omega,by omega⟩)
 rw [hb,keptA_mk hb,keptB_mk hb,hX,hY] at h
 exact h
theorem enorm_small (a b N:Int) (hN:normE a b=N) (a1: -4611686018427387903≤a) (a2:a≤4611686018427387903) (b1: -4611686018427387903≤b) (b2:b≤4611686018427387903) (N2:N≤9223372036854775807) (w:World) :
 Calls Tryz.prog 93 #[.agg #[.int .i64 a,.int .i64 b]] w fun e w'=>e=.returned (.tuple #[.int .i64 N,.bool true])∧Below w.heap.size w w':=by
 have h:=enorm_any a b (by omega) (by omega) (by omega) (by omega) w
 have e:a*a+a*b+b*b=N:=hN
 have p:0≤N:=by rw [← hN];exact norm_pos a b
 rw [e,kept_mk (fits_mk ⟨by omega,N2⟩),fits_mk ⟨by omega,N2⟩] at h
 exact h
end Go.Proofs.YtdklpgphmoaniaaGreatDoor
