/-
  What the texts Mul64, EWide, NumPairs, NumFloor, NumAny, ERing, ENorm, ESmall say, so far as this seat's proofs need it.
-/
import Derived.Test.YtbnlhdnnenahfaaGreatDoorPY
import Derived.Shelf.Bits.Mul64
set_option maxHeartbeats 4000000
namespace Go.Proofs.YtbnlhdnnenahfaaGreatDoor
open Go.RowKit Go.Shelf
def Tryz.lays264_ren:Go.Shelf.Ren:=⟨fun | 264=>38 | n=>n,fun | 53=>35 | 46=>73 | n=>n,fun | n=>n⟩
theorem Tryz.lays264:Go.Proofs.Lays.n264 Tryz.prog Tryz.lays264_ren:={
 mixed:=by kernel_rfl,
 f264:=Tryz.func38.trans (congrArg some (by kernel_rfl)),
 t46:=Tryz.underlying73,
 a46:=Tryz.isAgg73,
 z46:=Tryz.sizeOf73,
 v46:=Tryz.zeroValue73,
 t53:=Tryz.underlying35,
 a53:=Tryz.isAgg35,
 z53:=Tryz.sizeOf35,
 v53:=Tryz.zeroValue35 }
theorem dI (p q:Int)(p0:0<=p)(p1:p<=18446744073709551615)(q0:0<=q)(q1:q<=18446744073709551615)(w:World) :
 Calls Tryz.prog 38 #[.int .u64 p,.int .u64 q] w fun e w'=>e=.returned (.tuple #[.int .u64 (am (p*q)),.int .u64 (ak (p*q))])/\w'=w:=by
 obtain⟨P,rfl⟩:=Int.eq_ofNat_of_zero_le p0;obtain⟨Q,rfl⟩:=Int.eq_ofNat_of_zero_le q0;have h:=Any.bits_Mul64 Tryz.lays264 P Q (by omega) (by omega) w;have hlt:P*Q<18446744073709551616*18446744073709551616:=Nat.mul_lt_mul'' (by omega) (by omega);have e1:((P*Q / 18446744073709551616:Nat):Int)=am ((P:Int)*(Q:Int)):=by
  rw[←Int.natCast_mul];unfold am;omega
 have e2:((P*Q%18446744073709551616:Nat):Int)=ak ((P:Int)*(Q:Int)):=by
  rw[←Int.natCast_mul];unfold ak;omega
 rw[e1,e2]at h;exact h
theorem yV (a b c d s cy t u:Int)(a1:0<=a)(b1:0<=b)(c1:0<=c)(d1:0<=d)(hs:(b+d+0)%18446744073709551616=s)(hcy:(b+d+0) / 18446744073709551616=cy)(cy0:0<=cy)(cy1:cy<=1)
 (ht:(a+c+cy)%18446744073709551616=t) (hu:(a+c+cy) / 18446744073709551616=u) (w:World) :
 Calls Tryz.prog 177 #[.agg #[.int .u64 a,.int .u64 b],.agg #[.int .u64 c,.int .u64 d]] w fun e w'=>e=.returned (.agg #[.int .u64 t,.int .u64 s])/\Below w.heap.size w w':=by
 have f1:=fun w=>kW b d 0 b1 d1 (by omega) (by omega) w;rw[hs,hcy]at f1;have f2:=fun w=>kW a c cy a1 c1 cy0 cy1 w;rw[ht,hu]at f2;clear hs hcy ht hu
 go_enter Tryz.func177,Tryz.ntmps177
 go_wp2
 go_returns
 exact⟨rfl,by go_grown⟩
theorem pm (x y:Int)(w:World) :
 Calls Tryz.prog 177 #[.agg #[.int .u64 (am x),.int .u64 (ak x)],.agg #[.int .u64 (am y),.int .u64 (ak y)]] w fun e w'=>e=.returned (.agg #[.int .u64 (am (x+y)),.int .u64 (ak (x+y))])/\Below w.heap.size w w':=by
 have hx:=fA x;have hy:=fA y;have kx:=dZ x;have ky:=dZ y;refine yV (am x) (ak x) (am y) (ak y) (ak (x+y)) ((ak x+ak y+0) / 18446744073709551616) (am (x+y)) _ kx.1 hx.1 ky.1 hy.1 ?_ rfl (by omega) (by omega) ?_ rfl w
 · unfold ak;omega
 · unfold am ak;omega
theorem wh (a b c d s cy t u:Int)(a1:0<=a)(b1:0<=b)(c1:0<=c)(c2:c<18446744073709551616)(d1:0<=d)(d2:d<18446744073709551616)(hs:(b-d-0)%18446744073709551616=s)(hcy:(if b<d+0 then (1:Int)else 0)=cy)(cy0:0<=cy)(cy1:cy<=1)
 (ht:(a-c-cy)%18446744073709551616=t) (hu:(if a<c+cy then (1:Int)else 0)=u) (w:World) :
 Calls Tryz.prog 175 #[.agg #[.int .u64 a,.int .u64 b],.agg #[.int .u64 c,.int .u64 d]] w fun e w'=>e=.returned (.agg #[.int .u64 t,.int .u64 s])/\Below w.heap.size w w':=by
 have f1:=fun w=>ug b d 0 b1 d1 d2 (by omega) (by omega) w;rw[hs,hcy]at f1;have f2:=fun w=>ug a c cy a1 c1 c2 cy0 cy1 w;rw[ht,hu]at f2;clear hs hcy ht hu
 go_enter Tryz.func175,Tryz.ntmps175
 go_wp2
 go_returns
 exact⟨rfl,by go_grown⟩
theorem wg (x y:Int)(w:World) :
 Calls Tryz.prog 175 #[.agg #[.int .u64 (am x),.int .u64 (ak x)],.agg #[.int .u64 (am y),.int .u64 (ak y)]] w fun e w'=>e=.returned (.agg #[.int .u64 (am (x-y)),.int .u64 (ak (x-y))])/\Below w.heap.size w w':=by
 have hx:=fA x;have hy:=fA y;have kx:=dZ x;have ky:=dZ y;have hc:∃cy:Int,(if ak x<ak y+0 then (1:Int)else 0)=cy/\0<=cy/\cy<=1/\(ak x<ak y->cy=1)/\(¬ak x<ak y->cy=0):=by
  by_cases h:ak x<ak y
  · exact⟨1,if_pos (by omega),by omega,by omega,fun _=>rfl,fun k=>absurd h k⟩
  · exact⟨0,if_neg (by omega),by omega,by omega,fun k=>absurd k h,fun _=>rfl⟩
 obtain⟨cy,h1,h2,h3,h4,h5⟩:=hc;refine wh (am x) (ak x) (am y) (ak y) (ak (x-y)) cy (am (x-y)) _ kx.1 hx.1 ky.1 (by omega) hy.1 (by omega) ?_ h1 h2 h3 ?_ rfl w
 · unfold ak;omega
 · clear h1;by_cases h:ak x<ak y
   · rw[h4 h];clear h4 h5;unfold am ak at *;omega
   · rw[h5 h];clear h4 h5;unfold am ak at *;omega
theorem Br (a b s t:Int)(ha:¬a<0)(hb:¬b<0)(a2:a<=9223372036854775807)(b2:b<=9223372036854775807)
 (M:∀w,Calls Tryz.prog 38 #[.int .u64 a,.int .u64 b] w fun e w'=>e=.returned (.tuple #[.int .u64 s,.int .u64 t])/\w'=w) (w:World) :
 Calls Tryz.prog 174 #[.int .i64 a,.int .i64 b] w fun e w'=>e=.returned (.agg #[.int .u64 s,.int .u64 t])/\Below w.heap.size w w':=by
 have ha':=df ha;have hb':=df hb;replace M:Hid _:=M
 go_enter Tryz.func174,Tryz.ntmps174
 go_wp2_with fail;refine(M.out _).mono ?_;rintro e w1 ⟨rfl,rfl⟩;go_wp2
 go_returns
 exact⟨rfl,by go_grown⟩
theorem Bo (a b x y s t r q:Int)(ha:a<0)(hb:b<0)(hx:IntKind.u64.wrap a=x)(hy:IntKind.u64.wrap b=y)(hr:IntKind.u64.wrap (s-y)=r)(hq:IntKind.u64.wrap (r-x)=q)
 (M:∀w,Calls Tryz.prog 38 #[.int .u64 x,.int .u64 y] w fun e w'=>e=.returned (.tuple #[.int .u64 s,.int .u64 t])/\w'=w) (w:World) :
 Calls Tryz.prog 174 #[.int .i64 a,.int .i64 b] w fun e w'=>e=.returned (.agg #[.int .u64 q,.int .u64 t])/\Below w.heap.size w w':=by
 replace M:Hid _:=M
 go_enter Tryz.func174,Tryz.ntmps174
 go_wp2_with fail;refine(M.out _).mono ?_;rintro e w1 ⟨rfl,rfl⟩;go_wp2
 go_returns
 exact⟨rfl,by go_grown⟩
theorem Bq (a b y s t q:Int)(ha:¬a<0)(hb:b<0)(a2:a<=9223372036854775807)(hy:IntKind.u64.wrap b=y)(hq:IntKind.u64.wrap (s-a)=q)
 (M:∀w,Calls Tryz.prog 38 #[.int .u64 a,.int .u64 y] w fun e w'=>e=.returned (.tuple #[.int .u64 s,.int .u64 t])/\w'=w) (w:World) :
 Calls Tryz.prog 174 #[.int .i64 a,.int .i64 b] w fun e w'=>e=.returned (.agg #[.int .u64 q,.int .u64 t])/\Below w.heap.size w w':=by
 have ha':=df ha;replace M:Hid _:=M
 go_enter Tryz.func174,Tryz.ntmps174
 go_wp2_with fail;refine(M.out _).mono ?_;rintro e w1 ⟨rfl,rfl⟩;go_wp2
 go_returns
 exact⟨rfl,by go_grown⟩
theorem Bp (a b x s t q:Int)(ha:a<0)(hb:¬b<0)(b2:b<=9223372036854775807)(hx:IntKind.u64.wrap a=x)(hq:IntKind.u64.wrap (s-b)=q)
 (M:∀w,Calls Tryz.prog 38 #[.int .u64 x,.int .u64 b] w fun e w'=>e=.returned (.tuple #[.int .u64 s,.int .u64 t])/\w'=w) (w:World) :
 Calls Tryz.prog 174 #[.int .i64 a,.int .i64 b] w fun e w'=>e=.returned (.agg #[.int .u64 q,.int .u64 t])/\Below w.heap.size w w':=by
 have hb':=df hb;replace M:Hid _:=M
 go_enter Tryz.func174,Tryz.ntmps174
 go_wp2_with fail;refine(M.out _).mono ?_;rintro e w1 ⟨rfl,rfl⟩;go_wp2
 go_returns
 exact⟨rfl,by go_grown⟩
theorem n8 (a b:Int):(a+18446744073709551616)*b=a*b+18446744073709551616*b:=by rw[Int.add_mul]
theorem lZ (a b:Int):a*(b+18446744073709551616)=a*b+18446744073709551616*a:=by rw[Int.mul_add,Int.mul_comm a 18446744073709551616]
theorem fL (a b:Int)(a1: -9223372036854775808<=a)(a2:a<=9223372036854775807)(b1: -9223372036854775808<=b)(b2:b<=9223372036854775807)(w:World) :
 Calls Tryz.prog 174 #[.int .i64 a,.int .i64 b] w fun e w'=>e=.returned (.agg #[.int .u64 (am (a*b)),.int .u64 (ak (a*b))])/\Below w.heap.size w w':=by
 by_cases ha:a<0
 · have ex:IntKind.u64.wrap a=a+18446744073709551616:=by rw[IntKind.wrap_u64];omega
   by_cases hb:b<0
   · have ey:IntKind.u64.wrap b=b+18446744073709551616:=by rw[IntKind.wrap_u64];omega
     have M:=dI (a+18446744073709551616) (b+18446744073709551616) (by omega) (by omega) (by omega) (by omega);have e:(a+18446744073709551616)*(b+18446744073709551616)=a*b+18446744073709551616*b+18446744073709551616*(a+18446744073709551616):=by rw[lZ,n8]
     have el:ak (a*b)=ak ((a+18446744073709551616)*(b+18446744073709551616)):=by rw[e];unfold ak;omega
     rw[el];refine Bo a b _ _ _ _ _ _ ha hb ex ey rfl ?_ M w;rw[IntKind.wrap_u64,IntKind.wrap_u64,e];unfold am;omega
   · have M:=dI (a+18446744073709551616) b (by omega) (by omega) (by omega) (by omega);have e:=n8 a b;have el:ak (a*b)=ak ((a+18446744073709551616)*b):=by rw[e];unfold ak;omega
     rw[el];refine Bp a b _ _ _ _ ha hb b2 ex ?_ M w;rw[IntKind.wrap_u64,e];unfold am;omega
 · by_cases hb:b<0
   · have ey:IntKind.u64.wrap b=b+18446744073709551616:=by rw[IntKind.wrap_u64];omega
     have M:=dI a (b+18446744073709551616) (by omega) (by omega) (by omega) (by omega);have e:=lZ a b;have el:ak (a*b)=ak (a*(b+18446744073709551616)):=by rw[e];unfold ak;omega
     rw[el];refine Bq a b _ _ _ _ ha hb a2 ey ?_ M w;rw[IntKind.wrap_u64,e];unfold am;omega
   · exact Br a b _ _ ha hb a2 b2 (dI a b (by omega) (by omega) (by omega) (by omega)) w
theorem tn (a b m p:Int)(hm:wrap64 b=m)(m1: -9223372036854775808<=m)(m2:m<=9223372036854775807)(hp:IntKind.u64.wrap (m / 9223372036854775808)=p)(h:(a == p)=true)(w:World) :
 Calls Tryz.prog 176 #[.agg #[.int .u64 a,.int .u64 b]] w fun e w'=>e=.returned (.tuple #[.int .i64 m,.bool true])/\Below w.heap.size w w':=by
 subst hm
 go_enter Tryz.func176,Tryz.ntmps176
 go_wp2
 go_ret2
 exact⟨rfl,by go_grown⟩
theorem wn (a b m p:Int)(hm:wrap64 b=m)(hp:IntKind.u64.wrap (m / 9223372036854775808)=p)(h:(a == p)=false)(w:World) :
 Calls Tryz.prog 176 #[.agg #[.int .u64 a,.int .u64 b]] w fun e w'=>e=.returned (.tuple #[.int .i64 0,.bool false])/\Below w.heap.size w w':=by
 go_enter Tryz.func176,Tryz.ntmps176
 go_wp2
 go_ret2
 exact⟨rfl,by go_grown⟩
theorem iN (z:Int)(z1: -255211775190703847597530955573826158592<=z)(z2:z<=255211775190703847597530955573826158592)(w:World) :
 Calls Tryz.prog 176 #[.agg #[.int .u64 (am z),.int .u64 (ak z)]] w fun e w'=>e=.returned (.tuple #[.int .i64 (cl z),.bool (aX z)])/\Below w.heap.size w w':=by
 have hw:wrap64 (ak z)=wrap64 z:=by unfold wrap64 ak;omega
 have hb:=vH z;by_cases h: -9223372036854775808<=z/\z<=9223372036854775807
 · rw[bt (ax h),ax h];have e:=db h;rw[e]at hw hb;refine tn _ _ z _ hw hb.1 hb.2 rfl ?_ w;rw[IntKind.wrap_u64,beq_iff_eq];unfold am;omega
 · rw[fY (co h),co h];refine wn _ _ (wrap64 z) _ hw rfl ?_ w;have:¬am z=IntKind.u64.wrap (wrap64 z / 9223372036854775808):=by
    rw[IntKind.wrap_u64];unfold am wrap64;omega
   simpa using this
end Go.Proofs.YtbnlhdnnenahfaaGreatDoor
namespace Go.Proofs.YtbnlhdnnenahfaaGreatDoor
open Go.RowKit
theorem hmf:∀(fn:Fn) (first cap:Array Value)(w:World),(Instr.makeFunc fn first cap).run Tryz.prog w=.ok (.func fn first cap) w:=fun _ _ _ _=>rfl
theorem AP (a b:Int)(_ha: -9223372036854775808<=a)(_ha':a<=9223372036854775807)(h: -9223372036854775808<=a+b)(h':a+b<=9223372036854775807)(w:World) :
 Calls Tryz.prog 183 #[.int .i64 a,.int .i64 b] w fun e w'=>e=.returned (.tuple #[.int .i64 (a+b),.bool true])/\Below w.heap.size w w':=by
 have hmf:=hmf;by_cases hp:0<b
 · have hq:a<a+b:=by omega
   go_enter Tryz.func183,Tryz.ntmps183
   go_wp2
   go_quiet (fail)
   go_wp2
   go_ret2
   exact⟨rfl,aB (by go_grown) _⟩
 · have hq:=df (show ¬a<a+b by omega);have hr:=df hp
   go_enter Tryz.func183,Tryz.ntmps183
   go_wp2
   go_quiet (fail)
   go_wp2
   go_ret2
   exact⟨rfl,aB (by go_grown) _⟩
theorem AQ (a b:Int)(ha: -9223372036854775808<=a)(ha':a<=9223372036854775807)(hb: -9223372036854775808<=b)(hb':b<=9223372036854775807)
 (h:a+b < -9223372036854775808∨9223372036854775807<a+b) (w:World) :
 Calls Tryz.prog 183 #[.int .i64 a,.int .i64 b] w fun e w'=>e=.returned (.tuple #[.int .i64 0,.bool false])/\Below w.heap.size w w':=by
 have hmf:=hmf;by_cases hp:0<b
 · obtain⟨n,hn,hq⟩:∃n,wrap64 (a+b)=n/\decide (a<n)=false:=⟨_,rfl,by unfold wrap64;exact df (by omega)⟩
   clear h
   go_enter Tryz.func183,Tryz.ntmps183
   go_wp2
   go_quiet (fail)
   go_wp2
   go_ret2
   exact⟨rfl,aB (by go_grown) _⟩
 · obtain⟨n,hn,hq⟩:∃n,wrap64 (a+b)=n/\a<n:=⟨_,rfl,by unfold wrap64;omega⟩
   have hr:=df hp;clear h
   go_enter Tryz.func183,Tryz.ntmps183
   go_wp2
   go_quiet (fail)
   go_wp2
   go_ret2
   exact⟨rfl,aB (by go_grown) _⟩
theorem DC (a b:Int)(_ha: -9223372036854775808<=a)(_ha':a<=9223372036854775807)(h: -9223372036854775808<=a-b)(h':a-b<=9223372036854775807)(w:World) :
 Calls Tryz.prog 223 #[.int .i64 a,.int .i64 b] w fun e w'=>e=.returned (.tuple #[.int .i64 (a-b),.bool true])/\Below w.heap.size w w':=by
 have hmf:=hmf;by_cases hp:0<b
 · have hq:a-b<a:=by omega
   go_enter Tryz.func223,Tryz.ntmps223
   go_wp2
   go_quiet (fail)
   go_wp2
   go_ret2
   exact⟨rfl,aB (by go_grown) _⟩
 · have hq:=df (show ¬a-b<a by omega);have hr:=df hp
   go_enter Tryz.func223,Tryz.ntmps223
   go_wp2
   go_quiet (fail)
   go_wp2
   go_ret2
   exact⟨rfl,aB (by go_grown) _⟩
theorem DD (a b:Int)(ha: -9223372036854775808<=a)(ha':a<=9223372036854775807)(hb: -9223372036854775808<=b)(hb':b<=9223372036854775807)
 (h:a-b < -9223372036854775808∨9223372036854775807<a-b) (w:World) :
 Calls Tryz.prog 223 #[.int .i64 a,.int .i64 b] w fun e w'=>e=.returned (.tuple #[.int .i64 0,.bool false])/\Below w.heap.size w w':=by
 have hmf:=hmf;by_cases hp:0<b
 · obtain⟨n,hn,hq⟩:∃n,wrap64 (a-b)=n/\decide (n<a)=false:=⟨_,rfl,by unfold wrap64;exact df (by omega)⟩
   clear h
   go_enter Tryz.func223,Tryz.ntmps223
   go_wp2
   go_quiet (fail)
   go_wp2
   go_ret2
   exact⟨rfl,aB (by go_grown) _⟩
 · obtain⟨n,hn,hq⟩:∃n,wrap64 (a-b)=n/\n<a:=⟨_,rfl,by unfold wrap64;omega⟩
   have hr:=df hp;clear h
   go_enter Tryz.func223,Tryz.ntmps223
   go_wp2
   go_quiet (fail)
   go_wp2
   go_ret2
   exact⟨rfl,aB (by go_grown) _⟩
theorem Cu (b:Int)(h: -9223372036854775808<b)(h':b<=9223372036854775807)(w:World) :
 Calls Tryz.prog 184 #[.int .i64 b] w fun e w'=>e=.returned (.tuple #[.int .i64 (-b),.bool true])/\Below w.heap.size w w':=by
 have hmf:=hmf;by_cases hp:0<b
 · have hq: -b<0:=by omega
   go_enter Tryz.func184,Tryz.ntmps184
   go_wp2
   go_quiet (fail)
   go_wp2
   go_ret2
   exact⟨rfl,aB (by go_grown) _⟩
 · have hq:=df (show ¬ -b<0 by omega);have hr:=df hp
   go_enter Tryz.func184,Tryz.ntmps184
   go_wp2
   go_quiet (fail)
   go_wp2
   go_ret2
   exact⟨rfl,aB (by go_grown) _⟩
theorem Fr (w:World) :
 Calls Tryz.prog 184 #[.int .i64 (-9223372036854775808)] w fun e w'=>e=.returned (.tuple #[.int .i64 0,.bool false])/\Below w.heap.size w w':=by
 have hmf:=hmf;obtain⟨m,hm,hq⟩:∃m,wrap64 9223372036854775808=m/\m<0:=⟨_,rfl,by unfold wrap64;omega⟩
 go_enter Tryz.func184,Tryz.ntmps184
 go_wp2
 go_quiet (fail)
 go_wp2
 go_ret2
 exact⟨rfl,aB (by go_grown) _⟩
theorem BI (a b:Int)(hb:0<b)(hz:¬b=0)(h:0<=a)(h2:a<=9223372036854775807)(w:World) :
 Calls Tryz.prog 137 #[.int .i64 a,.int .i64 b] w fun e w'=>e=.returned (.tuple #[.int .i64 (a / b),.int .i64 (a%b),.bool true])/\Below w.heap.size w w':=by
 have hr:0<=a%b:=Int.emod_nonneg _ hz
 go_enter Tryz.func137,Tryz.ntmps137
 go_wp2
 go_quiet (fail)
 go_wp2
 go_ret3
 exact⟨rfl,aB (Below.refl _ _) _⟩
theorem wK (a b q r:Int)(hb:0<b)(hz:¬b=0)(_h:a<0)(hq:a.tdiv b=q)(hr:a.tmod b=r)(q1: -9223372036854775808<=q)(q2:q<=9223372036854775807)(r1: -9223372036854775808<=r)(r2:r<=9223372036854775807)(h0:0<=r)(w:World) :
 Calls Tryz.prog 137 #[.int .i64 a,.int .i64 b] w fun e w'=>e=.returned (.tuple #[.int .i64 q,.int .i64 r,.bool true])/\Below w.heap.size w w':=by
 go_enter Tryz.func137,Tryz.ntmps137
 go_wp2
 go_quiet (fail)
 go_wp2
 go_ret3
 exact⟨rfl,aB (Below.refl _ _) _⟩
theorem yZ (a b q r:Int)(hb:0<b)(hz:¬b=0)(_h:a<0)(hq:a.tdiv b=q)(hr:a.tmod b=r)(q1: -9223372036854775807<=q)(q2:q<=9223372036854775807)(r1: -9223372036854775808<=r)(r2:r+b<=9223372036854775807)(h0:r<0)(w:World) :
 Calls Tryz.prog 137 #[.int .i64 a,.int .i64 b] w fun e w'=>e=.returned (.tuple #[.int .i64 (q-1),.int .i64 (r+b),.bool true])/\Below w.heap.size w w':=by
 go_enter Tryz.func137,Tryz.ntmps137
 go_wp2
 go_quiet (fail)
 go_wp2
 go_ret3
 exact⟨rfl,aB (Below.refl _ _) _⟩
theorem cS (a b:Int)(a1: -9223372036854775808<=a)(a2:a<=9223372036854775807)(hb:0<b)(b2:b<=9223372036854775807)(w:World) :
 Calls Tryz.prog 137 #[.int .i64 a,.int .i64 b] w fun e w'=>e=.returned (.tuple #[.int .i64 (a / b),.int .i64 (a%b),.bool true])/\Below w.heap.size w w':=by
 by_cases h:0<=a
 · exact BI a b hb (by omega) h a2 w
 · have e:=Int.mul_tdiv_add_tmod a b;have q:=vA (a:=b) a1 a2 (by omega);have r1:a.tmod b= -((-a)%b):=by
    have:=Int.neg_tmod (-a) b;rw[Int.neg_neg]at this;rw[this,Int.tmod_eq_emod_of_nonneg (by omega)]
   have r2:=Int.emod_nonneg (-a) (b:=b) (by omega);have r3:=Int.emod_lt_of_pos (-a) hb;by_cases h0:0<=a.tmod b
   · have u:=(Int.ediv_emod_unique (a:=a) (r:=a.tmod b) (q:=a.tdiv b) hb).2 ⟨by omega,h0,by omega⟩;rw[u.1,u.2];exact wK a b _ _ hb (by omega) (by omega) rfl rfl q.1 q.2 (by omega) (by omega) h0 w
   · have u:=(Int.ediv_emod_unique (a:=a) (r:=a.tmod b+b) (q:=a.tdiv b-1) hb).2 ⟨by rw[Int.mul_sub];omega,by omega,by omega⟩;rw[u.1,u.2];have q1: -9223372036854775807<=a.tdiv b:=by
      by_cases hm:a.tdiv b= -9223372036854775808
      · exfalso
        rw[hm]at e;omega
      · omega
     exact yZ a b _ _ hb (by omega) (by omega) rfl rfl q1 q.2 (by omega) (by omega) (by omega) w
theorem ov (a b:Int)(a1: -9223372036854775808<=a)(a2:a<=9223372036854775807)(b1: -9223372036854775808<=b)(b2:b<=9223372036854775807)(w:World) :
 Calls Tryz.prog 183 #[.int .i64 a,.int .i64 b] w fun e w'=>e=.returned (.tuple #[.int .i64 (cl (a+b)),.bool (aX (a+b))])/\Below w.heap.size w w':=by
 by_cases h: -9223372036854775808<=a+b/\a+b<=9223372036854775807
 · rw[bt (ax h),ax h];exact AP a b a1 a2 h.1 h.2 w
 · rw[fY (co h),co h];exact AQ a b a1 a2 b1 b2 (by omega) w
theorem vw (a b:Int)(a1: -9223372036854775808<=a)(a2:a<=9223372036854775807)(b1: -9223372036854775808<=b)(b2:b<=9223372036854775807)(w:World) :
 Calls Tryz.prog 223 #[.int .i64 a,.int .i64 b] w fun e w'=>e=.returned (.tuple #[.int .i64 (cl (a-b)),.bool (aX (a-b))])/\Below w.heap.size w w':=by
 by_cases h: -9223372036854775808<=a-b/\a-b<=9223372036854775807
 · rw[bt (ax h),ax h];exact DC a b a1 a2 h.1 h.2 w
 · rw[fY (co h),co h];exact DD a b a1 a2 b1 b2 (by omega) w
theorem Fq (b:Int)(b1: -9223372036854775808<=b)(b2:b<=9223372036854775807)(w:World) :
 Calls Tryz.prog 184 #[.int .i64 b] w fun e w'=>e=.returned (.tuple #[.int .i64 (cl (-b)),.bool (aX (-b))])/\Below w.heap.size w w':=by
 by_cases h: -9223372036854775808≤-b∧-b<=9223372036854775807
 · rw[bt (ax h),ax h];exact Cu b (by omega) b2 w
 · obtain rfl:b= -9223372036854775808:=by omega
   rw[fY (co h),co h];exact Fr w
def dc (x y:Int):Bool:=aX x && aX y
def dr (x y:Int):Int:=if dc x y=true then x else 0
def dt (x y:Int):Int:=if dc x y=true then y else 0
theorem gY {x y:Int}(h:aX x=true)(k:aX y=true):dc x y=true:=by unfold dc;rw[h,k];rfl
theorem fW {x y:Int}(h:dc x y=true):dr x y=x:=if_pos h
theorem fX {x y:Int}(h:dc x y=true):dt x y=y:=if_pos h
theorem rp {x y:Int}(h:dc x y=false):dr x y=0:=by unfold dr;rw[h];rfl
theorem rq {x y:Int}(h:dc x y=false):dt x y=0:=by unfold dt;rw[h];rfl
theorem wQ (x y:Int)(w:World) :
 Calls Tryz.prog 178 #[.int .i64 x,.bool true,.int .i64 y,.bool true] w fun e w'=>e=.returned (.tuple #[.agg #[.int .i64 x,.int .i64 y],.bool true])/\Below w.heap.size w w':=by
 go_enter Tryz.func178,Tryz.ntmps178
 go_wp2;exact bodyPost_ret (v:=.tuple #[.agg #[.int .i64 x,.int .i64 y],.bool true]) (by simp[results,Tryz.results178,go_sem]) rfl ⟨rfl,by go_grown⟩
theorem rl (x y:Int)(b:Bool)(w:World) :
 Calls Tryz.prog 178 #[.int .i64 x,.bool false,.int .i64 y,.bool b] w fun e w'=>e=.returned (.tuple #[.agg #[.int .i64 0,.int .i64 0],.bool false])/\Below w.heap.size w w':=by
 go_enter Tryz.func178,Tryz.ntmps178
 go_wp2;exact bodyPost_ret (v:=.tuple #[.agg #[.int .i64 0,.int .i64 0],.bool false]) (by simp[results,Tryz.results178,go_sem]) rfl ⟨rfl,by go_grown⟩
theorem rm (x y:Int)(w:World) :
 Calls Tryz.prog 178 #[.int .i64 x,.bool true,.int .i64 y,.bool false] w fun e w'=>e=.returned (.tuple #[.agg #[.int .i64 0,.int .i64 0],.bool false])/\Below w.heap.size w w':=by
 go_enter Tryz.func178,Tryz.ntmps178
 go_wp2;exact bodyPost_ret (v:=.tuple #[.agg #[.int .i64 0,.int .i64 0],.bool false]) (by simp[results,Tryz.results178,go_sem]) rfl ⟨rfl,by go_grown⟩
theorem gJ (x y:Int)(w:World) :
 Calls Tryz.prog 178 #[.int .i64 (cl x),.bool (aX x),.int .i64 (cl y),.bool (aX y)] w fun e w'=>e=.returned (.tuple #[.agg #[.int .i64 (dr x y),.int .i64 (dt x y)],.bool (dc x y)])/\Below w.heap.size w w':=by
 cases hx:aX x with
 | false =>
  have hb:dc x y=false:=by unfold dc;rw[hx];rfl
  rw[hb,rp hb,rq hb];exact rl _ _ _ w
 | true =>
  cases hy:aX y with
  | false =>
   have hb:dc x y=false:=by unfold dc;rw[hx,hy];rfl
   rw[hb,rp hb,rq hb];exact rm _ _ w
  | true =>
   have hb:=gY hx hy;rw[hb,fW hb,fX hb,bt hx,bt hy];exact wQ _ _ w
theorem Bn (a b c d:Int)(a1: -9223372036854775808<=a)(a2:a<=9223372036854775807)(b1: -9223372036854775808<=b)(b2:b<=9223372036854775807)(k1: -9223372036854775808<=c)(k2:c<=9223372036854775807)(d1: -9223372036854775808<=d)(d2:d<=9223372036854775807)(w:World) :
 Calls Tryz.prog 143 #[.agg #[.int .i64 a,.int .i64 b],.agg #[.int .i64 c,.int .i64 d]] w fun e w'=>e=.returned (.tuple #[.agg #[.int .i64 (dr (a+c) (b+d)),.int .i64 (dt (a+c) (b+d))],.bool (dc (a+c) (b+d))])/\Below w.heap.size w w':=by
 go_enter Tryz.func143,Tryz.ntmps143
 go_wp2_with fail;refine(ov a c a1 a2 k1 k2 _).mono ?_;rintro e w1 ⟨rfl,c1⟩;obtain⟨hc,hf⟩:=bQ c1;go_wp2_with fail;refine(ov b d b1 b2 d1 d2 _).mono ?_;rintro e w2 ⟨rfl,c2⟩;replace c2:=ae c1 c2;clear c1 hc hf;obtain⟨hc,hf⟩:=bQ c2;go_wp2_with fail;refine(gJ (a+c) (b+d) _).mono ?_;rintro e w3 ⟨rfl,c3⟩;replace c3:=ae c2 c3;clear c2 hc hf;obtain⟨hc,hf⟩:=bQ c3;have e0:w3.cell? ⟨w.heap.size+1+1,0,none⟩=some (.int .i64 0):=by rw[hc _ _ (by simp)];go_simp
 have e1:w3.cell? ⟨w.heap.size+1+1,1,none⟩=some (.int .i64 0):=by rw[hc _ _ (by simp)];go_simp
 obtain⟨g0,g1⟩:=au (u:=.int .i64 (dr (a+c) (b+d))) (v:=.int .i64 (dt (a+c) (b+d))) e0 e1;have hB:Below w.heap.size w w3:=Below.trans (by go_grown) (c3.mono (by simp;try omega));go_wp2;exact bodyPost_ret (v:=.tuple #[.agg #[.int .i64 (dr (a+c) (b+d)),.int .i64 (dt (a+c) (b+d))],.bool (dc (a+c) (b+d))]) (by simp[results,Tryz.results143,go_sem,g0,g1]) rfl ⟨rfl,(hB.setCell (by simp;try omega) _).setCell (by simp;try omega) _⟩
theorem Bs (a b c d:Int)(a1: -9223372036854775808<=a)(a2:a<=9223372036854775807)(b1: -9223372036854775808<=b)(b2:b<=9223372036854775807)(k1: -9223372036854775808<=c)(k2:c<=9223372036854775807)(d1: -9223372036854775808<=d)(d2:d<=9223372036854775807)(w:World) :
 Calls Tryz.prog 217 #[.agg #[.int .i64 a,.int .i64 b],.agg #[.int .i64 c,.int .i64 d]] w fun e w'=>e=.returned (.tuple #[.agg #[.int .i64 (dr (a-c) (b-d)),.int .i64 (dt (a-c) (b-d))],.bool (dc (a-c) (b-d))])/\Below w.heap.size w w':=by
 go_enter Tryz.func217,Tryz.ntmps217
 go_wp2_with fail;refine(vw a c a1 a2 k1 k2 _).mono ?_;rintro e w1 ⟨rfl,c1⟩;obtain⟨hc,hf⟩:=bQ c1;go_wp2_with fail;refine(vw b d b1 b2 d1 d2 _).mono ?_;rintro e w2 ⟨rfl,c2⟩;replace c2:=ae c1 c2;clear c1 hc hf;obtain⟨hc,hf⟩:=bQ c2;go_wp2_with fail;refine(gJ (a-c) (b-d) _).mono ?_;rintro e w3 ⟨rfl,c3⟩;replace c3:=ae c2 c3;clear c2 hc hf;obtain⟨hc,hf⟩:=bQ c3;have e0:w3.cell? ⟨w.heap.size+1+1,0,none⟩=some (.int .i64 0):=by rw[hc _ _ (by simp)];go_simp
 have e1:w3.cell? ⟨w.heap.size+1+1,1,none⟩=some (.int .i64 0):=by rw[hc _ _ (by simp)];go_simp
 obtain⟨g0,g1⟩:=au (u:=.int .i64 (dr (a-c) (b-d))) (v:=.int .i64 (dt (a-c) (b-d))) e0 e1;have hB:Below w.heap.size w w3:=Below.trans (by go_grown) (c3.mono (by simp;try omega));go_wp2;exact bodyPost_ret (v:=.tuple #[.agg #[.int .i64 (dr (a-c) (b-d)),.int .i64 (dt (a-c) (b-d))],.bool (dc (a-c) (b-d))]) (by simp[results,Tryz.results217,go_sem,g0,g1]) rfl ⟨rfl,(hB.setCell (by simp;try omega) _).setCell (by simp;try omega) _⟩
theorem yQ (a b:Int)(a1: -9223372036854775808<=a)(a2:a<=9223372036854775807)(b1: -9223372036854775808<=b)(b2:b<=9223372036854775807)(w:World) :
 Calls Tryz.prog 145 #[.agg #[.int .i64 a,.int .i64 b]] w fun e w'=>e=.returned (.tuple #[.agg #[.int .i64 (dr (a+b) (-b)),.int .i64 (dt (a+b) (-b))],.bool (dc (a+b) (-b))])/\Below w.heap.size w w':=by
 go_enter Tryz.func145,Tryz.ntmps145
 go_wp2_with fail;refine(ov a b a1 a2 b1 b2 _).mono ?_;rintro e w1 ⟨rfl,c1⟩;obtain⟨hc,hf⟩:=bQ c1;go_wp2_with fail;refine(Fq b b1 b2 _).mono ?_;rintro e w2 ⟨rfl,c2⟩;replace c2:=ae c1 c2;clear c1 hc hf;obtain⟨hc,hf⟩:=bQ c2;go_wp2_with fail;refine(gJ (a+b) (-b) _).mono ?_;rintro e w3 ⟨rfl,c3⟩;replace c3:=ae c2 c3;clear c2 hc hf;obtain⟨hc,hf⟩:=bQ c3;have e0:w3.cell? ⟨w.heap.size+1,0,none⟩=some (.int .i64 0):=by rw[hc _ _ (by simp)];go_simp
 have e1:w3.cell? ⟨w.heap.size+1,1,none⟩=some (.int .i64 0):=by rw[hc _ _ (by simp)];go_simp
 obtain⟨g0,g1⟩:=au (u:=.int .i64 (dr (a+b) (-b))) (v:=.int .i64 (dt (a+b) (-b))) e0 e1;have hB:Below w.heap.size w w3:=Below.trans (by go_grown) (c3.mono (by simp;try omega));go_wp2;exact bodyPost_ret (v:=.tuple #[.agg #[.int .i64 (dr (a+b) (-b)),.int .i64 (dt (a+b) (-b))],.bool (dc (a+b) (-b))]) (by simp[results,Tryz.results145,go_sem,g0,g1]) rfl ⟨rfl,(hB.setCell (by simp;try omega) _).setCell (by simp;try omega) _⟩
theorem f8 {a b:Int}(a1: -9223372036854775808<=a)(a2:a<=9223372036854775807)(b1: -9223372036854775808<=b)(b2:b<=9223372036854775807) :
 -85070591730234615865843651857942052864<=a*b/\a*b<=85070591730234615865843651857942052864:=by
 have h:(a*b).natAbs<=9223372036854775808*9223372036854775808:=by
  rw[Int.natAbs_mul];exact Nat.mul_le_mul (by omega) (by omega)
 omega
theorem aK (w:World):Below w.heap.size w w.drew:=(Below.refl _ _).drew
theorem iz {w0 a b:World}{p0 p1 p2 p3 p4 p5 p6 p7:Addr}{v0 v1 v2 v3 v4 v5 v6 v7:Value}(hb:Below a.heap.size a b)
 (h:a.cell? p0=some v0/\a.cell? p1=some v1/\a.cell? p2=some v2/\a.cell? p3=some v3/\a.cell? p4=some v4/\a.cell? p5=some v5/\a.cell? p6=some v6/\a.cell? p7=some v7/\a.frozen? p4=false/\a.frozen? p5=false/\Below w0.heap.size w0 a) :
 b.cell? p0=some v0/\b.cell? p1=some v1/\b.cell? p2=some v2/\b.cell? p3=some v3/\b.cell? p4=some v4/\b.cell? p5=some v5/\b.cell? p6=some v6/\b.cell? p7=some v7/\b.frozen? p4=false/\b.frozen? p5=false/\Below w0.heap.size w0 b:=by
 obtain⟨h0,h1,h2,h3,h4,h5,h6,h7,f4,f5,hw⟩:=h;exact⟨aa hb h0,aa hb h1,aa hb h2,aa hb h3,aa hb h4,aa hb h5,aa hb h6,aa hb h7,ac hb h4 f4,ac hb h5 f5,ae hw hb⟩
theorem qX (a b c d:Int)(a1: -9223372036854775808<=a)(a2:a<=9223372036854775807)(b1: -9223372036854775808<=b)(b2:b<=9223372036854775807)(k1: -9223372036854775808<=c)(k2:c<=9223372036854775807)(d1: -9223372036854775808<=d)(d2:d<=9223372036854775807)(w:World) :
 Calls Tryz.prog 132 #[.agg #[.int .i64 a,.int .i64 b],.agg #[.int .i64 c,.int .i64 d]] w fun e w'=>e=.returned (.tuple #[.agg #[.int .i64 (dr (a*c-b*d) (a*d+b*c+b*d)),.int .i64 (dt (a*c-b*d) (a*d+b*c+b*d))],.bool (dc (a*c-b*d) (a*d+b*c+b*d))])/\Below w.heap.size w w':=by
 have p1:=f8 a1 a2 k1 k2;have p2:=f8 b1 b2 d1 d2;have p3:=f8 a1 a2 d1 d2;have p4:=f8 b1 b2 k1 k2;have N1:Hid (∀w,Calls Tryz.prog 176 #[.agg #[.int .u64 (am (a*c-b*d)),.int .u64 (ak (a*c-b*d))]] w fun e w'=>e=.returned (.tuple #[.int .i64 (cl (a*c-b*d)),.bool (aX (a*c-b*d))])/\Below w.heap.size w w'):=fun w=>iN _ (by omega) (by omega) w;have N2:Hid (∀w,Calls Tryz.prog 176 #[.agg #[.int .u64 (am (a*d+b*c+b*d)),.int .u64 (ak (a*d+b*c+b*d))]] w fun e w'=>e=.returned (.tuple #[.int .i64 (cl (a*d+b*c+b*d)),.bool (aX (a*d+b*c+b*d))])/\Below w.heap.size w w'):=fun w=>iN _ (by omega) (by omega) w;clear p1 p2 p3 p4
 go_enter Tryz.func132,Tryz.ntmps132
 go_wp2_with fail;refine(fL b d b1 b2 d1 d2 _).mono ?_;rintro e w1 ⟨rfl,c1⟩;obtain⟨hc,hf⟩:=bQ c1;have z1:w.heap.size+1+1<w1.heap.size:=by have:=c1.size;simp at this;omega
 have hbw:Below w.heap.size w (w1.alloc (.cells #[.int .u64 (am (b*d)),.int .u64 (ak (b*d))] 220)).drew:=((Below.trans (by go_grown) (c1.mono (by simp;omega))).alloc (by omega) _).drew;have hx:Below w1.heap.size w1 (w1.alloc (.cells #[.int .u64 (am (b*d)),.int .u64 (ak (b*d))] 220)).drew:=((Below.refl _ _).alloc (Nat.le_refl _) _).drew;have k0':w1.cell? ⟨w.heap.size,0,none⟩=some (.int .i64 a):=by rw[hc _ _ (by simp;try omega)];go_simp
 have s0:(w1.alloc (.cells #[.int .u64 (am (b*d)),.int .u64 (ak (b*d))] 220)).drew.cell? ⟨w.heap.size,0,none⟩=some (.int .i64 a):=aa hx k0';have k1':w1.cell? ⟨w.heap.size,1,none⟩=some (.int .i64 b):=by rw[hc _ _ (by simp;try omega)];go_simp
 have s1:(w1.alloc (.cells #[.int .u64 (am (b*d)),.int .u64 (ak (b*d))] 220)).drew.cell? ⟨w.heap.size,1,none⟩=some (.int .i64 b):=aa hx k1';have k2':w1.cell? ⟨w.heap.size+1,0,none⟩=some (.int .i64 c):=by rw[hc _ _ (by simp;try omega)];go_simp
 have s2:(w1.alloc (.cells #[.int .u64 (am (b*d)),.int .u64 (ak (b*d))] 220)).drew.cell? ⟨w.heap.size+1,0,none⟩=some (.int .i64 c):=aa hx k2';have k3':w1.cell? ⟨w.heap.size+1,1,none⟩=some (.int .i64 d):=by rw[hc _ _ (by simp;try omega)];go_simp
 have s3:(w1.alloc (.cells #[.int .u64 (am (b*d)),.int .u64 (ak (b*d))] 220)).drew.cell? ⟨w.heap.size+1,1,none⟩=some (.int .i64 d):=aa hx k3';have k4':w1.cell? ⟨w.heap.size+1+1,0,none⟩=some (.int .i64 0):=by rw[hc _ _ (by simp;try omega)];go_simp
 have s4:(w1.alloc (.cells #[.int .u64 (am (b*d)),.int .u64 (ak (b*d))] 220)).drew.cell? ⟨w.heap.size+1+1,0,none⟩=some (.int .i64 0):=aa hx k4';have k5':w1.cell? ⟨w.heap.size+1+1,1,none⟩=some (.int .i64 0):=by rw[hc _ _ (by simp;try omega)];go_simp
 have s5:(w1.alloc (.cells #[.int .u64 (am (b*d)),.int .u64 (ak (b*d))] 220)).drew.cell? ⟨w.heap.size+1+1,1,none⟩=some (.int .i64 0):=aa hx k5';have f4':w1.frozen? ⟨w.heap.size+1+1,0,none⟩=false:=by rw[hf _ _ (by simp;try omega)];go_simp
 have f4:(w1.alloc (.cells #[.int .u64 (am (b*d)),.int .u64 (ak (b*d))] 220)).drew.frozen? ⟨w.heap.size+1+1,0,none⟩=false:=ac hx k4' f4';have f5':w1.frozen? ⟨w.heap.size+1+1,1,none⟩=false:=by rw[hf _ _ (by simp;try omega)];go_simp
 have f5:(w1.alloc (.cells #[.int .u64 (am (b*d)),.int .u64 (ak (b*d))] 220)).drew.frozen? ⟨w.heap.size+1+1,1,none⟩=false:=ac hx k5' f5';have s6:(w1.alloc (.cells #[.int .u64 (am (b*d)),.int .u64 (ak (b*d))] 220)).drew.cell? ⟨w1.heap.size,0,none⟩=some (.int .u64 (am (b*d))):=by go_simp
 have s7:(w1.alloc (.cells #[.int .u64 (am (b*d)),.int .u64 (ak (b*d))] 220)).drew.cell? ⟨w1.heap.size,1,none⟩=some (.int .u64 (ak (b*d))):=by go_simp
 clear k0' k1' k2' k3' k4' k5' f4' f5' hc hf hx;go_wp2_with fail
 go_region_held3 (fun w'=>w'.cell? ⟨w.heap.size,0,none⟩=some (.int .i64 a)/\w'.cell? ⟨w.heap.size,1,none⟩=some (.int .i64 b)/\w'.cell? ⟨w.heap.size+1,0,none⟩=some (.int .i64 c)/\w'.cell? ⟨w.heap.size+1,1,none⟩=some (.int .i64 d)/\w'.cell? ⟨w.heap.size+1+1,0,none⟩=some (.int .i64 0)/\w'.cell? ⟨w.heap.size+1+1,1,none⟩=some (.int .i64 0)/\w'.cell? ⟨w1.heap.size,0,none⟩=some (.int .u64 (am (b*d)))/\w'.cell? ⟨w1.heap.size,1,none⟩=some (.int .u64 (ak (b*d)))/\w'.frozen? ⟨w.heap.size+1+1,0,none⟩=false/\w'.frozen? ⟨w.heap.size+1+1,1,none⟩=false/\Below w.heap.size w w') (first | exact⟨s0,s1,s2,s3,s4,s5,s6,s7,f4,f5,hbw⟩ | exact iz hb (by assumption))
  (first | (go_at_call 174;refine(fL _ _ (by assumption) (by assumption) (by assumption) (by assumption) _).mono ?_;rintro e w' ⟨rfl,hb⟩) | (go_at_call 175;refine(wg _ _ _).mono ?_;rintro e w' ⟨rfl,hb⟩) | (go_at_call 176;refine(N1.out _).mono ?_;rintro e w' ⟨rfl,hb⟩))
 rename_i hH;clear s0 s1 s2 s3 s4 s5 s6 s7 f4 f5 hbw N1;go_wp2_with fail
 go_region_held3 (fun w'=>w'.cell? ⟨w.heap.size,0,none⟩=some (.int .i64 a)/\w'.cell? ⟨w.heap.size,1,none⟩=some (.int .i64 b)/\w'.cell? ⟨w.heap.size+1,0,none⟩=some (.int .i64 c)/\w'.cell? ⟨w.heap.size+1,1,none⟩=some (.int .i64 d)/\w'.cell? ⟨w.heap.size+1+1,0,none⟩=some (.int .i64 0)/\w'.cell? ⟨w.heap.size+1+1,1,none⟩=some (.int .i64 0)/\w'.cell? ⟨w1.heap.size,0,none⟩=some (.int .u64 (am (b*d)))/\w'.cell? ⟨w1.heap.size,1,none⟩=some (.int .u64 (ak (b*d)))/\w'.frozen? ⟨w.heap.size+1+1,0,none⟩=false/\w'.frozen? ⟨w.heap.size+1+1,1,none⟩=false/\Below w.heap.size w w') (first | exact iz hb (by assumption) | exact iz (aK _) (by assumption))
  (first | (go_at_call 174;refine(fL _ _ (by assumption) (by assumption) (by assumption) (by assumption) _).mono ?_;rintro e w' ⟨rfl,hb⟩) | (go_at_call 177;refine(pm _ _ _).mono ?_;rintro e w' ⟨rfl,hb⟩) | (go_at_call 176;refine(N2.out _).mono ?_;rintro e w' ⟨rfl,hb⟩))
 rename_i hH;go_wp2_with fail;refine(gJ (a*c-b*d) (a*d+b*c+b*d) _).mono ?_;rintro e w9 ⟨rfl,c9⟩;obtain⟨-,-,-,-,e0,e1,-,-,f0,f1,hB⟩:=iz c9 hH;obtain⟨g0,g1⟩:=au (u:=.int .i64 (dr (a*c-b*d) (a*d+b*c+b*d))) (v:=.int .i64 (dt (a*c-b*d) (a*d+b*c+b*d))) e0 e1;go_wp2;exact bodyPost_ret (v:=.tuple #[.agg #[.int .i64 (dr (a*c-b*d) (a*d+b*c+b*d)),.int .i64 (dt (a*c-b*d) (a*d+b*c+b*d))],.bool (dc (a*c-b*d) (a*d+b*c+b*d))]) (by simp[results,Tryz.results132,go_sem,g0,g1]) rfl ⟨rfl,(hB.setCell (by simp;try omega) _).setCell (by simp;try omega) _⟩
theorem dB {w0 a b:World}{p0 p1:Addr}{v0 v1:Value}(hb:Below a.heap.size a b)(h:a.cell? p0=some v0/\a.cell? p1=some v1/\Below w0.heap.size w0 a) :
 b.cell? p0=some v0/\b.cell? p1=some v1/\Below w0.heap.size w0 b:=⟨aa hb h.1,aa hb h.2.1,ae h.2.2 hb⟩
theorem yU (a b:Int)(a1: -9223372036854775808<=a)(a2:a<=9223372036854775807)(b1: -9223372036854775808<=b)(b2:b<=9223372036854775807)(w:World) :
 Calls Tryz.prog 146 #[.agg #[.int .i64 a,.int .i64 b]] w fun e w'=>e=.returned (.tuple #[.int .i64 (cl (a*a+a*b+b*b)),.bool (aX (a*a+a*b+b*b))])/\Below w.heap.size w w':=by
 have p1:=f8 a1 a2 a1 a2;have p2:=f8 b1 b2 b1 b2;have p3:=f8 a1 a2 b1 b2;have N1:Hid (∀w,Calls Tryz.prog 176 #[.agg #[.int .u64 (am (a*a+a*b+b*b)),.int .u64 (ak (a*a+a*b+b*b))]] w fun e w'=>e=.returned (.tuple #[.int .i64 (cl (a*a+a*b+b*b)),.bool (aX (a*a+a*b+b*b))])/\Below w.heap.size w w'):=fun w=>iN _ (by omega) (by omega) w;clear p1 p2 p3;have s0:(w.alloc (.cells #[.int .i64 a,.int .i64 b] 37)).drew.cell? ⟨w.heap.size,0,none⟩=some (.int .i64 a):=by go_simp
 have s1:(w.alloc (.cells #[.int .i64 a,.int .i64 b] 37)).drew.cell? ⟨w.heap.size,1,none⟩=some (.int .i64 b):=by go_simp
 have hbw:Below w.heap.size w (w.alloc (.cells #[.int .i64 a,.int .i64 b] 37)).drew:=((Below.refl _ _).alloc (Nat.le_refl _) _).drew
 go_enter Tryz.func146,Tryz.ntmps146
 go_wp2_with fail
 go_region_held3 (fun w'=>w'.cell? ⟨w.heap.size,0,none⟩=some (.int .i64 a)/\w'.cell? ⟨w.heap.size,1,none⟩=some (.int .i64 b)/\Below w.heap.size w w') (first | exact⟨s0,s1,hbw⟩ | exact dB hb (by assumption))
  (first | (go_at_call 174;refine(fL _ _ (by assumption) (by assumption) (by assumption) (by assumption) _).mono ?_;rintro e w' ⟨rfl,hb⟩) | (go_at_call 177;refine(pm _ _ _).mono ?_;rintro e w' ⟨rfl,hb⟩) | (go_at_call 176;refine(N1.out _).mono ?_;rintro e w' ⟨rfl,hb⟩))
 rename_i hS;go_wp2
 go_ret2
 exact⟨rfl,hS.2.2⟩
theorem ah {w:World}{p q:Addr}{v u:Value}(h:w.cell? p=some v)(ne:q≠p):(w.setCell q u).cell? p=some v:=(World.cell?_setCell_other _ _ _ _ ne).trans h
theorem ay {w:World}{p:Addr}{x u:Value}(h:w.cell? p=some x):(w.setCell p u).cell? p=some u:=World.cell?_setCell_same _ _ _ h
def ou (B:Nat)(w:World):Prop:=w.cell? ⟨B,0,none⟩=some (.int .i64 0)/\w.cell? ⟨B,1,none⟩=some (.int .i64 0)/\w.frozen? ⟨B,0,none⟩=false/\w.frozen? ⟨B,1,none⟩=false
theorem gx (w:World):ou w.heap.size (w.alloc (.cells #[.int .i64 0,.int .i64 0] 37)):=⟨by go_simp,by go_simp,by go_simp,by go_simp⟩
theorem jf {B:Nat}{a b:World}(hb:Below a.heap.size a b)(h:ou B a):ou B b:=⟨aa hb h.1,aa hb h.2.1,ac hb h.1 h.2.2.1,ac hb h.2.1 h.2.2.2⟩
theorem ag (w:World)(o:Obj):Below w.heap.size w (w.alloc o):=(Below.refl _ _).alloc (Nat.le_refl _) _
theorem kj {w0 a:World}{p0 p1:Addr}{B:Nat}{v0 v1 x y:Value}(n0:B≠p0.block)(n1:B≠p1.block)(hB:w0.heap.size<=B)(h:a.cell? p0=some v0/\a.cell? p1=some v1/\Below w0.heap.size w0 a) :
 ((a.setCell ⟨B,0,none⟩ x).setCell ⟨B,1,none⟩ y).cell? p0=some v0/\((a.setCell ⟨B,0,none⟩ x).setCell ⟨B,1,none⟩ y).cell? p1=some v1/\Below w0.heap.size w0 ((a.setCell ⟨B,0,none⟩ x).setCell ⟨B,1,none⟩ y):=by
 have f:∀(p:Addr) (o:Nat),B≠p.block->(⟨B,o,none⟩:Addr)≠p:=fun p o h e=>h (by rw[←e]);exact⟨ah (ah h.1 (f _ _ n0)) (f _ _ n0),ah (ah h.2.1 (f _ _ n1)) (f _ _ n1),(h.2.2.setCell hB _).setCell hB _⟩
theorem Ek {w0 a:World}{o o':Obj}(hs:w0.heap.size<=a.heap.size)(h:Below w0.heap.size w0 (a.alloc o)):Below w0.heap.size w0 (a.alloc o'):=by
 have h1:=ag a o;have h2:=ag a o';obtain⟨e1,e2,e3,e4,e5⟩:=h;refine⟨e1,e2,e3,by have:=h2.size;omega,fun i hi=>?_⟩;have k1:=h1.block i (by omega);have k2:=h2.block i (by omega);exact(k2.trans k1.symm).trans (e5 i hi)
theorem lV {w0 a:World}{o o':Obj}{p0 p1:Addr}{v0 v1:Value}(q0:p0.block<a.heap.size)(q1:p1.block<a.heap.size)(hs:w0.heap.size<=a.heap.size)(h:(a.alloc o).cell? p0=some v0/\(a.alloc o).cell? p1=some v1/\Below w0.heap.size w0 (a.alloc o)) :
 (a.alloc o').cell? p0=some v0/\(a.alloc o').cell? p1=some v1/\Below w0.heap.size w0 (a.alloc o') :=
 ⟨((ag a o').cell q0).trans (((ag a o).cell q0).symm.trans h.1),((ag a o').cell q1).trans (((ag a o).cell q1).symm.trans h.2.1),Ek hs h.2.2⟩
theorem oF {w0 a b:World}{p0 p1 p2 p3 p4 p5:Addr}{v0 v1 v2 v3 v4 v5:Value}(hb:Below a.heap.size a b)(h:a.cell? p0=some v0/\a.cell? p1=some v1/\a.cell? p2=some v2/\a.cell? p3=some v3/\a.cell? p4=some v4/\a.cell? p5=some v5/\Below w0.heap.size w0 a):b.cell? p0=some v0/\b.cell? p1=some v1/\b.cell? p2=some v2/\b.cell? p3=some v3/\b.cell? p4=some v4/\b.cell? p5=some v5/\Below w0.heap.size w0 b :=
 ⟨aa hb h.1,aa hb h.2.1,aa hb h.2.2.1,aa hb h.2.2.2.1,aa hb h.2.2.2.2.1,aa hb h.2.2.2.2.2.1,ae h.2.2.2.2.2.2 hb⟩
theorem fg (a b c d X Y:Int)(hX:a*c-b*d=X)(hY:a*d+b*c+b*d=Y)(a1: -4611686018427387903<=a)(a2:a<=4611686018427387903)(b1: -4611686018427387903<=b)(b2:b<=4611686018427387903)(k1: -4611686018427387903<=c)(k2:c<=4611686018427387903)(d1: -4611686018427387903<=d)(d2:d<=4611686018427387903)(X1: -9223372036854775808<=X)(X2:X<=9223372036854775807)(Y1: -9223372036854775808<=Y)(Y2:Y<=9223372036854775807)(w:World) :
 Calls Tryz.prog 132 #[.agg #[.int .i64 a,.int .i64 b],.agg #[.int .i64 c,.int .i64 d]] w fun e w'=>e=.returned (.tuple #[.agg #[.int .i64 X,.int .i64 Y],.bool true])/\Below w.heap.size w w':=by
 have h:=qX a b c d (by omega) (by omega) (by omega) (by omega) (by omega) (by omega) (by omega) (by omega) w;rw[hX,hY]at h;have hb:=gY (ax ⟨X1,X2⟩) (ax ⟨Y1,Y2⟩);rw[hb,fW hb,fX hb]at h;exact h
theorem gI (a b c d X Y:Int)(hX:a+c=X)(hY:b+d=Y)(a1: -4611686018427387903<=a)(a2:a<=4611686018427387903)(b1: -4611686018427387903<=b)(b2:b<=4611686018427387903)(k1: -4611686018427387903<=c)(k2:c<=4611686018427387903)(d1: -4611686018427387903<=d)(d2:d<=4611686018427387903)(w:World) :
 Calls Tryz.prog 143 #[.agg #[.int .i64 a,.int .i64 b],.agg #[.int .i64 c,.int .i64 d]] w fun e w'=>e=.returned (.tuple #[.agg #[.int .i64 X,.int .i64 Y],.bool true])/\Below w.heap.size w w':=by
 have h:=Bn a b c d (by omega) (by omega) (by omega) (by omega) (by omega) (by omega) (by omega) (by omega) w;have hb:=gY (x:=a+c) (y:=b+d) (ax ⟨by omega,by omega⟩) (ax ⟨by omega,by omega⟩);rw[hb,fW hb,fX hb,hX,hY]at h;exact h
theorem ww (a b c d X Y:Int)(hX:a-c=X)(hY:b-d=Y)(a1: -4611686018427387903<=a)(a2:a<=4611686018427387903)(b1: -4611686018427387903<=b)(b2:b<=4611686018427387903)(k1: -4611686018427387903<=c)(k2:c<=4611686018427387903)(d1: -4611686018427387903<=d)(d2:d<=4611686018427387903)(w:World) :
 Calls Tryz.prog 217 #[.agg #[.int .i64 a,.int .i64 b],.agg #[.int .i64 c,.int .i64 d]] w fun e w'=>e=.returned (.tuple #[.agg #[.int .i64 X,.int .i64 Y],.bool true])/\Below w.heap.size w w':=by
 have h:=Bs a b c d (by omega) (by omega) (by omega) (by omega) (by omega) (by omega) (by omega) (by omega) w;have hb:=gY (x:=a-c) (y:=b-d) (ax ⟨by omega,by omega⟩) (ax ⟨by omega,by omega⟩);rw[hb,fW hb,fX hb,hX,hY]at h;exact h
theorem lP (a b X Y:Int)(hX:a+b=X)(hY: -b=Y)(a1: -4611686018427387903<=a)(a2:a<=4611686018427387903)(b1: -4611686018427387903<=b)(b2:b<=4611686018427387903)(w:World) :
 Calls Tryz.prog 145 #[.agg #[.int .i64 a,.int .i64 b]] w fun e w'=>e=.returned (.tuple #[.agg #[.int .i64 X,.int .i64 Y],.bool true])/\Below w.heap.size w w':=by
 have h:=yQ a b (by omega) (by omega) (by omega) (by omega) w;have hb:=gY (x:=a+b) (y:= -b) (ax ⟨by omega,by omega⟩) (ax ⟨by omega,by omega⟩);rw[hb,fW hb,fX hb,hX,hY]at h;exact h
theorem tp (a b N:Int)(hN:aw a b=N)(a1: -4611686018427387903<=a)(a2:a<=4611686018427387903)(b1: -4611686018427387903<=b)(b2:b<=4611686018427387903)(N2:N<=9223372036854775807)(w:World) :
 Calls Tryz.prog 146 #[.agg #[.int .i64 a,.int .i64 b]] w fun e w'=>e=.returned (.tuple #[.int .i64 N,.bool true])/\Below w.heap.size w w':=by
 have h:=yU a b (by omega) (by omega) (by omega) (by omega) w;have e:a*a+a*b+b*b=N:=hN;have p:0<=N:=by rw[←hN];exact mw a b
 rw[e,bt (ax ⟨by omega,N2⟩),ax ⟨by omega,N2⟩]at h;exact h
end Go.Proofs.YtbnlhdnnenahfaaGreatDoor
