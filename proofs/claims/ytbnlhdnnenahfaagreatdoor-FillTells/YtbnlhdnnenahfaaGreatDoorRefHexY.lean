/-
  What the document's own Hex tells, for any number of the lattice and any size, in whatever memory: the six corners one behind the other, or nothing.
-/
import Derived.Test.YtbnlhdnnenahfaaGreatDoorI2Y
import Derived.Test.YtbnlhdnnenahfaaGreatDoorHXY
set_option maxHeartbeats 8000000
set_option maxRecDepth 20000
namespace Go.Proofs.YtbnlhdnnenahfaaGreatDoor
open Go.RowKit
def mE (G:Nat->Int):Nat->List Value
 | 0=>[]
 | k+1=>mE G k++[.int .i64 (G (2*k)),.int .i64 (G (2*k+1))]
theorem GK (w:World)(x y:Int)(e:TypeId):∀j u,([.int .i64 x,.int .i64 y]:List Value)[j]?=some u->(w.alloc (.cells #[.int .i64 x,.int .i64 y] e)).cell? ((⟨w.heap.size,0,none⟩:Addr).add j)=some u:=by
 intro j u hj
 match j,hj with
 | 0,hj=>simp at hj;subst hj;simp[Addr.add]
 | 1,hj=>simp at hj;subst hj;simp[Addr.add]
theorem GL (x y:Int):∀u∈([.int .i64 x,.int .i64 y]:List Value),u.oneCell'=true:=by
 intro u hu;simp at hu;rcases hu with rfl | rfl <;>rfl
theorem Dg (G:Nat->Int)(o:Nat)(ho:o<12):(mE G 6)[o]?=some (.int .i64 (G o)):=by
 have h:o=0∨o=1∨o=2∨o=3∨o=4∨o=5∨o=6∨o=7∨o=8∨o=9∨o=10∨o=11:=by omega
 rcases h with rfl | rfl | rfl | rfl | rfl | rfl | rfl | rfl | rfl | rfl | rfl | rfl <;>rfl
theorem Cb:(Tryz.prog.info? 26).map (fun i=>(i.zero,i.size,i.bytes))=some (some (.agg #[.int .i64 0,.int .i64 0]),2,16):=by kernel_rfl
theorem zX (a b r x y X Y:Int)(A B G:Nat->Int)(r1:0<=r)(r2:r<=12)(a1: -1073741824<=a)(a2:a<=1073741824)(b1: -1073741824<=b)(b2:b<=1073741824)
 (hAB:∀j<6,-9007199254740992<=A j/\A j<=9007199254740992∧-9007199254740992<=B j/\B j<=9007199254740992)
 (hG:∀j<6,52*A j+26*B j=G (2*j)/\45*B j=G (2*j+1))
 (CE:∀w,Calls Tryz.prog 15 #[.agg #[.int .i64 a,.int .i64 b],.int .i64 r] w fun e w'=>e=.returned (.tuple #[.int .i64 x,.int .i64 y,.bool true])/\Below w.heap.size w w')
 (BE:∀w,Calls Tryz.prog 37 #[.int .i64 (12-r)] w fun e w'=>e=.returned (.tuple #[.agg #[.int .i64 X,.int .i64 Y],.bool true])/\Below w.heap.size w w')
 (MU:∀j<6,∀w,Calls Tryz.prog 35 #[.agg #[.int .i64 (3*a+bR j),.int .i64 (3*b+bS j)],.agg #[.int .i64 X,.int .i64 Y]] w fun e w'=>e=.returned (.tuple #[.agg #[.int .i64 (A j),.int .i64 (B j)],.bool true])/\Below w.heap.size w w') (w:World) :
 Calls Tryz.prog 121 #[.agg #[.int .i64 a,.int .i64 b],.int .i64 r] w fun e w'=>(∃g cap,e=.returned (.slice (some ⟨g,0,none⟩) 6 cap)/\∀o<12,w'.cell? ⟨g,o,none⟩=some (.int .i64 (G o)))/\Below w.heap.size w w':=by
 replace CE:Hid _:=CE;replace BE:Hid _:=BE;replace MU:Hid _:=MU
 go_enter Tryz.func121,Tryz.ntmps121
 go_wp2_with fail;refine(CE.out _).mono ?_;rintro e w1 ⟨rfl,d1⟩;have c1:Below w.heap.size w w1:=Below.trans (by go_grown) (d1.mono (by simp;try omega));have z0:w1.cell? ⟨w.heap.size,0,none⟩=some (.int .i64 a):=aa d1 (by go_simp);have qz0:=World.block_lt_of_cell? _ _ z0;have z1:w1.cell? ⟨w.heap.size,1,none⟩=some (.int .i64 b):=aa d1 (by go_simp);have hB:=c1;clear c1 d1;have lz1:w.heap.size<w1.heap.size:=qz0;go_wp2_with fail;refine(BE.out _).mono ?_;rintro e w2 ⟨rfl,d2⟩;have c2:Below w1.heap.size w1 w2:=Below.trans (by go_grown) (d2.mono (by simp;try omega));replace z0:=aa c2 z0;replace qz0:=World.block_lt_of_cell? _ _ z0;replace z1:=aa c2 z1;replace hB:=ae hB c2;clear c2 d2;go_wp2_with fail;have h1:=ag w2 (.cells #[.int .i64 X,.int .i64 Y] 37);have h2:=ag (w2.alloc (.cells #[.int .i64 X,.int .i64 Y] 37)) (.cells #[.int .i64 1,.int .i64 1,.int .i64 (-1),.int .i64 2,.int .i64 (-2),.int .i64 1,.int .i64 (-1),.int .i64 (-1),.int .i64 1,.int .i64 (-2),.int .i64 2,.int .i64 (-1)] 108);have hal:=ae h1 h2;obtain⟨wl,ewl⟩:∃wl,((w2.alloc (.cells #[.int .i64 X,.int .i64 Y] 37)).alloc (.cells #[.int .i64 1,.int .i64 1,.int .i64 (-1),.int .i64 2,.int .i64 (-2),.int .i64 1,.int .i64 (-1),.int .i64 (-1),.int .i64 1,.int .i64 (-2),.int .i64 2,.int .i64 (-1)] 108))=wl:=⟨_,rfl⟩
 rw[ewl]at hal ⊢;have b0:wl.cell? ⟨w2.heap.size,0,none⟩=some (.int .i64 X):=by rw[←ewl];clear ewl;go_simp
 have b1':wl.cell? ⟨w2.heap.size,1,none⟩=some (.int .i64 Y):=by rw[←ewl];clear ewl;go_simp
 have hv:∀j<6,wl.cell? ⟨w2.heap.size+1,j*2,none⟩=some (.int .i64 (bR j))/\wl.cell? ⟨w2.heap.size+1,j*2+1,none⟩=some (.int .i64 (bS j)):=by
  intro j hj;rw[←ewl];clear ewl;have h:j=0∨j=1∨j=2∨j=3∨j=4∨j=5:=by omega
  rcases h with rfl | rfl | rfl | rfl | rfl | rfl <;>constructor <;>simp only[bR,bS] <;>go_simp
 replace z0:=aa hal z0;replace z1:=aa hal z1;replace hB:=ae hB hal;have lz:=World.block_lt_of_cell? _ _ z0;have lb:=World.block_lt_of_cell? _ _ b0;have lv:=World.block_lt_of_cell? _ _ (hv 0 (by omega)).1;clear h1 h2 hal qz0 lz1 ewl;obtain⟨i0,hi,hz0,hz1,hz2⟩:=info_parts Cb;go_loopw [11,12] (fun v11 v12 wr=>∃k:Nat,k<=6/\v12=.int .i64 (k:Int)/\Hid (wr.ownsRow wl.heap.size 26 2 v11 k (mE G k))/\Below wl.heap.size wl wr) (fun _ v12 _=>6-(intOf v12).toNat)
 case atStart=>exact⟨0,by omega,rfl,World.ownsRow_nil _ _ _ _,Below.refl _ _⟩
 case round =>
  obtain⟨k,hk,rfl,hO,hX⟩:=hrel;by_cases hk6:k<6
  · have hlt':(k:Int)<6:=by omega
    obtain⟨v0,v1⟩:=hv k hk6;obtain⟨q1,q2,q3,q4⟩:=jn k hk6;have MK:Hid _:=MU.out k hk6;obtain⟨gA1,gA2,gB1,gB2⟩:=hAB k hk6;have eG0:Hid (52*A k+26*B k=G (2*k)):=(hG k hk6).1;have eG1:Hid (45*B k=G (2*k+1)):=(hG k hk6).2;have hrow:Hid (mE G (k+1)=mE G k++[.int .i64 (G (2*k)),.int .i64 (G (2*k+1))]):=rfl;clear MU hG hAB hv;generalize bR k=p at *;generalize bS k=q at *;generalize A k=A0 at *;generalize B k=B0 at *;have MW:Hid (∀w,Calls Tryz.prog 35 #[.agg #[.int .i64 (IntKind.i64.wrap (IntKind.i64.wrap (3*a)+p)),.int .i64 (IntKind.i64.wrap (IntKind.i64.wrap (3*b)+q))],.agg #[.int .i64 X,.int .i64 Y]] w fun e w'=>e=.returned (.tuple #[.agg #[.int .i64 A0,.int .i64 B0],.bool true])/\Below w.heap.size w w'):=by
     rw[IntWalk.i64_left (3*a),IntWalk.i64_left (3*b),db (n:=3*a) ⟨by omega,by omega⟩,db (n:=3*b) ⟨by omega,by omega⟩,IntWalk.i64_left,IntWalk.i64_left,db (n:=3*a+p) ⟨by omega,by omega⟩,db (n:=3*b+q) ⟨by omega,by omega⟩];exact MK.out
    have r0:=aI hX z0 lz;have r1:=aI hX z1 lz;have r2:=aI hX b0 lb;have r3:=aI hX b1' lb;have r4:=aI hX v0 lv;have r5:=aI hX v1 lv;have hwz:wl.heap.size<=wr.heap.size:=hX.size;clear v0 v1 z0 z1 b0 b1';go_wp2_with fail;have hS0:=oF (aK wr) ⟨r0,r1,r2,r3,r4,r5,Below.refl _ _⟩
    go_cut [13]from 41 to 63 (fun v13 wx=>∃P:Nat,v13=.pointer (some ⟨P,0,none⟩)/\wx.cell? ⟨P,0,none⟩=some (.int .i64 A0)/\wx.cell? ⟨P,1,none⟩=some (.int .i64 B0)/\Below wr.heap.size wr wx)
    case first =>
     go_region_held3 (fun w'=>w'.cell? ⟨w.heap.size,0,none⟩=some (.int .i64 a)/\w'.cell? ⟨w.heap.size,1,none⟩=some (.int .i64 b)/\w'.cell? ⟨w2.heap.size,0,none⟩=some (.int .i64 X)/\w'.cell? ⟨w2.heap.size,1,none⟩=some (.int .i64 Y)/\w'.cell? ⟨w2.heap.size+1,k*2,none⟩=some (.int .i64 p)/\w'.cell? ⟨w2.heap.size+1,k*2+1,none⟩=some (.int .i64 q)/\Below wr.heap.size wr w') (first | exact hS0 | exact oF hb (by assumption) | exact oF (ag _ _) (by assumption) | exact ts (by first | omega | (simp;omega) | simp) (by first | omega | (simp;omega) | simp) (by first | omega | (simp;omega) | simp) (by first | omega | (simp;omega) | simp) (by first | omega | (simp;omega) | simp) (by first | omega | (simp;omega) | simp) (by first | omega | (simp;omega) | simp) (by assumption) | exact ro (by first | omega | (simp;omega) | simp) (by first | omega | (simp;omega) | simp) (by first | omega | (simp;omega) | simp) (by first | omega | (simp;omega) | simp) (by first | omega | (simp;omega) | simp) (by first | omega | (simp;omega) | simp) (by first | omega | (simp;omega) | simp) (by assumption))
      (first | (go_at_call 35;(first | with_reducible refine(MK.out _).mono ?_ | with_reducible refine(MW.out _).mono ?_);rintro e w' ⟨rfl,hb⟩;(try (have nw:=jf hb (by first | assumption | exact xa _ _ | exact tv _ _ | exact gx _ | exact Cv _);have nw0:=nw.1;have nw1:=nw.2.1;have nw2:=nw.2.2.1;have nw3:=nw.2.2.2));have hz:=hb.size;(try simp at hz)))
     all_goals
      rename_i hS;go_wp2_with fail;go_meet;exact⟨_,rfl,(by first | exact ah (ay nw0) (by simp) | go_simp),(by first | exact ay (ah nw1 (by simp)) | go_simp),hS.2.2.2.2.2.2⟩
    case rest =>
     obtain⟨P,rfl,s0,s1,hW⟩:=hcut;have hO':Hid (wc.ownsRow wl.heap.size 26 2 u11 k (mE G k)):=ai hW hO.out;have hX':=ae hX hW;have hwz':wl.heap.size<=wc.heap.size:=hX'.size;clear r0 r1 r2 r3 r4 r5 hS0 hO hX hW hwz MK MW;go_wp2_with (at_builtin;refine wpList_append_own _ rfl (.tmp 63) (.tmp 75) 27 rfl wl.heap.size 26 i0 (.agg #[.int .i64 0,.int .i64 0]) 2 16 Tryz.underlying27 hi hz0 hz1 hz2 rfl (by decide) _ _ _ rfl (ai (ag _ _) hO'.out) ⟨wc.heap.size,0,none⟩ 1 1 [.int .i64 (52*A0+26*B0),.int .i64 (45*B0)] rfl rfl (GK _ _ _ _) (GL _ _) (by unfold maxLen;omega) (by omega) (by simp;omega) ?_)
     intro v' w5 hown hgrow _;have hX5:=(hX'.alloc hwz' (.cells #[.int .i64 (52*A0+26*B0),.int .i64 (45*B0)] 26)).grown hgrow (by simp;omega) (aM hO'.out);have hO5:Hid (w5.ownsRow wl.heap.size 26 2 v' (k+1) (mE G (k+1))):=by rw[hrow.out,←eG0.out,←eG1.out];exact hown
     clear hown hgrow hO' hX' hwz';go_wp2;go_roundw
     case rel=>exact⟨k+1,by omega,by go_num,hO5,hX5⟩
     case measure=>simp[intOf];omega
  · obtain rfl:k=6:=by omega
    obtain⟨g,cap,rfl⟩:=cA hO.out (by omega);go_wp2;go_ret;refine⟨⟨g,⟨cap,rfl⟩,fun o ho=>?_⟩,ae hB hX⟩;rw[hO.out.cellAt o (by omega)];exact Dg G o ho
theorem Dc (a b r:Int)(K:Nat)(hK:K<=12)(hr:12-r=(K:Int))(ha:dP a)(hb:dP b)(w:World) :
 Calls Tryz.prog 121 #[.agg #[.int .i64 a,.int .i64 b],.int .i64 r] w fun e w'=>(∃g cap,e=.returned (.slice (some ⟨g,0,none⟩) 6 cap)/\∀o<12,w'.cell? ⟨g,o,none⟩=some (.int .i64 (dY K a b o)))/\Below w.heap.size w w':=by
 have CE:=iT a b r K hK hr ha hb;obtain⟨a1,a2⟩:=ha;obtain⟨b1,b2⟩:=hb;refine zX a b r _ _ _ _ (fun j=>ctA K (3*a+bR j) (3*b+bS j)) (fun j=>ctB K (3*a+bR j) (3*b+bS j)) (dY K a b) (by omega) (by omega) a1 a2 b1 b2 (fun j hj=>?_) (fun j _=>?_) CE (by rw[hr];exact iU K (by omega)) (fun j hj w=>?_) w
 · have hw:=jn j hj;have hc:=ic (a:=3*a+bR j) (b:=3*b+bS j) hK (by omega) (by omega);exact⟨by omega,by omega,by omega,by omega⟩
 · rw[iy,jy];exact⟨rfl,rfl⟩
 · have hw:=jn j hj;exact vr hK (by omega) (by omega) w
end Go.Proofs.YtbnlhdnnenahfaaGreatDoor
