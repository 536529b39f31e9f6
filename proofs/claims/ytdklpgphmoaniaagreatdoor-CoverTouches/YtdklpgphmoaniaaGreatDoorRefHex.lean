/-
  What the document's own Hex tells, for any number of the lattice and any size, in whatever memory: the six corners one behind the other, or nothing.
-/
import Derived.Test.YtdklpgphmoaniaaGreatDoorI2X
import Derived.Test.YtdklpgphmoaniaaGreatDoorJn15
namespace Go.Proofs.YtdklpgphmoaniaaGreatDoor
open Go.RowKit
def rowG (G:Nat→Int):Nat→List Value
 | 0=>[]
 | k+1=>rowG G k++[.int .i64 (G (2*k)),.int .i64 (G (2*k+1))]
theorem two_lie (w:World) (x y:Int) (e:TypeId):∀ j u,([.int .i64 x,.int .i64 y]:List Value)[j]?=some u→(w.alloc (.cells #[.int .i64 x,.int .i64 y] e)).cell? ((⟨w.heap.size,0,none⟩:Addr).add j)=some u:=by
 intro j u hj
 match j,hj with
 | 0,hj=>simp at hj;subst hj;simp [Addr.add]
 | 1,hj=>simp at hj;subst hj;simp [Addr.add]
theorem two_one (x y:Int):∀ u∈([.int .i64 x,.int .i64 y]:List Value),u.oneCell'=true:=by
 intro u hu
 simp at hu
 rcases hu with rfl | rfl <;>rfl
theorem rowG_six (G:Nat→Int) (o:Nat) (ho:o < 12):(rowG G 6)[o]?=some (.int .i64 (G o)):=by
 have h:o=0∨o=1∨o=2∨o=3∨o=4∨o=5∨o=6∨o=7∨o=8∨o=9∨o=10∨o=11:=by omega
 rcases h with rfl | rfl | rfl | rfl | rfl | rfl | rfl | rfl | rfl | rfl | rfl | rfl <;>rfl
theorem infoPair:(Tryz.prog.info? 38).map (fun i=>(i.zero,i.size,i.bytes))=some (some (.agg #[.int .i64 0,.int .i64 0]),2,16):=by kernel_rfl
set_option maxHeartbeats 8000000 in
set_option maxRecDepth 20000 in
theorem rhex_core (a b r x y X Y:Int) (A B G:Nat→Int) (r1:0≤r) (r2:r≤12) (a1: -1073741824≤a) (a2:a≤1073741824) (b1: -1073741824≤b) (b2:b≤1073741824)
 (hAB:∀ j < 6,-9007199254740992≤A j∧A j≤9007199254740992∧-9007199254740992≤B j∧B j≤9007199254740992)
 (hG:∀ j < 6,52*A j+26*B j=G (2*j)∧45*B j=G (2*j+1))
 (CE:∀ w,Calls Tryz.prog 10 #[.agg #[.int .i64 a,.int .i64 b],.int .i64 r] w fun e w'=>e=.returned (.tuple #[.int .i64 x,.int .i64 y,.bool true])∧Below w.heap.size w w')
 (BE:∀ w,Calls Tryz.prog 32 #[.int .i64 (12 - r)] w fun e w'=>e=.returned (.tuple #[.agg #[.int .i64 X,.int .i64 Y],.bool true])∧Below w.heap.size w w')
 (MU:∀ j < 6,∀ w,Calls Tryz.prog 33 #[.agg #[.int .i64 (3*a+wayA j),.int .i64 (3*b+wayB j)],.agg #[.int .i64 X,.int .i64 Y]] w fun e w'=>e=.returned (.tuple #[.agg #[.int .i64 (A j),.int .i64 (B j)],.bool true])∧Below w.heap.size w w') (w:World) :
 Calls Tryz.prog 52 #[.agg #[.int .i64 a,.int .i64 b],.int .i64 r] w fun e w'=>(∃ g cap,e=.returned (.slice (some ⟨g,0,none⟩) 6 cap)∧∀ o < 12,w'.cell? ⟨g,o,none⟩=some (.int .i64 (G o)))∧Below w.heap.size w w':=by
 replace CE:Hid _:=CE
 replace BE:Hid _:=BE
 replace MU:Hid _:=MU
 go_enter Tryz.func52,Tryz.ntmps52
 go_wp2_with fail
 refine (CE.out _).mono ?_
 rintro e w1 ⟨rfl,d1⟩
 have c1:Below w.heap.size w w1:=Below.trans (by go_grown) (d1.mono (by simp;try omega))
 have z0:w1.cell? ⟨w.heap.size,0,none⟩=some (.int .i64 a):=keepCell d1 (by go_simp)
 have qz0:=World.block_lt_of_cell? _ _ z0
 have z1:w1.cell? ⟨w.heap.size,1,none⟩=some (.int .i64 b):=keepCell d1 (by go_simp)
 have hB:=c1
 clear c1 d1
 have lz1:w.heap.size < w1.heap.size:=qz0
 go_wp2_with fail
 refine (BE.out _).mono ?_
 rintro e w2 ⟨rfl,d2⟩
 have c2:Below w1.heap.size w1 w2:=Below.trans (by go_grown) (d2.mono (by simp;try omega))
 replace z0:=keepCell c2 z0
 replace qz0:=World.block_lt_of_cell? _ _ z0
 replace z1:=keepCell c2 z1
 replace hB:=belowT hB c2
 clear c2 d2
 go_wp2_with fail
 have h1:=allocB w2 (.cells #[.int .i64 X,.int .i64 Y] 23)
 have h2:=allocB (w2.alloc (.cells #[.int .i64 X,.int .i64 Y] 23)) (.cells #[.int .i64 1,.int .i64 1,.int .i64 (-1),.int .i64 2,.int .i64 (-2),.int .i64 1,.int .i64 (-1),.int .i64 (-1),.int .i64 1,.int .i64 (-2),.int .i64 2,.int .i64 (-1)] 123)
 have hal:=belowT h1 h2
 have b0:((w2.alloc (.cells #[.int .i64 X,.int .i64 Y] 23)).alloc (.cells #[.int .i64 1,.int .i64 1,.int .i64 (-1),.int .i64 2,.int .i64 (-2),.int .i64 1,.int .i64 (-1),.int .i64 (-1),.int .i64 1,.int .i64 (-2),.int .i64 2,.int .i64 (-1)] 123)).cell? ⟨w2.heap.size,0,none⟩=some (.int .i64 X):=by go_simp
 have b1':((w2.alloc (.cells #[.int .i64 X,.int .i64 Y] 23)).alloc (.cells #[.int .i64 1,.int .i64 1,.int .i64 (-1),.int .i64 2,.int .i64 (-2),.int .i64 1,.int .i64 (-1),.int .i64 (-1),.int .i64 1,.int .i64 (-2),.int .i64 2,.int .i64 (-1)] 123)).cell? ⟨w2.heap.size,1,none⟩=some (.int .i64 Y):=by go_simp
 have v0:((w2.alloc (.cells #[.int .i64 X,.int .i64 Y] 23)).alloc (.cells #[.int .i64 1,.int .i64 1,.int .i64 (-1),.int .i64 2,.int .i64 (-2),.int .i64 1,.int .i64 (-1),.int .i64 (-1),.int .i64 1,.int .i64 (-2),.int .i64 2,.int .i64 (-1)] 123)).cell? ⟨w2.heap.size+1,0,none⟩=some (.int .i64 1):=by go_simp
 have v1:((w2.alloc (.cells #[.int .i64 X,.int .i64 Y] 23)).alloc (.cells #[.int .i64 1,.int .i64 1,.int .i64 (-1),.int .i64 2,.int .i64 (-2),.int .i64 1,.int .i64 (-1),.int .i64 (-1),.int .i64 1,.int .i64 (-2),.int .i64 2,.int .i64 (-1)] 123)).cell? ⟨w2.heap.size+1,1,none⟩=some (.int .i64 1):=by go_simp
 have v2:((w2.alloc (.cells #[.int .i64 X,.int .i64 Y] 23)).alloc (.cells #[.int .i64 1,.int .i64 1,.int .i64 (-1),.int .i64 2,.int .i64 (-2),.int .i64 1,.int .i64 (-1),.int .i64 (-1),.int .i64 1,.int .i64 (-2),.int .i64 2,.int .i64 (-1)] 123)).cell? ⟨w2.heap.size+1,2,none⟩=some (.int .i64 (-1)):=by go_simp
 have v3:((w2.alloc (.cells #[.int .i64 X,.int .i64 Y] 23)).alloc (.cells #[.int .i64 1,.int .i64 1,.int .i64 (-1),.int .i64 2,.int .i64 (-2),.int .i64 1,.int .i64 (-1),.int .i64 (-1),.int .i64 1,.int .i64 (-2),.int .i64 2,.int .i64 (-1)] 123)).cell? ⟨w2.heap.size+1,3,none⟩=some (.int .i64 2):=by go_simp
 have v4:((w2.alloc (.cells #[.int .i64 X,.int .i64 Y] 23)).alloc (.cells #[.int .i64 1,.int .i64 1,.int .i64 (-1),.int .i64 2,.int .i64 (-2),.int .i64 1,.int .i64 (-1),.int .i64 (-1),.int .i64 1,.int .i64 (-2),.int .i64 2,.int .i64 (-1)] 123)).cell? ⟨w2.heap.size+1,4,none⟩=some (.int .i64 (-2)):=by go_simp
 have v5:((w2.alloc (.cells #[.int .i64 X,.int .i64 Y] 23)).alloc (.cells #[.int .i64 1,.int .i64 1,.int .i64 (-1),.int .i64 2,.int .i64 (-2),.int .i64 1,.int .i64 (-1),.int .i64 (-1),.int .i64 1,.int .i64 (-2),.int .i64 2,.int .i64 (-1)] 123)).cell? ⟨w2.heap.size+1,5,none⟩=some (.int .i64 1):=by go_simp
 have v6:((w2.alloc (.cells #[.int .i64 X,.int .i64 Y] 23)).alloc (.cells #[.int .i64 1,.int .i64 1,.int .i64 (-1),.int .i64 2,.int .i64 (-2),.int .i64 1,.int .i64 (-1),.int .i64 (-1),.int .i64 1,.int .i64 (-2),.int .i64 2,.int .i64 (-1)] 123)).cell? ⟨w2.heap.size+1,6,none⟩=some (.int .i64 (-1)):=by go_simp
 have v7:((w2.alloc (.cells #[.int .i64 X,.int .i64 Y] 23)).alloc (.cells #[.int .i64 1,.int .i64 1,.int .i64 (-1),.int .i64 2,.int .i64 (-2),.int .i64 1,.int .i64 (-1),.int .i64 (-1),.int .i64 1,.int .i64 (-2),.int .i64 2,.int .i64 (-1)] 123)).cell? ⟨w2.heap.size+1,7,none⟩=some (.int .i64 (-1)):=by go_simp
 have v8:((w2.alloc (.cells #[.int .i64 X,.int .i64 Y] 23)).alloc (.cells #[.int .i64 1,.int .i64 1,.int .i64 (-1),.int .i64 2,.int .i64 (-2),.int .i64 1,.int .i64 (-1),.int .i64 (-1),.int .i64 1,.int .i64 (-2),.int .i64 2,.int .i64 (-1)] 123)).cell? ⟨w2.heap.size+1,8,none⟩=some (.int .i64 1):=by go_simp
 have v9:((w2.alloc (.cells #[.int .i64 X,.int .i64 Y] 23)).alloc (.cells #[.int .i64 1,.int .i64 1,.int .i64 (-1),.int .i64 2,.int .i64 (-2),.int .i64 1,.int .i64 (-1),.int .i64 (-1),.int .i64 1,.int .i64 (-2),.int .i64 2,.int .i64 (-1)] 123)).cell? ⟨w2.heap.size+1,9,none⟩=some (.int .i64 (-2)):=by go_simp
 have v10:((w2.alloc (.cells #[.int .i64 X,.int .i64 Y] 23)).alloc (.cells #[.int .i64 1,.int .i64 1,.int .i64 (-1),.int .i64 2,.int .i64 (-2),.int .i64 1,.int .i64 (-1),.int .i64 (-1),.int .i64 1,.int .i64 (-2),.int .i64 2,.int .i64 (-1)] 123)).cell? ⟨w2.heap.size+1,10,none⟩=some (.int .i64 2):=by go_simp
 have v11:((w2.alloc (.cells #[.int .i64 X,.int .i64 Y] 23)).alloc (.cells #[.int .i64 1,.int .i64 1,.int .i64 (-1),.int .i64 2,.int .i64 (-2),.int .i64 1,.int .i64 (-1),.int .i64 (-1),.int .i64 1,.int .i64 (-2),.int .i64 2,.int .i64 (-1)] 123)).cell? ⟨w2.heap.size+1,11,none⟩=some (.int .i64 (-1)):=by go_simp
 replace z0:=keepCell hal z0
 replace z1:=keepCell hal z1
 replace hB:=belowT hB hal
 have lz:=World.block_lt_of_cell? _ _ z0
 have lb:=World.block_lt_of_cell? _ _ b0
 have lv:=World.block_lt_of_cell? _ _ v0
 clear h1 h2 hal qz0 lz1
 generalize ((w2.alloc (.cells #[.int .i64 X,.int .i64 Y] 23)).alloc (.cells #[.int .i64 1,.int .i64 1,.int .i64 (-1),.int .i64 2,.int .i64 (-2),.int .i64 1,.int .i64 (-1),.int .i64 (-1),.int .i64 1,.int .i64 (-2),.int .i64 2,.int .i64 (-1)] 123))=wl at *
 obtain ⟨i0,hi,hz0,hz1,hz2⟩:=info_parts infoPair
 go_loopw [11,12] (fun v11 v12 wr=>∃ k:Nat,k≤6∧v12=.int .i64 (k:Int)∧Hid (wr.ownsRow wl.heap.size 38 2 v11 k (rowG G k))∧Below wl.heap.size wl wr) (fun _ v12 _=>6 - (intOf v12).toNat)
 case atStart=>exact ⟨0,by omega,rfl,World.ownsRow_nil _ _ _ _,Below.refl _ _⟩
 case round =>
  obtain ⟨k,hk,rfl,hO,hX⟩:=hrel
  have ck:k=0∨k=1∨k=2∨k=3∨k=4∨k=5∨k=6:=by omega
  rcases ck with rfl | rfl | rfl | rfl | rfl | rfl | rfl
  · have MK:Hid (∀ w,Calls Tryz.prog 33 #[.agg #[.int .i64 (3*a+1),.int .i64 (3*b+1)],.agg #[.int .i64 X,.int .i64 Y]] w fun e w'=>e=.returned (.tuple #[.agg #[.int .i64 (A 0),.int .i64 (B 0)],.bool true])∧Below w.heap.size w w'):=MU.out 0 (by omega)
    have MW:Hid (∀ w,Calls Tryz.prog 33 #[.agg #[.int .i64 (IntKind.i64.wrap (IntKind.i64.wrap (3*a)+1)),.int .i64 (IntKind.i64.wrap (IntKind.i64.wrap (3*b)+1))],.agg #[.int .i64 X,.int .i64 Y]] w fun e w'=>e=.returned (.tuple #[.agg #[.int .i64 (A 0),.int .i64 (B 0)],.bool true])∧Below w.heap.size w w'):=by
     rw [IntWalk.i64_left (3*a),IntWalk.i64_left (3*b),wrap_fits (n:=3*a) ⟨by omega,by omega⟩,wrap_fits (n:=3*b) ⟨by omega,by omega⟩,IntWalk.i64_left,IntWalk.i64_left,wrap_fits (n:=3*a+1) ⟨by omega,by omega⟩,wrap_fits (n:=3*b+1) ⟨by omega,by omega⟩];exact MK.out
    obtain ⟨gA1,gA2,gB1,gB2⟩:=hAB 0 (by omega)
    have eG0:Hid (52*A 0+26*B 0=G 0):=(hG 0 (by omega)).1
    have eG1:Hid (45*B 0=G 1):=(hG 0 (by omega)).2
    have hrow:Hid (rowG G 1=rowG G 0++[.int .i64 (G 0),.int .i64 (G 1)]):=rfl
    generalize A 0=A0 at MK MW gA1 gA2 eG0
    generalize B 0=B0 at MK MW gB1 gB2 eG0 eG1
    have r0:=keepLow hX z0 lz
    have r1:=keepLow hX z1 lz
    have r2:=keepLow hX b0 lb
    have r3:=keepLow hX b1' lb
    have r4:=keepLow hX v0 lv
    have r5:=keepLow hX v1 lv
    have hwz:wl.heap.size≤wr.heap.size:=hX.size
    clear v0 v1 v2 v3 v4 v5 v6 v7 v8 v9 v10 v11 z0 z1 b0 b1' MU hG hAB
    go_wp2_with fail
    have hS0:=keepSix (drewB wr) ⟨r0,r1,r2,r3,r4,r5,Below.refl _ _⟩
    go_cut [13] from 41 to 63 (fun v13 wx=>∃ P:Nat,v13=.pointer (some ⟨P,0,none⟩)∧wx.cell? ⟨P,0,none⟩=some (.int .i64 A0)∧wx.cell? ⟨P,1,none⟩=some (.int .i64 B0)∧Below wr.heap.size wr wx)
    case first =>
     go_region_held3 (fun w'=>w'.cell? ⟨w.heap.size,0,none⟩=some (.int .i64 a)∧w'.cell? ⟨w.heap.size,1,none⟩=some (.int .i64 b)∧w'.cell? ⟨w2.heap.size,0,none⟩=some (.int .i64 X)∧w'.cell? ⟨w2.heap.size,1,none⟩=some (.int .i64 Y)∧w'.cell? ⟨w2.heap.size+1,0,none⟩=some (.int .i64 1)∧w'.cell? ⟨w2.heap.size+1,1,none⟩=some (.int .i64 1)∧Below wr.heap.size wr w') (first | exact hS0 | exact keepSix hb (by assumption) | exact keepSix (allocB _ _) (by assumption) | exact keepSixSwap (by first | omega | (simp;omega) | simp) (by first | omega | (simp;omega) | simp) (by first | omega | (simp;omega) | simp) (by first | omega | (simp;omega) | simp) (by first | omega | (simp;omega) | simp) (by first | omega | (simp;omega) | simp) (by first | omega | (simp;omega) | simp) (by assumption) | exact keepSixStore (by first | omega | (simp;omega) | simp) (by first | omega | (simp;omega) | simp) (by first | omega | (simp;omega) | simp) (by first | omega | (simp;omega) | simp) (by first | omega | (simp;omega) | simp) (by first | omega | (simp;omega) | simp) (by first | omega | (simp;omega) | simp) (by assumption))
      (first | (go_at_call 33;(first | with_reducible refine (MK.out _).mono ?_ | with_reducible refine (MW.out _).mono ?_);rintro e w' ⟨rfl,hb⟩;(try (have nw:=keepNew hb (by first | assumption | exact new_second _ _ | exact new_second' _ _ | exact new_alloc _ | exact new_drew _);have nw0:=nw.1;have nw1:=nw.2.1;have nw2:=nw.2.2.1;have nw3:=nw.2.2.2));have hz:=hb.size;(try simp at hz)))
     all_goals
      rename_i hS
      go_wp2_with fail
      go_meet
      exact ⟨_,rfl,(by first | exact store_keep (store_new nw0) (by simp) | go_simp),(by first | exact store_new (store_keep nw1 (by simp)) | go_simp),hS.2.2.2.2.2.2⟩
    case rest =>
     obtain ⟨P,rfl,s0,s1,hW⟩:=hcut
     have hO':Hid (wc.ownsRow wl.heap.size 38 2 u11 0 (rowG G 0)):=own_keep hW hO.out
     have hX':=belowT hX hW
     have hwz':wl.heap.size≤wc.heap.size:=hX'.size
     clear r0 r1 r2 r3 r4 r5 hS0 hO hX hW hwz MK MW
     go_wp2_with (at_builtin;refine wpList_append_own _ rfl (.tmp 63) (.tmp 75) 93 rfl wl.heap.size 38 i0 (.agg #[.int .i64 0,.int .i64 0]) 2 16 Tryz.underlying93 hi hz0 hz1 hz2 rfl (by decide) _ _ _ rfl (own_keep (allocB _ _) hO'.out) ⟨wc.heap.size,0,none⟩ 1 1 [.int .i64 (52*A0+26*B0),.int .i64 (45*B0)] rfl rfl (two_lie _ _ _ _) (two_one _ _) (by unfold maxLen;omega) (by omega) (by simp;omega) ?_)
     intro v' w5 hown hgrow _
     have hX5:=(hX'.alloc hwz' (.cells #[.int .i64 (52*A0+26*B0),.int .i64 (45*B0)] 38)).grown hgrow (by simp;omega) (own_block hO'.out)
     have hO5:Hid (w5.ownsRow wl.heap.size 38 2 v' 1 (rowG G 1)):=by rw [hrow.out,← eG0.out,← eG1.out];exact hown
     clear hown hgrow hO' hX' hwz'
     go_wp2
     go_roundw
     case rel=>exact ⟨1,by omega,by go_num,hO5,hX5⟩
     case measure=>simp [intOf]
  · have MK:Hid (∀ w,Calls Tryz.prog 33 #[.agg #[.int .i64 (3*a+(-1)),.int .i64 (3*b+2)],.agg #[.int .i64 X,.int .i64 Y]] w fun e w'=>e=.returned (.tuple #[.agg #[.int .i64 (A 1),.int .i64 (B 1)],.bool true])∧Below w.heap.size w w'):=MU.out 1 (by omega)
    have MW:Hid (∀ w,Calls Tryz.prog 33 #[.agg #[.int .i64 (IntKind.i64.wrap (IntKind.i64.wrap (3*a)+(-1))),.int .i64 (IntKind.i64.wrap (IntKind.i64.wrap (3*b)+2))],.agg #[.int .i64 X,.int .i64 Y]] w fun e w'=>e=.returned (.tuple #[.agg #[.int .i64 (A 1),.int .i64 (B 1)],.bool true])∧Below w.heap.size w w'):=by
     rw [IntWalk.i64_left (3*a),IntWalk.i64_left (3*b),wrap_fits (n:=3*a) ⟨by omega,by omega⟩,wrap_fits (n:=3*b) ⟨by omega,by omega⟩,IntWalk.i64_left,IntWalk.i64_left,wrap_fits (n:=3*a+(-1)) ⟨by omega,by omega⟩,wrap_fits (n:=3*b+2) ⟨by omega,by omega⟩];exact MK.out
    obtain ⟨gA1,gA2,gB1,gB2⟩:=hAB 1 (by omega)
    have eG0:Hid (52*A 1+26*B 1=G 2):=(hG 1 (by omega)).1
    have eG1:Hid (45*B 1=G 3):=(hG 1 (by omega)).2
    have hrow:Hid (rowG G 2=rowG G 1++[.int .i64 (G 2),.int .i64 (G 3)]):=rfl
    generalize A 1=A0 at MK MW gA1 gA2 eG0
    generalize B 1=B0 at MK MW gB1 gB2 eG0 eG1
    have r0:=keepLow hX z0 lz
    have r1:=keepLow hX z1 lz
    have r2:=keepLow hX b0 lb
    have r3:=keepLow hX b1' lb
    have r4:=keepLow hX v2 lv
    have r5:=keepLow hX v3 lv
    have hwz:wl.heap.size≤wr.heap.size:=hX.size
    clear v0 v1 v2 v3 v4 v5 v6 v7 v8 v9 v10 v11 z0 z1 b0 b1' MU hG hAB
    go_wp2_with fail
    have hS0:=keepSix (drewB wr) ⟨r0,r1,r2,r3,r4,r5,Below.refl _ _⟩
    go_cut [13] from 41 to 63 (fun v13 wx=>∃ P:Nat,v13=.pointer (some ⟨P,0,none⟩)∧wx.cell? ⟨P,0,none⟩=some (.int .i64 A0)∧wx.cell? ⟨P,1,none⟩=some (.int .i64 B0)∧Below wr.heap.size wr wx)
    case first =>
     go_region_held3 (fun w'=>w'.cell? ⟨w.heap.size,0,none⟩=some (.int .i64 a)∧w'.cell? ⟨w.heap.size,1,none⟩=some (.int .i64 b)∧w'.cell? ⟨w2.heap.size,0,none⟩=some (.int .i64 X)∧w'.cell? ⟨w2.heap.size,1,none⟩=some (.int .i64 Y)∧w'.cell? ⟨w2.heap.size+1,2,none⟩=some (.int .i64 (-1))∧w'.cell? ⟨w2.heap.size+1,3,none⟩=some (.int .i64 2)∧Below wr.heap.size wr w') (first | exact hS0 | exact keepSix hb (by assumption) | exact keepSix (allocB _ _) (by assumption) | exact keepSixSwap (by first | omega | (simp;omega) | simp) (by first | omega | (simp;omega) | simp) (by first | omega | (simp;omega) | simp) (by first | omega | (simp;omega) | simp) (by first | omega | (simp;omega) | simp) (by first | omega | (simp;omega) | simp) (by first | omega | (simp;omega) | simp) (by assumption) | exact keepSixStore (by first | omega | (simp;omega) | simp) (by first | omega | (simp;omega) | simp) (by first | omega | (simp;omega) | simp) (by first | omega | (simp;omega) | simp) (by first | omega | (simp;omega) | simp) (by first | omega | (simp;omega) | simp) (by first | omega | (simp;omega) | simp) (by assumption))
      (first | (go_at_call 33;(first | with_reducible refine (MK.out _).mono ?_ | with_reducible refine (MW.out _).mono ?_);rintro e w' ⟨rfl,hb⟩;(try (have nw:=keepNew hb (by first | assumption | exact new_second _ _ | exact new_second' _ _ | exact new_alloc _ | exact new_drew _);have nw0:=nw.1;have nw1:=nw.2.1;have nw2:=nw.2.2.1;have nw3:=nw.2.2.2));have hz:=hb.size;(try simp at hz)))
     all_goals
      rename_i hS
      go_wp2_with fail
      go_meet
      exact ⟨_,rfl,(by first | exact store_keep (store_new nw0) (by simp) | go_simp),(by first | exact store_new (store_keep nw1 (by simp)) | go_simp),hS.2.2.2.2.2.2⟩
    case rest =>
     obtain ⟨P,rfl,s0,s1,hW⟩:=hcut
     have hO':Hid (wc.ownsRow wl.heap.size 38 2 u11 1 (rowG G 1)):=own_keep hW hO.out
     have hX':=belowT hX hW
     have hwz':wl.heap.size≤wc.heap.size:=hX'.size
     clear r0 r1 r2 r3 r4 r5 hS0 hO hX hW hwz MK MW
     go_wp2_with (at_builtin;refine wpList_append_own _ rfl (.tmp 63) (.tmp 75) 93 rfl wl.heap.size 38 i0 (.agg #[.int .i64 0,.int .i64 0]) 2 16 Tryz.underlying93 hi hz0 hz1 hz2 rfl (by decide) _ _ _ rfl (own_keep (allocB _ _) hO'.out) ⟨wc.heap.size,0,none⟩ 1 1 [.int .i64 (52*A0+26*B0),.int .i64 (45*B0)] rfl rfl (two_lie _ _ _ _) (two_one _ _) (by unfold maxLen;omega) (by omega) (by simp;omega) ?_)
     intro v' w5 hown hgrow _
     have hX5:=(hX'.alloc hwz' (.cells #[.int .i64 (52*A0+26*B0),.int .i64 (45*B0)] 38)).grown hgrow (by simp;omega) (own_block hO'.out)
     have hO5:Hid (w5.ownsRow wl.heap.size 38 2 v' 2 (rowG G 2)):=by rw [hrow.out,← eG0.out,← eG1.out];exact hown
     clear hown hgrow hO' hX' hwz'
     go_wp2
     go_roundw
     case rel=>exact ⟨2,by omega,by go_num,hO5,hX5⟩
     case measure=>simp [intOf]
  · have MK:Hid (∀ w,Calls Tryz.prog 33 #[.agg #[.int .i64 (3*a+(-2)),.int .i64 (3*b+1)],.agg #[.int .i64 X,.int .i64 Y]] w fun e w'=>e=.returned (.tuple #[.agg #[.int .i64 (A 2),.int .i64 (B 2)],.bool true])∧Below w.heap.size w w'):=MU.out 2 (by omega)
    have MW:Hid (∀ w,Calls Tryz.prog 33 #[.agg #[.int .i64 (IntKind.i64.wrap (IntKind.i64.wrap (3*a)+(-2))),.int .i64 (IntKind.i64.wrap (IntKind.i64.wrap (3*b)+1))],.agg #[.int .i64 X,.int .i64 Y]] w fun e w'=>e=.returned (.tuple #[.agg #[.int .i64 (A 2),.int .i64 (B 2)],.bool true])∧Below w.heap.size w w'):=by
     rw [IntWalk.i64_left (3*a),IntWalk.i64_left (3*b),wrap_fits (n:=3*a) ⟨by omega,by omega⟩,wrap_fits (n:=3*b) ⟨by omega,by omega⟩,IntWalk.i64_left,IntWalk.i64_left,wrap_fits (n:=3*a+(-2)) ⟨by omega,by omega⟩,wrap_fits (n:=3*b+1) ⟨by omega,by omega⟩];exact MK.out
    obtain ⟨gA1,gA2,gB1,gB2⟩:=hAB 2 (by omega)
    have eG0:Hid (52*A 2+26*B 2=G 4):=(hG 2 (by omega)).1
    have eG1:Hid (45*B 2=G 5):=(hG 2 (by omega)).2
    have hrow:Hid (rowG G 3=rowG G 2++[.int .i64 (G 4),.int .i64 (G 5)]):=rfl
    generalize A 2=A0 at MK MW gA1 gA2 eG0
    generalize B 2=B0 at MK MW gB1 gB2 eG0 eG1
    have r0:=keepLow hX z0 lz
    have r1:=keepLow hX z1 lz
    have r2:=keepLow hX b0 lb
    have r3:=keepLow hX b1' lb
    have r4:=keepLow hX v4 lv
    have r5:=keepLow hX v5 lv
    have hwz:wl.heap.size≤wr.heap.size:=hX.size
    clear v0 v1 v2 v3 v4 v5 v6 v7 v8 v9 v10 v11 z0 z1 b0 b1' MU hG hAB
    go_wp2_with fail
    have hS0:=keepSix (drewB wr) ⟨r0,r1,r2,r3,r4,r5,Below.refl _ _⟩
    go_cut [13] from 41 to 63 (fun v13 wx=>∃ P:Nat,v13=.pointer (some ⟨P,0,none⟩)∧wx.cell? ⟨P,0,none⟩=some (.int .i64 A0)∧wx.cell? ⟨P,1,none⟩=some (.int .i64 B0)∧Below wr.heap.size wr wx)
    case first =>
     go_region_held3 (fun w'=>w'.cell? ⟨w.heap.size,0,none⟩=some (.int .i64 a)∧w'.cell? ⟨w.heap.size,1,none⟩=some (.int .i64 b)∧w'.cell? ⟨w2.heap.size,0,none⟩=some (.int .i64 X)∧w'.cell? ⟨w2.heap.size,1,none⟩=some (.int .i64 Y)∧w'.cell? ⟨w2.heap.size+1,4,none⟩=some (.int .i64 (-2))∧w'.cell? ⟨w2.heap.size+1,5,none⟩=some (.int .i64 1)∧Below wr.heap.size wr w') (first | exact hS0 | exact keepSix hb (by assumption) | exact keepSix (allocB _ _) (by assumption) | exact keepSixSwap (by first | omega | (simp;omega) | simp) (by first | omega | (simp;omega) | simp) (by first | omega | (simp;omega) | simp) (by first | omega | (simp;omega) | simp) (by first | omega | (simp;omega) | simp) (by first | omega | (simp;omega) | simp) (by first | omega | (simp;omega) | simp) (by assumption) | exact keepSixStore (by first | omega | (simp;omega) | simp) (by first | omega | (simp;omega) | simp) (by first | omega | (simp;omega) | simp) (by first | omega | (simp;omega) | simp) (by first | omega | (simp;omega) | simp) (by first | omega | (simp;omega) | simp) (by first | omega | (simp;omega) | simp) (by assumption))
      (first | (go_at_call 33;(first | with_reducible refine (MK.out _).mono ?_ | with_reducible refine (MW.out _).mono ?_);rintro e w' ⟨rfl,hb⟩;(try (have nw:=keepNew hb (by first | assumption | exact new_second _ _ | exact new_second' _ _ | exact new_alloc _ | exact new_drew _);have nw0:=nw.1;have nw1:=nw.2.1;have nw2:=nw.2.2.1;have nw3:=nw.2.2.2));have hz:=hb.size;(try simp at hz)))
     all_goals
      rename_i hS
      go_wp2_with fail
      go_meet
      exact ⟨_,rfl,(by first | exact store_keep (store_new nw0) (by simp) | go_simp),(by first | exact store_new (store_keep nw1 (by simp)) | go_simp),hS.2.2.2.2.2.2⟩
    case rest =>
     obtain ⟨P,rfl,s0,s1,hW⟩:=hcut
     have hO':Hid (wc.ownsRow wl.heap.size 38 2 u11 2 (rowG G 2)):=own_keep hW hO.out
     have hX':=belowT hX hW
     have hwz':wl.heap.size≤wc.heap.size:=hX'.size
     clear r0 r1 r2 r3 r4 r5 hS0 hO hX hW hwz MK MW
     go_wp2_with (at_builtin;refine wpList_append_own _ rfl (.tmp 63) (.tmp 75) 93 rfl wl.heap.size 38 i0 (.agg #[.int .i64 0,.int .i64 0]) 2 16 Tryz.underlying93 hi hz0 hz1 hz2 rfl (by decide) _ _ _ rfl (own_keep (allocB _ _) hO'.out) ⟨wc.heap.size,0,none⟩ 1 1 [.int .i64 (52*A0+26*B0),.int .i64 (45*B0)] rfl rfl (two_lie _ _ _ _) (two_one _ _) (by unfold maxLen;omega) (by omega) (by simp;omega) ?_)
     intro v' w5 hown hgrow _
     have hX5:=(hX'.alloc hwz' (.cells #[.int .i64 (52*A0+26*B0),.int .i64 (45*B0)] 38)).grown hgrow (by simp;omega) (own_block hO'.out)
     have hO5:Hid (w5.ownsRow wl.heap.size 38 2 v' 3 (rowG G 3)):=by rw [hrow.out,← eG0.out,← eG1.out];exact hown
     clear hown hgrow hO' hX' hwz'
     go_wp2
     go_roundw
     case rel=>exact ⟨3,by omega,by go_num,hO5,hX5⟩
     case measure=>simp [intOf]
  · have MK:Hid (∀ w,Calls Tryz.prog 33 #[.agg #[.int .i64 (3*a+(-1)),.int .i64 (3*b+(-1))],.agg #[.int .i64 X,.int .i64 Y]] w fun e w'=>e=.returned (.tuple #[.agg #[.int .i64 (A 3),.int .i64 (B 3)],.bool true])∧Below w.heap.size w w'):=MU.out 3 (by omega)
    have MW:Hid (∀ w,Calls Tryz.prog 33 #[.agg #[.int .i64 (IntKind.i64.wrap (IntKind.i64.wrap (3*a)+(-1))),.int .i64 (IntKind.i64.wrap (IntKind.i64.wrap (3*b)+(-1)))],.agg #[.int .i64 X,.int .i64 Y]] w fun e w'=>e=.returned (.tuple #[.agg #[.int .i64 (A 3),.int .i64 (B 3)],.bool true])∧Below w.heap.size w w'):=by
     rw [IntWalk.i64_left (3*a),IntWalk.i64_left (3*b),wrap_fits (n:=3*a) ⟨by omega,by omega⟩,wrap_fits (n:=3*b) ⟨by omega,by omega⟩,IntWalk.i64_left,IntWalk.i64_left,wrap_fits (n:=3*a+(-1)) ⟨by omega,by omega⟩,wrap_fits (n:=3*b+(-1)) ⟨by omega,by omega⟩];exact MK.out
    obtain ⟨gA1,gA2,gB1,gB2⟩:=hAB 3 (by omega)
    have eG0:Hid (52*A 3+26*B 3=G 6):=(hG 3 (by omega)).1
    have eG1:Hid (45*B 3=G 7):=(hG 3 (by omega)).2
    have hrow:Hid (rowG G 4=rowG G 3++[.int .i64 (G 6),.int .i64 (G 7)]):=rfl
    generalize A 3=A0 at MK MW gA1 gA2 eG0
    generalize B 3=B0 at MK MW gB1 gB2 eG0 eG1
    have r0:=keepLow hX z0 lz
    have r1:=keepLow hX z1 lz
    have r2:=keepLow hX b0 lb
    have r3:=keepLow hX b1' lb
    have r4:=keepLow hX v6 lv
    have r5:=keepLow hX v7 lv
    have hwz:wl.heap.size≤wr.heap.size:=hX.size
    clear v0 v1 v2 v3 v4 v5 v6 v7 v8 v9 v10 v11 z0 z1 b0 b1' MU hG hAB
    go_wp2_with fail
    have hS0:=keepSix (drewB wr) ⟨r0,r1,r2,r3,r4,r5,Below.refl _ _⟩
    go_cut [13] from 41 to 63 (fun v13 wx=>∃ P:Nat,v13=.pointer (some ⟨P,0,none⟩)∧wx.cell? ⟨P,0,none⟩=some (.int .i64 A0)∧wx.cell? ⟨P,1,none⟩=some (.int .i64 B0)∧Below wr.heap.size wr wx)
    case first =>
     go_region_held3 (fun w'=>w'.cell? ⟨w.heap.size,0,none⟩=some (.int .i64 a)∧w'.cell? ⟨w.heap.size,1,none⟩=some (.int .i64 b)∧w'.cell? ⟨w2.heap.size,0,none⟩=some (.int .i64 X)∧w'.cell? ⟨w2.heap.size,1,none⟩=some (.int .i64 Y)∧w'.cell? ⟨w2.heap.size+1,6,none⟩=some (.int .i64 (-1))∧w'.cell? ⟨w2.heap.size+1,7,none⟩=some (.int .i64 (-1))∧Below wr.heap.size wr w') (first | exact hS0 | exact keepSix hb (by assumption) | exact keepSix (allocB _ _) (by assumption) | exact keepSixSwap (by first | omega | (simp;omega) | simp) (by first | omega | (simp;omega) | simp) (by first | omega | (simp;omega) | simp) (by first | omega | (simp;omega) | simp) (by first | omega | (simp;omega) | simp) (by first | omega | (simp;omega) | simp) (by first | omega | (simp;omega) | simp) (by assumption) | exact keepSixStore (by first | omega | (simp;omega) | simp) (by first | omega | (simp;omega) | simp) (by first | omega | (simp;omega) | simp) (by first | omega | (simp;omega) | simp) (by first | omega | (simp;omega) | simp) (by first | omega | (simp;omega) | simp) (by first | omega | (simp;omega) | simp) (by assumption))
      (first | (go_at_call 33;(first | with_reducible refine (MK.out _).mono ?_ | with_reducible refine (MW.out _).mono ?_);rintro e w' ⟨rfl,hb⟩;(try (have nw:=keepNew hb (by first | assumption | exact new_second _ _ | exact new_second' _ _ | exact new_alloc _ | exact new_drew _);have nw0:=nw.1;have nw1:=nw.2.1;have nw2:=nw.2.2.1;have nw3:=nw.2.2.2));have hz:=hb.size;(try simp at hz)))
     all_goals
      rename_i hS
      go_wp2_with fail
      go_meet
      exact ⟨_,rfl,(by first | exact store_keep (store_new nw0) (by simp) | go_simp),(by first | exact store_new (store_keep nw1 (by simp)) | go_simp),hS.2.2.2.2.2.2⟩
    case rest =>
     obtain ⟨P,rfl,s0,s1,hW⟩:=hcut
     have hO':Hid (wc.ownsRow wl.heap.size 38 2 u11 3 (rowG G 3)):=own_keep hW hO.out
     have hX':=belowT hX hW
     have hwz':wl.heap.size≤wc.heap.size:=hX'.size
     clear r0 r1 r2 r3 r4 r5 hS0 hO hX hW hwz MK MW
     go_wp2_with (at_builtin;refine wpList_append_own _ rfl (.tmp 63) (.tmp 75) 93 rfl wl.heap.size 38 i0 (.agg #[.int .i64 0,.int .i64 0]) 2 16 Tryz.underlying93 hi hz0 hz1 hz2 rfl (by decide) _ _ _ rfl (own_keep (allocB _ _) hO'.out) ⟨wc.heap.size,0,none⟩ 1 1 [.int .i64 (52*A0+26*B0),.int .i64 (45*B0)] rfl rfl (two_lie _ _ _ _) (two_one _ _) (by unfold maxLen;omega) (by omega) (by simp;omega) ?_)
     intro v' w5 hown hgrow _
     have hX5:=(hX'.alloc hwz' (.cells #[.int .i64 (52*A0+26*B0),.int .i64 (45*B0)] 38)).grown hgrow (by simp;omega) (own_block hO'.out)
     have hO5:Hid (w5.ownsRow wl.heap.size 38 2 v' 4 (rowG G 4)):=by rw [hrow.out,← eG0.out,← eG1.out];exact hown
     clear hown hgrow hO' hX' hwz'
     go_wp2
     go_roundw
     case rel=>exact ⟨4,by omega,by go_num,hO5,hX5⟩
     case measure=>simp [intOf]
  · have MK:Hid (∀ w,Calls Tryz.prog 33 #[.agg #[.int .i64 (3*a+1),.int .i64 (3*b+(-2))],.agg #[.int .i64 X,.int .i64 Y]] w fun e w'=>e=.returned (.tuple #[.agg #[.int .i64 (A 4),.int .i64 (B 4)],.bool true])∧Below w.heap.size w w'):=MU.out 4 (by omega)
    have MW:Hid (∀ w,Calls Tryz.prog 33 #[.agg #[.int .i64 (IntKind.i64.wrap (IntKind.i64.wrap (3*a)+1)),.int .i64 (IntKind.i64.wrap (IntKind.i64.wrap (3*b)+(-2)))],.agg #[.int .i64 X,.int .i64 Y]] w fun e w'=>e=.returned (.tuple #[.agg #[.int .i64 (A 4),.int .i64 (B 4)],.bool true])∧Below w.heap.size w w'):=by
     rw [IntWalk.i64_left (3*a),IntWalk.i64_left (3*b),wrap_fits (n:=3*a) ⟨by omega,by omega⟩,wrap_fits (n:=3*b) ⟨by omega,by omega⟩,IntWalk.i64_left,IntWalk.i64_left,wrap_fits (n:=3*a+1) ⟨by omega,by omega⟩,wrap_fits (n:=3*b+(-2)) ⟨by omega,by omega⟩];exact MK.out
    obtain ⟨gA1,gA2,gB1,gB2⟩:=hAB 4 (by omega)
    have eG0:Hid (52*A 4+26*B 4=G 8):=(hG 4 (by omega)).1
    have eG1:Hid (45*B 4=G 9):=(hG 4 (by omega)).2
    have hrow:Hid (rowG G 5=rowG G 4++[.int .i64 (G 8),.int .i64 (G 9)]):=rfl
    generalize A 4=A0 at MK MW gA1 gA2 eG0
    generalize B 4=B0 at MK MW gB1 gB2 eG0 eG1
    have r0:=keepLow hX z0 lz
    have r1:=keepLow hX z1 lz
    have r2:=keepLow hX b0 lb
    have r3:=keepLow hX b1' lb
    have r4:=keepLow hX v8 lv
    have r5:=keepLow hX v9 lv
    have hwz:wl.heap.size≤wr.heap.size:=hX.size
    clear v0 v1 v2 v3 v4 v5 v6 v7 v8 v9 v10 v11 z0 z1 b0 b1' MU hG hAB
    go_wp2_with fail
    have hS0:=keepSix (drewB wr) ⟨r0,r1,r2,r3,r4,r5,Below.refl _ _⟩
    go_cut [13] from 41 to 63 (fun v13 wx=>∃ P:Nat,v13=.pointer (some ⟨P,0,none⟩)∧wx.cell? ⟨P,0,none⟩=some (.int .i64 A0)∧wx.cell? ⟨P,1,none⟩=some (.int .i64 B0)∧Below wr.heap.size wr wx)
    case first =>
     go_region_held3 (fun w'=>w'.cell? ⟨w.heap.size,0,none⟩=some (.int .i64 a)∧w'.cell? ⟨w.heap.size,1,none⟩=some (.int .i64 b)∧w'.cell? ⟨w2.heap.size,0,none⟩=some (.int .i64 X)∧w'.cell? ⟨w2.heap.size,1,none⟩=some (.int .i64 Y)∧w'.cell? ⟨w2.heap.size+1,8,none⟩=some (.int .i64 1)∧w'.cell? ⟨w2.heap.size+1,9,none⟩=some (.int .i64 (-2))∧Below wr.heap.size wr w') (first | exact hS0 | exact keepSix hb (by assumption) | exact keepSix (allocB _ _) (by assumption) | exact keepSixSwap (by first | omega | (simp;omega) | simp) (by first | omega | (simp;omega) | simp) (by first | omega | (simp;omega) | simp) (by first | omega | (simp;omega) | simp) (by first | omega | (simp;omega) | simp) (by first | omega | (simp;omega) | simp) (by first | omega | (simp;omega) | simp) (by assumption) | exact keepSixStore (by first | omega | (simp;omega) | simp) (by first | omega | (simp;omega) | simp) (by first | omega | (simp;omega) | simp) (by first | omega | (simp;omega) | simp) (by first | omega | (simp;omega) | simp) (by first | omega | (simp;omega) | simp) (by first | omega | (simp;omega) | simp) (by assumption))
      (first | (go_at_call 33;(first | with_reducible refine (MK.out _).mono ?_ | with_reducible refine (MW.out _).mono ?_);rintro e w' ⟨rfl,hb⟩;(try (have nw:=keepNew hb (by first | assumption | exact new_second _ _ | exact new_second' _ _ | exact new_alloc _ | exact new_drew _);have nw0:=nw.1;have nw1:=nw.2.1;have nw2:=nw.2.2.1;have nw3:=nw.2.2.2));have hz:=hb.size;(try simp at hz)))
     all_goals
      rename_i hS
      go_wp2_with fail
      go_meet
      exact ⟨_,rfl,(by first | exact store_keep (store_new nw0) (by simp) | go_simp),(by first | exact store_new (store_keep nw1 (by simp)) | go_simp),hS.2.2.2.2.2.2⟩
    case rest =>
     obtain ⟨P,rfl,s0,s1,hW⟩:=hcut
     have hO':Hid (wc.ownsRow wl.heap.size 38 2 u11 4 (rowG G 4)):=own_keep hW hO.out
     have hX':=belowT hX hW
     have hwz':wl.heap.size≤wc.heap.size:=hX'.size
     clear r0 r1 r2 r3 r4 r5 hS0 hO hX hW hwz MK MW
     go_wp2_with (at_builtin;refine wpList_append_own _ rfl (.tmp 63) (.tmp 75) 93 rfl wl.heap.size 38 i0 (.agg #[.int .i64 0,.int .i64 0]) 2 16 Tryz.underlying93 hi hz0 hz1 hz2 rfl (by decide) _ _ _ rfl (own_keep (allocB _ _) hO'.out) ⟨wc.heap.size,0,none⟩ 1 1 [.int .i64 (52*A0+26*B0),.int .i64 (45*B0)] rfl rfl (two_lie _ _ _ _) (two_one _ _) (by unfold maxLen;omega) (by omega) (by simp;omega) ?_)
     intro v' w5 hown hgrow _
     have hX5:=(hX'.alloc hwz' (.cells #[.int .i64 (52*A0+26*B0),.int .i64 (45*B0)] 38)).grown hgrow (by simp;omega) (own_block hO'.out)
     have hO5:Hid (w5.ownsRow wl.heap.size 38 2 v' 5 (rowG G 5)):=by rw [hrow.out,← eG0.out,← eG1.out];exact hown
     clear hown hgrow hO' hX' hwz'
     go_wp2
     go_roundw
     case rel=>exact ⟨5,by omega,by go_num,hO5,hX5⟩
     case measure=>simp [intOf]
  · have MK:Hid (∀ w,Calls Tryz.prog 33 #[.agg #[.int .i64 (3*a+2),.int .i64 (3*b+(-1))],.agg #[.int .i64 X,.int .i64 Y]] w fun e w'=>e=.returned (.tuple #[.agg #[.int .i64 (A 5),.int .i64 (B 5)],.bool true])∧Below w.heap.size w w'):=MU.out 5 (by omega)
    have MW:Hid (∀ w,Calls Tryz.prog 33 #[.agg #[.int .i64 (IntKind.i64.wrap (IntKind.i64.wrap (3*a)+2)),.int .i64 (IntKind.i64.wrap (IntKind.i64.wrap (3*b)+(-1)))],.agg #[.int .i64 X,.int .i64 Y]] w fun e w'=>e=.returned (.tuple #[.agg #[.int .i64 (A 5),.int .i64 (B 5)],.bool true])∧Below w.heap.size w w'):=by
     rw [IntWalk.i64_left (3*a),IntWalk.i64_left (3*b),wrap_fits (n:=3*a) ⟨by omega,by omega⟩,wrap_fits (n:=3*b) ⟨by omega,by omega⟩,IntWalk.i64_left,IntWalk.i64_left,wrap_fits (n:=3*a+2) ⟨by omega,by omega⟩,wrap_fits (n:=3*b+(-1)) ⟨by omega,by omega⟩];exact MK.out
    obtain ⟨gA1,gA2,gB1,gB2⟩:=hAB 5 (by omega)
    have eG0:Hid (52*A 5+26*B 5=G 10):=(hG 5 (by omega)).1
    have eG1:Hid (45*B 5=G 11):=(hG 5 (by omega)).2
    have hrow:Hid (rowG G 6=rowG G 5++[.int .i64 (G 10),.int .i64 (G 11)]):=rfl
    generalize A 5=A0 at MK MW gA1 gA2 eG0
    generalize B 5=B0 at MK MW gB1 gB2 eG0 eG1
    have r0:=keepLow hX z0 lz
    have r1:=keepLow hX z1 lz
    have r2:=keepLow hX b0 lb
    have r3:=keepLow hX b1' lb
    have r4:=keepLow hX v10 lv
    have r5:=keepLow hX v11 lv
    have hwz:wl.heap.size≤wr.heap.size:=hX.size
    clear v0 v1 v2 v3 v4 v5 v6 v7 v8 v9 v10 v11 z0 z1 b0 b1' MU hG hAB
    go_wp2_with fail
    have hS0:=keepSix (drewB wr) ⟨r0,r1,r2,r3,r4,r5,Below.refl _ _⟩
    go_cut [13] from 41 to 63 (fun v13 wx=>∃ P:Nat,v13=.pointer (some ⟨P,0,none⟩)∧wx.cell? ⟨P,0,none⟩=some (.int .i64 A0)∧wx.cell? ⟨P,1,none⟩=some (.int .i64 B0)∧Below wr.heap.size wr wx)
    case first =>
     go_region_held3 (fun w'=>w'.cell? ⟨w.heap.size,0,none⟩=some (.int .i64 a)∧w'.cell? ⟨w.heap.size,1,none⟩=some (.int .i64 b)∧w'.cell? ⟨w2.heap.size,0,none⟩=some (.int .i64 X)∧w'.cell? ⟨w2.heap.size,1,none⟩=some (.int .i64 Y)∧w'.cell? ⟨w2.heap.size+1,10,none⟩=some (.int .i64 2)∧w'.cell? ⟨w2.heap.size+1,11,none⟩=some (.int .i64 (-1))∧Below wr.heap.size wr w') (first | exact hS0 | exact keepSix hb (by assumption) | exact keepSix (allocB _ _) (by assumption) | exact keepSixSwap (by first | omega | (simp;omega) | simp) (by first | omega | (simp;omega) | simp) (by first | omega | (simp;omega) | simp) (by first | omega | (simp;omega) | simp) (by first | omega | (simp;omega) | simp) (by first | omega | (simp;omega) | simp) (by first | omega | (simp;omega) | simp) (by assumption) | exact keepSixStore (by first | omega | (simp;omega) | simp) (by first | omega | (simp;omega) | simp) (by first | omega | (simp;omega) | simp) (by first | omega | (simp;omega) | simp) (by first | omega | (simp;omega) | simp) (by first | omega | (simp;omega) | simp) (by first | omega | (simp;omega) | simp) (by assumption))
      (first | (go_at_call 33;(first | with_reducible refine (MK.out _).mono ?_ | with_reducible refine (MW.out _).mono ?_);rintro e w' ⟨rfl,hb⟩;(try (have nw:=keepNew hb (by first | assumption | exact new_second _ _ | exact new_second' _ _ | exact new_alloc _ | exact new_drew _);have nw0:=nw.1;have nw1:=nw.2.1;have nw2:=nw.2.2.1;have nw3:=nw.2.2.2));have hz:=hb.size;(try simp at hz)))
     all_goals
      rename_i hS
      go_wp2_with fail
      go_meet
      exact ⟨_,rfl,(by first | exact store_keep (store_new nw0) (by simp) | go_simp),(by first | exact store_new (store_keep nw1 (by simp)) | go_simp),hS.2.2.2.2.2.2⟩
    case rest =>
     obtain ⟨P,rfl,s0,s1,hW⟩:=hcut
     have hO':Hid (wc.ownsRow wl.heap.size 38 2 u11 5 (rowG G 5)):=own_keep hW hO.out
     have hX':=belowT hX hW
     have hwz':wl.heap.size≤wc.heap.size:=hX'.size
     clear r0 r1 r2 r3 r4 r5 hS0 hO hX hW hwz MK MW
     go_wp2_with (at_builtin;refine wpList_append_own _ rfl (.tmp 63) (.tmp 75) 93 rfl wl.heap.size 38 i0 (.agg #[.int .i64 0,.int .i64 0]) 2 16 Tryz.underlying93 hi hz0 hz1 hz2 rfl (by decide) _ _ _ rfl (own_keep (allocB _ _) hO'.out) ⟨wc.heap.size,0,none⟩ 1 1 [.int .i64 (52*A0+26*B0),.int .i64 (45*B0)] rfl rfl (two_lie _ _ _ _) (two_one _ _) (by unfold maxLen;omega) (by omega) (by simp;omega) ?_)
     intro v' w5 hown hgrow _
     have hX5:=(hX'.alloc hwz' (.cells #[.int .i64 (52*A0+26*B0),.int .i64 (45*B0)] 38)).grown hgrow (by simp;omega) (own_block hO'.out)
     have hO5:Hid (w5.ownsRow wl.heap.size 38 2 v' 6 (rowG G 6)):=by rw [hrow.out,← eG0.out,← eG1.out];exact hown
     clear hown hgrow hO' hX' hwz'
     go_wp2
     go_roundw
     case rel=>exact ⟨6,by omega,by go_num,hO5,hX5⟩
     case measure=>simp [intOf]
  · obtain ⟨g,cap,rfl⟩:=own_shape hO.out (by omega)
    go_wp2
    go_ret
    refine ⟨⟨g,⟨cap,rfl⟩,fun o ho=>?_⟩,belowT hB hX⟩
    rw [hO.out.cellAt o (by omega)]
    exact rowG_six G o ho
theorem rhex_yes (a b r:Int) (K:Nat) (hK:K≤12) (hr:12 - r=(K:Int)) (ha:In30 a) (hb:In30 b) (w:World) :
 Calls Tryz.prog 52 #[.agg #[.int .i64 a,.int .i64 b],.int .i64 r] w fun e w'=>(∃ g cap,e=.returned (.slice (some ⟨g,0,none⟩) 6 cap)∧∀ o < 12,w'.cell? ⟨g,o,none⟩=some (.int .i64 (hexG K a b o)))∧Below w.heap.size w w':=by
 have CE:=rcentre_yes a b r K hK hr ha hb
 obtain ⟨a1,a2⟩:=ha
 obtain ⟨b1,b2⟩:=hb
 refine rhex_core a b r _ _ _ _ (fun j=>ctA K (3*a+wayA j) (3*b+wayB j)) (fun j=>ctB K (3*a+wayA j) (3*b+wayB j)) (hexG K a b) (by omega) (by omega) a1 a2 b1 b2 (fun j hj=>?_) (fun j _=>?_) CE (by rw [hr];exact refbeta_yes K (by omega)) (fun j hj w=>?_) w
 · have hw:=way_box j hj
   have hc:=ct_box (a:=3*a+wayA j) (b:=3*b+wayB j) hK (by omega) (by omega)
   exact ⟨by omega,by omega,by omega,by omega⟩
 · rw [hexG_even,hexG_odd];exact ⟨rfl,rfl⟩
 · have hw:=way_box j hj
   exact rmul_ct hK (by omega) (by omega) w
set_option maxHeartbeats 1000000 in
theorem rhex_bad (a b r:Int)
 (CE:∀ w,Calls Tryz.prog 10 #[.agg #[.int .i64 a,.int .i64 b],.int .i64 r] w fun e w'=>e=.returned (.tuple #[.int .i64 0,.int .i64 0,.bool false])∧Below w.heap.size w w') (w:World) :
 Calls Tryz.prog 52 #[.agg #[.int .i64 a,.int .i64 b],.int .i64 r] w fun e w'=>e=.returned (.slice none 0 0)∧Below w.heap.size w w':=by
 replace CE:Hid _:=CE
 go_enter Tryz.func52,Tryz.ntmps52
 go_wp2_with fail
 refine (CE.out _).mono ?_
 rintro e w1 ⟨rfl,d1⟩
 have c1:Below w.heap.size w w1:=Below.trans (by go_grown) (d1.mono (by simp;try omega))
 have hB:=c1
 clear c1 d1
 go_wp2
 go_ret
 exact ⟨rfl,hB⟩
theorem rhex_no (a b r:Int) (h:¬ ((0≤r∧r≤12)∧In30 a∧In30 b)) (w:World) :
 Calls Tryz.prog 52 #[.agg #[.int .i64 a,.int .i64 b],.int .i64 r] w fun e w'=>e=.returned (.slice none 0 0)∧Below w.heap.size w w':=rhex_bad a b r (rcentre_no a b r h) w
end Go.Proofs.YtdklpgphmoaniaaGreatDoor
