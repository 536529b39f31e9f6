/-
  What the texts RParent, RCell, RKids, CSome say, so far as this seat's proofs need it.
-/
import Derived.Test.YtdklpgphmoaniaaGreatDoorJn11
namespace Go.Proofs.YtdklpgphmoaniaaGreatDoor
open Go.RowKit
theorem unit_part (k d:Nat) (hk:k < 6) (hd:d≤6):(unitA (k:Int)=ptA (d:Int)∧unitB (k:Int)=ptB (d:Int))↔d=k+1:=by
 have ck:k=0∨k=1∨k=2∨k=3∨k=4∨k=5:=by omega
 have cd:d=0∨d=1∨d=2∨d=3∨d=4∨d=5∨d=6:=by omega
 rcases ck with rfl | rfl | rfl | rfl | rfl | rfl <;>rcases cd with rfl | rfl | rfl | rfl | rfl | rfl | rfl <;>decide
theorem refround_at (u v d P Q:Int) (u1: -1152921504606846976≤u) (u2:u≤1152921504606846976) (v1: -1152921504606846976≤v) (v2:v≤1152921504606846976) (d1:1≤d) (d2:d≤1125899906842624) (hn:Nearest d u v P Q) (w:World) :
 Calls Tryz.prog 49 #[.agg #[.int .i64 u,.int .i64 v],.int .i64 d] w fun e w'=>e=.returned (.tuple #[.agg #[.int .i64 P,.int .i64 Q],.bool true])∧Below w.heap.size w w':=by
 refine (refround_see u v d u1 u2 v1 v2 d1 d2 w).mono ?_
 rintro e w' ⟨⟨a',b',rfl,hn'⟩,hb⟩
 obtain ⟨rfl,rfl⟩:=nearest_one hn hn'
 exact ⟨rfl,hb⟩
set_option maxHeartbeats 4000000 in
theorem rparent_core (a b A B P Q C D X Y:Int) (d:Nat) (hd:d≤6) (hX:ptA (d:Int)=X) (hY:ptB (d:Int)=Y) (eX:a - C=X) (eY:b - D=Y) (a1: -1073741824≤a) (a2:a≤1073741824) (b1: -1073741824≤b) (b2:b≤1073741824) (c1: -9007199254740992≤C) (c2:C≤9007199254740992) (d1: -9007199254740992≤D) (d2:D≤9007199254740992)
 (M1:∀ w,Calls Tryz.prog 33 #[.agg #[.int .i64 a,.int .i64 b],.agg #[.int .i64 3,.int .i64 (-1)]] w fun x w'=>x=.returned (.tuple #[.agg #[.int .i64 A,.int .i64 B],.bool true])∧Below w.heap.size w w')
 (RO:∀ w,Calls Tryz.prog 49 #[.agg #[.int .i64 A,.int .i64 B],.int .i64 7] w fun x w'=>x=.returned (.tuple #[.agg #[.int .i64 P,.int .i64 Q],.bool true])∧Below w.heap.size w w')
 (M2:∀ w,Calls Tryz.prog 33 #[.agg #[.int .i64 P,.int .i64 Q],.agg #[.int .i64 2,.int .i64 1]] w fun x w'=>x=.returned (.tuple #[.agg #[.int .i64 C,.int .i64 D],.bool true])∧Below w.heap.size w w') (w:World) :
 Calls Tryz.prog 35 #[.agg #[.int .i64 a,.int .i64 b]] w fun e w'=>e=.returned (.tuple #[.agg #[.int .i64 P,.int .i64 Q],.int .i64 (d:Int)])∧Below w.heap.size w w':=by
 have UN:Hid (∀ k:Nat,k < 6→∀ w,Calls Tryz.prog 41 #[.int .i64 (k:Int)] w fun e w'=>e=.returned (.agg #[.int .i64 (unitA (k:Int)),.int .i64 (unitB (k:Int))])∧Below w.heap.size w w'):=by
  intro k hk w
  have:=refunit_any (k:Int) w
  rwa [show (k:Int)%6=k by omega] at this
 have UP:Hid (∀ k:Nat,k < 6→((unitA (k:Int)=X∧unitB (k:Int)=Y)↔d=k+1)):=fun k hk=>by rw [← hX,← hY];exact unit_part k d hk hd
 clear hX hY
 replace M1:Hid _:=M1
 replace RO:Hid _:=RO
 replace M2:Hid _:=M2
 go_enter Tryz.func35,Tryz.ntmps35
 go_wp2_with fail
 refine (M1.out _).mono ?_
 rintro e w1 ⟨rfl,d1⟩
 have c1:Below w.heap.size w w1:=Below.trans (by go_grown) (d1.mono (by simp;try omega))
 have z0:w1.cell? ⟨w.heap.size,0,none⟩=some (.int .i64 a):=keepCell d1 (by go_simp)
 have qz0:=World.block_lt_of_cell? _ _ z0
 have z1:w1.cell? ⟨w.heap.size,1,none⟩=some (.int .i64 b):=keepCell d1 (by go_simp)
 have r0:w1.cell? ⟨w.heap.size+1,0,none⟩=some (.int .i64 0):=keepCell d1 (by go_simp)
 have fr0:w1.frozen? ⟨w.heap.size+1,0,none⟩=false:=keepFrozen (v:=.int .i64 0) d1 (by go_simp) (by go_simp)
 have qr0:=World.block_lt_of_cell? _ _ r0
 have r1:w1.cell? ⟨w.heap.size+1,1,none⟩=some (.int .i64 0):=keepCell d1 (by go_simp)
 have fr1:w1.frozen? ⟨w.heap.size+1,1,none⟩=false:=keepFrozen (v:=.int .i64 0) d1 (by go_simp) (by go_simp)
 have hB:=c1
 clear c1 d1
 go_wp2_with fail
 refine (RO.out _).mono ?_
 rintro e w2 ⟨rfl,d2⟩
 have c2:Below w1.heap.size w1 w2:=Below.trans (by go_grown) (d2.mono (by simp;try omega))
 replace z0:=keepCell c2 z0
 replace qz0:=World.block_lt_of_cell? _ _ z0
 replace z1:=keepCell c2 z1
 replace fr0:=keepFrozen c2 r0 fr0
 replace r0:=keepCell c2 r0
 replace qr0:=World.block_lt_of_cell? _ _ r0
 replace fr1:=keepFrozen c2 r1 fr1
 replace r1:=keepCell c2 r1
 replace hB:=belowT hB c2
 clear c2 d2
 go_wp2_with fail
 refine (M2.out _).mono ?_
 rintro e w3 ⟨rfl,d3⟩
 have c3:Below w2.heap.size w2 w3:=Below.trans (by go_grown) (d3.mono (by simp;try omega))
 replace z0:=keepCell c3 z0
 replace qz0:=World.block_lt_of_cell? _ _ z0
 replace z1:=keepCell c3 z1
 replace fr0:=keepFrozen c3 r0 fr0
 replace r0:=keepCell c3 r0
 replace qr0:=World.block_lt_of_cell? _ _ r0
 replace fr1:=keepFrozen c3 r1 fr1
 replace r1:=keepCell c3 r1
 have q0:w3.cell? ⟨w2.heap.size,0,none⟩=some (.int .i64 P):=keepCell d3 (by go_simp)
 have qq0:=World.block_lt_of_cell? _ _ q0
 have q1:w3.cell? ⟨w2.heap.size,1,none⟩=some (.int .i64 Q):=keepCell d3 (by go_simp)
 replace hB:=belowT hB c3
 clear c3 d3
 go_wp2_with fail
 have lq:w2.heap.size < w3.heap.size:=qq0
 have h1:=allocB w3 (.cells #[.int .i64 C,.int .i64 D] 23)
 have h2:=allocB (w3.alloc (.cells #[.int .i64 C,.int .i64 D] 23)) (.cells #[.int .i64 X,.int .i64 Y] 23)
 have hal:=belowT h1 h2
 have x0:((w3.alloc (.cells #[.int .i64 C,.int .i64 D] 23)).alloc (.cells #[.int .i64 X,.int .i64 Y] 23)).cell? ⟨w3.heap.size+1,0,none⟩=some (.int .i64 X):=by go_simp
 have x1:((w3.alloc (.cells #[.int .i64 C,.int .i64 D] 23)).alloc (.cells #[.int .i64 X,.int .i64 Y] 23)).cell? ⟨w3.heap.size+1,1,none⟩=some (.int .i64 Y):=by go_simp
 replace fr0:=keepFrozen hal r0 fr0
 replace fr1:=keepFrozen hal r1 fr1
 replace r0:=keepCell hal r0
 replace r1:=keepCell hal r1
 replace q0:=keepCell hal q0
 replace q1:=keepCell hal q1
 replace hB:=belowT hB hal
 clear h1 h2 hal z0 z1 qz0 qr0 qq0 M1 M2 RO
 generalize ((w3.alloc (.cells #[.int .i64 C,.int .i64 D] 23)).alloc (.cells #[.int .i64 X,.int .i64 Y] 23))=wl at *
 go_loopw [11] (fun v11 wr=>∃ k:Nat,k≤6∧v11=.int .i64 (k:Int)∧(d=0∨k < d)∧Below wl.heap.size wl wr) (fun v11 _=>6 - (intOf v11).toNat)
 case atStart=>exact ⟨0,by omega,rfl,by omega,Below.refl _ _⟩
 case round =>
  obtain ⟨k,hk,rfl,hkd,hX⟩:=hrel
  replace fr0:=keepFrozen hX r0 fr0
  replace fr1:=keepFrozen hX r1 fr1
  replace r0:=keepCell hX r0
  replace r1:=keepCell hX r1
  replace q0:=keepCell hX q0
  replace q1:=keepCell hX q1
  replace x0:=keepCell hX x0
  replace x1:=keepCell hX x1
  by_cases hlt:k < 6
  · have UK:Hid _:=UN.out k hlt
    have HK:=UP.out k hlt
    generalize unitA (k:Int)=U at UK HK
    generalize unitB (k:Int)=V at UK HK
    have hS0:=keepTwo (drewB wr) ⟨x0,x1,Below.refl _ _⟩
    by_cases hq:U=X∧V=Y
    · have hdk:d=k+1:=HK.1 hq
      obtain ⟨rfl,rfl⟩:=hq
      subst hdk
      clear UN UP HK
      go_wp2_with fail
      go_region_held3 (fun w'=>w'.cell? ⟨w3.heap.size+1,0,none⟩=some (.int .i64 U)∧w'.cell? ⟨w3.heap.size+1,1,none⟩=some (.int .i64 V)∧Below wr.heap.size wr w') (first | exact hS0 | exact keepTwo hb (by assumption))
       (first | (go_at_call 41;refine (UK.out _).mono ?_;rintro e w' ⟨rfl,hb⟩))
      rename_i hS
      have hW:=hS.2.2
      replace fr0:=keepFrozen hW r0 fr0
      replace fr1:=keepFrozen hW r1 fr1
      replace r0:=keepCell hW r0
      replace r1:=keepCell hW r1
      replace q0:=keepCell hW q0
      replace q1:=keepCell hW q1
      have hZ:=belowT hB (belowT hX hW)
      obtain ⟨g0,g1⟩:=two_stores (u:=.int .i64 P) (v:=.int .i64 Q) r0 r1
      clear hS hS0 x0 x1
      go_wp2
      exact bodyPost_ret (v:=.tuple #[.agg #[.int .i64 P,.int .i64 Q],.int .i64 ((k+1:Nat):Int)]) (by simp [results,Tryz.results35,go_sem,g0,g1]) rfl ⟨rfl,(hZ.setCell (by simp) _).setCell (by simp) _⟩
    · have hdk:¬ d=k+1:=fun e=>hq (HK.2 e)
      by_cases hU:U=X
      · subst hU
        have hV:(V == Y)=false:=by simp;exact fun e=>hq ⟨rfl,e⟩
        clear UN UP HK hq
        go_wp2_with fail
        go_region_held3 (fun w'=>w'.cell? ⟨w3.heap.size+1,0,none⟩=some (.int .i64 U)∧w'.cell? ⟨w3.heap.size+1,1,none⟩=some (.int .i64 Y)∧Below wr.heap.size wr w') (first | exact hS0 | exact keepTwo hb (by assumption))
         (first | (go_at_call 41;refine (UK.out _).mono ?_;rintro e w' ⟨rfl,hb⟩))
        rename_i hS
        have hW:=hS.2.2
        go_wp2
        go_roundw
        case rel=>exact ⟨k+1,by omega,by go_num,by omega,belowT hX hW⟩
        case measure=>simp [intOf];omega
      · have hU':(U == X)=false:=by simpa using hU
        clear UN UP HK hq hU
        go_wp2_with fail
        go_region_held3 (fun w'=>w'.cell? ⟨w3.heap.size+1,0,none⟩=some (.int .i64 X)∧w'.cell? ⟨w3.heap.size+1,1,none⟩=some (.int .i64 Y)∧Below wr.heap.size wr w') (first | exact hS0 | exact keepTwo hb (by assumption))
         (first | (go_at_call 41;refine (UK.out _).mono ?_;rintro e w' ⟨rfl,hb⟩))
        rename_i hS
        have hW:=hS.2.2
        go_wp2
        go_roundw
        case rel=>exact ⟨k+1,by omega,by go_num,by omega,belowT hX hW⟩
        case measure=>simp [intOf];omega
  · obtain rfl:k=6:=by omega
    obtain rfl:d=0:=by omega
    have hZ:=belowT hB hX
    obtain ⟨g0,g1⟩:=two_stores (u:=.int .i64 P) (v:=.int .i64 Q) r0 r1
    clear x0 x1
    go_wp2
    exact bodyPost_ret (v:=.tuple #[.agg #[.int .i64 P,.int .i64 Q],.int .i64 0]) (by simp [results,Tryz.results35,go_sem,g0,g1]) rfl ⟨rfl,(hZ.setCell (by simp) _).setCell (by simp) _⟩
theorem rparent_any (a b:Int) (ha:In30c a) (hb:In30c b) (w:World) :
 Calls Tryz.prog 35 #[.agg #[.int .i64 a,.int .i64 b]] w fun e w'=>e=.returned (.tuple #[.agg #[.int .i64 (parA a b),.int .i64 (parB a b)],.int .i64 (dig a b)])∧Below w.heap.size w w':=by
 obtain ⟨a1,a2⟩:=ha
 obtain ⟨b1,b2⟩:=hb
 have hs:=par_spec a b
 have hd:=dig_box a b
 have hp:=pt_box (dig a b)
 have hx:=par_box (a:=a) (b:=b) (B:=1073741824) ⟨a1,a2⟩ ⟨b1,b2⟩ (by omega)
 have e1:mulA a b 3 (-1)=3*a+b:=by unfold mulA;omega
 have e2:mulB a b 3 (-1)=2*b - a:=by unfold mulB;omega
 have e3:mulA (parA a b) (parB a b) 2 1=2*parA a b - parB a b:=by unfold mulA;omega
 have e4:mulB (parA a b) (parB a b) 2 1=parA a b+3*parB a b:=by unfold mulB;omega
 have M1:=fun w=>refmul_yes a b 3 (-1) (by omega) (by omega) (by omega) (by omega) (by omega) (by omega) (by omega) (by omega) (by rw [e1];exact fits_mk (by omega)) (by rw [e2];exact fits_mk (by omega)) w
 have M2:=fun w=>refmul_yes (parA a b) (parB a b) 2 1 (by omega) (by omega) (by omega) (by omega) (by omega) (by omega) (by omega) (by omega) (by rw [e3];exact fits_mk (by omega)) (by rw [e4];exact fits_mk (by omega)) w
 rw [e1,e2] at M1
 rw [e3,e4] at M2
 obtain ⟨d,hdd⟩:=Int.eq_ofNat_of_zero_le hd.1
 have:=rparent_core a b (3*a+b) (2*b - a) (parA a b) (parB a b) (2*parA a b - parB a b) (parA a b+3*parB a b) (ptA (dig a b)) (ptB (dig a b)) d (by omega) (by rw [hdd]) (by rw [hdd]) (by omega) (by omega) a1 a2 b1 b2 (by omega) (by omega) (by omega) (by omega) M1
  (refround_at _ _ 7 _ _ (by omega) (by omega) (by omega) (by omega) (by omega) (by omega) (par_nearest a b)) M2 w
 rw [hdd]
 exact this
set_option maxHeartbeats 4000000 in
theorem rok_core (r:Nat) (a b P Q:Int) (v:Bool) (r2:r≤12) (a1: -1073741824≤a) (a2:a≤1073741824) (b1: -1073741824≤b) (b2:b≤1073741824) (hP:(ups r a b).1=P) (hQ:(ups r a b).2=Q)
 (hv:Hid (v=decide ((-512≤P∧P≤511)∧(-512≤Q∧Q≤511)))) (w:World) :
 Calls Tryz.prog 34 #[.agg #[.int .i64 (r:Int),.int .i64 a,.int .i64 b]] w fun e w'=>e=.returned (.bool v)∧Below w.heap.size w w':=by
 have PA:Hid (∀ k:Nat,k≤12→∀ w,Calls Tryz.prog 35 #[.agg #[.int .i64 (ups k a b).1,.int .i64 (ups k a b).2]] w fun e w'=>e=.returned (.tuple #[.agg #[.int .i64 (ups (k+1) a b).1,.int .i64 (ups (k+1) a b).2],.int .i64 (dig (ups k a b).1 (ups k a b).2)])∧Below w.heap.size w w'):=by
  intro k hk w
  have hx:=ups_box (B:=1073741824) (by omega) k (a:=a) (b:=b) ⟨a1,a2⟩ ⟨b1,b2⟩
  rw [ups_last]
  exact rparent_any _ _ hx.1 hx.2 w
 have hPQ:Hid (ups r a b=(P,Q)):=by show ups r a b=(P,Q);rw [← hP,← hQ]
 clear hP hQ
 go_enter Tryz.func34,Tryz.ntmps34
 go_wp2_with fail
 go_loopw [4] (fun v4 wr=>∃ k:Nat,k≤r∧v4=.int .i64 (k:Int)∧wr.cell? ⟨w.heap.size+1,0,none⟩=some (.int .i64 (ups k a b).1)∧wr.cell? ⟨w.heap.size+1,1,none⟩=some (.int .i64 (ups k a b).2)∧wr.frozen? ⟨w.heap.size+1,0,none⟩=false∧wr.frozen? ⟨w.heap.size+1,1,none⟩=false∧wr.cell? ⟨w.heap.size,0,none⟩=some (.int .i64 (r:Int))∧Below w.heap.size w wr) (fun v4 _=>r - (intOf v4).toNat)
 case atStart=>exact ⟨0,by omega,rfl,by go_simp;rfl,by go_simp;rfl,by go_simp,by go_simp,by go_simp,by go_grown⟩
 case round =>
  obtain ⟨k,hk,rfl,z0,z1,fz0,fz1,c0,hB⟩:=hrel
  have lz:w.heap.size+1 < wr.heap.size:=World.block_lt_of_cell? _ _ z0
  by_cases hlt:k < r
  · have PK:Hid _:=PA.out k (by omega)
    clear PA hPQ hv
    generalize (ups k a b).1=X at PK z0
    generalize (ups k a b).2=Y at PK z1
    obtain ⟨U,hU⟩:∃ U,(ups (k+1) a b).1=U:=⟨_,rfl⟩
    obtain ⟨V,hV⟩:∃ V,(ups (k+1) a b).2=V:=⟨_,rfl⟩
    rw [hU,hV] at PK
    replace hU:Hid _:=hU
    replace hV:Hid _:=hV
    have qz0:=World.block_lt_of_cell? _ _ z0
    have qc0:=World.block_lt_of_cell? _ _ c0
    go_wp2_with fail
    refine (PK.out _).mono ?_
    rintro e v1 ⟨rfl,d1⟩
    have c1:Below wr.heap.size wr v1:=Below.trans (by go_grown) (d1.mono (by simp;try omega))
    replace fz0:=keepFrozen c1 z0 fz0
    replace z0:=keepCell c1 z0
    replace qz0:=World.block_lt_of_cell? _ _ z0
    replace fz1:=keepFrozen c1 z1 fz1
    replace z1:=keepCell c1 z1
    replace c0:=keepCell c1 c0
    replace qc0:=World.block_lt_of_cell? _ _ c0
    replace hB:=belowT hB c1
    clear c1 d1
    obtain ⟨g0,g1⟩:=two_stores (u:=.int .i64 U) (v:=.int .i64 V) z0 z1
    go_wp2
    go_roundw
    case rel=>exact ⟨k+1,by omega,by go_num,by rw [hU.out];exact g0,by rw [hV.out];exact g1,by simp [fz0],by simp [fz1],store_keep (store_keep c0 (by simp)) (by simp),(hB.setCell (by simp) _).setCell (by simp) _⟩
    case measure=>simp [intOf];omega
  · obtain rfl:k=r:=by omega
    rw [hPQ.out] at z0 z1
    clear PA hPQ
    simp only at z0 z1
    by_cases h1: -512≤P
    · by_cases h2:P≤511
      · by_cases h3: -512≤Q
        · by_cases h4:Q≤511
          · obtain rfl:v=true:=by rw [hv.out];exact decide_eq_true ⟨⟨h1,h2⟩,h3,h4⟩
            clear hv
            go_wp2
            go_ret
            exact ⟨rfl,hB⟩
          · obtain rfl:v=false:=by rw [hv.out];exact decide_eq_false (by omega)
            clear hv
            have q:=df h4
            go_wp2
            go_ret
            exact ⟨rfl,hB⟩
        · obtain rfl:v=false:=by rw [hv.out];exact decide_eq_false (by omega)
          clear hv
          have q:=df h3
          go_wp2
          go_ret
          exact ⟨rfl,hB⟩
      · obtain rfl:v=false:=by rw [hv.out];exact decide_eq_false (by omega)
        clear hv
        have q:=df h2
        go_wp2
        go_ret
        exact ⟨rfl,hB⟩
    · obtain rfl:v=false:=by rw [hv.out];exact decide_eq_false (by omega)
      clear hv
      have q:=df h1
      go_wp2
      go_ret
      exact ⟨rfl,hB⟩
set_option maxHeartbeats 1000000 in
theorem rok_no0 (r a b:Int) (h:r < 0) (w:World) :
 Calls Tryz.prog 34 #[.agg #[.int .i64 r,.int .i64 a,.int .i64 b]] w fun e w'=>e=.returned (.bool false)∧Below w.heap.size w w':=by
 go_enter Tryz.func34,Tryz.ntmps34
 go_wp2
 go_ret
 exact ⟨rfl,by go_grown⟩
set_option maxHeartbeats 1000000 in
theorem rok_no1 (r a b:Int) (q0:decide (r < 0)=false) (h:12 < r) (w:World) :
 Calls Tryz.prog 34 #[.agg #[.int .i64 r,.int .i64 a,.int .i64 b]] w fun e w'=>e=.returned (.bool false)∧Below w.heap.size w w':=by
 go_enter Tryz.func34,Tryz.ntmps34
 go_wp2
 go_ret
 exact ⟨rfl,by go_grown⟩
set_option maxHeartbeats 1000000 in
theorem rok_no2 (r a b:Int) (q0:decide (r < 0)=false) (q1:decide (12 < r)=false) (h:a < -1073741824) (w:World) :
 Calls Tryz.prog 34 #[.agg #[.int .i64 r,.int .i64 a,.int .i64 b]] w fun e w'=>e=.returned (.bool false)∧Below w.heap.size w w':=by
 go_enter Tryz.func34,Tryz.ntmps34
 go_wp2
 go_ret
 exact ⟨rfl,by go_grown⟩
set_option maxHeartbeats 1000000 in
theorem rok_no3 (r a b:Int) (q0:decide (r < 0)=false) (q1:decide (12 < r)=false) (q2:decide (a < -1073741824)=false) (h:1073741824 < a) (w:World) :
 Calls Tryz.prog 34 #[.agg #[.int .i64 r,.int .i64 a,.int .i64 b]] w fun e w'=>e=.returned (.bool false)∧Below w.heap.size w w':=by
 go_enter Tryz.func34,Tryz.ntmps34
 go_wp2
 go_ret
 exact ⟨rfl,by go_grown⟩
set_option maxHeartbeats 1000000 in
theorem rok_no4 (r a b:Int) (q0:decide (r < 0)=false) (q1:decide (12 < r)=false) (q2:decide (a < -1073741824)=false) (q3:decide (1073741824 < a)=false) (h:b < -1073741824) (w:World) :
 Calls Tryz.prog 34 #[.agg #[.int .i64 r,.int .i64 a,.int .i64 b]] w fun e w'=>e=.returned (.bool false)∧Below w.heap.size w w':=by
 go_enter Tryz.func34,Tryz.ntmps34
 go_wp2
 go_ret
 exact ⟨rfl,by go_grown⟩
set_option maxHeartbeats 1000000 in
theorem rok_no5 (r a b:Int) (q0:decide (r < 0)=false) (q1:decide (12 < r)=false) (q2:decide (a < -1073741824)=false) (q3:decide (1073741824 < a)=false) (q4:decide (b < -1073741824)=false) (h:1073741824 < b) (w:World) :
 Calls Tryz.prog 34 #[.agg #[.int .i64 r,.int .i64 a,.int .i64 b]] w fun e w'=>e=.returned (.bool false)∧Below w.heap.size w w':=by
 go_enter Tryz.func34,Tryz.ntmps34
 go_wp2
 go_ret
 exact ⟨rfl,by go_grown⟩
theorem rok_any (r a b:Int) (w:World) :
 Calls Tryz.prog 34 #[.agg #[.int .i64 r,.int .i64 a,.int .i64 b]] w fun e w'=>e=.returned (.bool (ok4B r a b))∧Below w.heap.size w w':=by
 by_cases q0:r < 0
 · rw [ok4_no fun h=>by unfold Ok4 In30c at h;omega];exact rok_no0 r a b q0 w
 · skip
   by_cases q1:12 < r
   · rw [ok4_no fun h=>by unfold Ok4 In30c at h;omega];exact rok_no1 r a b (df q0) q1 w
   · skip
     by_cases q2:a < -1073741824
     · rw [ok4_no fun h=>by unfold Ok4 In30c at h;omega];exact rok_no2 r a b (df q0) (df q1) q2 w
     · skip
       by_cases q3:1073741824 < a
       · rw [ok4_no fun h=>by unfold Ok4 In30c at h;omega];exact rok_no3 r a b (df q0) (df q1) (df q2) q3 w
       · skip
         by_cases q4:b < -1073741824
         · rw [ok4_no fun h=>by unfold Ok4 In30c at h;omega];exact rok_no4 r a b (df q0) (df q1) (df q2) (df q3) q4 w
         · skip
           by_cases q5:1073741824 < b
           · rw [ok4_no fun h=>by unfold Ok4 In30c at h;omega];exact rok_no5 r a b (df q0) (df q1) (df q2) (df q3) (df q4) q5 w
           · skip
             obtain ⟨n,rfl⟩:=Int.eq_ofNat_of_zero_le (show 0≤r by omega)
             exact rok_core n a b _ _ _ (by omega) (by omega) (by omega) (by omega) (by omega) rfl rfl (by
              show ok4B _ _ _=_
              unfold ok4B
              congr 1
              apply propext
              show _↔((-512≤(ups n a b).1∧(ups n a b).1≤511)∧(-512≤(ups n a b).2∧(ups n a b).2≤511))
              constructor
              · intro h;exact ⟨h.2.2.2.2.1,h.2.2.2.2.2⟩
              · intro h;exact ⟨by omega,by omega,by omega,by omega,h.1,h.2⟩) w
set_option maxHeartbeats 1000000 in
theorem rparent4_yes (r a b:Int) (h:Ok4 r a b) (hr:0 < r) (w:World) :
 Calls Tryz.prog 21 #[.agg #[.int .i64 r,.int .i64 a,.int .i64 b]] w fun e w'=>e=.returned (.tuple #[.agg #[.int .i64 (r - 1),.int .i64 (parA a b),.int .i64 (parB a b)],.int .i64 0])∧Below w.heap.size w w':=by
 have OK:Hid (∀ w,Calls Tryz.prog 34 #[.agg #[.int .i64 r,.int .i64 a,.int .i64 b]] w fun e w'=>e=.returned (.bool true)∧Below w.heap.size w w'):=fun w=>by rw [← ok4_mk h];exact rok_any r a b w
 have PA:Hid _:=rparent_any a b h.2.2.1 h.2.2.2.1
 have q0:(r == 0)=false:=by simp;omega
 have r2:r≤12:=h.2.1
 clear h
 generalize parA a b=P at *
 generalize parB a b=Q at *
 go_enter Tryz.func21,Tryz.ntmps21
 go_wp2_with fail
 refine (OK.out _).mono ?_
 rintro e w1 ⟨rfl,d1⟩
 have c1:Below w.heap.size w w1:=Below.trans (by go_grown) (d1.mono (by simp;try omega))
 have z0:w1.cell? ⟨w.heap.size,0,none⟩=some (.int .i64 r):=keepCell d1 (by go_simp)
 have fz0:w1.frozen? ⟨w.heap.size,0,none⟩=false:=keepFrozen (v:=.int .i64 r) d1 (by go_simp) (by go_simp)
 have qz0:=World.block_lt_of_cell? _ _ z0
 have z1:w1.cell? ⟨w.heap.size,1,none⟩=some (.int .i64 a):=keepCell d1 (by go_simp)
 have fz1:w1.frozen? ⟨w.heap.size,1,none⟩=false:=keepFrozen (v:=.int .i64 a) d1 (by go_simp) (by go_simp)
 have z2:w1.cell? ⟨w.heap.size,2,none⟩=some (.int .i64 b):=keepCell d1 (by go_simp)
 have fz2:w1.frozen? ⟨w.heap.size,2,none⟩=false:=keepFrozen (v:=.int .i64 b) d1 (by go_simp) (by go_simp)
 have r0:w1.cell? ⟨w.heap.size+1,0,none⟩=some (.int .i64 0):=keepCell d1 (by go_simp)
 have fr0:w1.frozen? ⟨w.heap.size+1,0,none⟩=false:=keepFrozen (v:=.int .i64 0) d1 (by go_simp) (by go_simp)
 have qr0:=World.block_lt_of_cell? _ _ r0
 have r1:w1.cell? ⟨w.heap.size+1,1,none⟩=some (.int .i64 0):=keepCell d1 (by go_simp)
 have fr1:w1.frozen? ⟨w.heap.size+1,1,none⟩=false:=keepFrozen (v:=.int .i64 0) d1 (by go_simp) (by go_simp)
 have r2:w1.cell? ⟨w.heap.size+1,2,none⟩=some (.int .i64 0):=keepCell d1 (by go_simp)
 have fr2:w1.frozen? ⟨w.heap.size+1,2,none⟩=false:=keepFrozen (v:=.int .i64 0) d1 (by go_simp) (by go_simp)
 have hB:=c1
 clear c1 d1
 go_wp2_with fail
 refine (PA.out _).mono ?_
 rintro e w2 ⟨rfl,d2⟩
 have c2:Below w1.heap.size w1 w2:=Below.trans (by go_grown) (d2.mono (by simp;try omega))
 replace fz0:=keepFrozen c2 z0 fz0
 replace z0:=keepCell c2 z0
 replace qz0:=World.block_lt_of_cell? _ _ z0
 replace fz1:=keepFrozen c2 z1 fz1
 replace z1:=keepCell c2 z1
 replace fz2:=keepFrozen c2 z2 fz2
 replace z2:=keepCell c2 z2
 replace fr0:=keepFrozen c2 r0 fr0
 replace r0:=keepCell c2 r0
 replace qr0:=World.block_lt_of_cell? _ _ r0
 replace fr1:=keepFrozen c2 r1 fr1
 replace r1:=keepCell c2 r1
 replace fr2:=keepFrozen c2 r2 fr2
 replace r2:=keepCell c2 r2
 replace hB:=belowT hB c2
 clear c2 d2
 obtain ⟨g0,g1,g2⟩:=three_stores (u0:=.int .i64 (r - 1)) (u1:=.int .i64 (P)) (u2:=.int .i64 (Q)) r0 r1 r2
 have e0:=keepCell (allocB _ (.cells #[.int .i64 (P),.int .i64 (Q)] 23)) g0
 have e1:=keepCell (allocB _ (.cells #[.int .i64 (P),.int .i64 (Q)] 23)) g1
 have e2:=keepCell (allocB _ (.cells #[.int .i64 (P),.int .i64 (Q)] 23)) g2
 go_wp2
 exact bodyPost_ret (v:=.tuple #[.agg #[.int .i64 (r - 1),.int .i64 (P),.int .i64 (Q)],.int .i64 0]) (by simp [results,Tryz.results21,go_sem,e0,e1,e2]) rfl ⟨rfl,(((hB.setCell (by simp) _).setCell (by simp) _).setCell (by simp) _).alloc (by simp;omega) _⟩
def rowK (G:Nat→Int):Nat→List Value
 | 0=>[]
 | k+1=>rowK G k++[.int .i64 (G (k*3)),.int .i64 (G (k*3+1)),.int .i64 (G (k*3+2))]
theorem three_lie (w:World) (B:Nat) (h:w.heap.size=B) (x y z:Int) (e:TypeId):∀ j u,([.int .i64 x,.int .i64 y,.int .i64 z]:List Value)[j]?=some u→(w.alloc (.cells #[.int .i64 x,.int .i64 y,.int .i64 z] e)).cell? ((⟨B,0,none⟩:Addr).add j)=some u:=by
 subst h
 intro j u hj
 match j,hj with
 | 0,hj=>simp at hj;subst hj;simp [Addr.add]
 | 1,hj=>simp at hj;subst hj;simp [Addr.add]
 | 2,hj=>simp at hj;subst hj;simp [Addr.add]
theorem three_one (x y z:Int):∀ u∈([.int .i64 x,.int .i64 y,.int .i64 z]:List Value),u.oneCell'=true:=by
 intro u hu
 simp at hu
 rcases hu with rfl | rfl | rfl <;>rfl
theorem rowK_at (G:Nat→Int) (o:Nat) (ho:o < 21):(rowK G 7)[o]?=some (.int .i64 (G o)):=by
 have h:o=0∨o=1∨o=2∨o=3∨o=4∨o=5∨o=6∨o=7∨o=8∨o=9∨o=10∨o=11∨o=12∨o=13∨o=14∨o=15∨o=16∨o=17∨o=18∨o=19∨o=20:=by omega
 rcases h with rfl | rfl | rfl | rfl | rfl | rfl | rfl | rfl | rfl | rfl | rfl | rfl | rfl | rfl | rfl | rfl | rfl | rfl | rfl | rfl | rfl <;>rfl
theorem infoCell:(Tryz.prog.info? 25).map (fun i=>(i.zero,i.size,i.bytes))=some (some (.agg #[.int .i64 0,.int .i64 0,.int .i64 0]),3,24):=by kernel_rfl
def TellsC (G:Nat→Int) (e:Ending) (w':World):Prop:=∃ g cap,e=.returned (.tuple #[.slice (some ⟨g,0,none⟩) 7 cap,.int .i64 0])∧∀ o < 21,w'.cell? ⟨g,o,none⟩=some (.int .i64 (G o))
set_option maxHeartbeats 8000000 in
set_option maxRecDepth 20000 in
theorem rkids_core (r a b A B:Int) (G:Nat→Int) (r1:0≤r) (r2:r < 12) (hr:(r == 12)=false) (h:Ok4 r a b)
 (A1: -9007199254740992≤A) (A2:A≤9007199254740992) (B1: -9007199254740992≤B) (B2:B≤9007199254740992)
 (hG0:G 0=r+1) (hG1:G 1=A) (hG2:G 2=B)
 (hG:∀ k:Nat,k < 6→G ((k+1)*3)=r+1∧G ((k+1)*3+1)=A+unitA (k:Int)∧G ((k+1)*3+2)=B+unitB (k:Int))
 (MU:∀ w,Calls Tryz.prog 33 #[.agg #[.int .i64 a,.int .i64 b],.agg #[.int .i64 2,.int .i64 1]] w fun x w'=>x=.returned (.tuple #[.agg #[.int .i64 A,.int .i64 B],.bool true])∧Below w.heap.size w w') (w:World) :
 Calls Tryz.prog 31 #[.agg #[.int .i64 r,.int .i64 a,.int .i64 b]] w fun e w'=>TellsC G e w'∧Below w.heap.size w w':=by
 have OK:Hid (∀ w,Calls Tryz.prog 34 #[.agg #[.int .i64 r,.int .i64 a,.int .i64 b]] w fun e w'=>e=.returned (.bool true)∧Below w.heap.size w w'):=fun w=>by rw [← ok4_mk h];exact rok_any r a b w
 have UN:Hid (∀ k:Nat,k < 6→∀ w,Calls Tryz.prog 41 #[.int .i64 (k:Int)] w fun e w'=>e=.returned (.agg #[.int .i64 (unitA (k:Int)),.int .i64 (unitB (k:Int))])∧Below w.heap.size w w'):=by
  intro k hk w
  have:=refunit_any (k:Int) w
  rwa [show (k:Int)%6=k by omega] at this
 have hrow1:Hid (rowK G 1=[.int .i64 (r+1),.int .i64 A,.int .i64 B]):=by show rowK G 0++[.int .i64 (G 0),.int .i64 (G 1),.int .i64 (G 2)]=_;rw [hG0,hG1,hG2];rfl
 have hrowS:Hid (∀ k:Nat,k < 6→rowK G (k+1+1)=rowK G (k+1)++[.int .i64 (r+1),.int .i64 (A+unitA (k:Int)),.int .i64 (B+unitB (k:Int))]):=by
  intro k hk
  obtain ⟨e0,e1,e2⟩:=hG k hk
  show rowK G (k+1)++[.int .i64 (G ((k+1)*3)),.int .i64 (G ((k+1)*3+1)),.int .i64 (G ((k+1)*3+2))]=_
  rw [e0,e1,e2]
 have UB:Hid (∀ k:Nat,k < 6→(-1≤unitA (k:Int)∧unitA (k:Int)≤1)∧(-1≤unitB (k:Int)∧unitB (k:Int)≤1)):=by
  intro k hk
  have ck:k=0∨k=1∨k=2∨k=3∨k=4∨k=5:=by omega
  rcases ck with rfl | rfl | rfl | rfl | rfl | rfl <;>decide
 replace MU:Hid _:=MU
 clear h hG hG0 hG1 hG2
 go_enter Tryz.func31,Tryz.ntmps31
 go_wp2_with fail
 refine (OK.out _).mono ?_
 rintro e w1 ⟨rfl,d1⟩
 have c1:Below w.heap.size w w1:=Below.trans (by go_grown) (d1.mono (by simp;try omega))
 have z0:w1.cell? ⟨w.heap.size,0,none⟩=some (.int .i64 r):=keepCell d1 (by go_simp)
 have qz0:=World.block_lt_of_cell? _ _ z0
 have z1:w1.cell? ⟨w.heap.size,1,none⟩=some (.int .i64 a):=keepCell d1 (by go_simp)
 have z2:w1.cell? ⟨w.heap.size,2,none⟩=some (.int .i64 b):=keepCell d1 (by go_simp)
 have hB:=c1
 clear c1 d1
 go_wp2_with fail
 refine (MU.out _).mono ?_
 rintro e w2 ⟨rfl,d2⟩
 have c2:Below w1.heap.size w1 w2:=Below.trans (by go_grown) (d2.mono (by simp;try omega))
 replace z0:=keepCell c2 z0
 replace qz0:=World.block_lt_of_cell? _ _ z0
 replace z1:=keepCell c2 z1
 replace z2:=keepCell c2 z2
 replace hB:=belowT hB c2
 clear c2 d2
 go_wp2_with fail
 have h1:=allocB w2 (.cells #[.int .i64 A,.int .i64 B] 23)
 have m0:(w2.alloc (.cells #[.int .i64 A,.int .i64 B] 23)).cell? ⟨w2.heap.size,0,none⟩=some (.int .i64 A):=by go_simp
 have m1:(w2.alloc (.cells #[.int .i64 A,.int .i64 B] 23)).cell? ⟨w2.heap.size,1,none⟩=some (.int .i64 B):=by go_simp
 have lz:w.heap.size < w2.heap.size:=qz0
 replace z0:=keepCell h1 z0
 replace hB:=belowT hB h1
 have hsz:(w2.alloc (.cells #[.int .i64 A,.int .i64 B] 23)).heap.size=w2.heap.size+1:=by simp
 clear h1 z1 z2 MU OK
 have hO0:Hid (((w2.alloc (.cells #[.int .i64 A,.int .i64 B] 23)).alloc (.cells #[.int .i64 (r+1),.int .i64 A,.int .i64 B] 25)).ownsRow (w2.alloc (.cells #[.int .i64 A,.int .i64 B] 23)).heap.size 25 3 (.slice (some ⟨(w2.alloc (.cells #[.int .i64 A,.int .i64 B] 23)).heap.size,0,none⟩) 1 1) 1 (rowK G 1)):=by
  show World.ownsRow _ _ _ _ _ _ _
  rw [hrow1.out]
  exact World.ownsRow_lit _ #[.int .i64 (r+1),.int .i64 A,.int .i64 B] 1 (Nat.le_refl _) (by unfold maxLen;omega) rfl
 rw [hsz] at hO0
 have hX0:Below (w2.alloc (.cells #[.int .i64 A,.int .i64 B] 23)).heap.size (w2.alloc (.cells #[.int .i64 A,.int .i64 B] 23)) ((w2.alloc (.cells #[.int .i64 A,.int .i64 B] 23)).alloc (.cells #[.int .i64 (r+1),.int .i64 A,.int .i64 B] 25)):=allocB _ _
 rw [hsz] at hX0
 obtain ⟨i0,hi,hz0,hz1,hz2⟩:=info_parts infoCell
 go_loopw [6,7] (fun v6 v7 wr=>∃ k:Nat,k≤6∧v7=.int .i64 (k:Int)∧Hid (wr.ownsRow (w2.heap.size+1) 25 3 v6 (k+1) (rowK G (k+1)))∧Below (w2.heap.size+1) (w2.alloc (.cells #[.int .i64 A,.int .i64 B] 23)) wr) (fun _ v7 _=>6 - (intOf v7).toNat)
 case atStart=>exact ⟨0,by omega,rfl,hO0,hX0⟩
 case round =>
  clear hO0 hX0
  obtain ⟨k,hk,rfl,hO,hX⟩:=hrel
  have s0:=keepLow hX z0 (by simp;omega)
  have s1:=keepLow hX m0 (by simp)
  have s2:=keepLow hX m1 (by simp)
  have hwz:w2.heap.size+1≤wr.heap.size:=by have:=hX.size;omega
  by_cases hlt:k < 6
  · have UK:Hid _:=UN.out k hlt
    obtain ⟨⟨u1,u2⟩,⟨u3,u4⟩⟩:=UB.out k hlt
    have hrow:Hid _:=hrowS.out k hlt
    clear UN UB hrowS hrow1 z0 m0 m1
    generalize unitA (k:Int)=U at *
    generalize unitB (k:Int)=V at *
    have hB0:=hB
    clear hB
    have hB:Below wr.heap.size wr wr:=Below.refl _ _
    have qs0:=World.block_lt_of_cell? _ _ s0
    have qs1:=World.block_lt_of_cell? _ _ s1
    go_wp2_with fail
    refine (UK.out _).mono ?_
    rintro e v1 ⟨rfl,d1⟩
    have c1:Below wr.heap.size wr v1:=Below.trans (by go_grown) (d1.mono (by simp;try omega))
    replace s0:=keepCell c1 s0
    replace qs0:=World.block_lt_of_cell? _ _ s0
    replace s1:=keepCell c1 s1
    replace qs1:=World.block_lt_of_cell? _ _ s1
    replace s2:=keepCell c1 s2
    replace hB:=belowT hB c1
    clear c1 d1
    have hO1:Hid (v1.ownsRow (w2.heap.size+1) 25 3 u6 (k+1) (rowK G (k+1))):=own_keep hB hO.out
    have hX1:=hX.trans (hB.mono hwz)
    have hwz1:w2.heap.size+1≤v1.heap.size:=by have:=hB.size;omega
    have e1:(v1.alloc (.cells #[.int .i64 U,.int .i64 V] 23)).heap.size=v1.heap.size+1:=by simp
    clear hO hX hB UK
    go_wp2_with (at_builtin;refine wpList_append_own _ rfl (.tmp 36) (.tmp 52) 68 rfl (w2.heap.size+1) 25 i0 (.agg #[.int .i64 0,.int .i64 0,.int .i64 0]) 3 24 Tryz.underlying68 hi hz0 hz1 hz2 rfl (by decide) _ _ _ rfl (own_keep (belowT (allocB _ _) (allocB _ _)) hO1.out) ⟨v1.heap.size+1,0,none⟩ 1 1 [.int .i64 (r+1),.int .i64 (A+U),.int .i64 (B+V)] rfl rfl (three_lie _ _ e1 _ _ _ _) (three_one _ _ _) (by unfold maxLen;omega) (by omega) (by simp;omega) ?_)
    intro v' w5 hown hgrow _
    have hX5:=((hX1.alloc hwz1 (.cells #[.int .i64 U,.int .i64 V] 23)).alloc (by simp;omega) (.cells #[.int .i64 (r+1),.int .i64 (A+U),.int .i64 (B+V)] 25)).grown hgrow (by simp;omega) (own_block hO1.out)
    have hO5:Hid (w5.ownsRow (w2.heap.size+1) 25 3 v' (k+1+1) (rowK G (k+1+1))):=by rw [hrow.out];exact hown
    clear hown hgrow hO1 hX1 hwz1 e1
    go_wp2
    go_roundw
    case rel=>exact ⟨k+1,by omega,by go_num,hO5,hX5⟩
    case measure=>simp [intOf];omega
  · obtain rfl:k=6:=by omega
    obtain ⟨g,cap,rfl⟩:=own_shape hO.out (by omega)
    have hZ:Below w.heap.size w wr:=hB.trans (hX.mono (by omega))
    clear UN UB hrowS hrow1 z0 m0 m1 s0 s1 s2
    go_wp2
    go_ret2
    refine ⟨⟨g,cap,rfl,fun o ho=>?_⟩,hZ⟩
    rw [hO.out.cellAt o (by omega)]
    exact rowK_at G o ho
theorem rkids_yes (r a b:Int) (h:Ok4 r a b) (hr:r < 12) (w:World) :
 Calls Tryz.prog 31 #[.agg #[.int .i64 r,.int .i64 a,.int .i64 b]] w fun e w'=>TellsC (kidG r a b) e w'∧Below w.heap.size w w':=by
 have hp:=ok4_part h
 have e1:mulA a b 2 1=2*a - b:=by unfold mulA;omega
 have e2:mulB a b 2 1=a+3*b:=by unfold mulB;omega
 have MU:=fun w=>refmul_yes a b 2 1 (by omega) (by omega) (by omega) (by omega) (by omega) (by omega) (by omega) (by omega) (by rw [e1];exact fits_mk (by omega)) (by rw [e2];exact fits_mk (by omega)) w
 rw [e1,e2] at MU
 refine rkids_core r a b (2*a - b) (a+3*b) (kidG r a b) h.1 hr (by simp;omega) h (by omega) (by omega) (by omega) (by omega) (kidG_0 r a b 0) ?_ ?_ (fun k hk=>⟨kidG_0 r a b (k+1),?_,?_⟩) MU w
 · rw [show (1:Nat)=0*3+1 from rfl,kidG_1];show 2*a - b+0=_;omega
 · rw [show (2:Nat)=0*3+2 from rfl,kidG_2];show a+3*b+0=_;omega
 · rw [kidG_1]
   have:=(unit_part k (k+1) hk (by omega)).2 rfl
   rw [this.1];rfl
 · rw [kidG_2]
   have:=(unit_part k (k+1) hk (by omega)).2 rfl
   rw [this.2];rfl
set_option maxHeartbeats 1000000 in
theorem rkids_bad (r a b:Int) (h:¬ Ok4 r a b) (w:World) :
 Calls Tryz.prog 31 #[.agg #[.int .i64 r,.int .i64 a,.int .i64 b]] w fun e w'=>e=.returned (.tuple #[.slice none 0 0,.int .i64 2])∧Below w.heap.size w w':=by
 have OK:Hid (∀ w,Calls Tryz.prog 34 #[.agg #[.int .i64 r,.int .i64 a,.int .i64 b]] w fun e w'=>e=.returned (.bool false)∧Below w.heap.size w w'):=fun w=>by rw [← ok4_no h];exact rok_any r a b w
 clear h
 go_enter Tryz.func31,Tryz.ntmps31
 go_wp2_with fail
 refine (OK.out _).mono ?_
 rintro e w1 ⟨rfl,d1⟩
 have c1:Below w.heap.size w w1:=Below.trans (by go_grown) (d1.mono (by simp;try omega))
 have hB:=c1
 clear c1 d1
 go_wp2
 go_ret2
 exact ⟨rfl,hB⟩
set_option maxHeartbeats 1000000 in
theorem rkids_fine (r a b:Int) (h:Ok4 r a b) (hr:(r == 12)=true) (w:World) :
 Calls Tryz.prog 31 #[.agg #[.int .i64 r,.int .i64 a,.int .i64 b]] w fun e w'=>e=.returned (.tuple #[.slice none 0 0,.int .i64 1])∧Below w.heap.size w w':=by
 have OK:Hid (∀ w,Calls Tryz.prog 34 #[.agg #[.int .i64 r,.int .i64 a,.int .i64 b]] w fun e w'=>e=.returned (.bool true)∧Below w.heap.size w w'):=fun w=>by rw [← ok4_mk h];exact rok_any r a b w
 clear h
 go_enter Tryz.func31,Tryz.ntmps31
 go_wp2_with fail
 refine (OK.out _).mono ?_
 rintro e w1 ⟨rfl,d1⟩
 have c1:Below w.heap.size w w1:=Below.trans (by go_grown) (d1.mono (by simp;try omega))
 have z0:w1.cell? ⟨w.heap.size,0,none⟩=some (.int .i64 r):=keepCell d1 (by go_simp)
 have qz0:=World.block_lt_of_cell? _ _ z0
 have z1:w1.cell? ⟨w.heap.size,1,none⟩=some (.int .i64 a):=keepCell d1 (by go_simp)
 have z2:w1.cell? ⟨w.heap.size,2,none⟩=some (.int .i64 b):=keepCell d1 (by go_simp)
 have hB:=c1
 clear c1 d1
 go_wp2
 go_ret2
 exact ⟨rfl,hB⟩
def TellsS (s:Int) (e:Ending):Prop:=∃ P Q,e=.returned (.agg #[.int .i64 s,.int .i64 P,.int .i64 Q])∧Ok4 s P Q
set_option maxHeartbeats 2000000 in
theorem csome_point (x0 y0 r0 t s m u v a b:Int) (ht:r0.tmod 13=t) (hs:(t+13).tmod 13=s) (t1: -13 < t) (t2:t < 13) (hm:bits .and .i64 y0 1=m) (h0:(m == 0)=true)
 (PT:∀ w,Calls Tryz.prog 30 #[.int .i64 x0,.int .i64 y0] w fun e w'=>e=.returned (.tuple #[.int .i64 u,.int .i64 v])∧Below w.heap.size w w')
 (NE:∀ w,Calls Tryz.prog 20 #[.int .i64 u,.int .i64 v,.int .i64 s] w fun e w'=>e=.returned (.tuple #[.agg #[.int .i64 a,.int .i64 b],.bool true])∧Below w.heap.size w w') (w:World) :
 Calls Tryz.prog 9 #[.int .i64 x0,.int .i64 y0,.int .i64 r0] w fun e w'=>e=.returned (.agg #[.int .i64 s,.int .i64 a,.int .i64 b])∧Below w.heap.size w w':=by
 replace PT:Hid _:=PT
 replace NE:Hid _:=NE
 go_enter Tryz.func9,Tryz.ntmps9
 go_wp2_with fail
 refine (PT.out _).mono ?_
 rintro e w1 ⟨rfl,d1⟩
 have c1:Below w.heap.size w w1:=Below.trans (by go_grown) (d1.mono (by simp;try omega))
 have r0':w1.cell? ⟨w.heap.size,0,none⟩=some (.int .i64 0):=keepCell d1 (by go_simp)
 have fr0':w1.frozen? ⟨w.heap.size,0,none⟩=false:=keepFrozen (v:=.int .i64 0) d1 (by go_simp) (by go_simp)
 have qr0':=World.block_lt_of_cell? _ _ r0'
 have r1':w1.cell? ⟨w.heap.size,1,none⟩=some (.int .i64 0):=keepCell d1 (by go_simp)
 have fr1':w1.frozen? ⟨w.heap.size,1,none⟩=false:=keepFrozen (v:=.int .i64 0) d1 (by go_simp) (by go_simp)
 have r2':w1.cell? ⟨w.heap.size,2,none⟩=some (.int .i64 0):=keepCell d1 (by go_simp)
 have fr2':w1.frozen? ⟨w.heap.size,2,none⟩=false:=keepFrozen (v:=.int .i64 0) d1 (by go_simp) (by go_simp)
 have hB:=c1
 clear c1 d1
 go_wp2_with fail
 refine (NE.out _).mono ?_
 rintro e w2 ⟨rfl,d2⟩
 have c2:Below w1.heap.size w1 w2:=Below.trans (by go_grown) (d2.mono (by simp;try omega))
 replace fr0':=keepFrozen c2 r0' fr0'
 replace r0':=keepCell c2 r0'
 replace qr0':=World.block_lt_of_cell? _ _ r0'
 replace fr1':=keepFrozen c2 r1' fr1'
 replace r1':=keepCell c2 r1'
 replace fr2':=keepFrozen c2 r2' fr2'
 replace r2':=keepCell c2 r2'
 replace hB:=belowT hB c2
 clear c2 d2
 obtain ⟨g0,g1,g2⟩:=three_stores (u0:=.int .i64 s) (u1:=.int .i64 a) (u2:=.int .i64 b) r0' r1' r2'
 have e0:=keepCell (allocB _ (.cells #[.int .i64 a,.int .i64 b] 23)) g0
 have e1:=keepCell (allocB _ (.cells #[.int .i64 a,.int .i64 b] 23)) g1
 have e2:=keepCell (allocB _ (.cells #[.int .i64 a,.int .i64 b] 23)) g2
 go_wp2
 exact bodyPost_ret (v:=.agg #[.int .i64 s,.int .i64 a,.int .i64 b]) (by simp [results,Tryz.results9,go_sem,e0,e1,e2]) rfl ⟨rfl,(((hB.setCell (by simp) _).setCell (by simp) _).setCell (by simp) _).alloc (by simp;omega) _⟩
set_option maxHeartbeats 8000000 in
set_option maxRecDepth 20000 in
theorem csome_down (x0 y0 r0 t:Int) (s:Nat) (hs12:s≤12) (m:Int) (ht:r0.tmod 13=t) (hs:(t+13).tmod 13=(s:Int)) (t1: -13 < t) (t2:t < 13) (hm:bits .and .i64 y0 1=m) (h0:(m == 0)=false) (w:World) :
 Calls Tryz.prog 9 #[.int .i64 x0,.int .i64 y0,.int .i64 r0] w fun e w'=>TellsS s e∧Below w.heap.size w w':=by
 have M63:∀ n,bits .and .i64 n 63=n%64:=fun n=>by have:=i64_mask n 6 (by omega);simpa using this
 have M1023:∀ n,bits .and .i64 n 1023=n%1024:=mask10
 go_enter Tryz.func9,Tryz.ntmps9
 go_wp2_with fail
 have c1: -512≤x0%1024 - 512∧x0%1024 - 512≤511:=by omega
 have c2: -512≤x0 / 1024%1024 - 512∧x0 / 1024%1024 - 512≤511:=by omega
 have hO0:Hid (Ok4 ((0:Nat):Int) (x0%1024 - 512) (x0 / 1024%1024 - 512)):=ok4_of_base (r:=0) (by omega) c1 c2
 clear M1023
 go_loopw [10] (fun v10 wr=>∃ (k:Nat) (P Q:Int),k≤s∧v10=.int .i64 (k:Int)∧Hid (Ok4 (k:Int) P Q)∧wr.cell? ⟨w.heap.size+1,0,none⟩=some (.int .i64 (k:Int))∧wr.cell? ⟨w.heap.size+1,1,none⟩=some (.int .i64 P)∧wr.cell? ⟨w.heap.size+1,2,none⟩=some (.int .i64 Q)∧wr.frozen? ⟨w.heap.size+1,0,none⟩=false∧wr.frozen? ⟨w.heap.size+1,1,none⟩=false∧wr.frozen? ⟨w.heap.size+1,2,none⟩=false∧wr.cell? ⟨w.heap.size,0,none⟩=some (.int .i64 0)∧wr.cell? ⟨w.heap.size,1,none⟩=some (.int .i64 0)∧wr.cell? ⟨w.heap.size,2,none⟩=some (.int .i64 0)∧wr.frozen? ⟨w.heap.size,0,none⟩=false∧wr.frozen? ⟨w.heap.size,1,none⟩=false∧wr.frozen? ⟨w.heap.size,2,none⟩=false∧Below w.heap.size w wr) (fun v10 _=>s - (intOf v10).toNat)
 case atStart=>exact ⟨0,_,_,by omega,rfl,hO0,by go_simp,by go_simp,by go_simp,by go_simp,by go_simp,by go_simp,by go_simp,by go_simp,by go_simp,by go_simp,by go_simp,by go_simp,by go_grown⟩
 case round =>
  clear hO0 c1 c2
  obtain ⟨k,P,Q,hk,rfl,HO,z0,z1,z2,fz0,fz1,fz2,y0',y1,y2,fy0',fy1,fy2,hB⟩:=hrel
  have lz:w.heap.size+1 < wr.heap.size:=World.block_lt_of_cell? _ _ z0
  by_cases hlt:k < s
  · have CH:Hid _:=rkids_yes (k:Int) P Q HO.out (by omega)
    have qz0:=World.block_lt_of_cell? _ _ z0
    have qy0':=World.block_lt_of_cell? _ _ y0'
    go_wp2_with fail
    refine (CH.out _).mono ?_
    rintro e v1 ⟨⟨g,cap,rfl,hG⟩,d1⟩
    have c1:Below wr.heap.size wr v1:=Below.trans (by go_grown) (d1.mono (by simp;try omega))
    replace fz0:=keepFrozen c1 z0 fz0
    replace z0:=keepCell c1 z0
    replace qz0:=World.block_lt_of_cell? _ _ z0
    replace fz1:=keepFrozen c1 z1 fz1
    replace z1:=keepCell c1 z1
    replace fz2:=keepFrozen c1 z2 fz2
    replace z2:=keepCell c1 z2
    replace fy0':=keepFrozen c1 y0' fy0'
    replace y0':=keepCell c1 y0'
    replace qy0':=World.block_lt_of_cell? _ _ y0'
    replace fy1:=keepFrozen c1 y1 fy1
    replace y1:=keepCell c1 y1
    replace fy2:=keepFrozen c1 y2 fy2
    replace y2:=keepCell c1 y2
    replace hB:=belowT hB c1
    clear c1 d1
    have hj:(y0 / 2^(3*k+1)%64%7).toNat < 7:=by omega
    have d0:v1.cell? ⟨g,(y0 / 2^(3*k+1)%64%7).toNat*3,none⟩=some (.int .i64 ((k:Int)+1)):=by rw [hG _ (by omega),kidG_0]
    have d1:v1.cell? ⟨g,(y0 / 2^(3*k+1)%64%7).toNat*3+1,none⟩=some (.int .i64 (chA ((y0 / 2^(3*k+1)%64%7).toNat:Int) P Q)):=by rw [hG _ (by omega),kidG_1]
    have d2:v1.cell? ⟨g,(y0 / 2^(3*k+1)%64%7).toNat*3+2,none⟩=some (.int .i64 (chB ((y0 / 2^(3*k+1)%64%7).toNat:Int) P Q)):=by rw [hG _ (by omega),kidG_2]
    have hO':Hid (Ok4 ((k+1:Nat):Int) (chA ((y0 / 2^(3*k+1)%64%7).toNat:Int) P Q) (chB ((y0 / 2^(3*k+1)%64%7).toNat:Int) P Q)):=ok4_child HO.out (by omega) (by omega) (by omega)
    obtain ⟨e0,e1,e2⟩:=three_stores (u0:=.int .i64 ((k:Int)+1)) (u1:=.int .i64 (chA ((y0 / 2^(3*k+1)%64%7).toNat:Int) P Q)) (u2:=.int .i64 (chB ((y0 / 2^(3*k+1)%64%7).toNat:Int) P Q)) z0 z1 z2
    generalize chA ((y0 / 2^(3*k+1)%64%7).toNat:Int) P Q=U at *
    generalize chB ((y0 / 2^(3*k+1)%64%7).toNat:Int) P Q=V at *
    clear hG HO CH
    go_wp2
    go_roundw
    case rel=>exact ⟨k+1,U,V,by omega,by go_num,hO',e0,e1,e2,by simp [fz0],by simp [fz1],by simp [fz2],store_keep (store_keep (store_keep y0' (by simp)) (by simp)) (by simp),store_keep (store_keep (store_keep y1 (by simp)) (by simp)) (by simp),store_keep (store_keep (store_keep y2 (by simp)) (by simp)) (by simp),by simp [fy0'],by simp [fy1],by simp [fy2],((hB.setCell (by simp) _).setCell (by simp) _).setCell (by simp) _⟩
    case measure=>simp [intOf];omega
  · obtain rfl:k=s:=by omega
    obtain ⟨e0,e1,e2⟩:=three_stores (u0:=.int .i64 (k:Int)) (u1:=.int .i64 P) (u2:=.int .i64 Q) y0' y1 y2
    go_wp2
    exact bodyPost_ret (v:=.agg #[.int .i64 (k:Int),.int .i64 P,.int .i64 Q]) (by simp [results,Tryz.results9,go_sem,e0,e1,e2]) rfl ⟨⟨P,Q,rfl,HO.out⟩,((hB.setCell (by simp) _).setCell (by simp) _).setCell (by simp) _⟩
theorem csome_any (x0 y0 r0:Int):∃ s:Int,0≤s∧s≤12∧∀ w,Calls Tryz.prog 9 #[.int .i64 x0,.int .i64 y0,.int .i64 r0] w fun e w'=>TellsS s e∧Below w.heap.size w w':=by
 obtain ⟨t,s,K,ht,hs,t1,t2,hK,hr⟩:=size13 r0
 refine ⟨s,by omega,by omega,fun w=>?_⟩
 cases h0:(bits .and .i64 y0 1 == 0) with
 | true =>
  obtain ⟨u,v,hw,PT⟩:=point_any x0 y0
  obtain ⟨a,b,hn⟩:=nearest_some (dvK_box (K:=K) hK).1 (nuA K u v) (nuB K u v)
  exact (csome_point x0 y0 r0 t s _ u v a b ht hs t1 t2 rfl h0 PT (rnear_at u v s K hK hr hw a b hn) w).mono fun e w' ⟨he,hb⟩=>⟨⟨a,b,he,near_ok hK hr hw hn⟩,hb⟩
 | false =>
  obtain ⟨n,rfl⟩:=Int.eq_ofNat_of_zero_le (show 0≤s by omega)
  exact csome_down x0 y0 r0 t n (by omega) _ ht hs t1 t2 rfl h0 w
end Go.Proofs.YtdklpgphmoaniaaGreatDoor
