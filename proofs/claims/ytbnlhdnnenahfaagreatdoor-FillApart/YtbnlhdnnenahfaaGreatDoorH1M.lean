/-
  What the texts Plain, Halves, OwnKit, URow, RSeek, ULst, Wide, Times, RefE, RefMul, RefBeta, RWCell, RSet, RLook, RBeside, RefCentre, PolyMath, UApart, PolyGeo, FillMath, KCmp say, so far as this seat's proofs need it.
-/
import Derived.Test.YtbnlhdnnenahfaaGreatDoorRXM
import Derived.Test.YtbnlhdnnenahfaaGreatDoorHXM
import Derived.Test.YtbnlhdnnenahfaaGreatDoorPO1M
import Derived.Deep.OwnRows
namespace Go.Proofs.YtbnlhdnnenahfaaGreatDoor
open Go.RowKit
theorem fits_of {n:Int} (h:fits n=true): -9223372036854775808≤n∧n≤9223372036854775807:=of_decide_eq_true h
theorem agg_eq {a b c d:Int} (h1:a=c) (h2:b=d):Ending.returned (.agg #[.int .u64 a,.int .u64 b])=Ending.returned (.agg #[.int .u64 c,.int .u64 d]):=by rw [h1,h2]
theorem slot_of {w:World} {p:Addr} {n:Int} (h:w.cell? p=some (.int .i64 n)):w.cell? p=some (.int .i64 (slotInt w p)):=by
 have e:slotInt w p=n:=by unfold slotInt;rw [h]
 rw [e];exact h
theorem keepLow {B:Nat} {a b:World} {p:Addr} {v:Value} (h:Below B a b) (hc:a.cell? p=some v) (hl:p.block < B):b.cell? p=some v:=(h.cell hl).trans hc
theorem own_shape {w:World} {base:Nat} {e:TypeId} {size:Nat} {v:Value} {n:Nat} {xs:List Value} (h:w.ownsRow base e size v n xs) (hn:0 < n):∃ g cap,v=.slice (some ⟨g,0,none⟩) n cap:=by
 rcases h.2 with ⟨_,h0⟩ | ⟨g,cap,cur,hv,_⟩
 · omega
 · exact ⟨g,cap,hv⟩
theorem own_some {p:Option Addr} {m:Nat} (h:p=none∧m=0∨∃ g,p=some ⟨g,0,none⟩) (hm:0 < m):∃ g,p=some ⟨g,0,none⟩:=by
 rcases h with ⟨_,h⟩ | h
 · omega
 · exact h
theorem set_row {cur:List Value} {L:List Int} {m lo:Nat} (hL:L.length=m) (hlo:lo≤m) (htake:cur.take (m+1)=vals L++[.int .u64 0]) (x:Int) :
 ((splice cur (lo+1) ((vals L).drop lo)).take (m+1)).set lo (.int .u64 x)=vals (L.take lo++(x :: L.drop lo)):=by
 have h1:cur.take (lo+1)=(vals L).take lo++[(vals L++[Value.int .u64 0])[lo]'(by simp [vals_len];omega)]:=by
  rw [show cur.take (lo+1)=(vals L++[Value.int .u64 0]).take (lo+1) by rw [← htake,List.take_take,Nat.min_eq_left (by omega)]]
  rw [List.take_succ_eq_append_getElem (by simp [vals_len];omega),List.take_append_of_le_length (by rw [vals_len];omega)]
 unfold splice
 rw [h1,← List.append_assoc]
 generalize (vals L++[Value.int .u64 0])[lo]'_=z
 have hl1:((vals L).take lo).length=lo:=by rw [List.length_take,vals_len];omega
 rw [List.take_left' (by simp [vals_len];omega),List.append_assoc,List.set_append_right _ _ (by omega),hl1,Nat.sub_self]
 simp [vals,List.map_take,List.map_drop]
theorem take_next {X:List Int} {k:Nat} (h:k < X.length):X.take (k+1)=X.take k++[X[k]]:=List.take_succ_eq_append_getElem h
theorem ins_facts {L:List Int} {x:Int} {lo:Nat} (hR:Rising L) (hlo:lo≤L.length) (h1:∀ (t:Nat) (ht:t < L.length),t < lo→L[t] < x) (h2:∀ (t:Nat) (ht:t < L.length),lo≤t→x < L[t]) :
 Rising (L.take lo++(x :: L.drop lo))∧∀ y,y∈L.take lo++(x :: L.drop lo)↔y∈L∨y=x:=by
 have hT:∀ y∈L.take lo,y < x:=fun y hy=>by
  obtain ⟨t,ht,rfl⟩:=List.mem_iff_getElem.1 hy
  rw [List.length_take] at ht
  rw [List.getElem_take]
  exact h1 t (by omega) (by omega)
 have hD:∀ y∈L.drop lo,x < y:=fun y hy=>by
  obtain ⟨t,ht,rfl⟩:=List.mem_iff_getElem.1 hy
  rw [List.length_drop] at ht
  rw [List.getElem_drop]
  exact h2 (lo+t) (by omega) (by omega)
 refine ⟨List.pairwise_append.2 ⟨hR.sublist (List.take_sublist _ _),List.pairwise_cons.2 ⟨hD,hR.sublist (List.drop_sublist _ _)⟩,fun a ha b hb=>?_⟩,fun y=>?_⟩
 · rcases List.mem_cons.1 hb with rfl | hb
   · exact hT a ha
   · have:=hT a ha;have:=hD b hb;omega
 · rw [List.mem_append,List.mem_cons]
   have e:y∈L↔y∈L.take lo∨y∈L.drop lo:=by rw [← List.mem_append,List.take_append_drop]
   rw [e]
   constructor
   · rintro (h | h | h)
     · exact .inl (.inl h)
     · exact .inr h
     · exact .inl (.inr h)
   · rintro ((h | h) | h)
     · exact .inl h
     · exact .inr (.inr h)
     · exact .inr (.inl h)
theorem rise_at {L:List Int} (h:Rising L) {i j:Nat} (hi:i < L.length) (hj:j < L.length) (hij:i < j):L[i] < L[j]:=List.pairwise_iff_getElem.1 h i j hi hj hij
theorem rise_le {L:List Int} (h:Rising L) {i j:Nat} (hi:i < L.length) (hj:j < L.length) (hij:i≤j):L[i]≤L[j]:=by
 rcases Nat.lt_or_ge i j with k | k
 · have:=rise_at h hi hj k;omega
 · obtain rfl:i=j:=by omega
   exact Int.le_refl _
def Seek (L:List Int) (x:Int) (lo hi:Nat):Prop:=(∀ (t:Nat) (ht:t < L.length),t < lo→L[t] < x)∧∀ (t:Nat) (ht:t < L.length),hi≤t→x≤L[t]
theorem Seek.up {L:List Int} {x:Int} {lo hi mid:Nat} (h:Seek L x lo hi) (hR:Rising L) (hm:mid < L.length) (hx:L[mid] < x):Seek L x (mid+1) hi :=
 ⟨fun t ht hl=>by have:=rise_le hR ht hm (by omega);omega,h.2⟩
theorem Seek.down {L:List Int} {x:Int} {lo hi mid:Nat} (h:Seek L x lo hi) (hR:Rising L) (hm:mid < L.length) (hx:x≤L[mid]):Seek L x lo mid :=
 ⟨h.1,fun t ht hl=>by have:=rise_le hR hm ht hl;omega⟩
theorem Lst.none' (w:World) (p:Option Addr) (cap:Nat):Lst w (.slice p 0 cap) []:=⟨p,cap,rfl,Nat.zero_le _,fun _ hj=>absurd hj (Nat.not_lt_zero _)⟩
theorem Lst.own {w:World} {base n:Nat} {v:Value} {L:List Int} (h:w.ownsRow base 35 1 v n (vals L)):Lst w v L:=by
 have hl:L.length=n:=by have:=h.1;rw [vals_len] at this;omega
 subst hl
 rcases h.2 with ⟨rfl,h0⟩ | ⟨g,c,cur,rfl,_⟩
 · have:L=[]:=List.length_eq_zero_iff.1 h0
   subst this
   exact Lst.none' w none 0
 · have hc:=own_cells h
   refine Lst.row ?_ fun j hj=>by rw [Nat.zero_add];exact hc.2.1 j hj
   rcases h.2 with ⟨h1,_⟩ | ⟨g2,c2,cur2,h1,_,_,h4,_⟩
   · cases h1
   · simp only [Value.slice.injEq,Option.some.injEq,Addr.mk.injEq,and_true,true_and] at h1
     rw [h1.2];exact h4
set_option maxHeartbeats 400000 in
theorem wide_up (n:Int) (w:World) (h:0≤n) (h1:n≤9223372036854775807) :
 Calls Tryz.prog 153 #[.int .i64 n] w fun e w'=>e=.returned (.agg #[.int .u64 (high64 n),.int .u64 (low64 n)])∧Below w.heap.size w w':=by
 go_enter Tryz.func153,Tryz.ntmps153
 go_wp2
 go_returns
 exact ⟨agg_eq (by unfold high64;omega) (by unfold low64;omega),by go_grown⟩
set_option maxHeartbeats 400000 in
theorem wide_down (n:Int) (w:World) (h:n < 0) (h1: -9223372036854775808≤n) :
 Calls Tryz.prog 153 #[.int .i64 n] w fun e w'=>e=.returned (.agg #[.int .u64 (high64 n),.int .u64 (low64 n)])∧Below w.heap.size w w':=by
 go_enter Tryz.func153,Tryz.ntmps153
 go_wp2
 go_returns
 exact ⟨agg_eq (by rw [IntKind.wrap_u64];unfold high64;omega) (by rw [IntKind.wrap_u64];unfold low64;omega),by go_grown⟩
theorem wide_any (n:Int) (h1: -9223372036854775808≤n) (h2:n≤9223372036854775807) (w:World) :
 Calls Tryz.prog 153 #[.int .i64 n] w fun e w'=>e=.returned (.agg #[.int .u64 (high64 n),.int .u64 (low64 n)])∧Below w.heap.size w w':=by
 by_cases h:0≤n
 · exact wide_up n w h h2
 · exact wide_down n w (by omega) h1
set_option maxHeartbeats 400000 in
theorem plus_raw (a b c d s cy t u:Int) (a1:0≤a) (b1:0≤b) (c1:0≤c) (d1:0≤d) (hs:(b+d+0)%18446744073709551616=s) (hcy:(b+d+0) / 18446744073709551616=cy) (cy0:0≤cy) (cy1:cy≤1)
 (ht:(a+c+cy)%18446744073709551616=t) (hu:(a+c+cy) / 18446744073709551616=u) (w:World) :
 Calls Tryz.prog 65 #[.agg #[.int .u64 a,.int .u64 b],.agg #[.int .u64 c,.int .u64 d]] w fun e w'=>e=.returned (.agg #[.int .u64 t,.int .u64 s])∧Below w.heap.size w w':=by
 have f1:=fun w=>callAdd b d 0 b1 d1 (by omega) (by omega) w
 rw [hs,hcy] at f1
 have f2:=fun w=>callAdd a c cy a1 c1 cy0 cy1 w
 rw [ht,hu] at f2
 clear hs hcy ht hu
 go_enter Tryz.func65,Tryz.ntmps65
 go_wp2
 go_returns
 exact ⟨rfl,by go_grown⟩
theorem plus_any (x y:Int) (w:World) :
 Calls Tryz.prog 65 #[.agg #[.int .u64 (high64 x),.int .u64 (low64 x)],.agg #[.int .u64 (high64 y),.int .u64 (low64 y)]] w fun e w'=>e=.returned (.agg #[.int .u64 (high64 (x+y)),.int .u64 (low64 (x+y))])∧Below w.heap.size w w':=by
 have hx:=low64_bd x;have hy:=low64_bd y;have kx:=high64_bd x;have ky:=high64_bd y
 refine plus_raw (high64 x) (low64 x) (high64 y) (low64 y) (low64 (x+y)) ((low64 x+low64 y+0) / 18446744073709551616) (high64 (x+y)) _ kx.1 hx.1 ky.1 hy.1 ?_ rfl (by omega) (by omega) ?_ rfl w
 · unfold low64;omega
 · unfold high64 low64;omega
theorem u64_not (a:Int) (a1:0≤a) (a2:a≤18446744073709551615):bits .xor .u64 IntKind.u64.max a=18446744073709551615 - a:=by
 obtain ⟨A,rfl⟩:=Int.eq_ofNat_of_zero_le a1
 have e:IntKind.u64.max=((18446744073709551615:Nat):Int):=rfl
 have h1:(BitVec.ofInt 64 (A:Int)).toNat=A:=ofInt_u64 A (by omega)
 have h2:BitVec.ofInt 64 ((18446744073709551615:Nat):Int)=BitVec.allOnes 64:=by decide
 show IntKind.u64.wrap ((BitVec.ofInt 64 IntKind.u64.max ^^^ BitVec.ofInt 64 (A:Int)).toNat:Int)=_
 rw [e,h2,BitVec.allOnes_xor,BitVec.toNat_not,h1,IntKind.wrap_u64]
 omega
set_option maxHeartbeats 400000 in
theorem turned_raw (a b m n s t:Int) (a1:bits .xor .u64 IntKind.u64.max a=m) (b1:bits .xor .u64 IntKind.u64.max b=n)
 (PL:∀ w,Calls Tryz.prog 65 #[.agg #[.int .u64 m,.int .u64 n],.agg #[.int .u64 0,.int .u64 1]] w fun e w'=>e=.returned (.agg #[.int .u64 s,.int .u64 t])∧Below w.heap.size w w') (w:World) :
 Calls Tryz.prog 39 #[.agg #[.int .u64 a,.int .u64 b]] w fun e w'=>e=.returned (.agg #[.int .u64 s,.int .u64 t])∧Below w.heap.size w w':=by
 replace PL:Hid _:=PL
 go_enter Tryz.func39,Tryz.ntmps39
 go_wp2_with fail
 refine (PL.out _).mono ?_
 rintro e w1 ⟨rfl,hb⟩
 have c0:w1.cell? ⟨w.heap.size+1,0,none⟩=some (.int .u64 0):=by rw [hb.cell (p:=⟨w.heap.size+1,0,none⟩) (by simp)];go_simp
 have c1:w1.cell? ⟨w.heap.size+1,1,none⟩=some (.int .u64 0):=by rw [hb.cell (p:=⟨w.heap.size+1,1,none⟩) (by simp)];go_simp
 have f0:w1.frozen? ⟨w.heap.size+1,0,none⟩=false:=by rw [hb.frozen (p:=⟨w.heap.size+1,0,none⟩) (by simp)];go_simp
 have f1:w1.frozen? ⟨w.heap.size+1,1,none⟩=false:=by rw [hb.frozen (p:=⟨w.heap.size+1,1,none⟩) (by simp)];go_simp
 obtain ⟨g0,g1⟩:=two_stores (u:=.int .u64 s) (v:=.int .u64 t) c0 c1
 go_wp2
 exact bodyPost_ret (v:=.agg #[.int .u64 s,.int .u64 t]) (by simp [results,Tryz.results39,go_sem,g0,g1]) rfl
  ⟨rfl,((((((Below.refl _ _).alloc (Nat.le_refl _) _).alloc (by simp) _).trans (hb.mono (by simp;omega))).setCell (by simp) _).setCell (by simp) _)⟩
theorem turned_any (x:Int) (w:World) :
 Calls Tryz.prog 39 #[.agg #[.int .u64 (high64 x),.int .u64 (low64 x)]] w fun e w'=>e=.returned (.agg #[.int .u64 (high64 (-x)),.int .u64 (low64 (-x))])∧Below w.heap.size w w':=by
 have hx:=low64_bd x;have kx:=high64_bd x
 refine turned_raw _ _ (18446744073709551615 - high64 x) (18446744073709551615 - low64 x) _ _ (u64_not _ kx.1 kx.2) (u64_not _ hx.1 hx.2) (fun w=>?_) w
 refine plus_raw _ _ 0 1 (low64 (-x)) ((18446744073709551615 - low64 x+1+0) / 18446744073709551616) (high64 (-x)) _ (by omega) (by omega) (by omega) (by omega) ?_ rfl (by omega) (by omega) ?_ rfl w
 · unfold low64;omega
 · unfold high64 low64;omega
set_option maxHeartbeats 400000 in
theorem small_yes (a b m:Int) (hm:wrap64 b=m) (m1: -9223372036854775808≤m) (m2:m≤9223372036854775807) (hp:high64 m=a) (hq:low64 m=b) (w:World) :
 Calls Tryz.prog 105 #[.agg #[.int .u64 a,.int .u64 b]] w fun e w'=>e=.returned (.tuple #[.int .i64 m,.bool true])∧Below w.heap.size w w':=by
 have WT:∀ w,Calls Tryz.prog 153 #[.int .i64 m] w fun e w'=>e=.returned (.agg #[.int .u64 a,.int .u64 b])∧Below w.heap.size w w':=by
  rw [← hp,← hq];exact wide_any m m1 m2
 replace WT:Hid _:=WT
 clear hp hq
 go_enter Tryz.func105,Tryz.ntmps105
 go_wp2_with fail
 go_region_with (go_at_call 153;refine (WT.out _).mono ?_;rintro e w1 ⟨rfl,hb⟩;have c0:w1.cell? ⟨w.heap.size,0,none⟩=some (.int .u64 a):=(by rw [hb.cell (p:=⟨w.heap.size,0,none⟩) (by simp)];go_simp);have c1:w1.cell? ⟨w.heap.size,1,none⟩=some (.int .u64 b):=(by rw [hb.cell (p:=⟨w.heap.size,1,none⟩) (by simp)];go_simp))
 all_goals
  go_wp2
  go_ret2
  refine ⟨rfl,?_⟩
 all_goals
  have hb':Below w.heap.size w w1:=((((Below.refl _ _).alloc (Nat.le_refl _) _).drew).trans (hb.mono (by simp)))
  first | exact hb' | exact hb'.drew
set_option maxHeartbeats 400000 in
theorem small_no (a b m p:Int) (hm:wrap64 b=m) (m1: -9223372036854775808≤m) (m2:m≤9223372036854775807) (hp:high64 m=p) (hq:low64 m=b) (hpa:¬ p=a) (w:World) :
 Calls Tryz.prog 105 #[.agg #[.int .u64 a,.int .u64 b]] w fun e w'=>e=.returned (.tuple #[.int .i64 0,.bool false])∧Below w.heap.size w w':=by
 have WT:∀ w,Calls Tryz.prog 153 #[.int .i64 m] w fun e w'=>e=.returned (.agg #[.int .u64 p,.int .u64 b])∧Below w.heap.size w w':=by
  rw [← hp,← hq];exact wide_any m m1 m2
 replace WT:Hid _:=WT
 clear hp hq
 go_enter Tryz.func105,Tryz.ntmps105
 go_wp2_with fail
 go_region_with (go_at_call 153;refine (WT.out _).mono ?_;rintro e w1 ⟨rfl,hb⟩;have c0:w1.cell? ⟨w.heap.size,0,none⟩=some (.int .u64 a):=(by rw [hb.cell (p:=⟨w.heap.size,0,none⟩) (by simp)];go_simp);have c1:w1.cell? ⟨w.heap.size,1,none⟩=some (.int .u64 b):=(by rw [hb.cell (p:=⟨w.heap.size,1,none⟩) (by simp)];go_simp))
 all_goals
  go_wp2
  go_ret2
  refine ⟨rfl,?_⟩
 all_goals
  have hb':Below w.heap.size w w1:=((((Below.refl _ _).alloc (Nat.le_refl _) _).drew).trans (hb.mono (by simp)))
  first | exact hb' | exact hb'.drew
theorem small_any (z:Int) (z1: -255211775190703847597530955573826158592≤z) (z2:z≤255211775190703847597530955573826158592) (w:World) :
 Calls Tryz.prog 105 #[.agg #[.int .u64 (high64 z),.int .u64 (low64 z)]] w fun e w'=>e=.returned (.tuple #[.int .i64 (kept z),.bool (fits z)])∧Below w.heap.size w w':=by
 have hw:wrap64 (low64 z)=wrap64 z:=by unfold wrap64 low64;omega
 have hl:low64 (wrap64 z)=low64 z:=by unfold wrap64 low64;omega
 have hb:=wrap_bd z
 by_cases h: -9223372036854775808≤z∧z≤9223372036854775807
 · rw [kept_mk (fits_mk h),fits_mk h]
   have e:=wrap_fits h
   rw [e] at hw hl hb
   exact small_yes _ _ z hw hb.1 hb.2 rfl rfl w
 · rw [kept_no (fits_no h),fits_no h]
   refine small_no _ _ (wrap64 z) _ hw hb.1 hb.2 rfl hl ?_ w
   intro e
   unfold high64 wrap64 at e
   omega
end Go.Proofs.YtbnlhdnnenahfaaGreatDoor
namespace Go.Proofs.YtbnlhdnnenahfaaGreatDoor
open Go.RowKit Go.Shelf
set_option maxHeartbeats 400000 in
theorem times_pp (a b s t:Int) (ha:¬ a < 0) (hb:¬ b < 0) (a2:a≤9223372036854775807) (b2:b≤9223372036854775807)
 (M:∀ w,Calls Tryz.prog 38 #[.int .u64 a,.int .u64 b] w fun e w'=>e=.returned (.tuple #[.int .u64 s,.int .u64 t])∧w'=w) (w:World) :
 Calls Tryz.prog 16 #[.int .i64 a,.int .i64 b] w fun e w'=>e=.returned (.agg #[.int .u64 s,.int .u64 t])∧Below w.heap.size w w':=by
 have ha':=df ha
 have hb':=df hb
 replace M:Hid _:=M
 go_enter Tryz.func16,Tryz.ntmps16
 go_wp2_with fail
 refine (M.out _).mono ?_
 rintro e w1 ⟨rfl,rfl⟩
 go_wp2
 go_returns
 exact ⟨rfl,by go_grown⟩
set_option maxHeartbeats 400000 in
theorem times_nn (a b x y p q s t:Int) (ha:a < 0) (hb:b < 0) (hx:IntKind.u64.wrap a=x) (hy:IntKind.u64.wrap b=y) (hp:IntKind.u64.wrap (-x)=p) (hq:IntKind.u64.wrap (-y)=q)
 (M:∀ w,Calls Tryz.prog 38 #[.int .u64 p,.int .u64 q] w fun e w'=>e=.returned (.tuple #[.int .u64 s,.int .u64 t])∧w'=w) (w:World) :
 Calls Tryz.prog 16 #[.int .i64 a,.int .i64 b] w fun e w'=>e=.returned (.agg #[.int .u64 s,.int .u64 t])∧Below w.heap.size w w':=by
 replace M:Hid _:=M
 go_enter Tryz.func16,Tryz.ntmps16
 go_wp2_with fail
 refine (M.out _).mono ?_
 rintro e w1 ⟨rfl,rfl⟩
 go_wp2
 go_returns
 exact ⟨rfl,by go_grown⟩
set_option maxHeartbeats 400000 in
theorem times_pn (a b y q s t u v:Int) (ha:¬ a < 0) (hb:b < 0) (a2:a≤9223372036854775807) (hy:IntKind.u64.wrap b=y) (hq:IntKind.u64.wrap (-y)=q)
 (M:∀ w,Calls Tryz.prog 38 #[.int .u64 a,.int .u64 q] w fun e w'=>e=.returned (.tuple #[.int .u64 s,.int .u64 t])∧w'=w)
 (TU:∀ w,Calls Tryz.prog 39 #[.agg #[.int .u64 s,.int .u64 t]] w fun e w'=>e=.returned (.agg #[.int .u64 u,.int .u64 v])∧Below w.heap.size w w') (w:World) :
 Calls Tryz.prog 16 #[.int .i64 a,.int .i64 b] w fun e w'=>e=.returned (.agg #[.int .u64 u,.int .u64 v])∧Below w.heap.size w w':=by
 have ha':=df ha
 replace M:Hid _:=M
 replace TU:Hid _:=TU
 go_enter Tryz.func16,Tryz.ntmps16
 go_wp2_with fail
 refine (M.out _).mono ?_
 rintro e w1 ⟨rfl,rfl⟩
 go_wp2_with fail
 refine (TU.out _).mono ?_
 rintro e w2 ⟨rfl,hb2⟩
 have c0:w2.cell? ⟨w.heap.size,0,none⟩=some (.int .u64 0):=by rw [hb2.cell (p:=⟨w.heap.size,0,none⟩) (by simp)];go_simp
 have c1:w2.cell? ⟨w.heap.size,1,none⟩=some (.int .u64 0):=by rw [hb2.cell (p:=⟨w.heap.size,1,none⟩) (by simp)];go_simp
 have f0:w2.frozen? ⟨w.heap.size,0,none⟩=false:=by rw [hb2.frozen (p:=⟨w.heap.size,0,none⟩) (by simp)];go_simp
 have f1:w2.frozen? ⟨w.heap.size,1,none⟩=false:=by rw [hb2.frozen (p:=⟨w.heap.size,1,none⟩) (by simp)];go_simp
 obtain ⟨g0,g1⟩:=two_stores (u:=.int .u64 u) (v:=.int .u64 v) c0 c1
 go_wp2
 exact bodyPost_ret (v:=.agg #[.int .u64 u,.int .u64 v]) (by simp [results,Tryz.results16,go_sem,g0,g1]) rfl
  ⟨rfl,(((((Below.refl _ _).alloc (Nat.le_refl _) _).trans (hb2.mono (by simp))).setCell (by simp) _).setCell (by simp) _)⟩
set_option maxHeartbeats 400000 in
theorem times_np (a b x p s t u v:Int) (ha:a < 0) (hb:¬ b < 0) (b2:b≤9223372036854775807) (hx:IntKind.u64.wrap a=x) (hp:IntKind.u64.wrap (-x)=p)
 (M:∀ w,Calls Tryz.prog 38 #[.int .u64 p,.int .u64 b] w fun e w'=>e=.returned (.tuple #[.int .u64 s,.int .u64 t])∧w'=w)
 (TU:∀ w,Calls Tryz.prog 39 #[.agg #[.int .u64 s,.int .u64 t]] w fun e w'=>e=.returned (.agg #[.int .u64 u,.int .u64 v])∧Below w.heap.size w w') (w:World) :
 Calls Tryz.prog 16 #[.int .i64 a,.int .i64 b] w fun e w'=>e=.returned (.agg #[.int .u64 u,.int .u64 v])∧Below w.heap.size w w':=by
 have hb':=df hb
 replace M:Hid _:=M
 replace TU:Hid _:=TU
 go_enter Tryz.func16,Tryz.ntmps16
 go_wp2_with fail
 refine (M.out _).mono ?_
 rintro e w1 ⟨rfl,rfl⟩
 go_wp2_with fail
 refine (TU.out _).mono ?_
 rintro e w2 ⟨rfl,hb2⟩
 have c0:w2.cell? ⟨w.heap.size,0,none⟩=some (.int .u64 0):=by rw [hb2.cell (p:=⟨w.heap.size,0,none⟩) (by simp)];go_simp
 have c1:w2.cell? ⟨w.heap.size,1,none⟩=some (.int .u64 0):=by rw [hb2.cell (p:=⟨w.heap.size,1,none⟩) (by simp)];go_simp
 have f0:w2.frozen? ⟨w.heap.size,0,none⟩=false:=by rw [hb2.frozen (p:=⟨w.heap.size,0,none⟩) (by simp)];go_simp
 have f1:w2.frozen? ⟨w.heap.size,1,none⟩=false:=by rw [hb2.frozen (p:=⟨w.heap.size,1,none⟩) (by simp)];go_simp
 obtain ⟨g0,g1⟩:=two_stores (u:=.int .u64 u) (v:=.int .u64 v) c0 c1
 go_wp2
 exact bodyPost_ret (v:=.agg #[.int .u64 u,.int .u64 v]) (by simp [results,Tryz.results16,go_sem,g0,g1]) rfl
  ⟨rfl,(((((Below.refl _ _).alloc (Nat.le_refl _) _).trans (hb2.mono (by simp))).setCell (by simp) _).setCell (by simp) _)⟩
theorem u64_of_neg (a:Int) (h:a < 0) (h1: -9223372036854775808≤a):IntKind.u64.wrap (-(IntKind.u64.wrap a))= -a:=by
 rw [IntKind.wrap_u64,IntKind.wrap_u64];omega
theorem times_any (a b:Int) (a1: -9223372036854775808≤a) (a2:a≤9223372036854775807) (b1: -9223372036854775808≤b) (b2:b≤9223372036854775807) (w:World) :
 Calls Tryz.prog 16 #[.int .i64 a,.int .i64 b] w fun e w'=>e=.returned (.agg #[.int .u64 (high64 (a*b)),.int .u64 (low64 (a*b))])∧Below w.heap.size w w':=by
 by_cases ha:a < 0
 · by_cases hb:b < 0
   · have e:a*b=(-a)*(-b):=by rw [Int.neg_mul_neg]
     rw [e]
     exact times_nn a b _ _ _ _ _ _ ha hb rfl rfl (u64_of_neg a ha a1) (u64_of_neg b hb b1) (mul64_any (-a) (-b) (by omega) (by omega) (by omega) (by omega)) w
   · have e:a*b= -((-a)*b):=by rw [Int.neg_mul,Int.neg_neg]
     rw [e]
     exact times_np a b _ _ _ _ _ _ ha hb b2 rfl (u64_of_neg a ha a1) (mul64_any (-a) b (by omega) (by omega) (by omega) (by omega)) (turned_any _) w
 · by_cases hb:b < 0
   · have e:a*b= -(a*(-b)):=by rw [Int.mul_neg,Int.neg_neg]
     rw [e]
     exact times_pn a b _ _ _ _ _ _ ha hb a2 rfl (u64_of_neg b hb b1) (mul64_any a (-b) (by omega) (by omega) (by omega) (by omega)) (turned_any _) w
   · exact times_pp a b _ _ ha hb a2 b2 (mul64_any a b (by omega) (by omega) (by omega) (by omega)) w
end Go.Proofs.YtbnlhdnnenahfaaGreatDoor
namespace Go.Proofs.YtbnlhdnnenahfaaGreatDoor
open Go.RowKit
set_option maxHeartbeats 400000 in
theorem two_raw_yes (hx lx hy ly x y:Int) 
 (S1:∀ w,Calls Tryz.prog 105 #[.agg #[.int .u64 hx,.int .u64 lx]] w fun e w'=>e=.returned (.tuple #[.int .i64 x,.bool true])∧Below w.heap.size w w')
 (S2:∀ w,Calls Tryz.prog 105 #[.agg #[.int .u64 hy,.int .u64 ly]] w fun e w'=>e=.returned (.tuple #[.int .i64 y,.bool true])∧Below w.heap.size w w') (w:World) :
 Calls Tryz.prog 64 #[.agg #[.int .u64 hx,.int .u64 lx],.agg #[.int .u64 hy,.int .u64 ly]] w fun e w'=>e=.returned (.tuple #[.agg #[.int .i64 x,.int .i64 y],.bool true])∧Below w.heap.size w w':=by
 replace S1:Hid _:=S1
 replace S2:Hid _:=S2
 go_enter Tryz.func64,Tryz.ntmps64
 go_wp2_with fail
 refine (S1.out _).mono ?_
 rintro e w1 ⟨rfl,c1⟩
 obtain ⟨hc1,hf1⟩:=bcell c1
 have z1:w.heap.size+1+1 < w1.heap.size:=by have:=c1.size;simp at this;omega
 go_wp2_with fail
 refine (S2.out _).mono ?_
 rintro e w2 ⟨rfl,c2⟩
 obtain ⟨hc2,hf2⟩:=bcell c2
 have z2:w.heap.size+1+1 < w2.heap.size:=by have:=c2.size;omega
 have e0:w2.cell? ⟨w.heap.size+1+1,0,none⟩=some (.int .i64 0):=by rw [hc2 _ _ z1,hc1 _ _ (by simp)];go_simp
 have e1:w2.cell? ⟨w.heap.size+1+1,1,none⟩=some (.int .i64 0):=by rw [hc2 _ _ z1,hc1 _ _ (by simp)];go_simp
 obtain ⟨g0,g1⟩:=two_stores (u:=.int .i64 x) (v:=.int .i64 y) e0 e1
 go_wp2
 have hb:Below w.heap.size w w2:=((((Below.refl _ _).alloc (Nat.le_refl _) _).alloc (by simp) _).alloc (by simp;omega) _).trans ((c1.mono (by simp;omega)).trans (c2.mono (by omega)))
 exact bodyPost_ret (v:=.tuple #[.agg #[.int .i64 x,.int .i64 y],.bool true]) (by simp [results,Tryz.results64,go_sem,g0,g1]) rfl
  ⟨rfl,(hb.setCell (by simp;omega) _).setCell (by simp;omega) _⟩
theorem two_yes (x y:Int) (hx:fits x=true) (hy:fits y=true) (w:World) :
 Calls Tryz.prog 64 #[.agg #[.int .u64 (high64 x),.int .u64 (low64 x)],.agg #[.int .u64 (high64 y),.int .u64 (low64 y)]] w fun e w'=>e=.returned (.tuple #[.agg #[.int .i64 x,.int .i64 y],.bool true])∧Below w.heap.size w w':=by
 have bx:=fits_of hx
 have hb:=fits_of hy
 refine two_raw_yes _ _ _ _ x y (fun w=>?_) (fun w=>?_) w
 · have:=small_any x (by omega) (by omega) w
   rw [kept_mk hx,hx] at this
   exact this
 · have:=small_any y (by omega) (by omega) w
   rw [kept_mk hy,hy] at this
   exact this
set_option maxHeartbeats 400000 in
theorem refunit_0 (k r:Int) (hr:k.tmod 6=r) (r1: -5≤r) (r2:r≤5) (hj:(r+6)%6=0) (w:World) :
 Calls Tryz.prog 36 #[.int .i64 k] w fun e w'=>e=.returned (.agg #[.int .i64 (1),.int .i64 (0)])∧Below w.heap.size w w':=by
 go_enter Tryz.func36,Tryz.ntmps36
 go_wp2
 go_returns
 exact ⟨rfl,by go_grown⟩
set_option maxHeartbeats 400000 in
theorem refunit_1 (k r:Int) (hr:k.tmod 6=r) (r1: -5≤r) (r2:r≤5) (hj:(r+6)%6=1) (w:World) :
 Calls Tryz.prog 36 #[.int .i64 k] w fun e w'=>e=.returned (.agg #[.int .i64 (0),.int .i64 (1)])∧Below w.heap.size w w':=by
 go_enter Tryz.func36,Tryz.ntmps36
 go_wp2
 go_returns
 exact ⟨rfl,by go_grown⟩
set_option maxHeartbeats 400000 in
theorem refunit_2 (k r:Int) (hr:k.tmod 6=r) (r1: -5≤r) (r2:r≤5) (hj:(r+6)%6=2) (w:World) :
 Calls Tryz.prog 36 #[.int .i64 k] w fun e w'=>e=.returned (.agg #[.int .i64 (-1),.int .i64 (1)])∧Below w.heap.size w w':=by
 go_enter Tryz.func36,Tryz.ntmps36
 go_wp2
 go_returns
 exact ⟨rfl,by go_grown⟩
set_option maxHeartbeats 400000 in
theorem refunit_3 (k r:Int) (hr:k.tmod 6=r) (r1: -5≤r) (r2:r≤5) (hj:(r+6)%6=3) (w:World) :
 Calls Tryz.prog 36 #[.int .i64 k] w fun e w'=>e=.returned (.agg #[.int .i64 (-1),.int .i64 (0)])∧Below w.heap.size w w':=by
 go_enter Tryz.func36,Tryz.ntmps36
 go_wp2
 go_returns
 exact ⟨rfl,by go_grown⟩
set_option maxHeartbeats 400000 in
theorem refunit_4 (k r:Int) (hr:k.tmod 6=r) (r1: -5≤r) (r2:r≤5) (hj:(r+6)%6=4) (w:World) :
 Calls Tryz.prog 36 #[.int .i64 k] w fun e w'=>e=.returned (.agg #[.int .i64 (0),.int .i64 (-1)])∧Below w.heap.size w w':=by
 go_enter Tryz.func36,Tryz.ntmps36
 go_wp2
 go_returns
 exact ⟨rfl,by go_grown⟩
set_option maxHeartbeats 400000 in
theorem refunit_5 (k r:Int) (hr:k.tmod 6=r) (r1: -5≤r) (r2:r≤5) (hj:(r+6)%6=5) (w:World) :
 Calls Tryz.prog 36 #[.int .i64 k] w fun e w'=>e=.returned (.agg #[.int .i64 (1),.int .i64 (-1)])∧Below w.heap.size w w':=by
 go_enter Tryz.func36,Tryz.ntmps36
 go_wp2
 go_returns
 exact ⟨rfl,by go_grown⟩
theorem tmod6 (k:Int):∃ r,k.tmod 6=r∧-5≤r∧r≤5∧(r+6)%6=k%6:=by
 have e:=Int.mul_tdiv_add_tmod k 6
 have h:(k.tmod 6).natAbs=k.natAbs%6:=Int.natAbs_tmod k 6
 exact ⟨_,rfl,by omega,by omega,by omega⟩
theorem refunit_any (k:Int) (w:World) :
 Calls Tryz.prog 36 #[.int .i64 k] w fun e w'=>e=.returned (.agg #[.int .i64 (unitA (k%6)),.int .i64 (unitB (k%6))])∧Below w.heap.size w w':=by
 obtain ⟨r,h1,h2,h3,h4⟩:=tmod6 k
 have hc:k%6=0∨k%6=1∨k%6=2∨k%6=3∨k%6=4∨k%6=5:=by omega
 rcases hc with hc | hc | hc | hc | hc | hc
 · rw [hc];exact refunit_0 k r h1 h2 h3 (by omega) w
 · rw [hc];exact refunit_1 k r h1 h2 h3 (by omega) w
 · rw [hc];exact refunit_2 k r h1 h2 h3 (by omega) w
 · rw [hc];exact refunit_3 k r h1 h2 h3 (by omega) w
 · rw [hc];exact refunit_4 k r h1 h2 h3 (by omega) w
 · rw [hc];exact refunit_5 k r h1 h2 h3 (by omega) w
theorem keepHeld {w0 a b:World} {p0 p1 p2 p3 p4 p5 p6 p7:Addr} {v0 v1 v2 v3 v6 v7:Value} (hb:Below a.heap.size a b)
 (h:a.cell? p0=some v0∧a.cell? p1=some v1∧a.cell? p2=some v2∧a.cell? p3=some v3∧a.cell? p4=some (.int .i64 (slotInt a p4))∧a.cell? p5=some (.int .i64 (slotInt a p5))∧a.cell? p6=some v6∧a.cell? p7=some v7∧a.frozen? p4=false∧a.frozen? p5=false∧Below w0.heap.size w0 a) :
 b.cell? p0=some v0∧b.cell? p1=some v1∧b.cell? p2=some v2∧b.cell? p3=some v3∧b.cell? p4=some (.int .i64 (slotInt b p4))∧b.cell? p5=some (.int .i64 (slotInt b p5))∧b.cell? p6=some v6∧b.cell? p7=some v7∧b.frozen? p4=false∧b.frozen? p5=false∧Below w0.heap.size w0 b:=by
 obtain ⟨h0,h1,h2,h3,h4,h5,h6,h7,f4,f5,hw⟩:=h
 exact ⟨keepCell hb h0,keepCell hb h1,keepCell hb h2,keepCell hb h3,slot_of (keepCell hb h4),slot_of (keepCell hb h5),keepCell hb h6,keepCell hb h7,keepFrozen hb h4 f4,keepFrozen hb h5 f5,belowT hw hb⟩
theorem keepStore {w0 a:World} {p0 p1 p2 p3 p4 p5 p6 p7:Addr} {v0 v1 v2 v3 v6 v7:Value} {x y:Int} (n0:p0.block≠p4.block) (n1:p1.block≠p4.block) (n2:p2.block≠p4.block) (n3:p3.block≠p4.block) (n6:p6.block≠p4.block) (n7:p7.block≠p4.block) (e5:p5.block=p4.block) (ne:p4≠p5) (hB:w0.heap.size≤p4.block)
 (h:a.cell? p0=some v0∧a.cell? p1=some v1∧a.cell? p2=some v2∧a.cell? p3=some v3∧a.cell? p4=some (.int .i64 (slotInt a p4))∧a.cell? p5=some (.int .i64 (slotInt a p5))∧a.cell? p6=some v6∧a.cell? p7=some v7∧a.frozen? p4=false∧a.frozen? p5=false∧Below w0.heap.size w0 a) :
 ((a.setCell p4 (.int .i64 x)).setCell p5 (.int .i64 y)).cell? p0=some v0∧((a.setCell p4 (.int .i64 x)).setCell p5 (.int .i64 y)).cell? p1=some v1∧((a.setCell p4 (.int .i64 x)).setCell p5 (.int .i64 y)).cell? p2=some v2∧((a.setCell p4 (.int .i64 x)).setCell p5 (.int .i64 y)).cell? p3=some v3∧((a.setCell p4 (.int .i64 x)).setCell p5 (.int .i64 y)).cell? p4=some (.int .i64 (slotInt ((a.setCell p4 (.int .i64 x)).setCell p5 (.int .i64 y)) p4))∧((a.setCell p4 (.int .i64 x)).setCell p5 (.int .i64 y)).cell? p5=some (.int .i64 (slotInt ((a.setCell p4 (.int .i64 x)).setCell p5 (.int .i64 y)) p5))∧((a.setCell p4 (.int .i64 x)).setCell p5 (.int .i64 y)).cell? p6=some v6∧((a.setCell p4 (.int .i64 x)).setCell p5 (.int .i64 y)).cell? p7=some v7∧((a.setCell p4 (.int .i64 x)).setCell p5 (.int .i64 y)).frozen? p4=false∧((a.setCell p4 (.int .i64 x)).setCell p5 (.int .i64 y)).frozen? p5=false∧Below w0.heap.size w0 ((a.setCell p4 (.int .i64 x)).setCell p5 (.int .i64 y)):=by
 obtain ⟨h0,h1,h2,h3,h4,h5,h6,h7,f4,f5,hw⟩:=h
 have far:∀ p:Addr,p.block≠p4.block→((a.setCell p4 (.int .i64 x)).setCell p5 (.int .i64 y)).cell? p=a.cell? p:=by
  intro p hp
  rw [World.cell?_setCell_other _ _ _ _ (by intro e;subst e;exact hp e5),World.cell?_setCell_other _ _ _ _ (by intro e;subst e;exact hp rfl)]
 have s5:(a.setCell p4 (.int .i64 x)).cell? p5=some (.int .i64 (slotInt a p5)):=(World.cell?_setCell_other _ _ _ _ ne).trans h5
 have g4:((a.setCell p4 (.int .i64 x)).setCell p5 (.int .i64 y)).cell? p4=some (.int .i64 x):=(World.cell?_setCell_other _ _ _ _ (Ne.symm ne)).trans (World.cell?_setCell_same _ _ _ h4)
 have g5:((a.setCell p4 (.int .i64 x)).setCell p5 (.int .i64 y)).cell? p5=some (.int .i64 y):=World.cell?_setCell_same _ _ _ s5
 refine ⟨(far _ n0).trans h0,(far _ n1).trans h1,(far _ n2).trans h2,(far _ n3).trans h3,slot_of g4,slot_of g5,(far _ n6).trans h6,(far _ n7).trans h7,?_,?_,(hw.setCell hB _).setCell (by rw [e5];exact hB) _⟩
 · simp [f4]
 · simp [f5]
set_option maxHeartbeats 4000000 in
theorem refmul_raw (a b c d x y:Int) (ok:Bool) (a1: -9223372036854775808≤a) (a2:a≤9223372036854775807) (b1: -9223372036854775808≤b) (b2:b≤9223372036854775807) (k1: -9223372036854775808≤c) (k2:c≤9223372036854775807) (d1: -9223372036854775808≤d) (d2:d≤9223372036854775807)
 (T:∀ w,Calls Tryz.prog 64 #[.agg #[.int .u64 (high64 (mulA a b c d)),.int .u64 (low64 (mulA a b c d))],.agg #[.int .u64 (high64 (mulB a b c d)),.int .u64 (low64 (mulB a b c d))]] w fun e w'=>e=.returned (.tuple #[.agg #[.int .i64 x,.int .i64 y],.bool ok])∧Below w.heap.size w w') (w:World) :
 Calls Tryz.prog 35 #[.agg #[.int .i64 a,.int .i64 b],.agg #[.int .i64 c,.int .i64 d]] w fun e w'=>e=.returned (.tuple #[.agg #[.int .i64 x,.int .i64 y],.bool ok])∧Below w.heap.size w w':=by
 have TD:Hid (∀ w,Calls Tryz.prog 64 #[.agg #[.int .u64 (high64 (a*c+-(b*d))),.int .u64 (low64 (a*c+-(b*d)))],.agg #[.int .u64 (high64 (a*d+b*c+b*d)),.int .u64 (low64 (a*d+b*c+b*d))]] w fun e w'=>e=.returned (.tuple #[.agg #[.int .i64 x,.int .i64 y],.bool ok])∧Below w.heap.size w w'):=T
 clear T
 go_enter Tryz.func35,Tryz.ntmps35
 go_wp2_with fail
 refine (times_any b d b1 b2 d1 d2 _).mono ?_
 rintro e w1 ⟨rfl,c1⟩
 obtain ⟨hc,hf⟩:=bcell c1
 have z1:w.heap.size+1+1 < w1.heap.size:=by have:=c1.size;simp at this;omega
 have hbw:Below w.heap.size w (w1.alloc (.cells #[.int .u64 (high64 (b*d)),.int .u64 (low64 (b*d))] 45)).drew :=
  ((((((Below.refl _ _).alloc (Nat.le_refl _) _).alloc (by simp) _).alloc (by simp;omega) _).trans (c1.mono (by simp;omega))).alloc (by omega) _).drew
 have hx:Below w1.heap.size w1 (w1.alloc (.cells #[.int .u64 (high64 (b*d)),.int .u64 (low64 (b*d))] 45)).drew:=((Below.refl _ _).alloc (Nat.le_refl _) _).drew
 have k0':w1.cell? ⟨w.heap.size,0,none⟩=some (.int .i64 a):=by rw [hc _ _ (by simp;try omega)];go_simp
 have s0:(w1.alloc (.cells #[.int .u64 (high64 (b*d)),.int .u64 (low64 (b*d))] 45)).drew.cell? ⟨w.heap.size,0,none⟩=some (.int .i64 a):=keepCell hx k0'
 have k1':w1.cell? ⟨w.heap.size,1,none⟩=some (.int .i64 b):=by rw [hc _ _ (by simp;try omega)];go_simp
 have s1:(w1.alloc (.cells #[.int .u64 (high64 (b*d)),.int .u64 (low64 (b*d))] 45)).drew.cell? ⟨w.heap.size,1,none⟩=some (.int .i64 b):=keepCell hx k1'
 have k2':w1.cell? ⟨w.heap.size+1,0,none⟩=some (.int .i64 c):=by rw [hc _ _ (by simp;try omega)];go_simp
 have s2:(w1.alloc (.cells #[.int .u64 (high64 (b*d)),.int .u64 (low64 (b*d))] 45)).drew.cell? ⟨w.heap.size+1,0,none⟩=some (.int .i64 c):=keepCell hx k2'
 have k3':w1.cell? ⟨w.heap.size+1,1,none⟩=some (.int .i64 d):=by rw [hc _ _ (by simp;try omega)];go_simp
 have s3:(w1.alloc (.cells #[.int .u64 (high64 (b*d)),.int .u64 (low64 (b*d))] 45)).drew.cell? ⟨w.heap.size+1,1,none⟩=some (.int .i64 d):=keepCell hx k3'
 have k4':w1.cell? ⟨w.heap.size+1+1,0,none⟩=some (.int .i64 0):=by rw [hc _ _ (by simp;try omega)];go_simp
 have s4:(w1.alloc (.cells #[.int .u64 (high64 (b*d)),.int .u64 (low64 (b*d))] 45)).drew.cell? ⟨w.heap.size+1+1,0,none⟩=some (.int .i64 0):=keepCell hx k4'
 have k5':w1.cell? ⟨w.heap.size+1+1,1,none⟩=some (.int .i64 0):=by rw [hc _ _ (by simp;try omega)];go_simp
 have s5:(w1.alloc (.cells #[.int .u64 (high64 (b*d)),.int .u64 (low64 (b*d))] 45)).drew.cell? ⟨w.heap.size+1+1,1,none⟩=some (.int .i64 0):=keepCell hx k5'
 have f4':w1.frozen? ⟨w.heap.size+1+1,0,none⟩=false:=by rw [hf _ _ (by simp;try omega)];go_simp
 have f4:(w1.alloc (.cells #[.int .u64 (high64 (b*d)),.int .u64 (low64 (b*d))] 45)).drew.frozen? ⟨w.heap.size+1+1,0,none⟩=false:=keepFrozen hx k4' f4'
 have f5':w1.frozen? ⟨w.heap.size+1+1,1,none⟩=false:=by rw [hf _ _ (by simp;try omega)];go_simp
 have f5:(w1.alloc (.cells #[.int .u64 (high64 (b*d)),.int .u64 (low64 (b*d))] 45)).drew.frozen? ⟨w.heap.size+1+1,1,none⟩=false:=keepFrozen hx k5' f5'
 have s6:(w1.alloc (.cells #[.int .u64 (high64 (b*d)),.int .u64 (low64 (b*d))] 45)).drew.cell? ⟨w1.heap.size,0,none⟩=some (.int .u64 (high64 (b*d))):=by go_simp
 have s7:(w1.alloc (.cells #[.int .u64 (high64 (b*d)),.int .u64 (low64 (b*d))] 45)).drew.cell? ⟨w1.heap.size,1,none⟩=some (.int .u64 (low64 (b*d))):=by go_simp
 clear k0' k1' k2' k3' k4' k5' f4' f5' hc hf hx
 go_wp2_with fail
 go_region_held3 (fun w'=>w'.cell? ⟨w.heap.size,0,none⟩=some (.int .i64 a)∧w'.cell? ⟨w.heap.size,1,none⟩=some (.int .i64 b)∧w'.cell? ⟨w.heap.size+1,0,none⟩=some (.int .i64 c)∧w'.cell? ⟨w.heap.size+1,1,none⟩=some (.int .i64 d)∧w'.cell? ⟨w.heap.size+1+1,0,none⟩=some (.int .i64 (slotInt w' ⟨w.heap.size+1+1,0,none⟩))∧w'.cell? ⟨w.heap.size+1+1,1,none⟩=some (.int .i64 (slotInt w' ⟨w.heap.size+1+1,1,none⟩))∧w'.cell? ⟨w1.heap.size,0,none⟩=some (.int .u64 (high64 (b*d)))∧w'.cell? ⟨w1.heap.size,1,none⟩=some (.int .u64 (low64 (b*d)))∧w'.frozen? ⟨w.heap.size+1+1,0,none⟩=false∧w'.frozen? ⟨w.heap.size+1+1,1,none⟩=false∧Below w.heap.size w w') (first | exact ⟨s0,s1,s2,s3,slot_of s4,slot_of s5,s6,s7,f4,f5,hbw⟩ | exact keepHeld hb (by assumption) | exact keepStore (by simp;try omega) (by simp;try omega) (by simp;try omega) (by simp;try omega) (by simp;try omega) (by simp;try omega) rfl (by simp) (by simp;try omega) (by assumption))
  (first | (go_at_call 39;refine (turned_any (b*d) _).mono ?_;rintro e w' ⟨rfl,hb⟩) | (go_at_call 64;refine (TD.out _).mono ?_;rintro e w' ⟨rfl,hb⟩) | (go_at_call 16;refine (times_any _ _ (by assumption) (by assumption) (by assumption) (by assumption) _).mono ?_;rintro e w' ⟨rfl,hb⟩) | (go_at_call 65;refine (plus_any _ _ _).mono ?_;rintro e w' ⟨rfl,hb⟩))
 go_wp2
 rename_i wA bA wB bB wC bC wD bD wE bE wF bF wG bG hS
 obtain ⟨g0,g1⟩:=two_stores (u:=.int .i64 x) (v:=.int .i64 y) (keepCell hb (keepCell bG (keepCell bF (keepCell bE (keepCell bD (keepCell bC (keepCell bB (keepCell bA s4)))))))) (keepCell hb (keepCell bG (keepCell bF (keepCell bE (keepCell bD (keepCell bC (keepCell bB (keepCell bA s5))))))))
 exact bodyPost_ret (v:=.tuple #[.agg #[.int .i64 x,.int .i64 y],.bool ok]) (by simp [results,Tryz.results35,go_sem,g0,g1]) rfl ⟨rfl,hS.2.2.2.2.2.2.2.2.2.2⟩
theorem refmul_yes (a b c d:Int) (a1: -9223372036854775808≤a) (a2:a≤9223372036854775807) (b1: -9223372036854775808≤b) (b2:b≤9223372036854775807) (k1: -9223372036854775808≤c) (k2:c≤9223372036854775807) (d1: -9223372036854775808≤d) (d2:d≤9223372036854775807)
 (hx:fits (mulA a b c d)=true) (hy:fits (mulB a b c d)=true) (w:World) :
 Calls Tryz.prog 35 #[.agg #[.int .i64 a,.int .i64 b],.agg #[.int .i64 c,.int .i64 d]] w fun e w'=>e=.returned (.tuple #[.agg #[.int .i64 (mulA a b c d),.int .i64 (mulB a b c d)],.bool true])∧Below w.heap.size w w' :=
 refmul_raw a b c d _ _ _ a1 a2 b1 b2 k1 k2 d1 d2 (two_yes _ _ hx hy) w
set_option maxHeartbeats 1000000 in
theorem refbeta_yes (K:Nat) (hK:K≤20) (w:World) :
 Calls Tryz.prog 37 #[.int .i64 (K:Int)] w fun e w'=>e=.returned (.tuple #[.agg #[.int .i64 (bet K).1,.int .i64 (bet K).2],.bool true])∧Below w.heap.size w w':=by
 go_enter Tryz.func37,Tryz.ntmps37
 go_wp2_with fail
 go_loopw [5] (fun vi wr=>∃ q:Nat,q≤K∧vi=.int .i64 (q:Int)∧Hid (BetAt w q wr)) (fun vi _=>K - (intOf vi).toNat)
 case atStart =>
  refine ⟨0,Nat.zero_le _,rfl,?_⟩
  show BetAt w 0 _
  exact ⟨by go_simp;rfl,by go_simp;rfl,by go_simp,by go_simp,by go_simp,by go_simp,by go_simp,by go_simp,by go_grown⟩
 case round =>
  obtain ⟨q,hq,rfl,HB⟩:=hrel
  obtain ⟨z0,z1,fz0,fz1,s0,s1,fs0,fs1,hb⟩:=HB.out
  clear HB
  have hz:w.heap.size+1 < wr.heap.size:=World.block_lt_of_cell? _ _ z0
  by_cases hlt:q < K
  · obtain ⟨b1,b2,b3,b4⟩:=bet_box q (by omega)
    obtain ⟨n1,n2,n3,n4⟩:=bet_box (q+1) (by omega)
    have HM:Hid (∀ w,Calls Tryz.prog 35 #[.agg #[.int .i64 (bet q).1,.int .i64 (bet q).2],.agg #[.int .i64 2,.int .i64 1]] w fun e w'=>e=.returned (.tuple #[.agg #[.int .i64 (bet (q+1)).1,.int .i64 (bet (q+1)).2],.bool true])∧Below w.heap.size w w') :=
     refmul_yes (bet q).1 (bet q).2 2 1 (by omega) (by omega) (by omega) (by omega) (by omega) (by omega) (by omega) (by omega) (fits_mk ⟨by show _≤(bet (q+1)).1;omega,by show (bet (q+1)).1≤_;omega⟩) (fits_mk ⟨by show _≤(bet (q+1)).2;omega,by show (bet (q+1)).2≤_;omega⟩)
    clear b1 b2 b3 b4 n1 n2 n3 n4
    obtain ⟨X,hX⟩:∃ X,(bet q).1=X:=⟨_,rfl⟩
    obtain ⟨Y,hY⟩:∃ Y,(bet q).2=Y:=⟨_,rfl⟩
    obtain ⟨U,hU⟩:∃ U,(bet (q+1)).1=U:=⟨_,rfl⟩
    obtain ⟨V,hV⟩:∃ V,(bet (q+1)).2=V:=⟨_,rfl⟩
    rw [hX,hY,hU,hV] at HM
    rw [hX] at z0
    rw [hY] at z1
    have HU:Hid ((bet (q+1)).1=U):=hU
    have HV:Hid ((bet (q+1)).2=V):=hV
    clear hX hY hU hV
    go_wp2_with fail
    refine (HM.out _).mono ?_
    rintro e w2 ⟨rfl,c2⟩
    have k0:=keepCell c2 z0
    have k1:=keepCell c2 z1
    have g0:=keepFrozen c2 z0 fz0
    have g1:=keepFrozen c2 z1 fz1
    have r0:=keepCell c2 s0
    have r1:=keepCell c2 s1
    have t0:=keepFrozen c2 s0 fs0
    have t1:=keepFrozen c2 s1 fs1
    have hb2:=belowT hb c2
    clear z0 z1 fz0 fz1 s0 s1 fs0 fs1 hb c2
    obtain ⟨y0,y1⟩:=two_stores (u:=.int .i64 U) (v:=.int .i64 V) k0 k1
    go_wp2
    go_roundw
    case rel =>
     refine ⟨q+1,by omega,by go_num,?_⟩
     show BetAt w (q+1) _
     unfold BetAt
     rw [HU.out,HV.out]
     refine ⟨y0,y1,by simp [g0],by simp [g1],?_,?_,by simp [t0],by simp [t1],(hb2.setCell (by simp) _).setCell (by simp) _⟩
     · rw [World.cell?_setCell_other _ _ _ _ (by simp),World.cell?_setCell_other _ _ _ _ (by simp)];exact r0
     · rw [World.cell?_setCell_other _ _ _ _ (by simp),World.cell?_setCell_other _ _ _ _ (by simp)];exact r1
    case measure=>simp [intOf];omega
  · obtain rfl:q=K:=by omega
    obtain ⟨X,hX⟩:∃ X,(bet q).1=X:=⟨_,rfl⟩
    obtain ⟨Y,hY⟩:∃ Y,(bet q).2=Y:=⟨_,rfl⟩
    rw [hX] at z0
    rw [hY] at z1
    have HX:Hid ((bet q).1=X):=hX
    have HY:Hid ((bet q).2=Y):=hY
    clear hX hY
    obtain ⟨y0,y1⟩:=two_stores (u:=.int .i64 X) (v:=.int .i64 Y) s0 s1
    go_wp2
    exact bodyPost_ret (v:=.tuple #[.agg #[.int .i64 X,.int .i64 Y],.bool true]) (by simp [results,Tryz.results37,go_sem,y0,y1]) rfl ⟨by rw [HX.out,HY.out],(hb.setCell (by simp) _).setCell (by simp) _⟩
theorem part_unit {d:Int} (h0:0 < d) (h6:d≤6):unitA (d - 1)=ptA d∧unitB (d - 1)=ptB d:=by
 rcases (show d=1∨d=2∨d=3∨d=4∨d=5∨d=6 by omega) with rfl | rfl | rfl | rfl | rfl | rfl <;>decide
def TellsWC (v:Int) (e:Ending):Prop :=
 (Whole v∧e=.returned (.tuple #[.agg #[.int .i64 (wR v),.int .i64 (cellA v),.int .i64 (cellB v)],.int .i64 0]))∨(¬ Whole v∧e=.returned (.tuple #[.agg #[.int .i64 0,.int .i64 0,.int .i64 0],.int .i64 5]))
set_option maxHeartbeats 2000000 in
theorem rwcell_bad1 (v:Int) (hv:U64 v) (h:¬ v / 1152921504606846976=1) (w:World) :
 Calls Tryz.prog 14 #[.int .u64 v] w fun e w'=>TellsWC v e∧Below w.heap.size w w':=by
 have hn:¬ Whole v:=fun hw=>h hw.1
 have hm:((v / 1152921504606846976) != 1)=true:=by simpa using h
 have e15:bits .and .u64 (v / 72057594037927936) 15=wR v:=umask4 _ (u64_div hv (by omega))
 have hb:=wR_box v
 have T:Hid (∀ e,e=.returned (.tuple #[.agg #[.int .i64 0,.int .i64 0,.int .i64 0],.int .i64 5])→TellsWC v e):=fun e he=>.inr ⟨hn,he⟩
 generalize wR v=R at *
 clear hn h
 go_enter Tryz.func14,Tryz.ntmps14
 go_wp2
 exact bodyPost_ret (v:=.tuple #[.agg #[.int .i64 0,.int .i64 0,.int .i64 0],.int .i64 5]) (by simp [results,Tryz.results14,go_sem]) rfl ⟨T.out _ rfl,by go_grown⟩
set_option maxHeartbeats 2000000 in
theorem rwcell_bad2 (v:Int) (hv:U64 v) (h:v / 1152921504606846976=1) (h2:12 < wR v) (w:World) :
 Calls Tryz.prog 14 #[.int .u64 v] w fun e w'=>TellsWC v e∧Below w.heap.size w w':=by
 have hn:¬ Whole v:=fun hw=>by have:=hw.2.1;omega
 have e15:bits .and .u64 (v / 72057594037927936) 15=wR v:=umask4 _ (u64_div hv (by omega))
 have hb:=wR_box v
 have T:Hid (∀ e,e=.returned (.tuple #[.agg #[.int .i64 0,.int .i64 0,.int .i64 0],.int .i64 5])→TellsWC v e):=fun e he=>.inr ⟨hn,he⟩
 generalize wR v=R at *
 clear hn
 go_enter Tryz.func14,Tryz.ntmps14
 go_wp2
 exact bodyPost_ret (v:=.tuple #[.agg #[.int .i64 0,.int .i64 0,.int .i64 0],.int .i64 5]) (by simp [results,Tryz.results14,go_sem]) rfl ⟨T.out _ rfl,by go_grown⟩
set_option maxHeartbeats 16000000 in
set_option maxRecDepth 20000 in
theorem rwcell_core (v:Int) (hv:U64 v) (h:v / 1152921504606846976=1) (n:Nat) (hn:wR v=(n:Int)) (h12:n≤12) (w:World) :
 Calls Tryz.prog 14 #[.int .u64 v] w fun e w'=>TellsWC v e∧Below w.heap.size w w':=by
 have e15:bits .and .u64 (v / 72057594037927936) 15=(n:Int):=by rw [umask4 _ (u64_div hv (by omega))];exact hn
 have hAB:=wAB_box v
 have e46:bits .and .u64 (v / 70368744177664) 1023=wA v+512:=by rw [umask10 _ (u64_div hv (by omega))];unfold wA;omega
 have e36:bits .and .u64 (v / 68719476736) 1023=wB v+512:=by rw [umask10 _ (u64_div hv (by omega))];unfold wB;omega
 have DG:Hid (∀ k:Nat,1≤k→k≤12→∃ D p x:Int,36 - 3*(k:Int)=D∧0≤D∧D≤36∧(2:Int)^D.toNat=p∧v / p=x∧bits .and .u64 x 7=dg v k):=by
  intro k k1 k2
  have hpp:=pow8_box k1 k2
  refine ⟨36 - 3*(k:Int),8^(12 - k),_,rfl,by omega,by omega,?_,rfl,?_⟩
  · rw [show (36 - 3*(k:Int)).toNat=3*(12 - k) by omega,Int.pow_mul];rfl
  · rw [umask3 _ (u64_div hv (by omega))];rfl
 have hdb:Hid (∀ k,0≤dg v k∧dg v k≤7):=dg_box v
 have hYes:Hid ((∀ j:Nat,1≤j→j≤12→(dg v j=7↔(n:Int) < (j:Int)))→∀ e,e=.returned (.tuple #[.agg #[.int .i64 (n:Int),.int .i64 (down (dg v) n (wA v) (wB v)).1,.int .i64 (down (dg v) n (wA v) (wB v)).2],.int .i64 0])→TellsWC v e):=by
  intro hf e he
  refine .inl ⟨⟨h,by omega,fun j j1 j2=>by rw [hn];exact hf j j1 j2⟩,?_⟩
  rw [he,hn]
  unfold cellA cellB
  rw [hn]
  rfl
 have hNo:Hid (∀ j:Nat,1≤j→j≤12→¬ (dg v j=7↔(n:Int) < (j:Int))→∀ e,e=.returned (.tuple #[.agg #[.int .i64 0,.int .i64 0,.int .i64 0],.int .i64 5])→TellsWC v e) :=
  fun j j1 j2 hf e he=>.inr ⟨fun hw=>hf (by have:=hw.2.2 j j1 j2;rwa [hn] at this),he⟩
 have MU:Hid (∀ P Q:Int,(-400000000≤P∧P≤400000000)→(-400000000≤Q∧Q≤400000000)→∀ w,Calls Tryz.prog 35 #[.agg #[.int .i64 P,.int .i64 Q],.agg #[.int .i64 2,.int .i64 1]] w fun e w'=>e=.returned (.tuple #[.agg #[.int .i64 (2*P - Q),.int .i64 (P+3*Q)],.bool true])∧Below w.heap.size w w'):=by
  intro P Q hP hQ w
  have e1:mulA P Q 2 1=2*P - Q:=by unfold mulA;omega
  have e2:mulB P Q 2 1=P+3*Q:=by unfold mulB;omega
  have:=refmul_yes P Q 2 1 (by omega) (by omega) (by omega) (by omega) (by omega) (by omega) (by omega) (by omega) (by rw [e1];exact fits_mk (by omega)) (by rw [e2];exact fits_mk (by omega)) w
  rwa [e1,e2] at this
 have UN:Hid (∀ d:Int,0 < d→d≤6→∀ w,Calls Tryz.prog 36 #[.int .i64 (d - 1)] w fun e w'=>e=.returned (.agg #[.int .i64 (ptA d),.int .i64 (ptB d)])∧Below w.heap.size w w'):=by
  intro d d0 d6 w
  have:=refunit_any (d - 1) w
  rw [show (d - 1)%6=d - 1 by omega] at this
  rwa [(part_unit d0 d6).1,(part_unit d0 d6).2] at this
 have hO0:Hid (Ok4 ((0:Nat):Int) (wA v) (wB v)):=ok4_of_base (r:=0) (by omega) hAB.1 hAB.2
 obtain ⟨⟨a1,a2⟩,b1,b2⟩:=hAB
 generalize wA v=A at *
 generalize wB v=B at *
 generalize dg v=d at *
 have eA:A+512 - 512=A:=by omega
 have eB:B+512 - 512=B:=by omega
 have hnb:(n:Int)≤12:=by omega
 have hm:v / 1152921504606846976=1:=h
 clear hn h hv
 go_enter Tryz.func14,Tryz.ntmps14
 go_wp2_with fail
 go_loopw [6] (fun v6 wr=>∃ (j:Nat) (P Q:Int),1≤j∧j≤13∧v6=.int .i64 (j:Int)∧Hid (∀ i:Nat,1≤i→i < j→(d i=7↔(n:Int) < (i:Int)))∧Hid (Ok4 ((min (j - 1) n:Nat):Int) P Q)∧Hid ((P,Q)=down d (min (j - 1) n) A B)
  ∧wr.cell? ⟨w.heap.size+1,0,none⟩=some (.int .i64 P)∧wr.cell? ⟨w.heap.size+1,1,none⟩=some (.int .i64 Q)∧wr.frozen? ⟨w.heap.size+1,0,none⟩=false∧wr.frozen? ⟨w.heap.size+1,1,none⟩=false
  ∧wr.cell? ⟨w.heap.size,0,none⟩=some (.int .i64 0)∧wr.cell? ⟨w.heap.size,1,none⟩=some (.int .i64 0)∧wr.cell? ⟨w.heap.size,2,none⟩=some (.int .i64 0)∧wr.frozen? ⟨w.heap.size,0,none⟩=false∧wr.frozen? ⟨w.heap.size,1,none⟩=false∧wr.frozen? ⟨w.heap.size,2,none⟩=false∧Below w.heap.size w wr) (fun v6 _=>13 - (intOf v6).toNat)
 case atStart=>exact ⟨1,A,B,by omega,by omega,rfl,fun i i1 i2=>by omega,by rw [show min (1 - 1) n=0 by omega];exact hO0,by show _=_;rw [show min (1 - 1) n=0 by omega];rfl,by go_simp,by go_simp,by go_simp,by go_simp,by go_simp,by go_simp,by go_simp,by go_simp,by go_simp,by go_simp,by go_grown⟩
 case round =>
  clear hO0
  obtain ⟨j,P,Q,j1,j13,rfl,hf,hO,hPQ,z0,z1,fz0,fz1,r0,r1,r2,fr0,fr1,fr2,hB⟩:=hrel
  have lz:w.heap.size+1 < wr.heap.size:=World.block_lt_of_cell? _ _ z0
  have lz0:w.heap.size < wr.heap.size:=by omega
  by_cases hlt:j≤12
  · obtain ⟨D,p,X,eD,D0,D36,ep,ex,ed⟩:=DG.out j j1 hlt
    have hdj:=hdb.out j
    have D0':¬ D < 0:=by omega
    have ep':(2:Int)^min D.toNat 64=p:=by rw [show min D.toNat 64=D.toNat by omega];exact ep
    have jb:(j:Int)≤12:=by omega
    have hNj:=hNo.out j j1 hlt
    by_cases hjn:n < j
    · have hj1:(n:Int) < (j:Int):=by omega
      by_cases h7:d j=7
      · have hfn:Hid (∀ i:Nat,1≤i→i < j+1→(d i=7↔(n:Int) < (i:Int))):=by
         intro i i1 i2
         by_cases hij:i=j
         · subst hij;exact ⟨fun _=>hj1,fun _=>h7⟩
         · exact hf.out i i1 (by omega)
        rw [h7] at ed hdj
        clear DG hdb hYes hNo hNj hf MU UN h7
        go_wp2
        go_roundw
        case rel=>exact ⟨j+1,P,Q,by omega,by omega,by go_num,hfn,by rw [show min (j+1 - 1) n=min (j - 1) n by omega];exact hO,by rw [show min (j+1 - 1) n=min (j - 1) n by omega];exact hPQ,z0,z1,fz0,fz1,r0,r1,r2,fr0,fr1,fr2,hB⟩
        case measure=>simp [intOf];omega
      · have hT:=hNj (fun hh=>h7 (hh.2 hj1))
        have h7':(d j != 7)=true:=by simpa using h7
        replace hT:Hid _:=hT
        generalize d j=dj at *
        clear DG hdb hYes hNo hNj hf MU UN h7 hPQ hO
        obtain ⟨g0,g1,g2⟩:=three_stores (u0:=.int .i64 0) (u1:=.int .i64 0) (u2:=.int .i64 0) r0 r1 r2
        go_wp2
        exact bodyPost_ret (v:=.tuple #[.agg #[.int .i64 0,.int .i64 0,.int .i64 0],.int .i64 5]) (by simp [results,Tryz.results14,go_sem,g0,g1,g2]) rfl ⟨hT.out _ rfl,((hB.setCell (by simp) _).setCell (by simp) _).setCell (by simp) _⟩
    · have hj1:decide ((n:Int) < (j:Int))=false:=df (by omega)
      have hj2:(j:Int)≤(n:Int):=by omega
      by_cases h7:d j=7
      · have hT:=hNj (fun hh=>by have:=hh.1 h7;omega)
        replace hT:Hid _:=hT
        rw [h7] at ed hdj
        clear DG hdb hYes hNo hNj hf MU UN h7 hPQ hO
        obtain ⟨g0,g1,g2⟩:=three_stores (u0:=.int .i64 0) (u1:=.int .i64 0) (u2:=.int .i64 0) r0 r1 r2
        go_wp2
        exact bodyPost_ret (v:=.tuple #[.agg #[.int .i64 0,.int .i64 0,.int .i64 0],.int .i64 5]) (by simp [results,Tryz.results14,go_sem,g0,g1,g2]) rfl ⟨hT.out _ rfl,((hB.setCell (by simp) _).setCell (by simp) _).setCell (by simp) _⟩
      · have hdc:0≤d j∧d j≤6:=by omega
        have hfn:Hid (∀ i:Nat,1≤i→i < j+1→(d i=7↔(n:Int) < (i:Int))):=by
         intro i i1 i2
         by_cases hij:i=j
         · subst hij;exact ⟨fun hh=>absurd hh h7,fun hh=>by omega⟩
         · exact hf.out i i1 (by omega)
        have emin:min (j+1 - 1) n=min (j - 1) n+1:=by omega
        have emin2:min (j - 1) n+1=j:=by omega
        have hOk:=hO.out
        have hp:=ok4_part hOk
        have hOn:Hid (Ok4 ((min (j+1 - 1) n:Nat):Int) (chA (d j) P Q) (chB (d j) P Q)):=by
         have:=ok4_child hOk (by omega) hdc.1 hdc.2
         rwa [show ((min (j - 1) n:Nat):Int)+1=((min (j+1 - 1) n:Nat):Int) by omega] at this
        have hPn:Hid ((chA (d j) P Q,chB (d j) P Q)=down d (min (j+1 - 1) n) A B):=by
         show _=_
         rw [emin,down_step,emin2,← hPQ.out]
        have M1:Hid _:=MU.out P Q hp.1 hp.2
        have h7':(d j == 7)=false:=by simpa using h7
        obtain ⟨p1,p2⟩:=hp
        clear DG hdb hYes hNo hNj hf MU hPQ hO hOk emin emin2
        by_cases hz:d j=0
        · have hzA:chA (d j) P Q=2*P - Q:=by rw [hz];show 2*P - Q+0=_;omega
          have hzB:chB (d j) P Q=P+3*Q:=by rw [hz];show P+3*Q+0=_;omega
          rw [hzA,hzB] at hOn hPn
          have hz':decide (0 < d j)=false:=df (by omega)
          clear hz hzA hzB UN h7
          generalize d j=dj at *
          have qz0:=World.block_lt_of_cell? _ _ z0
          have qr0:=World.block_lt_of_cell? _ _ r0
          go_wp2_with fail
          refine (M1.out _).mono ?_
          rintro e v1 ⟨rfl,d1⟩
          have c1:Below wr.heap.size wr v1:=Below.trans (by go_grown) (d1.mono (by simp;try omega))
          replace fz0:=keepFrozen c1 z0 fz0
          replace z0:=keepCell c1 z0
          replace qz0:=World.block_lt_of_cell? _ _ z0
          replace fz1:=keepFrozen c1 z1 fz1
          replace z1:=keepCell c1 z1
          replace fr0:=keepFrozen c1 r0 fr0
          replace r0:=keepCell c1 r0
          replace qr0:=World.block_lt_of_cell? _ _ r0
          replace fr1:=keepFrozen c1 r1 fr1
          replace r1:=keepCell c1 r1
          replace fr2:=keepFrozen c1 r2 fr2
          replace r2:=keepCell c1 r2
          replace hB:=belowT hB c1
          clear c1 d1
          obtain ⟨g0,g1⟩:=two_stores (u:=.int .i64 (2*P - Q)) (v:=.int .i64 (P+3*Q)) z0 z1
          go_wp2
          go_roundw
          case rel=>exact ⟨j+1,_,_,by omega,by omega,by go_num,hfn,hOn,hPn,g0,g1,by simp [fz0],by simp [fz1],store_keep (store_keep r0 (by simp)) (by simp),store_keep (store_keep r1 (by simp)) (by simp),store_keep (store_keep r2 (by simp)) (by simp),by simp [fr0],by simp [fr1],by simp [fr2],(hB.setCell (by simp) _).setCell (by simp) _⟩
          case measure=>simp [intOf];omega
        · have hz':decide (0 < d j)=true:=decide_eq_true (by omega)
          have U1:Hid _:=UN.out (d j) (by omega) hdc.2
          have hcA:2*P - Q+ptA (d j)=chA (d j) P Q:=rfl
          have hcB:P+3*Q+ptB (d j)=chB (d j) P Q:=rfl
          have hpt:=pt_box (d j)
          generalize chA (d j) P Q=CA at *
          generalize chB (d j) P Q=CB at *
          generalize ptA (d j)=xA at *
          generalize ptB (d j)=xB at *
          generalize d j=dj at *
          clear UN hz h7
          have qz0:=World.block_lt_of_cell? _ _ z0
          have qr0:=World.block_lt_of_cell? _ _ r0
          go_wp2_with fail
          refine (M1.out _).mono ?_
          rintro e v1 ⟨rfl,d1⟩
          have c1:Below wr.heap.size wr v1:=Below.trans (by go_grown) (d1.mono (by simp;try omega))
          replace fz0:=keepFrozen c1 z0 fz0
          replace z0:=keepCell c1 z0
          replace qz0:=World.block_lt_of_cell? _ _ z0
          replace fz1:=keepFrozen c1 z1 fz1
          replace z1:=keepCell c1 z1
          replace fr0:=keepFrozen c1 r0 fr0
          replace r0:=keepCell c1 r0
          replace qr0:=World.block_lt_of_cell? _ _ r0
          replace fr1:=keepFrozen c1 r1 fr1
          replace r1:=keepCell c1 r1
          replace fr2:=keepFrozen c1 r2 fr2
          replace r2:=keepCell c1 r2
          replace hB:=belowT hB c1
          clear c1 d1
          obtain ⟨g0,g1⟩:=two_stores (u:=.int .i64 (2*P - Q)) (v:=.int .i64 (P+3*Q)) z0 z1
          have hbw:Below w.heap.size w ((v1.setCell ⟨w.heap.size+1,0,none⟩ (.int .i64 (2*P - Q))).setCell ⟨w.heap.size+1,1,none⟩ (.int .i64 (P+3*Q))):=(hB.setCell (by simp) _).setCell (by simp) _
          have x0:((v1.setCell ⟨w.heap.size+1,0,none⟩ (.int .i64 (2*P - Q))).setCell ⟨w.heap.size+1,1,none⟩ (.int .i64 (P+3*Q))).cell? ⟨w.heap.size,0,none⟩=some (.int .i64 0):=store_keep (store_keep r0 (by simp)) (by simp)
          have x1:((v1.setCell ⟨w.heap.size+1,0,none⟩ (.int .i64 (2*P - Q))).setCell ⟨w.heap.size+1,1,none⟩ (.int .i64 (P+3*Q))).cell? ⟨w.heap.size,1,none⟩=some (.int .i64 0):=store_keep (store_keep r1 (by simp)) (by simp)
          have x2:((v1.setCell ⟨w.heap.size+1,0,none⟩ (.int .i64 (2*P - Q))).setCell ⟨w.heap.size+1,1,none⟩ (.int .i64 (P+3*Q))).cell? ⟨w.heap.size,2,none⟩=some (.int .i64 0):=store_keep (store_keep r2 (by simp)) (by simp)
          have y0:((v1.setCell ⟨w.heap.size+1,0,none⟩ (.int .i64 (2*P - Q))).setCell ⟨w.heap.size+1,1,none⟩ (.int .i64 (P+3*Q))).frozen? ⟨w.heap.size+1,0,none⟩=false:=by simp [fz0]
          have y1:((v1.setCell ⟨w.heap.size+1,0,none⟩ (.int .i64 (2*P - Q))).setCell ⟨w.heap.size+1,1,none⟩ (.int .i64 (P+3*Q))).frozen? ⟨w.heap.size+1,1,none⟩=false:=by simp [fz1]
          have s0:((v1.setCell ⟨w.heap.size+1,0,none⟩ (.int .i64 (2*P - Q))).setCell ⟨w.heap.size+1,1,none⟩ (.int .i64 (P+3*Q))).frozen? ⟨w.heap.size,0,none⟩=false:=by simp [fr0]
          have s1:((v1.setCell ⟨w.heap.size+1,0,none⟩ (.int .i64 (2*P - Q))).setCell ⟨w.heap.size+1,1,none⟩ (.int .i64 (P+3*Q))).frozen? ⟨w.heap.size,1,none⟩=false:=by simp [fr1]
          have s2:((v1.setCell ⟨w.heap.size+1,0,none⟩ (.int .i64 (2*P - Q))).setCell ⟨w.heap.size+1,1,none⟩ (.int .i64 (P+3*Q))).frozen? ⟨w.heap.size,2,none⟩=false:=by simp [fr2]
          go_wp2_with fail
          refine (U1.out _).mono ?_
          rintro e v2 ⟨rfl,hb2⟩
          replace y0:=keepFrozen hb2 g0 y0
          replace y1:=keepFrozen hb2 g1 y1
          replace s0:=keepFrozen hb2 x0 s0
          replace s1:=keepFrozen hb2 x1 s1
          replace s2:=keepFrozen hb2 x2 s2
          replace g0:=keepCell hb2 g0
          replace g1:=keepCell hb2 g1
          replace x0:=keepCell hb2 x0
          replace x1:=keepCell hb2 x1
          replace x2:=keepCell hb2 x2
          replace hbw:=belowT hbw hb2
          clear r0 r1 r2 fr0 fr1 fr2 z0 z1 fz0 fz1 hB hb2 qz0 qr0 lz lz0
          have lz:=World.block_lt_of_cell? _ _ g0
          have n1:=Nat.ne_of_lt lz
          have n2:=Nat.ne_of_gt lz
          obtain ⟨k0,k1⟩:=two_stores (u:=.int .i64 CA) (v:=.int .i64 CB) g0 g1
          have hal:=allocB ((v2.setCell ⟨w.heap.size+1,0,none⟩ (.int .i64 CA)).setCell ⟨w.heap.size+1,1,none⟩ (.int .i64 CB)) (.cells #[.int .i64 xA,.int .i64 xB] 37)
          have m0:((v2.setCell ⟨w.heap.size+1,0,none⟩ (.int .i64 CA)).setCell ⟨w.heap.size+1,1,none⟩ (.int .i64 CB)).frozen? ⟨w.heap.size+1,0,none⟩=false:=by simp [y0]
          have m1:((v2.setCell ⟨w.heap.size+1,0,none⟩ (.int .i64 CA)).setCell ⟨w.heap.size+1,1,none⟩ (.int .i64 CB)).frozen? ⟨w.heap.size+1,1,none⟩=false:=by simp [y1]
          have o0:((v2.setCell ⟨w.heap.size+1,0,none⟩ (.int .i64 CA)).setCell ⟨w.heap.size+1,1,none⟩ (.int .i64 CB)).cell? ⟨w.heap.size,0,none⟩=some (.int .i64 0):=store_keep (store_keep x0 (by simp)) (by simp)
          have o1:((v2.setCell ⟨w.heap.size+1,0,none⟩ (.int .i64 CA)).setCell ⟨w.heap.size+1,1,none⟩ (.int .i64 CB)).cell? ⟨w.heap.size,1,none⟩=some (.int .i64 0):=store_keep (store_keep x1 (by simp)) (by simp)
          have o2:((v2.setCell ⟨w.heap.size+1,0,none⟩ (.int .i64 CA)).setCell ⟨w.heap.size+1,1,none⟩ (.int .i64 CB)).cell? ⟨w.heap.size,2,none⟩=some (.int .i64 0):=store_keep (store_keep x2 (by simp)) (by simp)
          have q0:((v2.setCell ⟨w.heap.size+1,0,none⟩ (.int .i64 CA)).setCell ⟨w.heap.size+1,1,none⟩ (.int .i64 CB)).frozen? ⟨w.heap.size,0,none⟩=false:=by simp [s0]
          have q1:((v2.setCell ⟨w.heap.size+1,0,none⟩ (.int .i64 CA)).setCell ⟨w.heap.size+1,1,none⟩ (.int .i64 CB)).frozen? ⟨w.heap.size,1,none⟩=false:=by simp [s1]
          have q2:((v2.setCell ⟨w.heap.size+1,0,none⟩ (.int .i64 CA)).setCell ⟨w.heap.size+1,1,none⟩ (.int .i64 CB)).frozen? ⟨w.heap.size,2,none⟩=false:=by simp [s2]
          have hbe:Below w.heap.size w ((v2.setCell ⟨w.heap.size+1,0,none⟩ (.int .i64 CA)).setCell ⟨w.heap.size+1,1,none⟩ (.int .i64 CB)):=(hbw.setCell (by simp) _).setCell (by simp) _
          go_wp2
          go_roundw
          case rel=>exact ⟨j+1,CA,CB,by omega,by omega,by go_num,hfn,hOn,hPn,keepCell hal k0,keepCell hal k1,keepFrozen hal k0 m0,keepFrozen hal k1 m1,keepCell hal o0,keepCell hal o1,keepCell hal o2,keepFrozen hal o0 q0,keepFrozen hal o1 q1,keepFrozen hal o2 q2,belowT hbe hal⟩
          case measure=>simp [intOf];omega
  · obtain rfl:j=13:=by omega
    have hmin:min (13 - 1) n=n:=by omega
    have hT:=hYes.out (fun i i1 i2=>hf.out i i1 (by omega))
    have hPQ':=hPQ.out
    rw [hmin] at hPQ'
    rw [← hPQ'] at hT
    replace hT:Hid _:=hT
    clear DG hdb hYes hNo hf MU UN hPQ hPQ' hO hmin
    obtain ⟨g0,g1,g2⟩:=three_stores (u0:=.int .i64 (n:Int)) (u1:=.int .i64 P) (u2:=.int .i64 Q) r0 r1 r2
    go_wp2
    exact bodyPost_ret (v:=.tuple #[.agg #[.int .i64 (n:Int),.int .i64 P,.int .i64 Q],.int .i64 0]) (by simp [results,Tryz.results14,go_sem,g0,g1,g2]) rfl ⟨hT.out _ rfl,((hB.setCell (by simp) _).setCell (by simp) _).setCell (by simp) _⟩
theorem rwcell_any (v:Int) (hv:U64 v) (w:World) :
 Calls Tryz.prog 14 #[.int .u64 v] w fun e w'=>TellsWC v e∧Below w.heap.size w w':=by
 by_cases h:v / 1152921504606846976=1
 · obtain ⟨n,hn⟩:=Int.eq_ofNat_of_zero_le (wR_box v).1
   by_cases h2:n≤12
   · exact rwcell_core v hv h n hn h2 w
   · exact rwcell_bad2 v hv h (by omega) w
 · exact rwcell_bad1 v hv h w
theorem rwcell_yes (v:Int) (h:Whole v) (w:World) :
 Calls Tryz.prog 14 #[.int .u64 v] w fun e w'=>e=.returned (.tuple #[.agg #[.int .i64 (wR v),.int .i64 (cellA v),.int .i64 (cellB v)],.int .i64 0])∧Below w.heap.size w w':=by
 have hb:=whole_box h
 exact (rwcell_any v ⟨by omega,by omega⟩ w).mono fun _ _ ⟨he,hb⟩=>⟨he.elim (fun x=>x.2) (fun x=>absurd h x.1),hb⟩
set_option maxHeartbeats 8000000 in
set_option maxRecDepth 20000 in
theorem rset_all (X:List Int) (n:Nat) (hX:X.length=n) (hn:n≤40000) (hDX:∀ x∈X,U64 x) (gl cap:Nat) (w:World)
 (hl:∀ (j:Nat) (hj:j < X.length),w.cell? ⟨gl,j,none⟩=some (.int .u64 X[j])) :
 Calls Tryz.prog 12 #[.slice (some ⟨gl,0,none⟩) n cap] w fun e w'=>(∃ (v:Value) (L:List Int),e=.returned v∧Rising L∧(∀ x,x∈L↔x∈X)∧L.length≤n∧w'.ownsRow w.heap.size 35 1 v L.length (vals L))∧Below w.heap.size w w':=by
 replace hl:Hid _:=hl
 replace hDX:Hid _:=hDX
 have hX0:Hid _:=hX
 clear hX
 obtain ⟨i0,hi,hz0,hz1,hz2⟩:=info_parts infoU64
 go_enter Tryz.func12,Tryz.ntmps12
 go_wp2_with fail
 go_loopw [3,4] (fun v3 v4 wr=>∃ (k m:Nat) (L:List Int),k≤n∧v4=.int .i64 (k:Int)∧Hid (m≤k∧L.length=m∧Rising L∧∀ x,x∈L↔x∈X.take k)∧Hid (wr.ownsRow w.heap.size 35 1 v3 m (vals L))∧Below w.heap.size w wr) (fun _ v4 _=>n - (intOf v4).toNat)
 case atStart=>exact ⟨0,0,[],by omega,rfl,hidd ⟨by omega,rfl,List.Pairwise.nil,fun x=>by simp⟩,World.ownsRow_nil _ _ _ _,by go_grown⟩
 case round =>
  obtain ⟨k,m,L,hk,rfl,hM,hO,hB⟩:=hrel
  obtain ⟨wO,rfl⟩:∃ z,z=wr:=⟨_,rfl⟩
  obtain ⟨p,c,rfl,hp⟩:=own_slice hO.out
  replace hp:Hid _:=hp
  have hmk:=hM.out.1
  have hm2:m≤40000:=by omega
  by_cases hlt:k < n
  · have hxk:k < X.length:=by rw [hX0.out];exact hlt
    have hDx:Hid (U64 X[k]):=hDX.out _ (List.getElem_mem hxk)
    have hTK:Hid (X.take (k+1)=X.take k++[X[k]]):=hidd (take_next hxk)
    have hgl:gl < w.heap.size:=World.block_lt_of_cell? _ _ (hl.out k hxk)
    have c0:=keepLow hB (hl.out k hxk) hgl
    have hlk:Hid (w.cell? ⟨gl,k,none⟩=some (.int .u64 X[k])):=hl.out k hxk
    have hxu:=hDx.out
    generalize X[k]=x at *
    obtain ⟨x0,x1⟩:=hxu
    have hO2:=hO
    have hB2:=hB
    go_wp2_with fail
    go_loopw [5,6] (fun v5 v6 w2=>∃ lo hi:Nat,lo≤hi∧hi≤m∧v5=.int .i64 (lo:Int)∧v6=.int .i64 (hi:Int)∧Below wO.heap.size wO w2∧Hid (Seek L x lo hi)) (fun v5 v6 _=>(intOf v6 - intOf v5).toNat)
    case atStart=>exact ⟨0,m,by omega,by omega,rfl,rfl,Below.refl _ _,hidd ⟨fun t ht hl=>by omega,fun t ht hl=>by have:=hM.out.2.1;omega⟩⟩
    case round =>
     obtain ⟨lo,hi',h1,h2,rfl,rfl,hb2,hSK⟩:=hrel
     by_cases hlh:lo < hi'
     · obtain ⟨mid,hmid⟩:∃ mid,(lo+hi') / 2=mid:=⟨_,rfl⟩
       have m1:lo≤mid:=by omega
       have m2:mid < hi':=by omega
       have m3:mid < m:=by omega
       have em:((lo:Int)+(hi':Int)).tdiv 2=(mid:Int):=by rw [Int.tdiv_eq_ediv_of_nonneg (by omega)];omega
       clear hmid
       obtain ⟨g,rfl⟩:=own_some hp.out (by omega)
       have hmL:mid < L.length:=by rw [hM.out.2.1];exact m3
       have cy:=(own_keep hb2 hO.out).cellAt mid (by omega)
       rw [vals_at L mid hmL] at cy
       have cx:=keepCell hb2 c0
       have hyu:=hDX.out _ (List.mem_of_mem_take ((hM.out.2.2.2 _).1 (List.getElem_mem hmL)))
       have hUp:=hidd (fun h=>hSK.out.up hM.out.2.2.1 hmL h)
       have hDn:=hidd (fun h=>hSK.out.down hM.out.2.2.1 hmL h)
       generalize L[mid]=y at *
       obtain ⟨y0,y1⟩:=hyu
       have hlh':(lo:Int) < (hi':Int):=by omega
       clear hxk hmL
       have hq:y < x∨decide (y < x)=false:=by simp only [decide_eq_false_iff_not];omega
       rcases hq with hq | hq
       · go_wp2_with fail
         go_quiet (fail)
         go_wp2
         go_roundw
         case rel=>exact ⟨mid+1,hi',by omega,by omega,by go_num,rfl,hb2.trans ⟨rfl,rfl,rfl,Nat.le_refl _,fun _ _=>rfl⟩,hidd (hUp.out hq)⟩
         case measure=>simp [intOf];omega
       · go_wp2_with fail
         go_quiet (fail)
         go_wp2
         go_roundw
         case rel=>exact ⟨lo,mid,by omega,by omega,rfl,rfl,hb2.trans ⟨rfl,rfl,rfl,Nat.le_refl _,fun _ _=>rfl⟩,hidd (hDn.out (by simpa using hq))⟩
         case measure=>simp [intOf];omega
     · obtain rfl:lo=hi':=by omega
       have hlh':decide ((lo:Int) < (lo:Int))=false:=by simp
       have cx:=keepCell hb2 c0
       have hOc:Hid (wr.ownsRow w.heap.size 35 1 (.slice p m c) m (vals L)):=own_keep hb2 hO.out
       have hBc:=hB.trans (hb2.mono hB.size)
       have hcase:((lo:Int) < (m:Int)∧Hid (x∈L)∧∃ g,p=some ⟨g,0,none⟩∧wr.cell? ⟨g,lo,none⟩=some (.int .u64 x))∨((lo:Int) < (m:Int)∧Hid (∀ (t:Nat) (ht:t < L.length),lo≤t→x < L[t])∧∃ g,p=some ⟨g,0,none⟩∧∃ y,wr.cell? ⟨g,lo,none⟩=some (.int .u64 y)∧(y == x)=false)∨(Hid (∀ (t:Nat) (ht:t < L.length),lo≤t→x < L[t])∧decide (lo < m)=false):=by
        by_cases h:lo < m
        · obtain ⟨g,rfl⟩:=own_some hp.out (by omega)
          have hmL:lo < L.length:=by rw [hM.out.2.1];exact h
          have cy:=hOc.out.cellAt lo (by omega)
          rw [vals_at L lo hmL] at cy
          by_cases hxy:L[lo]=x
          · exact .inl ⟨by omega,hidd (hxy ▸ List.getElem_mem hmL),g,rfl,by rw [cy,hxy]⟩
          · refine .inr (.inl ⟨by omega,hidd fun t ht hl=>?_,g,rfl,_,cy,by simpa using hxy⟩)
            have h3:=hSK.out.2 lo hmL (Nat.le_refl _)
            have h4:=rise_le hM.out.2.2.1 hmL ht hl
            omega
        · exact .inr (.inr ⟨hidd fun t ht hl=>by have:=hM.out.2.1;omega,decide_eq_false h⟩)
       clear hO2 hB2 hxk
       have hLow:=hidd hSK.out.1
       clear hSK
       rcases hcase with ⟨hlm,hxL,g,rfl,cy⟩ | ⟨hlm,hHi,g,rfl,y,cy,hxy⟩ | ⟨hHi,hlm⟩
       · have hm0:0 < m:=by omega
         go_wp2_with fail
         go_quiet (fail)
         have dq:Below wr.heap.size wr (wr.drewN nq):=⟨rfl,rfl,rfl,Nat.le_refl _,fun _ _=>rfl⟩
         generalize wr.drewN nq=wq at *
         have hOq:Hid (wq.ownsRow w.heap.size 35 1 (.slice (some ⟨g,0,none⟩) m c) m (vals L)):=own_keep dq hOc.out
         have hBq:=hBc.trans (dq.mono hBc.size)
         go_wp2
         go_roundw
         case rel =>
          refine ⟨k+1,m,L,by omega,by go_num,hidd ⟨by omega,hM.out.2.1,hM.out.2.2.1,fun y=>?_⟩,hOq,hBq⟩
          rw [hTK.out,List.mem_append,List.mem_singleton,← hM.out.2.2.2 y]
          constructor
          · exact fun h=>.inl h
          · rintro (h | rfl)
            · exact h
            · exact hxL.out
         case measure=>simp [intOf];omega
       all_goals
        go_wp2_with fail
        go_quiet (fail)
        have dq:Below wr.heap.size wr (wr.drewN nq):=⟨rfl,rfl,rfl,Nat.le_refl _,fun _ _=>rfl⟩
        generalize wr.drewN nq=wq at *
        have hOq:=hidd (own_keep dq hOc.out)
        have hBq:=hBc.trans (dq.mono hBc.size)
        have cxq:=keepCell dq cx
        have hBqs:=hBq.size
        have hqs:=dq.size
        have hBcs:=hBc.size
        go_wp2_with (at_builtin;refine wpList_append_own _ rfl (.tmp 50) (.tmp 51) 22 rfl w.heap.size 35 i0 (.int .u64 0) 1 8 Tryz.underlying22 hi hz0 hz1 hz2 rfl (by decide) _ _ _ rfl (own_keep (allocB _ _) hOq.out) ⟨wq.heap.size,0,none⟩ 1 1 [.int .u64 0] rfl rfl (one_lies _ _ rfl _ _) (one_int _ _) (by unfold maxLen;omega) (by omega) (by simp;omega) ?_)
        intro v' w5 hown hgrow _
        have hB5:=(hBq.alloc hBqs (.cells #[.int .u64 0] 35)).grown hgrow (by simp;omega) (own_block hOq.out)
        have cx5:=hidd (keepLow hB5 hlk.out hgl)
        clear hOq hBq cxq dq hgrow cx hOc hBc hb2 c0 hB hO hp hBqs hqs hBcs
        obtain ⟨g',c',rfl⟩:=own_shape hown (by omega)
        obtain ⟨hlen,hown2⟩:=hown
        rcases hown2 with ⟨h,_⟩ | ⟨g2,c2,cur,h,hbg,hg2,hnc,hcm,hcs,htake⟩
        · cases h
        simp only [Value.slice.injEq,Option.some.injEq,Addr.mk.injEq,and_true,true_and] at h
        obtain ⟨rfl,rfl⟩:=h
        have hloL:lo≤L.length:=by rw [hM.out.2.1];exact h2
        have hIN:=hidd (ins_facts hM.out.2.2.1 hloL hLow.out hHi.out)
        have hcl:cur.toList.length=c':=by simpa using hcs
        have htk:cur.toList.take (m+1)=vals L++[.int .u64 0]:=by simpa using htake
        have hcsl:((vals L).drop lo).length=m - lo:=by rw [List.length_drop,vals_len,hM.out.2.1]
        replace hM:Hid _:=hM
        obtain ⟨CS,eCS⟩:∃ CS,(vals L).drop lo=CS:=⟨_,rfl⟩
        have hsrc:∀ j v,CS[j]?=some v→w5.cell? ((⟨g',lo,none⟩:Addr).add j)=some v:=by
         intro j v hj
         have hjl:j < CS.length:=by rw [List.getElem?_eq_some_iff] at hj;exact hj.1
         rw [← eCS,hcsl] at hjl
         rw [show (⟨g',lo,none⟩:Addr).add j=⟨g',lo+j,none⟩ by simp [Addr.add],cell_of_row w5 g' (lo+j) cur 35 (0,0) hg2,← Array.getElem?_toList]
         have e1:(cur.toList.take (m+1))[lo+j]?=cur.toList[lo+j]?:=by rw [List.getElem?_take,if_pos (by omega)]
         rw [← e1,htk,List.getElem?_append_left (by rw [vals_len,hM.out.2.1];omega),← hj,← eCS,List.getElem?_drop]
        rw [eCS] at hcsl
        have hone:∀ v∈CS,v.oneCell'=true:=by
         intro v hv
         rw [← eCS] at hv
         have:=List.mem_of_mem_drop hv
         unfold vals at this
         obtain ⟨y,_,rfl⟩:=List.mem_map.1 this
         rfl
        replace hsrc:Hid _:=hsrc
        replace hone:Hid _:=hone
        replace htk:Hid _:=htk
        have eCS':Hid _:=eCS
        have hg5:w5.heap[g']?=some (.cells cur.toList.toArray 35 (0,0)):=by simpa using hg2
        replace hg5:Hid _:=hg5
        generalize cur.toList=CL at *
        have hmc:m+1≤c':=hnc
        clear htake hg2 eCS hlen hcs
        have hw1:IntKind.i64.wrap ((lo:Int)+1)=(lo:Int)+1:=by rw [IntKind.wrap_i64];omega
        have hw2:(0:Int)≤(lo:Int)+1:=by omega
        have hw3:(lo:Int)+1≤(m:Int)+1:=by omega
        have hw4:(lo:Int)≤(m:Int)+1:=by omega
        have hw5:lo≤m+1:=by omega
        have hw6:¬ c'=lo:=by omega
        have hw7:((lo:Int)+1).toNat=lo+1:=by omega
        have hinf:Hid ((Tryz.prog.info? 35).map (·.size)=some 1):=by show _=_;kernel_rfl
        have hn1:Hid (CS.length=Nat.min (m+1 - lo) (m - lo)):=by show _=min _ _;omega
        have hfit:Hid (lo+1+CS.length≤CL.length):=by show _≤_;omega
        by_cases hc1:c'=lo+1
        · first
           | (exfalso;omega)
           | (obtain rfl:=hc1
              obtain rfl:m=lo:=by omega
              have hn2:Hid (CS.length=Nat.min 1 0):=by show _=min _ _;omega
              have hw8:(m:Int)≤(m:Int)+1:=by omega
              go_wp2_with fail
              go_region_law (refine step_copy_splice rfl (.tmp 56) (.tmp 59) 22 22 rfl 35 Tryz.underlying22 hinf.out (some ⟨g',0,none⟩) (some ⟨g',m,none⟩) 0 0 1 1 (by simp [Act.eval,Act.put]) (by simp [Act.eval,Act.put]) g' (m+1) CL 35 hg5.out CS hn2.out (fun hp0=>by exfalso;omega) hfit.out hone.out w.heap.size w hB5.drew hbg ?_;intro w6 hg6 hB6)
              have hspl:(splice CL (m+1) CS).length=(m+1):=by rw [length_splice _ _ _ hfit.out];exact hcl
              have own6:w6.ownsRow w.heap.size 35 1 (.slice (some ⟨g',0,none⟩) (m+1) (m+1)) (m+1) ((splice CL (m+1) CS).take (m+1)) :=
               ⟨by rw [List.length_take,hspl];omega,.inr ⟨g',(m+1),(splice CL (m+1) CS).toArray,rfl,hbg,hg6.out,hnc,hcm,by simp [hspl],by simp⟩⟩
              have own7:=(own6.stored m (.int .u64 x)).1
              rw [← eCS'.out,set_row hM.out.2.1 h2 htk.out] at own7
              obtain ⟨z,hz⟩:∃ z,w6.cell? ⟨g',m,none⟩=some z:=by
               rw [own6.cellAt m (by omega),List.getElem?_eq_getElem (by rw [List.length_take,hspl];omega)]
               exact ⟨_,rfl⟩
              have hfz:=own6.frozenAt m
              have cx6:w6.cell? ⟨gl,k,none⟩=some (.int .u64 x):=keepLow hB6 hlk.out hgl
              have hL':(L.take m++(x :: L.drop m)).length=m+1∧Rising (L.take m++(x :: L.drop m))∧∀ y,y∈L.take m++(x :: L.drop m)↔y∈X.take (k+1):=by
               refine ⟨by simp [hM.out.2.1] <;>omega,hIN.out.1,fun y=>?_⟩
               rw [hIN.out.2 y,hTK.out,List.mem_append,List.mem_singleton,hM.out.2.2.2 y]
              have hB7:=hB6.setCell (p:=⟨g',m,none⟩) (by simpa using hbg) (.int .u64 x)
              replace own7:=hidd own7
              replace hL':=hidd hL'
              replace hB7:=hidd hB7
              clear own6 hspl hg6 hsrc hone htk eCS' hg5 cx5 hl hlk hfit hn1 hinf hcsl
              go_wp2
              go_roundw
              case rel=>exact ⟨k+1,m+1,_,by omega,by go_num,hidd ⟨by omega,hL'.out⟩,own7,hB7.out⟩
              case measure=>simp [intOf];omega)
        · go_wp2_with fail
          go_region_law (refine step_copy_splice rfl (.tmp 56) (.tmp 59) 22 22 rfl 35 Tryz.underlying22 hinf.out (some ⟨g',lo+1,none⟩) (some ⟨g',lo,none⟩) (m - lo) (c' - (lo+1)) (m+1 - lo) (c' - lo) (by simp [Act.eval,Act.put]) (by simp [Act.eval,Act.put]) g' (lo+1) CL 35 hg5.out CS hn1.out (fun _=>⟨rfl,_,rfl,hsrc.out⟩) hfit.out hone.out w.heap.size w hB5.drew hbg ?_;intro w6 hg6 hB6)
          have hspl:(splice CL (lo+1) CS).length=c':=by rw [length_splice _ _ _ hfit.out];exact hcl
          have own6:w6.ownsRow w.heap.size 35 1 (.slice (some ⟨g',0,none⟩) (m+1) c') (m+1) ((splice CL (lo+1) CS).take (m+1)) :=
           ⟨by rw [List.length_take,hspl];omega,.inr ⟨g',c',(splice CL (lo+1) CS).toArray,rfl,hbg,hg6.out,hnc,hcm,by simp [hspl],by simp⟩⟩
          have own7:=(own6.stored lo (.int .u64 x)).1
          rw [← eCS'.out,set_row hM.out.2.1 h2 htk.out] at own7
          obtain ⟨z,hz⟩:∃ z,w6.cell? ⟨g',lo,none⟩=some z:=by
           rw [own6.cellAt lo (by omega),List.getElem?_eq_getElem (by rw [List.length_take,hspl];omega)]
           exact ⟨_,rfl⟩
          have hfz:=own6.frozenAt lo
          have cx6:w6.cell? ⟨gl,k,none⟩=some (.int .u64 x):=keepLow hB6 hlk.out hgl
          have hL':(L.take lo++(x :: L.drop lo)).length=m+1∧Rising (L.take lo++(x :: L.drop lo))∧∀ y,y∈L.take lo++(x :: L.drop lo)↔y∈X.take (k+1):=by
           refine ⟨by simp [hM.out.2.1] <;>omega,hIN.out.1,fun y=>?_⟩
           rw [hIN.out.2 y,hTK.out,List.mem_append,List.mem_singleton,hM.out.2.2.2 y]
          have hB7:=hB6.setCell (p:=⟨g',lo,none⟩) (by simpa using hbg) (.int .u64 x)
          replace own7:=hidd own7
          replace hL':=hidd hL'
          replace hB7:=hidd hB7
          clear own6 hspl hg6 hsrc hone htk eCS' hg5 cx5 hl hlk hfit hn1 hinf hcsl
          go_wp2
          go_roundw
          case rel=>exact ⟨k+1,m+1,_,by omega,by go_num,hidd ⟨by omega,hL'.out⟩,own7,hB7.out⟩
          case measure=>simp [intOf];omega
  · obtain rfl:k=n:=by omega
    have hfin:Hid (Rising L∧(∀ y,y∈L↔y∈X)∧L.length≤k∧wO.ownsRow w.heap.size 35 1 (.slice p m c) L.length (vals L)):=by
     refine hidd ⟨hM.out.2.2.1,fun y=>?_,by rw [hM.out.2.1];omega,by rw [hM.out.2.1];exact hO.out⟩
     rw [hM.out.2.2.2 y,List.take_of_length_le (by rw [hX0.out];omega)]
    clear hl hM hO
    go_wp2
    go_ret
    exact ⟨⟨_,L,rfl,hfin.out⟩,hB⟩
set_option maxHeartbeats 4000000 in
theorem rhas (C:Nat) (s:Value) (L:List Int) (x:Int) (hx:U64 x) (hR:Rising L) (hU:∀ y∈L,U64 y) (hn:L.length≤40000) (w:World) (h1:RowAt C w s L) :
 Calls Tryz.prog 13 #[s,.int .u64 x] w fun e w'=>e=.returned (.bool (decide (x∈L)))∧Below w.heap.size w w':=by
 obtain ⟨p,c,rfl,hp⟩:=h1.form
 obtain ⟨n,en⟩:∃ n,L.length=n:=⟨_,rfl⟩
 have HP:=hidd hp
 have EN:=hidd en
 have HR:=hidd hR
 have HU:=hidd hU
 obtain ⟨x0,x1⟩:=hx
 rw [en] at hn ⊢
 clear hp h1 en hR hU
 go_enter Tryz.func13,Tryz.ntmps13
 go_wp2_with fail
 go_loopw [5,6] (fun v5 v6 wr=>∃ lo hi:Nat,lo≤hi∧hi≤n∧v5=.int .i64 (lo:Int)∧v6=.int .i64 (hi:Int)∧Hid (Seek L x lo hi)∧Below w.heap.size w wr) (fun v5 v6 _=>(intOf v6 - intOf v5).toNat)
 case atStart=>exact ⟨0,n,by omega,by omega,rfl,rfl,hidd ⟨fun t ht hl=>by omega,fun t ht hl=>by have:=EN.out;omega⟩,Below.refl _ _⟩
 case round =>
  obtain ⟨lo,hi,h1,h2,rfl,rfl,hS,hB⟩:=hrel
  by_cases hlh:lo < hi
  · obtain ⟨mid,hmid⟩:∃ mid,(lo+hi) / 2=mid:=⟨_,rfl⟩
    have m1:lo≤mid:=by omega
    have m2:mid < hi:=by omega
    have m3:mid < n:=by omega
    have em:((lo:Int)+(hi:Int)).tdiv 2=(mid:Int):=by rw [Int.tdiv_eq_ediv_of_nonneg (by omega)];omega
    clear hmid
    have hmL:mid < L.length:=by rw [EN.out];exact m3
    obtain ⟨g,rfl,cy⟩:=HP.out mid hmL
    replace cy:=keepCell hB cy
    obtain ⟨y0,y1⟩:=HU.out _ (List.getElem_mem hmL)
    have hUp:=hidd (fun h=>hS.out.up HR.out hmL h)
    have hDn:=hidd (fun h=>hS.out.down HR.out hmL h)
    generalize L[mid]=y at *
    have hlh':(lo:Int) < (hi:Int):=by omega
    have hq:y < x∨decide (y < x)=false:=by simp only [decide_eq_false_iff_not];omega
    rcases hq with hq | hq
    · go_wp2_with fail
      go_roundw
      case rel=>exact ⟨mid+1,hi,by omega,by omega,by go_num,rfl,hidd (hUp.out hq),hB⟩
      case measure=>simp [intOf];omega
    · go_wp2_with fail
      go_roundw
      case rel=>exact ⟨lo,mid,by omega,by omega,rfl,rfl,hidd (hDn.out (by simpa using hq)),hB⟩
      case measure=>simp [intOf];omega
  · obtain rfl:lo=hi:=by omega
    have hlh':decide ((lo:Int) < (lo:Int))=false:=by simp
    by_cases hln:lo < n
    · have hmL:lo < L.length:=by rw [EN.out];exact hln
      obtain ⟨g,rfl,cy⟩:=HP.out lo hmL
      replace cy:=keepCell hB cy
      have hD:Hid (decide (x∈L)=(L[lo] == x)):=by
       refine hidd ?_
       by_cases e:L[lo]=x
       · rw [decide_eq_true (e ▸ List.getElem_mem hmL)];simp [e]
       · rw [decide_eq_false]
         · simp [e]
         · intro hm
           obtain ⟨t,ht,et⟩:=List.mem_iff_getElem.1 hm
           rcases Nat.lt_or_ge t lo with k | k
           · have:=hS.out.1 t ht k;omega
           · have h3:=hS.out.2 lo hmL (Nat.le_refl _)
             have h4:=rise_le HR.out hmL ht k
             omega
      have hln':(lo:Int) < (n:Int):=by omega
      generalize L[lo]=y at *
      clear hS HP HR HU EN
      go_wp2_with fail
      go_ret
      exact ⟨by rw [hD.out];rfl,hB⟩
    · have hD:Hid (decide (x∈L)=false):=by
       refine hidd (decide_eq_false fun hm=>?_)
       obtain ⟨t,ht,et⟩:=List.mem_iff_getElem.1 hm
       have:=hS.out.1 t ht (by rw [EN.out] at ht;omega)
       omega
      have hln':decide ((lo:Int) < (n:Int))=false:=df (by omega)
      have hln2:decide (lo < n)=false:=df (by omega)
      clear hS HP HR HU EN
      go_wp2_with fail
      go_ret
      exact ⟨by rw [hD.out];rfl,hB⟩
set_option maxHeartbeats 1000000 in
theorem rset_nil (w:World):Calls Tryz.prog 12 #[.slice none 0 0] w fun e w'=>e=.returned (.slice none 0 0)∧Below w.heap.size w w':=by
 go_enter Tryz.func12,Tryz.ntmps12
 go_wp2_with fail
 go_loopw [3,4] (fun v3 v4 wr=>v3=.slice none 0 0∧v4=.int .i64 0∧wr=w) (fun _ _ _=>0)
 case atStart=>exact ⟨rfl,rfl,rfl⟩
 case round =>
  obtain ⟨rfl,rfl,rfl⟩:=hrel
  go_wp2
  go_ret
  exact ⟨rfl,Below.refl _ _⟩
theorem rset_own (X:List Int) (hn:X.length≤40000) (hU:∀ x∈X,U64 x) (base:Nat) (v:Value) (w:World) (h:w.ownsRow base 35 1 v X.length (vals X)) :
 Calls Tryz.prog 12 #[v] w fun e w'=>(∃ (s:Value) (L:List Int),e=.returned s∧Rising L∧(∀ x,x∈L↔x∈X)∧L.length≤X.length∧w'.ownsRow w.heap.size 35 1 s L.length (vals L))∧Below w.heap.size w w':=by
 rcases h.2 with ⟨hv,h0⟩ | ⟨g,cap,cur,hv,_⟩
 · have hX:X=[]:=List.length_eq_zero_iff.1 h0
   subst hv hX
   refine (rset_nil w).mono ?_
   rintro e w' ⟨rfl,hb⟩
   exact ⟨⟨_,[],rfl,List.Pairwise.nil,fun x=>Iff.rfl,Nat.le_refl _,World.ownsRow_nil _ _ _ _⟩,hb⟩
 · subst hv
   have hc:=own_cells h
   exact rset_all X X.length rfl hn hU g cap w hc.2.1
set_option maxHeartbeats 2000000 in
theorem rcentre_core (a b r X Y A B:Int) (r1:0≤r) (r2:r≤12) (a1: -1073741824≤a) (a2:a≤1073741824) (b1: -1073741824≤b) (b2:b≤1073741824) (A1: -9007199254740992≤A) (A2:A≤9007199254740992) (B1: -9007199254740992≤B) (B2:B≤9007199254740992)
 (BE:∀ w,Calls Tryz.prog 37 #[.int .i64 (12 - r)] w fun e w'=>e=.returned (.tuple #[.agg #[.int .i64 X,.int .i64 Y],.bool true])∧Below w.heap.size w w')
 (MU:∀ w,Calls Tryz.prog 35 #[.agg #[.int .i64 a,.int .i64 b],.agg #[.int .i64 X,.int .i64 Y]] w fun e w'=>e=.returned (.tuple #[.agg #[.int .i64 A,.int .i64 B],.bool true])∧Below w.heap.size w w') (w:World) :
 Calls Tryz.prog 15 #[.agg #[.int .i64 a,.int .i64 b],.int .i64 r] w fun e w'=>e=.returned (.tuple #[.int .i64 (52*A+26*B),.int .i64 (45*B),.bool true])∧Below w.heap.size w w':=by
 replace BE:Hid _:=BE
 replace MU:Hid _:=MU
 go_enter Tryz.func15,Tryz.ntmps15
 go_wp2_with fail
 refine (BE.out _).mono ?_
 rintro e w1 ⟨rfl,d1⟩
 have c1:Below w.heap.size w w1:=Below.trans (by go_grown) (d1.mono (by simp;try omega))
 have p0:w1.cell? ⟨w.heap.size,0,none⟩=some (.int .i64 a):=keepCell d1 (by go_simp)
 have qp0:=World.block_lt_of_cell? _ _ p0
 have p1:w1.cell? ⟨w.heap.size,1,none⟩=some (.int .i64 b):=keepCell d1 (by go_simp)
 have hB:=c1
 clear c1 d1
 go_wp2_with fail
 refine (MU.out _).mono ?_
 rintro e w2 ⟨rfl,d2⟩
 have c2:Below w1.heap.size w1 w2:=Below.trans (by go_grown) (d2.mono (by simp;try omega))
 replace p0:=keepCell c2 p0
 replace qp0:=World.block_lt_of_cell? _ _ p0
 replace p1:=keepCell c2 p1
 replace hB:=belowT hB c2
 clear c2 d2
 have hB':=belowT hB (allocB w2 (.cells #[.int .i64 A,.int .i64 B] 37))
 go_wp2
 go_quiet (fail)
 go_wp2
 go_ret3
 exact ⟨rfl,belowN hB' _⟩
theorem rmul_ct {K:Nat} {a b:Int} (hK:K≤12) (ha: -4294967296≤a∧a≤4294967296) (hb: -4294967296≤b∧b≤4294967296) (w:World) :
 Calls Tryz.prog 35 #[.agg #[.int .i64 a,.int .i64 b],.agg #[.int .i64 (bet K).1,.int .i64 (bet K).2]] w fun e w'=>e=.returned (.tuple #[.agg #[.int .i64 (ctA K a b),.int .i64 (ctB K a b)],.bool true])∧Below w.heap.size w w':=by
 have hs:=bet_small hK
 have hc:=ct_box hK ha hb
 have eA:mulA a b (bet K).1 (bet K).2=ctA K a b:=by unfold mulA ctA;grind
 have eB:mulB a b (bet K).1 (bet K).2=ctB K a b:=by unfold mulB ctB;grind
 have MU:=refmul_yes a b (bet K).1 (bet K).2 (by omega) (by omega) (by omega) (by omega) (by omega) (by omega) (by omega) (by omega) (by rw [eA];exact fits_mk ⟨by omega,by omega⟩) (by rw [eB];exact fits_mk ⟨by omega,by omega⟩) w
 rw [eA,eB] at MU
 exact MU
theorem rcentre_yes (a b r:Int) (K:Nat) (hK:K≤12) (hr:12 - r=(K:Int)) (ha:In30 a) (hb:In30 b) (w:World) :
 Calls Tryz.prog 15 #[.agg #[.int .i64 a,.int .i64 b],.int .i64 r] w fun e w'=>e=.returned (.tuple #[.int .i64 (poX K a b),.int .i64 (poY K a b),.bool true])∧Below w.heap.size w w':=by
 obtain ⟨a1,a2⟩:=ha
 obtain ⟨b1,b2⟩:=hb
 have hc:=ct_box (a:=a) (b:=b) hK (by omega) (by omega)
 exact rcentre_core a b r _ _ (ctA K a b) (ctB K a b) (by omega) (by omega) a1 a2 b1 b2 (by omega) (by omega) (by omega) (by omega) (by rw [hr];exact refbeta_yes K (by omega)) (rmul_ct hK (by omega) (by omega)) w
end Go.Proofs.YtbnlhdnnenahfaaGreatDoor
namespace Go.Proofs.YtbnlhdnnenahfaaGreatDoor
theorem bi_pos (b:Bool):0 < bi b↔b=true:=by cases b <;>decide
def ar2 (p q:Int × Int):Int:=p.1*q.2 - q.1*p.2
def area (L:List (Int × Int)):Int:=cyc ar2 L
end Go.Proofs.YtbnlhdnnenahfaaGreatDoor
namespace Go.Proofs.YtbnlhdnnenahfaaGreatDoor
open Go.RowKit
def Addressed (s:Value):Prop:=s=.slice none 0 0∨∃ a m c,s=.slice (some a) m c
set_option maxRecDepth 20000 in
theorem append_lst {w:World} (base:Nat) (ty:TypeId) (v:Value) (n:Nat) (xs:List Value) (hown:w.ownsRow base 35 1 v n xs) (sA:Value) (A:List Int) (hA:Lst w sA A) (hs0:Addressed sA) (h63:n+A.length≤1000000) (hbase:base≤w.heap.size) :
 ∃ v' w',(Builtin.append_ #[22,22] ty #[v,sA]).run Tryz.prog w=.ok v' w'∧w'.ownsRow base 35 1 v' (n+A.length) (xs++vals A)∧w.grownBy w' v.ownBlock:=by
 obtain ⟨i0,hi,hz0,hz1,hz2⟩:=info_parts infoU64
 rcases hs0 with rfl | ⟨ad,m,c,rfl⟩
 · have h0:A=[]:=by
    obtain ⟨p,cap,e,h1,-⟩:=hA
    simp only [Value.slice.injEq] at e
    exact List.length_eq_zero_iff.1 (by omega)
   subst h0
   exact ⟨v,w,run_append_owned_none (P:=Tryz.prog) w base 22 ty 35 i0 1 Tryz.underlying22 hi v n xs hown,by simpa [vals] using hown,⟨rfl,rfl,rfl,Nat.le_refl _,fun _ _ _=>rfl⟩⟩
 · obtain ⟨p,cap,e,h1,hc⟩:=hA
   simp only [Value.slice.injEq] at e
   obtain ⟨rfl,rfl,rfl⟩:=e
   obtain ⟨v',w',hr,h2,h3,-⟩:=run_append_own (P:=Tryz.prog) w base 22 ty 35 i0 (.int .u64 0) 1 8 Tryz.underlying22 hi hz0 hz1 hz2 rfl (by decide) v n xs hown ad A.length c (vals A) (by rw [vals_len];omega) (fun j u hj=>by
    have hj':j < A.length:=by rw [List.getElem?_eq_some_iff] at hj;rw [← vals_len];exact hj.1
    obtain ⟨g,o',e,hcj⟩:=hc j hj'
    simp only [Option.some.injEq] at e
    subst e
    rw [vals_at A j hj'] at hj
    rw [Go.WideShapes.add_plain,hcj,hj]) (vals_one A) (by unfold maxLen;omega) (by omega) hbase
   exact ⟨v',w',hr,h2,h3⟩
theorem wpList_append_lst {w:World} {ops:Array Oper} {rest:List Oper} {o:Oper} {a:Act} {Q:Exit→Act→World→Prop} (hw:Region.wanted o (yielded ops a.tmps)=true) (s x:Operand)
 (ho:o.op=.call { callee:=.builtin .append,args:=#[s,x],argTypes:=#[22,22] })
 (base:Nat) (v:Value) (n:Nat) (xs:List Value) (hs:a.eval s=v) (hown:w.ownsRow base 35 1 v n xs)
 (sA:Value) (A:List Int) (hx:a.eval x=sA) (hA:Lst w sA A) (hs0:Addressed sA) (h63:n+A.length≤1000000) (hbase:base≤w.heap.size)
 (h:∀ v' w',w'.ownsRow base 35 1 v' (n+A.length) (xs++vals A)→w.grownBy w' v.ownBlock→wpList Tryz.prog ops Q rest (a.put o.dst v') w'):wpList Tryz.prog ops Q (o :: rest) a w:=by
 refine BigFrame.wpList_want hw fun K hK=>?_
 obtain ⟨v',w',hr,h2,h3⟩:=append_lst base o.type v n xs hown sA A hA hs0 h63 hbase
 unfold Oper.wp
 simp [execOp,ho,resolve,invoke,builtin,hs,hx,hr,Result.andThen]
 exact hK _ _ (h v' w' h2 h3)
theorem own_fresh (w:World):(w.alloc (.cells #[] 35)).ownsRow w.heap.size 35 1 (.slice (some ⟨w.heap.size,0,none⟩) 0 0) 0 [] :=
 ⟨rfl,.inr ⟨w.heap.size,0,#[],rfl,Nat.le_refl _,by show (w.heap.push _)[w.heap.size]?=_;simp,Nat.le_refl _,by unfold maxLen;omega,rfl,rfl⟩⟩
end Go.Proofs.YtbnlhdnnenahfaaGreatDoor
namespace Go.Proofs.YtbnlhdnnenahfaaGreatDoor
theorem cyc3 (f:Int × Int→Int × Int→Int) (p q s:Int × Int):cyc f [p,q,s]=f p q+f q s+f s p:=by
 simp [cyc,sumN,pt]
theorem tri_sum (p q s:Int × Int) (x y:Int):crs p q x y+crs q s x y+crs s p x y=area [p,q,s]:=by
 unfold area
 rw [cyc3]
 unfold crs ar2
 grind
theorem tri_x (p q s:Int × Int) (x y:Int):crs q s x y*(p.1 - x)+crs s p x y*(q.1 - x)+crs p q x y*(s.1 - x)=0:=by unfold crs;grind
theorem tri_y (p q s:Int × Int) (x y:Int):crs q s x y*(p.2 - y)+crs s p x y*(q.2 - y)+crs p q x y*(s.2 - y)=0:=by unfold crs;grind
theorem betweenG {u v P Q x:Int} (hu:0≤u) (hv:0≤v) (hs:0 < u+v) (h:u*(P - x)+v*(Q - x)=0):min P Q≤x∧x≤max P Q:=by
 constructor
 · by_cases c:min P Q≤x
   · exact c
   · have h1:=Int.mul_le_mul_of_nonneg_left (show 1≤P - x by omega) hu
     have h2:=Int.mul_le_mul_of_nonneg_left (show 1≤Q - x by omega) hv
     omega
 · by_cases c:x≤max P Q
   · exact c
   · have h1:=Int.mul_le_mul_of_nonneg_left (show 1≤x - P by omega) hu
     have h2:=Int.mul_le_mul_of_nonneg_left (show 1≤x - Q by omega) hv
     have e1:u*(x - P)= -(u*(P - x)):=by rw [← Int.mul_neg];congr 1;omega
     have e2:v*(x - Q)= -(v*(Q - x)):=by rw [← Int.mul_neg];congr 1;omega
     omega
theorem tri_edge {p q s:Int × Int} {x y:Int} (h0:crs p q x y=0) (h2:0≤crs q s x y) (h3:0≤crs s p x y) (ha:0 < area [p,q,s]):onB p q x y=true:=by
 have e:=tri_sum p q s x y
 have ex:=tri_x p q s x y
 have ey:=tri_y p q s x y
 rw [h0,Int.zero_mul] at ex ey
 have bx:=betweenG h2 h3 (by omega) (show crs q s x y*(p.1 - x)+crs s p x y*(q.1 - x)=0 by omega)
 have byy:=betweenG h2 h3 (by omega) (show crs q s x y*(p.2 - y)+crs s p x y*(q.2 - y)=0 by omega)
 exact onB_iff.2 ⟨h0,bx.1,bx.2,byy.1,byy.2⟩
theorem opp {u v P Q x:Int} (hu:0 < u) (hv:v < 0) (h:u*(P - x)+v*(Q - x)=0) (h1:min P Q≤x) (h2:x≤max P Q):P=Q:=by
 rcases (show P≤x∧x≤Q∨Q≤x∧x≤P by omega) with ⟨c1,c2⟩ | ⟨c1,c2⟩
 · have k1:=Int.mul_le_mul_of_nonneg_left (show 0≤x - P by omega) (show 0≤u by omega)
   have e1:u*(x - P)= -(u*(P - x)):=by rw [← Int.mul_neg];congr 1;omega
   have e2:(-v)*(Q - x)= -(v*(Q - x)):=Int.neg_mul ..
   have k2:=Int.mul_le_mul_of_nonneg_left (show 0≤Q - x by omega) (show 0≤-v by omega)
   by_cases d1:P < x
   · have:=Int.mul_pos hu (show 0 < x - P by omega)
     omega
   · by_cases d2:x < Q
     · have:=Int.mul_pos (show 0 < -v by omega) (show 0 < Q - x by omega)
       omega
     · omega
 · have k1:=Int.mul_nonneg (show 0≤u by omega) (show 0≤P - x by omega)
   have e2:(-v)*(x - Q)=v*(Q - x):=by rw [Int.neg_mul,← Int.mul_neg];congr 1;omega
   have k2:=Int.mul_nonneg (show 0≤-v by omega) (show 0≤x - Q by omega)
   by_cases d1:x < P
   · have:=Int.mul_pos hu (show 0 < P - x by omega)
     omega
   · by_cases d2:Q < x
     · have:=Int.mul_pos (show 0 < -v by omega) (show 0 < x - Q by omega)
       omega
     · omega
theorem tri_on {p q s:Int × Int} {x y:Int} (h:onB p q x y=true) (ha:0 < area [p,q,s]):0≤crs q s x y∧0≤crs s p x y:=by
 obtain ⟨h0,hx1,hx2,hy1,hy2⟩:=onB_iff.1 h
 have e:=tri_sum p q s x y
 have ex:=tri_x p q s x y
 have ey:=tri_y p q s x y
 rw [h0,Int.zero_mul] at ex ey
 have no:p=q→False:=fun e=>by
  subst e
  have:area [p,p,s]=0:=by
   unfold area
   rw [cyc3]
   unfold ar2
   grind
  omega
 constructor
 · by_cases c:0≤crs q s x y
   · exact c
   · exfalso
     have k1:=opp (u:=crs s p x y) (v:=crs q s x y) (P:=q.1) (Q:=p.1) (x:=x) (by omega) (by omega) (by omega) (by omega) (by omega)
     have k2:=opp (u:=crs s p x y) (v:=crs q s x y) (P:=q.2) (Q:=p.2) (x:=y) (by omega) (by omega) (by omega) (by omega) (by omega)
     exact no (Prod.ext k1.symm k2.symm)
 · by_cases c:0≤crs s p x y
   · exact c
   · exfalso
     have k1:=opp (u:=crs q s x y) (v:=crs s p x y) (P:=p.1) (Q:=q.1) (x:=x) (by omega) (by omega) (by omega) (by omega) (by omega)
     have k2:=opp (u:=crs q s x y) (v:=crs s p x y) (P:=p.2) (Q:=q.2) (x:=y) (by omega) (by omega) (by omega) (by omega) (by omega)
     exact no (Prod.ext k1 k2)
theorem third {u v w P Q S:Int} (h:u*P+v*Q+w*S=0) (hv:0 < v) (hw:0 < w) (hm:(0 < P∧Q≤0∧S≤0)∨(P≤0∧0 < Q∧0 < S)):0≤u:=by
 by_cases c:0≤u
 · exact c
 · exfalso
   rcases hm with ⟨h1,h2,h3⟩ | ⟨h1,h2,h3⟩
   · have k1:=Int.mul_pos (show 0 < -u by omega) h1
     have k2:=Int.mul_nonneg (show 0≤v by omega) (show 0≤-Q by omega)
     have k3:=Int.mul_nonneg (show 0≤w by omega) (show 0≤-S by omega)
     rw [Int.neg_mul] at k1
     rw [Int.mul_neg] at k2 k3
     omega
   · have k1:=Int.mul_nonneg (show 0≤-u by omega) (show 0≤-P by omega)
     have k2:=Int.mul_pos hv h2
     have k3:=Int.mul_pos hw h3
     rw [Int.neg_mul,Int.mul_neg] at k1
     omega
theorem third_neg {u v w P Q S:Int} (h:u*P+v*Q+w*S=0) (hv:v < 0) (hw:w < 0) (hm:(0 < P∧Q≤0∧S≤0)∨(P≤0∧0 < Q∧0 < S)):u≤0:=by
 have:=third (u:= -u) (v:= -v) (w:= -w) (P:=P) (Q:=Q) (S:=S) (by rw [Int.neg_mul,Int.neg_mul,Int.neg_mul];omega) (by omega) (by omega) hm
 omega
theorem part_on {p q:Int × Int} {x y:Int} (h:crs p q x y=0) (hm:(p.2≤y∧y < q.2)∨(y < p.2∧q.2≤y)):onB p q x y=true:=by
 have hx:min p.1 q.1≤x∧x≤max p.1 q.1:=by
  unfold crs at h
  rcases hm with hm | hm
  · exact betweenG (u:=q.2 - y) (v:=y - p.2) (by omega) (by omega) (by omega) (by grind)
  · exact betweenG (u:=y - q.2) (v:=p.2 - y) (by omega) (by omega) (by omega) (by grind)
 exact onB_iff.2 ⟨h,hx.1,hx.2,by omega,by omega⟩
theorem onN3 {p q s:Int × Int} {x y:Int}:0 < onN [p,q,s] x y↔onB p q x y=true∨onB q s x y=true∨onB s p x y=true:=by
 unfold onN
 rw [cyc3,← bi_pos (onB p q x y),← bi_pos (onB q s x y),← bi_pos (onB s p x y)]
 have h1:=bi_box (onB p q x y)
 have h2:=bi_box (onB q s x y)
 have h3:=bi_box (onB s p x y)
 omega
theorem area_rot (p q s:Int × Int):area [q,s,p]=area [p,q,s]:=by
 unfold area
 rw [cyc3,cyc3]
 omega
theorem tri_odd {p q s:Int × Int} {x y:Int} (hn:¬ 0 < onN [p,q,s] x y) (ho:crN [p,q,s] x y%2=1):(0≤crs p q x y∧0≤crs q s x y∧0≤crs s p x y∧0 < area [p,q,s])∨(crs p q x y≤0∧crs q s x y≤0∧crs s p x y≤0∧area [p,q,s] < 0):=by
 rw [onN3] at hn
 have n1:∀ h:crs p q x y=0,¬ ((p.2≤y∧y < q.2)∨(y < p.2∧q.2≤y)):=fun h k=>hn (.inl (part_on h k))
 have n2:∀ h:crs q s x y=0,¬ ((q.2≤y∧y < s.2)∨(y < q.2∧s.2≤y)):=fun h k=>hn (.inr (.inl (part_on h k)))
 have n3:∀ h:crs s p x y=0,¬ ((s.2≤y∧y < p.2)∨(y < s.2∧p.2≤y)):=fun h k=>hn (.inr (.inr (part_on h k)))
 have e:=tri_sum p q s x y
 have ey:=tri_y p q s x y
 unfold crN at ho
 rw [cyc3] at ho
 have h1:=bi_cases _ _ (crB_iff (p:=p) (q:=q) (x:=x) (y:=y))
 have h2:=bi_cases _ _ (crB_iff (p:=q) (q:=s) (x:=x) (y:=y))
 have h3:=bi_cases _ _ (crB_iff (p:=s) (q:=p) (x:=x) (y:=y))
 generalize bi (crB p q x y)=b1 at *
 generalize bi (crB q s x y)=b2 at *
 generalize bi (crB s p x y)=b3 at *
 generalize crs p q x y=c1 at *
 generalize crs q s x y=c2 at *
 generalize crs s p x y=c3 at *
 clear hn
 have eP:c2*(p.2 - y)+c3*(q.2 - y)+c1*(s.2 - y)=0:=ey
 have eQ:c3*(q.2 - y)+c1*(s.2 - y)+c2*(p.2 - y)=0:=by omega
 have eS:c1*(s.2 - y)+c2*(p.2 - y)+c3*(q.2 - y)=0:=by omega
 by_cases mp:y < p.2 <;>by_cases mq:y < q.2 <;>by_cases ms:y < s.2
 · omega
 · 
  rcases (show (0 < c2∧0 < c3)∨(c2 < 0∧c3 < 0) by omega) with ⟨k2,k3⟩ | ⟨k2,k3⟩
  · have:=third eS k2 k3 (.inr ⟨by omega,by omega,by omega⟩);omega
  · have:=third_neg eS k2 k3 (.inr ⟨by omega,by omega,by omega⟩);omega
 · rcases (show (0 < c1∧0 < c2)∨(c1 < 0∧c2 < 0) by omega) with ⟨k2,k3⟩ | ⟨k2,k3⟩
   · have:=third eQ k2 k3 (.inr ⟨by omega,by omega,by omega⟩);omega
   · have:=third_neg eQ k2 k3 (.inr ⟨by omega,by omega,by omega⟩);omega
 · rcases (show (0 < c3∧0 < c1)∨(c3 < 0∧c1 < 0) by omega) with ⟨k2,k3⟩ | ⟨k2,k3⟩
   · have:=third eP k2 k3 (.inl ⟨by omega,by omega,by omega⟩);omega
   · have:=third_neg eP k2 k3 (.inl ⟨by omega,by omega,by omega⟩);omega
 · rcases (show (0 < c3∧0 < c1)∨(c3 < 0∧c1 < 0) by omega) with ⟨k2,k3⟩ | ⟨k2,k3⟩
   · have:=third eP k2 k3 (.inr ⟨by omega,by omega,by omega⟩);omega
   · have:=third_neg eP k2 k3 (.inr ⟨by omega,by omega,by omega⟩);omega
 · rcases (show (0 < c1∧0 < c2)∨(c1 < 0∧c2 < 0) by omega) with ⟨k2,k3⟩ | ⟨k2,k3⟩
   · have:=third eQ k2 k3 (.inl ⟨by omega,by omega,by omega⟩);omega
   · have:=third_neg eQ k2 k3 (.inl ⟨by omega,by omega,by omega⟩);omega
 · rcases (show (0 < c2∧0 < c3)∨(c2 < 0∧c3 < 0) by omega) with ⟨k2,k3⟩ | ⟨k2,k3⟩
   · have:=third eS k2 k3 (.inl ⟨by omega,by omega,by omega⟩);omega
   · have:=third_neg eS k2 k3 (.inl ⟨by omega,by omega,by omega⟩);omega
 · omega
theorem mixed {u v w P Q S:Int} (h:u*P+v*Q+w*S=0) (hu:0 < u) (hv:0 < v) (hw:0 < w):(¬ (0 < P∧0 < Q∧0 < S))∧((P≤0∧Q≤0∧S≤0)→P=0∧Q=0∧S=0):=by
 constructor
 · rintro ⟨h1,h2,h3⟩
   have:=Int.mul_pos hu h1
   have:=Int.mul_pos hv h2
   have:=Int.mul_pos hw h3
   omega
 · rintro ⟨h1,h2,h3⟩
   have k1:=Int.mul_nonneg (show 0≤u by omega) (show 0≤-P by omega)
   have k2:=Int.mul_nonneg (show 0≤v by omega) (show 0≤-Q by omega)
   have k3:=Int.mul_nonneg (show 0≤w by omega) (show 0≤-S by omega)
   rw [Int.mul_neg] at k1 k2 k3
   refine ⟨?_,?_,?_⟩
   · have z:u*P=0:=by omega
     rcases Int.mul_eq_zero.1 z with z | z <;>omega
   · have z:v*Q=0:=by omega
     rcases Int.mul_eq_zero.1 z with z | z <;>omega
   · have z:w*S=0:=by omega
     rcases Int.mul_eq_zero.1 z with z | z <;>omega
theorem tri_flat {p q s:Int × Int} {y:Int} (h1:p.2=y) (h2:q.2=y) (h3:s.2=y):area [p,q,s]=0:=by
 unfold area
 rw [cyc3]
 unfold ar2
 rw [h1,h2,h3]
 grind
theorem tri_pos {p q s:Int × Int} {x y:Int} (ha:0 < area [p,q,s]):(0 < onN [p,q,s] x y∨crN [p,q,s] x y%2=1)↔0≤crs p q x y∧0≤crs q s x y∧0≤crs s p x y:=by
 constructor
 · intro h
   by_cases ho:0 < onN [p,q,s] x y
   · rcases onN3.1 ho with k | k | k
     · have:=tri_on (s:=s) k ha
       have:=(onB_iff.1 k).1
       omega
     · have:=tri_on (s:=p) k (by rw [area_rot];exact ha)
       have:=(onB_iff.1 k).1
       omega
     · have:=tri_on (s:=q) k (by rw [area_rot,area_rot];exact ha)
       have:=(onB_iff.1 k).1
       omega
   · rcases tri_odd ho (h.resolve_left ho) with k | k
     · exact ⟨k.1,k.2.1,k.2.2.1⟩
     · omega
 · rintro ⟨k1,k2,k3⟩
   by_cases z1:crs p q x y=0
   · exact .inl (onN3.2 (.inl (tri_edge z1 k2 k3 ha)))
   by_cases z2:crs q s x y=0
   · exact .inl (onN3.2 (.inr (.inl (tri_edge z2 k3 k1 (by rw [area_rot];exact ha)))))
   by_cases z3:crs s p x y=0
   · exact .inl (onN3.2 (.inr (.inr (tri_edge z3 k1 k2 (by rw [area_rot,area_rot];exact ha)))))
   right
   have mx:=mixed (tri_y p q s x y) (by omega) (by omega) (by omega)
   have fl:¬ (p.2=y∧q.2=y∧s.2=y):=fun h=>by
    have:=tri_flat h.1 h.2.1 h.2.2
    omega
   unfold crN
   rw [cyc3]
   have h1:=bi_cases _ _ (crB_iff (p:=p) (q:=q) (x:=x) (y:=y))
   have h2:=bi_cases _ _ (crB_iff (p:=q) (q:=s) (x:=x) (y:=y))
   have h3:=bi_cases _ _ (crB_iff (p:=s) (q:=p) (x:=x) (y:=y))
   generalize bi (crB p q x y)=b1 at *
   generalize bi (crB q s x y)=b2 at *
   generalize bi (crB s p x y)=b3 at *
   generalize crs p q x y=c1 at *
   generalize crs q s x y=c2 at *
   generalize crs s p x y=c3 at *
   omega
theorem tri_none {p q s:Int × Int} {x y:Int} (ha:area [p,q,s]=0):(0 < onN [p,q,s] x y∨crN [p,q,s] x y%2=1)↔0 < onN [p,q,s] x y:=by
 constructor
 · intro h
   by_cases ho:0 < onN [p,q,s] x y
   · exact ho
   · rcases tri_odd ho (h.resolve_left ho) with k | k <;>omega
 · exact .inl
def halfA (x y u v:Int):List (Int × Int):=[(x,y),(u,y),(u,v)]
def halfB (x y u v:Int):List (Int × Int):=[(x,y),(u,v),(x,v)]
theorem area_halfA (x y u v:Int):area (halfA x y u v)=(u - x)*(v - y):=by
 unfold halfA area
 rw [cyc3]
 unfold ar2
 grind
theorem area_halfB (x y u v:Int):area (halfB x y u v)=(u - x)*(v - y):=by
 unfold halfB area
 rw [cyc3]
 unfold ar2
 grind
theorem halfA_in {x y u v s t:Int} (hx:x < u) (hy:y < v):inR (halfA x y u v) s t↔s≤u∧y≤t∧(t - y)*(u - x)≤(s - x)*(v - y):=by
 have ha:0 < area (halfA x y u v):=by rw [area_halfA];exact Int.mul_pos (by omega) (by omega)
 unfold inR
 refine (tri_pos ha).trans ?_
 unfold crs
 simp only [Int.sub_self,Int.zero_mul,Int.sub_zero,Int.zero_sub]
 have h1:0≤(u - x)*(t - y)↔y≤t:=by
  constructor
  · intro h
    by_cases c:y≤t
    · exact c
    · have:=Int.mul_lt_mul_of_pos_left (show t - y < 0 by omega) (show 0 < u - x by omega)
      rw [Int.mul_zero] at this
      omega
  · exact fun h=>Int.mul_nonneg (by omega) (by omega)
 have h2:0≤-((v - y)*(s - u))↔s≤u:=by
  constructor
  · intro h
    by_cases c:s≤u
    · exact c
    · have:=Int.mul_lt_mul_of_pos_left (show 0 < s - u by omega) (show 0 < v - y by omega)
      rw [Int.mul_zero] at this
      omega
  · intro h
    have:=Int.mul_nonneg (show 0≤v - y by omega) (show 0≤u - s by omega)
    have e:(v - y)*(u - s)= -((v - y)*(s - u)):=by grind
    omega
 have h3:0≤(x - u)*(t - v) - (y - v)*(s - u)↔(t - y)*(u - x)≤(s - x)*(v - y):=by
  have e:(x - u)*(t - v) - (y - v)*(s - u)=(s - x)*(v - y) - (t - y)*(u - x):=by grind
  omega
 rw [h1,h2,h3]
 exact ⟨fun k=>⟨k.2.1,k.1,k.2.2⟩,fun k=>⟨k.2.1,k.1,k.2.2⟩⟩
theorem halfB_in {x y u v s t:Int} (hx:x < u) (hy:y < v):inR (halfB x y u v) s t↔x≤s∧t≤v∧(s - x)*(v - y)≤(t - y)*(u - x):=by
 have ha:0 < area (halfB x y u v):=by rw [area_halfB];exact Int.mul_pos (by omega) (by omega)
 unfold inR
 refine (tri_pos ha).trans ?_
 unfold crs
 simp only [Int.sub_self,Int.zero_mul,Int.sub_zero,Int.zero_sub]
 have h1:0≤(u - x)*(t - y) - (v - y)*(s - x)↔(s - x)*(v - y)≤(t - y)*(u - x):=by
  have e:(u - x)*(t - y) - (v - y)*(s - x)=(t - y)*(u - x) - (s - x)*(v - y):=by grind
  omega
 have h2:0≤(x - u)*(t - v)↔t≤v:=by
  constructor
  · intro h
    by_cases c:t≤v
    · exact c
    · have:=Int.mul_lt_mul_of_pos_left (show 0 < t - v by omega) (show 0 < u - x by omega)
      rw [Int.mul_zero] at this
      have e:(u - x)*(t - v)= -((x - u)*(t - v)):=by grind
      omega
  · intro h
    have:=Int.mul_nonneg (show 0≤u - x by omega) (show 0≤v - t by omega)
    have e:(u - x)*(v - t)=(x - u)*(t - v):=by grind
    omega
 have h3:0≤-((y - v)*(s - x))↔x≤s:=by
  constructor
  · intro h
    by_cases c:x≤s
    · exact c
    · have:=Int.mul_lt_mul_of_pos_left (show s - x < 0 by omega) (show 0 < v - y by omega)
      rw [Int.mul_zero] at this
      have e:(v - y)*(s - x)= -((y - v)*(s - x)):=by grind
      omega
  · intro h
    have:=Int.mul_nonneg (show 0≤v - y by omega) (show 0≤s - x by omega)
    have e:(v - y)*(s - x)= -((y - v)*(s - x)):=by grind
    omega
 rw [h1,h2,h3]
 exact ⟨fun k=>⟨k.2.2,k.2.1,k.1⟩,fun k=>⟨k.2.2,k.2.1,k.1⟩⟩
theorem flat_tri {p q s:Int × Int} {x y:Int} (h:area [p,q,s]=0):inR [p,q,s] x y↔onB p q x y=true∨onB q s x y=true∨onB s p x y=true:=by
 unfold inR
 rw [tri_none h,onN3]
theorem flat_halves {x y u v s t:Int} (hx:x≤u) (hy:y≤v) (h:x=u∨y=v) :
 (inR (halfA x y u v) s t↔x≤s∧s≤u∧y≤t∧t≤v)∧(inR (halfB x y u v) s t↔x≤s∧s≤u∧y≤t∧t≤v):=by
 have ha:(u - x)*(v - y)=0:=by
  rcases h with h | h
  · rw [show u - x=0 by omega,Int.zero_mul]
  · rw [show v - y=0 by omega,Int.mul_zero]
 have h1:area [(x,y),(u,y),(u,v)]=0:=(area_halfA x y u v).trans ha
 have h2:area [(x,y),(u,v),(x,v)]=0:=(area_halfB x y u v).trans ha
 unfold halfA halfB
 rw [flat_tri h1,flat_tri h2]
 rcases h with rfl | rfl
 · simp only [onB_ver]
   omega
 · simp only [onB_hor]
   omega
theorem halves_all {x y u v s t:Int} (hx:x≤u) (hy:y≤v):(inR (halfA x y u v) s t∨inR (halfB x y u v) s t)↔x≤s∧s≤u∧y≤t∧t≤v:=by
 by_cases h:x=u∨y=v
 · rw [(flat_halves hx hy h).1,(flat_halves hx hy h).2]
   omega
 · have h1:x < u:=by omega
   have h2:y < v:=by omega
   rw [halfA_in h1 h2,halfB_in h1 h2]
   constructor
   · rintro (⟨k1,k2,k3⟩ | ⟨k1,k2,k3⟩)
     · have m1:=Int.mul_nonneg (show 0≤t - y by omega) (show 0≤u - x by omega)
       have hs:x≤s:=by
        by_cases c:x≤s
        · exact c
        · have:=Int.mul_lt_mul_of_pos_right (show s - x < 0 by omega) (show 0 < v - y by omega)
          rw [Int.zero_mul] at this
          omega
       have ht:t≤v:=by
        by_cases c:t≤v
        · exact c
        · have m2:=Int.mul_lt_mul_of_pos_right (show v - y < t - y by omega) (show 0 < u - x by omega)
          have m3:=Int.mul_le_mul_of_nonneg_right (show s - x≤u - x by omega) (show 0≤v - y by omega)
          have e:(v - y)*(u - x)=(u - x)*(v - y):=Int.mul_comm _ _
          omega
       exact ⟨hs,k1,k2,ht⟩
     · have m1:=Int.mul_nonneg (show 0≤s - x by omega) (show 0≤v - y by omega)
       have ht:y≤t:=by
        by_cases c:y≤t
        · exact c
        · have:=Int.mul_lt_mul_of_pos_right (show t - y < 0 by omega) (show 0 < u - x by omega)
          rw [Int.zero_mul] at this
          omega
       have hs:s≤u:=by
        by_cases c:s≤u
        · exact c
        · have m2:=Int.mul_lt_mul_of_pos_right (show u - x < s - x by omega) (show 0 < v - y by omega)
          have m3:=Int.mul_le_mul_of_nonneg_right (show t - y≤v - y by omega) (show 0≤u - x by omega)
          have e:(v - y)*(u - x)=(u - x)*(v - y):=Int.mul_comm _ _
          omega
       exact ⟨k1,hs,ht,k2⟩
   · rintro ⟨k1,k2,k3,k4⟩
     rcases Int.le_total ((t - y)*(u - x)) ((s - x)*(v - y)) with c | c
     · exact .inl ⟨k2,k3,c⟩
     · exact .inr ⟨k1,k4,c⟩
theorem halves_cut {x y u v s t:Int} (hx:x≤u) (hy:y≤v) (hA:inR (halfA x y u v) s t) (hB:inR (halfB x y u v) s t):(s - x)*(v - y)=(t - y)*(u - x):=by
 by_cases h:x=u∨y=v
 · have k:=(flat_halves hx hy h).1.1 hA
   rcases h with rfl | rfl
   · rw [show s - x=0 by omega,Int.zero_mul,Int.sub_self,Int.mul_zero]
   · rw [show t - y=0 by omega,Int.zero_mul,Int.sub_self,Int.mul_zero]
 · have h1:x < u:=by omega
   have h2:y < v:=by omega
   have kA:=(halfA_in h1 h2).1 hA
   have kB:=(halfB_in h1 h2).1 hB
   exact Int.le_antisymm kB.2.2 kA.2.2
end Go.Proofs.YtbnlhdnnenahfaaGreatDoor
namespace Go.Proofs.YtbnlhdnnenahfaaGreatDoor
open Go.RowKit
theorem own_addr {w:World} {base:Nat} {e:TypeId} {size:Nat} {v:Value} {n:Nat} {xs:List Value} (h:w.ownsRow base e size v n xs):Addressed v:=by
 rcases h.2 with ⟨rfl,_⟩ | ⟨g,c,cur,rfl,_⟩
 · exact .inl rfl
 · exact .inr ⟨_,_,_,rfl⟩
end Go.Proofs.YtbnlhdnnenahfaaGreatDoor
