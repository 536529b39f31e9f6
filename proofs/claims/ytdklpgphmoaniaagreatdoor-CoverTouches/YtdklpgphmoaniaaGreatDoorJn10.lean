/-
  The library's choice of a pivot, at this program: it lies within the part asked about; nothing of the row is written; in whatever memory.
-/
import Derived.Test.YtdklpgphmoaniaaGreatDoorSPartX
import Derived.Test.YtdklpgphmoaniaaGreatDoorI1X
import Derived.Sort.WalkA6
import Derived.Sort.WalkB3
import Derived.Shelf.Small.Bits
namespace Go.Proofs.YtdklpgphmoaniaaGreatDoor
open Go.RowKit
def Sw (B:Nat) (w:World):Prop:=(∃ s,w.cell? ⟨B,0,none⟩=some (.int .i64 s))∧w.frozen? ⟨B,0,none⟩=false
theorem hold_below {w w':World} {g off B:Nat} {d:Array Int} (h:Sort.Holds (Value.int .u64) w g off d) (hb:Below B w w') (hgB:g < B):Sort.Holds (Value.int .u64) w' g off d:=fun t ht=>by
 rw [hb.cell (by exact hgB),hb.frozen (by exact hgB)];exact h t ht
theorem hold_fam {w:World} {g off:Nat} {d:Array Int} (h:Sort.Holds (Value.int .u64) w g off d):∃ G:Nat→Int,(∀ t,G t=d[t]!)∧(∀ t,t < d.size→w.cell? ⟨g,off+t,none⟩=some (.int .u64 (G t)))∧∀ t,t < d.size→w.frozen? ⟨g,off+t,none⟩=false :=
 ⟨fun t=>d[t]!,fun _=>rfl,fun t ht=>(h t ht).1,fun t ht=>(h t ht).2⟩
theorem sw_store {B:Nat} {w:World} {s:Int} (h:w.cell? ⟨B,0,none⟩=some (.int .i64 s)) (hf:w.frozen? ⟨B,0,none⟩=false) (x:Int):Sw B (w.setCell ⟨B,0,none⟩ (.int .i64 x)) :=
 ⟨⟨x,World.cell?_setCell_same _ _ _ h⟩,by simp [hf]⟩
set_option maxHeartbeats 2000000 in
theorem u_order2 (g off cap x y n B:Nat) (d:Array Int) (hn:d.size=n) (w:World) (hH:Sort.Holds (Value.int .u64) w g off d) (hS:Sw B w) (hx:x < n) (hy:y < n) :
 Calls Tryz.prog 179 #[.slice (some ⟨g,off,none⟩) n cap,.int .i64 x,.int .i64 y,.pointer (some ⟨B,0,none⟩)] w fun e w' =>
  (∃ p q:Nat,e=.returned (.tuple #[.int .i64 p,.int .i64 q])∧(p=x∧q=y∨p=y∧q=x))∧Sw B w'∧Below B w w':=by
 obtain ⟨G,hG,hcw,hfw⟩:=hold_fam hH
 rw [hn] at hcw hfw
 obtain ⟨⟨s,hs⟩,hf⟩:=hS
 clear hG hH hn
 go_enter Tryz.func179,Tryz.ntmps179
 go_wp2_with fail
 go_big_quiet (first | (go_at_call 150;refine Calls.quiet_of_same (u_less _ _ _)))
 go_wp2
 · go_ret2
   exact ⟨⟨y,x,rfl,Or.inr ⟨rfl,rfl⟩⟩,sw_store (w:=w.drewN nq) hs hf _,Below.setCell (p:=⟨B,0,none⟩) (belowN (Below.refl B w) nq) (Nat.le_refl B) _⟩
 · go_ret2
   exact ⟨⟨x,y,rfl,Or.inl ⟨rfl,rfl⟩⟩,⟨⟨s,hs⟩,hf⟩,belowN (Below.refl _ _) nq⟩
set_option maxHeartbeats 2000000 in
theorem u_median (g off cap x y z n B:Nat) (d:Array Int) (hn:d.size=n) (w:World) (hH:Sort.Holds (Value.int .u64) w g off d) (hgB:g < B) (hS:Sw B w) (hx:x < n) (hy:y < n) (hz:z < n) :
 Calls Tryz.prog 174 #[.slice (some ⟨g,off,none⟩) n cap,.int .i64 x,.int .i64 y,.int .i64 z,.pointer (some ⟨B,0,none⟩)] w fun e w' =>
  (∃ p:Nat,e=.returned (.int .i64 p)∧(p=x∨p=y∨p=z))∧Sw B w'∧Below B w w':=by
 have H0:Hid (Sort.Holds (Value.int .u64) w g off d):=hH
 have S0:Hid (Sw B w):=hS
 clear hH hS
 go_enter Tryz.func174,Tryz.ntmps174
 go_wp2_with fail
 refine (u_order2 g off cap x y n B d hn w H0.out S0.out hx hy).mono ?_
 rintro e w1 ⟨⟨p1,q1,rfl,h1⟩,s1,b1⟩
 have S1:Hid (Sw B w1):=s1
 have H1:Hid (Sort.Holds (Value.int .u64) w1 g off d):=hold_below H0.out b1 hgB
 have L1:p1 < n∧q1 < n:=by omega
 have C1:Hid (p1=x∧q1=y∨p1=y∧q1=x):=h1
 clear s1 h1
 go_wp2_with fail
 refine (u_order2 g off cap q1 z n B d hn w1 H1.out S1.out L1.2 hz).mono ?_
 rintro e w2 ⟨⟨p2,q2,rfl,h2⟩,s2,b2⟩
 have S2:Hid (Sw B w2):=s2
 have H2:Hid (Sort.Holds (Value.int .u64) w2 g off d):=hold_below H1.out b2 hgB
 have L2:p2 < n∧q2 < n:=by omega
 have C2:Hid (p2=q1∧q2=z∨p2=z∧q2=q1):=h2
 clear s2 h2
 go_wp2_with fail
 refine (u_order2 g off cap p1 p2 n B d hn w2 H2.out S2.out L1.1 L2.1).mono ?_
 rintro e w3 ⟨⟨p3,q3,rfl,h3⟩,s3,b3⟩
 have S3:Hid (Sw B w3):=s3
 have C3:Hid (p3=p1∧q3=p2∨p3=p2∧q3=p1):=h3
 clear s3 h3
 go_wp2_with fail
 go_ret
 exact ⟨⟨q3,rfl,by have:=C1.out;have:=C2.out;have:=C3.out;omega⟩,S3.out,(b1.trans b2).trans b3⟩
set_option maxHeartbeats 2000000 in
theorem u_median3 (g off cap x n B:Nat) (d:Array Int) (hn:d.size=n) (w:World) (hH:Sort.Holds (Value.int .u64) w g off d) (hgB:g < B) (hS:Sw B w) (h1:1≤x) (hx:x+1 < n) (hsz:n < 4611686018427387904) :
 Calls Tryz.prog 173 #[.slice (some ⟨g,off,none⟩) n cap,.int .i64 x,.pointer (some ⟨B,0,none⟩)] w fun e w' =>
  (∃ p:Nat,e=.returned (.int .i64 p)∧x≤p+1∧p≤x+1)∧Sw B w'∧Below B w w':=by
 have H0:Hid (Sort.Holds (Value.int .u64) w g off d):=hH
 have S0:Hid (Sw B w):=hS
 clear hH hS
 go_enter Tryz.func173,Tryz.ntmps173
 go_wp2_with fail
 rw [show ((x:Int) - 1)=((x - 1:Nat):Int) by omega,show ((x:Int)+1)=((x+1:Nat):Int) by omega]
 refine (u_median g off cap (x - 1) x (x+1) n B d hn w H0.out hgB S0.out (by omega) (by omega) (by omega)).mono ?_
 rintro e w1 ⟨⟨p1,rfl,C1⟩,s1,b1⟩
 have S1:Hid (Sw B w1):=s1
 replace C1:Hid _:=C1
 clear s1
 go_wp2_with fail
 go_ret
 exact ⟨⟨p1,rfl,by have:=C1.out;omega,by have:=C1.out;omega⟩,S1.out,b1⟩
def PivSay (a b:Nat) (e:Ending):Prop:=∃ (p:Nat) (h:Int),e=.returned (.tuple #[.int .i64 p,.int .i64 h])∧a≤p∧p < b∧0≤h∧h≤2
set_option maxHeartbeats 4000000 in
theorem u_pivot (g off cap a b n:Nat) (d:Array Int) (hn:d.size=n) (w:World) (hH:Sort.Holds (Value.int .u64) w g off d) (hg:g < w.heap.size) (hab:a < b) (hb:b≤n) (hsz:n < 4611686018427387904) :
 Calls Tryz.prog 147 #[.slice (some ⟨g,off,none⟩) n cap,.int .i64 a,.int .i64 b] w fun e w'=>PivSay a b e∧Below w.heap.size w w':=by
 have H0:Hid (Sort.Holds (Value.int .u64) w g off d):=hH
 clear hH
 obtain ⟨m,hm⟩:∃ m,b - a=m:=⟨_,rfl⟩
 have EB:(b:Int) - (a:Int)=(m:Int):=by omega
 obtain ⟨q,hq⟩:∃ q,m / 4=q:=⟨_,rfl⟩
 have EQ:((m:Int)).tdiv 4=(q:Int):=by rw [← hq];rfl
 have HA:Sort.Holds (Value.int .u64) (w.alloc (.cells #[.int .i64 0] 3)) g off d:=hold_below H0.out (allocB w _) hg
 have SA:Sw w.heap.size (w.alloc (.cells #[.int .i64 0] 3)):=⟨⟨0,by go_simp⟩,by go_simp⟩
 obtain ⟨I,hI⟩:∃ I,a+q=I:=⟨_,rfl⟩
 obtain ⟨J,hJ⟩:∃ J,a+q*2=J:=⟨_,rfl⟩
 obtain ⟨K,hK⟩:∃ K,a+q*3=K:=⟨_,rfl⟩
 have eI:Hid ((a:Int)+(q:Int)=(I:Int)):=hid_mk (by omega)
 have eJ:Hid ((a:Int)+(q:Int)*2=(J:Int)):=hid_mk (by omega)
 have eK:Hid ((a:Int)+(q:Int)*3=(K:Int)):=hid_mk (by omega)
 go_enter Tryz.func147,Tryz.ntmps147
 go_wp2_with fail
 · have hm50:50≤m:=by omega
   rw [eI.out,eJ.out,eK.out]
   refine (u_median3 g off cap I n w.heap.size d hn _ HA hg SA (by omega) (by omega) hsz).mono ?_
   rintro e w1 ⟨⟨p1,rfl,l1⟩,s1,b1⟩
   have S1:Hid (Sw w.heap.size w1):=s1
   have H1:Hid (Sort.Holds (Value.int .u64) w1 g off d):=hold_below HA b1 hg
   have L1:Hid _:=l1
   have hB:Below w.heap.size w w1:=Below.trans (by go_grown) (b1.mono (by simp))
   clear s1 l1 b1
   go_wp2_with fail
   refine (u_median3 g off cap J n w.heap.size d hn _ H1.out hg S1.out (by omega) (by omega) hsz).mono ?_
   rintro e w2 ⟨⟨p2,rfl,l2⟩,s2,b2⟩
   have S2:Hid (Sw w.heap.size w2):=s2
   have H2:Hid (Sort.Holds (Value.int .u64) w2 g off d):=hold_below H1.out b2 hg
   have L2:Hid _:=l2
   replace hB:=hB.trans b2
   clear s2 l2 b2
   go_wp2_with fail
   refine (u_median3 g off cap K n w.heap.size d hn _ H2.out hg S2.out (by omega) (by omega) hsz).mono ?_
   rintro e w3 ⟨⟨p3,rfl,l3⟩,s3,b3⟩
   have S3:Hid (Sw w.heap.size w3):=s3
   have H3:Hid (Sort.Holds (Value.int .u64) w3 g off d):=hold_below H2.out b3 hg
   have L3:Hid _:=l3
   replace hB:=hB.trans b3
   clear s3 l3 b3
   go_wp2_with fail
   refine (u_median g off cap p1 p2 p3 n w.heap.size d hn _ H3.out hg S3.out (by have:=L1.out;omega) (by have:=L2.out;omega) (by have:=L3.out;omega)).mono ?_
   rintro e w4 ⟨⟨p4,rfl,l4⟩,s4,b4⟩
   have S4:Hid (Sw w.heap.size w4):=s4
   have H4:Hid (Sort.Holds (Value.int .u64) w4 g off d):=hold_below H3.out b4 hg
   have L4:Hid (a≤p4∧p4 < b):=by have:=L1.out;have:=L2.out;have:=L3.out;exact ⟨by omega,by omega⟩
   replace hB:=hB.trans b4
   clear s4 l4 b4
   obtain ⟨⟨s,hs⟩,-⟩:=S4.out
   have hP:Hid (a≤p4∧p4 < b):=by have:=L4.out;exact ⟨by omega,by omega⟩
   clear L4
   go_wp2
   all_goals
    go_ret2
    exact ⟨⟨p4,_,rfl,hP.out.1,hP.out.2,by omega,by omega⟩,hB⟩
 · rw [eI.out,eJ.out,eK.out]
   refine (u_median g off cap I J K n w.heap.size d hn _ HA hg SA (by omega) (by omega) (by omega)).mono ?_
   rintro e w1 ⟨⟨p1,rfl,l1⟩,s1,b1⟩
   have S1:Hid (Sw w.heap.size w1):=s1
   have H1:Hid (Sort.Holds (Value.int .u64) w1 g off d):=hold_below HA b1 hg
   have L1:Hid (a≤p1∧p1 < b):=⟨by omega,by omega⟩
   have hB:Below w.heap.size w w1:=Below.trans (by go_grown) (b1.mono (by simp))
   clear s1 l1 b1
   obtain ⟨⟨s,hs⟩,-⟩:=S1.out
   have hP:Hid (a≤p1∧p1 < b):=by have:=L1.out;exact ⟨by omega,by omega⟩
   clear L1
   go_wp2
   all_goals
    go_ret2
    exact ⟨⟨p1,_,rfl,hP.out.1,hP.out.2,by omega,by omega⟩,hB⟩
 · rw [eJ.out]
   go_ret2
   exact ⟨⟨J,_,rfl,by omega,by omega,by omega,by omega⟩,by go_grown⟩
end Go.Proofs.YtdklpgphmoaniaaGreatDoor
namespace Go.Proofs.YtdklpgphmoaniaaGreatDoor
open Go.RowKit Go.Shelf
def Tag (g:Nat) (w w':World):Prop:=∀ c e fr,w.heap[g]?=some (.cells c e fr)→∃ c',c'.size=c.size∧w'.heap[g]?=some (.cells c' e fr)
theorem Tag.refl (g:Nat) (w:World):Tag g w w:=fun c _ _ h=>⟨c,rfl,h⟩
theorem Tag.trans {g:Nat} {a b c:World} (h:Tag g a b) (k:Tag g b c):Tag g a c:=fun x e fr hx=>by
 obtain ⟨y,hy,h1⟩:=h x e fr hx
 obtain ⟨z,hz,h2⟩:=k y e fr h1
 exact ⟨z,hz.trans hy,h2⟩
theorem Tag.below {g B:Nat} {a b:World} (h:Below B a b) (hg:g < B):Tag g a b:=fun c e fr hc=>⟨c,rfl,by rw [h.block g hg];exact hc⟩
theorem Tag.draws {g:Nat} {a b:World} (h:Tag g a b) (q:Nat):Tag g a (b.drewN q):=h
theorem tag_put (w:World) (g off n:Nat) (d:Array Int):Tag g w (Sort.putRow (Value.int .u64) (Sort.ahead w n) g off d):=fun c e fr hc=>by
 refine ⟨Sort.putCells (Value.int .u64) off d c,by simp [Sort.putCells],?_⟩
 show (w.heap.modify g _)[g]?=_
 rw [Array.getElem?_modify,if_pos rfl,hc]
 rfl
theorem tag_st {w w':World} {g off:Nat} {d0 d:Array Int} (hg:g < w.heap.size) (h:St w g off d0 d w'):Tag g w w':=by
 obtain ⟨n,os,rfl⟩:=h.2
 intro c e fr hc
 obtain ⟨c',h1,h2⟩:=tag_put w g off n d c e fr hc
 refine ⟨c',h1,?_⟩
 rw [Sort.heap_grow_old _ _ (by simp [Sort.putRow,Sort.mapBlock,Sort.ahead];omega)]
 exact h2
def Rw (w:World) (g off:Nat) (d0 d:Array Int) (w':World):Prop:=d.size=d0.size∧Sort.Holds (Value.int .u64) w' g off d∧Below g w w'∧Tag g w w'
theorem st_below {w w':World} {g off:Nat} {d0 d:Array Int} (hg:g < w.heap.size) (h:St w g off d0 d w'):Below g w w':=by
 obtain ⟨n,os,rfl⟩:=h.2
 refine ⟨rfl,rfl,rfl,?_,fun k hk=>?_⟩
 · simp [Sort.grow,Sort.putRow,Sort.mapBlock,Sort.ahead]
 · have h1:(Sort.grow (Sort.putRow (Value.int .u64) (Sort.ahead w n) g off d) os).heap=(Sort.putRow (Value.int .u64) (Sort.ahead w n) g off d).heap++os:=rfl
   rw [h1,Array.getElem?_append_left (by simp [Sort.putRow,Sort.mapBlock,Sort.ahead];omega)]
   show (w.heap.modify g _)[k]?=_
   rw [Array.getElem?_modify,if_neg (by omega)]
theorem Rw.refl {w:World} {g off:Nat} {d:Array Int} (h:Sort.Holds (Value.int .u64) w g off d):Rw w g off d d w:=⟨rfl,h,Below.refl _ _,Tag.refl _ _⟩
theorem Rw.of_st {w w':World} {g off:Nat} {d0 d:Array Int} (h0:Sort.Holds (Value.int .u64) w g off d0) (hg:g < w.heap.size) (h:St w g off d0 d w'):Rw w g off d0 d w':=⟨h.1,(h.hold h0 hg).1,st_below hg h,tag_st hg h⟩
theorem Rw.trans {w w' w2:World} {g off:Nat} {d0 d d2:Array Int} (h:Rw w g off d0 d w') (h2:Rw w' g off d d2 w2):Rw w g off d0 d2 w2:=⟨h2.1.trans h.1,h2.2.1,h.2.2.1.trans h2.2.2.1,h.2.2.2.trans h2.2.2.2⟩
theorem Rw.size {w w':World} {g off:Nat} {d0 d:Array Int} (h:Rw w g off d0 d w') (hg:g < w.heap.size):g < w'.heap.size:=Nat.lt_of_lt_of_le hg h.2.2.1.size
theorem Rw.below {w w' w2:World} {g off B:Nat} {d0 d:Array Int} (h:Rw w g off d0 d w') (hb:Below B w' w2) (hB:g < B):Rw w g off d0 d w2:=⟨h.1,hold_below h.2.1 hb hB,h.2.2.1.trans (hb.mono (by omega)),h.2.2.2.trans (Tag.below hb hB)⟩
theorem Rw.fam {w w':World} {g off:Nat} {d0 d:Array Int} (h:Rw w g off d0 d w') :
 ∃ G:Nat→Int,(∀ t,G t=d[t]!)∧(∀ t,t < d0.size→w'.cell? ⟨g,off+t,none⟩=some (.int .u64 (G t)))∧∀ t,t < d0.size→w'.frozen? ⟨g,off+t,none⟩=false:=by
 rw [← h.1];exact hold_fam h.2.1
theorem Rw.swap {w w':World} {g off:Nat} {d0 d:Array Int} (h:Rw w g off d0 d w') (hg:g < w.heap.size) {G:Nat→Int} (hG:∀ t,G t=d[t]!) {j k:Nat} (hj:j < d0.size) (hk:k < d0.size) (q:Nat) :
 Rw w g off d0 (Sort.swp d j k) (((w'.drewN q).setCell ⟨g,off+j,none⟩ (.int .u64 (G k))).setCell ⟨g,off+k,none⟩ (.int .u64 (G j))) :=
 h.trans (Rw.of_st h.2.1 (h.size hg) ((St.refl h.2.1).swap h.2.1 (h.size hg) hG (by rw [h.1];exact hj) (by rw [h.1];exact hk) q))
theorem Rw.drawn {w w':World} {g off:Nat} {d0 d:Array Int} (h:Rw w g off d0 d w') (q:Nat):Rw w g off d0 d (w'.drewN q):=⟨h.1,h.2.1,belowN h.2.2.1 q,h.2.2.2.draws q⟩
def Tryz.lays125_ren:Go.Shelf.Ren:=⟨fun | 125=>115 | 128=>153 | 129=>154 | n=>n,fun | 46=>67 | 3=>3 | 51=>206 | 53=>31 | 4=>4 | 5=>5 | 9=>9 | n=>n,fun | n=>n⟩
theorem Tryz.lays125:Go.Proofs.Lays.n125 Tryz.prog Tryz.lays125_ren:={
 mixed:=by kernel_rfl,
 f125:=Tryz.func115.trans (congrArg some (by kernel_rfl)),
 f128:=Tryz.func153.trans (congrArg some (by kernel_rfl)),
 f129:=Tryz.func154.trans (congrArg some (by kernel_rfl)),
 t3:=Tryz.underlying3,
 a3:=Tryz.isAgg3,
 z3:=Tryz.sizeOf3,
 v3:=Tryz.zeroValue3,
 t4:=Tryz.underlying4,
 a4:=Tryz.isAgg4,
 z4:=Tryz.sizeOf4,
 v4:=Tryz.zeroValue4,
 t5:=Tryz.underlying5,
 a5:=Tryz.isAgg5,
 z5:=Tryz.sizeOf5,
 v5:=Tryz.zeroValue5,
 t9:=Tryz.underlying9,
 a9:=Tryz.isAgg9,
 z9:=Tryz.sizeOf9,
 v9:=Tryz.zeroValue9,
 t46:=Tryz.underlying67,
 a46:=Tryz.isAgg67,
 z46:=Tryz.sizeOf67,
 v46:=Tryz.zeroValue67,
 t51:=Tryz.underlying206,
 a51:=Tryz.isAgg206,
 z51:=Tryz.sizeOf206,
 v51:=Tryz.zeroValue206,
 t53:=Tryz.underlying31,
 a53:=Tryz.isAgg31,
 z53:=Tryz.sizeOf31,
 v53:=Tryz.zeroValue31 }
theorem bits_len (x:Int) (w:World) (h0:0≤x) (h1:x≤18446744073709551615) :
 Calls Tryz.prog 115 #[.int .u64 x] w fun e w'=>e=.returned (.int .i64 (Lib.bitLen x.toNat))∧w'=w:=Any.bits_Len Tryz.lays125 x w h0 h1
theorem bitLen_box:∀ (f x:Nat),x < 2^f→f≤64→Lib.bitLen x≤f∧x < 2^Lib.bitLen x∧(1≤x→2^Lib.bitLen x≤2*x)
 | 0,x,h,_=>by
  obtain rfl:x=0:=by simpa using h
  decide
 | f+1,x,h,hf=>by
  by_cases h0:x=0
  · subst h0;have h1:Lib.bitLen 0=0:=by decide
    rw [h1];omega
  · have h64:x < 2^64:=Nat.lt_of_lt_of_le h (Nat.pow_le_pow_right (by omega) hf)
    have ih:=bitLen_box f (x / 2) (by rw [Nat.pow_succ] at h;omega) (by omega)
    rw [Lib.bitLen_half x h0 h64,Nat.add_comm,Nat.pow_succ]
    refine ⟨by omega,by omega,fun _=>?_⟩
    by_cases h2:x / 2=0
    · rw [h2,show Lib.bitLen 0=0 by decide];omega
    · have:=ih.2.2 (by omega);omega
set_option maxHeartbeats 1000000 in
theorem u_pow2 (n:Nat) (h1:1≤n) (h2:n < 4611686018427387904):∃ M:Nat,n < M∧M≤2*n∧∀ w,Calls Tryz.prog 171 #[.int .i64 n] w fun e w'=>e=.returned (.int .u64 M)∧w'=w:=by
 have hb:=bitLen_box 62 n (by omega) (by omega)
 obtain ⟨k,hk⟩:∃ k,Lib.bitLen n=k:=⟨_,rfl⟩
 rw [hk] at hb
 refine ⟨2^k,hb.2.1,hb.2.2 h1,fun w=>?_⟩
 have L:∀ w,Calls Tryz.prog 115 #[.int .u64 n] w fun e w'=>e=.returned (.int .i64 (k:Int))∧w'=w:=fun w=>by
  have:=bits_len (n:Int) w (by omega) (by omega)
  rw [show ((n:Int)).toNat=n by omega,hk] at this
  exact this
 have k62:k≤62:=hb.1
 obtain ⟨M,hM⟩:∃ M:Nat,2^k=M:=⟨_,rfl⟩
 have HM:Hid (2^k=M):=hM
 have hM2:M≤2*n:=by rw [← hM];exact hb.2.2 h1
 clear hM
 replace hk:Hid _:=hk
 clear hb
 go_enter Tryz.func171,Tryz.ntmps171
 go_wp2_with (first | (go_at_call 115;refine (L _).mono ?_;rintro e w' ⟨rfl,rfl⟩))
 have e:IntKind.u64.wrap ((2:Int)^k)=((2^k:Nat):Int):=by
  have hp:((2:Int)^k)=((2^k:Nat):Int):=by simp
  rw [hp,HM.out]
  exact u64_wrap ⟨by omega,by omega⟩
 rw [e]
 go_ret
 exact ⟨rfl,rfl⟩
theorem u64_any (x:Int):U64 (IntKind.u64.wrap x):=by rw [IntKind.wrap_u64];unfold U64;omega
set_option maxHeartbeats 2000000 in
theorem u_next (B:Nat) (r:Int) (hr:U64 r) (w:World) (hc:w.cell? ⟨B,0,none⟩=some (.int .u64 r)) (hf:w.frozen? ⟨B,0,none⟩=false) :
 Calls Tryz.prog 172 #[.pointer (some ⟨B,0,none⟩)] w fun e w'=>∃ x:Nat,e=.returned (.int .u64 x)∧x < 18446744073709551616∧w'.cell? ⟨B,0,none⟩=some (.int .u64 x)∧w'.frozen? ⟨B,0,none⟩=false∧Below B w w':=by
 go_enter Tryz.func172,Tryz.ntmps172
 have U1:U64 (bits .xor .u64 r (IntKind.u64.wrap (r*8192))):=u64_xor_box hr (u64_any _)
 have C1:((w.setCell ⟨B,0,none⟩ (.int .u64 (bits .xor .u64 r (IntKind.u64.wrap (r*8192))))).drew).cell? ⟨B,0,none⟩=some (.int .u64 (bits .xor .u64 r (IntKind.u64.wrap (r*8192)))):=World.cell?_setCell_same _ _ _ hc
 have F1:((w.setCell ⟨B,0,none⟩ (.int .u64 (bits .xor .u64 r (IntKind.u64.wrap (r*8192))))).drew).frozen? ⟨B,0,none⟩=false:=by go_simp
 have B1:Below B w ((w.setCell ⟨B,0,none⟩ (.int .u64 (bits .xor .u64 r (IntKind.u64.wrap (r*8192))))).drew):=(Below.setCell (p:=⟨B,0,none⟩) (Below.refl B w) (Nat.le_refl B) _).drew
 go_wp2_with fail
 go_region
 clear hc hf
 generalize bits .xor .u64 r (IntKind.u64.wrap (r*8192))=x1 at U1 C1 F1 B1 ⊢
 generalize (w.setCell ⟨B,0,none⟩ (.int .u64 x1)).drew=W1 at C1 F1 B1 ⊢
 have U2:U64 (bits .xor .u64 x1 (x1 / 128)):=u64_xor_box U1 (u64_div U1 (by omega))
 have C2:((W1.setCell ⟨B,0,none⟩ (.int .u64 (bits .xor .u64 x1 (x1 / 128)))).drew).cell? ⟨B,0,none⟩=some (.int .u64 (bits .xor .u64 x1 (x1 / 128))):=World.cell?_setCell_same _ _ _ C1
 have F2:((W1.setCell ⟨B,0,none⟩ (.int .u64 (bits .xor .u64 x1 (x1 / 128)))).drew).frozen? ⟨B,0,none⟩=false:=by go_simp
 have B2:Below B w ((W1.setCell ⟨B,0,none⟩ (.int .u64 (bits .xor .u64 x1 (x1 / 128)))).drew):=(Below.setCell (p:=⟨B,0,none⟩) B1 (Nat.le_refl B) _).drew
 go_wp2_with fail
 go_region
 generalize bits .xor .u64 x1 (x1 / 128)=x2 at U2 C2 F2 B2 ⊢
 generalize (W1.setCell ⟨B,0,none⟩ (.int .u64 x2)).drew=W2 at C2 F2 B2 ⊢
 clear C1 F1 U1 B1
 have U3:U64 (bits .xor .u64 x2 (IntKind.u64.wrap (x2*131072))):=u64_xor_box U2 (u64_any _)
 have C3:((W2.setCell ⟨B,0,none⟩ (.int .u64 (bits .xor .u64 x2 (IntKind.u64.wrap (x2*131072))))).drew).cell? ⟨B,0,none⟩=some (.int .u64 (bits .xor .u64 x2 (IntKind.u64.wrap (x2*131072)))):=World.cell?_setCell_same _ _ _ C2
 have F3:((W2.setCell ⟨B,0,none⟩ (.int .u64 (bits .xor .u64 x2 (IntKind.u64.wrap (x2*131072))))).drew).frozen? ⟨B,0,none⟩=false:=by go_simp
 have B3:Below B w ((W2.setCell ⟨B,0,none⟩ (.int .u64 (bits .xor .u64 x2 (IntKind.u64.wrap (x2*131072))))).drew):=(Below.setCell (p:=⟨B,0,none⟩) B2 (Nat.le_refl B) _).drew
 go_wp2_with fail
 go_region
 generalize bits .xor .u64 x2 (IntKind.u64.wrap (x2*131072))=x3 at U3 C3 F3 B3 ⊢
 generalize (W2.setCell ⟨B,0,none⟩ (.int .u64 x3)).drew=W3 at C3 F3 B3 ⊢
 clear C2 F2 U2 B2
 obtain ⟨x,rfl⟩:∃ x:Nat,x3=x:=⟨x3.toNat,by have:=U3.1;omega⟩
 go_wp2
 go_ret
 exact ⟨x,rfl,by have:=U3.2;omega,C3,F3,B3⟩
theorem and_below (x M:Nat) (hx:x < 18446744073709551616) (h1:1≤M) (hM:M < 18446744073709551616):∃ O:Nat,O < M∧bits .and .u64 (x:Int) ((M:Int) - 1)=(O:Int) :=
 ⟨x &&& (M - 1),by have:=Nat.and_le_right (n:=x) (m:=M - 1);omega,by rw [show ((M:Int) - 1)=((M - 1:Nat):Int) by omega,bits_and_u64_nat _ _ hx (by omega)]⟩
set_option maxHeartbeats 4000000 in
set_option maxRecDepth 100000 in
theorem u_brk (g off cap a b n:Nat) (d:Array Int) (hn:d.size=n) (w:World) (hH:Sort.Holds (Value.int .u64) w g off d) (hg:g < w.heap.size) (hab:a≤b) (hb:b≤n) (hsz:n < 4611686018427387904) :
 Calls Tryz.prog 146 #[.slice (some ⟨g,off,none⟩) n cap,.int .i64 a,.int .i64 b] w fun e w'=>e=.returned (.tuple #[])∧∃ d',Sort.PermIn a b d d'∧Rw w g off d d' w':=by
 have H0:Hid (Sort.Holds (Value.int .u64) w g off d):=hH
 have HN:Hid (d.size=n):=hn
 clear hH hn
 obtain ⟨m,hm⟩:∃ m,b - a=m:=⟨_,rfl⟩
 have EB:(b:Int) - (a:Int)=(m:Int):=by omega
 obtain ⟨q,hq⟩:∃ q,m / 4=q:=⟨_,rfl⟩
 have EQ:((m:Int)).tdiv 4=(q:Int):=by rw [← hq];rfl
 have S0:Hid (Rw w g off d d w):=Rw.refl H0.out
 by_cases h8:8≤m
 · have h8z:decide (8≤(m:Int))=true:=decide_eq_true (by omega)
   obtain ⟨M,hM1,hM2,hP⟩:=u_pow2 m (by omega) (by omega)
   replace hP:Hid _:=hP
   have S1:Hid (Rw w g off d d (w.alloc (.cells #[.int .u64 m] 223))):=S0.out.below (allocB w _) hg
   go_enter Tryz.func146,Tryz.ntmps146
   go_wp2_with (first | (go_at_call 171;refine (hP.out _).mono ?_;rintro e w' ⟨rfl,rfl⟩))
   go_loopw [9] (fun vi wr=>∃ (i:Nat) (r:Int) (dk:Array Int),vi=.int .i64 i∧a+q*2≤i+1∧i≤a+q*2+2∧wr.cell? ⟨w.heap.size,0,none⟩=some (.int .u64 r)∧wr.frozen? ⟨w.heap.size,0,none⟩=false∧U64 r∧Hid (Rw w g off d dk wr∧Sort.PermIn a b d dk)) (fun vi _=>a+q*2+2 - (intOf vi).toNat)
   case atStart=>exact ⟨a+q*2 - 1,m,d,by congr 1;omega,by omega,by omega,by go_simp,by go_simp,⟨by omega,by omega⟩,S1.out,perm_refl _ _ _⟩
   case round =>
    obtain ⟨i,r,dk,rfl,hi1,hi2,hc,hf,hr,hS⟩:=hrel
    clear S0 S1 hP
    by_cases hi:i≤a+q*2+1
    · go_wp2_with fail
      refine (u_next w.heap.size r hr wr hc hf).mono ?_
      rintro e w1 ⟨x,rfl,hx,hc1,hf1,hb1⟩
      have S1:Hid (Rw w g off d dk w1):=hS.out.1.below hb1 hg
      have P1:Hid (Sort.PermIn a b d dk):=hS.out.2
      clear hS hb1 hc hf
      obtain ⟨O,hO,eO⟩:=and_below x M hx (by omega) (by omega)
      obtain ⟨G,hG,hcw,hfw⟩:=S1.out.fam
      rw [HN.out] at hcw hfw
      have HG:Hid (∀ t,G t=dk[t]!):=hG
      clear hG
      by_cases hOm:m≤O
      · have hOz:decide ((m:Int)≤(O:Int))=true:=decide_eq_true (by omega)
        have lk:a+(O - m) < n:=by omega
        have li:i < n:=by omega
        have P2:Hid (Sort.PermIn a b d (Sort.swp dk i (a+(O - m)))):=perm_trans P1.out (swp_perm _ _ _ _ _ (by omega) (by omega) (by omega) (by omega) (by rw [S1.out.1,HN.out];omega))
        have S2:Hid (Rw w g off d (Sort.swp dk i (a+(O - m))) (((w1.setCell ⟨g,off+i,none⟩ (.int .u64 (G (a+(O - m))))).setCell ⟨g,off+(a+(O - m)),none⟩ (.int .u64 (G i))).drew)):=S1.out.swap hg HG.out (by rw [HN.out];omega) (by rw [HN.out];omega) 1
        obtain ⟨y3,hy3⟩:=cell?_setCell_some (w:=w1) (p:=⟨g,off+i,none⟩) (x:=.int .u64 (G (a+(O - m)))) (q:=⟨g,off+(a+(O - m)),none⟩) (hcw _ (by omega))
        have hne:g≠w.heap.size:=by omega
        by_cases hEq:i=a+(O - m)
        all_goals
         go_wp2_with fail
         go_region
         all_goals go_wp2_with fail
         go_roundw
         case rel=>exact ⟨i+1,x,_,by go_num,by omega,by omega,store_keep (store_keep hc1 (fun e=>hne (congrArg Addr.block e))) (fun e=>hne (congrArg Addr.block e)),by simp [hf1],⟨by omega,by omega⟩,by first | exact S2.out | (rw [hEq] at S2;exact S2.out),by first | exact P2.out | (rw [hEq] at P2;exact P2.out)⟩
         case measure=>simp [intOf];omega
      · have hOz:decide ((m:Int)≤(O:Int))=false:=df (by omega)
        have lk:a+O < n:=by omega
        have li:i < n:=by omega
        have P2:Hid (Sort.PermIn a b d (Sort.swp dk i (a+O))):=perm_trans P1.out (swp_perm _ _ _ _ _ (by omega) (by omega) (by omega) (by omega) (by rw [S1.out.1,HN.out];omega))
        have S2:Hid (Rw w g off d (Sort.swp dk i (a+O)) (((w1.setCell ⟨g,off+i,none⟩ (.int .u64 (G (a+O)))).setCell ⟨g,off+(a+O),none⟩ (.int .u64 (G i))).drew)):=S1.out.swap hg HG.out (by rw [HN.out];omega) (by rw [HN.out];omega) 1
        obtain ⟨y3,hy3⟩:=cell?_setCell_some (w:=w1) (p:=⟨g,off+i,none⟩) (x:=.int .u64 (G (a+O))) (q:=⟨g,off+(a+O),none⟩) (hcw _ (by omega))
        have hne:g≠w.heap.size:=by omega
        by_cases hEq:i=a+O
        all_goals
         go_wp2_with fail
         go_region
         all_goals go_wp2_with fail
         go_roundw
         case rel=>exact ⟨i+1,x,_,by go_num,by omega,by omega,store_keep (store_keep hc1 (fun e=>hne (congrArg Addr.block e))) (fun e=>hne (congrArg Addr.block e)),by simp [hf1],⟨by omega,by omega⟩,by first | exact S2.out | (rw [hEq] at S2;exact S2.out),by first | exact P2.out | (rw [hEq] at P2;exact P2.out)⟩
         case measure=>simp [intOf];omega
    · go_wp2_with fail
      go_end0
      exact ⟨rfl,dk,hS.out.2,hS.out.1⟩
 · have h8z:decide (8≤(m:Int))=false:=df (by omega)
   go_enter Tryz.func146,Tryz.ntmps146
   go_wp2_with fail
   go_end0
   exact ⟨rfl,d,perm_refl _ _ _,S0.out⟩
end Go.Proofs.YtdklpgphmoaniaaGreatDoor
