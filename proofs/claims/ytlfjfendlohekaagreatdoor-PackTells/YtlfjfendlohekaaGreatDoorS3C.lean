/-
  What the texts SPiv, SPins say, so far as this seat's proofs need it.
-/
import Derived.Test.YtlfjfendlohekaaGreatDoorS1C
import Derived.Test.YtlfjfendlohekaaGreatDoorE1C
import Derived.Sort.WalkA6
namespace Go.Proofs.YtlfjfendlohekaaGreatDoor
open Go.RowKit
def Sw (B:Nat) (w:World):Prop:=(∃ s,w.cell? ⟨B,0,none⟩=some (.int .i64 s))∧w.frozen? ⟨B,0,none⟩=false
theorem hold_below {w w':World} {g off B:Nat} {d:Array Int} (h:Sort.Holds (Value.int .u64) w g off d) (hb:Below B w w') (hgB:g < B):Sort.Holds (Value.int .u64) w' g off d:=fun t ht=>by
 rw [hb.cell (by exact hgB),hb.frozen (by exact hgB)];exact h t ht
theorem hold_fam {w:World} {g off:Nat} {d:Array Int} (h:Sort.Holds (Value.int .u64) w g off d):∃ G:Nat→Int,(∀ t,G t=d[t]!)∧(∀ t,t < d.size→w.cell? ⟨g,off+t,none⟩=some (.int .u64 (G t)))∧∀ t,t < d.size→w.frozen? ⟨g,off+t,none⟩=false :=
 ⟨fun t=>d[t]!,fun _=>rfl,fun t ht=>(h t ht).1,fun t ht=>(h t ht).2⟩
theorem sw_store {B:Nat} {w:World} {s:Int} (h:w.cell? ⟨B,0,none⟩=some (.int .i64 s)) (hf:w.frozen? ⟨B,0,none⟩=false) (x:Int):Sw B (w.setCell ⟨B,0,none⟩ (.int .i64 x)) :=
 ⟨⟨x,World.cell?_setCell_same _ _ _ h⟩,by simp [hf]⟩
set_option maxHeartbeats 2000000 in
theorem u_order2 (g off cap x y n B:Nat) (d:Array Int) (hn:d.size=n) (w:World) (hH:Sort.Holds (Value.int .u64) w g off d) (hS:Sw B w) (hx:x < n) (hy:y < n) :
 Calls Tryz.prog 145 #[.slice (some ⟨g,off,none⟩) n cap,.int .i64 x,.int .i64 y,.pointer (some ⟨B,0,none⟩)] w fun e w' =>
  (∃ p q:Nat,e=.returned (.tuple #[.int .i64 p,.int .i64 q])∧(p=x∧q=y∨p=y∧q=x))∧Sw B w'∧Below B w w':=by
 obtain ⟨G,hG,hcw,hfw⟩:=hold_fam hH
 rw [hn] at hcw hfw
 obtain ⟨⟨s,hs⟩,hf⟩:=hS
 clear hG hH hn
 go_enter Tryz.func145,Tryz.ntmps145
 go_wp2_with fail
 go_big_quiet (first | (go_at_call 67;refine Calls.quiet_of_same (u_less _ _ _)))
 go_wp2
 · go_ret2
   exact ⟨⟨y,x,rfl,Or.inr ⟨rfl,rfl⟩⟩,sw_store (w:=w.drewN nq) hs hf _,Below.setCell (p:=⟨B,0,none⟩) (belowN (Below.refl B w) nq) (Nat.le_refl B) _⟩
 · go_ret2
   exact ⟨⟨x,y,rfl,Or.inl ⟨rfl,rfl⟩⟩,⟨⟨s,hs⟩,hf⟩,belowN (Below.refl _ _) nq⟩
set_option maxHeartbeats 2000000 in
theorem u_median (g off cap x y z n B:Nat) (d:Array Int) (hn:d.size=n) (w:World) (hH:Sort.Holds (Value.int .u64) w g off d) (hgB:g < B) (hS:Sw B w) (hx:x < n) (hy:y < n) (hz:z < n) :
 Calls Tryz.prog 134 #[.slice (some ⟨g,off,none⟩) n cap,.int .i64 x,.int .i64 y,.int .i64 z,.pointer (some ⟨B,0,none⟩)] w fun e w' =>
  (∃ p:Nat,e=.returned (.int .i64 p)∧(p=x∨p=y∨p=z))∧Sw B w'∧Below B w w':=by
 have H0:Hid (Sort.Holds (Value.int .u64) w g off d):=hH
 have S0:Hid (Sw B w):=hS
 clear hH hS
 go_enter Tryz.func134,Tryz.ntmps134
 go_wp2_with fail
 refine (u_order2 g off cap x y n B d hn w H0.out S0.out hx hy).mono ?_
 rintro e w1 ⟨⟨p1,q1,rfl,h1⟩,s1,b1⟩
 have S1:Hid (Sw B w1):=s1
 have H1:Hid (Sort.Holds (Value.int .u64) w1 g off d):=hold_below H0.out b1 hgB
 have L1:p1 < n∧q1 < n:=by omega
 have C1:Hid (p1=x∧q1=y∨p1=y∧q1=x):=h1
 clear s1 h1
 go_wp2_with fail
 refine (u_order2 g off cap q1 z n B d hn w1 H1.out S1.out L1.2 hz).mono ?_
 rintro e w2 ⟨⟨p2,q2,rfl,h2⟩,s2,b2⟩
 have S2:Hid (Sw B w2):=s2
 have H2:Hid (Sort.Holds (Value.int .u64) w2 g off d):=hold_below H1.out b2 hgB
 have L2:p2 < n∧q2 < n:=by omega
 have C2:Hid (p2=q1∧q2=z∨p2=z∧q2=q1):=h2
 clear s2 h2
 go_wp2_with fail
 refine (u_order2 g off cap p1 p2 n B d hn w2 H2.out S2.out L1.1 L2.1).mono ?_
 rintro e w3 ⟨⟨p3,q3,rfl,h3⟩,s3,b3⟩
 have S3:Hid (Sw B w3):=s3
 have C3:Hid (p3=p1∧q3=p2∨p3=p2∧q3=p1):=h3
 clear s3 h3
 go_wp2_with fail
 go_ret
 exact ⟨⟨q3,rfl,by have:=C1.out;have:=C2.out;have:=C3.out;omega⟩,S3.out,(b1.trans b2).trans b3⟩
set_option maxHeartbeats 2000000 in
theorem u_median3 (g off cap x n B:Nat) (d:Array Int) (hn:d.size=n) (w:World) (hH:Sort.Holds (Value.int .u64) w g off d) (hgB:g < B) (hS:Sw B w) (h1:1≤x) (hx:x+1 < n) (hsz:n < 4611686018427387904) :
 Calls Tryz.prog 133 #[.slice (some ⟨g,off,none⟩) n cap,.int .i64 x,.pointer (some ⟨B,0,none⟩)] w fun e w' =>
  (∃ p:Nat,e=.returned (.int .i64 p)∧x≤p+1∧p≤x+1)∧Sw B w'∧Below B w w':=by
 have H0:Hid (Sort.Holds (Value.int .u64) w g off d):=hH
 have S0:Hid (Sw B w):=hS
 clear hH hS
 go_enter Tryz.func133,Tryz.ntmps133
 go_wp2_with fail
 rw [show ((x:Int) - 1)=((x - 1:Nat):Int) by omega,show ((x:Int)+1)=((x+1:Nat):Int) by omega]
 refine (u_median g off cap (x - 1) x (x+1) n B d hn w H0.out hgB S0.out (by omega) (by omega) (by omega)).mono ?_
 rintro e w1 ⟨⟨p1,rfl,C1⟩,s1,b1⟩
 have S1:Hid (Sw B w1):=s1
 replace C1:Hid _:=C1
 clear s1
 go_wp2_with fail
 go_ret
 exact ⟨⟨p1,rfl,by have:=C1.out;omega,by have:=C1.out;omega⟩,S1.out,b1⟩
def PivSay (a b:Nat) (e:Ending):Prop:=∃ (p:Nat) (h:Int),e=.returned (.tuple #[.int .i64 p,.int .i64 h])∧a≤p∧p < b∧0≤h∧h≤2
set_option maxHeartbeats 4000000 in
theorem u_pivot (g off cap a b n:Nat) (d:Array Int) (hn:d.size=n) (w:World) (hH:Sort.Holds (Value.int .u64) w g off d) (hg:g < w.heap.size) (hab:a < b) (hb:b≤n) (hsz:n < 4611686018427387904) :
 Calls Tryz.prog 107 #[.slice (some ⟨g,off,none⟩) n cap,.int .i64 a,.int .i64 b] w fun e w'=>PivSay a b e∧Below w.heap.size w w':=by
 have H0:Hid (Sort.Holds (Value.int .u64) w g off d):=hH
 clear hH
 obtain ⟨m,hm⟩:∃ m,b - a=m:=⟨_,rfl⟩
 have EB:(b:Int) - (a:Int)=(m:Int):=by omega
 obtain ⟨q,hq⟩:∃ q,m / 4=q:=⟨_,rfl⟩
 have EQ:((m:Int)).tdiv 4=(q:Int):=by rw [← hq];rfl
 have HA:Sort.Holds (Value.int .u64) (w.alloc (.cells #[.int .i64 0] 3)) g off d:=hold_below H0.out (allocB w _) hg
 have SA:Sw w.heap.size (w.alloc (.cells #[.int .i64 0] 3)):=⟨⟨0,by go_simp⟩,by go_simp⟩
 obtain ⟨I,hI⟩:∃ I,a+q=I:=⟨_,rfl⟩
 obtain ⟨J,hJ⟩:∃ J,a+q*2=J:=⟨_,rfl⟩
 obtain ⟨K,hK⟩:∃ K,a+q*3=K:=⟨_,rfl⟩
 have eI:Hid ((a:Int)+(q:Int)=(I:Int)):=hid_mk (by omega)
 have eJ:Hid ((a:Int)+(q:Int)*2=(J:Int)):=hid_mk (by omega)
 have eK:Hid ((a:Int)+(q:Int)*3=(K:Int)):=hid_mk (by omega)
 go_enter Tryz.func107,Tryz.ntmps107
 go_wp2_with fail
 · have hm50:50≤m:=by omega
   rw [eI.out,eJ.out,eK.out]
   refine (u_median3 g off cap I n w.heap.size d hn _ HA hg SA (by omega) (by omega) hsz).mono ?_
   rintro e w1 ⟨⟨p1,rfl,l1⟩,s1,b1⟩
   have S1:Hid (Sw w.heap.size w1):=s1
   have H1:Hid (Sort.Holds (Value.int .u64) w1 g off d):=hold_below HA b1 hg
   have L1:Hid _:=l1
   have hB:Below w.heap.size w w1:=Below.trans (by go_grown) (b1.mono (by simp))
   clear s1 l1 b1
   go_wp2_with fail
   refine (u_median3 g off cap J n w.heap.size d hn _ H1.out hg S1.out (by omega) (by omega) hsz).mono ?_
   rintro e w2 ⟨⟨p2,rfl,l2⟩,s2,b2⟩
   have S2:Hid (Sw w.heap.size w2):=s2
   have H2:Hid (Sort.Holds (Value.int .u64) w2 g off d):=hold_below H1.out b2 hg
   have L2:Hid _:=l2
   replace hB:=hB.trans b2
   clear s2 l2 b2
   go_wp2_with fail
   refine (u_median3 g off cap K n w.heap.size d hn _ H2.out hg S2.out (by omega) (by omega) hsz).mono ?_
   rintro e w3 ⟨⟨p3,rfl,l3⟩,s3,b3⟩
   have S3:Hid (Sw w.heap.size w3):=s3
   have H3:Hid (Sort.Holds (Value.int .u64) w3 g off d):=hold_below H2.out b3 hg
   have L3:Hid _:=l3
   replace hB:=hB.trans b3
   clear s3 l3 b3
   go_wp2_with fail
   refine (u_median g off cap p1 p2 p3 n w.heap.size d hn _ H3.out hg S3.out (by have:=L1.out;omega) (by have:=L2.out;omega) (by have:=L3.out;omega)).mono ?_
   rintro e w4 ⟨⟨p4,rfl,l4⟩,s4,b4⟩
   have S4:Hid (Sw w.heap.size w4):=s4
   have H4:Hid (Sort.Holds (Value.int .u64) w4 g off d):=hold_below H3.out b4 hg
   have L4:Hid (a≤p4∧p4 < b):=by have:=L1.out;have:=L2.out;have:=L3.out;exact ⟨by omega,by omega⟩
   replace hB:=hB.trans b4
   clear s4 l4 b4
   obtain ⟨⟨s,hs⟩,-⟩:=S4.out
   have hP:Hid (a≤p4∧p4 < b):=by have:=L4.out;exact ⟨by omega,by omega⟩
   clear L4
   go_wp2
   all_goals
    go_ret2
    exact ⟨⟨p4,_,rfl,hP.out.1,hP.out.2,by omega,by omega⟩,hB⟩
 · rw [eI.out,eJ.out,eK.out]
   refine (u_median g off cap I J K n w.heap.size d hn _ HA hg SA (by omega) (by omega) (by omega)).mono ?_
   rintro e w1 ⟨⟨p1,rfl,l1⟩,s1,b1⟩
   have S1:Hid (Sw w.heap.size w1):=s1
   have H1:Hid (Sort.Holds (Value.int .u64) w1 g off d):=hold_below HA b1 hg
   have L1:Hid (a≤p1∧p1 < b):=⟨by omega,by omega⟩
   have hB:Below w.heap.size w w1:=Below.trans (by go_grown) (b1.mono (by simp))
   clear s1 l1 b1
   obtain ⟨⟨s,hs⟩,-⟩:=S1.out
   have hP:Hid (a≤p1∧p1 < b):=by have:=L1.out;exact ⟨by omega,by omega⟩
   clear L1
   go_wp2
   all_goals
    go_ret2
    exact ⟨⟨p1,_,rfl,hP.out.1,hP.out.2,by omega,by omega⟩,hB⟩
 · rw [eJ.out]
   go_ret2
   exact ⟨⟨J,_,rfl,by omega,by omega,by omega,by omega⟩,by go_grown⟩
set_option maxHeartbeats 4000000 in
set_option maxRecDepth 100000 in
theorem u_rev (g off cap a b n:Nat) (d:Array Int) (hn:d.size=n) (w:World) (hH:Sort.Holds (Value.int .u64) w g off d) (hg:g < w.heap.size) (hab:a≤b) (hb:b≤n) (hsz:n < 4611686018427387904) :
 Calls Tryz.prog 108 #[.slice (some ⟨g,off,none⟩) n cap,.int .i64 a,.int .i64 b] w fun e w' =>
  e=.returned (.tuple #[])∧∃ d',Sort.PermIn a b d d'∧St w g off d d' w':=by
 have H0:Hid (Sort.Holds (Value.int .u64) w g off d):=hH
 have HN:Hid (d.size=n):=hn
 clear hH hn
 go_enter Tryz.func108,Tryz.ntmps108
 go_wp2
 go_loopw [6,7] (fun vi vj wr=>∃ (i:Nat) (j:Int) (dk:Array Int),vi=.int .i64 i∧vj=.int .i64 j∧a≤i∧i≤b∧-1≤j∧j < b∧Hid (St w g off d dk wr∧Sort.PermIn a b d dk)) (fun vi _ _=>b - (intOf vi).toNat)
 case atStart=>exact ⟨a,(b:Int) - 1,d,rfl,rfl,Nat.le_refl _,hab,by omega,by omega,St.refl H0.out,perm_refl _ _ _⟩
 case round =>
  obtain ⟨i,j,dk,rfl,rfl,hai,hib,hj1,hjb,hS⟩:=hrel
  by_cases hlt:(i:Int) < j
  · obtain ⟨k,rfl⟩:∃ k:Nat,j=k:=⟨j.toNat,by omega⟩
    obtain ⟨G,hG,hcw,hfw⟩:=hS.out.1.fam H0.out hg
    rw [HN.out] at hcw hfw
    have S2:Hid (St w g off d (Sort.swp dk i k) (((wr.setCell ⟨g,off+i,none⟩ (.int .u64 (G k))).setCell ⟨g,off+k,none⟩ (.int .u64 (G i))).drew)):=hS.out.1.swap H0.out hg hG (by rw [HN.out];omega) (by rw [HN.out];omega) 1
    have P2:Hid (Sort.PermIn a b d (Sort.swp dk i k)):=perm_trans hS.out.2 (swp_perm _ _ _ _ _ (by omega) (by omega) (by omega) (by omega) (by rw [hS.out.1.1,HN.out];omega))
    obtain ⟨y3,hy3⟩:=cell?_setCell_some (w:=wr) (p:=⟨g,off+i,none⟩) (x:=.int .u64 (G k)) (q:=⟨g,off+k,none⟩) (hcw _ (by omega))
    clear hG hS
    go_wp2_with fail
    go_region
    go_wp2
    go_roundw
    case rel=>exact ⟨i+1,(k:Int) - 1,_,by go_num,rfl,by omega,by omega,by omega,by omega,S2.out,P2.out⟩
    case measure=>simp [intOf];omega
  · go_wp2
    go_end0
    exact ⟨rfl,dk,hS.out.2,hS.out.1⟩
set_option maxHeartbeats 16000000 in
set_option maxRecDepth 100000 in
theorem u_pins (g off cap a b n:Nat) (d:Array Int) (hn:d.size=n) (w:World) (hH:Sort.Holds (Value.int .u64) w g off d) (hg:g < w.heap.size) (hab:a < b) (hb:b≤n) (hsz:n < 4611686018427387904) :
 Calls Tryz.prog 109 #[.slice (some ⟨g,off,none⟩) n cap,.int .i64 a,.int .i64 b] w fun e w' =>
  e=.returned (.bool (Sort.partialInsertionSort Sort.ltInt d a b).2)∧St w g off d (Sort.partialInsertionSort Sort.ltInt d a b).1 w':=by
 have H0:Hid (Sort.Holds (Value.int .u64) w g off d):=hH
 have HN:Hid (d.size=n):=hn
 obtain ⟨R,hR⟩:∃ R,Sort.partialInsertionSort Sort.ltInt d a b=R:=⟨_,rfl⟩
 have HR0:Hid (Sort.partialIns Sort.ltInt a b 5 (a+1) d=R):=hR
 rw [hR]
 clear hH hn hR
 go_enter Tryz.func109,Tryz.ntmps109
 go_wp2
 go_loopw [7,8] (fun vi vs wr=>∃ (i s:Nat) (dk:Array Int),vi=.int .i64 i∧vs=.int .i64 s∧s≤5∧a < i∧i≤b∧Hid (St w g off d dk wr∧Sort.partialIns Sort.ltInt a b (5 - s) i dk=Sort.partialIns Sort.ltInt a b 5 (a+1) d)) (fun _ vs _=>5 - (intOf vs).toNat)
 case atStart=>exact ⟨a+1,0,d,by go_num,rfl,by omega,by omega,by omega,St.refl H0.out,rfl⟩
 case round =>
  obtain ⟨i,s,dk,rfl,rfl,hs5,hai,hib,hS⟩:=hrel
  by_cases hs:s < 5
  · go_wp2_with fail
    go_loopw [7] (fun vi wr2=>∃ (k:Nat),vi=.int .i64 k∧i≤k∧k≤b∧Hid (St w g off d dk wr2∧Sort.scanSorted Sort.ltInt dk b k=Sort.scanSorted Sort.ltInt dk b i)) (fun vi _=>b - (intOf vi).toNat)
    case atStart=>exact ⟨i,rfl,Nat.le_refl _,hib,hS.out.1,rfl⟩
    case round =>
     obtain ⟨k,rfl,hik,hkb,hK⟩:=hrel
     have HO:Hid (Sort.partialIns Sort.ltInt a b (5 - s) i dk=Sort.partialIns Sort.ltInt a b 5 (a+1) d):=hS.out.2
     clear hS
     by_cases hlt:k < b
     · obtain ⟨G,hG,hcw,hfw⟩:=hK.out.1.fam H0.out hg
       rw [HN.out] at hcw hfw
       have HG:Hid (∀ t,G t=dk[t]!):=hG
       clear hG
       go_wp2_with fail
       go_big_quiet (first | (go_at_call 67;refine Calls.quiet_of_same (u_less _ _ _)))
       go_wp2_with fail
       · have hl:=not_yes (show (!Sort.ltInt (G k) (G (k - 1)))=true by assumption)
         have S4:Hid (St w g off d dk (wr.drewN nq)∧Sort.scanSorted Sort.ltInt dk b (k+1)=Sort.scanSorted Sort.ltInt dk b i):=⟨hK.out.1.drawn nq,by rw [← hK.out.2,scanSorted_go Sort.ltInt dk b k hlt (by rw [← HG.out,← HG.out];exact hl)]⟩
         go_roundw
         case rel=>exact ⟨k+1,by go_num,by omega,by omega,S4.out⟩
         case measure=>simp [intOf];omega
       · have hl:=not_no (show (!Sort.ltInt (G k) (G (k - 1)))=false by assumption)
         have HK:Hid (Sort.scanSorted Sort.ltInt dk b i=k):=hid_mk (by rw [← hK.out.2,scanSorted_stop Sort.ltInt dk b k (Or.inr (by rw [← HG.out,← HG.out];exact hl))])
         have h50:b - a < 50:=by omega
         have HR1:Hid (R=(dk,false)):=hid_mk (by rw [← HR0.out,← HO.out,pi_short Sort.ltInt a b s i dk hs (by rw [HK.out];omega) h50])
         have S5:Hid (St w g off d dk (wr.drewN nq)):=hK.out.1.drawn nq
         have hr1:=HR1.out
         subst hr1
         go_ret
         exact ⟨rfl,S5.out⟩
       · have hl:=not_no (show (!Sort.ltInt (G k) (G (k - 1)))=false by assumption)
         have HK:Hid (Sort.scanSorted Sort.ltInt dk b i=k):=hid_mk (by rw [← hK.out.2,scanSorted_stop Sort.ltInt dk b k (Or.inr (by rw [← HG.out,← HG.out];exact hl))])
         have h50:¬ b - a < 50:=by omega
         have HO1:Hid (Sort.partialIns Sort.ltInt a b (5 - (s+1)) k (Sort.fixUp Sort.ltInt b k (Sort.fixDown Sort.ltInt a k (Sort.swp dk k (k - 1))))=Sort.partialIns Sort.ltInt a b 5 (a+1) d):=hid_mk (by rw [← HO.out,pi_go Sort.ltInt a b s i k dk hs HK.out (by omega) h50])
         have S3:Hid (St w g off d (Sort.swp dk k (k - 1)) ((((wr.drewN nq).setCell ⟨g,off+k,none⟩ (.int .u64 (G (k - 1)))).setCell ⟨g,off+(k - 1),none⟩ (.int .u64 (G k))).drew)):=hK.out.1.swap H0.out hg HG.out (by rw [HN.out];omega) (by rw [HN.out];omega) (nq+1)
         have hcw3:∀ t,t < n→(wr.drewN nq).cell? ⟨g,off+t,none⟩=some (.int .u64 (G t)):=hcw
         have hfw3:∀ t,t < n→(wr.drewN nq).frozen? ⟨g,off+t,none⟩=false:=hfw
         obtain ⟨y3,hy3⟩:=cell?_setCell_some (w:=wr.drewN nq) (p:=⟨g,off+k,none⟩) (x:=.int .u64 (G (k - 1))) (q:=⟨g,off+(k - 1),none⟩) (hcw3 _ (by omega))
         clear hK HG hcw hfw HK HO hl
         generalize wr.drewN nq=W7 at S3 hcw3 hfw3 hy3 ⊢
         go_region
         clear hy3 y3 hcw3 hfw3
         generalize ((W7.setCell ⟨g,off+k,none⟩ _).setCell ⟨g,off+_,none⟩ _).drew=W6 at S3 ⊢
         by_cases hbk:2≤b - k
         · have hbkz:decide (2≤(b:Int) - (k:Int))=true:=decide_eq_true (by omega)
           by_cases hka:2≤k - a
           · have hkaz:decide (2≤(k:Int) - (a:Int))=true:=decide_eq_true (by omega)
             go_wp2_with fail
             go_loopw [9] (fun vj wr2=>∃ (j:Nat) (dj:Array Int),vj=.int .i64 j∧j≤k - 1∧Hid (St w g off d dj wr2∧Sort.shiftDown Sort.ltInt j dj=Sort.fixDown Sort.ltInt a k (Sort.swp dk k (k - 1)))) (fun vj _=>(intOf vj).toNat)
             case atStart=>exact ⟨k - 1,Sort.swp dk k (k - 1),by go_num,by omega,S3.out,by unfold Sort.fixDown;rw [if_pos hka]⟩
             case round =>
              clear S3
              obtain ⟨j,dj,rfl,hjk,hJ⟩:=hrel
              by_cases hj1:1≤j
              · have hj1z:decide (1≤(j:Int))=true:=decide_eq_true (by omega)
                obtain ⟨G1,hG1,hcw1,hfw1⟩:=hJ.out.1.fam H0.out hg
                rw [HN.out] at hcw1 hfw1
                have HG1:Hid (∀ t,G1 t=dj[t]!):=hG1
                clear hG1
                go_wp2_with fail
                go_big_quiet (first | (go_at_call 67;refine Calls.quiet_of_same (u_less _ _ _)))
                go_wp2_with fail
                · have hl:=not_yes (show (!Sort.ltInt (G1 j) (G1 (j - 1)))=true by assumption)
                  have HD:Hid (dj=Sort.fixDown Sort.ltInt a k (Sort.swp dk k (k - 1))):=hid_mk (by rw [← hJ.out.2,shiftDown_stop Sort.ltInt j dj (Or.inr (by rw [← HG1.out,← HG1.out];exact hl))])
                  have SU:Hid (St w g off d dj (wr.drewN nq)):=hJ.out.1.drawn nq
                  generalize wr.drewN nq=W8 at SU ⊢
                  have HO2:Hid (Sort.partialIns Sort.ltInt a b (5 - (s+1)) k (Sort.fixUp Sort.ltInt b k dj)=Sort.partialIns Sort.ltInt a b 5 (a+1) d):=hid_mk (by rw [HD.out];exact HO1.out)
                  clear hJ HG1 hcw1 hfw1 HD HO1 hl
                  revert SU HO2
                  generalize dj=du
                  intro SU HO2
                  go_loopw [10] (fun vj wr2=>∃ (j:Nat) (dj:Array Int),vj=.int .i64 j∧k+1≤j∧j≤b∧Hid (St w g off d dj wr2∧Sort.shiftUp Sort.ltInt b j dj=Sort.fixUp Sort.ltInt b k du)) (fun vj _=>b - (intOf vj).toNat)
                  case atStart=>exact ⟨k+1,du,by go_num,Nat.le_refl _,by omega,SU.out,by unfold Sort.fixUp;rw [if_pos hbk]⟩
                  case round =>
                   clear SU
                   obtain ⟨j,dj,rfl,hkj,hjb,hJ⟩:=hrel
                   by_cases hjl:j < b
                   · obtain ⟨G2,hG2,hcw2,hfw2⟩:=hJ.out.1.fam H0.out hg
                     rw [HN.out] at hcw2 hfw2
                     have HG2:Hid (∀ t,G2 t=dj[t]!):=hG2
                     clear hG2
                     go_wp2_with fail
                     go_big_quiet (first | (go_at_call 67;refine Calls.quiet_of_same (u_less _ _ _)))
                     go_wp2_with fail
                     · have hl:=not_yes (show (!Sort.ltInt (G2 j) (G2 (j - 1)))=true by assumption)
                       have HR:Hid (St w g off d dj (wr.drewN nq)∧Sort.partialIns Sort.ltInt a b (5 - (s+1)) k dj=Sort.partialIns Sort.ltInt a b 5 (a+1) d):=by
                        refine hid_mk ⟨hJ.out.1.drawn nq,?_⟩
                        rw [← HO2.out,← hJ.out.2,shiftUp_stop Sort.ltInt b j dj (Or.inr (by rw [← HG2.out,← HG2.out];exact hl))]
                       generalize wr.drewN nq=W9 at HR ⊢
                       clear hJ HG2 hcw2 hfw2
                       go_roundw
                       case rel=>exact ⟨k,s+1,dj,rfl,by go_num,by omega,by omega,by omega,HR.out⟩
                       case measure=>simp [intOf];omega
                     · have hl:=not_no (show (!Sort.ltInt (G2 j) (G2 (j - 1)))=false by assumption)
                       have S4:Hid (St w g off d (Sort.swp dj j (j - 1)) ((((wr.drewN nq).setCell ⟨g,off+j,none⟩ (.int .u64 (G2 (j - 1)))).setCell ⟨g,off+(j - 1),none⟩ (.int .u64 (G2 j))).drew)∧Sort.shiftUp Sort.ltInt b (j+1) (Sort.swp dj j (j - 1))=Sort.fixUp Sort.ltInt b k du) :=
                        ⟨hJ.out.1.swap H0.out hg HG2.out (by rw [HN.out];omega) (by rw [HN.out];omega) (nq+1),by rw [← hJ.out.2,shiftUp_go Sort.ltInt b j dj hjl (by rw [← HG2.out,← HG2.out];exact hl)]⟩
                       have hcw3:∀ t,t < n→(wr.drewN nq).cell? ⟨g,off+t,none⟩=some (.int .u64 (G2 t)):=hcw2
                       have hfw3:∀ t,t < n→(wr.drewN nq).frozen? ⟨g,off+t,none⟩=false:=hfw2
                       obtain ⟨y3,hy3⟩:=cell?_setCell_some (w:=wr.drewN nq) (p:=⟨g,off+j,none⟩) (x:=.int .u64 (G2 (j - 1))) (q:=⟨g,off+(j - 1),none⟩) (hcw3 _ (by omega))
                       clear hJ HG2 hcw2 hfw2
                       generalize wr.drewN nq=W9 at S4 hcw3 hfw3 hy3 ⊢
                       go_region
                       go_wp2_with fail
                       go_roundw
                       case rel=>exact ⟨j+1,_,by go_num,by omega,by omega,S4.out⟩
                       case measure=>simp [intOf];omega
                   · have HR:Hid (St w g off d dj wr∧Sort.partialIns Sort.ltInt a b (5 - (s+1)) k dj=Sort.partialIns Sort.ltInt a b 5 (a+1) d):=by
                      refine hid_mk ⟨hJ.out.1,?_⟩
                      rw [← HO2.out,← hJ.out.2,shiftUp_stop Sort.ltInt b j dj (Or.inl hjl)]
                     clear hJ
                     go_wp2_with fail
                     go_roundw
                     case rel=>exact ⟨k,s+1,dj,rfl,by go_num,by omega,by omega,by omega,HR.out⟩
                     case measure=>simp [intOf];omega
                · have hl:=not_no (show (!Sort.ltInt (G1 j) (G1 (j - 1)))=false by assumption)
                  have S4:Hid (St w g off d (Sort.swp dj j (j - 1)) ((((wr.drewN nq).setCell ⟨g,off+j,none⟩ (.int .u64 (G1 (j - 1)))).setCell ⟨g,off+(j - 1),none⟩ (.int .u64 (G1 j))).drew)∧Sort.shiftDown Sort.ltInt (j - 1) (Sort.swp dj j (j - 1))=Sort.fixDown Sort.ltInt a k (Sort.swp dk k (k - 1))) :=
                   ⟨hJ.out.1.swap H0.out hg HG1.out (by rw [HN.out];omega) (by rw [HN.out];omega) (nq+1),by rw [← hJ.out.2,shiftDown_go Sort.ltInt j dj hj1 (by rw [← HG1.out,← HG1.out];exact hl)]⟩
                  have hcw3:∀ t,t < n→(wr.drewN nq).cell? ⟨g,off+t,none⟩=some (.int .u64 (G1 t)):=hcw1
                  have hfw3:∀ t,t < n→(wr.drewN nq).frozen? ⟨g,off+t,none⟩=false:=hfw1
                  obtain ⟨y3,hy3⟩:=cell?_setCell_some (w:=wr.drewN nq) (p:=⟨g,off+j,none⟩) (x:=.int .u64 (G1 (j - 1))) (q:=⟨g,off+(j - 1),none⟩) (hcw3 _ (by omega))
                  clear hJ HG1 hcw1 hfw1
                  generalize wr.drewN nq=W9 at S4 hcw3 hfw3 hy3 ⊢
                  go_region
                  go_wp2_with fail
                  go_roundw
                  case rel=>exact ⟨j - 1,_,by go_num,by omega,S4.out⟩
                  case measure=>simp [intOf];omega
              · have hj1z:decide (1≤(j:Int))=false:=df (by omega)
                have HD:Hid (dj=Sort.fixDown Sort.ltInt a k (Sort.swp dk k (k - 1))):=hid_mk (by rw [← hJ.out.2,shiftDown_stop Sort.ltInt j dj (Or.inl (by omega))])
                have SU:Hid (St w g off d dj wr):=hJ.out.1
                have HO2:Hid (Sort.partialIns Sort.ltInt a b (5 - (s+1)) k (Sort.fixUp Sort.ltInt b k dj)=Sort.partialIns Sort.ltInt a b 5 (a+1) d):=hid_mk (by rw [HD.out];exact HO1.out)
                clear hJ HD HO1
                revert SU HO2
                generalize dj=du
                intro SU HO2
                go_wp2_with fail
                go_loopw [10] (fun vj wr2=>∃ (j:Nat) (dj:Array Int),vj=.int .i64 j∧k+1≤j∧j≤b∧Hid (St w g off d dj wr2∧Sort.shiftUp Sort.ltInt b j dj=Sort.fixUp Sort.ltInt b k du)) (fun vj _=>b - (intOf vj).toNat)
                case atStart=>exact ⟨k+1,du,by go_num,Nat.le_refl _,by omega,SU.out,by unfold Sort.fixUp;rw [if_pos hbk]⟩
                case round =>
                 clear SU
                 obtain ⟨j,dj,rfl,hkj,hjb,hJ⟩:=hrel
                 by_cases hjl:j < b
                 · obtain ⟨G2,hG2,hcw2,hfw2⟩:=hJ.out.1.fam H0.out hg
                   rw [HN.out] at hcw2 hfw2
                   have HG2:Hid (∀ t,G2 t=dj[t]!):=hG2
                   clear hG2
                   go_wp2_with fail
                   go_big_quiet (first | (go_at_call 67;refine Calls.quiet_of_same (u_less _ _ _)))
                   go_wp2_with fail
                   · have hl:=not_yes (show (!Sort.ltInt (G2 j) (G2 (j - 1)))=true by assumption)
                     have HR:Hid (St w g off d dj (wr.drewN nq)∧Sort.partialIns Sort.ltInt a b (5 - (s+1)) k dj=Sort.partialIns Sort.ltInt a b 5 (a+1) d):=by
                      refine hid_mk ⟨hJ.out.1.drawn nq,?_⟩
                      rw [← HO2.out,← hJ.out.2,shiftUp_stop Sort.ltInt b j dj (Or.inr (by rw [← HG2.out,← HG2.out];exact hl))]
                     generalize wr.drewN nq=W9 at HR ⊢
                     clear hJ HG2 hcw2 hfw2
                     go_roundw
                     case rel=>exact ⟨k,s+1,dj,rfl,by go_num,by omega,by omega,by omega,HR.out⟩
                     case measure=>simp [intOf];omega
                   · have hl:=not_no (show (!Sort.ltInt (G2 j) (G2 (j - 1)))=false by assumption)
                     have S4:Hid (St w g off d (Sort.swp dj j (j - 1)) ((((wr.drewN nq).setCell ⟨g,off+j,none⟩ (.int .u64 (G2 (j - 1)))).setCell ⟨g,off+(j - 1),none⟩ (.int .u64 (G2 j))).drew)∧Sort.shiftUp Sort.ltInt b (j+1) (Sort.swp dj j (j - 1))=Sort.fixUp Sort.ltInt b k du) :=
                      ⟨hJ.out.1.swap H0.out hg HG2.out (by rw [HN.out];omega) (by rw [HN.out];omega) (nq+1),by rw [← hJ.out.2,shiftUp_go Sort.ltInt b j dj hjl (by rw [← HG2.out,← HG2.out];exact hl)]⟩
                     have hcw3:∀ t,t < n→(wr.drewN nq).cell? ⟨g,off+t,none⟩=some (.int .u64 (G2 t)):=hcw2
                     have hfw3:∀ t,t < n→(wr.drewN nq).frozen? ⟨g,off+t,none⟩=false:=hfw2
                     obtain ⟨y3,hy3⟩:=cell?_setCell_some (w:=wr.drewN nq) (p:=⟨g,off+j,none⟩) (x:=.int .u64 (G2 (j - 1))) (q:=⟨g,off+(j - 1),none⟩) (hcw3 _ (by omega))
                     clear hJ HG2 hcw2 hfw2
                     generalize wr.drewN nq=W9 at S4 hcw3 hfw3 hy3 ⊢
                     go_region
                     go_wp2_with fail
                     go_roundw
                     case rel=>exact ⟨j+1,_,by go_num,by omega,by omega,S4.out⟩
                     case measure=>simp [intOf];omega
                 · have HR:Hid (St w g off d dj wr∧Sort.partialIns Sort.ltInt a b (5 - (s+1)) k dj=Sort.partialIns Sort.ltInt a b 5 (a+1) d):=by
                    refine hid_mk ⟨hJ.out.1,?_⟩
                    rw [← HO2.out,← hJ.out.2,shiftUp_stop Sort.ltInt b j dj (Or.inl hjl)]
                   clear hJ
                   go_wp2_with fail
                   go_roundw
                   case rel=>exact ⟨k,s+1,dj,rfl,by go_num,by omega,by omega,by omega,HR.out⟩
                   case measure=>simp [intOf];omega
           · have hkaz:decide (2≤(k:Int) - (a:Int))=false:=df (by omega)
             have hfd:Sort.fixDown Sort.ltInt a k (Sort.swp dk k (k - 1))=Sort.swp dk k (k - 1):=by unfold Sort.fixDown;rw [if_neg hka]
             rw [hfd] at HO1
             clear hfd
             obtain ⟨du,hdu⟩:∃ z,Sort.swp dk k (k - 1)=z:=⟨_,rfl⟩
             rw [hdu] at HO1 S3
             clear hdu
             have SU:=S3
             have HO2:=HO1
             clear S3 HO1
             go_wp2_with fail
             go_loopw [10] (fun vj wr2=>∃ (j:Nat) (dj:Array Int),vj=.int .i64 j∧k+1≤j∧j≤b∧Hid (St w g off d dj wr2∧Sort.shiftUp Sort.ltInt b j dj=Sort.fixUp Sort.ltInt b k du)) (fun vj _=>b - (intOf vj).toNat)
             case atStart=>exact ⟨k+1,du,by go_num,Nat.le_refl _,by omega,SU.out,by unfold Sort.fixUp;rw [if_pos hbk]⟩
             case round =>
              clear SU
              obtain ⟨j,dj,rfl,hkj,hjb,hJ⟩:=hrel
              by_cases hjl:j < b
              · obtain ⟨G2,hG2,hcw2,hfw2⟩:=hJ.out.1.fam H0.out hg
                rw [HN.out] at hcw2 hfw2
                have HG2:Hid (∀ t,G2 t=dj[t]!):=hG2
                clear hG2
                go_wp2_with fail
                go_big_quiet (first | (go_at_call 67;refine Calls.quiet_of_same (u_less _ _ _)))
                go_wp2_with fail
                · have hl:=not_yes (show (!Sort.ltInt (G2 j) (G2 (j - 1)))=true by assumption)
                  have HR:Hid (St w g off d dj (wr.drewN nq)∧Sort.partialIns Sort.ltInt a b (5 - (s+1)) k dj=Sort.partialIns Sort.ltInt a b 5 (a+1) d):=by
                   refine hid_mk ⟨hJ.out.1.drawn nq,?_⟩
                   rw [← HO2.out,← hJ.out.2,shiftUp_stop Sort.ltInt b j dj (Or.inr (by rw [← HG2.out,← HG2.out];exact hl))]
                  generalize wr.drewN nq=W9 at HR ⊢
                  clear hJ HG2 hcw2 hfw2
                  go_roundw
                  case rel=>exact ⟨k,s+1,dj,rfl,by go_num,by omega,by omega,by omega,HR.out⟩
                  case measure=>simp [intOf];omega
                · have hl:=not_no (show (!Sort.ltInt (G2 j) (G2 (j - 1)))=false by assumption)
                  have S4:Hid (St w g off d (Sort.swp dj j (j - 1)) ((((wr.drewN nq).setCell ⟨g,off+j,none⟩ (.int .u64 (G2 (j - 1)))).setCell ⟨g,off+(j - 1),none⟩ (.int .u64 (G2 j))).drew)∧Sort.shiftUp Sort.ltInt b (j+1) (Sort.swp dj j (j - 1))=Sort.fixUp Sort.ltInt b k du) :=
                   ⟨hJ.out.1.swap H0.out hg HG2.out (by rw [HN.out];omega) (by rw [HN.out];omega) (nq+1),by rw [← hJ.out.2,shiftUp_go Sort.ltInt b j dj hjl (by rw [← HG2.out,← HG2.out];exact hl)]⟩
                  have hcw3:∀ t,t < n→(wr.drewN nq).cell? ⟨g,off+t,none⟩=some (.int .u64 (G2 t)):=hcw2
                  have hfw3:∀ t,t < n→(wr.drewN nq).frozen? ⟨g,off+t,none⟩=false:=hfw2
                  obtain ⟨y3,hy3⟩:=cell?_setCell_some (w:=wr.drewN nq) (p:=⟨g,off+j,none⟩) (x:=.int .u64 (G2 (j - 1))) (q:=⟨g,off+(j - 1),none⟩) (hcw3 _ (by omega))
                  clear hJ HG2 hcw2 hfw2
                  generalize wr.drewN nq=W9 at S4 hcw3 hfw3 hy3 ⊢
                  go_region
                  go_wp2_with fail
                  go_roundw
                  case rel=>exact ⟨j+1,_,by go_num,by omega,by omega,S4.out⟩
                  case measure=>simp [intOf];omega
              · have HR:Hid (St w g off d dj wr∧Sort.partialIns Sort.ltInt a b (5 - (s+1)) k dj=Sort.partialIns Sort.ltInt a b 5 (a+1) d):=by
                 refine hid_mk ⟨hJ.out.1,?_⟩
                 rw [← HO2.out,← hJ.out.2,shiftUp_stop Sort.ltInt b j dj (Or.inl hjl)]
                clear hJ
                go_wp2_with fail
                go_roundw
                case rel=>exact ⟨k,s+1,dj,rfl,by go_num,by omega,by omega,by omega,HR.out⟩
                case measure=>simp [intOf];omega
         · have hbkz:decide (2≤(b:Int) - (k:Int))=false:=df (by omega)
           by_cases hka:2≤k - a
           · have hkaz:decide (2≤(k:Int) - (a:Int))=true:=decide_eq_true (by omega)
             go_wp2_with fail
             go_loopw [9] (fun vj wr2=>∃ (j:Nat) (dj:Array Int),vj=.int .i64 j∧j≤k - 1∧Hid (St w g off d dj wr2∧Sort.shiftDown Sort.ltInt j dj=Sort.fixDown Sort.ltInt a k (Sort.swp dk k (k - 1)))) (fun vj _=>(intOf vj).toNat)
             case atStart=>exact ⟨k - 1,Sort.swp dk k (k - 1),by go_num,by omega,S3.out,by unfold Sort.fixDown;rw [if_pos hka]⟩
             case round =>
              clear S3
              obtain ⟨j,dj,rfl,hjk,hJ⟩:=hrel
              by_cases hj1:1≤j
              · have hj1z:decide (1≤(j:Int))=true:=decide_eq_true (by omega)
                obtain ⟨G1,hG1,hcw1,hfw1⟩:=hJ.out.1.fam H0.out hg
                rw [HN.out] at hcw1 hfw1
                have HG1:Hid (∀ t,G1 t=dj[t]!):=hG1
                clear hG1
                go_wp2_with fail
                go_big_quiet (first | (go_at_call 67;refine Calls.quiet_of_same (u_less _ _ _)))
                go_wp2_with fail
                · have hl:=not_yes (show (!Sort.ltInt (G1 j) (G1 (j - 1)))=true by assumption)
                  have HD:Hid (dj=Sort.fixDown Sort.ltInt a k (Sort.swp dk k (k - 1))):=hid_mk (by rw [← hJ.out.2,shiftDown_stop Sort.ltInt j dj (Or.inr (by rw [← HG1.out,← HG1.out];exact hl))])
                  have SU:Hid (St w g off d dj (wr.drewN nq)):=hJ.out.1.drawn nq
                  generalize wr.drewN nq=W8 at SU ⊢
                  have HO2:Hid (Sort.partialIns Sort.ltInt a b (5 - (s+1)) k (Sort.fixUp Sort.ltInt b k dj)=Sort.partialIns Sort.ltInt a b 5 (a+1) d):=hid_mk (by rw [HD.out];exact HO1.out)
                  clear hJ HG1 hcw1 hfw1 HD HO1 hl
                  revert SU HO2
                  generalize dj=du
                  intro SU HO2
                  have hfu:Sort.fixUp Sort.ltInt b k du=du:=by unfold Sort.fixUp;rw [if_neg hbk]
                  rw [hfu] at HO2
                  clear hfu
                  go_roundw
                  case rel=>exact ⟨k,s+1,du,rfl,by go_num,by omega,by omega,by omega,SU.out,HO2.out⟩
                  case measure=>simp [intOf];omega
                · have hl:=not_no (show (!Sort.ltInt (G1 j) (G1 (j - 1)))=false by assumption)
                  have S4:Hid (St w g off d (Sort.swp dj j (j - 1)) ((((wr.drewN nq).setCell ⟨g,off+j,none⟩ (.int .u64 (G1 (j - 1)))).setCell ⟨g,off+(j - 1),none⟩ (.int .u64 (G1 j))).drew)∧Sort.shiftDown Sort.ltInt (j - 1) (Sort.swp dj j (j - 1))=Sort.fixDown Sort.ltInt a k (Sort.swp dk k (k - 1))) :=
                   ⟨hJ.out.1.swap H0.out hg HG1.out (by rw [HN.out];omega) (by rw [HN.out];omega) (nq+1),by rw [← hJ.out.2,shiftDown_go Sort.ltInt j dj hj1 (by rw [← HG1.out,← HG1.out];exact hl)]⟩
                  have hcw3:∀ t,t < n→(wr.drewN nq).cell? ⟨g,off+t,none⟩=some (.int .u64 (G1 t)):=hcw1
                  have hfw3:∀ t,t < n→(wr.drewN nq).frozen? ⟨g,off+t,none⟩=false:=hfw1
                  obtain ⟨y3,hy3⟩:=cell?_setCell_some (w:=wr.drewN nq) (p:=⟨g,off+j,none⟩) (x:=.int .u64 (G1 (j - 1))) (q:=⟨g,off+(j - 1),none⟩) (hcw3 _ (by omega))
                  clear hJ HG1 hcw1 hfw1
                  generalize wr.drewN nq=W9 at S4 hcw3 hfw3 hy3 ⊢
                  go_region
                  go_wp2_with fail
                  go_roundw
                  case rel=>exact ⟨j - 1,_,by go_num,by omega,S4.out⟩
                  case measure=>simp [intOf];omega
              · have hj1z:decide (1≤(j:Int))=false:=df (by omega)
                have HD:Hid (dj=Sort.fixDown Sort.ltInt a k (Sort.swp dk k (k - 1))):=hid_mk (by rw [← hJ.out.2,shiftDown_stop Sort.ltInt j dj (Or.inl (by omega))])
                have SU:Hid (St w g off d dj wr):=hJ.out.1
                have HO2:Hid (Sort.partialIns Sort.ltInt a b (5 - (s+1)) k (Sort.fixUp Sort.ltInt b k dj)=Sort.partialIns Sort.ltInt a b 5 (a+1) d):=hid_mk (by rw [HD.out];exact HO1.out)
                clear hJ HD HO1
                revert SU HO2
                generalize dj=du
                intro SU HO2
                have hfu:Sort.fixUp Sort.ltInt b k du=du:=by unfold Sort.fixUp;rw [if_neg hbk]
                rw [hfu] at HO2
                clear hfu
                go_wp2_with fail
                go_roundw
                case rel=>exact ⟨k,s+1,du,rfl,by go_num,by omega,by omega,by omega,SU.out,HO2.out⟩
                case measure=>simp [intOf];omega
           · have hkaz:decide (2≤(k:Int) - (a:Int))=false:=df (by omega)
             have hfd:Sort.fixDown Sort.ltInt a k (Sort.swp dk k (k - 1))=Sort.swp dk k (k - 1):=by unfold Sort.fixDown;rw [if_neg hka]
             rw [hfd] at HO1
             clear hfd
             obtain ⟨du,hdu⟩:∃ z,Sort.swp dk k (k - 1)=z:=⟨_,rfl⟩
             rw [hdu] at HO1 S3
             clear hdu
             have SU:=S3
             have HO2:=HO1
             clear S3 HO1
             have hfu:Sort.fixUp Sort.ltInt b k du=du:=by unfold Sort.fixUp;rw [if_neg hbk]
             rw [hfu] at HO2
             clear hfu
             go_wp2_with fail
             go_roundw
             case rel=>exact ⟨k,s+1,du,rfl,by go_num,by omega,by omega,by omega,SU.out,HO2.out⟩
             case measure=>simp [intOf];omega
     · obtain rfl:k=b:=by omega
       have HK:Hid (Sort.scanSorted Sort.ltInt dk k i=k):=hid_mk (by rw [← hK.out.2,scanSorted_stop Sort.ltInt dk k k (Or.inl hlt)])
       have HR1:Hid (R=(dk,true)):=hid_mk (by rw [← HR0.out,← HO.out,pi_true Sort.ltInt a k s i dk hs HK.out])
       have hltz:decide ((k:Int) < (k:Int))=false:=df (by omega)
       go_wp2_with fail
       go_big_quiet (first | (go_at_call 67;refine Calls.quiet_of_same (u_less _ _ _)))
       have S5:Hid (St w g off d dk (wr.drewN nq)):=hK.out.1.drawn nq
       have hr1:=HR1.out
       subst hr1
       go_wp2_with fail
       go_ret
       exact ⟨rfl,S5.out⟩
  · have hs1:s=5:=by omega
    subst hs1
    have HR1:Hid (R=(dk,false)):=hid_mk (by rw [← HR0.out,← hS.out.2,pi_end])
    have S5:Hid (St w g off d dk wr):=hS.out.1
    clear hS
    have hr1:=HR1.out
    subst hr1
    go_wp2
    go_ret
    exact ⟨rfl,S5.out⟩
end Go.Proofs.YtlfjfendlohekaaGreatDoor
