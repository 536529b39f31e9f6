/-
  The library's heap sort of a row of words, at this program: the part of the row comes to rise, its words are the same ones; in whatever memory.
-/
import Derived.Test.YtdklpgphmoaniabGreatDoorSPartX
import Derived.Sort.WalkB3
import Derived.Test.YtdklpgphmoaniabGreatDoorMX
import Derived.Deep.RegionHeld3
import Derived.Deep.CutRange
namespace Go.Proofs.YtdklpgphmoaniabGreatDoor
open Go.RowKit
theorem hidd2 {p:Prop} (h:p):Hid p:=h
set_option maxHeartbeats 8000000 in
set_option maxRecDepth 100000 in
theorem u_sift (g off cap lo hi first n:Nat) (d:Array Int) (hn:d.size=n) (w:World) (hH:Sort.Holds (Value.int .u64) w g off d) (hg:g < w.heap.size) (hlo:lo≤hi) (hb:first+hi≤n) (hsz:n < 4611686018427387904) :
 Calls Tryz.prog 127 #[.slice (some ⟨g,off,none⟩) n cap,.int .i64 lo,.int .i64 hi,.int .i64 first] w fun e w' =>
  e=.returned (.tuple #[])∧St w g off d (Sort.siftDown Sort.ltInt hi first lo d) w':=by
 have H0:Hid (Sort.Holds (Value.int .u64) w g off d):=hH
 have HN:Hid (d.size=n):=hn
 clear hH hn
 go_enter Tryz.func127,Tryz.ntmps127
 go_wp2
 go_loopw [8] (fun v8 wr=>∃ (root:Nat) (dk:Array Int),v8=.int .i64 root∧root≤hi∧Hid (St w g off d dk wr∧Sort.siftDown Sort.ltInt hi first root dk=Sort.siftDown Sort.ltInt hi first lo d)) (fun v8 _=>hi - (intOf v8).toNat)
 case atStart=>exact ⟨lo,d,rfl,hlo,St.refl H0.out,rfl⟩
 case round =>
  obtain ⟨root,dk,rfl,hr,hS⟩:=hrel
  by_cases h0:hi≤2*root+1
  · have h0z:(hi:Int)≤2*(root:Int)+1:=by omega
    have HR:Hid (St w g off d (Sort.siftDown Sort.ltInt hi first lo d) wr):=by
     refine hid_mk ?_
     rw [← hS.out.2,Sort.sd_end _ _ h0];exact hS.out.1
    clear hS
    go_wp2
    go_end0
    exact ⟨rfl,HR.out⟩
  · have h0z:¬ ((hi:Int)≤2*(root:Int)+1):=by omega
    obtain ⟨G,hG,hcw,hfw⟩:=hS.out.1.fam H0.out hg
    rw [HN.out] at hcw hfw
    have HG:Hid (∀ t,G t=dk[t]!):=hG
    have hds:Hid (dk.size=n):=by refine hid_mk ?_;rw [hS.out.1.1,HN.out]
    have stay:Hid (Sort.siftDown Sort.ltInt hi first root dk=dk→∀ q q',St w g off d (Sort.siftDown Sort.ltInt hi first lo d) ((wr.drewN q).drewN q')):=fun e q q'=>by
     rw [← hS.out.2,e];exact (hS.out.1.drawn q).drawn q'
    have hop:Hid (∀ c,c < hi→Sort.siftDown Sort.ltInt hi first root dk=Sort.siftDown Sort.ltInt hi first c (Sort.swp dk (first+root) (first+c))→∀ q q',
     St w g off d (Sort.swp dk (first+root) (first+c)) (((((wr.drewN q).drewN q')).setCell ⟨g,off+(first+root),none⟩ (.int .u64 (G (first+c)))).setCell ⟨g,off+(first+c),none⟩ (.int .u64 (G (first+root)))).drew ∧
     Sort.siftDown Sort.ltInt hi first c (Sort.swp dk (first+root) (first+c))=Sort.siftDown Sort.ltInt hi first lo d):=fun c hc e q q' =>
     ⟨(hS.out.1.drawn q).swap H0.out hg hG (by rw [HN.out];omega) (by rw [HN.out];omega) (q'+1),by rw [← e];exact hS.out.2⟩
    clear hG hS
    by_cases h1:2*root+2 < hi
    · have h1z:2*(root:Int)+1+1 < (hi:Int):=by omega
      go_wp2_with fail
      go_big_quiet (first | (go_at_call 110;refine Calls.quiet_of_same (u_less _ _ _)))
      go_wp2_with fail
      · have hL:Sort.ltInt (G (first+(2*root+1))) (G (first+(2*root+2)))=true:=by assumption
        revert nq;intro nq1
        have hcw2:∀ t,t < n→(wr.drewN nq1).cell? ⟨g,off+t,none⟩=some (.int .u64 (G t)):=hcw
        have hfw2:∀ t,t < n→(wr.drewN nq1).frozen? ⟨g,off+t,none⟩=false:=hfw
        have stay2:Hid _:=fun e=>stay.out e nq1
        have hop2:Hid _:=fun c h e=>hop.out c h e nq1
        clear hcw hfw stay hop
        generalize wr.drewN nq1=wr2 at hcw2 hfw2 stay2 hop2 ⊢
        go_big_quiet (first | (go_at_call 110;refine Calls.quiet_of_same (u_less _ _ _)))
        go_wp2_with fail
        · have hS:=not_yes (show (!Sort.ltInt (G (first+root)) (G (first+(2*root+2))))=true by assumption)
          have HR:=hidd2 (stay2.out (Sort.sd_right_stop _ _ h1 (by rw [← HG.out,← HG.out];exact hL) (by rw [← HG.out,← HG.out];exact hS)) nq)
          clear stay2 hop2
          (try simp only [Exit.inBlock,Exit.then]);refine bodyPost_ret (results_none rfl _ _ _) rfl ?_
          exact ⟨rfl,HR.out⟩
        · have hS:=not_no (show (!Sort.ltInt (G (first+root)) (G (first+(2*root+2))))=false by assumption)
          have HR:=hidd2 (hop2.out (2*root+2) (by omega) (Sort.sd_right_go _ _ h1 (by rw [← HG.out,← HG.out];exact hL) (by rw [← HG.out,← HG.out];exact hS)) nq)
          obtain ⟨y3,hy3⟩:=cell?_setCell_some (w:=wr2.drewN nq) (p:=⟨g,off+(first+root),none⟩) (x:=.int .u64 (G (first+(2*root+2)))) (q:=⟨g,off+(first+(2*root+2)),none⟩) (hcw2 _ (by omega))
          have hcw3:∀ t,t < n→(wr2.drewN nq).cell? ⟨g,off+t,none⟩=some (.int .u64 (G t)):=hcw2
          have hfw3:∀ t,t < n→(wr2.drewN nq).frozen? ⟨g,off+t,none⟩=false:=hfw2
          clear stay2 hop2 hcw2 hfw2
          generalize wr2.drewN nq=wr3 at HR hcw3 hfw3 hy3 ⊢
          go_region
          go_wp2_with fail
          go_roundw
          case rel=>exact ⟨2*root+2,_,by simp <;>omega,by omega,HR.out⟩
          case measure=>simp [intOf];omega
      · have hL:Sort.ltInt (G (first+(2*root+1))) (G (first+(2*root+2)))=false:=by assumption
        revert nq;intro nq1
        have hcw2:∀ t,t < n→(wr.drewN nq1).cell? ⟨g,off+t,none⟩=some (.int .u64 (G t)):=hcw
        have hfw2:∀ t,t < n→(wr.drewN nq1).frozen? ⟨g,off+t,none⟩=false:=hfw
        have stay2:Hid _:=fun e=>stay.out e nq1
        have hop2:Hid _:=fun c h e=>hop.out c h e nq1
        clear hcw hfw stay hop
        generalize wr.drewN nq1=wr2 at hcw2 hfw2 stay2 hop2 ⊢
        go_big_quiet (first | (go_at_call 110;refine Calls.quiet_of_same (u_less _ _ _)))
        go_wp2_with fail
        · have hS:=not_yes (show (!Sort.ltInt (G (first+root)) (G (first+(2*root+1))))=true by assumption)
          have HR:=hidd2 (stay2.out (Sort.sd_left_stop _ _ (by omega) (fun _=>(by rw [← HG.out,← HG.out];exact hL)) (by rw [← HG.out,← HG.out];exact hS)) nq)
          clear stay2 hop2
          (try simp only [Exit.inBlock,Exit.then]);refine bodyPost_ret (results_none rfl _ _ _) rfl ?_
          exact ⟨rfl,HR.out⟩
        · have hS:=not_no (show (!Sort.ltInt (G (first+root)) (G (first+(2*root+1))))=false by assumption)
          have HR:=hidd2 (hop2.out (2*root+1) (by omega) (Sort.sd_left_go _ _ (by omega) (fun _=>(by rw [← HG.out,← HG.out];exact hL)) (by rw [← HG.out,← HG.out];exact hS)) nq)
          obtain ⟨y3,hy3⟩:=cell?_setCell_some (w:=wr2.drewN nq) (p:=⟨g,off+(first+root),none⟩) (x:=.int .u64 (G (first+(2*root+1)))) (q:=⟨g,off+(first+(2*root+1)),none⟩) (hcw2 _ (by omega))
          have hcw3:∀ t,t < n→(wr2.drewN nq).cell? ⟨g,off+t,none⟩=some (.int .u64 (G t)):=hcw2
          have hfw3:∀ t,t < n→(wr2.drewN nq).frozen? ⟨g,off+t,none⟩=false:=hfw2
          clear stay2 hop2 hcw2 hfw2
          generalize wr2.drewN nq=wr3 at HR hcw3 hfw3 hy3 ⊢
          go_region
          go_wp2_with fail
          go_roundw
          case rel=>exact ⟨2*root+1,_,by simp <;>omega,by omega,HR.out⟩
          case measure=>simp [intOf];omega
    · have h1z:decide (2*(root:Int)+1+1 < (hi:Int))=false:=df (by omega)
      go_wp2_with fail
      go_big_quiet (first | (go_at_call 110;refine Calls.quiet_of_same (u_less _ _ _)))
      go_wp2_with fail
      revert nq;intro nq1
      have hcw2:∀ t,t < n→(wr.drewN nq1).cell? ⟨g,off+t,none⟩=some (.int .u64 (G t)):=hcw
      have hfw2:∀ t,t < n→(wr.drewN nq1).frozen? ⟨g,off+t,none⟩=false:=hfw
      have stay2:Hid _:=fun e=>stay.out e nq1
      have hop2:Hid _:=fun c h e=>hop.out c h e nq1
      clear hcw hfw stay hop
      generalize wr.drewN nq1=wr2 at hcw2 hfw2 stay2 hop2 ⊢
      go_big_quiet (first | (go_at_call 110;refine Calls.quiet_of_same (u_less _ _ _)))
      go_wp2_with fail
      · have hS:=not_yes (show (!Sort.ltInt (G (first+root)) (G (first+(2*root+1))))=true by assumption)
        have HR:=hidd2 (stay2.out (Sort.sd_left_stop _ _ (by omega) (fun h=>absurd h h1) (by rw [← HG.out,← HG.out];exact hS)) nq)
        clear stay2 hop2
        (try simp only [Exit.inBlock,Exit.then]);refine bodyPost_ret (results_none rfl _ _ _) rfl ?_
        exact ⟨rfl,HR.out⟩
      · have hS:=not_no (show (!Sort.ltInt (G (first+root)) (G (first+(2*root+1))))=false by assumption)
        have HR:=hidd2 (hop2.out (2*root+1) (by omega) (Sort.sd_left_go _ _ (by omega) (fun h=>absurd h h1) (by rw [← HG.out,← HG.out];exact hS)) nq)
        obtain ⟨y3,hy3⟩:=cell?_setCell_some (w:=wr2.drewN nq) (p:=⟨g,off+(first+root),none⟩) (x:=.int .u64 (G (first+(2*root+1)))) (q:=⟨g,off+(first+(2*root+1)),none⟩) (hcw2 _ (by omega))
        have hcw3:∀ t,t < n→(wr2.drewN nq).cell? ⟨g,off+t,none⟩=some (.int .u64 (G t)):=hcw2
        have hfw3:∀ t,t < n→(wr2.drewN nq).frozen? ⟨g,off+t,none⟩=false:=hfw2
        clear stay2 hop2 hcw2 hfw2
        generalize wr2.drewN nq=wr3 at HR hcw3 hfw3 hy3 ⊢
        go_region
        go_wp2_with fail
        go_roundw
        case rel=>exact ⟨2*root+1,_,by simp <;>omega,by omega,HR.out⟩
        case measure=>simp [intOf];omega
set_option maxHeartbeats 8000000 in
set_option maxRecDepth 100000 in
theorem u_heap (g off cap a b n:Nat) (d:Array Int) (hn:d.size=n) (w:World) (hH:Sort.Holds (Value.int .u64) w g off d) (hg:g < w.heap.size) (hab:a≤b) (hb:b≤n) (hsz:n < 4611686018427387904) :
 Calls Tryz.prog 105 #[.slice (some ⟨g,off,none⟩) n cap,.int .i64 a,.int .i64 b] w fun e w' =>
  e=.returned (.tuple #[])∧∃ d',Sort.PermIn a b d d'∧Sort.SortedIn Sort.ltInt a b d'∧St w g off d d' w':=by
 have HZ:=Sort.heapSort_holds Sort.swo_ltInt d a b hab (by omega)
 suffices h:Calls Tryz.prog 105 #[.slice (some ⟨g,off,none⟩) n cap,.int .i64 a,.int .i64 b] w fun e w'=>e=.returned (.tuple #[])∧St w g off d (Sort.heapSort Sort.ltInt d a b) w' from
  h.mono fun e w' ⟨he,hs⟩=>⟨he,_,HZ.1,HZ.2,hs⟩
 clear HZ
 have H0:Hid (Sort.Holds (Value.int .u64) w g off d):=hH
 have HN:Hid (d.size=n):=hn
 have S0:Hid (St w g off d d w):=St.refl hH
 clear hH hn
 have ecast:(b:Int) - (a:Int)=((b - a:Nat):Int):=by omega
 have est:((b:Int) - (a:Int) - 1).tdiv 2=(((b - a - 1) / 2+1:Nat):Int) - 1:=half_start hab
 obtain ⟨m,hm⟩:∃ m,b - a=m:=⟨_,rfl⟩
 obtain ⟨hf,hhf⟩:∃ hf,(b - a - 1) / 2+1=hf:=⟨_,rfl⟩
 have hHS:Hid (Sort.heapSort Sort.ltInt d a b=Sort.heapPop Sort.ltInt a m (Sort.heapBuild Sort.ltInt m a hf d)):=by
  refine hid_mk ?_
  unfold Sort.heapSort
  rw [hm,← hhf,hm]
 rw [hm] at ecast
 rw [hhf,ecast] at est
 have hfm:hf≤m+1:=by omega
 have ham:a+m≤n:=by omega
 have hfm2:hf≤m∨m=0∧hf=1:=by omega
 have EC:Hid _:=ecast
 have ES:Hid _:=est
 clear hm hhf ecast est
 go_enter Tryz.func105,Tryz.ntmps105
 go_wp2_with fail
 rw [EC.out,ES.out]
 go_loopw [9] (fun v9 wr=>∃ (k:Nat) (dk:Array Int),v9=.int .i64 ((k:Int) - 1)∧k≤hf∧Hid (St w g off d dk wr∧Sort.heapBuild Sort.ltInt m a k dk=Sort.heapBuild Sort.ltInt m a hf d)) (fun v9 _=>(intOf v9+1).toNat)
 case atStart=>exact ⟨hf,d,rfl,Nat.le_refl _,S0.out,rfl⟩
 case round =>
  obtain ⟨k,dk,rfl,hk,hS⟩:=hrel
  cases k with
  | zero =>
   have hB:Hid (dk=Sort.heapBuild Sort.ltInt m a hf d):=hS.out.2
   have S1:Hid (St w g off d dk wr):=hS.out.1
   clear hS
   rw [show (((0:Nat):Int) - 1)= -1 from rfl]
   go_wp2_with fail
   go_loopw [10] (fun v10 w2=>∃ (k:Nat) (dj:Array Int),v10=.int .i64 ((k:Int) - 1)∧k≤m∧Hid (St w g off d dj w2∧Sort.heapPop Sort.ltInt a k dj=Sort.heapPop Sort.ltInt a m dk)) (fun v10 _=>(intOf v10+1).toNat)
   case atStart=>exact ⟨m,dk,rfl,Nat.le_refl _,S1.out,rfl⟩
   case round =>
    clear S1
    obtain ⟨k,dj,rfl,hk,hS⟩:=hrel
    cases k with
    | zero =>
     have HR:Hid (St w g off d (Sort.heapSort Sort.ltInt d a b) wr):=by
      refine hid_mk ?_
      rw [hHS.out,← hB.out,← hS.out.2];exact hS.out.1
     clear hS
     go_wp2_with fail
     go_end0
     exact ⟨rfl,HR.out⟩
    | succ k =>
     obtain ⟨G,hG,hcw,hfw⟩:=hS.out.1.fam H0.out hg
     rw [HN.out] at hcw hfw
     have hds:Hid (dj.size=n):=by refine hid_mk ?_;rw [hS.out.1.1,HN.out]
     have S2:Hid (St w g off d (Sort.swp dj a (a+k)) (((wr.setCell ⟨g,off+a,none⟩ (.int .u64 (G (a+k)))).setCell ⟨g,off+(a+k),none⟩ (.int .u64 (G a)))).drew):=hS.out.1.swap H0.out hg hG (by rw [HN.out];omega) (by rw [HN.out];omega) 1
     have hPop:Hid (Sort.heapPop Sort.ltInt a k (Sort.siftDown Sort.ltInt k a 0 (Sort.swp dj a (a+k)))=Sort.heapPop Sort.ltInt a m dk):=hS.out.2
     obtain ⟨y3,hy3⟩:=cell?_setCell_some (w:=wr) (p:=⟨g,off+a,none⟩) (x:=.int .u64 (G (a+k))) (q:=⟨g,off+(a+k),none⟩) (hcw _ (by omega))
     clear hG hS
     rcases Nat.eq_zero_or_pos k with hk0 | hkp
     · subst hk0
       go_wp2_with fail
       go_region
       go_wp2_with fail
       have S3:=S2
       generalize ((wr.setCell ⟨g,off+a,none⟩ _).setCell ⟨g,off+_,none⟩ _).drew=wr3 at S3 ⊢
       refine (u_sift g off cap 0 0 a n (Sort.swp dj a (a+0)) (by rw [Sort.size_swp];exact hds.out) wr3 (S3.out.hold H0.out hg).1 (S3.out.hold H0.out hg).2 (Nat.zero_le _) (by omega) hsz).mono ?_
       rintro e w1 ⟨rfl,h4⟩
       have HR:Hid (St w g off d (Sort.siftDown Sort.ltInt 0 a 0 (Sort.swp dj a (a+0))) w1):=S3.out.trans hg h4
       clear h4 S2 S3 hcw hfw hy3
       go_wp2_with fail
       go_roundw
       case rel=>exact ⟨0,_,by simp,by omega,HR.out,hPop.out⟩
       case measure=>simp [intOf]
     · go_wp2_with fail
       go_region
       go_wp2_with fail
       have S3:=S2
       generalize ((wr.setCell ⟨g,off+a,none⟩ _).setCell ⟨g,off+_,none⟩ _).drew=wr3 at S3 ⊢
       refine (u_sift g off cap 0 k a n (Sort.swp dj a (a+k)) (by rw [Sort.size_swp];exact hds.out) wr3 (S3.out.hold H0.out hg).1 (S3.out.hold H0.out hg).2 (Nat.zero_le _) (by omega) hsz).mono ?_
       rintro e w1 ⟨rfl,h4⟩
       have HR:Hid (St w g off d (Sort.siftDown Sort.ltInt k a 0 (Sort.swp dj a (a+k))) w1):=S3.out.trans hg h4
       clear h4 S2 S3 hcw hfw hy3
       go_wp2_with fail
       go_roundw
       case rel=>exact ⟨k,_,by simp,by omega,HR.out,hPop.out⟩
       case measure=>simp [intOf]
  | succ k =>
   go_wp2_with fail
   refine (u_sift g off cap k m a n dk (by rw [hS.out.1.1,HN.out]) wr (hS.out.1.hold H0.out hg).1 (hS.out.1.hold H0.out hg).2 (by omega) (by omega) hsz).mono ?_
   rintro e w1 ⟨rfl,h4⟩
   have HR:Hid (St w g off d (Sort.siftDown Sort.ltInt m a k dk) w1):=hS.out.1.trans hg h4
   have HB:Hid (Sort.heapBuild Sort.ltInt m a k (Sort.siftDown Sort.ltInt m a k dk)=Sort.heapBuild Sort.ltInt m a hf d):=hS.out.2
   clear h4 hS
   go_wp2_with fail
   go_roundw
   case rel=>exact ⟨k,_,by simp,by omega,HR.out,HB.out⟩
   case measure=>simp [intOf]
end Go.Proofs.YtdklpgphmoaniabGreatDoor
namespace Go.Proofs.YtdklpgphmoaniabGreatDoor
section
open Go
def U64 (w:Int):Prop:=0≤w∧w < 18446744073709551616
theorem nat_with (w d k:Nat) (hw:w < 2^64) (hd:d < 8) (hk:k+3≤64):(w &&& (2^64 - 1 - 7*2^k)) ||| (d*2^k)=2^(k+3)*(w / 2^(k+3))+(2^k*d+w%2^k):=by
 have hp:(2:Nat)^(k+3)=2^k*8:=by rw [Nat.pow_add]
 have h7:7*2^k < 2^64:=by
  have h1:(2:Nat)^(k+3)≤2^64:=Nat.pow_le_pow_right (by omega) hk
  have h2:0 < (2:Nat)^k:=Nat.pow_pos (by omega)
  omega
 have hr:2^k*d+w%2^k < 2^(k+3):=by
  have h1:w%2^k < 2^k:=Nat.mod_lt _ (Nat.pow_pos (by omega))
  have h2:2^k*d≤2^k*7:=Nat.mul_le_mul_left _ (by omega)
  omega
 apply Nat.eq_of_testBit_eq
 intro i
 rw [Nat.testBit_or,Nat.testBit_and,show 2^64 - 1 - 7*2^k=2^64 - (7*2^k+1) by omega,Nat.testBit_two_pow_sub_succ h7,Nat.testBit_two_pow_mul_add _ hr,
  Nat.testBit_mul_two_pow,Nat.testBit_mul_two_pow,Nat.testBit_div_two_pow]
 by_cases h1:i < k
 · have e1:decide (k≤i)=false:=by simp;omega
   have e2:i < k+3:=by omega
   have e3:decide (i < 64)=true:=by simp;omega
   rw [if_pos e2,e1,e3,Nat.testBit_two_pow_mul_add _ (Nat.mod_lt _ (Nat.pow_pos (by omega))),if_pos h1,Nat.testBit_mod_two_pow]
   simp [h1]
 · have e1:decide (k≤i)=true:=by simp;omega
   rw [e1]
   by_cases h2:i < k+3
   · have e3:decide (i < 64)=true:=by simp;omega
     rw [if_pos h2,e3,Nat.testBit_two_pow_mul_add _ (Nat.mod_lt _ (Nat.pow_pos (by omega))),if_neg h1]
     have:i - k=0∨i - k=1∨i - k=2:=by omega
     rcases this with e | e | e <;>rw [e] <;>simp [show Nat.testBit 7 0=true from rfl,show Nat.testBit 7 1=true from rfl,show Nat.testBit 7 2=true from rfl]
   · rw [if_neg h2,show i - (k+3)+(k+3)=i by omega]
     have e5:Nat.testBit 7 (i - k)=false:=by
      exact Nat.testBit_lt_two_pow (Nat.lt_of_lt_of_le (show 7 < 2^3 by decide) (Nat.pow_le_pow_right (by omega) (by omega)))
     have e6:Nat.testBit d (i - k)=false:=by
      exact Nat.testBit_lt_two_pow (Nat.lt_of_lt_of_le (show d < 2^3 by omega) (Nat.pow_le_pow_right (by omega) (by omega)))
     rw [e5,e6]
     by_cases h64:i < 64
     · simp [h64]
     · have:Nat.testBit w i=false:=by
        exact Nat.testBit_lt_two_pow (Nat.lt_of_lt_of_le hw (Nat.pow_le_pow_right (by omega) (by omega)))
       simp [this]
theorem pow_split (k:Nat):(2:Nat)^(k+3)=2^k*8:=by rw [Nat.pow_add]
theorem nat_set (w d k:Nat):2^(k+3)*(w / 2^(k+3))+(2^k*d+w%2^k)+w / 2^k%8*2^k=w+d*2^k:=by
 have h1:=Nat.div_add_mod w (2^k)
 have h2:=Nat.div_add_mod (w / 2^k) 8
 rw [Nat.div_div_eq_div_mul,← pow_split] at h2
 have e:2^(k+3)*(w / 2^(k+3))=2^k*(8*(w / 2^(k+3))):=by rw [pow_split,Nat.mul_assoc]
 have e2:2^k*(w / 2^k)=2^k*(8*(w / 2^(k+3)))+2^k*(w / 2^k%8):=by rw [← Nat.mul_add,h2]
 rw [e,Nat.mul_comm (w / 2^k%8),Nat.mul_comm d]
 omega
theorem nat_or7 (p k:Nat) (hp:p < 2^64) (hk:k+3≤64) (h:p / 2^k%8=7):p ||| 7*2^k=p:=by
 have h1:=nat_with p 7 k hp (by omega) hk
 have h2:=nat_set p 7 k
 rw [h] at h2
 have e:(p &&& (2^64 - 1 - 7*2^k)) ||| (7*2^k)=p:=by omega
 rw [← e,Nat.or_assoc,Nat.or_self]
theorem int_pow (k:Nat):((2^k:Nat):Int)=(2:Int)^k:=by simp
theorem u64_with {w d p s x t:Int} {k:Nat} (hw:U64 w) (d0:0≤d) (d7:d≤7) (hk:k+3≤63) (hp:(2:Int)^k=p) (hs:7*p=s) (hx:bits .andNot .u64 w s=x) (ht:d*p=t) :
 bits .or .u64 x t=w - w / p%8*p+d*p:=by
 obtain ⟨w0,w1⟩:=hw
 obtain ⟨n,rfl⟩:=Int.eq_ofNat_of_zero_le w0
 obtain ⟨c,rfl⟩:=Int.eq_ofNat_of_zero_le d0
 have hle:(2:Nat)^(k+3)≤2^63:=Nat.pow_le_pow_right (by omega) hk
 have hps:=pow_split k
 rw [← int_pow] at hp
 subst hp
 have h64:(2:Nat)^64=18446744073709551616:=rfl
 have hc:c*2^k≤7*2^k:=Nat.mul_le_mul_right _ (by omega)
 have es:s=((7*2^k:Nat):Int):=by rw [← hs];simp
 have et:t=((c*2^k:Nat):Int):=by rw [← ht];simp
 subst es et
 rw [u64_andNot_nat n _ (by omega) (by omega)] at hx
 subst hx
 have hn:n &&& (18446744073709551615 - 7*2^k)≤n:=Nat.and_le_left
 rw [u64_or_nat _ _ (by omega) (by omega)]
 have h1:=nat_with n c k (by omega) (by omega) (by omega)
 rw [show 2^64 - 1 - 7*2^k=18446744073709551615 - 7*2^k by omega] at h1
 rw [h1]
 have h2:=nat_set n c k
 have e1:((n:Int) / ((2^k:Nat):Int)%8*((2^k:Nat):Int))=((n / 2^k%8*2^k:Nat):Int):=by simp
 have e2:((c:Int)*((2^k:Nat):Int))=((c*2^k:Nat):Int):=by simp
 rw [e1,e2]
 omega
theorem u64_or7 {p q s:Int} {k:Nat} (hw:U64 p) (hk:k+3≤63) (hp:(2:Int)^k=q) (hs:7*q=s) (h:p / q%8=7):bits .or .u64 p s=p:=by
 obtain ⟨w0,w1⟩:=hw
 obtain ⟨n,rfl⟩:=Int.eq_ofNat_of_zero_le w0
 have hle:(2:Nat)^(k+3)≤2^63:=Nat.pow_le_pow_right (by omega) hk
 have hps:=pow_split k
 rw [← int_pow] at hp
 subst hp
 have h64:(2:Nat)^64=18446744073709551616:=rfl
 have es:s=((7*2^k:Nat):Int):=by rw [← hs];simp
 subst es
 rw [u64_or_nat _ _ (by omega) (by omega),nat_or7 n k (by omega) (by omega)]
 have e1:((n:Int) / ((2^k:Nat):Int)%8)=((n / 2^k%8:Nat):Int):=by simp
 rw [e1] at h
 omega
theorem u64_join {x y p:Int} {i:Nat} (hx:U64 x) (hp:(2:Int)^i=p) (h0:x%p=0) (y0:0≤y) (y1:y < p) (y2:y < 18446744073709551616):bits .or .u64 x y=x+y:=by
 obtain ⟨x0,x1⟩:=hx
 obtain ⟨n,rfl⟩:=Int.eq_ofNat_of_zero_le x0
 obtain ⟨m,rfl⟩:=Int.eq_ofNat_of_zero_le y0
 rw [← int_pow] at hp
 subst hp
 rw [u64_or_nat n m (by omega) (by omega),nat_join i n m (by omega) (by omega)]
 simp
theorem u64_orc {x y:Int} (hx:U64 x) (hy:U64 y):bits .or .u64 x y=bits .or .u64 y x:=by
 obtain ⟨x0,x1⟩:=hx
 obtain ⟨y0,y1⟩:=hy
 rw [u64_or x y x0 x1 y0 y1,u64_or y x y0 y1 x0 x1,Nat.or_comm]
theorem u64_ora {x y z:Int} (hx:U64 x) (hy:U64 y) (hz:U64 z):bits .or .u64 (bits .or .u64 x y) z=bits .or .u64 x (bits .or .u64 y z):=by
 obtain ⟨x0,x1⟩:=hx
 obtain ⟨y0,y1⟩:=hy
 obtain ⟨z0,z1⟩:=hz
 obtain ⟨a,rfl⟩:=Int.eq_ofNat_of_zero_le x0
 obtain ⟨b,rfl⟩:=Int.eq_ofNat_of_zero_le y0
 obtain ⟨c,rfl⟩:=Int.eq_ofNat_of_zero_le z0
 have h1:a ||| b < 2^64:=Nat.or_lt_two_pow (by omega) (by omega)
 have h2:b ||| c < 2^64:=Nat.or_lt_two_pow (by omega) (by omega)
 rw [u64_or_nat a b (by omega) (by omega),u64_or_nat b c (by omega) (by omega),u64_or_nat _ c (by omega) (by omega),u64_or_nat a _ (by omega) (by omega),Nat.or_assoc]
theorem u64_or_box {x y:Int} (hx:U64 x) (hy:U64 y):U64 (bits .or .u64 x y):=by
 obtain ⟨x0,x1⟩:=hx
 obtain ⟨y0,y1⟩:=hy
 obtain ⟨a,rfl⟩:=Int.eq_ofNat_of_zero_le x0
 obtain ⟨b,rfl⟩:=Int.eq_ofNat_of_zero_le y0
 have h1:a ||| b < 2^64:=Nat.or_lt_two_pow (by omega) (by omega)
 rw [u64_or_nat a b (by omega) (by omega)]
 exact ⟨by omega,by omega⟩
theorem u64_xor_box {x y:Int} (hx:U64 x) (hy:U64 y):U64 (bits .xor .u64 x y):=by
 obtain ⟨x0,x1⟩:=hx
 obtain ⟨y0,y1⟩:=hy
 obtain ⟨a,rfl⟩:=Int.eq_ofNat_of_zero_le x0
 obtain ⟨b,rfl⟩:=Int.eq_ofNat_of_zero_le y0
 have h1:a ^^^ b < 2^64:=Nat.xor_lt_two_pow (by omega) (by omega)
 rw [u64_xor_nat a b (by omega) (by omega)]
 exact ⟨by omega,by omega⟩
theorem u64_mask (x:Int) (j:Nat) (hj:j < 64) (hx:U64 x):bits .and .u64 x ((2^j - 1:Nat):Int)=x%((2^j:Nat):Int):=by
 have hle:(2:Nat)^j≤2^63:=Nat.pow_le_pow_right (by omega) (by omega)
 obtain ⟨h0,h1⟩:=hx
 rw [u64_and x _ h0 h1 (by omega) (by omega)]
 obtain ⟨n,rfl⟩:=Int.eq_ofNat_of_zero_le h0
 simp only [Int.toNat_natCast]
 rw [Nat.and_two_pow_sub_one_eq_mod]
 simp
theorem umask3 (x:Int) (hx:U64 x):bits .and .u64 x 7=x%8:=by have:=u64_mask x 3 (by omega) hx;simpa using this
theorem umask4 (x:Int) (hx:U64 x):bits .and .u64 x 15=x%16:=by have:=u64_mask x 4 (by omega) hx;simpa using this
theorem umask10 (x:Int) (hx:U64 x):bits .and .u64 x 1023=x%1024:=by have:=u64_mask x 10 (by omega) hx;simpa using this
theorem u64_div {w p:Int} (h:U64 w) (hp:0 < p):U64 (w / p):=by
 obtain ⟨h0,h1⟩:=h
 refine ⟨Int.ediv_nonneg h0 (by omega),?_⟩
 have:=Int.ediv_le_self p h0
 omega
end
section
open Go.RowKit
set_option maxHeartbeats 400000 in
theorem wdigitAt (r D:Int) (h0:0≤r) (h1:r≤12) (hD:3*(12 - r)=D) (W:World) :
 Calls Tryz.prog 84 #[.int .i64 r] W fun e w'=>e=.returned (.int .i64 D)∧w'=W:=by
 go_enter Tryz.func84,Tryz.ntmps84
 go_wp2
 go_ret
 exact ⟨by subst hD;rfl,rfl⟩
end
section
open Go.RowKit
set_option maxHeartbeats 1000000 in
theorem wwith_core (w r d D p s x t y:Int) (d0:0≤d) (d7:d≤7) (hk:¬ D < 0) (hp:(2:Int)^min D.toNat 64=p)
 (DA:∀ W,Calls Tryz.prog 84 #[.int .i64 r] W fun e w'=>e=.returned (.int .i64 D)∧w'=W)
 (hs:IntKind.u64.wrap (7*p)=s) (hx:bits .andNot .u64 w s=x) (ht:IntKind.u64.wrap (d*p)=t) (hy:bits .or .u64 x t=y) (W:World) :
 Calls Tryz.prog 55 #[.int .u64 w,.int .i64 r,.int .i64 d] W fun e w'=>e=.returned (.int .u64 y)∧Below W.heap.size W w':=by
 replace DA:Hid _:=DA
 go_enter Tryz.func55,Tryz.ntmps55
 go_wp2
 go_quiet ((go_at_call 84;exact Calls.quiet_of_same (DA.out _)))
 go_wp2
 go_ret
 exact ⟨rfl,belowN (by go_grown) _⟩
end
section
open Go.RowKit
theorem whole_box {v:Int} (hv:Whole v):1152921504606846976≤v∧v < 2305843009213693952:=by
 have:=hv.1
 omega
theorem u64_wrap {n:Int} (h:U64 n):IntKind.u64.wrap n=n:=by
 obtain ⟨h0,h1⟩:=h
 simp [IntKind.wrap,IntKind.bits,IntKind.signed]
 omega
theorem pow8_box {r:Nat} (r1:1≤r) (r2:r≤12):(0:Int) < 8^(12 - r)∧(8:Int)^(12 - r)≤8589934592:=by
 rcases twelve r1 r2 with rfl | rfl | rfl | rfl | rfl | rfl | rfl | rfl | rfl | rfl | rfl | rfl <;>decide
theorem setD_box {v d:Int} {r:Nat} (hv:U64 v) (d0:0≤d) (d7:d≤7) (r1:1≤r) (r2:r≤12):U64 (setD v r d):=by
 have hp:=pow8_box r1 r2
 obtain ⟨h0,h1⟩:=hv
 unfold U64 setD dg
 rcases twelve r1 r2 with rfl | rfl | rfl | rfl | rfl | rfl | rfl | rfl | rfl | rfl | rfl | rfl <;>simp <;>omega
end
section
open Go.RowKit
theorem with_math {v d:Int} {r:Nat} (hv:U64 v) (d0:0≤d) (d7:d≤7) (r1:1≤r) (r2:r≤12) :
 bits .or .u64 (bits .andNot .u64 v (IntKind.u64.wrap (7*8^(12 - r)))) (IntKind.u64.wrap (d*8^(12 - r)))=setD v r d:=by
 have hp:=pow8_box r1 r2
 have hm:=mul_in (a:=d) (b:=8^(12 - r)) (A:=7) (B:=8589934592) (by omega) (by omega)
 have h0:0≤d*8^(12 - r):=Int.mul_nonneg d0 (by omega)
 rw [u64_wrap ⟨by omega,by omega⟩,u64_wrap ⟨h0,by omega⟩]
 exact u64_with (k:=3*(12 - r)) hv d0 d7 (by omega) (by rw [Int.pow_mul];rfl) rfl rfl rfl
theorem wwith (v d:Int) (hv:U64 v) (d0:0≤d) (d7:d≤7) (r:Nat) (r1:1≤r) (r2:r≤12) (W:World) :
 Calls Tryz.prog 55 #[.int .u64 v,.int .i64 (r:Int),.int .i64 d] W fun e w'=>e=.returned (.int .u64 (setD v r d))∧Below W.heap.size W w':=by
 have hp:(2:Int)^min (3*(12 - (r:Int))).toNat 64=8^(12 - r):=by
  rw [show (3*(12 - (r:Int))).toNat=3*(12 - r) by omega,show min (3*(12 - r)) 64=3*(12 - r) by omega,Int.pow_mul];rfl
 exact wwith_core v r d (3*(12 - (r:Int))) _ _ _ _ _ d0 d7 (by omega) hp (wdigitAt r _ (by omega) (by omega) rfl) rfl rfl rfl (with_math hv d0 d7 r1 r2) W
end
section
open Go.RowKit
set_option maxHeartbeats 1000000 in
theorem wblank_core (r A B x1 y1 x2 y2 x3 y3 z:Int) (r0:0≤r) (r1:r≤12) (a0: -512≤A) (a1:A≤511) (b0: -512≤B) (b1:B≤511)
 (h1:IntKind.u64.wrap (r*72057594037927936)=x1) (k1:bits .or .u64 1152921504606846976 x1=y1)
 (h2:IntKind.u64.wrap ((A+512)*70368744177664)=x2) (k2:bits .or .u64 y1 x2=y2)
 (h3:IntKind.u64.wrap ((B+512)*68719476736)=x3) (k3:bits .or .u64 y2 x3=y3) (k4:bits .or .u64 y3 68719476735=z) (w:World) :
 Calls Tryz.prog 53 #[.int .i64 r,.agg #[.int .i64 A,.int .i64 B]] w fun e w'=>e=.returned (.int .u64 z)∧Below w.heap.size w w':=by
 go_enter Tryz.func53,Tryz.ntmps53
 go_wp2
 go_ret
 exact ⟨by first | rfl | skip,by go_grown⟩
end
end Go.Proofs.YtdklpgphmoaniabGreatDoor
