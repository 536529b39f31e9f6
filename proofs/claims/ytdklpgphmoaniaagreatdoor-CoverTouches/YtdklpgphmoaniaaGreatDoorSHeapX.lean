/-
  The library's heap sort of a row of words, at this program: the part of the row comes to rise, its words are the same ones; in whatever memory.
-/
import Derived.Test.YtdklpgphmoaniaaGreatDoorSPartX
import Derived.Sort.WalkB3
namespace Go.Proofs.YtdklpgphmoaniaaGreatDoor
open Go.RowKit
theorem hidd2 {p:Prop} (h:p):Hid p:=h
set_option maxHeartbeats 8000000 in
set_option maxRecDepth 100000 in
theorem u_sift (g off cap lo hi first n:Nat) (d:Array Int) (hn:d.size=n) (w:World) (hH:Sort.Holds (Value.int .u64) w g off d) (hg:g < w.heap.size) (hlo:lo≤hi) (hb:first+hi≤n) (hsz:n < 4611686018427387904) :
 Calls Tryz.prog 170 #[.slice (some ⟨g,off,none⟩) n cap,.int .i64 lo,.int .i64 hi,.int .i64 first] w fun e w' =>
  e=.returned (.tuple #[])∧St w g off d (Sort.siftDown Sort.ltInt hi first lo d) w':=by
 have H0:Hid (Sort.Holds (Value.int .u64) w g off d):=hH
 have HN:Hid (d.size=n):=hn
 clear hH hn
 go_enter Tryz.func170,Tryz.ntmps170
 go_wp2
 go_loopw [8] (fun v8 wr=>∃ (root:Nat) (dk:Array Int),v8=.int .i64 root∧root≤hi∧Hid (St w g off d dk wr∧Sort.siftDown Sort.ltInt hi first root dk=Sort.siftDown Sort.ltInt hi first lo d)) (fun v8 _=>hi - (intOf v8).toNat)
 case atStart=>exact ⟨lo,d,rfl,hlo,St.refl H0.out,rfl⟩
 case round =>
  obtain ⟨root,dk,rfl,hr,hS⟩:=hrel
  by_cases h0:hi≤2*root+1
  · have h0z:(hi:Int)≤2*(root:Int)+1:=by omega
    have HR:Hid (St w g off d (Sort.siftDown Sort.ltInt hi first lo d) wr):=by
     refine hid_mk ?_
     rw [← hS.out.2,Sort.sd_end _ _ h0];exact hS.out.1
    clear hS
    go_wp2
    go_end0
    exact ⟨rfl,HR.out⟩
  · have h0z:¬ ((hi:Int)≤2*(root:Int)+1):=by omega
    obtain ⟨G,hG,hcw,hfw⟩:=hS.out.1.fam H0.out hg
    rw [HN.out] at hcw hfw
    have HG:Hid (∀ t,G t=dk[t]!):=hG
    have hds:Hid (dk.size=n):=by refine hid_mk ?_;rw [hS.out.1.1,HN.out]
    have stay:Hid (Sort.siftDown Sort.ltInt hi first root dk=dk→∀ q q',St w g off d (Sort.siftDown Sort.ltInt hi first lo d) ((wr.drewN q).drewN q')):=fun e q q'=>by
     rw [← hS.out.2,e];exact (hS.out.1.drawn q).drawn q'
    have hop:Hid (∀ c,c < hi→Sort.siftDown Sort.ltInt hi first root dk=Sort.siftDown Sort.ltInt hi first c (Sort.swp dk (first+root) (first+c))→∀ q q',
     St w g off d (Sort.swp dk (first+root) (first+c)) (((((wr.drewN q).drewN q')).setCell ⟨g,off+(first+root),none⟩ (.int .u64 (G (first+c)))).setCell ⟨g,off+(first+c),none⟩ (.int .u64 (G (first+root)))).drew ∧
     Sort.siftDown Sort.ltInt hi first c (Sort.swp dk (first+root) (first+c))=Sort.siftDown Sort.ltInt hi first lo d):=fun c hc e q q' =>
     ⟨(hS.out.1.drawn q).swap H0.out hg hG (by rw [HN.out];omega) (by rw [HN.out];omega) (q'+1),by rw [← e];exact hS.out.2⟩
    clear hG hS
    by_cases h1:2*root+2 < hi
    · have h1z:2*(root:Int)+1+1 < (hi:Int):=by omega
      go_wp2_with fail
      go_big_quiet (first | (go_at_call 150;refine Calls.quiet_of_same (u_less _ _ _)))
      go_wp2_with fail
      · have hL:Sort.ltInt (G (first+(2*root+1))) (G (first+(2*root+2)))=true:=by assumption
        revert nq;intro nq1
        have hcw2:∀ t,t < n→(wr.drewN nq1).cell? ⟨g,off+t,none⟩=some (.int .u64 (G t)):=hcw
        have hfw2:∀ t,t < n→(wr.drewN nq1).frozen? ⟨g,off+t,none⟩=false:=hfw
        have stay2:Hid _:=fun e=>stay.out e nq1
        have hop2:Hid _:=fun c h e=>hop.out c h e nq1
        clear hcw hfw stay hop
        generalize wr.drewN nq1=wr2 at hcw2 hfw2 stay2 hop2 ⊢
        go_big_quiet (first | (go_at_call 150;refine Calls.quiet_of_same (u_less _ _ _)))
        go_wp2_with fail
        · have hS:=not_yes (show (!Sort.ltInt (G (first+root)) (G (first+(2*root+2))))=true by assumption)
          have HR:=hidd2 (stay2.out (Sort.sd_right_stop _ _ h1 (by rw [← HG.out,← HG.out];exact hL) (by rw [← HG.out,← HG.out];exact hS)) nq)
          clear stay2 hop2
          (try simp only [Exit.inBlock,Exit.then]);refine bodyPost_ret (results_none rfl _ _ _) rfl ?_
          exact ⟨rfl,HR.out⟩
        · have hS:=not_no (show (!Sort.ltInt (G (first+root)) (G (first+(2*root+2))))=false by assumption)
          have HR:=hidd2 (hop2.out (2*root+2) (by omega) (Sort.sd_right_go _ _ h1 (by rw [← HG.out,← HG.out];exact hL) (by rw [← HG.out,← HG.out];exact hS)) nq)
          obtain ⟨y3,hy3⟩:=cell?_setCell_some (w:=wr2.drewN nq) (p:=⟨g,off+(first+root),none⟩) (x:=.int .u64 (G (first+(2*root+2)))) (q:=⟨g,off+(first+(2*root+2)),none⟩) (hcw2 _ (by omega))
          have hcw3:∀ t,t < n→(wr2.drewN nq).cell? ⟨g,off+t,none⟩=some (.int .u64 (G t)):=hcw2
          have hfw3:∀ t,t < n→(wr2.drewN nq).frozen? ⟨g,off+t,none⟩=false:=hfw2
          clear stay2 hop2 hcw2 hfw2
          generalize wr2.drewN nq=wr3 at HR hcw3 hfw3 hy3 ⊢
          go_region
          go_wp2_with fail
          go_roundw
          case rel=>exact ⟨2*root+2,_,by simp <;>omega,by omega,HR.out⟩
          case measure=>simp [intOf];omega
      · have hL:Sort.ltInt (G (first+(2*root+1))) (G (first+(2*root+2)))=false:=by assumption
        revert nq;intro nq1
        have hcw2:∀ t,t < n→(wr.drewN nq1).cell? ⟨g,off+t,none⟩=some (.int .u64 (G t)):=hcw
        have hfw2:∀ t,t < n→(wr.drewN nq1).frozen? ⟨g,off+t,none⟩=false:=hfw
        have stay2:Hid _:=fun e=>stay.out e nq1
        have hop2:Hid _:=fun c h e=>hop.out c h e nq1
        clear hcw hfw stay hop
        generalize wr.drewN nq1=wr2 at hcw2 hfw2 stay2 hop2 ⊢
        go_big_quiet (first | (go_at_call 150;refine Calls.quiet_of_same (u_less _ _ _)))
        go_wp2_with fail
        · have hS:=not_yes (show (!Sort.ltInt (G (first+root)) (G (first+(2*root+1))))=true by assumption)
          have HR:=hidd2 (stay2.out (Sort.sd_left_stop _ _ (by omega) (fun _=>(by rw [← HG.out,← HG.out];exact hL)) (by rw [← HG.out,← HG.out];exact hS)) nq)
          clear stay2 hop2
          (try simp only [Exit.inBlock,Exit.then]);refine bodyPost_ret (results_none rfl _ _ _) rfl ?_
          exact ⟨rfl,HR.out⟩
        · have hS:=not_no (show (!Sort.ltInt (G (first+root)) (G (first+(2*root+1))))=false by assumption)
          have HR:=hidd2 (hop2.out (2*root+1) (by omega) (Sort.sd_left_go _ _ (by omega) (fun _=>(by rw [← HG.out,← HG.out];exact hL)) (by rw [← HG.out,← HG.out];exact hS)) nq)
          obtain ⟨y3,hy3⟩:=cell?_setCell_some (w:=wr2.drewN nq) (p:=⟨g,off+(first+root),none⟩) (x:=.int .u64 (G (first+(2*root+1)))) (q:=⟨g,off+(first+(2*root+1)),none⟩) (hcw2 _ (by omega))
          have hcw3:∀ t,t < n→(wr2.drewN nq).cell? ⟨g,off+t,none⟩=some (.int .u64 (G t)):=hcw2
          have hfw3:∀ t,t < n→(wr2.drewN nq).frozen? ⟨g,off+t,none⟩=false:=hfw2
          clear stay2 hop2 hcw2 hfw2
          generalize wr2.drewN nq=wr3 at HR hcw3 hfw3 hy3 ⊢
          go_region
          go_wp2_with fail
          go_roundw
          case rel=>exact ⟨2*root+1,_,by simp <;>omega,by omega,HR.out⟩
          case measure=>simp [intOf];omega
    · have h1z:decide (2*(root:Int)+1+1 < (hi:Int))=false:=df (by omega)
      go_wp2_with fail
      go_big_quiet (first | (go_at_call 150;refine Calls.quiet_of_same (u_less _ _ _)))
      go_wp2_with fail
      revert nq;intro nq1
      have hcw2:∀ t,t < n→(wr.drewN nq1).cell? ⟨g,off+t,none⟩=some (.int .u64 (G t)):=hcw
      have hfw2:∀ t,t < n→(wr.drewN nq1).frozen? ⟨g,off+t,none⟩=false:=hfw
      have stay2:Hid _:=fun e=>stay.out e nq1
      have hop2:Hid _:=fun c h e=>hop.out c h e nq1
      clear hcw hfw stay hop
      generalize wr.drewN nq1=wr2 at hcw2 hfw2 stay2 hop2 ⊢
      go_big_quiet (first | (go_at_call 150;refine Calls.quiet_of_same (u_less _ _ _)))
      go_wp2_with fail
      · have hS:=not_yes (show (!Sort.ltInt (G (first+root)) (G (first+(2*root+1))))=true by assumption)
        have HR:=hidd2 (stay2.out (Sort.sd_left_stop _ _ (by omega) (fun h=>absurd h h1) (by rw [← HG.out,← HG.out];exact hS)) nq)
        clear stay2 hop2
        (try simp only [Exit.inBlock,Exit.then]);refine bodyPost_ret (results_none rfl _ _ _) rfl ?_
        exact ⟨rfl,HR.out⟩
      · have hS:=not_no (show (!Sort.ltInt (G (first+root)) (G (first+(2*root+1))))=false by assumption)
        have HR:=hidd2 (hop2.out (2*root+1) (by omega) (Sort.sd_left_go _ _ (by omega) (fun h=>absurd h h1) (by rw [← HG.out,← HG.out];exact hS)) nq)
        obtain ⟨y3,hy3⟩:=cell?_setCell_some (w:=wr2.drewN nq) (p:=⟨g,off+(first+root),none⟩) (x:=.int .u64 (G (first+(2*root+1)))) (q:=⟨g,off+(first+(2*root+1)),none⟩) (hcw2 _ (by omega))
        have hcw3:∀ t,t < n→(wr2.drewN nq).cell? ⟨g,off+t,none⟩=some (.int .u64 (G t)):=hcw2
        have hfw3:∀ t,t < n→(wr2.drewN nq).frozen? ⟨g,off+t,none⟩=false:=hfw2
        clear stay2 hop2 hcw2 hfw2
        generalize wr2.drewN nq=wr3 at HR hcw3 hfw3 hy3 ⊢
        go_region
        go_wp2_with fail
        go_roundw
        case rel=>exact ⟨2*root+1,_,by simp <;>omega,by omega,HR.out⟩
        case measure=>simp [intOf];omega
set_option maxHeartbeats 8000000 in
set_option maxRecDepth 100000 in
theorem u_heap (g off cap a b n:Nat) (d:Array Int) (hn:d.size=n) (w:World) (hH:Sort.Holds (Value.int .u64) w g off d) (hg:g < w.heap.size) (hab:a≤b) (hb:b≤n) (hsz:n < 4611686018427387904) :
 Calls Tryz.prog 145 #[.slice (some ⟨g,off,none⟩) n cap,.int .i64 a,.int .i64 b] w fun e w' =>
  e=.returned (.tuple #[])∧∃ d',Sort.PermIn a b d d'∧Sort.SortedIn Sort.ltInt a b d'∧St w g off d d' w':=by
 have HZ:=Sort.heapSort_holds Sort.swo_ltInt d a b hab (by omega)
 suffices h:Calls Tryz.prog 145 #[.slice (some ⟨g,off,none⟩) n cap,.int .i64 a,.int .i64 b] w fun e w'=>e=.returned (.tuple #[])∧St w g off d (Sort.heapSort Sort.ltInt d a b) w' from
  h.mono fun e w' ⟨he,hs⟩=>⟨he,_,HZ.1,HZ.2,hs⟩
 clear HZ
 have H0:Hid (Sort.Holds (Value.int .u64) w g off d):=hH
 have HN:Hid (d.size=n):=hn
 have S0:Hid (St w g off d d w):=St.refl hH
 clear hH hn
 have ecast:(b:Int) - (a:Int)=((b - a:Nat):Int):=by omega
 have est:((b:Int) - (a:Int) - 1).tdiv 2=(((b - a - 1) / 2+1:Nat):Int) - 1:=half_start hab
 obtain ⟨m,hm⟩:∃ m,b - a=m:=⟨_,rfl⟩
 obtain ⟨hf,hhf⟩:∃ hf,(b - a - 1) / 2+1=hf:=⟨_,rfl⟩
 have hHS:Hid (Sort.heapSort Sort.ltInt d a b=Sort.heapPop Sort.ltInt a m (Sort.heapBuild Sort.ltInt m a hf d)):=by
  refine hid_mk ?_
  unfold Sort.heapSort
  rw [hm,← hhf,hm]
 rw [hm] at ecast
 rw [hhf,ecast] at est
 have hfm:hf≤m+1:=by omega
 have ham:a+m≤n:=by omega
 have hfm2:hf≤m∨m=0∧hf=1:=by omega
 have EC:Hid _:=ecast
 have ES:Hid _:=est
 clear hm hhf ecast est
 go_enter Tryz.func145,Tryz.ntmps145
 go_wp2_with fail
 rw [EC.out,ES.out]
 go_loopw [9] (fun v9 wr=>∃ (k:Nat) (dk:Array Int),v9=.int .i64 ((k:Int) - 1)∧k≤hf∧Hid (St w g off d dk wr∧Sort.heapBuild Sort.ltInt m a k dk=Sort.heapBuild Sort.ltInt m a hf d)) (fun v9 _=>(intOf v9+1).toNat)
 case atStart=>exact ⟨hf,d,rfl,Nat.le_refl _,S0.out,rfl⟩
 case round =>
  obtain ⟨k,dk,rfl,hk,hS⟩:=hrel
  cases k with
  | zero =>
   have hB:Hid (dk=Sort.heapBuild Sort.ltInt m a hf d):=hS.out.2
   have S1:Hid (St w g off d dk wr):=hS.out.1
   clear hS
   rw [show (((0:Nat):Int) - 1)= -1 from rfl]
   go_wp2_with fail
   go_loopw [10] (fun v10 w2=>∃ (k:Nat) (dj:Array Int),v10=.int .i64 ((k:Int) - 1)∧k≤m∧Hid (St w g off d dj w2∧Sort.heapPop Sort.ltInt a k dj=Sort.heapPop Sort.ltInt a m dk)) (fun v10 _=>(intOf v10+1).toNat)
   case atStart=>exact ⟨m,dk,rfl,Nat.le_refl _,S1.out,rfl⟩
   case round =>
    clear S1
    obtain ⟨k,dj,rfl,hk,hS⟩:=hrel
    cases k with
    | zero =>
     have HR:Hid (St w g off d (Sort.heapSort Sort.ltInt d a b) wr):=by
      refine hid_mk ?_
      rw [hHS.out,← hB.out,← hS.out.2];exact hS.out.1
     clear hS
     go_wp2_with fail
     go_end0
     exact ⟨rfl,HR.out⟩
    | succ k =>
     obtain ⟨G,hG,hcw,hfw⟩:=hS.out.1.fam H0.out hg
     rw [HN.out] at hcw hfw
     have hds:Hid (dj.size=n):=by refine hid_mk ?_;rw [hS.out.1.1,HN.out]
     have S2:Hid (St w g off d (Sort.swp dj a (a+k)) (((wr.setCell ⟨g,off+a,none⟩ (.int .u64 (G (a+k)))).setCell ⟨g,off+(a+k),none⟩ (.int .u64 (G a)))).drew):=hS.out.1.swap H0.out hg hG (by rw [HN.out];omega) (by rw [HN.out];omega) 1
     have hPop:Hid (Sort.heapPop Sort.ltInt a k (Sort.siftDown Sort.ltInt k a 0 (Sort.swp dj a (a+k)))=Sort.heapPop Sort.ltInt a m dk):=hS.out.2
     obtain ⟨y3,hy3⟩:=cell?_setCell_some (w:=wr) (p:=⟨g,off+a,none⟩) (x:=.int .u64 (G (a+k))) (q:=⟨g,off+(a+k),none⟩) (hcw _ (by omega))
     clear hG hS
     rcases Nat.eq_zero_or_pos k with hk0 | hkp
     · subst hk0
       go_wp2_with fail
       go_region
       go_wp2_with fail
       have S3:=S2
       generalize ((wr.setCell ⟨g,off+a,none⟩ _).setCell ⟨g,off+_,none⟩ _).drew=wr3 at S3 ⊢
       refine (u_sift g off cap 0 0 a n (Sort.swp dj a (a+0)) (by rw [Sort.size_swp];exact hds.out) wr3 (S3.out.hold H0.out hg).1 (S3.out.hold H0.out hg).2 (Nat.zero_le _) (by omega) hsz).mono ?_
       rintro e w1 ⟨rfl,h4⟩
       have HR:Hid (St w g off d (Sort.siftDown Sort.ltInt 0 a 0 (Sort.swp dj a (a+0))) w1):=S3.out.trans hg h4
       clear h4 S2 S3 hcw hfw hy3
       go_wp2_with fail
       go_roundw
       case rel=>exact ⟨0,_,by simp,by omega,HR.out,hPop.out⟩
       case measure=>simp [intOf]
     · go_wp2_with fail
       go_region
       go_wp2_with fail
       have S3:=S2
       generalize ((wr.setCell ⟨g,off+a,none⟩ _).setCell ⟨g,off+_,none⟩ _).drew=wr3 at S3 ⊢
       refine (u_sift g off cap 0 k a n (Sort.swp dj a (a+k)) (by rw [Sort.size_swp];exact hds.out) wr3 (S3.out.hold H0.out hg).1 (S3.out.hold H0.out hg).2 (Nat.zero_le _) (by omega) hsz).mono ?_
       rintro e w1 ⟨rfl,h4⟩
       have HR:Hid (St w g off d (Sort.siftDown Sort.ltInt k a 0 (Sort.swp dj a (a+k))) w1):=S3.out.trans hg h4
       clear h4 S2 S3 hcw hfw hy3
       go_wp2_with fail
       go_roundw
       case rel=>exact ⟨k,_,by simp,by omega,HR.out,hPop.out⟩
       case measure=>simp [intOf]
  | succ k =>
   go_wp2_with fail
   refine (u_sift g off cap k m a n dk (by rw [hS.out.1.1,HN.out]) wr (hS.out.1.hold H0.out hg).1 (hS.out.1.hold H0.out hg).2 (by omega) (by omega) hsz).mono ?_
   rintro e w1 ⟨rfl,h4⟩
   have HR:Hid (St w g off d (Sort.siftDown Sort.ltInt m a k dk) w1):=hS.out.1.trans hg h4
   have HB:Hid (Sort.heapBuild Sort.ltInt m a k (Sort.siftDown Sort.ltInt m a k dk)=Sort.heapBuild Sort.ltInt m a hf d):=hS.out.2
   clear h4 hS
   go_wp2_with fail
   go_roundw
   case rel=>exact ⟨k,_,by simp,by omega,HR.out,HB.out⟩
   case measure=>simp [intOf]
end Go.Proofs.YtdklpgphmoaniaaGreatDoor
